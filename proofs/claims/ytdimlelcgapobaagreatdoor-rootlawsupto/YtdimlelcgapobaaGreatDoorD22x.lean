/- dyad's placed, goesOut: what they answer. -/
import Derived.Test.YtdimlelcgapobaaGreatDoorZ8x
import Derived.Deep.RegionWith
import Derived.Deep.RegionHeld3
import Derived.Deep.CutRange
import Derived.Test.YtdimlelcgapobaaGreatDoorW33x
import Derived.BigQuiet
namespace Go.Proofs.YtdimlelcgapobaaGreatDoor
open Go.RowKit
set_option linter.unusedVariables false
set_option maxRecDepth 20000
set_option linter.unusedSimpArgs false

theorem small_ws {w : World} {p : Option Addr} {q F : Nat} (hF : F < 18446744073709551616) (hA : Arg w p (ws F).length q (ws F)) :
    Calls Tryz.prog 152 #[.slice p (ws F).length q] w fun r w' => r = .returned (.tuple #[.int .u64 (F : Nat), .int .i64 0]) ∧ w' = w := by
  have := small_any (ws F) p (ws F).length q w.heap.size w hA.len hA.cap (by have := hA.big; omega) hA.wf hA.rd
  rw [val_ws] at this
  unfold smallV at this
  rw [if_pos hF] at this
  exact this

theorem plc_facts (X : Nat) (e : Int) (hX : X ≠ 0) (he0 : -1048576 ≤ e) (he1 : e ≤ 1048576) :
    (plc 53 (-1074) 1024 X e).1 ≤ 9007199254740991 ∧ -1074 ≤ (plc 53 (-1074) 1024 X e).2.1 ∧ (plc 53 (-1074) 1024 X e).2.1 ≤ 971 ∧ ((plc 53 (-1074) 1024 X e).2.1 = -1074 ∨ 4503599627370496 ≤ (plc 53 (-1074) 1024 X e).1) := by
  have hb := bl_pos X hX
  have h1 := bl_lt X
  have h2 := bl_ge X hX
  have e53 : (2 : Nat) ^ 53 = 9007199254740992 := rfl
  have e52 : (2 : Nat) ^ 52 = 4503599627370496 := rfl
  unfold plc
  by_cases hf : 1024 < e + (bl X : Int)
  · rw [if_pos hf]
    refine ⟨by simp, by simp, by simp, .inr (by simp)⟩
  · rw [if_neg hf]
    simp only
    obtain ⟨ex, hex⟩ : ∃ ex, max (e + (bl X : Int) - ((53 : Nat) : Int)) (-1074) = ex := ⟨_, rfl⟩
    rw [hex]
    by_cases ho : ex - e ≤ 0
    · rw [if_pos ho]
      obtain ⟨k, hk⟩ : ∃ k : Nat, (-(ex - e)).toNat = k := ⟨_, rfl⟩
      rw [hk]
      have hub : X * 2 ^ k < 2 ^ (bl X + k) := by rw [Nat.pow_add]; exact Nat.mul_lt_mul_of_pos_right h1 (Nat.two_pow_pos k)
      have hm : 2 ^ (bl X + k) ≤ 2 ^ 53 := Nat.pow_le_pow_right (by omega) (by omega)
      refine ⟨by simp only; omega, by simp only; omega, by simp only; omega, ?_⟩
      by_cases hl : ex = -1074
      · exact .inl hl
      · right
        have hlb : 2 ^ (bl X - 1) * 2 ^ k ≤ X * 2 ^ k := Nat.mul_le_mul_right _ h2
        rw [← Nat.pow_add, show bl X - 1 + k = 52 by omega] at hlb
        simp only
        omega
    · rw [if_neg ho]
      obtain ⟨k, hk⟩ : ∃ k : Nat, (ex - e).toNat = k := ⟨_, rfl⟩
      rw [hk]
      have hub : X / 2 ^ k < 2 ^ 53 := by
        rw [Nat.div_lt_iff_lt_mul (Nat.two_pow_pos k), ← Nat.pow_add]
        exact Nat.lt_of_lt_of_le h1 (Nat.pow_le_pow_right (by omega) (by omega))
      refine ⟨by simp only; omega, by simp only; omega, by simp only; omega, ?_⟩
      by_cases hl : ex = -1074
      · exact .inl hl
      · right
        have hlb : 2 ^ 52 ≤ X / 2 ^ k := by
          rw [Nat.le_div_iff_mul_le (Nat.two_pow_pos k), ← Nat.pow_add, show 52 + k = bl X - 1 by omega]
          exact h2
        simp only
        omega

theorem shift_down (X : Nat) (k : Nat) (hX : X ≠ 0) (hl : bl X ≤ 262144) (h0 : 0 < k) : shiftS X (-(k : Int)) = (X / 2 ^ k, 0) := by
  unfold shiftS
  rw [if_neg (notLG hl), if_neg hX, if_pos (by omega), show (- -(k : Int)).toNat = k by omega]

theorem placed_any {w : World} {a : Option Addr} {l c : Nat} {X : Nat} (hA : Arg w a l c (ws X)) (n : Bool) (e : Int) (he0 : -1048576 ≤ e) (he1 : e ≤ 1048576) (hX : X ≠ 0) (hl : bl X ≤ 262144) :
    Calls Tryz.prog 114 #[.agg #[.bool n, .slice a l c, .int .i64 e], .agg #[.int .i64 53, .int .i64 (-1074), .int .i64 1024]] w fun r w' =>
      r = .returned (.agg #[.int .u64 ((plc 53 (-1074) 1024 X e).1 : Nat), .int .i64 (plc 53 (-1074) 1024 X e).2.1, .bool (plc 53 (-1074) 1024 X e).2.2.1, .int .i64 (plc 53 (-1074) 1024 X e).2.2.2]) ∧ Below w.heap.size w w' := by
  have pf := plc_facts X e hX he0 he1
  have HL : Hid (∀ u, Below w.heap.size w u → Calls Tryz.prog 82 #[.slice a l c] u fun r w' => r = .returned (.int .i64 (bl X : Nat)) ∧ w' = u) := by
    intro u hu
    have A := hA.below hu
    have := len_any (ws X) a l c u.heap.size u A.len A.cap (by have := A.big; omega) A.wf A.rd
    rw [val_ws] at this
    exact this
  have hb := bl_pos X hX
  by_cases hf : 1024 < e + (bl X : Int)
  · have hp : plc 53 (-1074) 1024 X e = (9007199254740991, 971, false, 1) := by unfold plc; rw [if_pos hf]; rfl
    rw [hp]
    exact placed_far64 n X e (bl X) he0 he1 hl hf HL
  · obtain ⟨ex, hex⟩ : ∃ ex, max (e + (bl X : Int) - 53) (-1074) = ex := ⟨_, rfl⟩
    obtain ⟨off, hof⟩ : ∃ off, ex - e = off := ⟨_, rfl⟩
    have hexb : -2000 ≤ ex ∧ ex ≤ 2000 := by omega
    have hp : plc 53 (-1074) 1024 X e = if off ≤ 0 then (X * 2 ^ (-off).toNat, ex, true, -1) else (X / 2 ^ off.toNat, ex, false, if off = 1 then 0 else if X / 2 ^ (off - 1).toNat % 2 = 1 then 1 else -1) := by
      unfold plc
      rw [if_neg hf]
      simp only
      rw [show ((53 : Nat) : Int) = 53 from rfl, hex, hof]
    obtain ⟨F, hFe⟩ : ∃ F, (plc 53 (-1074) 1024 X e).1 = F := ⟨_, rfl⟩
    have hF : F ≤ 9007199254740991 := by rw [← hFe]; exact pf.1
    have lF : (ws F).length ≤ 100 := by have := ws_len_bl F; have := B.bl_le53' F hF; omega
    have hsh : shiftS X (-off) = (F, 0) := by
      rw [← hFe, hp]
      by_cases ho : off ≤ 0
      · rw [if_pos ho, shift_up X (-off) (by omega) hX hl, if_neg (by omega)]
      · obtain ⟨k, hk⟩ : ∃ k : Nat, off = (k : Int) := ⟨off.toNat, by omega⟩
        rw [if_neg ho, hk, shift_down X k hX hl (by omega), Int.toNat_natCast]
    have HS : Hid (∀ u, Below w.heap.size w u → Calls Tryz.prog 89 #[.slice a l c, .int .i64 (-off)] u fun r w' => ∃ v, r = .returned (.tuple #[v, .int .i64 0]) ∧ Nt u.heap.size w' v F ∧ Below u.heap.size u w') := by
      intro u hu
      have A := hA.below hu
      exact Shift_arg (-off) A (by rw [val_ws]; exact hsh) (by omega) (by omega)
    have HM : Hid (∀ (u : World) (p : Option Addr) (q : Nat), Arg u p (ws F).length q (ws F) → Calls Tryz.prog 152 #[.slice p (ws F).length q] u fun r w' => r = .returned (.tuple #[.int .u64 (F : Nat), .int .i64 0]) ∧ w' = u) := fun u p q hA => small_ws (by omega) hA
    have HB : ∀ t : Bool, (if off - 1 < 0 then false else decide (X / 2 ^ (off - 1).toNat % 2 = 1)) = t → Hid (∀ u, Below w.heap.size w u → Calls Tryz.prog 118 #[.slice a l c, .int .i64 (off - 1)] u fun r w' => r = .returned (.bool t) ∧ w' = u) := by
      intro t ht u hu
      have A := hA.below hu
      by_cases h0 : off - 1 < 0
      · rw [if_pos h0] at ht; subst ht; exact bit_neg a l c (off - 1) u h0
      · rw [if_neg h0] at ht
        obtain ⟨k, hk⟩ : ∃ k : Nat, off - 1 = (k : Int) := ⟨(off - 1).toNat, by omega⟩
        have := bit_any (ws X) a l c u.heap.size k u A.len A.wf A.rd (by omega)
        rw [val_ws] at this
        rw [hk] at ht ⊢
        rw [Int.toNat_natCast] at ht
        rw [ht] at this
        exact this
    rw [hFe]
    by_cases h1 : off = 1
    · have := placed_64one n e ex off (bl X) F he0 he1 hl (by omega) lF (by omega) hex hof hexb.1 hexb.2 (by omega) (by omega) false (decide_eq_false (by omega)) (by simp [h1]) HL HS HM
      rw [hp, if_neg (by omega)]
      simp only [h1, if_true]
      exact this
    · have h1' : (off == 1) = false := by simp [h1]
      by_cases ho : off ≤ 0
      · have := placed_64bf n e ex off (bl X) F he0 he1 hl (by omega) lF (by omega) hex hof hexb.1 hexb.2 (by omega) (by omega) true (decide_eq_true ho) h1' HL HS HM (HB false (by rw [if_pos (by omega)]))
        rw [hp, if_pos ho]
        exact this
      · rw [hp, if_neg ho]
        simp only [if_neg h1]
        by_cases hbt : X / 2 ^ (off - 1).toNat % 2 = 1
        · have := placed_64bt n e ex off (bl X) F he0 he1 hl (by omega) lF (by omega) hex hof hexb.1 hexb.2 (by omega) (by omega) false (decide_eq_false ho) h1' HL HS HM (HB true (by rw [if_neg (by omega)]; exact decide_eq_true hbt))
          rw [if_pos hbt]
          exact this
        · have := placed_64bf n e ex off (bl X) F he0 he1 hl (by omega) lF (by omega) hex hof hexb.1 hexb.2 (by omega) (by omega) false (decide_eq_false ho) h1' HL HS HM (HB false (by rw [if_neg (by omega)]; exact decide_eq_false hbt))
          rw [if_neg hbt]
          exact this

def outS (mode : Int) (F : Nat) (mid : Int) (n : Bool) : Bool :=
  if mode = 0 then decide (0 < mid) || (decide (mid = 0) && decide (F % 2 = 1)) else if mode = 2 then !n else if mode = 3 then n else if mode = 4 then decide (0 ≤ mid) else false
end Go.Proofs.YtdimlelcgapobaaGreatDoor

/- dyad's goesOut. -/
namespace Go.Proofs.YtdimlelcgapobaaGreatDoor
open Go.RowKit
set_option linter.unusedVariables false
set_option maxRecDepth 20000
set_option linter.unusedSimpArgs false

theorem and_one64 (z : Nat) (h : z < 18446744073709551616) : bits BinOp.and IntKind.u64 (z : Int) 1 = ((z % 2 : Nat) : Int) := by
  have h := B.bits_mask1 z h
  exact h

set_option maxHeartbeats 1000000 in
theorem out_even1 (F : Nat) (ex : Int) (t : Bool) (n : Bool) (w : World)  :
    Calls Tryz.prog 115 #[.agg #[.int .u64 (F : Nat), .int .i64 ex, .bool t, .int .i64 1], .int .i64 0, .bool n] w fun r w' => r = .returned (.bool true) ∧ Below w.heap.size w w' := by
  have HB := Aside.intro (show Below w.heap.size w (w.alloc (.cells #[.int .u64 (F : Nat), .int .i64 ex, .bool t, .int .i64 1] 133)) from below_alloc w _)
  go_enter Tryz.func115, Tryz.ntmps115
  go_wp2
  all_goals go_ret
  all_goals exact ⟨rfl, HB.out⟩

set_option maxHeartbeats 1000000 in
theorem out_even0 (F : Nat) (ex : Int) (t : Bool) (n : Bool) (w : World) (b : Bool) (hb : (bits BinOp.and IntKind.u64 (F : Int) 1 == 1) = b) :
    Calls Tryz.prog 115 #[.agg #[.int .u64 (F : Nat), .int .i64 ex, .bool t, .int .i64 0], .int .i64 0, .bool n] w fun r w' => r = .returned (.bool b) ∧ Below w.heap.size w w' := by
  have HB := Aside.intro (show Below w.heap.size w (w.alloc (.cells #[.int .u64 (F : Nat), .int .i64 ex, .bool t, .int .i64 0] 133)) from below_alloc w _)
  go_enter Tryz.func115, Tryz.ntmps115
  go_wp2
  all_goals go_ret
  all_goals exact ⟨rfl, HB.out⟩

set_option maxHeartbeats 1000000 in
theorem out_evenm (F : Nat) (ex : Int) (t : Bool) (n : Bool) (w : World)  :
    Calls Tryz.prog 115 #[.agg #[.int .u64 (F : Nat), .int .i64 ex, .bool t, .int .i64 (-1)], .int .i64 0, .bool n] w fun r w' => r = .returned (.bool false) ∧ Below w.heap.size w w' := by
  have HB := Aside.intro (show Below w.heap.size w (w.alloc (.cells #[.int .u64 (F : Nat), .int .i64 ex, .bool t, .int .i64 (-1)] 133)) from below_alloc w _)
  go_enter Tryz.func115, Tryz.ntmps115
  go_wp2
  all_goals go_ret
  all_goals exact ⟨rfl, HB.out⟩

set_option maxHeartbeats 1000000 in
theorem out_zero (F : Nat) (ex : Int) (t : Bool) (mid : Int) (n : Bool) (w : World)  :
    Calls Tryz.prog 115 #[.agg #[.int .u64 (F : Nat), .int .i64 ex, .bool t, .int .i64 mid], .int .i64 1, .bool n] w fun r w' => r = .returned (.bool false) ∧ Below w.heap.size w w' := by
  have HB := Aside.intro (show Below w.heap.size w (w.alloc (.cells #[.int .u64 (F : Nat), .int .i64 ex, .bool t, .int .i64 mid] 133)) from below_alloc w _)
  go_enter Tryz.func115, Tryz.ntmps115
  go_wp2
  all_goals go_ret
  all_goals exact ⟨rfl, HB.out⟩

set_option maxHeartbeats 1000000 in
theorem out_up (F : Nat) (ex : Int) (t : Bool) (mid : Int) (n : Bool) (w : World)  :
    Calls Tryz.prog 115 #[.agg #[.int .u64 (F : Nat), .int .i64 ex, .bool t, .int .i64 mid], .int .i64 2, .bool n] w fun r w' => r = .returned (.bool (!n)) ∧ Below w.heap.size w w' := by
  have HB := Aside.intro (show Below w.heap.size w (w.alloc (.cells #[.int .u64 (F : Nat), .int .i64 ex, .bool t, .int .i64 mid] 133)) from below_alloc w _)
  go_enter Tryz.func115, Tryz.ntmps115
  go_wp2
  all_goals go_ret
  all_goals exact ⟨rfl, HB.out⟩

set_option maxHeartbeats 1000000 in
theorem out_down (F : Nat) (ex : Int) (t : Bool) (mid : Int) (n : Bool) (w : World)  :
    Calls Tryz.prog 115 #[.agg #[.int .u64 (F : Nat), .int .i64 ex, .bool t, .int .i64 mid], .int .i64 3, .bool n] w fun r w' => r = .returned (.bool n) ∧ Below w.heap.size w w' := by
  have HB := Aside.intro (show Below w.heap.size w (w.alloc (.cells #[.int .u64 (F : Nat), .int .i64 ex, .bool t, .int .i64 mid] 133)) from below_alloc w _)
  go_enter Tryz.func115, Tryz.ntmps115
  go_wp2
  all_goals go_ret
  all_goals exact ⟨rfl, HB.out⟩

set_option maxHeartbeats 1000000 in
theorem out_away (F : Nat) (ex : Int) (t : Bool) (mid : Int) (n : Bool) (w : World) (b : Bool) (hb : decide (0 ≤ mid) = b) :
    Calls Tryz.prog 115 #[.agg #[.int .u64 (F : Nat), .int .i64 ex, .bool t, .int .i64 mid], .int .i64 4, .bool n] w fun r w' => r = .returned (.bool b) ∧ Below w.heap.size w w' := by
  have HB := Aside.intro (show Below w.heap.size w (w.alloc (.cells #[.int .u64 (F : Nat), .int .i64 ex, .bool t, .int .i64 mid] 133)) from below_alloc w _)
  go_enter Tryz.func115, Tryz.ntmps115
  go_wp2
  all_goals go_ret
  all_goals exact ⟨rfl, HB.out⟩

theorem goesOut_any (F : Nat) (ex : Int) (t : Bool) (mid mode : Int) (n : Bool) (w : World) (hF : F < 18446744073709551616) (hm : mid = -1 ∨ mid = 0 ∨ mid = 1) (h0 : 0 ≤ mode) (h4 : mode ≤ 4) :
    Calls Tryz.prog 115 #[.agg #[.int .u64 (F : Nat), .int .i64 ex, .bool t, .int .i64 mid], .int .i64 mode, .bool n] w fun r w' => r = .returned (.bool (outS mode F mid n)) ∧ Below w.heap.size w w' := by
  have hc : mode = 0 ∨ mode = 1 ∨ mode = 2 ∨ mode = 3 ∨ mode = 4 := by omega
  rcases hc with rfl | rfl | rfl | rfl | rfl
  · rcases hm with rfl | rfl | rfl
    · exact out_evenm F ex t n w
    · have e : (bits BinOp.and IntKind.u64 (F : Int) 1 == 1) = outS 0 F 0 n := by
        rw [and_one64 F hF]
        unfold outS
        rcases Nat.mod_two_eq_zero_or_one F with h | h <;> simp [h]
      exact out_even0 F ex t n w _ e
    · exact out_even1 F ex t n w
  · exact out_zero F ex t mid n w
  · exact out_up F ex t mid n w
  · exact out_down F ex t mid n w
  · exact out_away F ex t mid n w _ rfl
end Go.Proofs.YtdimlelcgapobaaGreatDoor

/- dyad's round, Round. -/
namespace Go.Proofs.YtdimlelcgapobaaGreatDoor
open Go.RowKit
set_option linter.unusedVariables false
set_option maxRecDepth 20000
set_option linter.unusedSimpArgs false

theorem round_begin (w : World) (n : Bool) (v : Value) (e a b c : Int) (W : World) (hW : W = (w.alloc (.cells #[.bool n, v, .int .i64 e] 27)).alloc (.cells #[.int .i64 a, .int .i64 b, .int .i64 c] 106)) :
    Below w.heap.size w W ∧ W.heap.size = w.heap.size + 2 ∧ Dk W w.heap.size n v e ∧ Wk W (w.heap.size + 1) a b c := by
  subst hW
  refine ⟨(below_alloc w _).alloc (by simp) _, by simp, (Dk.new w n v e).alloc _, ?_⟩
  unfold Wk
  have := heap_alloc_new (w.alloc (.cells #[.bool n, v, .int .i64 e] 27)) (.cells #[.int .i64 a, .int .i64 b, .int .i64 c] 106)
  simpa using this
theorem Wk.below {w w' : World} {g : Nat} {a b c : Int} (h : Wk w g a b c) (hb : Below w.heap.size w w') : Wk w' g a b c := by
  unfold Wk; rw [hb.block g (Array.getElem?_eq_some_iff.1 h).1]; exact h

set_option maxHeartbeats 1000000 in
theorem round_mode (n : Bool) (a : Option Addr) (l c : Nat) (e mode : Int) (w : World) (hm : mode < 0 ∨ 4 < mode) :
    Calls Tryz.prog 79 #[.agg #[.bool n, .slice a l c, .int .i64 e], .int .i64 mode, .agg #[.int .i64 53, .int .i64 (-1074), .int .i64 1024]] w fun r w' => r = .returned (.tuple #[.float .f64 0, .int .i64 1]) ∧ Below w.heap.size w w' := by
  have HB := Aside.intro (show Below w.heap.size w ((w.alloc (.cells #[.bool n, .slice a l c, .int .i64 e] 27)).alloc (.cells #[.int .i64 53, .int .i64 (-1074), .int .i64 1024] 106)) from (below_alloc w _).alloc (by simp) _)
  rcases hm with h | h
  · go_enter Tryz.func79, Tryz.ntmps79
    go_wp2
    go_ret2
    exact ⟨rfl, HB.out⟩
  · have h' : decide (mode < 0) = false := decide_eq_false (by omega)
    go_enter Tryz.func79, Tryz.ntmps79
    go_wp2
    go_ret2
    exact ⟨rfl, HB.out⟩

set_option maxHeartbeats 4000000 in
theorem round_err {w : World} {a : Option Addr} {l c : Nat} (n : Bool) (e mode : Int) (n1 : Bool) (X : Nat) (e1 er : Int) (lX : (ws X).length ≤ 8192) (hm0 : 0 ≤ mode) (hm4 : mode ≤ 4) (her : (er != 0) = true)
    (HF : Hid (∀ u, Below w.heap.size w u → Calls Tryz.prog 94 #[.agg #[.bool n, .slice a l c, .int .i64 e]] u fun r w' => (∃ v, r = .returned (.tuple #[.agg #[.bool n1, v, .int .i64 e1], .int .i64 er]) ∧ Nt u.heap.size w' v X) ∧ Below u.heap.size u w')) :
    Calls Tryz.prog 79 #[.agg #[.bool n, .slice a l c, .int .i64 e], .int .i64 mode, .agg #[.int .i64 53, .int .i64 (-1074), .int .i64 1024]] w fun r w' => r = .returned (.tuple #[.float .f64 0, .int .i64 er]) ∧ Below w.heap.size w w' := by
  obtain ⟨W1, hW1⟩ : ∃ W, W = (w.alloc (.cells #[.bool n, .slice a l c, .int .i64 e] 27)).alloc (.cells #[.int .i64 53, .int .i64 (-1074), .int .i64 1024] 106) := ⟨_, rfl⟩
  obtain ⟨hB, hz1, DD, DW⟩ := round_begin w n (.slice a l c) e 53 (-1074) 1024 W1 hW1
  have H1 := hid (HF.out W1 hB)
  have SB := (Aside.intro (And.intro hB (And.intro hz1 DW)))
  clear hB hz1 DD DW HF
  go_enter Tryz.func79, Tryz.ntmps79
  go_wp2_with fail
  rw [← hW1]
  clear hW1
  refine (Calls.mono H1.out) ?_
  rintro r u1 ⟨⟨v, rfl, hN⟩, hb⟩
  obtain ⟨a1, c1, rfl, _⟩ := hN.arg (by omega)
  obtain ⟨hB, hz1, DW⟩ := SB.out
  have SF := Aside.intro (hB.trans (hb.mono (by omega)))
  have hz : w.heap.size ≤ u1.heap.size := by have := hb.size; omega
  clear hN hb H1 hB hz1 DW SB
  go_wp2
  go_ret2
  exact ⟨rfl, SF.out.alloc hz _⟩

set_option maxHeartbeats 4000000 in
theorem round_none {w : World} {a : Option Addr} {l c : Nat} (n : Bool) (e mode : Int) (n1 : Bool) (X : Nat) (e1 : Int) (lX : (ws X).length = 0) (hm0 : 0 ≤ mode) (hm4 : mode ≤ 4)
    (HF : Hid (∀ u, Below w.heap.size w u → Calls Tryz.prog 94 #[.agg #[.bool n, .slice a l c, .int .i64 e]] u fun r w' => (∃ v, r = .returned (.tuple #[.agg #[.bool n1, v, .int .i64 e1], .int .i64 0]) ∧ Nt u.heap.size w' v X) ∧ Below u.heap.size u w')) :
    Calls Tryz.prog 79 #[.agg #[.bool n, .slice a l c, .int .i64 e], .int .i64 mode, .agg #[.int .i64 53, .int .i64 (-1074), .int .i64 1024]] w fun r w' => r = .returned (.tuple #[.float .f64 0, .int .i64 0]) ∧ Below w.heap.size w w' := by
  obtain ⟨W1, hW1⟩ : ∃ W, W = (w.alloc (.cells #[.bool n, .slice a l c, .int .i64 e] 27)).alloc (.cells #[.int .i64 53, .int .i64 (-1074), .int .i64 1024] 106) := ⟨_, rfl⟩
  obtain ⟨hB, hz1, DD, DW⟩ := round_begin w n (.slice a l c) e 53 (-1074) 1024 W1 hW1
  have H1 := hid (HF.out W1 hB)
  have SB := (Aside.intro (And.intro hB (And.intro hz1 DW)))
  clear hB hz1 DD DW HF
  go_enter Tryz.func79, Tryz.ntmps79
  go_wp2_with fail
  rw [← hW1]
  clear hW1
  refine (Calls.mono H1.out) ?_
  rintro r u1 ⟨⟨v, rfl, hN⟩, hb⟩
  obtain ⟨a1, c1, rfl, _⟩ := hN.arg (by omega)
  obtain ⟨hB, hz1, DW⟩ := SB.out
  have SF := Aside.intro (hB.trans (hb.mono (by omega)))
  have hz : w.heap.size ≤ u1.heap.size := by have := hb.size; omega
  clear hN hb H1 hB hz1 DW SB
  rw [lX]
  go_wp2
  go_ret2
  exact ⟨rfl, SF.out.alloc hz _⟩

set_option maxHeartbeats 4000000 in
theorem round_tf {w : World} {a : Option Addr} {l c : Nat} (n : Bool) (e mode : Int) (X : Nat) (e1 : Int) (lX : (ws X).length ≤ 8192) (hX : ((((ws X).length : Nat) : Int) == 0) = false) (hm0 : 0 ≤ mode) (hm4 : mode ≤ 4)
    (F cw K K2 : Nat) (ex mid : Int) (hF : F ≤ 9007199254740991) (ecv : floatOfInt .f64 (F : Int) = cw)
    (HF : Hid (∀ u, Below w.heap.size w u → Calls Tryz.prog 94 #[.agg #[.bool n, .slice a l c, .int .i64 e]] u fun r w' => (∃ v, r = .returned (.tuple #[.agg #[.bool false, v, .int .i64 e1], .int .i64 0]) ∧ Nt u.heap.size w' v X) ∧ Below u.heap.size u w'))
    (HP : Hid (∀ (u : World) (p : Option Addr) (q : Nat), Arg u p (ws X).length q (ws X) → Calls Tryz.prog 114 #[.agg #[.bool false, .slice p (ws X).length q, .int .i64 e1], .agg #[.int .i64 53, .int .i64 (-1074), .int .i64 1024]] u fun r w' => r = .returned (.agg #[.int .u64 (F : Nat), .int .i64 ex, .bool true, .int .i64 mid]) ∧ Below u.heap.size u w'))
    (HD : Hid (∀ u, Calls Tryz.prog 116 #[.float .f64 cw, .int .i64 ex] u fun r w' => r = .returned (.float .f64 K) ∧ w' = u)) :
    Calls Tryz.prog 79 #[.agg #[.bool n, .slice a l c, .int .i64 e], .int .i64 mode, .agg #[.int .i64 53, .int .i64 (-1074), .int .i64 1024]] w fun r w' => r = .returned (.tuple #[.float .f64 K, .int .i64 0]) ∧ Below w.heap.size w w' := by
  obtain ⟨W1, hW1⟩ : ∃ W, W = (w.alloc (.cells #[.bool n, .slice a l c, .int .i64 e] 27)).alloc (.cells #[.int .i64 53, .int .i64 (-1074), .int .i64 1024] 106) := ⟨_, rfl⟩
  obtain ⟨hB, hz1, DD, DW⟩ := round_begin w n (.slice a l c) e 53 (-1074) 1024 W1 hW1
  have H1 := hid (HF.out W1 hB)
  have SB := (Aside.intro (And.intro hB (And.intro hz1 DW)))
  clear hB hz1 DD DW HF
  go_enter Tryz.func79, Tryz.ntmps79
  go_wp2_with fail
  rw [← hW1]
  clear hW1
  refine (Calls.mono H1.out) ?_
  rintro r u1 ⟨⟨v, rfl, hN⟩, hb⟩
  obtain ⟨a1, c1, rfl, _⟩ := hN.arg (by omega)
  obtain ⟨hB, hz1, DW⟩ := SB.out
  obtain ⟨W2, hW2⟩ : ∃ W, W = u1.alloc (.cells #[.bool false, .slice a1 (ws X).length c1, .int .i64 e1] 27) := ⟨_, rfl⟩
  have hbW : Below u1.heap.size u1 W2 := by rw [hW2]; exact below_alloc u1 _
  have D2 : Dk W2 u1.heap.size false (.slice a1 (ws X).length c1) e1 := by rw [hW2]; exact Dk.new u1 _ _ _
  have V2 : Wk W2 (w.heap.size + 1) 53 (-1074) 1024 := (DW.below hb).below hbW
  have hB2 : Below w.heap.size w W2 := (hB.trans (hb.mono (by omega))).trans (hbW.mono (by have := hb.size; omega))
  have H2 := hid (HP.out W2 a1 c1 ((hN.below hbW).arg' (by omega)).2)
  obtain ⟨x0, x1, x2, xf0, xf1, xf2⟩ := D2.facts
  obtain ⟨y0, y1, y2⟩ := V2.facts
  obtain ⟨t0, t1, t2⟩ := (DW.below hb).facts
  have hzu : w.heap.size + 1 < u1.heap.size := by have := hb.size; omega
  have hzz : w.heap.size ≤ u1.heap.size := by have := hb.size; omega
  have hz4 : u1.heap.size < W2.heap.size := D2.lt
  have S2 := (Aside.intro (And.intro hB2 D2))
  clear hN hb H1 hB hz1 DW SB hbW D2 V2 hB2 HP
  go_wp2_with fail
  rw [← hW2]
  clear hW2
  refine (Calls.mono H2.out) ?_
  rintro r u2 ⟨rfl, hb⟩
  obtain ⟨W3, hW3⟩ : ∃ W, W = u2.alloc (.cells #[.int .u64 (F : Nat), .int .i64 ex, .bool true, .int .i64 mid] 133) := ⟨_, rfl⟩
  have hbW : Below u2.heap.size u2 W3 := by rw [hW3]; exact below_alloc u2 _
  have P3 : Pk W3 u2.heap.size (F : Nat) ex true mid := by rw [hW3]; exact heap_alloc_new _ _
  have D3 := (S2.out.2.below hb).below hbW
  have hB3 : Below w.heap.size w W3 := (S2.out.1.trans (hb.mono (by omega))).trans (hbW.mono (by have := hb.size; omega))
  have hz6 : u1.heap.size < u2.heap.size := by have := hb.size; omega
  obtain ⟨q0, q1, q2, q3, qf0, qf1, qf2, qf3⟩ := P3.facts
  obtain ⟨d0, d1, d2, df0, df1, df2⟩ := D3.facts
  have hz5 : w.heap.size ≤ u2.heap.size := by omega
  have hz7 : u2.heap.size < W3.heap.size := P3.lt
  have S3 := (Aside.intro (And.intro hB3 (And.intro P3 D3)))
  clear hb hbW P3 D3 hB3 S2 H2 x0 x1 x2 xf0 xf1 xf2 y0 y1 y2
  go_upto_region 7 with fail
  rw [← hW3]
  clear hW3
  go_wp2_with fail
  try simp only [ecv]
  refine (Calls.mono (HD.out _)) ?_
  rintro r ww ⟨rfl, hw⟩
  rw [hw]
  clear hw ww HD
  go_wp2
  go_ret2
  exact ⟨rfl, S3.out.1⟩

set_option maxHeartbeats 4000000 in
theorem round_tt {w : World} {a : Option Addr} {l c : Nat} (n : Bool) (e mode : Int) (X : Nat) (e1 : Int) (lX : (ws X).length ≤ 8192) (hX : ((((ws X).length : Nat) : Int) == 0) = false) (hm0 : 0 ≤ mode) (hm4 : mode ≤ 4)
    (F cw K K2 : Nat) (ex mid : Int) (hF : F ≤ 9007199254740991) (ecv : floatOfInt .f64 (F : Int) = cw)
    (HF : Hid (∀ u, Below w.heap.size w u → Calls Tryz.prog 94 #[.agg #[.bool n, .slice a l c, .int .i64 e]] u fun r w' => (∃ v, r = .returned (.tuple #[.agg #[.bool true, v, .int .i64 e1], .int .i64 0]) ∧ Nt u.heap.size w' v X) ∧ Below u.heap.size u w'))
    (HP : Hid (∀ (u : World) (p : Option Addr) (q : Nat), Arg u p (ws X).length q (ws X) → Calls Tryz.prog 114 #[.agg #[.bool true, .slice p (ws X).length q, .int .i64 e1], .agg #[.int .i64 53, .int .i64 (-1074), .int .i64 1024]] u fun r w' => r = .returned (.agg #[.int .u64 (F : Nat), .int .i64 ex, .bool true, .int .i64 mid]) ∧ Below u.heap.size u w'))
    (HD : Hid (∀ u, Calls Tryz.prog 116 #[.float .f64 cw, .int .i64 ex] u fun r w' => r = .returned (.float .f64 K) ∧ w' = u))
    (HC : Hid (∀ u, Calls Tryz.prog 117 #[.float .f64 K, .float .f64 13830554455654793216] u fun r w' => r = .returned (.float .f64 K2) ∧ w' = u)) :
    Calls Tryz.prog 79 #[.agg #[.bool n, .slice a l c, .int .i64 e], .int .i64 mode, .agg #[.int .i64 53, .int .i64 (-1074), .int .i64 1024]] w fun r w' => r = .returned (.tuple #[.float .f64 K2, .int .i64 0]) ∧ Below w.heap.size w w' := by
  obtain ⟨W1, hW1⟩ : ∃ W, W = (w.alloc (.cells #[.bool n, .slice a l c, .int .i64 e] 27)).alloc (.cells #[.int .i64 53, .int .i64 (-1074), .int .i64 1024] 106) := ⟨_, rfl⟩
  obtain ⟨hB, hz1, DD, DW⟩ := round_begin w n (.slice a l c) e 53 (-1074) 1024 W1 hW1
  have H1 := hid (HF.out W1 hB)
  have SB := (Aside.intro (And.intro hB (And.intro hz1 DW)))
  clear hB hz1 DD DW HF
  go_enter Tryz.func79, Tryz.ntmps79
  go_wp2_with fail
  rw [← hW1]
  clear hW1
  refine (Calls.mono H1.out) ?_
  rintro r u1 ⟨⟨v, rfl, hN⟩, hb⟩
  obtain ⟨a1, c1, rfl, _⟩ := hN.arg (by omega)
  obtain ⟨hB, hz1, DW⟩ := SB.out
  obtain ⟨W2, hW2⟩ : ∃ W, W = u1.alloc (.cells #[.bool true, .slice a1 (ws X).length c1, .int .i64 e1] 27) := ⟨_, rfl⟩
  have hbW : Below u1.heap.size u1 W2 := by rw [hW2]; exact below_alloc u1 _
  have D2 : Dk W2 u1.heap.size true (.slice a1 (ws X).length c1) e1 := by rw [hW2]; exact Dk.new u1 _ _ _
  have V2 : Wk W2 (w.heap.size + 1) 53 (-1074) 1024 := (DW.below hb).below hbW
  have hB2 : Below w.heap.size w W2 := (hB.trans (hb.mono (by omega))).trans (hbW.mono (by have := hb.size; omega))
  have H2 := hid (HP.out W2 a1 c1 ((hN.below hbW).arg' (by omega)).2)
  obtain ⟨x0, x1, x2, xf0, xf1, xf2⟩ := D2.facts
  obtain ⟨y0, y1, y2⟩ := V2.facts
  obtain ⟨t0, t1, t2⟩ := (DW.below hb).facts
  have hzu : w.heap.size + 1 < u1.heap.size := by have := hb.size; omega
  have hzz : w.heap.size ≤ u1.heap.size := by have := hb.size; omega
  have hz4 : u1.heap.size < W2.heap.size := D2.lt
  have S2 := (Aside.intro (And.intro hB2 D2))
  clear hN hb H1 hB hz1 DW SB hbW D2 V2 hB2 HP
  go_wp2_with fail
  rw [← hW2]
  clear hW2
  refine (Calls.mono H2.out) ?_
  rintro r u2 ⟨rfl, hb⟩
  obtain ⟨W3, hW3⟩ : ∃ W, W = u2.alloc (.cells #[.int .u64 (F : Nat), .int .i64 ex, .bool true, .int .i64 mid] 133) := ⟨_, rfl⟩
  have hbW : Below u2.heap.size u2 W3 := by rw [hW3]; exact below_alloc u2 _
  have P3 : Pk W3 u2.heap.size (F : Nat) ex true mid := by rw [hW3]; exact heap_alloc_new _ _
  have D3 := (S2.out.2.below hb).below hbW
  have hB3 : Below w.heap.size w W3 := (S2.out.1.trans (hb.mono (by omega))).trans (hbW.mono (by have := hb.size; omega))
  have hz6 : u1.heap.size < u2.heap.size := by have := hb.size; omega
  obtain ⟨q0, q1, q2, q3, qf0, qf1, qf2, qf3⟩ := P3.facts
  obtain ⟨d0, d1, d2, df0, df1, df2⟩ := D3.facts
  have hz5 : w.heap.size ≤ u2.heap.size := by omega
  have hz7 : u2.heap.size < W3.heap.size := P3.lt
  have S3 := (Aside.intro (And.intro hB3 (And.intro P3 D3)))
  clear hb hbW P3 D3 hB3 S2 H2 x0 x1 x2 xf0 xf1 xf2 y0 y1 y2
  go_upto_region 7 with fail
  rw [← hW3]
  clear hW3
  go_wp2_with fail
  try simp only [ecv]
  refine (Calls.mono (HD.out _)) ?_
  rintro r ww ⟨rfl, hw⟩
  rw [hw]
  clear hw ww HD
  go_wp2_with fail
  refine (Calls.mono (HC.out _)) ?_
  rintro r ww ⟨rfl, hw⟩
  rw [hw]
  clear hw ww HC
  go_wp2
  go_ret2
  exact ⟨rfl, S3.out.1⟩

set_option maxHeartbeats 4000000 in
theorem round_fff {w : World} {a : Option Addr} {l c : Nat} (n : Bool) (e mode : Int) (X : Nat) (e1 : Int) (lX : (ws X).length ≤ 8192) (hX : ((((ws X).length : Nat) : Int) == 0) = false) (hm0 : 0 ≤ mode) (hm4 : mode ≤ 4)
    (F cw K K2 : Nat) (ex mid : Int) (hF : F ≤ 9007199254740991) (ecv : floatOfInt .f64 (F : Int) = cw)
    (HF : Hid (∀ u, Below w.heap.size w u → Calls Tryz.prog 94 #[.agg #[.bool n, .slice a l c, .int .i64 e]] u fun r w' => (∃ v, r = .returned (.tuple #[.agg #[.bool false, v, .int .i64 e1], .int .i64 0]) ∧ Nt u.heap.size w' v X) ∧ Below u.heap.size u w'))
    (HP : Hid (∀ (u : World) (p : Option Addr) (q : Nat), Arg u p (ws X).length q (ws X) → Calls Tryz.prog 114 #[.agg #[.bool false, .slice p (ws X).length q, .int .i64 e1], .agg #[.int .i64 53, .int .i64 (-1074), .int .i64 1024]] u fun r w' => r = .returned (.agg #[.int .u64 (F : Nat), .int .i64 ex, .bool false, .int .i64 mid]) ∧ Below u.heap.size u w'))
    (HG : Hid (∀ u, Calls Tryz.prog 115 #[.agg #[.int .u64 (F : Nat), .int .i64 ex, .bool false, .int .i64 mid], .int .i64 mode, .bool false] u fun r w' => r = .returned (.bool false) ∧ Below u.heap.size u w'))
    (HD : Hid (∀ u, Calls Tryz.prog 116 #[.float .f64 cw, .int .i64 ex] u fun r w' => r = .returned (.float .f64 K) ∧ w' = u)) :
    Calls Tryz.prog 79 #[.agg #[.bool n, .slice a l c, .int .i64 e], .int .i64 mode, .agg #[.int .i64 53, .int .i64 (-1074), .int .i64 1024]] w fun r w' => r = .returned (.tuple #[.float .f64 K, .int .i64 0]) ∧ Below w.heap.size w w' := by
  obtain ⟨W1, hW1⟩ : ∃ W, W = (w.alloc (.cells #[.bool n, .slice a l c, .int .i64 e] 27)).alloc (.cells #[.int .i64 53, .int .i64 (-1074), .int .i64 1024] 106) := ⟨_, rfl⟩
  obtain ⟨hB, hz1, DD, DW⟩ := round_begin w n (.slice a l c) e 53 (-1074) 1024 W1 hW1
  have H1 := hid (HF.out W1 hB)
  have SB := (Aside.intro (And.intro hB (And.intro hz1 DW)))
  clear hB hz1 DD DW HF
  go_enter Tryz.func79, Tryz.ntmps79
  go_wp2_with fail
  rw [← hW1]
  clear hW1
  refine (Calls.mono H1.out) ?_
  rintro r u1 ⟨⟨v, rfl, hN⟩, hb⟩
  obtain ⟨a1, c1, rfl, _⟩ := hN.arg (by omega)
  obtain ⟨hB, hz1, DW⟩ := SB.out
  obtain ⟨W2, hW2⟩ : ∃ W, W = u1.alloc (.cells #[.bool false, .slice a1 (ws X).length c1, .int .i64 e1] 27) := ⟨_, rfl⟩
  have hbW : Below u1.heap.size u1 W2 := by rw [hW2]; exact below_alloc u1 _
  have D2 : Dk W2 u1.heap.size false (.slice a1 (ws X).length c1) e1 := by rw [hW2]; exact Dk.new u1 _ _ _
  have V2 : Wk W2 (w.heap.size + 1) 53 (-1074) 1024 := (DW.below hb).below hbW
  have hB2 : Below w.heap.size w W2 := (hB.trans (hb.mono (by omega))).trans (hbW.mono (by have := hb.size; omega))
  have H2 := hid (HP.out W2 a1 c1 ((hN.below hbW).arg' (by omega)).2)
  obtain ⟨x0, x1, x2, xf0, xf1, xf2⟩ := D2.facts
  obtain ⟨y0, y1, y2⟩ := V2.facts
  obtain ⟨t0, t1, t2⟩ := (DW.below hb).facts
  have hzu : w.heap.size + 1 < u1.heap.size := by have := hb.size; omega
  have hzz : w.heap.size ≤ u1.heap.size := by have := hb.size; omega
  have hz4 : u1.heap.size < W2.heap.size := D2.lt
  have S2 := (Aside.intro (And.intro hB2 D2))
  clear hN hb H1 hB hz1 DW SB hbW D2 V2 hB2 HP
  go_wp2_with fail
  rw [← hW2]
  clear hW2
  refine (Calls.mono H2.out) ?_
  rintro r u2 ⟨rfl, hb⟩
  obtain ⟨W3, hW3⟩ : ∃ W, W = u2.alloc (.cells #[.int .u64 (F : Nat), .int .i64 ex, .bool false, .int .i64 mid] 133) := ⟨_, rfl⟩
  have hbW : Below u2.heap.size u2 W3 := by rw [hW3]; exact below_alloc u2 _
  have P3 : Pk W3 u2.heap.size (F : Nat) ex false mid := by rw [hW3]; exact heap_alloc_new _ _
  have D3 := (S2.out.2.below hb).below hbW
  have hB3 : Below w.heap.size w W3 := (S2.out.1.trans (hb.mono (by omega))).trans (hbW.mono (by have := hb.size; omega))
  have hz6 : u1.heap.size < u2.heap.size := by have := hb.size; omega
  obtain ⟨q0, q1, q2, q3, qf0, qf1, qf2, qf3⟩ := P3.facts
  obtain ⟨d0, d1, d2, df0, df1, df2⟩ := D3.facts
  have hz5 : w.heap.size ≤ u2.heap.size := by omega
  have hz7 : u2.heap.size < W3.heap.size := P3.lt
  have S3 := (Aside.intro (And.intro hB3 (And.intro P3 D3)))
  clear hb hbW P3 D3 hB3 S2 H2 x0 x1 x2 xf0 xf1 xf2 y0 y1 y2
  go_upto_region 7 with fail
  rw [← hW3]
  clear hW3
  go_wp2_with fail
  refine (Calls.mono (HG.out _)) ?_
  rintro r u3 ⟨rfl, hb⟩
  have P4 := S3.out.2.1.below hb
  have D4 := S3.out.2.2.below hb
  have hB4 : Below w.heap.size w u3 := S3.out.1.trans (hb.mono (by omega))
  have hz8 : w.heap.size ≤ u3.heap.size := by have := hb.size; omega
  obtain ⟨r0, r1, r2, r3, rf0, rf1, rf2, rf3⟩ := P4.facts
  obtain ⟨s0, s1, s2, sf0, sf1, sf2⟩ := D4.facts
  have S4 := Aside.intro hB4
  clear hb P4 D4 hB4 S3 HG q0 q1 q2 q3 qf0 qf1 qf2 qf3 d0 d1 d2 df0 df1 df2
  go_wp2_with fail
  try simp only [ecv]
  refine (Calls.mono (HD.out _)) ?_
  rintro r ww ⟨rfl, hw⟩
  rw [hw]
  clear hw ww HD
  go_wp2
  go_ret2
  exact ⟨rfl, S4.out⟩

set_option maxHeartbeats 4000000 in
theorem round_fft {w : World} {a : Option Addr} {l c : Nat} (n : Bool) (e mode : Int) (X : Nat) (e1 : Int) (lX : (ws X).length ≤ 8192) (hX : ((((ws X).length : Nat) : Int) == 0) = false) (hm0 : 0 ≤ mode) (hm4 : mode ≤ 4)
    (F cw K K2 : Nat) (ex mid : Int) (hF : F ≤ 9007199254740991) (ecv : floatOfInt .f64 (F : Int) = cw)
    (HF : Hid (∀ u, Below w.heap.size w u → Calls Tryz.prog 94 #[.agg #[.bool n, .slice a l c, .int .i64 e]] u fun r w' => (∃ v, r = .returned (.tuple #[.agg #[.bool true, v, .int .i64 e1], .int .i64 0]) ∧ Nt u.heap.size w' v X) ∧ Below u.heap.size u w'))
    (HP : Hid (∀ (u : World) (p : Option Addr) (q : Nat), Arg u p (ws X).length q (ws X) → Calls Tryz.prog 114 #[.agg #[.bool true, .slice p (ws X).length q, .int .i64 e1], .agg #[.int .i64 53, .int .i64 (-1074), .int .i64 1024]] u fun r w' => r = .returned (.agg #[.int .u64 (F : Nat), .int .i64 ex, .bool false, .int .i64 mid]) ∧ Below u.heap.size u w'))
    (HG : Hid (∀ u, Calls Tryz.prog 115 #[.agg #[.int .u64 (F : Nat), .int .i64 ex, .bool false, .int .i64 mid], .int .i64 mode, .bool true] u fun r w' => r = .returned (.bool false) ∧ Below u.heap.size u w'))
    (HD : Hid (∀ u, Calls Tryz.prog 116 #[.float .f64 cw, .int .i64 ex] u fun r w' => r = .returned (.float .f64 K) ∧ w' = u))
    (HC : Hid (∀ u, Calls Tryz.prog 117 #[.float .f64 K, .float .f64 13830554455654793216] u fun r w' => r = .returned (.float .f64 K2) ∧ w' = u)) :
    Calls Tryz.prog 79 #[.agg #[.bool n, .slice a l c, .int .i64 e], .int .i64 mode, .agg #[.int .i64 53, .int .i64 (-1074), .int .i64 1024]] w fun r w' => r = .returned (.tuple #[.float .f64 K2, .int .i64 0]) ∧ Below w.heap.size w w' := by
  obtain ⟨W1, hW1⟩ : ∃ W, W = (w.alloc (.cells #[.bool n, .slice a l c, .int .i64 e] 27)).alloc (.cells #[.int .i64 53, .int .i64 (-1074), .int .i64 1024] 106) := ⟨_, rfl⟩
  obtain ⟨hB, hz1, DD, DW⟩ := round_begin w n (.slice a l c) e 53 (-1074) 1024 W1 hW1
  have H1 := hid (HF.out W1 hB)
  have SB := (Aside.intro (And.intro hB (And.intro hz1 DW)))
  clear hB hz1 DD DW HF
  go_enter Tryz.func79, Tryz.ntmps79
  go_wp2_with fail
  rw [← hW1]
  clear hW1
  refine (Calls.mono H1.out) ?_
  rintro r u1 ⟨⟨v, rfl, hN⟩, hb⟩
  obtain ⟨a1, c1, rfl, _⟩ := hN.arg (by omega)
  obtain ⟨hB, hz1, DW⟩ := SB.out
  obtain ⟨W2, hW2⟩ : ∃ W, W = u1.alloc (.cells #[.bool true, .slice a1 (ws X).length c1, .int .i64 e1] 27) := ⟨_, rfl⟩
  have hbW : Below u1.heap.size u1 W2 := by rw [hW2]; exact below_alloc u1 _
  have D2 : Dk W2 u1.heap.size true (.slice a1 (ws X).length c1) e1 := by rw [hW2]; exact Dk.new u1 _ _ _
  have V2 : Wk W2 (w.heap.size + 1) 53 (-1074) 1024 := (DW.below hb).below hbW
  have hB2 : Below w.heap.size w W2 := (hB.trans (hb.mono (by omega))).trans (hbW.mono (by have := hb.size; omega))
  have H2 := hid (HP.out W2 a1 c1 ((hN.below hbW).arg' (by omega)).2)
  obtain ⟨x0, x1, x2, xf0, xf1, xf2⟩ := D2.facts
  obtain ⟨y0, y1, y2⟩ := V2.facts
  obtain ⟨t0, t1, t2⟩ := (DW.below hb).facts
  have hzu : w.heap.size + 1 < u1.heap.size := by have := hb.size; omega
  have hzz : w.heap.size ≤ u1.heap.size := by have := hb.size; omega
  have hz4 : u1.heap.size < W2.heap.size := D2.lt
  have S2 := (Aside.intro (And.intro hB2 D2))
  clear hN hb H1 hB hz1 DW SB hbW D2 V2 hB2 HP
  go_wp2_with fail
  rw [← hW2]
  clear hW2
  refine (Calls.mono H2.out) ?_
  rintro r u2 ⟨rfl, hb⟩
  obtain ⟨W3, hW3⟩ : ∃ W, W = u2.alloc (.cells #[.int .u64 (F : Nat), .int .i64 ex, .bool false, .int .i64 mid] 133) := ⟨_, rfl⟩
  have hbW : Below u2.heap.size u2 W3 := by rw [hW3]; exact below_alloc u2 _
  have P3 : Pk W3 u2.heap.size (F : Nat) ex false mid := by rw [hW3]; exact heap_alloc_new _ _
  have D3 := (S2.out.2.below hb).below hbW
  have hB3 : Below w.heap.size w W3 := (S2.out.1.trans (hb.mono (by omega))).trans (hbW.mono (by have := hb.size; omega))
  have hz6 : u1.heap.size < u2.heap.size := by have := hb.size; omega
  obtain ⟨q0, q1, q2, q3, qf0, qf1, qf2, qf3⟩ := P3.facts
  obtain ⟨d0, d1, d2, df0, df1, df2⟩ := D3.facts
  have hz5 : w.heap.size ≤ u2.heap.size := by omega
  have hz7 : u2.heap.size < W3.heap.size := P3.lt
  have S3 := (Aside.intro (And.intro hB3 (And.intro P3 D3)))
  clear hb hbW P3 D3 hB3 S2 H2 x0 x1 x2 xf0 xf1 xf2 y0 y1 y2
  go_upto_region 7 with fail
  rw [← hW3]
  clear hW3
  go_wp2_with fail
  refine (Calls.mono (HG.out _)) ?_
  rintro r u3 ⟨rfl, hb⟩
  have P4 := S3.out.2.1.below hb
  have D4 := S3.out.2.2.below hb
  have hB4 : Below w.heap.size w u3 := S3.out.1.trans (hb.mono (by omega))
  have hz8 : w.heap.size ≤ u3.heap.size := by have := hb.size; omega
  obtain ⟨r0, r1, r2, r3, rf0, rf1, rf2, rf3⟩ := P4.facts
  obtain ⟨s0, s1, s2, sf0, sf1, sf2⟩ := D4.facts
  have S4 := Aside.intro hB4
  clear hb P4 D4 hB4 S3 HG q0 q1 q2 q3 qf0 qf1 qf2 qf3 d0 d1 d2 df0 df1 df2
  go_wp2_with fail
  try simp only [ecv]
  refine (Calls.mono (HD.out _)) ?_
  rintro r ww ⟨rfl, hw⟩
  rw [hw]
  clear hw ww HD
  go_wp2_with fail
  refine (Calls.mono (HC.out _)) ?_
  rintro r ww ⟨rfl, hw⟩
  rw [hw]
  clear hw ww HC
  go_wp2
  go_ret2
  exact ⟨rfl, S4.out⟩

set_option maxHeartbeats 4000000 in
theorem round_ftf {w : World} {a : Option Addr} {l c : Nat} (n : Bool) (e mode : Int) (X : Nat) (e1 : Int) (lX : (ws X).length ≤ 8192) (hX : ((((ws X).length : Nat) : Int) == 0) = false) (hm0 : 0 ≤ mode) (hm4 : mode ≤ 4)
    (F cw K K2 : Nat) (ex mid : Int) (hF : F ≤ 9007199254740991) (ecv : floatOfInt .f64 ((F : Int) + 1) = cw)
    (HF : Hid (∀ u, Below w.heap.size w u → Calls Tryz.prog 94 #[.agg #[.bool n, .slice a l c, .int .i64 e]] u fun r w' => (∃ v, r = .returned (.tuple #[.agg #[.bool false, v, .int .i64 e1], .int .i64 0]) ∧ Nt u.heap.size w' v X) ∧ Below u.heap.size u w'))
    (HP : Hid (∀ (u : World) (p : Option Addr) (q : Nat), Arg u p (ws X).length q (ws X) → Calls Tryz.prog 114 #[.agg #[.bool false, .slice p (ws X).length q, .int .i64 e1], .agg #[.int .i64 53, .int .i64 (-1074), .int .i64 1024]] u fun r w' => r = .returned (.agg #[.int .u64 (F : Nat), .int .i64 ex, .bool false, .int .i64 mid]) ∧ Below u.heap.size u w'))
    (HG : Hid (∀ u, Calls Tryz.prog 115 #[.agg #[.int .u64 (F : Nat), .int .i64 ex, .bool false, .int .i64 mid], .int .i64 mode, .bool false] u fun r w' => r = .returned (.bool true) ∧ Below u.heap.size u w'))
    (HD : Hid (∀ u, Calls Tryz.prog 116 #[.float .f64 cw, .int .i64 ex] u fun r w' => r = .returned (.float .f64 K) ∧ w' = u)) :
    Calls Tryz.prog 79 #[.agg #[.bool n, .slice a l c, .int .i64 e], .int .i64 mode, .agg #[.int .i64 53, .int .i64 (-1074), .int .i64 1024]] w fun r w' => r = .returned (.tuple #[.float .f64 K, .int .i64 0]) ∧ Below w.heap.size w w' := by
  obtain ⟨W1, hW1⟩ : ∃ W, W = (w.alloc (.cells #[.bool n, .slice a l c, .int .i64 e] 27)).alloc (.cells #[.int .i64 53, .int .i64 (-1074), .int .i64 1024] 106) := ⟨_, rfl⟩
  obtain ⟨hB, hz1, DD, DW⟩ := round_begin w n (.slice a l c) e 53 (-1074) 1024 W1 hW1
  have H1 := hid (HF.out W1 hB)
  have SB := (Aside.intro (And.intro hB (And.intro hz1 DW)))
  clear hB hz1 DD DW HF
  go_enter Tryz.func79, Tryz.ntmps79
  go_wp2_with fail
  rw [← hW1]
  clear hW1
  refine (Calls.mono H1.out) ?_
  rintro r u1 ⟨⟨v, rfl, hN⟩, hb⟩
  obtain ⟨a1, c1, rfl, _⟩ := hN.arg (by omega)
  obtain ⟨hB, hz1, DW⟩ := SB.out
  obtain ⟨W2, hW2⟩ : ∃ W, W = u1.alloc (.cells #[.bool false, .slice a1 (ws X).length c1, .int .i64 e1] 27) := ⟨_, rfl⟩
  have hbW : Below u1.heap.size u1 W2 := by rw [hW2]; exact below_alloc u1 _
  have D2 : Dk W2 u1.heap.size false (.slice a1 (ws X).length c1) e1 := by rw [hW2]; exact Dk.new u1 _ _ _
  have V2 : Wk W2 (w.heap.size + 1) 53 (-1074) 1024 := (DW.below hb).below hbW
  have hB2 : Below w.heap.size w W2 := (hB.trans (hb.mono (by omega))).trans (hbW.mono (by have := hb.size; omega))
  have H2 := hid (HP.out W2 a1 c1 ((hN.below hbW).arg' (by omega)).2)
  obtain ⟨x0, x1, x2, xf0, xf1, xf2⟩ := D2.facts
  obtain ⟨y0, y1, y2⟩ := V2.facts
  obtain ⟨t0, t1, t2⟩ := (DW.below hb).facts
  have hzu : w.heap.size + 1 < u1.heap.size := by have := hb.size; omega
  have hzz : w.heap.size ≤ u1.heap.size := by have := hb.size; omega
  have hz4 : u1.heap.size < W2.heap.size := D2.lt
  have S2 := (Aside.intro (And.intro hB2 D2))
  clear hN hb H1 hB hz1 DW SB hbW D2 V2 hB2 HP
  go_wp2_with fail
  rw [← hW2]
  clear hW2
  refine (Calls.mono H2.out) ?_
  rintro r u2 ⟨rfl, hb⟩
  obtain ⟨W3, hW3⟩ : ∃ W, W = u2.alloc (.cells #[.int .u64 (F : Nat), .int .i64 ex, .bool false, .int .i64 mid] 133) := ⟨_, rfl⟩
  have hbW : Below u2.heap.size u2 W3 := by rw [hW3]; exact below_alloc u2 _
  have P3 : Pk W3 u2.heap.size (F : Nat) ex false mid := by rw [hW3]; exact heap_alloc_new _ _
  have D3 := (S2.out.2.below hb).below hbW
  have hB3 : Below w.heap.size w W3 := (S2.out.1.trans (hb.mono (by omega))).trans (hbW.mono (by have := hb.size; omega))
  have hz6 : u1.heap.size < u2.heap.size := by have := hb.size; omega
  obtain ⟨q0, q1, q2, q3, qf0, qf1, qf2, qf3⟩ := P3.facts
  obtain ⟨d0, d1, d2, df0, df1, df2⟩ := D3.facts
  have hz5 : w.heap.size ≤ u2.heap.size := by omega
  have hz7 : u2.heap.size < W3.heap.size := P3.lt
  have S3 := (Aside.intro (And.intro hB3 (And.intro P3 D3)))
  clear hb hbW P3 D3 hB3 S2 H2 x0 x1 x2 xf0 xf1 xf2 y0 y1 y2
  go_upto_region 7 with fail
  rw [← hW3]
  clear hW3
  go_wp2_with fail
  refine (Calls.mono (HG.out _)) ?_
  rintro r u3 ⟨rfl, hb⟩
  have P4 := S3.out.2.1.below hb
  have D4 := S3.out.2.2.below hb
  have hB4 : Below w.heap.size w u3 := S3.out.1.trans (hb.mono (by omega))
  have hz8 : w.heap.size ≤ u3.heap.size := by have := hb.size; omega
  obtain ⟨r0, r1, r2, r3, rf0, rf1, rf2, rf3⟩ := P4.facts
  obtain ⟨s0, s1, s2, sf0, sf1, sf2⟩ := D4.facts
  have S4 := Aside.intro hB4
  clear hb P4 D4 hB4 S3 HG q0 q1 q2 q3 qf0 qf1 qf2 qf3 d0 d1 d2 df0 df1 df2
  go_wp2_with fail
  try simp only [ecv]
  refine (Calls.mono (HD.out _)) ?_
  rintro r ww ⟨rfl, hw⟩
  rw [hw]
  clear hw ww HD
  go_wp2
  go_ret2
  exact ⟨rfl, Below.setC S4.out _ _ _ hz5 hz8⟩

set_option maxHeartbeats 4000000 in
theorem round_ftt {w : World} {a : Option Addr} {l c : Nat} (n : Bool) (e mode : Int) (X : Nat) (e1 : Int) (lX : (ws X).length ≤ 8192) (hX : ((((ws X).length : Nat) : Int) == 0) = false) (hm0 : 0 ≤ mode) (hm4 : mode ≤ 4)
    (F cw K K2 : Nat) (ex mid : Int) (hF : F ≤ 9007199254740991) (ecv : floatOfInt .f64 ((F : Int) + 1) = cw)
    (HF : Hid (∀ u, Below w.heap.size w u → Calls Tryz.prog 94 #[.agg #[.bool n, .slice a l c, .int .i64 e]] u fun r w' => (∃ v, r = .returned (.tuple #[.agg #[.bool true, v, .int .i64 e1], .int .i64 0]) ∧ Nt u.heap.size w' v X) ∧ Below u.heap.size u w'))
    (HP : Hid (∀ (u : World) (p : Option Addr) (q : Nat), Arg u p (ws X).length q (ws X) → Calls Tryz.prog 114 #[.agg #[.bool true, .slice p (ws X).length q, .int .i64 e1], .agg #[.int .i64 53, .int .i64 (-1074), .int .i64 1024]] u fun r w' => r = .returned (.agg #[.int .u64 (F : Nat), .int .i64 ex, .bool false, .int .i64 mid]) ∧ Below u.heap.size u w'))
    (HG : Hid (∀ u, Calls Tryz.prog 115 #[.agg #[.int .u64 (F : Nat), .int .i64 ex, .bool false, .int .i64 mid], .int .i64 mode, .bool true] u fun r w' => r = .returned (.bool true) ∧ Below u.heap.size u w'))
    (HD : Hid (∀ u, Calls Tryz.prog 116 #[.float .f64 cw, .int .i64 ex] u fun r w' => r = .returned (.float .f64 K) ∧ w' = u))
    (HC : Hid (∀ u, Calls Tryz.prog 117 #[.float .f64 K, .float .f64 13830554455654793216] u fun r w' => r = .returned (.float .f64 K2) ∧ w' = u)) :
    Calls Tryz.prog 79 #[.agg #[.bool n, .slice a l c, .int .i64 e], .int .i64 mode, .agg #[.int .i64 53, .int .i64 (-1074), .int .i64 1024]] w fun r w' => r = .returned (.tuple #[.float .f64 K2, .int .i64 0]) ∧ Below w.heap.size w w' := by
  obtain ⟨W1, hW1⟩ : ∃ W, W = (w.alloc (.cells #[.bool n, .slice a l c, .int .i64 e] 27)).alloc (.cells #[.int .i64 53, .int .i64 (-1074), .int .i64 1024] 106) := ⟨_, rfl⟩
  obtain ⟨hB, hz1, DD, DW⟩ := round_begin w n (.slice a l c) e 53 (-1074) 1024 W1 hW1
  have H1 := hid (HF.out W1 hB)
  have SB := (Aside.intro (And.intro hB (And.intro hz1 DW)))
  clear hB hz1 DD DW HF
  go_enter Tryz.func79, Tryz.ntmps79
  go_wp2_with fail
  rw [← hW1]
  clear hW1
  refine (Calls.mono H1.out) ?_
  rintro r u1 ⟨⟨v, rfl, hN⟩, hb⟩
  obtain ⟨a1, c1, rfl, _⟩ := hN.arg (by omega)
  obtain ⟨hB, hz1, DW⟩ := SB.out
  obtain ⟨W2, hW2⟩ : ∃ W, W = u1.alloc (.cells #[.bool true, .slice a1 (ws X).length c1, .int .i64 e1] 27) := ⟨_, rfl⟩
  have hbW : Below u1.heap.size u1 W2 := by rw [hW2]; exact below_alloc u1 _
  have D2 : Dk W2 u1.heap.size true (.slice a1 (ws X).length c1) e1 := by rw [hW2]; exact Dk.new u1 _ _ _
  have V2 : Wk W2 (w.heap.size + 1) 53 (-1074) 1024 := (DW.below hb).below hbW
  have hB2 : Below w.heap.size w W2 := (hB.trans (hb.mono (by omega))).trans (hbW.mono (by have := hb.size; omega))
  have H2 := hid (HP.out W2 a1 c1 ((hN.below hbW).arg' (by omega)).2)
  obtain ⟨x0, x1, x2, xf0, xf1, xf2⟩ := D2.facts
  obtain ⟨y0, y1, y2⟩ := V2.facts
  obtain ⟨t0, t1, t2⟩ := (DW.below hb).facts
  have hzu : w.heap.size + 1 < u1.heap.size := by have := hb.size; omega
  have hzz : w.heap.size ≤ u1.heap.size := by have := hb.size; omega
  have hz4 : u1.heap.size < W2.heap.size := D2.lt
  have S2 := (Aside.intro (And.intro hB2 D2))
  clear hN hb H1 hB hz1 DW SB hbW D2 V2 hB2 HP
  go_wp2_with fail
  rw [← hW2]
  clear hW2
  refine (Calls.mono H2.out) ?_
  rintro r u2 ⟨rfl, hb⟩
  obtain ⟨W3, hW3⟩ : ∃ W, W = u2.alloc (.cells #[.int .u64 (F : Nat), .int .i64 ex, .bool false, .int .i64 mid] 133) := ⟨_, rfl⟩
  have hbW : Below u2.heap.size u2 W3 := by rw [hW3]; exact below_alloc u2 _
  have P3 : Pk W3 u2.heap.size (F : Nat) ex false mid := by rw [hW3]; exact heap_alloc_new _ _
  have D3 := (S2.out.2.below hb).below hbW
  have hB3 : Below w.heap.size w W3 := (S2.out.1.trans (hb.mono (by omega))).trans (hbW.mono (by have := hb.size; omega))
  have hz6 : u1.heap.size < u2.heap.size := by have := hb.size; omega
  obtain ⟨q0, q1, q2, q3, qf0, qf1, qf2, qf3⟩ := P3.facts
  obtain ⟨d0, d1, d2, df0, df1, df2⟩ := D3.facts
  have hz5 : w.heap.size ≤ u2.heap.size := by omega
  have hz7 : u2.heap.size < W3.heap.size := P3.lt
  have S3 := (Aside.intro (And.intro hB3 (And.intro P3 D3)))
  clear hb hbW P3 D3 hB3 S2 H2 x0 x1 x2 xf0 xf1 xf2 y0 y1 y2
  go_upto_region 7 with fail
  rw [← hW3]
  clear hW3
  go_wp2_with fail
  refine (Calls.mono (HG.out _)) ?_
  rintro r u3 ⟨rfl, hb⟩
  have P4 := S3.out.2.1.below hb
  have D4 := S3.out.2.2.below hb
  have hB4 : Below w.heap.size w u3 := S3.out.1.trans (hb.mono (by omega))
  have hz8 : w.heap.size ≤ u3.heap.size := by have := hb.size; omega
  obtain ⟨r0, r1, r2, r3, rf0, rf1, rf2, rf3⟩ := P4.facts
  obtain ⟨s0, s1, s2, sf0, sf1, sf2⟩ := D4.facts
  have S4 := Aside.intro hB4
  clear hb P4 D4 hB4 S3 HG q0 q1 q2 q3 qf0 qf1 qf2 qf3 d0 d1 d2 df0 df1 df2
  go_wp2_with fail
  try simp only [ecv]
  refine (Calls.mono (HD.out _)) ?_
  rintro r ww ⟨rfl, hw⟩
  rw [hw]
  clear hw ww HD
  go_wp2_with fail
  refine (Calls.mono (HC.out _)) ?_
  rintro r ww ⟨rfl, hw⟩
  rw [hw]
  clear hw ww HC
  go_wp2
  go_ret2
  exact ⟨rfl, Below.setC S4.out _ _ _ hz5 hz8⟩

end Go.Proofs.YtdimlelcgapobaaGreatDoor

/- dyad's Round: what it answers. -/
namespace Go.Proofs.YtdimlelcgapobaaGreatDoor
open Go.RowKit
set_option linter.unusedVariables false
set_option maxRecDepth 20000
set_option linter.unusedSimpArgs false

def rndK (mode : Int) (n : Bool) (X : Nat) (e : Int) : Nat :=
  let p := plc 53 (-1074) 1024 X e
  (p.2.1 + 1074).toNat * 4503599627370496 + (if p.2.2.1 then p.1 else if outS mode p.1 p.2.2.2 n then p.1 + 1 else p.1)
def rndS (o : Option (Bool × Nat × Int)) (mode : Int) : Nat × Int :=
  if mode < 0 ∨ 4 < mode then (0, 1)
  else match o with
    | none => (0, 2)
    | some (n, X, e) => if X = 0 then (0, 0) else (rndK mode n X e + (if n then 9223372036854775808 else 0), 0)

theorem plc_mid (X : Nat) (e : Int) : (plc 53 (-1074) 1024 X e).2.2.2 = -1 ∨ (plc 53 (-1074) 1024 X e).2.2.2 = 0 ∨ (plc 53 (-1074) 1024 X e).2.2.2 = 1 := by
  unfold plc
  split
  · simp
  · simp only
    split
    · simp
    · simp only
      split
      · simp
      · split <;> simp

theorem ldexp_word (F : Nat) (ex : Int) (hF : F ≤ 9007199254740992) (h0 : -1074 ≤ ex) (h1 : ex ≤ 971) (hn : ex = -1074 ∨ 4503599627370496 ≤ F) :
    ∃ cw, floatOfInt .f64 (F : Int) = cw ∧ ∀ u, Calls Tryz.prog 116 #[.float .f64 cw, .int .i64 ex] u fun r w' => r = .returned (.float .f64 ((ex + 1074).toNat * 4503599627370496 + F)) ∧ w' = u := by
  by_cases hz : F = 0
  · subst hz
    obtain rfl : ex = -1074 := by omega
    exact ⟨0, by decide, fun u => B.Ldexp_nought _ u⟩
  · obtain ⟨e, g, hw⟩ := B.whole_of F (by omega) hF
    exact ⟨_, B.ofInt_whole F e g hw, fun u => B.Ldexp_any F e g ex u hw (by omega) hF h0 h1 hn⟩

theorem copy_word (K : Nat) (hK : K ≤ 9218868437227405312) (u : World) : Calls Tryz.prog 117 #[.float .f64 K, .float .f64 13830554455654793216] u fun r w' => r = .returned (.float .f64 (K + 9223372036854775808)) ∧ w' = u := by
  have h := B.copysign_neg (K / 4503599627370496) (K % 4503599627370496) (by omega) (by omega) u
  have e1 : B.bw false (K / 4503599627370496) (K % 4503599627370496) = K := by unfold B.bw; simp; omega
  have e2 : B.bw true (K / 4503599627370496) (K % 4503599627370496) = K + 9223372036854775808 := by unfold B.bw; simp; omega
  rw [e1, e2] at h
  exact h

theorem round_any {w : World} {a : Option Addr} {l c : Nat} {xs : List Nat} (hA : Arg w a l c xs) (hT : Tab w) (n : Bool) (e mode : Int) (he0 : -9223372036854775808 ≤ e) (he1 : e ≤ 9223372036854775807) :
    Calls Tryz.prog 79 #[.agg #[.bool n, .slice a l c, .int .i64 e], .int .i64 mode, .agg #[.int .i64 53, .int .i64 (-1074), .int .i64 1024]] w fun r w' => r = .returned (.tuple #[.float .f64 (rndS (mkS n (val xs) e) mode).1, .int .i64 (rndS (mkS n (val xs) e) mode).2]) ∧ Below w.heap.size w w' := by
  unfold rndS
  by_cases hm : mode < 0 ∨ 4 < mode
  · rw [if_pos hm]; exact round_mode n a l c e mode w hm
  · rw [if_neg hm]
    have HF : Hid (∀ u, Below w.heap.size w u → Calls Tryz.prog 94 #[.agg #[.bool n, .slice a l c, .int .i64 e]] u fun r w' => DAns u.heap.size w' r (mkS n (val xs) e) ∧ Below u.heap.size u w') := fun u hu => form_any (hA.below hu) (hT.belows hu) n e he0 he1
    cases ho : mkS n (val xs) e with
    | none =>
      rw [ho] at HF
      exact round_err n e mode false 0 0 2 (by rw [ws_zero]; simp) (by omega) (by omega) rfl HF
    | some d =>
      obtain ⟨n1, X, e1⟩ := d
      rw [ho] at HF
      have FX := mkS_frm ho
      simp only
      by_cases hX : X = 0
      · rw [if_pos hX]
        exact round_none n e mode n1 X e1 ((ws_len_zero X).2 hX) (by omega) (by omega) HF
      · rw [if_neg hX]
        have pf := plc_facts X e1 hX FX.down FX.up
        have pm := plc_mid X e1
        have HP : ∀ (u : World) (p : Option Addr) (q : Nat), Arg u p (ws X).length q (ws X) → Calls Tryz.prog 114 #[.agg #[.bool n1, .slice p (ws X).length q, .int .i64 e1], .agg #[.int .i64 53, .int .i64 (-1074), .int .i64 1024]] u fun r w' => r = .returned (.agg #[.int .u64 ((plc 53 (-1074) 1024 X e1).1 : Nat), .int .i64 (plc 53 (-1074) 1024 X e1).2.1, .bool (plc 53 (-1074) 1024 X e1).2.2.1, .int .i64 (plc 53 (-1074) 1024 X e1).2.2.2]) ∧ Below u.heap.size u w' := fun u p q hA => placed_any hA n1 e1 FX.down FX.up hX FX.size
        unfold rndK
        simp only
        generalize plc 53 (-1074) 1024 X e1 = P at pf pm HP ⊢
        obtain ⟨F, ex, t, mid⟩ := P
        simp only at pf pm HP ⊢
        obtain ⟨p1, p2, p3, p4⟩ := pf
        have HG : ∀ u, Calls Tryz.prog 115 #[.agg #[.int .u64 (F : Nat), .int .i64 ex, .bool false, .int .i64 mid], .int .i64 mode, .bool n1] u fun r w' => r = .returned (.bool (outS mode F mid n1)) ∧ Below u.heap.size u w' := fun u => goesOut_any F ex false mid mode n1 u (by omega) pm (by omega) (by omega)
        have lX := frm_len FX
        cases t with
        | true =>
          simp only [if_true]
          obtain ⟨cw, ecv, HD⟩ := ldexp_word F ex (by omega) p2 p3 p4
          cases n1 with
          | false =>
            simp only [Bool.false_eq_true, if_false, Nat.add_zero]
            exact round_tf n e mode X e1 lX (len_ne hX) (by omega) (by omega) F cw _ 0 ex mid p1 ecv HF (hid HP) (hid HD)
          | true =>
            simp only [if_true]
            exact round_tt n e mode X e1 lX (len_ne hX) (by omega) (by omega) F cw _ _ ex mid p1 ecv HF (hid HP) (hid HD) (hid fun u => copy_word _ (by omega) u)
        | false =>
          simp only [Bool.false_eq_true, if_false]
          cases hob : outS mode F mid n1 with
          | false =>
            rw [hob] at HG
            simp only [Bool.false_eq_true, if_false]
            obtain ⟨cw, ecv, HD⟩ := ldexp_word F ex (by omega) p2 p3 p4
            cases n1 with
            | false =>
              simp only [Bool.false_eq_true, if_false, Nat.add_zero]
              exact round_fff n e mode X e1 lX (len_ne hX) (by omega) (by omega) F cw _ 0 ex mid p1 ecv HF (hid HP) (hid HG) (hid HD)
            | true =>
              simp only [if_true]
              exact round_fft n e mode X e1 lX (len_ne hX) (by omega) (by omega) F cw _ _ ex mid p1 ecv HF (hid HP) (hid HG) (hid HD) (hid fun u => copy_word _ (by omega) u)
          | true =>
            rw [hob] at HG
            simp only [if_true]
            obtain ⟨cw, ecv, HD⟩ := ldexp_word (F + 1) ex (by omega) p2 p3 (by omega)
            cases n1 with
            | false =>
              simp only [Bool.false_eq_true, if_false, Nat.add_zero]
              exact round_ftf n e mode X e1 lX (len_ne hX) (by omega) (by omega) F cw _ 0 ex mid p1 (by simpa using ecv) HF (hid HP) (hid HG) (hid HD)
            | true =>
              simp only [if_true]
              exact round_ftt n e mode X e1 lX (len_ne hX) (by omega) (by omega) F cw _ _ ex mid p1 (by simpa using ecv) HF (hid HP) (hid HG) (hid HD) (hid fun u => copy_word _ (by omega) u)

set_option maxHeartbeats 1000000 in
theorem Round_any {w : World} {a : Option Addr} {l c : Nat} {xs : List Nat} (hA : Arg w a l c xs) (hT : Tab w) (n : Bool) (e mode : Int) (he0 : -9223372036854775808 ≤ e) (he1 : e ≤ 9223372036854775807) :
    Calls Tryz.prog 43 #[.agg #[.bool n, .slice a l c, .int .i64 e], .int .i64 mode] w fun r w' => r = .returned (.tuple #[.float .f64 (rndS (mkS n (val xs) e) mode).1, .int .i64 (rndS (mkS n (val xs) e) mode).2]) ∧ Below w.heap.size w w' := by
  have hb0 := below_alloc w (.cells #[.bool n, .slice a l c, .int .i64 e] 27)
  have H := hid (round_any (hA.below hb0) (hT.belows hb0) n e mode he0 he1)
  have S0 := Aside.intro hb0
  obtain ⟨⟨K, er⟩, hK⟩ : ∃ K, rndS (mkS n (val xs) e) mode = K := ⟨_, rfl⟩
  rw [hK] at H ⊢
  simp only at H ⊢
  clear hA hT hb0 hK
  go_enter Tryz.func43, Tryz.ntmps43
  go_wp2_with fail
  refine (Calls.mono H.out) ?_
  rintro r u1 ⟨rfl, hb⟩
  have S1 := Aside.intro hb
  clear hb
  go_wp2
  go_ret2
  exact ⟨rfl, S0.out.trans (S1.out.mono (by simp))⟩
end Go.Proofs.YtdimlelcgapobaaGreatDoor

/- The law's awake (layer 3). -/
namespace Go.Proofs.YtdimlelcgapobaaGreatDoor
open Go.RowKit
set_option linter.unusedVariables false
set_option maxRecDepth 20000
set_option linter.unusedSimpArgs false
attribute [local go_sem] B.f64bits
theorem Dk.drew {w : World} {g : Nat} {n : Bool} {v : Value} {e : Int} (h : Dk w g n v e) : Dk w.drew g n v e := h
end Go.Proofs.YtdimlelcgapobaaGreatDoor

/- What the laws of layer 3 share. -/
namespace Go.Proofs.YtdimlelcgapobaaGreatDoor
open Go.RowKit
set_option linter.unusedVariables false
set_option maxRecDepth 20000

theorem Dk.but {w w' : World} {g k : Nat} {n : Bool} {v : Value} {e : Int} (h : Dk w k n v e) (hb : But g w w') (hk : k ≠ g) : Dk w' k n v e := by
  unfold Dk; rw [hb.block k h.lt hk]; exact h
end Go.Proofs.YtdimlelcgapobaaGreatDoor

/- The document's Lent, AsLent of Dyads. -/
namespace Go.Proofs.YtdimlelcgapobaaGreatDoor
open Go.RowKit
set_option linter.unusedVariables false
set_option maxRecDepth 20000
set_option linter.unusedSimpArgs false

theorem Own.st3 {w : World} {g : Nat} {L : List Nat} (h : Own w g L) (k : Nat) (hk : k ≠ g) (x y z : Value) : Own (((w.setCell ⟨k, 0, none⟩ x).setCell ⟨k, 1, none⟩ y).setCell ⟨k, 2, none⟩ z) g L :=
  ((h.setOther hk _).setOther hk _).setOther hk _

end Go.Proofs.YtdimlelcgapobaaGreatDoor

/- dyad's Sign, cmpFromTop, cmpSizes, Cmp. -/
namespace Go.Proofs.YtdimlelcgapobaaGreatDoor
open Go.RowKit
set_option linter.unusedVariables false
set_option maxRecDepth 20000
set_option linter.unusedSimpArgs false

theorem isNaN_c (x : Int) (w : World) : Calls Tryz.prog 161 #[.int .u64 x] w fun r w' => r = .returned (.bool false) ∧ w' = w := by
  go_enter Tryz.func161, Tryz.ntmps161
  go_wp2
  go_ret
  exact ⟨rfl, rfl⟩
def cmpZ (x y : Int) : Int := if x < y then -1 else if y < x then 1 else 0
theorem cmpZ_nat (x y : Nat) : cmpZ (x : Int) (y : Int) = cmpI x y := by
  unfold cmpZ cmpI
  simp only [Int.ofNat_lt]
theorem compare_w (x y : Int) (w : World) : Calls Tryz.prog 139 #[.int .u64 x, .int .u64 y] w fun r w' => r = .returned (.int .i64 (cmpZ x y)) ∧ w' = w := by
  have H : Hid (∀ x w, _) := isNaN_c
  rcases Int.lt_trichotomy x y with h | h | h
  · have e : cmpZ x y = -1 := by simp [cmpZ, h]
    rw [e]; clear e
    go_enter Tryz.func139, Tryz.ntmps139
    go_wp2_with fail
    refine (H.out _ _).mono ?_
    rintro r w1 ⟨rfl, rfl⟩
    go_wp2_with fail
    refine (H.out _ _).mono ?_
    rintro r w1 ⟨rfl, rfl⟩
    go_wp2
    go_ret
    exact ⟨rfl, rfl⟩
  · have e : cmpZ x y = 0 := by simp [cmpZ, h]
    rw [e]; clear e
    subst h
    go_enter Tryz.func139, Tryz.ntmps139
    go_wp2_with fail
    refine (H.out _ _).mono ?_
    rintro r w1 ⟨rfl, rfl⟩
    go_wp2_with fail
    refine (H.out _ _).mono ?_
    rintro r w1 ⟨rfl, rfl⟩
    go_wp2
    go_ret
    exact ⟨rfl, rfl⟩
  · have e : cmpZ x y = 1 := by unfold cmpZ; rw [if_neg (by omega), if_pos h]
    rw [e]; clear e
    have h0 : decide (x < y) = false := decide_eq_false (by omega)
    go_enter Tryz.func139, Tryz.ntmps139
    go_wp2_with fail
    refine (H.out _ _).mono ?_
    rintro r w1 ⟨rfl, rfl⟩
    go_wp2_with fail
    refine (H.out _ _).mono ?_
    rintro r w1 ⟨rfl, rfl⟩
    go_wp2
    go_ret
    exact ⟨rfl, rfl⟩

theorem compare_z (x y : Int) (w : World) : Calls Tryz.prog 95 #[.int .i64 x, .int .i64 y] w fun r w' => r = .returned (.int .i64 (cmpZ x y)) ∧ w' = w := by
  have H : Hid (∀ x w, _) := isNaN_i
  rcases Int.lt_trichotomy x y with h | h | h
  · have e : cmpZ x y = -1 := by simp [cmpZ, h]
    rw [e]; clear e
    go_enter Tryz.func95, Tryz.ntmps95
    go_wp2_with fail
    refine (H.out _ _).mono ?_
    rintro r w1 ⟨rfl, rfl⟩
    go_wp2_with fail
    refine (H.out _ _).mono ?_
    rintro r w1 ⟨rfl, rfl⟩
    go_wp2
    go_ret
    exact ⟨rfl, rfl⟩
  · have e : cmpZ x y = 0 := by simp [cmpZ, h]
    rw [e]; clear e
    subst h
    go_enter Tryz.func95, Tryz.ntmps95
    go_wp2_with fail
    refine (H.out _ _).mono ?_
    rintro r w1 ⟨rfl, rfl⟩
    go_wp2_with fail
    refine (H.out _ _).mono ?_
    rintro r w1 ⟨rfl, rfl⟩
    go_wp2
    go_ret
    exact ⟨rfl, rfl⟩
  · have e : cmpZ x y = 1 := by unfold cmpZ; rw [if_neg (by omega), if_pos h]
    rw [e]; clear e
    have h0 : decide (x < y) = false := decide_eq_false (by omega)
    go_enter Tryz.func95, Tryz.ntmps95
    go_wp2_with fail
    refine (H.out _ _).mono ?_
    rintro r w1 ⟨rfl, rfl⟩
    go_wp2_with fail
    refine (H.out _ _).mono ?_
    rintro r w1 ⟨rfl, rfl⟩
    go_wp2
    go_ret
    exact ⟨rfl, rfl⟩

set_option maxHeartbeats 2000000 in
theorem Sign_any3 {w : World} {a : Option Addr} {n c : Nat} {xs : List Nat} (h1 : Arg w a n c xs) (ng : Bool) (e : Int) :
    Calls Tryz.prog 59 #[.agg #[.bool ng, .slice a n c, .int .i64 e]] w fun r w' => r = .returned (.int .i64 (sgn ng (val xs))) ∧ Below w.heap.size w w' := by
  have hB : Below w.heap.size w (w.alloc (.cells #[.bool ng, .slice a n c, .int .i64 e] 27)) := below_alloc w _
  have A1 := h1.below hB
  have hbig := h1.big
  have H1 := hid (len_any xs a n c _ _ A1.len A1.cap (by omega) A1.wf A1.rd)
  obtain ⟨X, hX⟩ : ∃ X, val xs = X := ⟨_, rfl⟩
  rw [hX] at H1 ⊢
  have SB := Aside.intro hB
  clear hB A1 h1 hX hbig
  unfold sgn
  by_cases h0 : X = 0
  · rw [if_pos h0]
    have hb : bl X = 0 := by rw [h0, bl_zero]
    rw [hb] at H1
    clear h0 hb
    go_enter Tryz.func59, Tryz.ntmps59
    go_wp2_with fail
    refine (Calls.mono H1.out) ?_
    rintro r w1 ⟨rfl, rfl⟩
    go_wp2
    go_ret
    exact ⟨rfl, SB.out⟩
  · rw [if_neg h0]
    obtain ⟨b, hb⟩ : ∃ b, bl X = b := ⟨_, rfl⟩
    have hb0 : ((b : Int) == 0) = false := by have := bl_pos X h0; simp; omega
    rw [hb] at H1
    clear h0 hb
    cases ng
    · simp only [Bool.false_eq_true, if_false]
      go_enter Tryz.func59, Tryz.ntmps59
      go_wp2_with fail
      refine (Calls.mono H1.out) ?_
      rintro r w1 ⟨rfl, rfl⟩
      go_wp2
      go_ret
      exact ⟨rfl, SB.out⟩
    · simp only [if_true]
      go_enter Tryz.func59, Tryz.ntmps59
      go_wp2_with fail
      refine (Calls.mono H1.out) ?_
      rintro r w1 ⟨rfl, rfl⟩
      go_wp2
      go_ret
      exact ⟨rfl, SB.out⟩

set_option maxHeartbeats 4000000 in
theorem cmpFromTop_any {w : World} {a b : Option Addr} {n c m d : Nat} {xs ys : List Nat} (h1 : Arg w a n c xs) (h2 : Arg w b m d ys) (dd : Nat) (hd : bl (val xs) + dd = bl (val ys)) :
    Calls Tryz.prog 140 #[.slice a n c, .slice b m d] w fun r w' => r = .returned (.int .i64 (cmpI (val xs * 2 ^ dd) (val ys))) ∧ w' = w := by
  have hb1 := h1.big
  have hb2 := h2.big
  have H1 := hid (len_any xs a n c w.heap.size w h1.len h1.cap (by omega) h1.wf h1.rd)
  have H2 := hid (len_any ys b m d w.heap.size w h2.len h2.cap (by omega) h2.wf h2.rd)
  have b1 : bl (val xs) ≤ 32 * n := by have := val_lt xs h1.wf; rw [← h1.len] at this; exact bl_pw _ _ this
  have b2 : bl (val ys) ≤ 32 * m := by have := val_lt ys h2.wf; rw [← h2.len] at this; exact bl_pw _ _ this
  have WX : Hid (∀ i : Int, -9223372036854775808 ≤ i → i ≤ 9223372036854000000 → Calls Tryz.prog 162 #[.slice a n c, .int .i64 i] w fun r w' => r = .returned (.int .u32 ((win (val xs) i : Nat) : Int)) ∧ w' = w) := fun i h0 h3 => window_any xs a n c w.heap.size i w h1.len (by omega) h1.wf h1.rd h0 (by omega)
  have WY : Hid (∀ i : Int, -9223372036854775808 ≤ i → i ≤ 9223372036854000000 → Calls Tryz.prog 162 #[.slice b m d, .int .i64 i] w fun r w' => r = .returned (.int .u32 ((win (val ys) i : Nat) : Int)) ∧ w' = w) := fun i h0 h3 => window_any ys b m d w.heap.size i w h2.len (by omega) h2.wf h2.rd h0 (by omega)
  obtain ⟨X, hX⟩ : ∃ X, val xs = X := ⟨_, rfl⟩
  obtain ⟨Y, hY⟩ : ∃ Y, val ys = Y := ⟨_, rfl⟩
  rw [hX] at H1 b1 hd WX ⊢
  rw [hY] at H2 b2 hd WY ⊢
  have st : top X (bl X : Int) = top Y (bl Y : Int) := by rw [top_bl, top_bl]
  obtain ⟨i0, hi0⟩ : ∃ i, bl X = i := ⟨_, rfl⟩
  obtain ⟨j0, hj0⟩ : ∃ j, bl Y = j := ⟨_, rfl⟩
  rw [hi0] at H1 b1 hd st
  rw [hj0] at H2 b2 hd st
  obtain ⟨R, hR⟩ : ∃ R, cmpI (X * 2 ^ dd) Y = R := ⟨_, rfl⟩
  rw [hR]
  have HR := Aside.intro hR
  have ST := Aside.intro st
  have HD := Aside.intro hd
  have bi : (i0 : Int) ≤ 1125899906842624 := by omega
  have bj : (j0 : Int) ≤ 1125899906842624 := by omega
  clear h1 h2 hX hY hi0 hj0 st hR hd b1 b2 hb1 hb2
  go_enter Tryz.func140, Tryz.ntmps140
  go_wp2_with fail
  refine (Calls.mono H1.out) ?_
  rintro r w1 ⟨rfl, rfl⟩
  go_wp2_with fail
  refine (Calls.mono H2.out) ?_
  rintro r w1 ⟨rfl, rfl⟩
  go_wp2
  go_loopg [5, 6] (j0 + 32) (fun gk iv jv wr => ∃ i j : Int, (gk : Int) = j + 32 ∧ iv = .int .i64 i ∧ jv = .int .i64 j ∧ wr = w1 ∧ -32 ≤ j ∧ j ≤ 1125899906842624 ∧ i ≤ j ∧ -1125899906842656 ≤ i ∧ Aside (i = j - dd ∧ top X i = top Y j))
  case atStart => exact ⟨i0, j0, by omega, rfl, rfl, rfl, by omega, by omega, by have := HD.out; omega, by omega, by have := HD.out; omega, ST.out⟩
  case round =>
    obtain ⟨i, j, hgk, rfl, rfl, rfl, hj0', hj1, hij, hi0', HA⟩ := hrel
    by_cases hj : 0 < j
    · have hi2 : i - 32 ≤ 9223372036854000000 := by omega
      have hj2 : j - 32 ≤ 9223372036854000000 := by omega
      have G1 := hid (WX.out (i - 32) (by omega) hi2)
      have G2 := hid (WY.out (j - 32) (by omega) hj2)
      obtain ⟨x, hx⟩ : ∃ x, win X (i - 32) = x := ⟨_, rfl⟩
      obtain ⟨y, hy⟩ : ∃ y, win Y (j - 32) = y := ⟨_, rfl⟩
      rw [hx] at G1
      rw [hy] at G2
      have HXY := (Aside.intro (And.intro hx hy))
      have hlo : -1125899906842656 ≤ i := hi0'
      clear hx hy
      have CM := hid (compare_u x y wr)
      obtain ⟨z, hz⟩ : ∃ z, cmpI x y = z := ⟨_, rfl⟩
      rw [hz] at CM
      have HZ := Aside.intro hz
      clear hz
      by_cases hpi : 0 < i
      · by_cases h0 : z = 0
        · subst h0
          go_wp2_with fail
          refine (Calls.mono G1.out) ?_
          rintro r w2 ⟨rfl, rfl⟩
          go_wp2_with fail
          refine (Calls.mono G2.out) ?_
          rintro r w2 ⟨rfl, rfl⟩
          go_wp2_with fail
          refine (Calls.mono CM.out) ?_
          rintro r w2 ⟨rfl, rfl⟩
          go_wp2
          go_roundg (gk - 32)
          case measure => omega
          case rel =>
            refine ⟨i - 32, j - 32, by omega, by first | rfl | go_num, by first | rfl | go_num, rfl, by omega, by omega, by omega, ?_, ?_, ?_⟩
            · have := HA.out.1; have := HD.out; omega
            · have := HA.out.1; omega
            · exact top_alike HA.out.2 (by rw [HXY.out.1, HXY.out.2]; exact HZ.out)
        · have h0' : (z == 0) = false := by simpa using h0
          go_wp2_with fail
          refine (Calls.mono G1.out) ?_
          rintro r w2 ⟨rfl, rfl⟩
          go_wp2_with fail
          refine (Calls.mono G2.out) ?_
          rintro r w2 ⟨rfl, rfl⟩
          go_wp2_with fail
          refine (Calls.mono CM.out) ?_
          rintro r w2 ⟨rfl, rfl⟩
          go_wp2
          have e : z = R := by
            have h := top_differ dd HA.out.1 HA.out.2 (by rw [HXY.out.1, HXY.out.2, HZ.out]; exact h0)
            rw [HXY.out.1, HXY.out.2, HZ.out, HR.out] at h
            exact h
          subst e
          go_ret
          exact ⟨rfl, rfl⟩
      · have hpi' : decide (0 < i) = false := decide_eq_false hpi
        by_cases h0 : z = 0
        · subst h0
          go_wp2_with fail
          refine (Calls.mono G1.out) ?_
          rintro r w2 ⟨rfl, rfl⟩
          go_wp2_with fail
          refine (Calls.mono G2.out) ?_
          rintro r w2 ⟨rfl, rfl⟩
          go_wp2_with fail
          refine (Calls.mono CM.out) ?_
          rintro r w2 ⟨rfl, rfl⟩
          go_wp2
          go_roundg (gk - 32)
          case measure => omega
          case rel =>
            refine ⟨i - 32, j - 32, by omega, by first | rfl | go_num, by first | rfl | go_num, rfl, by omega, by omega, by omega, ?_, ?_, ?_⟩
            · have := HA.out.1; have := HD.out; omega
            · have := HA.out.1; omega
            · exact top_alike HA.out.2 (by rw [HXY.out.1, HXY.out.2]; exact HZ.out)
        · have h0' : (z == 0) = false := by simpa using h0
          go_wp2_with fail
          refine (Calls.mono G1.out) ?_
          rintro r w2 ⟨rfl, rfl⟩
          go_wp2_with fail
          refine (Calls.mono G2.out) ?_
          rintro r w2 ⟨rfl, rfl⟩
          go_wp2_with fail
          refine (Calls.mono CM.out) ?_
          rintro r w2 ⟨rfl, rfl⟩
          go_wp2
          have e : z = R := by
            have h := top_differ dd HA.out.1 HA.out.2 (by rw [HXY.out.1, HXY.out.2, HZ.out]; exact h0)
            rw [HXY.out.1, HXY.out.2, HZ.out, HR.out] at h
            exact h
          subst e
          go_ret
          exact ⟨rfl, rfl⟩
    · have hpi' : decide (0 < i) = false := decide_eq_false (by omega)
      have hpj' : decide (0 < j) = false := decide_eq_false (by omega)
      have e : R = 0 := by rw [← HR.out]; exact top_end dd HA.out.1 HA.out.2 (by omega)
      subst e
      go_wp2
      go_ret
      exact ⟨rfl, rfl⟩

set_option maxHeartbeats 4000000 in
theorem cmpSizes_go {w : World} {a b : Option Addr} {n c m d : Nat} (ng mg : Bool) (e f : Int) (x y dd : Nat) (R : Int) (bx : x ≤ 1125899906842624) (by' : y ≤ 1125899906842624)
    (hge : decide (e < f) = false) (hap : IntKind.u64.wrap (IntKind.u64.wrap e - IntKind.u64.wrap f) = (dd : Int))
    (H1 : Hid (∀ u, Below w.heap.size w u → Calls Tryz.prog 82 #[.slice a n c] u fun r w' => r = .returned (.int .i64 (x : Nat)) ∧ w' = u))
    (H2 : Hid (∀ u, Below w.heap.size w u → Calls Tryz.prog 82 #[.slice b m d] u fun r w' => r = .returned (.int .i64 (y : Nat)) ∧ w' = u))
    (H3 : Hid (∀ u, Below w.heap.size w u → dd + x = y → Calls Tryz.prog 140 #[.slice a n c, .slice b m d] u fun r w' => r = .returned (.int .i64 R) ∧ w' = u)) :
    Calls Tryz.prog 96 #[.agg #[.bool ng, .slice a n c, .int .i64 e], .agg #[.bool mg, .slice b m d, .int .i64 f]] w fun r w' => r = .returned (.int .i64 (if y < dd then 1 else if dd + x = y then R else cmpI (dd + x) y)) ∧ Below w.heap.size w w' := by
  obtain ⟨W1, hW1⟩ : ∃ W, W = (w.alloc (.cells #[.bool ng, .slice a n c, .int .i64 e] 27)).alloc (.cells #[.bool mg, .slice b m d, .int .i64 f] 27) := ⟨_, rfl⟩
  have hB : Below w.heap.size w W1 := by rw [hW1]; exact (below_alloc w _).alloc (by simp) _
  have DA : Dk W1 w.heap.size ng (.slice a n c) e := by rw [hW1]; exact (Dk.new w ng (.slice a n c) e).alloc _
  have DB : Dk W1 (w.heap.size + 1) mg (.slice b m d) f := by
    rw [hW1]
    have := Dk.new (w.alloc (.cells #[.bool ng, .slice a n c, .int .i64 e] 27)) mg (.slice b m d) f
    simpa using this
  obtain ⟨x0, x1, x2, xf0, xf1, xf2⟩ := DA.facts
  obtain ⟨y0, y1, y2, yf0, yf1, yf2⟩ := DB.facts
  have SB := Aside.intro hB
  clear DA DB hB
  have T1 := hid (H1.out W1 SB.out)
  have T2 := hid (H2.out W1 SB.out)
  have T1' := hid (H1.out W1.drew SB.out.drew)
  have T2' := hid (H2.out W1.drew SB.out.drew)
  have ex : IntKind.u64.wrap (x : Int) = (x : Int) := by rw [IntKind.wrap_u64]; omega
  have ey : IntKind.u64.wrap (y : Int) = (y : Int) := by rw [IntKind.wrap_u64]; omega
  by_cases h1 : y < dd
  · rw [if_pos h1]
    have h1' : (y : Int) < (dd : Int) := by omega
    go_enter Tryz.func96, Tryz.ntmps96
    go_upto_region 1 with fail
    rw [← hW1]
    clear hW1
    go_upto_region 4 with fail
    go_region_held3 (fun w' => w'.cell? ⟨w.heap.size, 1, none⟩ = some (.slice a n c) ∧ w'.cell? ⟨w.heap.size + 1, 1, none⟩ = some (.slice b m d)) (go_keep) (first
      | (go_at_call 82
         first | with_reducible refine T1.out.mono ?_ | with_reducible refine T1'.out.mono ?_ | with_reducible refine T2.out.mono ?_ | with_reducible refine T2'.out.mono ?_
         rintro r w' ⟨rfl, rfl⟩))
    all_goals (
      go_wp2
      go_ret
      first | exact ⟨rfl, SB.out⟩ | exact ⟨rfl, SB.out.drew⟩)
  · rw [if_neg h1]
    have h1' : decide ((y : Int) < (dd : Int)) = false := decide_eq_false (by omega)
    have es : IntKind.u64.wrap ((dd : Int) + (x : Int)) = (dd : Int) + (x : Int) := by rw [IntKind.wrap_u64]; omega
    by_cases h2 : dd + x = y
    · rw [if_pos h2]
      have T3 := hid (H3.out W1 SB.out h2)
      have T3' := hid (H3.out W1.drew SB.out.drew h2)
      have h2' : ((dd : Int) + (x : Int) == (y : Int)) = true := by simp; omega
      have h2'' : (dd : Int) + (x : Int) = (y : Int) := by omega
      go_enter Tryz.func96, Tryz.ntmps96
      go_upto_region 1 with fail
      rw [← hW1]
      clear hW1
      go_upto_region 4 with fail
      go_region_held3 (fun w' => w'.cell? ⟨w.heap.size, 1, none⟩ = some (.slice a n c) ∧ w'.cell? ⟨w.heap.size + 1, 1, none⟩ = some (.slice b m d)) (go_keep) (first
        | (go_at_call 82
           first | with_reducible refine T1.out.mono ?_ | with_reducible refine T1'.out.mono ?_ | with_reducible refine T2.out.mono ?_ | with_reducible refine T2'.out.mono ?_
           rintro r w' ⟨rfl, rfl⟩))
      all_goals (
        go_wp2_with fail
        first | with_reducible refine T3.out.mono ?_ | with_reducible refine T3'.out.mono ?_
        rintro r w' ⟨rfl, rfl⟩
        go_wp2
        go_ret
        first | exact ⟨rfl, SB.out⟩ | exact ⟨rfl, SB.out.drew⟩)
    · rw [if_neg h2]
      have h2' : ((dd : Int) + (x : Int) == (y : Int)) = false := by simp; omega
      have CW : Hid (∀ u, Calls Tryz.prog 139 #[.int .u64 ((dd : Int) + (x : Int)), .int .u64 (y : Int)] u fun r w' => r = .returned (.int .i64 (cmpI (dd + x) y)) ∧ w' = u) := fun u => by
        have := compare_w ((dd : Int) + (x : Int)) (y : Int) u
        rw [show (dd : Int) + (x : Int) = ((dd + x : Nat) : Int) by omega, cmpZ_nat] at this
        rw [show (dd : Int) + (x : Int) = ((dd + x : Nat) : Int) by omega]
        exact this
      obtain ⟨z, hz⟩ : ∃ z, cmpI (dd + x) y = z := ⟨_, rfl⟩
      rw [hz] at CW ⊢
      clear hz
      go_enter Tryz.func96, Tryz.ntmps96
      go_upto_region 1 with fail
      rw [← hW1]
      clear hW1
      go_upto_region 4 with fail
      go_region_held3 (fun w' => w'.cell? ⟨w.heap.size, 1, none⟩ = some (.slice a n c) ∧ w'.cell? ⟨w.heap.size + 1, 1, none⟩ = some (.slice b m d)) (go_keep) (first
        | (go_at_call 82
           first | with_reducible refine T1.out.mono ?_ | with_reducible refine T1'.out.mono ?_ | with_reducible refine T2.out.mono ?_ | with_reducible refine T2'.out.mono ?_
           rintro r w' ⟨rfl, rfl⟩))
      all_goals (
        go_wp2_with fail
        refine (CW.out _).mono ?_
        rintro r w' ⟨rfl, rfl⟩
        go_wp2
        go_ret
        first | exact ⟨rfl, SB.out⟩ | exact ⟨rfl, SB.out.drew⟩)
end Go.Proofs.YtdimlelcgapobaaGreatDoor

