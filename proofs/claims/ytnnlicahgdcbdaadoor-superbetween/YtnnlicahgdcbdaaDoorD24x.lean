/- dyad's round, Round. -/
import Derived.Test.YtnnlicahgdcbdaaDoorD18x
import Derived.Test.YtnnlicahgdcbdaaDoorS13x
import Derived.Test.YtnnlicahgdcbdaaDoorD15x
import Derived.Deep.Cut
import Derived.Deep.RegionHeld3
import Derived.Deep.RegionWith
import Derived.Deep.CutRange
import Derived.Test.YtnnlicahgdcbdaaDoorS3x
import Derived.BigQuiet
namespace Go.Proofs.YtnnlicahgdcbdaaDoor
open Go.RowKit
set_option linter.unusedVariables false
set_option maxRecDepth 20000
set_option linter.unusedSimpArgs false

theorem round_begin (w : World) (n : Bool) (v : Value) (e a b c : Int) (W : World) (hW : W = (w.alloc (.cells #[.bool n, v, .int .i64 e] 37)).alloc (.cells #[.int .i64 a, .int .i64 b, .int .i64 c] 106)) :
    Below w.heap.size w W ∧ W.heap.size = w.heap.size + 2 ∧ Dk W w.heap.size n v e ∧ Wk W (w.heap.size + 1) a b c := by
  subst hW
  refine ⟨(below_alloc w _).alloc (by simp) _, by simp, (Dk.new w n v e).alloc _, ?_⟩
  unfold Wk
  have := heap_alloc_new (w.alloc (.cells #[.bool n, v, .int .i64 e] 37)) (.cells #[.int .i64 a, .int .i64 b, .int .i64 c] 106)
  simpa using this
theorem Wk.below {w w' : World} {g : Nat} {a b c : Int} (h : Wk w g a b c) (hb : Below w.heap.size w w') : Wk w' g a b c := by
  unfold Wk; rw [hb.block g (Array.getElem?_eq_some_iff.1 h).1]; exact h

set_option maxHeartbeats 1000000 in
theorem round_mode (n : Bool) (a : Option Addr) (l c : Nat) (e mode : Int) (w : World) (hm : mode < 0 ∨ 4 < mode) :
    Calls Tryd.prog 67 #[.agg #[.bool n, .slice a l c, .int .i64 e], .int .i64 mode, .agg #[.int .i64 53, .int .i64 (-1074), .int .i64 1024]] w fun r w' => r = .returned (.tuple #[.float .f64 0, .int .i64 1]) ∧ Below w.heap.size w w' := by
  have HB := Aside.intro (show Below w.heap.size w ((w.alloc (.cells #[.bool n, .slice a l c, .int .i64 e] 37)).alloc (.cells #[.int .i64 53, .int .i64 (-1074), .int .i64 1024] 106)) from (below_alloc w _).alloc (by simp) _)
  rcases hm with h | h
  · go_enter Tryd.func67, Tryd.ntmps67
    go_wp2
    go_ret2
    exact ⟨rfl, HB.out⟩
  · have h' : decide (mode < 0) = false := decide_eq_false (by omega)
    go_enter Tryd.func67, Tryd.ntmps67
    go_wp2
    go_ret2
    exact ⟨rfl, HB.out⟩

set_option maxHeartbeats 4000000 in
theorem round_err {w : World} {a : Option Addr} {l c : Nat} (n : Bool) (e mode : Int) (n1 : Bool) (X : Nat) (e1 er : Int) (lX : (ws X).length ≤ 8192) (hm0 : 0 ≤ mode) (hm4 : mode ≤ 4) (her : (er != 0) = true)
    (HF : Hid (∀ u, Below w.heap.size w u → Calls Tryd.prog 96 #[.agg #[.bool n, .slice a l c, .int .i64 e]] u fun r w' => (∃ v, r = .returned (.tuple #[.agg #[.bool n1, v, .int .i64 e1], .int .i64 er]) ∧ Nt u.heap.size w' v X) ∧ Below u.heap.size u w')) :
    Calls Tryd.prog 67 #[.agg #[.bool n, .slice a l c, .int .i64 e], .int .i64 mode, .agg #[.int .i64 53, .int .i64 (-1074), .int .i64 1024]] w fun r w' => r = .returned (.tuple #[.float .f64 0, .int .i64 er]) ∧ Below w.heap.size w w' := by
  obtain ⟨W1, hW1⟩ : ∃ W, W = (w.alloc (.cells #[.bool n, .slice a l c, .int .i64 e] 37)).alloc (.cells #[.int .i64 53, .int .i64 (-1074), .int .i64 1024] 106) := ⟨_, rfl⟩
  obtain ⟨hB, hz1, DD, DW⟩ := round_begin w n (.slice a l c) e 53 (-1074) 1024 W1 hW1
  have H1 := hid (HF.out W1 hB)
  have SB := (Aside.intro (And.intro hB (And.intro hz1 DW)))
  clear hB hz1 DD DW HF
  go_enter Tryd.func67, Tryd.ntmps67
  go_wp2_with fail
  rw [← hW1]
  clear hW1
  refine (Calls.mono H1.out) ?_
  rintro r u1 ⟨⟨v, rfl, hN⟩, hb⟩
  obtain ⟨a1, c1, rfl, _⟩ := hN.arg (by omega)
  obtain ⟨hB, hz1, DW⟩ := SB.out
  have SF := Aside.intro (hB.trans (hb.mono (by omega)))
  have hz : w.heap.size ≤ u1.heap.size := by have := hb.size; omega
  clear hN hb H1 hB hz1 DW SB
  go_wp2
  go_ret2
  exact ⟨rfl, SF.out.alloc hz _⟩

set_option maxHeartbeats 4000000 in
theorem round_none {w : World} {a : Option Addr} {l c : Nat} (n : Bool) (e mode : Int) (n1 : Bool) (X : Nat) (e1 : Int) (lX : (ws X).length = 0) (hm0 : 0 ≤ mode) (hm4 : mode ≤ 4)
    (HF : Hid (∀ u, Below w.heap.size w u → Calls Tryd.prog 96 #[.agg #[.bool n, .slice a l c, .int .i64 e]] u fun r w' => (∃ v, r = .returned (.tuple #[.agg #[.bool n1, v, .int .i64 e1], .int .i64 0]) ∧ Nt u.heap.size w' v X) ∧ Below u.heap.size u w')) :
    Calls Tryd.prog 67 #[.agg #[.bool n, .slice a l c, .int .i64 e], .int .i64 mode, .agg #[.int .i64 53, .int .i64 (-1074), .int .i64 1024]] w fun r w' => r = .returned (.tuple #[.float .f64 0, .int .i64 0]) ∧ Below w.heap.size w w' := by
  obtain ⟨W1, hW1⟩ : ∃ W, W = (w.alloc (.cells #[.bool n, .slice a l c, .int .i64 e] 37)).alloc (.cells #[.int .i64 53, .int .i64 (-1074), .int .i64 1024] 106) := ⟨_, rfl⟩
  obtain ⟨hB, hz1, DD, DW⟩ := round_begin w n (.slice a l c) e 53 (-1074) 1024 W1 hW1
  have H1 := hid (HF.out W1 hB)
  have SB := (Aside.intro (And.intro hB (And.intro hz1 DW)))
  clear hB hz1 DD DW HF
  go_enter Tryd.func67, Tryd.ntmps67
  go_wp2_with fail
  rw [← hW1]
  clear hW1
  refine (Calls.mono H1.out) ?_
  rintro r u1 ⟨⟨v, rfl, hN⟩, hb⟩
  obtain ⟨a1, c1, rfl, _⟩ := hN.arg (by omega)
  obtain ⟨hB, hz1, DW⟩ := SB.out
  have SF := Aside.intro (hB.trans (hb.mono (by omega)))
  have hz : w.heap.size ≤ u1.heap.size := by have := hb.size; omega
  clear hN hb H1 hB hz1 DW SB
  rw [lX]
  go_wp2
  go_ret2
  exact ⟨rfl, SF.out.alloc hz _⟩

set_option maxHeartbeats 4000000 in
theorem round_tf {w : World} {a : Option Addr} {l c : Nat} (n : Bool) (e mode : Int) (X : Nat) (e1 : Int) (lX : (ws X).length ≤ 8192) (hX : ((((ws X).length : Nat) : Int) == 0) = false) (hm0 : 0 ≤ mode) (hm4 : mode ≤ 4)
    (F cw K K2 : Nat) (ex mid : Int) (hF : F ≤ 9007199254740991) (ecv : floatOfInt .f64 (F : Int) = cw)
    (HF : Hid (∀ u, Below w.heap.size w u → Calls Tryd.prog 96 #[.agg #[.bool n, .slice a l c, .int .i64 e]] u fun r w' => (∃ v, r = .returned (.tuple #[.agg #[.bool false, v, .int .i64 e1], .int .i64 0]) ∧ Nt u.heap.size w' v X) ∧ Below u.heap.size u w'))
    (HP : Hid (∀ (u : World) (p : Option Addr) (q : Nat), Arg u p (ws X).length q (ws X) → Calls Tryd.prog 97 #[.agg #[.bool false, .slice p (ws X).length q, .int .i64 e1], .agg #[.int .i64 53, .int .i64 (-1074), .int .i64 1024]] u fun r w' => r = .returned (.agg #[.int .u64 (F : Nat), .int .i64 ex, .bool true, .int .i64 mid]) ∧ Below u.heap.size u w'))
    (HD : Hid (∀ u, Calls Tryd.prog 30 #[.float .f64 cw, .int .i64 ex] u fun r w' => r = .returned (.float .f64 K) ∧ w' = u)) :
    Calls Tryd.prog 67 #[.agg #[.bool n, .slice a l c, .int .i64 e], .int .i64 mode, .agg #[.int .i64 53, .int .i64 (-1074), .int .i64 1024]] w fun r w' => r = .returned (.tuple #[.float .f64 K, .int .i64 0]) ∧ Below w.heap.size w w' := by
  obtain ⟨W1, hW1⟩ : ∃ W, W = (w.alloc (.cells #[.bool n, .slice a l c, .int .i64 e] 37)).alloc (.cells #[.int .i64 53, .int .i64 (-1074), .int .i64 1024] 106) := ⟨_, rfl⟩
  obtain ⟨hB, hz1, DD, DW⟩ := round_begin w n (.slice a l c) e 53 (-1074) 1024 W1 hW1
  have H1 := hid (HF.out W1 hB)
  have SB := (Aside.intro (And.intro hB (And.intro hz1 DW)))
  clear hB hz1 DD DW HF
  go_enter Tryd.func67, Tryd.ntmps67
  go_wp2_with fail
  rw [← hW1]
  clear hW1
  refine (Calls.mono H1.out) ?_
  rintro r u1 ⟨⟨v, rfl, hN⟩, hb⟩
  obtain ⟨a1, c1, rfl, _⟩ := hN.arg (by omega)
  obtain ⟨hB, hz1, DW⟩ := SB.out
  obtain ⟨W2, hW2⟩ : ∃ W, W = u1.alloc (.cells #[.bool false, .slice a1 (ws X).length c1, .int .i64 e1] 37) := ⟨_, rfl⟩
  have hbW : Below u1.heap.size u1 W2 := by rw [hW2]; exact below_alloc u1 _
  have D2 : Dk W2 u1.heap.size false (.slice a1 (ws X).length c1) e1 := by rw [hW2]; exact Dk.new u1 _ _ _
  have V2 : Wk W2 (w.heap.size + 1) 53 (-1074) 1024 := (DW.below hb).below hbW
  have hB2 : Below w.heap.size w W2 := (hB.trans (hb.mono (by omega))).trans (hbW.mono (by have := hb.size; omega))
  have H2 := hid (HP.out W2 a1 c1 ((hN.below hbW).arg' (by omega)).2)
  obtain ⟨x0, x1, x2, xf0, xf1, xf2⟩ := D2.facts
  obtain ⟨y0, y1, y2⟩ := V2.facts
  obtain ⟨t0, t1, t2⟩ := (DW.below hb).facts
  have hzu : w.heap.size + 1 < u1.heap.size := by have := hb.size; omega
  have hzz : w.heap.size ≤ u1.heap.size := by have := hb.size; omega
  have hz4 : u1.heap.size < W2.heap.size := D2.lt
  have S2 := (Aside.intro (And.intro hB2 D2))
  clear hN hb H1 hB hz1 DW SB hbW D2 V2 hB2 HP
  go_wp2_with fail
  rw [← hW2]
  clear hW2
  refine (Calls.mono H2.out) ?_
  rintro r u2 ⟨rfl, hb⟩
  obtain ⟨W3, hW3⟩ : ∃ W, W = u2.alloc (.cells #[.int .u64 (F : Nat), .int .i64 ex, .bool true, .int .i64 mid] 138) := ⟨_, rfl⟩
  have hbW : Below u2.heap.size u2 W3 := by rw [hW3]; exact below_alloc u2 _
  have P3 : Pk W3 u2.heap.size (F : Nat) ex true mid := by rw [hW3]; exact heap_alloc_new _ _
  have D3 := (S2.out.2.below hb).below hbW
  have hB3 : Below w.heap.size w W3 := (S2.out.1.trans (hb.mono (by omega))).trans (hbW.mono (by have := hb.size; omega))
  have hz6 : u1.heap.size < u2.heap.size := by have := hb.size; omega
  obtain ⟨q0, q1, q2, q3, qf0, qf1, qf2, qf3⟩ := P3.facts
  obtain ⟨d0, d1, d2, df0, df1, df2⟩ := D3.facts
  have hz5 : w.heap.size ≤ u2.heap.size := by omega
  have hz7 : u2.heap.size < W3.heap.size := P3.lt
  have S3 := (Aside.intro (And.intro hB3 (And.intro P3 D3)))
  clear hb hbW P3 D3 hB3 S2 H2 x0 x1 x2 xf0 xf1 xf2 y0 y1 y2
  go_upto_region 7 with fail
  rw [← hW3]
  clear hW3
  go_wp2_with fail
  try simp only [ecv]
  refine (Calls.mono (HD.out _)) ?_
  rintro r ww ⟨rfl, hw⟩
  rw [hw]
  clear hw ww HD
  go_wp2
  go_ret2
  exact ⟨rfl, S3.out.1⟩

set_option maxHeartbeats 4000000 in
theorem round_tt {w : World} {a : Option Addr} {l c : Nat} (n : Bool) (e mode : Int) (X : Nat) (e1 : Int) (lX : (ws X).length ≤ 8192) (hX : ((((ws X).length : Nat) : Int) == 0) = false) (hm0 : 0 ≤ mode) (hm4 : mode ≤ 4)
    (F cw K K2 : Nat) (ex mid : Int) (hF : F ≤ 9007199254740991) (ecv : floatOfInt .f64 (F : Int) = cw)
    (HF : Hid (∀ u, Below w.heap.size w u → Calls Tryd.prog 96 #[.agg #[.bool n, .slice a l c, .int .i64 e]] u fun r w' => (∃ v, r = .returned (.tuple #[.agg #[.bool true, v, .int .i64 e1], .int .i64 0]) ∧ Nt u.heap.size w' v X) ∧ Below u.heap.size u w'))
    (HP : Hid (∀ (u : World) (p : Option Addr) (q : Nat), Arg u p (ws X).length q (ws X) → Calls Tryd.prog 97 #[.agg #[.bool true, .slice p (ws X).length q, .int .i64 e1], .agg #[.int .i64 53, .int .i64 (-1074), .int .i64 1024]] u fun r w' => r = .returned (.agg #[.int .u64 (F : Nat), .int .i64 ex, .bool true, .int .i64 mid]) ∧ Below u.heap.size u w'))
    (HD : Hid (∀ u, Calls Tryd.prog 30 #[.float .f64 cw, .int .i64 ex] u fun r w' => r = .returned (.float .f64 K) ∧ w' = u))
    (HC : Hid (∀ u, Calls Tryd.prog 52 #[.float .f64 K, .float .f64 13830554455654793216] u fun r w' => r = .returned (.float .f64 K2) ∧ w' = u)) :
    Calls Tryd.prog 67 #[.agg #[.bool n, .slice a l c, .int .i64 e], .int .i64 mode, .agg #[.int .i64 53, .int .i64 (-1074), .int .i64 1024]] w fun r w' => r = .returned (.tuple #[.float .f64 K2, .int .i64 0]) ∧ Below w.heap.size w w' := by
  obtain ⟨W1, hW1⟩ : ∃ W, W = (w.alloc (.cells #[.bool n, .slice a l c, .int .i64 e] 37)).alloc (.cells #[.int .i64 53, .int .i64 (-1074), .int .i64 1024] 106) := ⟨_, rfl⟩
  obtain ⟨hB, hz1, DD, DW⟩ := round_begin w n (.slice a l c) e 53 (-1074) 1024 W1 hW1
  have H1 := hid (HF.out W1 hB)
  have SB := (Aside.intro (And.intro hB (And.intro hz1 DW)))
  clear hB hz1 DD DW HF
  go_enter Tryd.func67, Tryd.ntmps67
  go_wp2_with fail
  rw [← hW1]
  clear hW1
  refine (Calls.mono H1.out) ?_
  rintro r u1 ⟨⟨v, rfl, hN⟩, hb⟩
  obtain ⟨a1, c1, rfl, _⟩ := hN.arg (by omega)
  obtain ⟨hB, hz1, DW⟩ := SB.out
  obtain ⟨W2, hW2⟩ : ∃ W, W = u1.alloc (.cells #[.bool true, .slice a1 (ws X).length c1, .int .i64 e1] 37) := ⟨_, rfl⟩
  have hbW : Below u1.heap.size u1 W2 := by rw [hW2]; exact below_alloc u1 _
  have D2 : Dk W2 u1.heap.size true (.slice a1 (ws X).length c1) e1 := by rw [hW2]; exact Dk.new u1 _ _ _
  have V2 : Wk W2 (w.heap.size + 1) 53 (-1074) 1024 := (DW.below hb).below hbW
  have hB2 : Below w.heap.size w W2 := (hB.trans (hb.mono (by omega))).trans (hbW.mono (by have := hb.size; omega))
  have H2 := hid (HP.out W2 a1 c1 ((hN.below hbW).arg' (by omega)).2)
  obtain ⟨x0, x1, x2, xf0, xf1, xf2⟩ := D2.facts
  obtain ⟨y0, y1, y2⟩ := V2.facts
  obtain ⟨t0, t1, t2⟩ := (DW.below hb).facts
  have hzu : w.heap.size + 1 < u1.heap.size := by have := hb.size; omega
  have hzz : w.heap.size ≤ u1.heap.size := by have := hb.size; omega
  have hz4 : u1.heap.size < W2.heap.size := D2.lt
  have S2 := (Aside.intro (And.intro hB2 D2))
  clear hN hb H1 hB hz1 DW SB hbW D2 V2 hB2 HP
  go_wp2_with fail
  rw [← hW2]
  clear hW2
  refine (Calls.mono H2.out) ?_
  rintro r u2 ⟨rfl, hb⟩
  obtain ⟨W3, hW3⟩ : ∃ W, W = u2.alloc (.cells #[.int .u64 (F : Nat), .int .i64 ex, .bool true, .int .i64 mid] 138) := ⟨_, rfl⟩
  have hbW : Below u2.heap.size u2 W3 := by rw [hW3]; exact below_alloc u2 _
  have P3 : Pk W3 u2.heap.size (F : Nat) ex true mid := by rw [hW3]; exact heap_alloc_new _ _
  have D3 := (S2.out.2.below hb).below hbW
  have hB3 : Below w.heap.size w W3 := (S2.out.1.trans (hb.mono (by omega))).trans (hbW.mono (by have := hb.size; omega))
  have hz6 : u1.heap.size < u2.heap.size := by have := hb.size; omega
  obtain ⟨q0, q1, q2, q3, qf0, qf1, qf2, qf3⟩ := P3.facts
  obtain ⟨d0, d1, d2, df0, df1, df2⟩ := D3.facts
  have hz5 : w.heap.size ≤ u2.heap.size := by omega
  have hz7 : u2.heap.size < W3.heap.size := P3.lt
  have S3 := (Aside.intro (And.intro hB3 (And.intro P3 D3)))
  clear hb hbW P3 D3 hB3 S2 H2 x0 x1 x2 xf0 xf1 xf2 y0 y1 y2
  go_upto_region 7 with fail
  rw [← hW3]
  clear hW3
  go_wp2_with fail
  try simp only [ecv]
  refine (Calls.mono (HD.out _)) ?_
  rintro r ww ⟨rfl, hw⟩
  rw [hw]
  clear hw ww HD
  go_wp2_with fail
  refine (Calls.mono (HC.out _)) ?_
  rintro r ww ⟨rfl, hw⟩
  rw [hw]
  clear hw ww HC
  go_wp2
  go_ret2
  exact ⟨rfl, S3.out.1⟩

set_option maxHeartbeats 4000000 in
theorem round_fff {w : World} {a : Option Addr} {l c : Nat} (n : Bool) (e mode : Int) (X : Nat) (e1 : Int) (lX : (ws X).length ≤ 8192) (hX : ((((ws X).length : Nat) : Int) == 0) = false) (hm0 : 0 ≤ mode) (hm4 : mode ≤ 4)
    (F cw K K2 : Nat) (ex mid : Int) (hF : F ≤ 9007199254740991) (ecv : floatOfInt .f64 (F : Int) = cw)
    (HF : Hid (∀ u, Below w.heap.size w u → Calls Tryd.prog 96 #[.agg #[.bool n, .slice a l c, .int .i64 e]] u fun r w' => (∃ v, r = .returned (.tuple #[.agg #[.bool false, v, .int .i64 e1], .int .i64 0]) ∧ Nt u.heap.size w' v X) ∧ Below u.heap.size u w'))
    (HP : Hid (∀ (u : World) (p : Option Addr) (q : Nat), Arg u p (ws X).length q (ws X) → Calls Tryd.prog 97 #[.agg #[.bool false, .slice p (ws X).length q, .int .i64 e1], .agg #[.int .i64 53, .int .i64 (-1074), .int .i64 1024]] u fun r w' => r = .returned (.agg #[.int .u64 (F : Nat), .int .i64 ex, .bool false, .int .i64 mid]) ∧ Below u.heap.size u w'))
    (HG : Hid (∀ u, Calls Tryd.prog 98 #[.agg #[.int .u64 (F : Nat), .int .i64 ex, .bool false, .int .i64 mid], .int .i64 mode, .bool false] u fun r w' => r = .returned (.bool false) ∧ Below u.heap.size u w'))
    (HD : Hid (∀ u, Calls Tryd.prog 30 #[.float .f64 cw, .int .i64 ex] u fun r w' => r = .returned (.float .f64 K) ∧ w' = u)) :
    Calls Tryd.prog 67 #[.agg #[.bool n, .slice a l c, .int .i64 e], .int .i64 mode, .agg #[.int .i64 53, .int .i64 (-1074), .int .i64 1024]] w fun r w' => r = .returned (.tuple #[.float .f64 K, .int .i64 0]) ∧ Below w.heap.size w w' := by
  obtain ⟨W1, hW1⟩ : ∃ W, W = (w.alloc (.cells #[.bool n, .slice a l c, .int .i64 e] 37)).alloc (.cells #[.int .i64 53, .int .i64 (-1074), .int .i64 1024] 106) := ⟨_, rfl⟩
  obtain ⟨hB, hz1, DD, DW⟩ := round_begin w n (.slice a l c) e 53 (-1074) 1024 W1 hW1
  have H1 := hid (HF.out W1 hB)
  have SB := (Aside.intro (And.intro hB (And.intro hz1 DW)))
  clear hB hz1 DD DW HF
  go_enter Tryd.func67, Tryd.ntmps67
  go_wp2_with fail
  rw [← hW1]
  clear hW1
  refine (Calls.mono H1.out) ?_
  rintro r u1 ⟨⟨v, rfl, hN⟩, hb⟩
  obtain ⟨a1, c1, rfl, _⟩ := hN.arg (by omega)
  obtain ⟨hB, hz1, DW⟩ := SB.out
  obtain ⟨W2, hW2⟩ : ∃ W, W = u1.alloc (.cells #[.bool false, .slice a1 (ws X).length c1, .int .i64 e1] 37) := ⟨_, rfl⟩
  have hbW : Below u1.heap.size u1 W2 := by rw [hW2]; exact below_alloc u1 _
  have D2 : Dk W2 u1.heap.size false (.slice a1 (ws X).length c1) e1 := by rw [hW2]; exact Dk.new u1 _ _ _
  have V2 : Wk W2 (w.heap.size + 1) 53 (-1074) 1024 := (DW.below hb).below hbW
  have hB2 : Below w.heap.size w W2 := (hB.trans (hb.mono (by omega))).trans (hbW.mono (by have := hb.size; omega))
  have H2 := hid (HP.out W2 a1 c1 ((hN.below hbW).arg' (by omega)).2)
  obtain ⟨x0, x1, x2, xf0, xf1, xf2⟩ := D2.facts
  obtain ⟨y0, y1, y2⟩ := V2.facts
  obtain ⟨t0, t1, t2⟩ := (DW.below hb).facts
  have hzu : w.heap.size + 1 < u1.heap.size := by have := hb.size; omega
  have hzz : w.heap.size ≤ u1.heap.size := by have := hb.size; omega
  have hz4 : u1.heap.size < W2.heap.size := D2.lt
  have S2 := (Aside.intro (And.intro hB2 D2))
  clear hN hb H1 hB hz1 DW SB hbW D2 V2 hB2 HP
  go_wp2_with fail
  rw [← hW2]
  clear hW2
  refine (Calls.mono H2.out) ?_
  rintro r u2 ⟨rfl, hb⟩
  obtain ⟨W3, hW3⟩ : ∃ W, W = u2.alloc (.cells #[.int .u64 (F : Nat), .int .i64 ex, .bool false, .int .i64 mid] 138) := ⟨_, rfl⟩
  have hbW : Below u2.heap.size u2 W3 := by rw [hW3]; exact below_alloc u2 _
  have P3 : Pk W3 u2.heap.size (F : Nat) ex false mid := by rw [hW3]; exact heap_alloc_new _ _
  have D3 := (S2.out.2.below hb).below hbW
  have hB3 : Below w.heap.size w W3 := (S2.out.1.trans (hb.mono (by omega))).trans (hbW.mono (by have := hb.size; omega))
  have hz6 : u1.heap.size < u2.heap.size := by have := hb.size; omega
  obtain ⟨q0, q1, q2, q3, qf0, qf1, qf2, qf3⟩ := P3.facts
  obtain ⟨d0, d1, d2, df0, df1, df2⟩ := D3.facts
  have hz5 : w.heap.size ≤ u2.heap.size := by omega
  have hz7 : u2.heap.size < W3.heap.size := P3.lt
  have S3 := (Aside.intro (And.intro hB3 (And.intro P3 D3)))
  clear hb hbW P3 D3 hB3 S2 H2 x0 x1 x2 xf0 xf1 xf2 y0 y1 y2
  go_upto_region 7 with fail
  rw [← hW3]
  clear hW3
  go_wp2_with fail
  refine (Calls.mono (HG.out _)) ?_
  rintro r u3 ⟨rfl, hb⟩
  have P4 := S3.out.2.1.below hb
  have D4 := S3.out.2.2.below hb
  have hB4 : Below w.heap.size w u3 := S3.out.1.trans (hb.mono (by omega))
  have hz8 : w.heap.size ≤ u3.heap.size := by have := hb.size; omega
  obtain ⟨r0, r1, r2, r3, rf0, rf1, rf2, rf3⟩ := P4.facts
  obtain ⟨s0, s1, s2, sf0, sf1, sf2⟩ := D4.facts
  have S4 := Aside.intro hB4
  clear hb P4 D4 hB4 S3 HG q0 q1 q2 q3 qf0 qf1 qf2 qf3 d0 d1 d2 df0 df1 df2
  go_wp2_with fail
  try simp only [ecv]
  refine (Calls.mono (HD.out _)) ?_
  rintro r ww ⟨rfl, hw⟩
  rw [hw]
  clear hw ww HD
  go_wp2
  go_ret2
  exact ⟨rfl, S4.out⟩

set_option maxHeartbeats 4000000 in
theorem round_fft {w : World} {a : Option Addr} {l c : Nat} (n : Bool) (e mode : Int) (X : Nat) (e1 : Int) (lX : (ws X).length ≤ 8192) (hX : ((((ws X).length : Nat) : Int) == 0) = false) (hm0 : 0 ≤ mode) (hm4 : mode ≤ 4)
    (F cw K K2 : Nat) (ex mid : Int) (hF : F ≤ 9007199254740991) (ecv : floatOfInt .f64 (F : Int) = cw)
    (HF : Hid (∀ u, Below w.heap.size w u → Calls Tryd.prog 96 #[.agg #[.bool n, .slice a l c, .int .i64 e]] u fun r w' => (∃ v, r = .returned (.tuple #[.agg #[.bool true, v, .int .i64 e1], .int .i64 0]) ∧ Nt u.heap.size w' v X) ∧ Below u.heap.size u w'))
    (HP : Hid (∀ (u : World) (p : Option Addr) (q : Nat), Arg u p (ws X).length q (ws X) → Calls Tryd.prog 97 #[.agg #[.bool true, .slice p (ws X).length q, .int .i64 e1], .agg #[.int .i64 53, .int .i64 (-1074), .int .i64 1024]] u fun r w' => r = .returned (.agg #[.int .u64 (F : Nat), .int .i64 ex, .bool false, .int .i64 mid]) ∧ Below u.heap.size u w'))
    (HG : Hid (∀ u, Calls Tryd.prog 98 #[.agg #[.int .u64 (F : Nat), .int .i64 ex, .bool false, .int .i64 mid], .int .i64 mode, .bool true] u fun r w' => r = .returned (.bool false) ∧ Below u.heap.size u w'))
    (HD : Hid (∀ u, Calls Tryd.prog 30 #[.float .f64 cw, .int .i64 ex] u fun r w' => r = .returned (.float .f64 K) ∧ w' = u))
    (HC : Hid (∀ u, Calls Tryd.prog 52 #[.float .f64 K, .float .f64 13830554455654793216] u fun r w' => r = .returned (.float .f64 K2) ∧ w' = u)) :
    Calls Tryd.prog 67 #[.agg #[.bool n, .slice a l c, .int .i64 e], .int .i64 mode, .agg #[.int .i64 53, .int .i64 (-1074), .int .i64 1024]] w fun r w' => r = .returned (.tuple #[.float .f64 K2, .int .i64 0]) ∧ Below w.heap.size w w' := by
  obtain ⟨W1, hW1⟩ : ∃ W, W = (w.alloc (.cells #[.bool n, .slice a l c, .int .i64 e] 37)).alloc (.cells #[.int .i64 53, .int .i64 (-1074), .int .i64 1024] 106) := ⟨_, rfl⟩
  obtain ⟨hB, hz1, DD, DW⟩ := round_begin w n (.slice a l c) e 53 (-1074) 1024 W1 hW1
  have H1 := hid (HF.out W1 hB)
  have SB := (Aside.intro (And.intro hB (And.intro hz1 DW)))
  clear hB hz1 DD DW HF
  go_enter Tryd.func67, Tryd.ntmps67
  go_wp2_with fail
  rw [← hW1]
  clear hW1
  refine (Calls.mono H1.out) ?_
  rintro r u1 ⟨⟨v, rfl, hN⟩, hb⟩
  obtain ⟨a1, c1, rfl, _⟩ := hN.arg (by omega)
  obtain ⟨hB, hz1, DW⟩ := SB.out
  obtain ⟨W2, hW2⟩ : ∃ W, W = u1.alloc (.cells #[.bool true, .slice a1 (ws X).length c1, .int .i64 e1] 37) := ⟨_, rfl⟩
  have hbW : Below u1.heap.size u1 W2 := by rw [hW2]; exact below_alloc u1 _
  have D2 : Dk W2 u1.heap.size true (.slice a1 (ws X).length c1) e1 := by rw [hW2]; exact Dk.new u1 _ _ _
  have V2 : Wk W2 (w.heap.size + 1) 53 (-1074) 1024 := (DW.below hb).below hbW
  have hB2 : Below w.heap.size w W2 := (hB.trans (hb.mono (by omega))).trans (hbW.mono (by have := hb.size; omega))
  have H2 := hid (HP.out W2 a1 c1 ((hN.below hbW).arg' (by omega)).2)
  obtain ⟨x0, x1, x2, xf0, xf1, xf2⟩ := D2.facts
  obtain ⟨y0, y1, y2⟩ := V2.facts
  obtain ⟨t0, t1, t2⟩ := (DW.below hb).facts
  have hzu : w.heap.size + 1 < u1.heap.size := by have := hb.size; omega
  have hzz : w.heap.size ≤ u1.heap.size := by have := hb.size; omega
  have hz4 : u1.heap.size < W2.heap.size := D2.lt
  have S2 := (Aside.intro (And.intro hB2 D2))
  clear hN hb H1 hB hz1 DW SB hbW D2 V2 hB2 HP
  go_wp2_with fail
  rw [← hW2]
  clear hW2
  refine (Calls.mono H2.out) ?_
  rintro r u2 ⟨rfl, hb⟩
  obtain ⟨W3, hW3⟩ : ∃ W, W = u2.alloc (.cells #[.int .u64 (F : Nat), .int .i64 ex, .bool false, .int .i64 mid] 138) := ⟨_, rfl⟩
  have hbW : Below u2.heap.size u2 W3 := by rw [hW3]; exact below_alloc u2 _
  have P3 : Pk W3 u2.heap.size (F : Nat) ex false mid := by rw [hW3]; exact heap_alloc_new _ _
  have D3 := (S2.out.2.below hb).below hbW
  have hB3 : Below w.heap.size w W3 := (S2.out.1.trans (hb.mono (by omega))).trans (hbW.mono (by have := hb.size; omega))
  have hz6 : u1.heap.size < u2.heap.size := by have := hb.size; omega
  obtain ⟨q0, q1, q2, q3, qf0, qf1, qf2, qf3⟩ := P3.facts
  obtain ⟨d0, d1, d2, df0, df1, df2⟩ := D3.facts
  have hz5 : w.heap.size ≤ u2.heap.size := by omega
  have hz7 : u2.heap.size < W3.heap.size := P3.lt
  have S3 := (Aside.intro (And.intro hB3 (And.intro P3 D3)))
  clear hb hbW P3 D3 hB3 S2 H2 x0 x1 x2 xf0 xf1 xf2 y0 y1 y2
  go_upto_region 7 with fail
  rw [← hW3]
  clear hW3
  go_wp2_with fail
  refine (Calls.mono (HG.out _)) ?_
  rintro r u3 ⟨rfl, hb⟩
  have P4 := S3.out.2.1.below hb
  have D4 := S3.out.2.2.below hb
  have hB4 : Below w.heap.size w u3 := S3.out.1.trans (hb.mono (by omega))
  have hz8 : w.heap.size ≤ u3.heap.size := by have := hb.size; omega
  obtain ⟨r0, r1, r2, r3, rf0, rf1, rf2, rf3⟩ := P4.facts
  obtain ⟨s0, s1, s2, sf0, sf1, sf2⟩ := D4.facts
  have S4 := Aside.intro hB4
  clear hb P4 D4 hB4 S3 HG q0 q1 q2 q3 qf0 qf1 qf2 qf3 d0 d1 d2 df0 df1 df2
  go_wp2_with fail
  try simp only [ecv]
  refine (Calls.mono (HD.out _)) ?_
  rintro r ww ⟨rfl, hw⟩
  rw [hw]
  clear hw ww HD
  go_wp2_with fail
  refine (Calls.mono (HC.out _)) ?_
  rintro r ww ⟨rfl, hw⟩
  rw [hw]
  clear hw ww HC
  go_wp2
  go_ret2
  exact ⟨rfl, S4.out⟩

set_option maxHeartbeats 4000000 in
theorem round_ftf {w : World} {a : Option Addr} {l c : Nat} (n : Bool) (e mode : Int) (X : Nat) (e1 : Int) (lX : (ws X).length ≤ 8192) (hX : ((((ws X).length : Nat) : Int) == 0) = false) (hm0 : 0 ≤ mode) (hm4 : mode ≤ 4)
    (F cw K K2 : Nat) (ex mid : Int) (hF : F ≤ 9007199254740991) (ecv : floatOfInt .f64 ((F : Int) + 1) = cw)
    (HF : Hid (∀ u, Below w.heap.size w u → Calls Tryd.prog 96 #[.agg #[.bool n, .slice a l c, .int .i64 e]] u fun r w' => (∃ v, r = .returned (.tuple #[.agg #[.bool false, v, .int .i64 e1], .int .i64 0]) ∧ Nt u.heap.size w' v X) ∧ Below u.heap.size u w'))
    (HP : Hid (∀ (u : World) (p : Option Addr) (q : Nat), Arg u p (ws X).length q (ws X) → Calls Tryd.prog 97 #[.agg #[.bool false, .slice p (ws X).length q, .int .i64 e1], .agg #[.int .i64 53, .int .i64 (-1074), .int .i64 1024]] u fun r w' => r = .returned (.agg #[.int .u64 (F : Nat), .int .i64 ex, .bool false, .int .i64 mid]) ∧ Below u.heap.size u w'))
    (HG : Hid (∀ u, Calls Tryd.prog 98 #[.agg #[.int .u64 (F : Nat), .int .i64 ex, .bool false, .int .i64 mid], .int .i64 mode, .bool false] u fun r w' => r = .returned (.bool true) ∧ Below u.heap.size u w'))
    (HD : Hid (∀ u, Calls Tryd.prog 30 #[.float .f64 cw, .int .i64 ex] u fun r w' => r = .returned (.float .f64 K) ∧ w' = u)) :
    Calls Tryd.prog 67 #[.agg #[.bool n, .slice a l c, .int .i64 e], .int .i64 mode, .agg #[.int .i64 53, .int .i64 (-1074), .int .i64 1024]] w fun r w' => r = .returned (.tuple #[.float .f64 K, .int .i64 0]) ∧ Below w.heap.size w w' := by
  obtain ⟨W1, hW1⟩ : ∃ W, W = (w.alloc (.cells #[.bool n, .slice a l c, .int .i64 e] 37)).alloc (.cells #[.int .i64 53, .int .i64 (-1074), .int .i64 1024] 106) := ⟨_, rfl⟩
  obtain ⟨hB, hz1, DD, DW⟩ := round_begin w n (.slice a l c) e 53 (-1074) 1024 W1 hW1
  have H1 := hid (HF.out W1 hB)
  have SB := (Aside.intro (And.intro hB (And.intro hz1 DW)))
  clear hB hz1 DD DW HF
  go_enter Tryd.func67, Tryd.ntmps67
  go_wp2_with fail
  rw [← hW1]
  clear hW1
  refine (Calls.mono H1.out) ?_
  rintro r u1 ⟨⟨v, rfl, hN⟩, hb⟩
  obtain ⟨a1, c1, rfl, _⟩ := hN.arg (by omega)
  obtain ⟨hB, hz1, DW⟩ := SB.out
  obtain ⟨W2, hW2⟩ : ∃ W, W = u1.alloc (.cells #[.bool false, .slice a1 (ws X).length c1, .int .i64 e1] 37) := ⟨_, rfl⟩
  have hbW : Below u1.heap.size u1 W2 := by rw [hW2]; exact below_alloc u1 _
  have D2 : Dk W2 u1.heap.size false (.slice a1 (ws X).length c1) e1 := by rw [hW2]; exact Dk.new u1 _ _ _
  have V2 : Wk W2 (w.heap.size + 1) 53 (-1074) 1024 := (DW.below hb).below hbW
  have hB2 : Below w.heap.size w W2 := (hB.trans (hb.mono (by omega))).trans (hbW.mono (by have := hb.size; omega))
  have H2 := hid (HP.out W2 a1 c1 ((hN.below hbW).arg' (by omega)).2)
  obtain ⟨x0, x1, x2, xf0, xf1, xf2⟩ := D2.facts
  obtain ⟨y0, y1, y2⟩ := V2.facts
  obtain ⟨t0, t1, t2⟩ := (DW.below hb).facts
  have hzu : w.heap.size + 1 < u1.heap.size := by have := hb.size; omega
  have hzz : w.heap.size ≤ u1.heap.size := by have := hb.size; omega
  have hz4 : u1.heap.size < W2.heap.size := D2.lt
  have S2 := (Aside.intro (And.intro hB2 D2))
  clear hN hb H1 hB hz1 DW SB hbW D2 V2 hB2 HP
  go_wp2_with fail
  rw [← hW2]
  clear hW2
  refine (Calls.mono H2.out) ?_
  rintro r u2 ⟨rfl, hb⟩
  obtain ⟨W3, hW3⟩ : ∃ W, W = u2.alloc (.cells #[.int .u64 (F : Nat), .int .i64 ex, .bool false, .int .i64 mid] 138) := ⟨_, rfl⟩
  have hbW : Below u2.heap.size u2 W3 := by rw [hW3]; exact below_alloc u2 _
  have P3 : Pk W3 u2.heap.size (F : Nat) ex false mid := by rw [hW3]; exact heap_alloc_new _ _
  have D3 := (S2.out.2.below hb).below hbW
  have hB3 : Below w.heap.size w W3 := (S2.out.1.trans (hb.mono (by omega))).trans (hbW.mono (by have := hb.size; omega))
  have hz6 : u1.heap.size < u2.heap.size := by have := hb.size; omega
  obtain ⟨q0, q1, q2, q3, qf0, qf1, qf2, qf3⟩ := P3.facts
  obtain ⟨d0, d1, d2, df0, df1, df2⟩ := D3.facts
  have hz5 : w.heap.size ≤ u2.heap.size := by omega
  have hz7 : u2.heap.size < W3.heap.size := P3.lt
  have S3 := (Aside.intro (And.intro hB3 (And.intro P3 D3)))
  clear hb hbW P3 D3 hB3 S2 H2 x0 x1 x2 xf0 xf1 xf2 y0 y1 y2
  go_upto_region 7 with fail
  rw [← hW3]
  clear hW3
  go_wp2_with fail
  refine (Calls.mono (HG.out _)) ?_
  rintro r u3 ⟨rfl, hb⟩
  have P4 := S3.out.2.1.below hb
  have D4 := S3.out.2.2.below hb
  have hB4 : Below w.heap.size w u3 := S3.out.1.trans (hb.mono (by omega))
  have hz8 : w.heap.size ≤ u3.heap.size := by have := hb.size; omega
  obtain ⟨r0, r1, r2, r3, rf0, rf1, rf2, rf3⟩ := P4.facts
  obtain ⟨s0, s1, s2, sf0, sf1, sf2⟩ := D4.facts
  have S4 := Aside.intro hB4
  clear hb P4 D4 hB4 S3 HG q0 q1 q2 q3 qf0 qf1 qf2 qf3 d0 d1 d2 df0 df1 df2
  go_wp2_with fail
  try simp only [ecv]
  refine (Calls.mono (HD.out _)) ?_
  rintro r ww ⟨rfl, hw⟩
  rw [hw]
  clear hw ww HD
  go_wp2
  go_ret2
  exact ⟨rfl, Below.setC S4.out _ _ _ hz5 hz8⟩

set_option maxHeartbeats 4000000 in
theorem round_ftt {w : World} {a : Option Addr} {l c : Nat} (n : Bool) (e mode : Int) (X : Nat) (e1 : Int) (lX : (ws X).length ≤ 8192) (hX : ((((ws X).length : Nat) : Int) == 0) = false) (hm0 : 0 ≤ mode) (hm4 : mode ≤ 4)
    (F cw K K2 : Nat) (ex mid : Int) (hF : F ≤ 9007199254740991) (ecv : floatOfInt .f64 ((F : Int) + 1) = cw)
    (HF : Hid (∀ u, Below w.heap.size w u → Calls Tryd.prog 96 #[.agg #[.bool n, .slice a l c, .int .i64 e]] u fun r w' => (∃ v, r = .returned (.tuple #[.agg #[.bool true, v, .int .i64 e1], .int .i64 0]) ∧ Nt u.heap.size w' v X) ∧ Below u.heap.size u w'))
    (HP : Hid (∀ (u : World) (p : Option Addr) (q : Nat), Arg u p (ws X).length q (ws X) → Calls Tryd.prog 97 #[.agg #[.bool true, .slice p (ws X).length q, .int .i64 e1], .agg #[.int .i64 53, .int .i64 (-1074), .int .i64 1024]] u fun r w' => r = .returned (.agg #[.int .u64 (F : Nat), .int .i64 ex, .bool false, .int .i64 mid]) ∧ Below u.heap.size u w'))
    (HG : Hid (∀ u, Calls Tryd.prog 98 #[.agg #[.int .u64 (F : Nat), .int .i64 ex, .bool false, .int .i64 mid], .int .i64 mode, .bool true] u fun r w' => r = .returned (.bool true) ∧ Below u.heap.size u w'))
    (HD : Hid (∀ u, Calls Tryd.prog 30 #[.float .f64 cw, .int .i64 ex] u fun r w' => r = .returned (.float .f64 K) ∧ w' = u))
    (HC : Hid (∀ u, Calls Tryd.prog 52 #[.float .f64 K, .float .f64 13830554455654793216] u fun r w' => r = .returned (.float .f64 K2) ∧ w' = u)) :
    Calls Tryd.prog 67 #[.agg #[.bool n, .slice a l c, .int .i64 e], .int .i64 mode, .agg #[.int .i64 53, .int .i64 (-1074), .int .i64 1024]] w fun r w' => r = .returned (.tuple #[.float .f64 K2, .int .i64 0]) ∧ Below w.heap.size w w' := by
  obtain ⟨W1, hW1⟩ : ∃ W, W = (w.alloc (.cells #[.bool n, .slice a l c, .int .i64 e] 37)).alloc (.cells #[.int .i64 53, .int .i64 (-1074), .int .i64 1024] 106) := ⟨_, rfl⟩
  obtain ⟨hB, hz1, DD, DW⟩ := round_begin w n (.slice a l c) e 53 (-1074) 1024 W1 hW1
  have H1 := hid (HF.out W1 hB)
  have SB := (Aside.intro (And.intro hB (And.intro hz1 DW)))
  clear hB hz1 DD DW HF
  go_enter Tryd.func67, Tryd.ntmps67
  go_wp2_with fail
  rw [← hW1]
  clear hW1
  refine (Calls.mono H1.out) ?_
  rintro r u1 ⟨⟨v, rfl, hN⟩, hb⟩
  obtain ⟨a1, c1, rfl, _⟩ := hN.arg (by omega)
  obtain ⟨hB, hz1, DW⟩ := SB.out
  obtain ⟨W2, hW2⟩ : ∃ W, W = u1.alloc (.cells #[.bool true, .slice a1 (ws X).length c1, .int .i64 e1] 37) := ⟨_, rfl⟩
  have hbW : Below u1.heap.size u1 W2 := by rw [hW2]; exact below_alloc u1 _
  have D2 : Dk W2 u1.heap.size true (.slice a1 (ws X).length c1) e1 := by rw [hW2]; exact Dk.new u1 _ _ _
  have V2 : Wk W2 (w.heap.size + 1) 53 (-1074) 1024 := (DW.below hb).below hbW
  have hB2 : Below w.heap.size w W2 := (hB.trans (hb.mono (by omega))).trans (hbW.mono (by have := hb.size; omega))
  have H2 := hid (HP.out W2 a1 c1 ((hN.below hbW).arg' (by omega)).2)
  obtain ⟨x0, x1, x2, xf0, xf1, xf2⟩ := D2.facts
  obtain ⟨y0, y1, y2⟩ := V2.facts
  obtain ⟨t0, t1, t2⟩ := (DW.below hb).facts
  have hzu : w.heap.size + 1 < u1.heap.size := by have := hb.size; omega
  have hzz : w.heap.size ≤ u1.heap.size := by have := hb.size; omega
  have hz4 : u1.heap.size < W2.heap.size := D2.lt
  have S2 := (Aside.intro (And.intro hB2 D2))
  clear hN hb H1 hB hz1 DW SB hbW D2 V2 hB2 HP
  go_wp2_with fail
  rw [← hW2]
  clear hW2
  refine (Calls.mono H2.out) ?_
  rintro r u2 ⟨rfl, hb⟩
  obtain ⟨W3, hW3⟩ : ∃ W, W = u2.alloc (.cells #[.int .u64 (F : Nat), .int .i64 ex, .bool false, .int .i64 mid] 138) := ⟨_, rfl⟩
  have hbW : Below u2.heap.size u2 W3 := by rw [hW3]; exact below_alloc u2 _
  have P3 : Pk W3 u2.heap.size (F : Nat) ex false mid := by rw [hW3]; exact heap_alloc_new _ _
  have D3 := (S2.out.2.below hb).below hbW
  have hB3 : Below w.heap.size w W3 := (S2.out.1.trans (hb.mono (by omega))).trans (hbW.mono (by have := hb.size; omega))
  have hz6 : u1.heap.size < u2.heap.size := by have := hb.size; omega
  obtain ⟨q0, q1, q2, q3, qf0, qf1, qf2, qf3⟩ := P3.facts
  obtain ⟨d0, d1, d2, df0, df1, df2⟩ := D3.facts
  have hz5 : w.heap.size ≤ u2.heap.size := by omega
  have hz7 : u2.heap.size < W3.heap.size := P3.lt
  have S3 := (Aside.intro (And.intro hB3 (And.intro P3 D3)))
  clear hb hbW P3 D3 hB3 S2 H2 x0 x1 x2 xf0 xf1 xf2 y0 y1 y2
  go_upto_region 7 with fail
  rw [← hW3]
  clear hW3
  go_wp2_with fail
  refine (Calls.mono (HG.out _)) ?_
  rintro r u3 ⟨rfl, hb⟩
  have P4 := S3.out.2.1.below hb
  have D4 := S3.out.2.2.below hb
  have hB4 : Below w.heap.size w u3 := S3.out.1.trans (hb.mono (by omega))
  have hz8 : w.heap.size ≤ u3.heap.size := by have := hb.size; omega
  obtain ⟨r0, r1, r2, r3, rf0, rf1, rf2, rf3⟩ := P4.facts
  obtain ⟨s0, s1, s2, sf0, sf1, sf2⟩ := D4.facts
  have S4 := Aside.intro hB4
  clear hb P4 D4 hB4 S3 HG q0 q1 q2 q3 qf0 qf1 qf2 qf3 d0 d1 d2 df0 df1 df2
  go_wp2_with fail
  try simp only [ecv]
  refine (Calls.mono (HD.out _)) ?_
  rintro r ww ⟨rfl, hw⟩
  rw [hw]
  clear hw ww HD
  go_wp2_with fail
  refine (Calls.mono (HC.out _)) ?_
  rintro r ww ⟨rfl, hw⟩
  rw [hw]
  clear hw ww HC
  go_wp2
  go_ret2
  exact ⟨rfl, Below.setC S4.out _ _ _ hz5 hz8⟩

end Go.Proofs.YtnnlicahgdcbdaaDoor

/- dyad's Round: what it answers. -/
namespace Go.Proofs.YtnnlicahgdcbdaaDoor
open Go.RowKit
set_option linter.unusedVariables false
set_option maxRecDepth 20000
set_option linter.unusedSimpArgs false

/-- The bits without a sign. -/
def rndK (mode : Int) (n : Bool) (X : Nat) (e : Int) : Nat :=
  let p := plc 53 (-1074) 1024 X e
  (p.2.1 + 1074).toNat * 4503599627370496 + (if p.2.2.1 then p.1 else if outS mode p.1 p.2.2.2 n then p.1 + 1 else p.1)
def rndS (o : Option (Bool × Nat × Int)) (mode : Int) : Nat × Int :=
  if mode < 0 ∨ 4 < mode then (0, 1)
  else match o with
    | none => (0, 2)
    | some (n, X, e) => if X = 0 then (0, 0) else (rndK mode n X e + (if n then 9223372036854775808 else 0), 0)

theorem plc_mid (X : Nat) (e : Int) : (plc 53 (-1074) 1024 X e).2.2.2 = -1 ∨ (plc 53 (-1074) 1024 X e).2.2.2 = 0 ∨ (plc 53 (-1074) 1024 X e).2.2.2 = 1 := by
  unfold plc
  split
  · simp
  · simp only
    split
    · simp
    · simp only
      split
      · simp
      · split <;> simp

theorem ldexp_word (F : Nat) (ex : Int) (hF : F ≤ 9007199254740992) (h0 : -1074 ≤ ex) (h1 : ex ≤ 971) (hn : ex = -1074 ∨ 4503599627370496 ≤ F) :
    ∃ cw, floatOfInt .f64 (F : Int) = cw ∧ ∀ u, Calls Tryd.prog 30 #[.float .f64 cw, .int .i64 ex] u fun r w' => r = .returned (.float .f64 ((ex + 1074).toNat * 4503599627370496 + F)) ∧ w' = u := by
  by_cases hz : F = 0
  · subst hz
    obtain rfl : ex = -1074 := by omega
    exact ⟨0, by decide, fun u => B.Ldexp_nought _ u⟩
  · obtain ⟨e, g, hw⟩ := B.whole_of F (by omega) hF
    exact ⟨_, B.ofInt_whole F e g hw, fun u => B.Ldexp_any F e g ex u hw (by omega) hF h0 h1 hn⟩

theorem copy_word (K : Nat) (hK : K ≤ 9218868437227405312) (u : World) : Calls Tryd.prog 52 #[.float .f64 K, .float .f64 13830554455654793216] u fun r w' => r = .returned (.float .f64 (K + 9223372036854775808)) ∧ w' = u := by
  have h := B.copysign_neg (K / 4503599627370496) (K % 4503599627370496) (by omega) (by omega) u
  have e1 : B.bw false (K / 4503599627370496) (K % 4503599627370496) = K := by unfold B.bw; simp; omega
  have e2 : B.bw true (K / 4503599627370496) (K % 4503599627370496) = K + 9223372036854775808 := by unfold B.bw; simp; omega
  rw [e1, e2] at h
  exact h

theorem round_any {w : World} {a : Option Addr} {l c : Nat} {xs : List Nat} (hA : Arg w a l c xs) (hT : Tab w) (n : Bool) (e mode : Int) (he0 : -9223372036854775808 ≤ e) (he1 : e ≤ 9223372036854775807) :
    Calls Tryd.prog 67 #[.agg #[.bool n, .slice a l c, .int .i64 e], .int .i64 mode, .agg #[.int .i64 53, .int .i64 (-1074), .int .i64 1024]] w fun r w' => r = .returned (.tuple #[.float .f64 (rndS (mkS n (val xs) e) mode).1, .int .i64 (rndS (mkS n (val xs) e) mode).2]) ∧ Below w.heap.size w w' := by
  unfold rndS
  by_cases hm : mode < 0 ∨ 4 < mode
  · rw [if_pos hm]; exact round_mode n a l c e mode w hm
  · rw [if_neg hm]
    have HF : Hid (∀ u, Below w.heap.size w u → Calls Tryd.prog 96 #[.agg #[.bool n, .slice a l c, .int .i64 e]] u fun r w' => DAns u.heap.size w' r (mkS n (val xs) e) ∧ Below u.heap.size u w') := fun u hu => form_any (hA.below hu) (hT.belows hu) n e he0 he1
    cases ho : mkS n (val xs) e with
    | none =>
      rw [ho] at HF
      exact round_err n e mode false 0 0 2 (by rw [ws_zero]; simp) (by omega) (by omega) rfl HF
    | some d =>
      obtain ⟨n1, X, e1⟩ := d
      rw [ho] at HF
      have FX := mkS_frm ho
      simp only
      by_cases hX : X = 0
      · rw [if_pos hX]
        exact round_none n e mode n1 X e1 ((ws_len_zero X).2 hX) (by omega) (by omega) HF
      · rw [if_neg hX]
        have pf := plc_facts X e1 hX FX.down FX.up
        have pm := plc_mid X e1
        have HP : ∀ (u : World) (p : Option Addr) (q : Nat), Arg u p (ws X).length q (ws X) → Calls Tryd.prog 97 #[.agg #[.bool n1, .slice p (ws X).length q, .int .i64 e1], .agg #[.int .i64 53, .int .i64 (-1074), .int .i64 1024]] u fun r w' => r = .returned (.agg #[.int .u64 ((plc 53 (-1074) 1024 X e1).1 : Nat), .int .i64 (plc 53 (-1074) 1024 X e1).2.1, .bool (plc 53 (-1074) 1024 X e1).2.2.1, .int .i64 (plc 53 (-1074) 1024 X e1).2.2.2]) ∧ Below u.heap.size u w' := fun u p q hA => placed_any hA n1 e1 FX.down FX.up hX FX.size
        unfold rndK
        simp only
        generalize plc 53 (-1074) 1024 X e1 = P at pf pm HP ⊢
        obtain ⟨F, ex, t, mid⟩ := P
        simp only at pf pm HP ⊢
        obtain ⟨p1, p2, p3, p4⟩ := pf
        have HG : ∀ u, Calls Tryd.prog 98 #[.agg #[.int .u64 (F : Nat), .int .i64 ex, .bool false, .int .i64 mid], .int .i64 mode, .bool n1] u fun r w' => r = .returned (.bool (outS mode F mid n1)) ∧ Below u.heap.size u w' := fun u => goesOut_any F ex false mid mode n1 u (by omega) pm (by omega) (by omega)
        have lX := frm_len FX
        cases t with
        | true =>
          simp only [if_true]
          obtain ⟨cw, ecv, HD⟩ := ldexp_word F ex (by omega) p2 p3 p4
          cases n1 with
          | false =>
            simp only [Bool.false_eq_true, if_false, Nat.add_zero]
            exact round_tf n e mode X e1 lX (len_ne hX) (by omega) (by omega) F cw _ 0 ex mid p1 ecv HF (hid HP) (hid HD)
          | true =>
            simp only [if_true]
            exact round_tt n e mode X e1 lX (len_ne hX) (by omega) (by omega) F cw _ _ ex mid p1 ecv HF (hid HP) (hid HD) (hid fun u => copy_word _ (by omega) u)
        | false =>
          simp only [Bool.false_eq_true, if_false]
          cases hob : outS mode F mid n1 with
          | false =>
            rw [hob] at HG
            simp only [Bool.false_eq_true, if_false]
            obtain ⟨cw, ecv, HD⟩ := ldexp_word F ex (by omega) p2 p3 p4
            cases n1 with
            | false =>
              simp only [Bool.false_eq_true, if_false, Nat.add_zero]
              exact round_fff n e mode X e1 lX (len_ne hX) (by omega) (by omega) F cw _ 0 ex mid p1 ecv HF (hid HP) (hid HG) (hid HD)
            | true =>
              simp only [if_true]
              exact round_fft n e mode X e1 lX (len_ne hX) (by omega) (by omega) F cw _ _ ex mid p1 ecv HF (hid HP) (hid HG) (hid HD) (hid fun u => copy_word _ (by omega) u)
          | true =>
            rw [hob] at HG
            simp only [if_true]
            obtain ⟨cw, ecv, HD⟩ := ldexp_word (F + 1) ex (by omega) p2 p3 (by omega)
            cases n1 with
            | false =>
              simp only [Bool.false_eq_true, if_false, Nat.add_zero]
              exact round_ftf n e mode X e1 lX (len_ne hX) (by omega) (by omega) F cw _ 0 ex mid p1 (by simpa using ecv) HF (hid HP) (hid HG) (hid HD)
            | true =>
              simp only [if_true]
              exact round_ftt n e mode X e1 lX (len_ne hX) (by omega) (by omega) F cw _ _ ex mid p1 (by simpa using ecv) HF (hid HP) (hid HG) (hid HD) (hid fun u => copy_word _ (by omega) u)

set_option maxHeartbeats 1000000 in
theorem Round_any {w : World} {a : Option Addr} {l c : Nat} {xs : List Nat} (hA : Arg w a l c xs) (hT : Tab w) (n : Bool) (e mode : Int) (he0 : -9223372036854775808 ≤ e) (he1 : e ≤ 9223372036854775807) :
    Calls Tryd.prog 35 #[.agg #[.bool n, .slice a l c, .int .i64 e], .int .i64 mode] w fun r w' => r = .returned (.tuple #[.float .f64 (rndS (mkS n (val xs) e) mode).1, .int .i64 (rndS (mkS n (val xs) e) mode).2]) ∧ Below w.heap.size w w' := by
  have hb0 := below_alloc w (.cells #[.bool n, .slice a l c, .int .i64 e] 37)
  have H := hid (round_any (hA.below hb0) (hT.belows hb0) n e mode he0 he1)
  have S0 := Aside.intro hb0
  obtain ⟨⟨K, er⟩, hK⟩ : ∃ K, rndS (mkS n (val xs) e) mode = K := ⟨_, rfl⟩
  rw [hK] at H ⊢
  simp only at H ⊢
  clear hA hT hb0 hK
  go_enter Tryd.func35, Tryd.ntmps35
  go_wp2_with fail
  refine (Calls.mono H.out) ?_
  rintro r u1 ⟨rfl, hb⟩
  have S1 := Aside.intro hb
  clear hb
  go_wp2
  go_ret2
  exact ⟨rfl, S0.out.trans (S1.out.mono (by simp))⟩
end Go.Proofs.YtnnlicahgdcbdaaDoor

/- Round. -/
namespace Go.Proofs.YtnnlicahgdcbdaaDoor
open Go.RowKit
set_option linter.unusedVariables false
set_option maxRecDepth 20000
set_option linter.unusedSimpArgs false

/-- What Round answers, where nothing is refused. -/
def rd7 (V : Int) (s : Sp) (mode a b : Int) : Nat × Int :=
  if (ahd V s mode a b).2.1 then ((ahd V s mode a b).1, 0) else rndS (mkS (dN (exV V)) (dX (exV V)) (dE (exV V))) mode
theorem ahd_er (V : Int) (s : Sp) (mode a b : Int) : (ahd V s mode a b).2.2 = 0 := by
  unfold ahd
  split
  · rfl
  · split <;> rfl
theorem dX_small {V : Int} (h0 : -(HB : Int) < V) (h1 : V < (HB : Int)) : (ws (dX (exV V))).length ≤ 133 := by
  refine (ws_len_le _ 133).2 ?_
  have e : pw 133 = PB := by unfold PB; rfl
  rw [e]
  have hp := PB_HB
  have hq := HB_pos
  refine Nat.lt_of_le_of_lt (m := V.natAbs) ?_ (by omega)
  unfold exV mkS dX
  split
  · exact Nat.zero_le _
  · split
    · exact Nat.zero_le _
    · exact Nat.div_le_self _ _
theorem dE_small (V : Int) : -9223372036854775808 ≤ dE (exV V) ∧ dE (exV V) ≤ 9223372036854775807 := by
  unfold exV mkS dE
  split
  · simp
  · split
    · simp
    · next h => simp only [Option.getD_some]; omega

set_option maxHeartbeats 2000000 in
theorem Round7 (g : Nat) (V : Int) (s : Sp) (mode a b : Int) (w : World) (hA : Acc7 w g V s) (hs : s.ok) (hT : Tab w) (hm0 : 0 ≤ mode) (hm1 : mode ≤ 4) (hab : may a b = true) (ha : a ≠ 2) (hb : b ≠ 2) :
    Calls Tryd.prog 10 #[.pointer (some ⟨g, 0, none⟩), .int .i64 mode, .agg #[.int .i64 a, .int .i64 b]] w fun r w' => r = .returned (.tuple #[.float .f64 (rd7 V s mode a b).1, .int .i64 (rd7 V s mode a b).2]) ∧ Below w.heap.size w w' := by
  obtain ⟨⟨X, er⟩, hX⟩ : ∃ X, X = rd7 V s mode a b := ⟨_, rfl⟩
  rw [← hX]
  simp only
  have hb0 := bel_alloc w (Obj.cells #[.int .i64 a, .int .i64 b] 31)
  have HH := hid (ahead7 g V s mode a b _ (hA.bel hb0) hs hm0 hm1 hab ha hb)
  have her := ahd_er V s mode a b
  unfold rd7 at hX
  obtain ⟨⟨ax, at', ae⟩, hAh⟩ : ∃ Y, Y = ahd V s mode a b := ⟨_, rfl⟩
  rw [← hAh] at HH her hX
  simp only at HH her hX
  subst her
  have HX := Aside.intro hX
  have HA := Aside.intro (And.intro hA (And.intro hT hb0))
  clear hA hT hb0 hX hAh hs hab ha hb
  go_enter Tryd.func10, Tryd.ntmps10
  go_wp2_with fail
  refine HH.out.mono ?_
  rintro r w1 ⟨rfl, hb1⟩
  have B1 := Aside.intro (HA.out.2.2.trans (hb1.mono HA.out.2.2.size))
  clear hb1
  cases at'
  · go_wp2_with fail
    refine (Exact7 g V s w1 (HA.out.1.bel B1.out) (HA.out.2.1.belows B1.out)).mono ?_
    rintro r w2 ⟨v, rfl, hN, hb2⟩
    obtain ⟨L, _, _, _, h0, h1, _⟩ := HA.out.1
    obtain ⟨ad, c, rfl, AV⟩ := hN.arg (Nat.le_trans (dX_small h0 h1) (by decide))
    have HR := hid (Round_any AV (HA.out.2.1.belows (B1.out.trans (hb2.mono B1.out.size))) (dN (exV V)) (dE (exV V)) mode (dE_small V).1 (dE_small V).2)
    rw [val_ws] at HR
    have HX2 := HX.out
    rw [if_neg (by decide)] at HX2
    rw [← HX2] at HR
    simp only at HR
    have B2 := Aside.intro (B1.out.trans (hb2.mono B1.out.size))
    clear hN hb2 AV h0 h1 HX2
    go_wp2_with fail
    refine HR.out.mono ?_
    rintro r w3 ⟨rfl, hb3⟩
    have B3 := Aside.intro hb3
    clear hb3
    go_wp2
    refine bodyPost_ret (v := .tuple #[.float .f64 X, .int .i64 er]) (by simp [results, Tryd.results10, go_sem]) rfl ?_
    exact ⟨rfl, B2.out.trans (B3.out.mono B2.out.size)⟩
  · go_wp2
    have HX2 := HX.out
    rw [if_pos trivial] at HX2
    cases HX2
    refine bodyPost_ret (v := .tuple #[.float .f64 X, .int .i64 0]) (by simp [results, Tryd.results10, go_sem]) rfl ?_
    exact ⟨rfl, B1.out⟩
end Go.Proofs.YtnnlicahgdcbdaaDoor

/- dyad's Mul. -/
namespace Go.Proofs.YtnnlicahgdcbdaaDoor
open Go.RowKit
set_option linter.unusedVariables false
set_option maxRecDepth 20000
set_option linter.unusedSimpArgs false

/-- The product of two forms. -/
def mulF (x y : Bool × Nat × Int) : Option (Bool × Nat × Int) := mkS (x.1 != y.1) (x.2.1 * y.2.1) (x.2.2 + y.2.2)
def mulD (o p : Option (Bool × Nat × Int)) : Option (Bool × Nat × Int) :=
  match o, p with
  | some x, some y => mulF x y
  | _, _ => none

theorem lo_odd1 {X : Nat} (h : X % 2 = 1) : lo X = 0 := by
  have := lo_eq 0 (X / 2)
  rw [show 2 ^ 0 * (2 * (X / 2) + 1) = X by omega] at this
  exact this

end Go.Proofs.YtnnlicahgdcbdaaDoor

/- The document's Mul. -/
namespace Go.Proofs.YtnnlicahgdcbdaaDoor
open Go.RowKit
set_option linter.unusedVariables false
set_option maxRecDepth 20000
set_option linter.unusedSimpArgs false

theorem wrap64 (x : Int) (h0 : -9223372036854775808 ≤ x) (h1 : x ≤ 9223372036854775807) : IntKind.i64.wrap x = x := by rw [IntKind.wrap_i64]; omega

end Go.Proofs.YtnnlicahgdcbdaaDoor

/- The law's awake (layer 3). -/
namespace Go.Proofs.YtnnlicahgdcbdaaDoor
open Go.RowKit
set_option linter.unusedVariables false
set_option maxRecDepth 20000
set_option linter.unusedSimpArgs false
attribute [local go_sem] B.f64bits
theorem Dk.drew {w : World} {g : Nat} {n : Bool} {v : Value} {e : Int} (h : Dk w g n v e) : Dk w.drew g n v e := h
end Go.Proofs.YtnnlicahgdcbdaaDoor

/- What the laws of layer 3 share. -/
namespace Go.Proofs.YtnnlicahgdcbdaaDoor
open Go.RowKit
set_option linter.unusedVariables false
set_option maxRecDepth 20000

theorem Dk.but {w w' : World} {g k : Nat} {n : Bool} {v : Value} {e : Int} (h : Dk w k n v e) (hb : But g w w') (hk : k ≠ g) : Dk w' k n v e := by
  unfold Dk; rw [hb.block k h.lt hk]; exact h
end Go.Proofs.YtnnlicahgdcbdaaDoor

/- The document's Lent, AsLent of Dyads. -/
namespace Go.Proofs.YtnnlicahgdcbdaaDoor
open Go.RowKit
set_option linter.unusedVariables false
set_option maxRecDepth 20000
set_option linter.unusedSimpArgs false

theorem Own.st3 {w : World} {g : Nat} {L : List Nat} (h : Own w g L) (k : Nat) (hk : k ≠ g) (x y z : Value) : Own (((w.setCell ⟨k, 0, none⟩ x).setCell ⟨k, 1, none⟩ y).setCell ⟨k, 2, none⟩ z) g L :=
  ((h.setOther hk _).setOther hk _).setOther hk _

end Go.Proofs.YtnnlicahgdcbdaaDoor

/- dyad's Sub, the document's Add and Sub; sums and products in either order. -/
namespace Go.Proofs.YtnnlicahgdcbdaaDoor
open Go.RowKit
set_option linter.unusedVariables false
set_option maxRecDepth 20000
set_option linter.unusedSimpArgs false

theorem sub_res (W : World) (g : Nat) (n : Bool) (v : Value) (e k : Int) (tmps : Array Value) (ht : tmps[4]?.getD undef = .pointer (some ⟨g, 0, none⟩)) (hk : tmps[5]?.getD undef = .int .i64 k) (D : Dk W g n v e) :
    (results Tryd.f53 tmps).run Tryd.prog W = .ok (.tuple #[.agg #[.bool n, v, .int .i64 e], .int .i64 k]) W := by
  obtain ⟨x0, x1, x2, xf0, xf1, xf2⟩ := D.facts
  simp [results, Tryd.results53, ht, hk, go_sem, x0, x1, x2]

set_option maxHeartbeats 4000000 in
theorem sub_core {w : World} {a b : Option Addr} {l c k d : Nat} (n m : Bool) (e f : Int) (dn : Bool) (V : Nat) (de er : Int) (lV : (ws V).length ≤ 8192)
    (HT : Hid (∀ u, Calls Tryd.prog 82 #[.agg #[.bool m, .slice b k d, .int .i64 f]] u fun r w' => r = .returned (.agg #[.bool (!m), .slice b k d, .int .i64 f]) ∧ Below u.heap.size u w'))
    (HA : Hid (∀ u, Below w.heap.size w u → Calls Tryd.prog 78 #[.agg #[.bool n, .slice a l c, .int .i64 e], .agg #[.bool (!m), .slice b k d, .int .i64 f]] u fun r w' => (∃ v, r = .returned (.tuple #[.agg #[.bool dn, v, .int .i64 de], .int .i64 er]) ∧ Nt u.heap.size w' v V) ∧ Below u.heap.size u w')) :
    Calls Tryd.prog 53 #[.agg #[.bool n, .slice a l c, .int .i64 e], .agg #[.bool m, .slice b k d, .int .i64 f]] w fun r w' => (∃ v, r = .returned (.tuple #[.agg #[.bool dn, v, .int .i64 de], .int .i64 er]) ∧ Nt w.heap.size w' v V) ∧ Below w.heap.size w w' := by
  obtain ⟨W1, hW1⟩ : ∃ W, W = ((w.alloc (.cells #[.bool n, .slice a l c, .int .i64 e] 37)).alloc (.cells #[.bool m, .slice b k d, .int .i64 f] 37)).alloc (.cells #[.bool false, .slice none 0 0, .int .i64 0] 37) := ⟨_, rfl⟩
  obtain ⟨hB, hz1, DA, DB, DR⟩ := add_begin w n m (.slice a l c) (.slice b k d) e f W1 hW1
  have T1 := hid (HT.out W1)
  have T2 := hid (HT.out W1.drew)
  obtain ⟨x0, x1, x2, xf0, xf1, xf2⟩ := DA.facts
  obtain ⟨y0, y1, y2, yf0, yf1, yf2⟩ := DB.facts
  obtain ⟨r0, r1, r2, rf0, rf1, rf2⟩ := DR.facts
  have hs1 : w.heap.size + 3 ≤ W1.heap.size := by omega
  have SB := (Aside.intro (And.intro hB (And.intro DA (And.intro DB DR))))
  clear hB hz1 DA DB DR
  go_enter Tryd.func53, Tryd.ntmps53
  go_wp2_with fail
  rw [← hW1]
  clear hW1
  have ne1 : w.heap.size ≠ w.heap.size + 1 + 1 := by omega
  have ne2 : w.heap.size + 1 ≠ w.heap.size + 1 + 1 := by omega
  have ne3 : w.heap.size + 1 + 1 ≠ w.heap.size := by omega
  have ne4 : w.heap.size + 1 + 1 ≠ w.heap.size + 1 := by omega
  go_region_held3 (fun w' => w'.cell? ⟨w.heap.size, 0, none⟩ = some (.bool n) ∧ w'.cell? ⟨w.heap.size, 1, none⟩ = some (.slice a l c) ∧ w'.cell? ⟨w.heap.size, 2, none⟩ = some (.int .i64 e) ∧ w'.cell? ⟨w.heap.size + 1, 0, none⟩ = some (.bool m) ∧ w'.cell? ⟨w.heap.size + 1, 1, none⟩ = some (.slice b k d) ∧ w'.cell? ⟨w.heap.size + 1, 2, none⟩ = some (.int .i64 f)) (go_keep) (first
    | (go_at_call 82
       first | with_reducible refine T1.out.mono ?_ | with_reducible refine T2.out.mono ?_
       rintro r u1 ⟨rfl, hb⟩
       have hb1 : Below W1.heap.size W1 u1 := by first | exact hb | exact ((Below.refl _ W1).drew).trans (hb.mono (Nat.le_refl _))
       have hs2 : W1.heap.size ≤ u1.heap.size := hb1.size
       have BW : Below w.heap.size w u1 := SB.out.1.trans (hb1.mono (by omega))
       have HA1 := hid (HA.out u1 BW)
       have KR := SB.out.2.2.2.below hb1
       obtain ⟨p0, p1, p2, pf0, pf1, pf2⟩ := KR.facts
       obtain ⟨q0, q1, q2, qf0, qf1, qf2⟩ := (SB.out.2.1.below hb1).facts
       obtain ⟨s0, s1, s2, sf0, sf1, sf2⟩ := (SB.out.2.2.1.below hb1).facts
       have S1 := (Aside.intro (And.intro BW (And.intro KR (And.intro (SB.out.2.1.below hb1) (SB.out.2.2.1.below hb1)))))
       clear hb hb1 KR BW)
    | (go_at_call 78
       with_reducible refine HA1.out.mono ?_
       rintro r u2 ⟨⟨v, rfl, hN⟩, hb⟩
       obtain ⟨a4, c4, rfl, _⟩ := hN.arg (by omega)
       have LR := S1.out.2.1.below hb
       obtain ⟨t0, t1, t2, tf0, tf1, tf2⟩ := LR.facts
       obtain ⟨i0, i1, i2, if0, if1, if2⟩ := (S1.out.2.2.1.below hb).facts
       obtain ⟨j0, j1, j2, jf0, jf1, jf2⟩ := (S1.out.2.2.2.below hb).facts
       have FV := Aside.intro (show Fin w.heap.size (w.heap.size + 3) w u2 (.slice a4 (ws V).length c4) V from ⟨hN.mono (by omega), S1.out.1.trans (hb.mono (by omega)), by have := hb.size; omega⟩)
       have S10 := Aside.intro LR
       clear hN hb LR))
  all_goals (
    go_wp2
    refine bodyPost_ret (sub_res _ (w.heap.size + 1 + 1) dn (.slice a4 (ws V).length c4) de er _ rfl rfl (S10.out.set _ _ _)) rfl ?_
    refine Fin.dans (m := w.heap.size + 3) ?_ (by omega)
    repeat (with_reducible first | exact FV.out | refine Fin.drew ?_ | refine Fin.alloc ?_ _ | refine Fin.set ?_ _ _ _ (by omega) (by omega)))

theorem addUp_len (n : Bool) (X : Nat) (e : Int) (m : Bool) (Y : Nat) (f : Int) : (ws (dX (addUp n X e m Y f))).length ≤ 8192 := by
  unfold addUp
  split
  · show (ws 0).length ≤ 8192; rw [ws_zero]; exact Nat.zero_le _
  · split
    · exact mkS_len _ _ _
    · split <;> exact mkS_len _ _ _
theorem addD_len (n : Bool) (X : Nat) (e : Int) (m : Bool) (Y : Nat) (f : Int) : (ws (dX (addD (mkS n X e) (mkS m Y f)))).length ≤ 8192 := by
  have z0 : (ws 0).length ≤ 8192 := by rw [ws_zero]; exact Nat.zero_le _
  cases hx : mkS n X e with
  | none => exact z0
  | some x =>
    cases hy : mkS m Y f with
    | none => exact z0
    | some y =>
      obtain ⟨n1, X1, e1⟩ := x
      obtain ⟨m1, Y1, f1⟩ := y
      show (ws (dX (addF _ _))).length ≤ 8192
      unfold addF
      split
      · exact frm_len (mkS_frm hy)
      · split
        · exact frm_len (mkS_frm hx)
        · split <;> exact addUp_len _ _ _ _ _ _
theorem Sub_any3 {w : World} {a b : Option Addr} {l c k d : Nat} {xs ys : List Nat} (h1 : Arg w a l c xs) (h2 : Arg w b k d ys) (hT : Tab w) (n m : Bool) (e f : Int) (he0 : -9223372036854775808 ≤ e) (he1 : e ≤ 9223372036854775807) (hf0 : -9223372036854775808 ≤ f) (hf1 : f ≤ 9223372036854775807) :
    Calls Tryd.prog 53 #[.agg #[.bool n, .slice a l c, .int .i64 e], .agg #[.bool m, .slice b k d, .int .i64 f]] w fun r w' => DAns w.heap.size w' r (addD (mkS n (val xs) e) (mkS (!m) (val ys) f)) ∧ Below w.heap.size w w' :=
  sub_core n m e f _ _ _ _ (addD_len n (val xs) e (!m) (val ys) f) (hid fun u => turned_any b k d m f u) (hid fun u hu => Add_any3 (h1.below hu) (h2.below hu) (hT.belows hu) n (!m) e f he0 he1 hf0 hf1)
end Go.Proofs.YtnnlicahgdcbdaaDoor

/- Numbers from the top on: plain mathematics for comparing. -/
namespace Go.Proofs.YtnnlicahgdcbdaaDoor
open Go.RowKit
set_option linter.unusedVariables false
set_option maxRecDepth 20000

/-- What stands above the bit i. -/
def top (X : Nat) (i : Int) : Nat := if i < 0 then X * 2 ^ (-i).toNat else X / 2 ^ i.toNat
theorem win_top (X : Nat) (i : Int) : win X i = top X i % 4294967296 := by unfold win top; split <;> rfl
theorem two32 : (2 : Nat) ^ 32 = 4294967296 := rfl
theorem top_down (X : Nat) (i : Int) : top X (i - 32) / 4294967296 = top X i := by
  rw [← two32]
  unfold top
  by_cases h : i < 0
  · rw [if_pos (by omega), if_pos h, show (-(i - 32)).toNat = (-i).toNat + 32 by omega, Nat.pow_add, ← Nat.mul_assoc, Nat.mul_div_cancel _ (Nat.two_pow_pos 32)]
  · by_cases h2 : i < 32
    · rw [if_pos (by omega), if_neg h]
      obtain ⟨k, hk⟩ : ∃ k, k = (-(i - 32)).toNat := ⟨_, rfl⟩
      have e : 32 = k + i.toNat := by omega
      rw [← hk]
      generalize i.toNat = m at e ⊢
      rw [show (2 : Nat) ^ 32 = 2 ^ k * 2 ^ m by rw [← Nat.pow_add, ← e], Nat.mul_comm X, Nat.mul_div_mul_left _ _ (Nat.two_pow_pos k)]
    · rw [if_neg (by omega), if_neg h, Nat.div_div_eq_div_mul, ← Nat.pow_add, show (i - 32).toNat + 32 = i.toNat by omega]
theorem top_step (X : Nat) (i : Int) : top X (i - 32) = top X i * 4294967296 + win X (i - 32) := by
  rw [win_top, ← top_down X i]
  exact (Nat.div_add_mod' _ _).symm
theorem top_shift (X d : Nat) (j : Int) : top X (j - (d : Int)) = top (X * 2 ^ d) j := by
  unfold top
  by_cases h : j < 0
  · rw [if_pos (by omega), if_pos h, show (-(j - (d : Int))).toNat = d + (-j).toNat by omega, Nat.pow_add, Nat.mul_assoc]
  · rw [if_neg h]
    by_cases h2 : j < d
    · rw [if_pos (by omega)]
      obtain ⟨k, hk⟩ : ∃ k, k = (-(j - (d : Int))).toNat := ⟨_, rfl⟩
      have e : d = k + j.toNat := by omega
      rw [← hk]
      generalize j.toNat = m at e ⊢
      rw [e, Nat.pow_add, ← Nat.mul_assoc, Nat.mul_div_cancel _ (Nat.two_pow_pos m)]
    · rw [if_neg (by omega)]
      obtain ⟨k, hk⟩ : ∃ k, k = (j - (d : Int)).toNat := ⟨_, rfl⟩
      have e : j.toNat = k + d := by omega
      rw [← hk, e, Nat.pow_add, Nat.mul_div_mul_right _ _ (Nat.two_pow_pos d)]
theorem top_mono {X Y : Nat} (h : X ≤ Y) (j : Int) : top X j ≤ top Y j := by
  unfold top
  split
  · exact Nat.mul_le_mul_right _ h
  · exact Nat.div_le_div_right h
theorem top_lt {X Y : Nat} {j : Int} (h : top X j < top Y j) : X < Y := by
  rcases Nat.lt_or_ge X Y with k | k
  · exact k
  · have := top_mono k j; omega
theorem top_inj {X Y : Nat} {j : Int} (hj : j ≤ 0) (h : top X j = top Y j) : X = Y := by
  unfold top at h
  by_cases h0 : j < 0
  · rw [if_pos h0, if_pos h0] at h
    exact Nat.eq_of_mul_eq_mul_right (Nat.two_pow_pos _) h
  · rw [if_neg h0, if_neg h0, show j.toNat = 0 by omega] at h
    simpa using h
theorem top_bl (X : Nat) : top X (bl X : Int) = 0 := by
  unfold top
  rw [if_neg (by omega), Int.toNat_natCast]
  exact Nat.div_eq_of_lt (bl_lt X)

/-- A step of the comparison. -/
theorem top_differ {X Y : Nat} {i j : Int} (d : Nat) (hij : i = j - d) (h : top X i = top Y j) (hne : cmpI (win X (i - 32)) (win Y (j - 32)) ≠ 0) :
    cmpI (win X (i - 32)) (win Y (j - 32)) = cmpI (X * 2 ^ d) Y := by
  have h1 := top_step X i
  have h2 := top_step Y j
  have h3 := top_shift X d (j - 32)
  rw [show j - 32 - (d : Int) = i - 32 by omega] at h3
  rw [h] at h1
  generalize top Y j * 4294967296 = T at h1 h2
  unfold cmpI at hne ⊢
  by_cases k : win X (i - 32) < win Y (j - 32)
  · rw [if_pos k]
    have : X * 2 ^ d < Y := top_lt (j := j - 32) (by rw [← h3]; omega)
    rw [if_pos this]
  · rw [if_neg k] at hne ⊢
    by_cases k2 : win Y (j - 32) < win X (i - 32)
    · rw [if_pos k2]
      have : Y < X * 2 ^ d := top_lt (j := j - 32) (by rw [← h3]; omega)
      rw [if_neg (by omega), if_pos this]
    · rw [if_neg k2] at hne; exact absurd rfl hne
theorem cmpI_zero {x y : Nat} (h : cmpI x y = 0) : x = y := by
  unfold cmpI at h
  split at h
  · cases h
  · split at h
    · cases h
    · omega
theorem top_alike {X Y : Nat} {i j : Int} (h : top X i = top Y j) (he : cmpI (win X (i - 32)) (win Y (j - 32)) = 0) : top X (i - 32) = top Y (j - 32) := by
  rw [top_step, top_step, h, cmpI_zero he]
theorem top_end {X Y : Nat} {i j : Int} (d : Nat) (hij : i = j - d) (h : top X i = top Y j) (hj : j ≤ 0) : cmpI (X * 2 ^ d) Y = 0 := by
  subst hij
  rw [top_shift] at h
  rw [top_inj hj h]
  unfold cmpI
  rw [if_neg (Nat.lt_irrefl _), if_neg (Nat.lt_irrefl _)]

/-- How X times 2^e stands to Y times 2^f. -/
def cmpP (X : Nat) (e : Int) (Y : Nat) (f : Int) : Int := if e < f then cmpI X (Y * 2 ^ (f - e).toNat) else cmpI (X * 2 ^ (e - f).toNat) Y
theorem cmpI_neg (x y : Nat) : -cmpI x y = cmpI y x := by
  unfold cmpI
  rcases Nat.lt_trichotomy x y with h | h | h
  · rw [if_pos h, if_neg (by omega), if_pos h]; rfl
  · subst h; rw [if_neg (by omega), if_neg (by omega)]; rfl
  · rw [if_neg (by omega), if_pos h, if_pos h]
theorem cmpP_neg (X : Nat) (e : Int) (Y : Nat) (f : Int) : -cmpP X e Y f = cmpP Y f X e := by
  unfold cmpP
  by_cases h : e < f
  · rw [if_pos h, if_neg (by omega), cmpI_neg]
  · rw [if_neg h]
    by_cases h2 : f < e
    · rw [if_pos h2, cmpI_neg]
    · rw [if_neg h2, cmpI_neg, show (e - f).toNat = 0 by omega, show (f - e).toNat = 0 by omega, Nat.pow_zero, Nat.mul_one, Nat.mul_one]
/-- Where the lengths tell. -/
theorem cmpI_bl {x y : Nat} (h : bl x ≠ bl y) : cmpI x y = cmpI (bl x) (bl y) := by
  unfold cmpI
  rcases Nat.lt_or_ge (bl x) (bl y) with k | k
  · have : x < y := by
      rcases Nat.lt_or_ge x y with q | q
      · exact q
      · have := bl_mono q; omega
    rw [if_pos k, if_pos this]
  · have : y < x := by
      rcases Nat.lt_or_ge y x with q | q
      · exact q
      · have := bl_mono q; omega
    rw [if_neg (by omega : ¬ x < y), if_pos this, if_neg (by omega : ¬ bl x < bl y), if_pos (by omega : bl y < bl x)]
theorem cmpI_range (x y : Nat) : cmpI x y = -1 ∨ cmpI x y = 0 ∨ cmpI x y = 1 := by
  unfold cmpI; split
  · exact .inl rfl
  · split
    · exact .inr (.inr rfl)
    · exact .inr (.inl rfl)
theorem cmpP_range (X : Nat) (e : Int) (Y : Nat) (f : Int) : cmpP X e Y f = -1 ∨ cmpP X e Y f = 0 ∨ cmpP X e Y f = 1 := by
  unfold cmpP; split <;> exact cmpI_range _ _

/-- The sign of a value, and how two values stand. -/
def sgn (n : Bool) (X : Nat) : Int := if X = 0 then 0 else if n then -1 else 1
def cmpV (n : Bool) (X : Nat) (e : Int) (m : Bool) (Y : Nat) (f : Int) : Int :=
  if sgn n X < sgn m Y then -1 else if sgn m Y < sgn n X then 1 else if X = 0 then 0 else if n then cmpP Y f X e else cmpP X e Y f
end Go.Proofs.YtnnlicahgdcbdaaDoor

/- dyad's Sign, cmpFromTop, cmpSizes, Cmp. -/
namespace Go.Proofs.YtnnlicahgdcbdaaDoor
open Go.RowKit
set_option linter.unusedVariables false
set_option maxRecDepth 20000
set_option linter.unusedSimpArgs false

theorem isNaN_c (x : Int) (w : World) : Calls Tryd.prog 102 #[.int .u64 x] w fun r w' => r = .returned (.bool false) ∧ w' = w := by
  go_enter Tryd.func102, Tryd.ntmps102
  go_wp2
  go_ret
  exact ⟨rfl, rfl⟩
def cmpZ (x y : Int) : Int := if x < y then -1 else if y < x then 1 else 0
theorem cmpZ_nat (x y : Nat) : cmpZ (x : Int) (y : Int) = cmpI x y := by
  unfold cmpZ cmpI
  simp only [Int.ofNat_lt]
theorem compare_w (x y : Int) (w : World) : Calls Tryd.prog 76 #[.int .u64 x, .int .u64 y] w fun r w' => r = .returned (.int .i64 (cmpZ x y)) ∧ w' = w := by
  have H : Hid (∀ x w, _) := isNaN_c
  rcases Int.lt_trichotomy x y with h | h | h
  · have e : cmpZ x y = -1 := by simp [cmpZ, h]
    rw [e]; clear e
    go_enter Tryd.func76, Tryd.ntmps76
    go_wp2_with fail
    refine (H.out _ _).mono ?_
    rintro r w1 ⟨rfl, rfl⟩
    go_wp2_with fail
    refine (H.out _ _).mono ?_
    rintro r w1 ⟨rfl, rfl⟩
    go_wp2
    go_ret
    exact ⟨rfl, rfl⟩
  · have e : cmpZ x y = 0 := by simp [cmpZ, h]
    rw [e]; clear e
    subst h
    go_enter Tryd.func76, Tryd.ntmps76
    go_wp2_with fail
    refine (H.out _ _).mono ?_
    rintro r w1 ⟨rfl, rfl⟩
    go_wp2_with fail
    refine (H.out _ _).mono ?_
    rintro r w1 ⟨rfl, rfl⟩
    go_wp2
    go_ret
    exact ⟨rfl, rfl⟩
  · have e : cmpZ x y = 1 := by unfold cmpZ; rw [if_neg (by omega), if_pos h]
    rw [e]; clear e
    have h0 : decide (x < y) = false := decide_eq_false (by omega)
    go_enter Tryd.func76, Tryd.ntmps76
    go_wp2_with fail
    refine (H.out _ _).mono ?_
    rintro r w1 ⟨rfl, rfl⟩
    go_wp2_with fail
    refine (H.out _ _).mono ?_
    rintro r w1 ⟨rfl, rfl⟩
    go_wp2
    go_ret
    exact ⟨rfl, rfl⟩

theorem compare_z (x y : Int) (w : World) : Calls Tryd.prog 43 #[.int .i64 x, .int .i64 y] w fun r w' => r = .returned (.int .i64 (cmpZ x y)) ∧ w' = w := by
  have H : Hid (∀ x w, _) := isNaN_i
  rcases Int.lt_trichotomy x y with h | h | h
  · have e : cmpZ x y = -1 := by simp [cmpZ, h]
    rw [e]; clear e
    go_enter Tryd.func43, Tryd.ntmps43
    go_wp2_with fail
    refine (H.out _ _).mono ?_
    rintro r w1 ⟨rfl, rfl⟩
    go_wp2_with fail
    refine (H.out _ _).mono ?_
    rintro r w1 ⟨rfl, rfl⟩
    go_wp2
    go_ret
    exact ⟨rfl, rfl⟩
  · have e : cmpZ x y = 0 := by simp [cmpZ, h]
    rw [e]; clear e
    subst h
    go_enter Tryd.func43, Tryd.ntmps43
    go_wp2_with fail
    refine (H.out _ _).mono ?_
    rintro r w1 ⟨rfl, rfl⟩
    go_wp2_with fail
    refine (H.out _ _).mono ?_
    rintro r w1 ⟨rfl, rfl⟩
    go_wp2
    go_ret
    exact ⟨rfl, rfl⟩
  · have e : cmpZ x y = 1 := by unfold cmpZ; rw [if_neg (by omega), if_pos h]
    rw [e]; clear e
    have h0 : decide (x < y) = false := decide_eq_false (by omega)
    go_enter Tryd.func43, Tryd.ntmps43
    go_wp2_with fail
    refine (H.out _ _).mono ?_
    rintro r w1 ⟨rfl, rfl⟩
    go_wp2_with fail
    refine (H.out _ _).mono ?_
    rintro r w1 ⟨rfl, rfl⟩
    go_wp2
    go_ret
    exact ⟨rfl, rfl⟩

set_option maxHeartbeats 2000000 in
theorem Sign_any3 {w : World} {a : Option Addr} {n c : Nat} {xs : List Nat} (h1 : Arg w a n c xs) (ng : Bool) (e : Int) :
    Calls Tryd.prog 42 #[.agg #[.bool ng, .slice a n c, .int .i64 e]] w fun r w' => r = .returned (.int .i64 (sgn ng (val xs))) ∧ Below w.heap.size w w' := by
  have hB : Below w.heap.size w (w.alloc (.cells #[.bool ng, .slice a n c, .int .i64 e] 37)) := below_alloc w _
  have A1 := h1.below hB
  have hbig := h1.big
  have H1 := hid (len_any xs a n c _ _ A1.len A1.cap (by omega) A1.wf A1.rd)
  obtain ⟨X, hX⟩ : ∃ X, val xs = X := ⟨_, rfl⟩
  rw [hX] at H1 ⊢
  have SB := Aside.intro hB
  clear hB A1 h1 hX hbig
  unfold sgn
  by_cases h0 : X = 0
  · rw [if_pos h0]
    have hb : bl X = 0 := by rw [h0, bl_zero]
    rw [hb] at H1
    clear h0 hb
    go_enter Tryd.func42, Tryd.ntmps42
    go_wp2_with fail
    refine (Calls.mono H1.out) ?_
    rintro r w1 ⟨rfl, rfl⟩
    go_wp2
    go_ret
    exact ⟨rfl, SB.out⟩
  · rw [if_neg h0]
    obtain ⟨b, hb⟩ : ∃ b, bl X = b := ⟨_, rfl⟩
    have hb0 : ((b : Int) == 0) = false := by have := bl_pos X h0; simp; omega
    rw [hb] at H1
    clear h0 hb
    cases ng
    · simp only [Bool.false_eq_true, if_false]
      go_enter Tryd.func42, Tryd.ntmps42
      go_wp2_with fail
      refine (Calls.mono H1.out) ?_
      rintro r w1 ⟨rfl, rfl⟩
      go_wp2
      go_ret
      exact ⟨rfl, SB.out⟩
    · simp only [if_true]
      go_enter Tryd.func42, Tryd.ntmps42
      go_wp2_with fail
      refine (Calls.mono H1.out) ?_
      rintro r w1 ⟨rfl, rfl⟩
      go_wp2
      go_ret
      exact ⟨rfl, SB.out⟩


set_option maxHeartbeats 4000000 in
theorem cmpFromTop_any {w : World} {a b : Option Addr} {n c m d : Nat} {xs ys : List Nat} (h1 : Arg w a n c xs) (h2 : Arg w b m d ys) (dd : Nat) (hd : bl (val xs) + dd = bl (val ys)) :
    Calls Tryd.prog 77 #[.slice a n c, .slice b m d] w fun r w' => r = .returned (.int .i64 (cmpI (val xs * 2 ^ dd) (val ys))) ∧ w' = w := by
  have hb1 := h1.big
  have hb2 := h2.big
  have H1 := hid (len_any xs a n c w.heap.size w h1.len h1.cap (by omega) h1.wf h1.rd)
  have H2 := hid (len_any ys b m d w.heap.size w h2.len h2.cap (by omega) h2.wf h2.rd)
  have b1 : bl (val xs) ≤ 32 * n := by have := val_lt xs h1.wf; rw [← h1.len] at this; exact bl_pw _ _ this
  have b2 : bl (val ys) ≤ 32 * m := by have := val_lt ys h2.wf; rw [← h2.len] at this; exact bl_pw _ _ this
  have WX : Hid (∀ i : Int, -9223372036854775808 ≤ i → i ≤ 9223372036854000000 → Calls Tryd.prog 101 #[.slice a n c, .int .i64 i] w fun r w' => r = .returned (.int .u32 ((win (val xs) i : Nat) : Int)) ∧ w' = w) := fun i h0 h3 => window_any xs a n c w.heap.size i w h1.len (by omega) h1.wf h1.rd h0 (by omega)
  have WY : Hid (∀ i : Int, -9223372036854775808 ≤ i → i ≤ 9223372036854000000 → Calls Tryd.prog 101 #[.slice b m d, .int .i64 i] w fun r w' => r = .returned (.int .u32 ((win (val ys) i : Nat) : Int)) ∧ w' = w) := fun i h0 h3 => window_any ys b m d w.heap.size i w h2.len (by omega) h2.wf h2.rd h0 (by omega)
  obtain ⟨X, hX⟩ : ∃ X, val xs = X := ⟨_, rfl⟩
  obtain ⟨Y, hY⟩ : ∃ Y, val ys = Y := ⟨_, rfl⟩
  rw [hX] at H1 b1 hd WX ⊢
  rw [hY] at H2 b2 hd WY ⊢
  have st : top X (bl X : Int) = top Y (bl Y : Int) := by rw [top_bl, top_bl]
  obtain ⟨i0, hi0⟩ : ∃ i, bl X = i := ⟨_, rfl⟩
  obtain ⟨j0, hj0⟩ : ∃ j, bl Y = j := ⟨_, rfl⟩
  rw [hi0] at H1 b1 hd st
  rw [hj0] at H2 b2 hd st
  obtain ⟨R, hR⟩ : ∃ R, cmpI (X * 2 ^ dd) Y = R := ⟨_, rfl⟩
  rw [hR]
  have HR := Aside.intro hR
  have ST := Aside.intro st
  have HD := Aside.intro hd
  have bi : (i0 : Int) ≤ 1125899906842624 := by omega
  have bj : (j0 : Int) ≤ 1125899906842624 := by omega
  clear h1 h2 hX hY hi0 hj0 st hR hd b1 b2 hb1 hb2
  go_enter Tryd.func77, Tryd.ntmps77
  go_wp2_with fail
  refine (Calls.mono H1.out) ?_
  rintro r w1 ⟨rfl, rfl⟩
  go_wp2_with fail
  refine (Calls.mono H2.out) ?_
  rintro r w1 ⟨rfl, rfl⟩
  go_wp2
  go_loopg [5, 6] (j0 + 32) (fun gk iv jv wr => ∃ i j : Int, (gk : Int) = j + 32 ∧ iv = .int .i64 i ∧ jv = .int .i64 j ∧ wr = w1 ∧ -32 ≤ j ∧ j ≤ 1125899906842624 ∧ i ≤ j ∧ -1125899906842656 ≤ i ∧ Aside (i = j - dd ∧ top X i = top Y j))
  case atStart => exact ⟨i0, j0, by omega, rfl, rfl, rfl, by omega, by omega, by have := HD.out; omega, by omega, by have := HD.out; omega, ST.out⟩
  case round =>
    obtain ⟨i, j, hgk, rfl, rfl, rfl, hj0', hj1, hij, hi0', HA⟩ := hrel
    by_cases hj : 0 < j
    · have hi2 : i - 32 ≤ 9223372036854000000 := by omega
      have hj2 : j - 32 ≤ 9223372036854000000 := by omega
      have G1 := hid (WX.out (i - 32) (by omega) hi2)
      have G2 := hid (WY.out (j - 32) (by omega) hj2)
      obtain ⟨x, hx⟩ : ∃ x, win X (i - 32) = x := ⟨_, rfl⟩
      obtain ⟨y, hy⟩ : ∃ y, win Y (j - 32) = y := ⟨_, rfl⟩
      rw [hx] at G1
      rw [hy] at G2
      have HXY := (Aside.intro (And.intro hx hy))
      have hlo : -1125899906842656 ≤ i := hi0'
      clear hx hy
      have CM := hid (compare_u x y wr)
      obtain ⟨z, hz⟩ : ∃ z, cmpI x y = z := ⟨_, rfl⟩
      rw [hz] at CM
      have HZ := Aside.intro hz
      clear hz
      by_cases hpi : 0 < i
      · by_cases h0 : z = 0
        · subst h0
          go_wp2_with fail
          refine (Calls.mono G1.out) ?_
          rintro r w2 ⟨rfl, rfl⟩
          go_wp2_with fail
          refine (Calls.mono G2.out) ?_
          rintro r w2 ⟨rfl, rfl⟩
          go_wp2_with fail
          refine (Calls.mono CM.out) ?_
          rintro r w2 ⟨rfl, rfl⟩
          go_wp2
          go_roundg (gk - 32)
          case measure => omega
          case rel =>
            refine ⟨i - 32, j - 32, by omega, by first | rfl | go_num, by first | rfl | go_num, rfl, by omega, by omega, by omega, ?_, ?_, ?_⟩
            · have := HA.out.1; have := HD.out; omega
            · have := HA.out.1; omega
            · exact top_alike HA.out.2 (by rw [HXY.out.1, HXY.out.2]; exact HZ.out)
        · have h0' : (z == 0) = false := by simpa using h0
          go_wp2_with fail
          refine (Calls.mono G1.out) ?_
          rintro r w2 ⟨rfl, rfl⟩
          go_wp2_with fail
          refine (Calls.mono G2.out) ?_
          rintro r w2 ⟨rfl, rfl⟩
          go_wp2_with fail
          refine (Calls.mono CM.out) ?_
          rintro r w2 ⟨rfl, rfl⟩
          go_wp2
          have e : z = R := by
            have h := top_differ dd HA.out.1 HA.out.2 (by rw [HXY.out.1, HXY.out.2, HZ.out]; exact h0)
            rw [HXY.out.1, HXY.out.2, HZ.out, HR.out] at h
            exact h
          subst e
          go_ret
          exact ⟨rfl, rfl⟩
      · have hpi' : decide (0 < i) = false := decide_eq_false hpi
        by_cases h0 : z = 0
        · subst h0
          go_wp2_with fail
          refine (Calls.mono G1.out) ?_
          rintro r w2 ⟨rfl, rfl⟩
          go_wp2_with fail
          refine (Calls.mono G2.out) ?_
          rintro r w2 ⟨rfl, rfl⟩
          go_wp2_with fail
          refine (Calls.mono CM.out) ?_
          rintro r w2 ⟨rfl, rfl⟩
          go_wp2
          go_roundg (gk - 32)
          case measure => omega
          case rel =>
            refine ⟨i - 32, j - 32, by omega, by first | rfl | go_num, by first | rfl | go_num, rfl, by omega, by omega, by omega, ?_, ?_, ?_⟩
            · have := HA.out.1; have := HD.out; omega
            · have := HA.out.1; omega
            · exact top_alike HA.out.2 (by rw [HXY.out.1, HXY.out.2]; exact HZ.out)
        · have h0' : (z == 0) = false := by simpa using h0
          go_wp2_with fail
          refine (Calls.mono G1.out) ?_
          rintro r w2 ⟨rfl, rfl⟩
          go_wp2_with fail
          refine (Calls.mono G2.out) ?_
          rintro r w2 ⟨rfl, rfl⟩
          go_wp2_with fail
          refine (Calls.mono CM.out) ?_
          rintro r w2 ⟨rfl, rfl⟩
          go_wp2
          have e : z = R := by
            have h := top_differ dd HA.out.1 HA.out.2 (by rw [HXY.out.1, HXY.out.2, HZ.out]; exact h0)
            rw [HXY.out.1, HXY.out.2, HZ.out, HR.out] at h
            exact h
          subst e
          go_ret
          exact ⟨rfl, rfl⟩
    · have hpi' : decide (0 < i) = false := decide_eq_false (by omega)
      have hpj' : decide (0 < j) = false := decide_eq_false (by omega)
      have e : R = 0 := by rw [← HR.out]; exact top_end dd HA.out.1 HA.out.2 (by omega)
      subst e
      go_wp2
      go_ret
      exact ⟨rfl, rfl⟩


set_option maxHeartbeats 4000000 in
theorem cmpSizes_go {w : World} {a b : Option Addr} {n c m d : Nat} (ng mg : Bool) (e f : Int) (x y dd : Nat) (R : Int) (bx : x ≤ 1125899906842624) (by' : y ≤ 1125899906842624)
    (hge : decide (e < f) = false) (hap : IntKind.u64.wrap (IntKind.u64.wrap e - IntKind.u64.wrap f) = (dd : Int))
    (H1 : Hid (∀ u, Below w.heap.size w u → Calls Tryd.prog 68 #[.slice a n c] u fun r w' => r = .returned (.int .i64 (x : Nat)) ∧ w' = u))
    (H2 : Hid (∀ u, Below w.heap.size w u → Calls Tryd.prog 68 #[.slice b m d] u fun r w' => r = .returned (.int .i64 (y : Nat)) ∧ w' = u))
    (H3 : Hid (∀ u, Below w.heap.size w u → dd + x = y → Calls Tryd.prog 77 #[.slice a n c, .slice b m d] u fun r w' => r = .returned (.int .i64 R) ∧ w' = u)) :
    Calls Tryd.prog 44 #[.agg #[.bool ng, .slice a n c, .int .i64 e], .agg #[.bool mg, .slice b m d, .int .i64 f]] w fun r w' => r = .returned (.int .i64 (if y < dd then 1 else if dd + x = y then R else cmpI (dd + x) y)) ∧ Below w.heap.size w w' := by
  obtain ⟨W1, hW1⟩ : ∃ W, W = (w.alloc (.cells #[.bool ng, .slice a n c, .int .i64 e] 37)).alloc (.cells #[.bool mg, .slice b m d, .int .i64 f] 37) := ⟨_, rfl⟩
  have hB : Below w.heap.size w W1 := by rw [hW1]; exact (below_alloc w _).alloc (by simp) _
  have DA : Dk W1 w.heap.size ng (.slice a n c) e := by rw [hW1]; exact (Dk.new w ng (.slice a n c) e).alloc _
  have DB : Dk W1 (w.heap.size + 1) mg (.slice b m d) f := by
    rw [hW1]
    have := Dk.new (w.alloc (.cells #[.bool ng, .slice a n c, .int .i64 e] 37)) mg (.slice b m d) f
    simpa using this
  obtain ⟨x0, x1, x2, xf0, xf1, xf2⟩ := DA.facts
  obtain ⟨y0, y1, y2, yf0, yf1, yf2⟩ := DB.facts
  have SB := Aside.intro hB
  clear DA DB hB
  have T1 := hid (H1.out W1 SB.out)
  have T2 := hid (H2.out W1 SB.out)
  have T1' := hid (H1.out W1.drew SB.out.drew)
  have T2' := hid (H2.out W1.drew SB.out.drew)
  have ex : IntKind.u64.wrap (x : Int) = (x : Int) := by rw [IntKind.wrap_u64]; omega
  have ey : IntKind.u64.wrap (y : Int) = (y : Int) := by rw [IntKind.wrap_u64]; omega
  by_cases h1 : y < dd
  · rw [if_pos h1]
    have h1' : (y : Int) < (dd : Int) := by omega
    go_enter Tryd.func44, Tryd.ntmps44
    go_upto_region 1 with fail
    rw [← hW1]
    clear hW1
    go_upto_region 4 with fail
    go_region_held3 (fun w' => w'.cell? ⟨w.heap.size, 1, none⟩ = some (.slice a n c) ∧ w'.cell? ⟨w.heap.size + 1, 1, none⟩ = some (.slice b m d)) (go_keep) (first
      | (go_at_call 68
         first | with_reducible refine T1.out.mono ?_ | with_reducible refine T1'.out.mono ?_ | with_reducible refine T2.out.mono ?_ | with_reducible refine T2'.out.mono ?_
         rintro r w' ⟨rfl, rfl⟩))
    all_goals (
      go_wp2
      go_ret
      first | exact ⟨rfl, SB.out⟩ | exact ⟨rfl, SB.out.drew⟩)
  · rw [if_neg h1]
    have h1' : decide ((y : Int) < (dd : Int)) = false := decide_eq_false (by omega)
    have es : IntKind.u64.wrap ((dd : Int) + (x : Int)) = (dd : Int) + (x : Int) := by rw [IntKind.wrap_u64]; omega
    by_cases h2 : dd + x = y
    · rw [if_pos h2]
      have T3 := hid (H3.out W1 SB.out h2)
      have T3' := hid (H3.out W1.drew SB.out.drew h2)
      have h2' : ((dd : Int) + (x : Int) == (y : Int)) = true := by simp; omega
      have h2'' : (dd : Int) + (x : Int) = (y : Int) := by omega
      go_enter Tryd.func44, Tryd.ntmps44
      go_upto_region 1 with fail
      rw [← hW1]
      clear hW1
      go_upto_region 4 with fail
      go_region_held3 (fun w' => w'.cell? ⟨w.heap.size, 1, none⟩ = some (.slice a n c) ∧ w'.cell? ⟨w.heap.size + 1, 1, none⟩ = some (.slice b m d)) (go_keep) (first
        | (go_at_call 68
           first | with_reducible refine T1.out.mono ?_ | with_reducible refine T1'.out.mono ?_ | with_reducible refine T2.out.mono ?_ | with_reducible refine T2'.out.mono ?_
           rintro r w' ⟨rfl, rfl⟩))
      all_goals (
        go_wp2_with fail
        first | with_reducible refine T3.out.mono ?_ | with_reducible refine T3'.out.mono ?_
        rintro r w' ⟨rfl, rfl⟩
        go_wp2
        go_ret
        first | exact ⟨rfl, SB.out⟩ | exact ⟨rfl, SB.out.drew⟩)
    · rw [if_neg h2]
      have h2' : ((dd : Int) + (x : Int) == (y : Int)) = false := by simp; omega
      have CW : Hid (∀ u, Calls Tryd.prog 76 #[.int .u64 ((dd : Int) + (x : Int)), .int .u64 (y : Int)] u fun r w' => r = .returned (.int .i64 (cmpI (dd + x) y)) ∧ w' = u) := fun u => by
        have := compare_w ((dd : Int) + (x : Int)) (y : Int) u
        rw [show (dd : Int) + (x : Int) = ((dd + x : Nat) : Int) by omega, cmpZ_nat] at this
        rw [show (dd : Int) + (x : Int) = ((dd + x : Nat) : Int) by omega]
        exact this
      obtain ⟨z, hz⟩ : ∃ z, cmpI (dd + x) y = z := ⟨_, rfl⟩
      rw [hz] at CW ⊢
      clear hz
      go_enter Tryd.func44, Tryd.ntmps44
      go_upto_region 1 with fail
      rw [← hW1]
      clear hW1
      go_upto_region 4 with fail
      go_region_held3 (fun w' => w'.cell? ⟨w.heap.size, 1, none⟩ = some (.slice a n c) ∧ w'.cell? ⟨w.heap.size + 1, 1, none⟩ = some (.slice b m d)) (go_keep) (first
        | (go_at_call 68
           first | with_reducible refine T1.out.mono ?_ | with_reducible refine T1'.out.mono ?_ | with_reducible refine T2.out.mono ?_ | with_reducible refine T2'.out.mono ?_
           rintro r w' ⟨rfl, rfl⟩))
      all_goals (
        go_wp2_with fail
        refine (CW.out _).mono ?_
        rintro r w' ⟨rfl, rfl⟩
        go_wp2
        go_ret
        first | exact ⟨rfl, SB.out⟩ | exact ⟨rfl, SB.out.drew⟩)
end Go.Proofs.YtnnlicahgdcbdaaDoor

