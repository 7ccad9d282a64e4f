/- dyad's Cmp. -/
import Derived.Test.YtnnlicahgdcbdaaDoorD24x
import Derived.Test.YtnnlicahgdcbdaaDoorS13x
import Derived.Test.YtnnlicahgdcbdaaDoorD1x
import Derived.Test.YtnnlicahgdcbdaaDoorD18x
namespace Go.Proofs.YtnnlicahgdcbdaaDoor
open Go.RowKit
set_option linter.unusedVariables false
set_option maxRecDepth 20000
set_option linter.unusedSimpArgs false

set_option maxHeartbeats 4000000 in
theorem cmpSizes_lt {w : World} {a b : Option Addr} {n c m d : Nat} (ng mg : Bool) (e f : Int) (z : Int) (hlt : e < f) (hz0 : -1 ≤ z) (hz1 : z ≤ 1)
    (HR : Hid (∀ u, Below w.heap.size w u → Calls Tryd.prog 44 #[.agg #[.bool mg, .slice b m d, .int .i64 f], .agg #[.bool ng, .slice a n c, .int .i64 e]] u fun r w' => r = .returned (.int .i64 z) ∧ Below u.heap.size u w')) :
    Calls Tryd.prog 44 #[.agg #[.bool ng, .slice a n c, .int .i64 e], .agg #[.bool mg, .slice b m d, .int .i64 f]] w fun r w' => r = .returned (.int .i64 (-z)) ∧ Below w.heap.size w w' := by
  obtain ⟨W1, hW1⟩ : ∃ W, W = (w.alloc (.cells #[.bool ng, .slice a n c, .int .i64 e] 37)).alloc (.cells #[.bool mg, .slice b m d, .int .i64 f] 37) := ⟨_, rfl⟩
  have hB : Below w.heap.size w W1 := by rw [hW1]; exact (below_alloc w _).alloc (by simp) _
  have hz : W1.heap.size = w.heap.size + 2 := by rw [hW1]; simp
  have DA : Dk W1 w.heap.size ng (.slice a n c) e := by rw [hW1]; exact (Dk.new w ng (.slice a n c) e).alloc _
  have DB : Dk W1 (w.heap.size + 1) mg (.slice b m d) f := by
    rw [hW1]
    have := Dk.new (w.alloc (.cells #[.bool ng, .slice a n c, .int .i64 e] 37)) mg (.slice b m d) f
    simpa using this
  have hs : w.heap.size ≤ W1.heap.size := by omega
  have S0 := (Aside.intro (And.intro hB (And.intro DA DB)))
  clear hz
  clear hB DA DB
  go_enter Tryd.func44, Tryd.ntmps44
  go_upto_region 1 with fail
  rw [← hW1]
  clear hW1
  obtain ⟨hB, DA, DB⟩ := S0.out
  obtain ⟨x0, x1, x2, xf0, xf1, xf2⟩ := DA.facts
  obtain ⟨y0, y1, y2, yf0, yf1, yf2⟩ := DB.facts
  have HH := hid (HR.out W1 hB)
  clear hB DA DB
  go_wp2_with fail
  clear x0 x1 x2 xf0 xf1 xf2 y0 y1 y2 yf0 yf1 yf2
  refine (Calls.mono HH.out) ?_
  rintro r u1 ⟨rfl, hb⟩
  obtain ⟨hB, DA, DB⟩ := S0.out
  have hs1 := hb.size
  have S1 := (Aside.intro (And.intro (hB.trans (hb.mono (by omega))) (And.intro (DA.below hb) (DB.below hb))))
  clear hB DA DB hb HH S0
  go_wp2
  go_ret
  exact ⟨rfl, S1.out.1⟩

set_option maxHeartbeats 4000000 in
theorem cmp_nought {w : World} {a b : Option Addr} {n c m d : Nat} (ng mg : Bool) (e f : Int) (s t z : Int) (hs0 : s = 0)
    (HA : Hid (∀ u, Below w.heap.size w u → Calls Tryd.prog 42 #[.agg #[.bool ng, .slice a n c, .int .i64 e]] u fun r w' => r = .returned (.int .i64 s) ∧ Below u.heap.size u w'))
    (HB : Hid (∀ u, Below w.heap.size w u → Calls Tryd.prog 42 #[.agg #[.bool mg, .slice b m d, .int .i64 f]] u fun r w' => r = .returned (.int .i64 t) ∧ Below u.heap.size u w'))
    (HC : Hid (∀ u, Calls Tryd.prog 43 #[.int .i64 s, .int .i64 t] u fun r w' => r = .returned (.int .i64 z) ∧ w' = u)) :
    Calls Tryd.prog 13 #[.agg #[.bool ng, .slice a n c, .int .i64 e], .agg #[.bool mg, .slice b m d, .int .i64 f]] w fun r w' => r = .returned (.int .i64 z) ∧ Below w.heap.size w w' := by
  subst hs0
  obtain ⟨W1, hW1⟩ : ∃ W, W = (w.alloc (.cells #[.bool ng, .slice a n c, .int .i64 e] 37)).alloc (.cells #[.bool mg, .slice b m d, .int .i64 f] 37) := ⟨_, rfl⟩
  have hB : Below w.heap.size w W1 := by rw [hW1]; exact (below_alloc w _).alloc (by simp) _
  have hz : W1.heap.size = w.heap.size + 2 := by rw [hW1]; simp
  have DA : Dk W1 w.heap.size ng (.slice a n c) e := by rw [hW1]; exact (Dk.new w ng (.slice a n c) e).alloc _
  have DB : Dk W1 (w.heap.size + 1) mg (.slice b m d) f := by
    rw [hW1]
    have := Dk.new (w.alloc (.cells #[.bool ng, .slice a n c, .int .i64 e] 37)) mg (.slice b m d) f
    simpa using this
  have hs : w.heap.size ≤ W1.heap.size := by omega
  have S0 := (Aside.intro (And.intro hB (And.intro DA DB)))
  clear hz
  clear hB DA DB
  go_enter Tryd.func13, Tryd.ntmps13
  go_upto_region 1 with fail
  rw [← hW1]
  clear hW1
  obtain ⟨hB, DA, DB⟩ := S0.out
  obtain ⟨x0, x1, x2, xf0, xf1, xf2⟩ := DA.facts
  obtain ⟨y0, y1, y2, yf0, yf1, yf2⟩ := DB.facts
  have HH := hid (HA.out W1 hB)
  clear hB DA DB
  go_wp2_with fail
  clear x0 x1 x2 xf0 xf1 xf2 y0 y1 y2 yf0 yf1 yf2
  refine (Calls.mono HH.out) ?_
  rintro r u1 ⟨rfl, hb⟩
  obtain ⟨hB, DA, DB⟩ := S0.out
  have hs1 := hb.size
  have S1 := (Aside.intro (And.intro (hB.trans (hb.mono (by omega))) (And.intro (DA.below hb) (DB.below hb))))
  clear hB DA DB hb HH S0
  obtain ⟨hB, DA, DB⟩ := S1.out
  obtain ⟨x0, x1, x2, xf0, xf1, xf2⟩ := DA.facts
  obtain ⟨y0, y1, y2, yf0, yf1, yf2⟩ := DB.facts
  have HH := hid (HB.out u1 hB)
  clear hB DA DB
  go_wp2_with fail
  clear x0 x1 x2 xf0 xf1 xf2 y0 y1 y2 yf0 yf1 yf2
  refine (Calls.mono HH.out) ?_
  rintro r u2 ⟨rfl, hb⟩
  obtain ⟨hB, DA, DB⟩ := S1.out
  have hs2 := hb.size
  have S2 := (Aside.intro (And.intro (hB.trans (hb.mono (by omega))) (And.intro (DA.below hb) (DB.below hb))))
  clear hB DA DB hb HH S1
  obtain ⟨hB, DA, DB⟩ := S2.out
  obtain ⟨x0, x1, x2, xf0, xf1, xf2⟩ := DA.facts
  obtain ⟨y0, y1, y2, yf0, yf1, yf2⟩ := DB.facts
  have HH := hid (HC.out u2)
  clear hB DA DB
  go_wp2_with fail
  clear x0 x1 x2 xf0 xf1 xf2 y0 y1 y2 yf0 yf1 yf2
  refine (Calls.mono HH.out) ?_
  rintro r uu ⟨rfl, hw⟩
  rw [hw]
  clear hw uu HH
  go_wp2
  go_ret
  exact ⟨rfl, S2.out.1⟩

set_option maxHeartbeats 4000000 in
theorem cmp_apart {w : World} {a b : Option Addr} {n c m d : Nat} (ng mg : Bool) (e f : Int) (s t z : Int) (hs0 : (s == 0) = false) (hst : (s == t) = false)
    (HA : Hid (∀ u, Below w.heap.size w u → Calls Tryd.prog 42 #[.agg #[.bool ng, .slice a n c, .int .i64 e]] u fun r w' => r = .returned (.int .i64 s) ∧ Below u.heap.size u w'))
    (HB : Hid (∀ u, Below w.heap.size w u → Calls Tryd.prog 42 #[.agg #[.bool mg, .slice b m d, .int .i64 f]] u fun r w' => r = .returned (.int .i64 t) ∧ Below u.heap.size u w'))
    (HC : Hid (∀ u, Calls Tryd.prog 43 #[.int .i64 s, .int .i64 t] u fun r w' => r = .returned (.int .i64 z) ∧ w' = u)) :
    Calls Tryd.prog 13 #[.agg #[.bool ng, .slice a n c, .int .i64 e], .agg #[.bool mg, .slice b m d, .int .i64 f]] w fun r w' => r = .returned (.int .i64 z) ∧ Below w.heap.size w w' := by
  obtain ⟨W1, hW1⟩ : ∃ W, W = (w.alloc (.cells #[.bool ng, .slice a n c, .int .i64 e] 37)).alloc (.cells #[.bool mg, .slice b m d, .int .i64 f] 37) := ⟨_, rfl⟩
  have hB : Below w.heap.size w W1 := by rw [hW1]; exact (below_alloc w _).alloc (by simp) _
  have hz : W1.heap.size = w.heap.size + 2 := by rw [hW1]; simp
  have DA : Dk W1 w.heap.size ng (.slice a n c) e := by rw [hW1]; exact (Dk.new w ng (.slice a n c) e).alloc _
  have DB : Dk W1 (w.heap.size + 1) mg (.slice b m d) f := by
    rw [hW1]
    have := Dk.new (w.alloc (.cells #[.bool ng, .slice a n c, .int .i64 e] 37)) mg (.slice b m d) f
    simpa using this
  have hs : w.heap.size ≤ W1.heap.size := by omega
  have S0 := (Aside.intro (And.intro hB (And.intro DA DB)))
  clear hz
  clear hB DA DB
  go_enter Tryd.func13, Tryd.ntmps13
  go_upto_region 1 with fail
  rw [← hW1]
  clear hW1
  obtain ⟨hB, DA, DB⟩ := S0.out
  obtain ⟨x0, x1, x2, xf0, xf1, xf2⟩ := DA.facts
  obtain ⟨y0, y1, y2, yf0, yf1, yf2⟩ := DB.facts
  have HH := hid (HA.out W1 hB)
  clear hB DA DB
  go_wp2_with fail
  clear x0 x1 x2 xf0 xf1 xf2 y0 y1 y2 yf0 yf1 yf2
  refine (Calls.mono HH.out) ?_
  rintro r u1 ⟨rfl, hb⟩
  obtain ⟨hB, DA, DB⟩ := S0.out
  have hs1 := hb.size
  have S1 := (Aside.intro (And.intro (hB.trans (hb.mono (by omega))) (And.intro (DA.below hb) (DB.below hb))))
  clear hB DA DB hb HH S0
  obtain ⟨hB, DA, DB⟩ := S1.out
  obtain ⟨x0, x1, x2, xf0, xf1, xf2⟩ := DA.facts
  obtain ⟨y0, y1, y2, yf0, yf1, yf2⟩ := DB.facts
  have HH := hid (HB.out u1 hB)
  clear hB DA DB
  go_wp2_with fail
  clear x0 x1 x2 xf0 xf1 xf2 y0 y1 y2 yf0 yf1 yf2
  refine (Calls.mono HH.out) ?_
  rintro r u2 ⟨rfl, hb⟩
  obtain ⟨hB, DA, DB⟩ := S1.out
  have hs2 := hb.size
  have S2 := (Aside.intro (And.intro (hB.trans (hb.mono (by omega))) (And.intro (DA.below hb) (DB.below hb))))
  clear hB DA DB hb HH S1
  obtain ⟨hB, DA, DB⟩ := S2.out
  obtain ⟨x0, x1, x2, xf0, xf1, xf2⟩ := DA.facts
  obtain ⟨y0, y1, y2, yf0, yf1, yf2⟩ := DB.facts
  have HH := hid (HB.out u2 hB)
  clear hB DA DB
  go_wp2_with fail
  clear x0 x1 x2 xf0 xf1 xf2 y0 y1 y2 yf0 yf1 yf2
  refine (Calls.mono HH.out) ?_
  rintro r u3 ⟨rfl, hb⟩
  obtain ⟨hB, DA, DB⟩ := S2.out
  have hs3 := hb.size
  have S3 := (Aside.intro (And.intro (hB.trans (hb.mono (by omega))) (And.intro (DA.below hb) (DB.below hb))))
  clear hB DA DB hb HH S2
  obtain ⟨hB, DA, DB⟩ := S3.out
  obtain ⟨x0, x1, x2, xf0, xf1, xf2⟩ := DA.facts
  obtain ⟨y0, y1, y2, yf0, yf1, yf2⟩ := DB.facts
  have HH := hid (HC.out u3)
  clear hB DA DB
  go_wp2_with fail
  clear x0 x1 x2 xf0 xf1 xf2 y0 y1 y2 yf0 yf1 yf2
  refine (Calls.mono HH.out) ?_
  rintro r uu ⟨rfl, hw⟩
  rw [hw]
  clear hw uu HH
  go_wp2
  go_ret
  exact ⟨rfl, S3.out.1⟩

set_option maxHeartbeats 4000000 in
theorem cmp_alike {w : World} {a b : Option Addr} {n c m d : Nat} (ng mg : Bool) (e f : Int) (s z : Int) (hs0 : (s == 0) = false) (bs0 : -1 ≤ s) (bs1 : s ≤ 1) (bz0 : -1 ≤ z) (bz1 : z ≤ 1) (p : Int) (hp : IntKind.i64.wrap (s * z) = p)
    (HA : Hid (∀ u, Below w.heap.size w u → Calls Tryd.prog 42 #[.agg #[.bool ng, .slice a n c, .int .i64 e]] u fun r w' => r = .returned (.int .i64 s) ∧ Below u.heap.size u w'))
    (HB : Hid (∀ u, Below w.heap.size w u → Calls Tryd.prog 42 #[.agg #[.bool mg, .slice b m d, .int .i64 f]] u fun r w' => r = .returned (.int .i64 s) ∧ Below u.heap.size u w'))
    (HZ : Hid (∀ u, Below w.heap.size w u → Calls Tryd.prog 44 #[.agg #[.bool ng, .slice a n c, .int .i64 e], .agg #[.bool mg, .slice b m d, .int .i64 f]] u fun r w' => r = .returned (.int .i64 z) ∧ Below u.heap.size u w')) :
    Calls Tryd.prog 13 #[.agg #[.bool ng, .slice a n c, .int .i64 e], .agg #[.bool mg, .slice b m d, .int .i64 f]] w fun r w' => r = .returned (.int .i64 p) ∧ Below w.heap.size w w' := by
  obtain ⟨W1, hW1⟩ : ∃ W, W = (w.alloc (.cells #[.bool ng, .slice a n c, .int .i64 e] 37)).alloc (.cells #[.bool mg, .slice b m d, .int .i64 f] 37) := ⟨_, rfl⟩
  have hB : Below w.heap.size w W1 := by rw [hW1]; exact (below_alloc w _).alloc (by simp) _
  have hz : W1.heap.size = w.heap.size + 2 := by rw [hW1]; simp
  have DA : Dk W1 w.heap.size ng (.slice a n c) e := by rw [hW1]; exact (Dk.new w ng (.slice a n c) e).alloc _
  have DB : Dk W1 (w.heap.size + 1) mg (.slice b m d) f := by
    rw [hW1]
    have := Dk.new (w.alloc (.cells #[.bool ng, .slice a n c, .int .i64 e] 37)) mg (.slice b m d) f
    simpa using this
  have hs : w.heap.size ≤ W1.heap.size := by omega
  have S0 := (Aside.intro (And.intro hB (And.intro DA DB)))
  clear hz
  clear hB DA DB
  go_enter Tryd.func13, Tryd.ntmps13
  go_upto_region 1 with fail
  rw [← hW1]
  clear hW1
  obtain ⟨hB, DA, DB⟩ := S0.out
  obtain ⟨x0, x1, x2, xf0, xf1, xf2⟩ := DA.facts
  obtain ⟨y0, y1, y2, yf0, yf1, yf2⟩ := DB.facts
  have HH := hid (HA.out W1 hB)
  clear hB DA DB
  go_wp2_with fail
  clear x0 x1 x2 xf0 xf1 xf2 y0 y1 y2 yf0 yf1 yf2
  refine (Calls.mono HH.out) ?_
  rintro r u1 ⟨rfl, hb⟩
  obtain ⟨hB, DA, DB⟩ := S0.out
  have hs1 := hb.size
  have S1 := (Aside.intro (And.intro (hB.trans (hb.mono (by omega))) (And.intro (DA.below hb) (DB.below hb))))
  clear hB DA DB hb HH S0
  obtain ⟨hB, DA, DB⟩ := S1.out
  obtain ⟨x0, x1, x2, xf0, xf1, xf2⟩ := DA.facts
  obtain ⟨y0, y1, y2, yf0, yf1, yf2⟩ := DB.facts
  have HH := hid (HB.out u1 hB)
  clear hB DA DB
  go_wp2_with fail
  clear x0 x1 x2 xf0 xf1 xf2 y0 y1 y2 yf0 yf1 yf2
  refine (Calls.mono HH.out) ?_
  rintro r u2 ⟨rfl, hb⟩
  obtain ⟨hB, DA, DB⟩ := S1.out
  have hs2 := hb.size
  have S2 := (Aside.intro (And.intro (hB.trans (hb.mono (by omega))) (And.intro (DA.below hb) (DB.below hb))))
  clear hB DA DB hb HH S1
  obtain ⟨hB, DA, DB⟩ := S2.out
  obtain ⟨x0, x1, x2, xf0, xf1, xf2⟩ := DA.facts
  obtain ⟨y0, y1, y2, yf0, yf1, yf2⟩ := DB.facts
  have HH := hid (HZ.out u2 hB)
  clear hB DA DB
  go_wp2_with fail
  clear x0 x1 x2 xf0 xf1 xf2 y0 y1 y2 yf0 yf1 yf2
  refine (Calls.mono HH.out) ?_
  rintro r u3 ⟨rfl, hb⟩
  obtain ⟨hB, DA, DB⟩ := S2.out
  have hs3 := hb.size
  have S3 := (Aside.intro (And.intro (hB.trans (hb.mono (by omega))) (And.intro (DA.below hb) (DB.below hb))))
  clear hB DA DB hb HH S2
  go_wp2
  go_ret
  exact ⟨rfl, S3.out.1⟩


theorem u64_apart (e f : Int) (he0 : -9223372036854775808 ≤ e) (he1 : e ≤ 9223372036854775807) (hf0 : -9223372036854775808 ≤ f) (hf1 : f ≤ 9223372036854775807) (h : f ≤ e) : IntKind.u64.wrap (IntKind.u64.wrap e - IntKind.u64.wrap f) = (((e - f).toNat : Nat) : Int) := by
  rw [IntKind.wrap_u64, IntKind.wrap_u64, IntKind.wrap_u64]
  omega
theorem cmp_size (X Y dd : Nat) (hX : X ≠ 0) : (if bl Y < dd then 1 else if dd + bl X = bl Y then cmpI (X * 2 ^ dd) Y else cmpI (dd + bl X) (bl Y)) = cmpI (X * 2 ^ dd) Y := by
  have hb := bl_up X dd hX
  by_cases h1 : bl Y < dd
  · rw [if_pos h1, cmpI_bl (by omega), hb]
    unfold cmpI
    rw [if_neg (by omega), if_pos (by omega)]
  · rw [if_neg h1]
    by_cases h2 : dd + bl X = bl Y
    · rw [if_pos h2]
    · rw [if_neg h2, cmpI_bl (x := X * 2 ^ dd) (by omega), hb, Nat.add_comm]

theorem bl_arg {w : World} {a : Option Addr} {n c : Nat} {xs : List Nat} (h1 : Arg w a n c xs) : bl (val xs) ≤ 1125899906842624 := by
  have := val_lt xs h1.wf
  rw [← h1.len] at this
  have := bl_pw _ _ this
  have := h1.big
  omega
theorem cmpSizes_ge {w : World} {a b : Option Addr} {n c m d : Nat} {xs ys : List Nat} (h1 : Arg w a n c xs) (h2 : Arg w b m d ys) (ng mg : Bool) (e f : Int) (he0 : -9223372036854775808 ≤ e) (he1 : e ≤ 9223372036854775807) (hf0 : -9223372036854775808 ≤ f) (hf1 : f ≤ 9223372036854775807) (h : f ≤ e) (hX : val xs ≠ 0) :
    Calls Tryd.prog 44 #[.agg #[.bool ng, .slice a n c, .int .i64 e], .agg #[.bool mg, .slice b m d, .int .i64 f]] w fun r w' => r = .returned (.int .i64 (cmpP (val xs) e (val ys) f)) ∧ Below w.heap.size w w' := by
  have b1 := h1.big
  have b2 := h2.big
  have := cmpSizes_go (w := w) ng mg e f (bl (val xs)) (bl (val ys)) (e - f).toNat (cmpI (val xs * 2 ^ (e - f).toNat) (val ys)) (bl_arg h1) (bl_arg h2) (decide_eq_false (by omega)) (u64_apart e f he0 he1 hf0 hf1 h)
    (hid fun u hu => len_any xs a n c u.heap.size u h1.len h1.cap (by omega) h1.wf (h1.below hu).rd)
    (hid fun u hu => len_any ys b m d u.heap.size u h2.len h2.cap (by omega) h2.wf (h2.below hu).rd)
    (hid fun u hu hd => cmpFromTop_any (h1.below hu) (h2.below hu) (e - f).toNat (by omega))
  rw [cmp_size _ _ _ hX] at this
  unfold cmpP
  rw [if_neg (by omega)]
  exact this
theorem cmpSizes_any {w : World} {a b : Option Addr} {n c m d : Nat} {xs ys : List Nat} (h1 : Arg w a n c xs) (h2 : Arg w b m d ys) (ng mg : Bool) (e f : Int) (he0 : -9223372036854775808 ≤ e) (he1 : e ≤ 9223372036854775807) (hf0 : -9223372036854775808 ≤ f) (hf1 : f ≤ 9223372036854775807) (hX : val xs ≠ 0) (hY : val ys ≠ 0) :
    Calls Tryd.prog 44 #[.agg #[.bool ng, .slice a n c, .int .i64 e], .agg #[.bool mg, .slice b m d, .int .i64 f]] w fun r w' => r = .returned (.int .i64 (cmpP (val xs) e (val ys) f)) ∧ Below w.heap.size w w' := by
  by_cases h : e < f
  · have hr := cmpP_range (val ys) f (val xs) e
    have := cmpSizes_lt (w := w) ng mg e f (cmpP (val ys) f (val xs) e) h (by omega) (by omega) (hid fun u hu => cmpSizes_ge (h2.below hu) (h1.below hu) mg ng f e hf0 hf1 he0 he1 (by omega) hY)
    rw [cmpP_neg] at this
    exact this
  · exact cmpSizes_ge h1 h2 ng mg e f he0 he1 hf0 hf1 (by omega) hX

theorem sgn_range (n : Bool) (X : Nat) : sgn n X = -1 ∨ sgn n X = 0 ∨ sgn n X = 1 := by
  unfold sgn; split
  · exact .inr (.inl rfl)
  · split
    · exact .inl rfl
    · exact .inr (.inr rfl)
theorem sgn_zero3 {n : Bool} {X : Nat} : sgn n X = 0 ↔ X = 0 := by
  unfold sgn
  by_cases h : X = 0
  · simp [h]
  · rw [if_neg h]; cases n <;> simp [h]
theorem Cmp_any3 {w : World} {a b : Option Addr} {n c m d : Nat} {xs ys : List Nat} (h1 : Arg w a n c xs) (h2 : Arg w b m d ys) (ng mg : Bool) (e f : Int) (he0 : -9223372036854775808 ≤ e) (he1 : e ≤ 9223372036854775807) (hf0 : -9223372036854775808 ≤ f) (hf1 : f ≤ 9223372036854775807) :
    Calls Tryd.prog 13 #[.agg #[.bool ng, .slice a n c, .int .i64 e], .agg #[.bool mg, .slice b m d, .int .i64 f]] w fun r w' => r = .returned (.int .i64 (cmpV ng (val xs) e mg (val ys) f)) ∧ Below w.heap.size w w' := by
  have SA := hid fun u (hu : Below w.heap.size w u) => Sign_any3 (h1.below hu) ng e
  have SB := hid fun u (hu : Below w.heap.size w u) => Sign_any3 (h2.below hu) mg f
  have hA := sgn_range ng (val xs)
  have hB := sgn_range mg (val ys)
  by_cases h0 : sgn ng (val xs) = 0
  · have hX := sgn_zero3.1 h0
    have e1 : cmpV ng (val xs) e mg (val ys) f = cmpZ (sgn ng (val xs)) (sgn mg (val ys)) := by
      unfold cmpV cmpZ
      rw [if_pos hX]
    rw [e1]
    exact cmp_nought ng mg e f _ _ _ h0 SA SB (hid fun u => compare_z _ _ u)
  · have h0' : (sgn ng (val xs) == 0) = false := by simpa using h0
    by_cases hst : sgn ng (val xs) = sgn mg (val ys)
    · have hX : val xs ≠ 0 := fun h => h0 (sgn_zero3.2 h)
      have hY : val ys ≠ 0 := fun h => h0 (by rw [hst]; exact sgn_zero3.2 h)
      have hz := cmpP_range (val xs) e (val ys) f
      have e1 : cmpV ng (val xs) e mg (val ys) f = sgn ng (val xs) * cmpP (val xs) e (val ys) f := by
        unfold cmpV
        rw [hst, if_neg (by omega), if_neg (by omega), if_neg hX, ← hst]
        unfold sgn
        rw [if_neg hX]
        cases ng
        · simp
        · simp only [if_true]
          rw [Int.neg_one_mul, cmpP_neg]
      rw [e1]
      rw [← hst] at SB
      refine cmp_alike ng mg e f (sgn ng (val xs)) (cmpP (val xs) e (val ys) f) h0' (by omega) (by omega) (by omega) (by omega) _ ?_ SA SB (hid fun u hu => cmpSizes_any (h1.below hu) (h2.below hu) ng mg e f he0 he1 hf0 hf1 hX hY)
      rcases hA with h | h | h <;> rcases hz with k | k | k <;> rw [h, k] <;> rfl
    · have e1 : cmpV ng (val xs) e mg (val ys) f = cmpZ (sgn ng (val xs)) (sgn mg (val ys)) := by
        unfold cmpV cmpZ
        by_cases k : sgn ng (val xs) < sgn mg (val ys)
        · rw [if_pos k, if_pos k]
        · rw [if_neg k, if_neg k, if_pos (by omega), if_pos (by omega)]
      rw [e1]
      exact cmp_apart ng mg e f _ _ _ h0' (by simpa using hst) SA SB (hid fun u => compare_z _ _ u)
end Go.Proofs.YtnnlicahgdcbdaaDoor

/- Dyads as whole numbers over a common power: sums, products, what is alike, how they stand. -/
namespace Go.Proofs.YtnnlicahgdcbdaaDoor
open Go.RowKit
set_option linter.unusedVariables false
set_option maxRecDepth 20000

/-- A sign. -/
def sg1 (n : Bool) : Int := if n then -1 else 1
/-- The value of (n, X, e), in units of 2^B. -/
def zv (B : Int) (x : Bool × Nat × Int) : Int := sg1 x.1 * ((x.2.1 * 2 ^ (x.2.2 - B).toNat : Nat) : Int)

theorem pow_split (e l B : Int) (h : B ≤ e) (hl : 0 ≤ l) : (2 : Nat) ^ (e + l - B).toNat = 2 ^ l.toNat * 2 ^ (e - B).toNat := by
  rw [← Nat.pow_add]; congr 1; omega

theorem zv_mkS {n : Bool} {X : Nat} {e : Int} {x : Bool × Nat × Int} (h : mkS n X e = some x) (B : Int) (hB : X = 0 ∨ B ≤ e) : zv B x = sg1 n * ((X * 2 ^ (e - B).toNat : Nat) : Int) := by
  unfold mkS at h
  by_cases h0 : X = 0
  · rw [if_pos h0] at h
    cases h
    subst h0
    simp [zv]
  · rw [if_neg h0] at h
    split at h
    · cases h
    · cases h
      have hB' : B ≤ e := by rcases hB with h | h; exact absurd h h0; exact h
      obtain ⟨m, hm, hd, _⟩ := odd_part X h0
      show sg1 n * ((X / 2 ^ lo X * 2 ^ (e + (lo X : Int) - B).toNat : Nat) : Int) = _
      rw [pow_split e (lo X) B hB' (by omega), Int.toNat_natCast, ← Nat.mul_assoc]
      have hx : X / 2 ^ lo X * 2 ^ lo X = X := by rw [hd]; rw [Nat.mul_comm]; exact hm.symm
      rw [hx]

theorem sg1_ne {n m : Bool} (h : ¬ n = m) : sg1 m = -sg1 n := by cases n <;> cases m <;> first | exact absurd rfl h | rfl
theorem sg1_not (n : Bool) : sg1 (!n) = -sg1 n := by cases n <;> rfl
theorem sg1_bne (n m : Bool) : sg1 (n != m) = sg1 n * sg1 m := by cases n <;> cases m <;> rfl

theorem zv_addUp {n m : Bool} {X Y : Nat} {e f : Int} {z : Bool × Nat × Int} (h : addUp n X e m Y f = some z) (hfe : f ≤ e) (B : Int) (hB : B ≤ f) : zv B z = zv B (n, X, e) + zv B (m, Y, f) := by
  unfold addUp at h
  split at h
  · cases h
  · have key : X * 2 ^ (e - f).toNat * 2 ^ (f - B).toNat = X * 2 ^ (e - B).toNat := by
      rw [Nat.mul_assoc, ← Nat.pow_add, show (e - f).toNat + (f - B).toNat = (e - B).toNat by omega]
    show zv B z = sg1 n * ((X * 2 ^ (e - B).toNat : Nat) : Int) + sg1 m * ((Y * 2 ^ (f - B).toNat : Nat) : Int)
    generalize 2 ^ (e - f).toNat = P at h key
    split at h
    · rename_i hnm
      rw [zv_mkS h B (.inr hB), hnm, ← Int.mul_add, Nat.add_mul, key, Int.natCast_add]
    · rename_i hnm
      split at h
      · rename_i hle
        rw [zv_mkS h B (.inr hB), sg1_ne hnm, Nat.sub_mul, key, Int.ofNat_sub (by rw [← key]; exact Nat.mul_le_mul_right _ hle), Int.mul_sub, Int.neg_mul]
        omega
      · rename_i hle
        rw [zv_mkS h B (.inr hB), sg1_not, sg1_ne hnm, Nat.sub_mul, key, Int.ofNat_sub (by rw [← key]; exact Nat.mul_le_mul_right _ (by omega)), Int.mul_sub, Int.neg_mul, Int.neg_mul]
        omega

theorem zv_zero {x : Bool × Nat × Int} (B : Int) (h : x.2.1 = 0) : zv B x = 0 := by unfold zv; rw [h]; simp

theorem zv_addF {x y z : Bool × Nat × Int} (h : addF x y = some z) (B : Int) (hx : x.2.1 = 0 ∨ B ≤ x.2.2) (hy : y.2.1 = 0 ∨ B ≤ y.2.2) : zv B z = zv B x + zv B y := by
  obtain ⟨n, X, e⟩ := x
  obtain ⟨m, Y, f⟩ := y
  unfold addF at h
  simp only at h hx hy
  by_cases h0 : X = 0
  · rw [if_pos h0] at h
    cases h
    rw [zv_zero (x := (n, X, e)) B h0, Int.zero_add]
  · rw [if_neg h0] at h
    by_cases h1 : Y = 0
    · rw [if_pos h1] at h
      cases h
      rw [zv_zero (x := (m, Y, f)) B h1, Int.add_zero]
    · rw [if_neg h1] at h
      have hx' : B ≤ e := by rcases hx with k | k; exact absurd k h0; exact k
      have hy' : B ≤ f := by rcases hy with k | k; exact absurd k h1; exact k
      by_cases h2 : e < f
      · rw [if_pos h2] at h
        rw [zv_addUp h (by omega) B hx', Int.add_comm]
      · rw [if_neg h2] at h
        exact zv_addUp h (by omega) B hy'

theorem zv_mulF {x y z : Bool × Nat × Int} (h : mulF x y = some z) (B C : Int) (hx : x.2.1 = 0 ∨ B ≤ x.2.2) (hy : y.2.1 = 0 ∨ C ≤ y.2.2) : zv (B + C) z = zv B x * zv C y := by
  obtain ⟨n, X, e⟩ := x
  obtain ⟨m, Y, f⟩ := y
  unfold mulF at h
  simp only at h hx hy
  by_cases h0 : X = 0
  · subst h0
    rw [Nat.zero_mul] at h
    rw [zv_mkS h _ (.inl rfl), zv_zero (x := (n, 0, e)) B rfl]
    simp
  · by_cases h1 : Y = 0
    · subst h1
      rw [Nat.mul_zero] at h
      rw [zv_mkS h _ (.inl rfl), zv_zero (x := (m, 0, f)) C rfl]
      simp
    · have hx' : B ≤ e := by rcases hx with k | k; exact absurd k h0; exact k
      have hy' : C ≤ f := by rcases hy with k | k; exact absurd k h1; exact k
      rw [zv_mkS h _ (.inr (by omega)), sg1_bne]
      unfold zv
      simp only
      rw [show (e + f - (B + C)).toNat = (e - B).toNat + (f - C).toNat by omega, Nat.pow_add]
      rw [show X * Y * (2 ^ (e - B).toNat * 2 ^ (f - C).toNat) = (X * 2 ^ (e - B).toNat) * (Y * 2 ^ (f - C).toNat) by rw [Nat.mul_mul_mul_comm]]
      rw [Int.natCast_mul, Int.mul_assoc, Int.mul_assoc]
      congr 1
      rw [← Int.mul_assoc, ← Int.mul_assoc]
      congr 1
      exact Int.mul_comm _ _

/-- What has one value has one form. -/
theorem odd_pow {X Y : Nat} (a b : Nat) (hX : X % 2 = 1) (hY : Y % 2 = 1) (h : X * 2 ^ a = Y * 2 ^ b) : X = Y ∧ a = b := by
  have key : ∀ (a b X Y : Nat), X % 2 = 1 → Y % 2 = 1 → X * 2 ^ a = Y * 2 ^ b → a ≤ b := by
    intro a b X Y hX hY h
    rcases Nat.lt_or_ge b a with k | k
    · exfalso
      obtain ⟨d, rfl⟩ : ∃ d, a = b + (d + 1) := ⟨a - b - 1, by omega⟩
      rw [Nat.pow_add, Nat.mul_comm (2 ^ b), ← Nat.mul_assoc] at h
      have := Nat.eq_of_mul_eq_mul_right (Nat.two_pow_pos b) h
      rw [Nat.pow_succ, ← Nat.mul_assoc] at this
      omega
    · exact k
  have h1 := key a b X Y hX hY h
  have h2 := key b a Y X hY hX h.symm
  have e : a = b := by omega
  subst e
  exact ⟨Nat.eq_of_mul_eq_mul_right (Nat.two_pow_pos a) h, rfl⟩

theorem zv_inj {n m : Bool} {X Y : Nat} {e f : Int} (FX : Frm n X e) (FY : Frm m Y f) (B : Int) (hB : B ≤ -1048576) (h : zv B (n, X, e) = zv B (m, Y, f)) : n = m ∧ X = Y ∧ e = f := by
  have hx := FX.down
  have hy := FY.down
  unfold zv at h
  simp only at h
  have hpX : 0 < 2 ^ (e - B).toNat := Nat.two_pow_pos _
  have hpY : 0 < 2 ^ (f - B).toNat := Nat.two_pow_pos _
  rcases FX.odd with oX | ⟨rfl, rfl, rfl⟩
  · rcases FY.odd with oY | ⟨rfl, rfl, rfl⟩
    · have pX : 0 < X * 2 ^ (e - B).toNat := Nat.mul_pos (by omega) hpX
      have pY : 0 < Y * 2 ^ (f - B).toNat := Nat.mul_pos (by omega) hpY
      have hn : n = m := by
        generalize X * 2 ^ (e - B).toNat = P at h pX
        generalize Y * 2 ^ (f - B).toNat = Q at h pY
        cases n <;> cases m <;> first | rfl | (simp only [sg1, Bool.false_eq_true, if_true, if_false] at h; omega)
      subst hn
      have hPQ : X * 2 ^ (e - B).toNat = Y * 2 ^ (f - B).toNat := by
        generalize X * 2 ^ (e - B).toNat = P at h
        generalize Y * 2 ^ (f - B).toNat = Q at h
        cases n <;> (simp only [sg1, Bool.false_eq_true, if_true, if_false] at h; omega)
      obtain ⟨h1, h2⟩ := odd_pow _ _ oX oY hPQ
      exact ⟨rfl, h1, by omega⟩
    · exfalso
      have pX : 0 < X * 2 ^ (e - B).toNat := Nat.mul_pos (by omega) hpX
      generalize X * 2 ^ (e - B).toNat = P at h pX
      rw [Nat.zero_mul] at h
      cases n <;> (simp only [sg1, Bool.false_eq_true, if_true, if_false] at h; omega)
  · rcases FY.odd with oY | ⟨rfl, rfl, rfl⟩
    · exfalso
      have pY : 0 < Y * 2 ^ (f - B).toNat := Nat.mul_pos (by omega) hpY
      generalize Y * 2 ^ (f - B).toNat = Q at h pY
      rw [Nat.zero_mul] at h
      cases m <;> (simp only [sg1, Bool.false_eq_true, if_true, if_false] at h; omega)
    · exact ⟨rfl, rfl, rfl⟩
end Go.Proofs.YtnnlicahgdcbdaaDoor

/- Dyads are a ring; Cmp is the Sign of Sub. -/
namespace Go.Proofs.YtnnlicahgdcbdaaDoor
open Go.RowKit
set_option linter.unusedVariables false
set_option maxRecDepth 20000

theorem mkS_idem {n : Bool} {X : Nat} {e : Int} (F : Frm n X e) : mkS n X e = some (n, X, e) := by
  unfold mkS
  rcases F.odd with h | ⟨rfl, rfl, rfl⟩
  · have h1 := F.size; have h2 := F.up; have h3 := F.down
    rw [if_neg (by omega), lo_odd1 h, if_neg (by omega), Nat.pow_zero, Nat.div_one]
    simp
  · rw [if_pos rfl]
theorem addUp_frm {n m : Bool} {X Y : Nat} {e f : Int} {n' : Bool} {Z : Nat} {g : Int} (h : addUp n X e m Y f = some (n', Z, g)) : Frm n' Z g := by
  unfold addUp at h
  split at h
  · cases h
  · split at h
    · exact mkS_frm h
    · split at h
      · exact mkS_frm h
      · exact mkS_frm h
theorem addF_frm {n m : Bool} {X Y : Nat} {e f : Int} (FX : Frm n X e) (FY : Frm m Y f) {n' : Bool} {Z : Nat} {g : Int} (h : addF (n, X, e) (m, Y, f) = some (n', Z, g)) : Frm n' Z g := by
  unfold addF at h
  simp only at h
  split at h
  · cases h; exact FY
  · split at h
    · cases h; exact FX
    · split at h
      · exact addUp_frm h
      · exact addUp_frm h
theorem addD_some {o p : Option (Bool × Nat × Int)} (h : (addD o p).isSome = true) : ∃ x y z, o = some x ∧ p = some y ∧ addF x y = some z ∧ addD o p = some z := by
  cases o with
  | none => cases h
  | some x =>
    cases p with
    | none => cases h
    | some y =>
      obtain ⟨z, hz⟩ := Option.isSome_iff_exists.1 h
      exact ⟨x, y, z, rfl, rfl, hz, hz⟩
theorem mulD_some {o p : Option (Bool × Nat × Int)} (h : (mulD o p).isSome = true) : ∃ x y z, o = some x ∧ p = some y ∧ mulF x y = some z ∧ mulD o p = some z := by
  cases o with
  | none => cases h
  | some x =>
    cases p with
    | none => cases h
    | some y =>
      obtain ⟨z, hz⟩ := Option.isSome_iff_exists.1 h
      exact ⟨x, y, z, rfl, rfl, hz, hz⟩

/-- A form whose value is known. -/
structure Fv (B : Int) (o : Option (Bool × Nat × Int)) (z : Int) : Prop where
  ex : ∃ n X e, o = some (n, X, e) ∧ Frm n X e ∧ zv B (n, X, e) = z
theorem Frm.base {n : Bool} {X : Nat} {e : Int} (F : Frm n X e) {B : Int} (hB : B ≤ -1048576) : X = 0 ∨ B ≤ e := .inr (by have := F.down; omega)
theorem Fv.add {B : Int} (hB : B ≤ -1048576) {o p : Option (Bool × Nat × Int)} {x y : Int} (h1 : Fv B o x) (h2 : Fv B p y) (h : (addD o p).isSome = true) : Fv B (addD o p) (x + y) := by
  obtain ⟨n, X, e, rfl, F, rfl⟩ := h1.ex
  obtain ⟨m, Y, f, rfl, G, rfl⟩ := h2.ex
  obtain ⟨_, _, z, e1, e2, hz, hd⟩ := addD_some h
  cases e1; cases e2
  obtain ⟨n', Z, g⟩ := z
  exact ⟨n', Z, g, hd, addF_frm F G hz, zv_addF hz B (F.base hB) (G.base hB)⟩
theorem Fv.mul {B C : Int} (hB : B ≤ -1048576) (hC : C ≤ -1048576) {o p : Option (Bool × Nat × Int)} {x y : Int} (h1 : Fv B o x) (h2 : Fv C p y) (h : (mulD o p).isSome = true) : Fv (B + C) (mulD o p) (x * y) := by
  obtain ⟨n, X, e, rfl, F, rfl⟩ := h1.ex
  obtain ⟨m, Y, f, rfl, G, rfl⟩ := h2.ex
  obtain ⟨_, _, z, e1, e2, hz, hd⟩ := mulD_some h
  cases e1; cases e2
  obtain ⟨n', Z, g⟩ := z
  exact ⟨n', Z, g, hd, mkS_frm hz, zv_mulF hz B C (F.base hB) (G.base hC)⟩
theorem Fv.raw {n : Bool} {X : Nat} {e B : Int} (hB : B ≤ e) (h : (mkS n X e).isSome = true) : Fv B (mkS n X e) (sg1 n * ((X * 2 ^ (e - B).toNat : Nat) : Int)) := by
  obtain ⟨⟨n', Y, f⟩, hz⟩ := Option.isSome_iff_exists.1 h
  exact ⟨n', Y, f, hz, mkS_frm hz, zv_mkS hz B (.inr hB)⟩
theorem Fv.neg {n : Bool} {X : Nat} {e B : Int} (hB : B ≤ e) (h : (mkS n X e).isSome = true) : Fv B (mkS (!n) X e) (-(sg1 n * ((X * 2 ^ (e - B).toNat : Nat) : Int))) := by
  have h2 : (mkS (!n) X e).isSome = true := by
    unfold mkS at h ⊢
    split
    · rfl
    · rename_i h0
      rw [if_neg h0] at h
      split
      · rename_i h1; rw [if_pos h1] at h; cases h
      · rfl
  have := Fv.raw hB h2
  rw [sg1_not, Int.neg_mul] at this
  exact this

theorem cmpI_scale (x y k : Nat) (hk : 0 < k) : cmpI (x * k) (y * k) = cmpI x y := by
  unfold cmpI
  simp only [Nat.mul_lt_mul_right hk]
theorem cmpP_base (X : Nat) (e : Int) (Y : Nat) (f B : Int) (h1 : B ≤ e) (h2 : B ≤ f) : cmpP X e Y f = cmpI (X * 2 ^ (e - B).toNat) (Y * 2 ^ (f - B).toNat) := by
  unfold cmpP
  by_cases h : e < f
  · rw [if_pos h, ← cmpI_scale _ _ (2 ^ (e - B).toNat) (Nat.two_pow_pos _), Nat.mul_assoc, ← Nat.pow_add, show (f - e).toNat + (e - B).toNat = (f - B).toNat by omega]
  · rw [if_neg h, ← cmpI_scale _ _ (2 ^ (f - B).toNat) (Nat.two_pow_pos _), Nat.mul_assoc, ← Nat.pow_add, show (e - f).toNat + (f - B).toNat = (e - B).toNat by omega]
theorem pos_iff (X k : Nat) : X * 2 ^ k = 0 ↔ X = 0 := by
  constructor
  · intro h
    rcases Nat.mul_eq_zero.1 h with h | h
    · exact h
    · have := Nat.two_pow_pos k; omega
  · rintro rfl; exact Nat.zero_mul _
theorem cmpV_z (n : Bool) (X : Nat) (e : Int) (m : Bool) (Y : Nat) (f B : Int) (h1 : B ≤ e) (h2 : B ≤ f) : cmpV n X e m Y f = cmpZ (sg1 n * ((X * 2 ^ (e - B).toNat : Nat) : Int)) (sg1 m * ((Y * 2 ^ (f - B).toNat : Nat) : Int)) := by
  unfold cmpV
  rw [cmpP_base X e Y f B h1 h2, cmpP_base Y f X e B h2 h1]
  have p1 := pos_iff X (e - B).toNat
  have p2 := pos_iff Y (f - B).toNat
  generalize X * 2 ^ (e - B).toNat = P at p1
  generalize Y * 2 ^ (f - B).toNat = Q at p2
  unfold sgn cmpZ cmpI sg1
  have q1 : X = 0 ∧ P = 0 ∨ X ≠ 0 ∧ 0 < P := by
    by_cases h : X = 0
    · exact .inl ⟨h, p1.2 h⟩
    · exact .inr ⟨h, Nat.pos_of_ne_zero fun k => h (p1.1 k)⟩
  have q2 : Y = 0 ∧ Q = 0 ∨ Y ≠ 0 ∧ 0 < Q := by
    by_cases h : Y = 0
    · exact .inl ⟨h, p2.2 h⟩
    · exact .inr ⟨h, Nat.pos_of_ne_zero fun k => h (p2.1 k)⟩
  clear p1 p2
  rcases q1 with ⟨hX, hP⟩ | ⟨hX, hP⟩ <;> rcases q2 with ⟨hY, hQ⟩ | ⟨hY, hQ⟩ <;> cases n <;> cases m <;> simp only [hX, hY, if_true, if_false, Bool.false_eq_true] <;> (repeat' split) <;> omega
end Go.Proofs.YtnnlicahgdcbdaaDoor

/- Where a value lies among the numbers of 64 bits: plain mathematics of rounding. -/
namespace Go.Proofs.YtnnlicahgdcbdaaDoor
open Go.RowKit
set_option linter.unusedVariables false
set_option maxRecDepth 20000

/-- How the place of a value stands to it (units of 2^Bs). -/
theorem plc_floor (dg : Nat) (least top : Int) (X : Nat) (e : Int) (ho : X % 2 = 1) (Bs : Int) (h1 : Bs ≤ e) (h2 : Bs ≤ least) (hin : ¬ top < e + (bl X : Int)) :
    Bs ≤ (plc dg least top X e).2.1 ∧
    (((plc dg least top X e).2.2.1 = true ∧ X * 2 ^ (e - Bs).toNat = (plc dg least top X e).1 * 2 ^ ((plc dg least top X e).2.1 - Bs).toNat) ∨
     ((plc dg least top X e).2.2.1 = false ∧ (plc dg least top X e).1 * 2 ^ ((plc dg least top X e).2.1 - Bs).toNat < X * 2 ^ (e - Bs).toNat ∧ X * 2 ^ (e - Bs).toNat < ((plc dg least top X e).1 + 1) * 2 ^ ((plc dg least top X e).2.1 - Bs).toNat ∧
      ((plc dg least top X e).2.2.2 = -1 ∧ 2 * (X * 2 ^ (e - Bs).toNat) < (2 * (plc dg least top X e).1 + 1) * 2 ^ ((plc dg least top X e).2.1 - Bs).toNat ∨
       (plc dg least top X e).2.2.2 = 0 ∧ 2 * (X * 2 ^ (e - Bs).toNat) = (2 * (plc dg least top X e).1 + 1) * 2 ^ ((plc dg least top X e).2.1 - Bs).toNat ∨
       (plc dg least top X e).2.2.2 = 1 ∧ (2 * (plc dg least top X e).1 + 1) * 2 ^ ((plc dg least top X e).2.1 - Bs).toNat < 2 * (X * 2 ^ (e - Bs).toNat)))) := by
  unfold plc
  rw [if_neg hin]
  simp only
  obtain ⟨ex, hex⟩ : ∃ ex, max (e + (bl X : Int) - (dg : Int)) least = ex := ⟨_, rfl⟩
  rw [hex]
  have hle : least ≤ ex := by omega
  by_cases hoff : ex - e ≤ 0
  · rw [if_pos hoff]
    simp only
    refine ⟨by omega, .inl ⟨trivial, ?_⟩⟩
    rw [Nat.mul_assoc, ← Nat.pow_add, show (-(ex - e)).toNat + (ex - Bs).toNat = (e - Bs).toNat by omega]
  · rw [if_neg hoff]
    simp only
    obtain ⟨k, hk⟩ : ∃ k : Nat, (ex - e).toNat = k := ⟨_, rfl⟩
    have hk0 : 0 < k := by omega
    have hexB : (ex - Bs).toNat = k + (e - Bs).toNat := by omega
    have hk1 : (ex - e - 1).toNat = k - 1 := by omega
    rw [hk, hexB, hk1, Nat.pow_add]
    obtain ⟨Q, hQ⟩ : ∃ Q, 2 ^ (e - Bs).toNat = Q := ⟨_, rfl⟩
    have hQ0 : 0 < Q := by rw [← hQ]; exact Nat.two_pow_pos _
    rw [hQ]
    have hdm := Nat.div_add_mod X (2 ^ k)
    have hmod := Nat.mod_lt X (Nat.two_pow_pos k)
    obtain ⟨F, hF⟩ : ∃ F, X / 2 ^ k = F := ⟨_, rfl⟩
    obtain ⟨R, hR⟩ : ∃ R, X % 2 ^ k = R := ⟨_, rfl⟩
    have hhalf : 2 ^ k = 2 * 2 ^ (k - 1) := by rw [show k = k - 1 + 1 by omega, Nat.pow_succ, Nat.mul_comm]; rfl
    have hbit : X / 2 ^ (k - 1) % 2 = R / 2 ^ (k - 1) := by
      rw [← hR, hhalf]
      rw [Nat.mul_comm 2, Nat.mod_mul_right_div_self]
    obtain ⟨Hf, hHf⟩ : ∃ Hf, 2 ^ (k - 1) = Hf := ⟨_, rfl⟩
    have hHf0 : 0 < Hf := by rw [← hHf]; exact Nat.two_pow_pos _
    rw [hHf] at hhalf hbit ⊢
    rw [hbit]
    rw [hhalf] at hdm hmod hF hR ⊢
    rw [hF, hR] at hdm
    rw [hR] at hmod
    rw [hF]
    have hR0 : R ≠ 0 := by
      intro h
      rw [h, Nat.add_zero, Nat.mul_assoc] at hdm
      omega
    have e1 : F * (2 * Hf * Q) = (F * (2 * Hf)) * Q := (Nat.mul_assoc _ _ _).symm
    have e2 : (F + 1) * (2 * Hf * Q) = ((F + 1) * (2 * Hf)) * Q := (Nat.mul_assoc _ _ _).symm
    have e3 : (2 * F + 1) * (2 * Hf * Q) = (2 * (F * (2 * Hf)) + 2 * Hf) * Q := by
      rw [Nat.add_mul, Nat.add_mul, Nat.one_mul, Nat.mul_assoc 2 F, ← Nat.mul_assoc F, Nat.mul_assoc 2 (F * (2 * Hf)) Q]
    have e4 : 2 * (X * Q) = (2 * X) * Q := by rw [Nat.mul_assoc]
    have e5 : 2 * Hf * F = F * (2 * Hf) := Nat.mul_comm _ _
    rw [e5] at hdm
    have e6 : (F + 1) * (2 * Hf) = F * (2 * Hf) + 2 * Hf := by rw [Nat.add_mul, Nat.one_mul]
    rw [e1, e2, e3, e4, e6]
    generalize F * (2 * Hf) = G at hdm ⊢
    refine ⟨by omega, .inr ⟨trivial, Nat.mul_lt_mul_of_pos_right (by omega) hQ0, Nat.mul_lt_mul_of_pos_right (by omega) hQ0, ?_⟩⟩
    by_cases hone : ex - e = 1
    · rw [if_pos hone]
      have hk1' : k = 1 := by omega
      have hHf1 : Hf = 1 := by rw [← hHf, hk1']
      refine .inr (.inl ⟨rfl, ?_⟩)
      congr 1
      omega
    · rw [if_neg hone]
      have hHf2 : Hf % 2 = 0 := by
        rw [← hHf, show k - 1 = k - 2 + 1 by omega, Nat.pow_succ]; omega
      have hRodd : R % 2 = 1 := by
        have : G % 2 = 0 ∨ True := .inr trivial
        rw [← hR]
        rw [Nat.mod_mul_right_mod]
        exact ho
      by_cases hge : Hf ≤ R
      · have hd1 : R / Hf = 1 := by
          rw [Nat.div_eq_iff hHf0]; omega
        rw [hd1, if_pos rfl]
        refine .inr (.inr ⟨rfl, Nat.mul_lt_mul_of_pos_right ?_ hQ0⟩)
        have : R ≠ Hf := by intro h; rw [h] at hRodd; omega
        omega
      · have hd0 : R / Hf = 0 := Nat.div_eq_of_lt (by omega)
        rw [hd0, if_neg (by omega)]
        exact .inl ⟨rfl, Nat.mul_lt_mul_of_pos_right (by omega) hQ0⟩

/-- The greatest finite word that is not above a value, and the word after it. -/
def flK (X : Nat) (e : Int) : Nat := ((plc 53 (-1074) 1024 X e).2.1 + 1074).toNat * 4503599627370496 + (plc 53 (-1074) 1024 X e).1
/-- A word's value. -/
abbrev vK (K : Nat) : Nat := B.val Ieee.double K
theorem vK_lt {K L : Nat} : vK K < vK L ↔ K < L := B.val_lt_iff Ieee.double
theorem vK_word (j F : Nat) (h : j = 0 ∨ 4503599627370496 ≤ F) (hF : F ≤ 9007199254740992) : vK (j * 4503599627370496 + F) = F * 2 ^ j := by
  have := B.val_at Ieee.double j F (by rw [B.dBin]; exact h) (by rw [B.dBin]; omega)
  rw [B.dBin] at this
  exact this

/-- Where a value lies: at a word, or between it and the next one; how it stands to their middle. V: the value, S: what the words' unit is. -/
structure Lies (K : Nat) (at' : Bool) (mid : Int) (V S : Nat) : Prop where
  fin : K < 9218868437227405312
  pos : 0 < S
  one : at' = true → V = vK K * S
  low : at' = false → vK K * S < V
  mids : at' = false → V < vK (K + 1) * S → (mid = -1 ∧ 2 * V < vK K * S + vK (K + 1) * S ∨ mid = 0 ∧ 2 * V = vK K * S + vK (K + 1) * S ∨ mid = 1 ∧ vK K * S + vK (K + 1) * S < 2 * V)
  high : at' = false → V < vK (K + 1) * S ∨ (K = 9218868437227405311 ∧ mid = 1)

theorem lies (X : Nat) (e : Int) (hX : X % 2 = 1) (he0 : -1048576 ≤ e) (he1 : e ≤ 1048576) (Bs : Int) (h1 : Bs ≤ e) (h2 : Bs ≤ -1074) :
    Lies (flK X e) (plc 53 (-1074) 1024 X e).2.2.1 (plc 53 (-1074) 1024 X e).2.2.2 (X * 2 ^ (e - Bs).toNat) (2 ^ (-1074 - Bs).toNat) := by
  have hX0 : X ≠ 0 := by omega
  obtain ⟨f1, f2, f3, f4⟩ := plc_facts X e hX0 he0 he1
  obtain ⟨j, hj⟩ : ∃ j : Nat, ((plc 53 (-1074) 1024 X e).2.1 + 1074).toNat = j := ⟨_, rfl⟩
  have hS : 0 < 2 ^ (-1074 - Bs).toNat := Nat.two_pow_pos _
  have hw : ∀ F, F ≤ 9007199254740992 → (j = 0 ∨ 4503599627370496 ≤ F) → vK (j * 4503599627370496 + F) * 2 ^ (-1074 - Bs).toNat = F * 2 ^ ((plc 53 (-1074) 1024 X e).2.1 - Bs).toNat := by
    intro F hF hn
    rw [vK_word j F hn hF, Nat.mul_assoc, ← Nat.pow_add]
    congr 2
    omega
  have hn1 : j = 0 ∨ 4503599627370496 ≤ (plc 53 (-1074) 1024 X e).1 := by
    rcases f4 with h | h
    · left; omega
    · exact .inr h
  have w1 := hw (plc 53 (-1074) 1024 X e).1 (by omega) hn1
  have w2 := hw ((plc 53 (-1074) 1024 X e).1 + 1) (by omega) (by rcases hn1 with h | h; exact .inl h; exact .inr (by omega))
  have hflK : flK X e = j * 4503599627370496 + (plc 53 (-1074) 1024 X e).1 := by unfold flK; rw [hj]
  have hflK1 : flK X e + 1 = j * 4503599627370496 + ((plc 53 (-1074) 1024 X e).1 + 1) := by rw [hflK]; omega
  have hfin : flK X e < 9218868437227405312 := by rw [hflK]; omega
  rw [← hflK] at w1
  rw [← hflK1] at w2
  by_cases hin : 1024 < e + (bl X : Int)
  · have hp : plc 53 (-1074) 1024 X e = ((2 ^ 53 - 1 : Nat), ((1024 : Int) - ((53 : Nat) : Int)), false, (1 : Int)) := by unfold plc; rw [if_pos hin]
    have hK : flK X e = 9218868437227405311 := by unfold flK; rw [hp]; rfl
    refine ⟨hfin, hS, fun h => (by rw [hp] at h; cases h), fun _ => ?_, fun _ hlt => ?_, fun _ => .inr ⟨hK, (by rw [hp])⟩⟩
    · rw [w1]
      have hlow : (2 ^ 53 - 1) * 2 ^ (971 - Bs).toNat < 2 ^ 53 * 2 ^ (971 - Bs).toNat := Nat.mul_lt_mul_of_pos_right (by decide) (Nat.two_pow_pos _)
      have hup : 2 ^ 53 * 2 ^ (971 - Bs).toNat ≤ X * 2 ^ (e - Bs).toNat := by
        have hb := bl_ge X hX0
        have hbp := bl_pos X hX0
        refine Nat.le_trans ?_ (Nat.mul_le_mul_right _ hb)
        rw [← Nat.pow_add, ← Nat.pow_add]
        exact Nat.pow_le_pow_right (by omega) (by omega)
      rw [hp]
      exact Nat.lt_of_lt_of_le hlow hup
    · exfalso
      rw [w2, hp] at hlt
      have hup : 2 ^ 53 * 2 ^ (971 - Bs).toNat ≤ X * 2 ^ (e - Bs).toNat := by
        have hb := bl_ge X hX0
        have hbp := bl_pos X hX0
        refine Nat.le_trans ?_ (Nat.mul_le_mul_right _ hb)
        rw [← Nat.pow_add, ← Nat.pow_add]
        exact Nat.pow_le_pow_right (by omega) (by omega)
      exact absurd hlt (Nat.not_lt.2 hup)
  · obtain ⟨_, hfl⟩ := plc_floor 53 (-1074) 1024 X e hX Bs h1 h2 hin
    have hmid : vK (flK X e) * 2 ^ (-1074 - Bs).toNat + vK (flK X e + 1) * 2 ^ (-1074 - Bs).toNat = (2 * (plc 53 (-1074) 1024 X e).1 + 1) * 2 ^ ((plc 53 (-1074) 1024 X e).2.1 - Bs).toNat := by
      rw [w1, w2, ← Nat.add_mul]; congr 1; omega
    rcases hfl with ⟨ht, hv⟩ | ⟨hf, hlo, hhi, hm⟩
    · exact ⟨hfin, hS, fun _ => (by rw [w1]; exact hv), fun h => (by rw [ht] at h; cases h), fun h => (by rw [ht] at h; cases h), fun h => (by rw [ht] at h; cases h)⟩
    · refine ⟨hfin, hS, fun h => (by rw [hf] at h; cases h), fun _ => (by rw [w1]; exact hlo), fun _ _ => (by rw [hmid]; exact hm), fun _ => .inl (by rw [w2]; exact hhi)⟩
end Go.Proofs.YtnnlicahgdcbdaaDoor

/- Rounding: what is not greater is not rounded to what is greater; neighbours; the nearest. -/
namespace Go.Proofs.YtnnlicahgdcbdaaDoor
open Go.RowKit
set_option linter.unusedVariables false
set_option maxRecDepth 20000

theorem vS_le {K L S : Nat} (h : K ≤ L) : vK K * S ≤ vK L * S := by
  rcases Nat.lt_or_ge K L with k | k
  · exact Nat.mul_le_mul_right _ (Nat.le_of_lt (vK_lt.2 k))
  · rw [show K = L by omega]; exact Nat.le_refl _
theorem vS_lt {K L S : Nat} (hS : 0 < S) (h : K < L) : vK K * S < vK L * S := Nat.mul_lt_mul_of_pos_right (vK_lt.2 h) hS
theorem Lies.ge {K : Nat} {t : Bool} {m : Int} {V S : Nat} (h : Lies K t m V S) : vK K * S ≤ V := by
  cases ht : t
  · exact Nat.le_of_lt (h.low ht)
  · rw [h.one ht]; exact Nat.le_refl _

/-- The word that is answered. -/
def rK (mode : Int) (n : Bool) (K : Nat) (t : Bool) (m : Int) : Nat := if t then K else if outS mode K m n then K + 1 else K
theorem outS_par (mode : Int) (j F : Nat) (m : Int) (n : Bool) : outS mode (j * 4503599627370496 + F) m n = outS mode F m n := by
  unfold outS
  rw [show (j * 4503599627370496 + F) % 2 = F % 2 by omega]
theorem rndK_eq (mode : Int) (n : Bool) (X : Nat) (e : Int) : rndK mode n X e = rK mode n (flK X e) (plc 53 (-1074) 1024 X e).2.2.1 (plc 53 (-1074) 1024 X e).2.2.2 := by
  unfold rndK rK flK
  simp only
  rw [outS_par]
  split
  · rfl
  · split <;> omega

/-- Floors rise with values. -/
theorem lies_mono {K1 K2 : Nat} {t1 t2 : Bool} {m1 m2 : Int} {V1 V2 S : Nat} (h1 : Lies K1 t1 m1 V1 S) (h2 : Lies K2 t2 m2 V2 S) (h : V1 ≤ V2) : K1 ≤ K2 := by
  rcases Nat.lt_or_ge K2 K1 with k | k
  · exfalso
    have a1 := h1.ge
    have a2 : vK (K2 + 1) * S ≤ vK K1 * S := vS_le (by omega)
    have a3 : V2 < vK (K2 + 1) * S := by
      cases ht : t2
      · rcases h2.high ht with q | q
        · exact q
        · have := h1.fin; omega
      · rw [h2.one ht]; exact vS_lt h2.pos (by omega)
    omega
  · exact k

theorem rK_mono (mode : Int) (n : Bool) {K1 K2 : Nat} {t1 t2 : Bool} {m1 m2 : Int} {V1 V2 S : Nat} (h1 : Lies K1 t1 m1 V1 S) (h2 : Lies K2 t2 m2 V2 S) (h : V1 ≤ V2) : rK mode n K1 t1 m1 ≤ rK mode n K2 t2 m2 := by
  have hK := lies_mono h1 h2 h
  have u1 : rK mode n K1 t1 m1 ≤ K1 + 1 := by unfold rK; split; omega; split <;> omega
  have l2 : K2 ≤ rK mode n K2 t2 m2 := by unfold rK; split; omega; split <;> omega
  rcases Nat.lt_or_ge K1 K2 with k | k
  · omega
  · have e : K1 = K2 := by omega
    subst e
    by_cases ht1 : t1 = true
    · unfold rK at *
      rw [if_pos ht1] at *
      exact l2
    · have ht1f : t1 = false := by simpa using ht1
      have ht2f : t2 = false := by
        cases ht2 : t2
        · rfl
        · exfalso
          have a1 := h1.low ht1f
          have a2 := h2.one ht2
          omega
      have hmm : m1 ≤ m2 := by
        rcases h2.high ht2f with q2 | ⟨q2, q2'⟩
        · have q1 : V1 < vK (K1 + 1) * S := by omega
          have r1 := h1.mids ht1f q1
          have r2 := h2.mids ht2f q2
          generalize vK K1 * S + vK (K1 + 1) * S = M at r1 r2
          omega
        · rw [q2']
          rcases h1.high ht1f with q1 | ⟨q1, q1'⟩
          · have r1 := h1.mids ht1f q1
            omega
          · omega
      unfold rK
      rw [ht1f, ht2f]
      simp only [Bool.false_eq_true, if_false]
      have key : outS mode K1 m1 n = true → outS mode K1 m2 n = true := by
        unfold outS
        split
        · intro hq
          simp only [Bool.or_eq_true, Bool.and_eq_true, decide_eq_true_eq] at hq ⊢
          omega
        · split
          · exact id
          · split
            · exact id
            · split
              · intro hq
                simp only [decide_eq_true_eq] at hq ⊢
                omega
              · exact id
      by_cases ho : outS mode K1 m1 n = true
      · rw [if_pos ho, if_pos (key ho)]; exact Nat.le_refl _
      · rw [if_neg ho]; split <;> omega

/-- Toward nought it is not above, away from it not below, where it is finite. -/
theorem rK_inner (mode : Int) (n : Bool) {K : Nat} {t : Bool} {m : Int} {V S : Nat} (h : Lies K t m V S) (ho : outS mode K m n = false) : vK (rK mode n K t m) * S ≤ V := by
  unfold rK
  split
  · exact h.ge
  · rw [if_neg (by rw [ho]; exact Bool.false_ne_true)]; exact h.ge
theorem rK_outer (mode : Int) (n : Bool) {K : Nat} {t : Bool} {m : Int} {V S : Nat} (h : Lies K t m V S) (ho : outS mode K m n = true) (hf : rK mode n K t m < 9218868437227405312) : V ≤ vK (rK mode n K t m) * S := by
  unfold rK at hf ⊢
  split
  · rename_i ht; rw [h.one ht]; exact Nat.le_refl _
  · rename_i ht
    have htf : t = false := by simpa using ht
    rw [if_neg ht, if_pos ho] at hf
    try rw [if_pos ho]
    rcases h.high htf with q | ⟨q, _⟩
    · omega
    · omega

/-- A word's own value is answered as that word. -/
theorem rK_own (mode : Int) (n : Bool) {K : Nat} {t : Bool} {m : Int} {V S : Nat} (h : Lies K t m V S) (L : Nat) (hL : L < 9218868437227405312) (hV : V = vK L * S) : rK mode n K t m = L := by
  have hKL : K ≤ L := by
    rcases Nat.lt_or_ge L K with k | k
    · exfalso
      have a1 := h.ge
      have a2 := vS_lt h.pos k
      omega
    · exact k
  by_cases ht : t = true
  · have : vK K = vK L := Nat.eq_of_mul_eq_mul_right h.pos (by rw [← hV, h.one ht])
    unfold rK
    rw [if_pos ht]
    exact B.val_inj Ieee.double this
  · exfalso
    have htf : t = false := by simpa using ht
    have a1 := h.low htf
    have hlt : K < L := by
      rcases Nat.lt_or_ge K L with k | k
      · exact k
      · have : K = L := by omega
        rw [this] at a1
        omega
    rcases h.high htf with q | ⟨q, _⟩
    · have a2 : vK (K + 1) * S ≤ vK L * S := vS_le (by omega)
      omega
    · omega
end Go.Proofs.YtnnlicahgdcbdaaDoor

/- DyadNear: the plain mathematics of what it asks. -/
namespace Go.Proofs.YtnnlicahgdcbdaaDoor
open Go.RowKit
set_option linter.unusedVariables false
set_option maxRecDepth 20000

/-- A word with its sign. -/
def wd64 (s : Bool) (K : Nat) : Nat := K + (if s then 9223372036854775808 else 0)
/-- A word's signed place. -/
def sK (s : Bool) (K : Nat) : Int := if s then -(K : Int) else K
theorem wd64_bw (s : Bool) (K : Nat) (h : K ≤ 9218868437227405312) : wd64 s K = B.bw s (K / 4503599627370496) (K % 4503599627370496) ∧ K / 4503599627370496 < 2048 ∧ K % 4503599627370496 < 4503599627370496 ∧ B.odd (K / 4503599627370496) (K % 4503599627370496) = false ∧ B.pl s (K / 4503599627370496) (K % 4503599627370496) = sK s K := by
  refine ⟨?_, by omega, by omega, ?_, ?_⟩
  · unfold wd64 B.bw
    cases s
    · simp; omega
    · simp; omega
  · unfold B.odd
    simp
    omega
  · unfold B.pl B.sg sK
    rw [show K / 4503599627370496 * 4503599627370496 + K % 4503599627370496 = K by omega]
theorem gt64 (s t : Bool) (K L : Nat) (hK : K ≤ 9218868437227405312) (hL : L ≤ 9218868437227405312) : (FloatKind.f64.format.order (wd64 s K) (wd64 t L) == some .gt) = decide (sK t L < sK s K) := by
  obtain ⟨a1, a2, a3, a4, a5⟩ := wd64_bw s K hK
  obtain ⟨b1, b2, b3, b4, b5⟩ := wd64_bw t L hL
  rw [a1, b1, B.gt_f64 s t _ _ _ _ a2 a3 b2 b3, a4, b4, a5, b5]
  simp
theorem lt64 (s t : Bool) (K L : Nat) (hK : K ≤ 9218868437227405312) (hL : L ≤ 9218868437227405312) : (FloatKind.f64.format.order (wd64 s K) (wd64 t L) == some .lt) = decide (sK s K < sK t L) := by
  obtain ⟨a1, a2, a3, a4, a5⟩ := wd64_bw s K hK
  obtain ⟨b1, b2, b3, b4, b5⟩ := wd64_bw t L hL
  rw [a1, b1, B.lt_f64 s t _ _ _ _ a2 a3 b2 b3, a4, b4, a5, b5]
  simp
theorem eq64 (s t : Bool) (K L : Nat) (hK : K ≤ 9218868437227405312) (hL : L ≤ 9218868437227405312) : (FloatKind.f64.format.order (wd64 s K) (wd64 t L) == some .eq) = decide (sK s K = sK t L) := by
  obtain ⟨a1, a2, a3, a4, a5⟩ := wd64_bw s K hK
  obtain ⟨b1, b2, b3, b4, b5⟩ := wd64_bw t L hL
  rw [a1, b1, B.eq_f64 s t _ _ _ _ a2 a3 b2 b3, a4, b4, a5, b5]
  simp

/-- What a form is rounded to: the sign, the word. -/
def rS (n : Bool) (X : Nat) : Bool := if X = 0 then false else n
def rW (mode : Int) (n : Bool) (X : Nat) (e : Int) : Nat := if X = 0 then 0 else rndK mode n X e
theorem rndS_form (mode : Int) (n : Bool) (X : Nat) (e : Int) (h0 : 0 ≤ mode) (h4 : mode ≤ 4) : rndS (some (n, X, e)) mode = (wd64 (rS n X) (rW mode n X e), 0) := by
  unfold rndS
  rw [if_neg (by omega)]
  simp only
  unfold rS rW wd64
  by_cases h : X = 0
  · rw [if_pos h, if_pos h, if_pos h]; rfl
  · rw [if_neg h, if_neg h, if_neg h]
theorem rW_le (mode : Int) (n : Bool) (X : Nat) (e : Int) (F : Frm n X e) : rW mode n X e ≤ 9218868437227405312 := by
  unfold rW
  split
  · omega
  · rename_i h
    have ho : X % 2 = 1 := by rcases F.odd with k | k; exact k; exact absurd k.1 h
    have L := lies X e ho F.down F.up (min e (-1074)) (by omega) (by omega)
    rw [rndK_eq]
    have := L.fin
    unfold rK
    split
    · omega
    · split <;> omega

theorem cmpZ_le {x y : Int} : cmpZ x y ≤ 0 ↔ x ≤ y := by
  unfold cmpZ
  by_cases h : x < y
  · rw [if_pos h]; omega
  · rw [if_neg h]
    by_cases h2 : y < x
    · rw [if_pos h2]; omega
    · rw [if_neg h2]; omega
theorem cmpZ_ge {x y : Int} : 0 ≤ cmpZ x y ↔ y ≤ x := by
  unfold cmpZ
  by_cases h : x < y
  · rw [if_pos h]; omega
  · rw [if_neg h]
    by_cases h2 : y < x
    · rw [if_pos h2]; omega
    · rw [if_neg h2]; omega

theorem frm_odd {n : Bool} {X : Nat} {e : Int} (F : Frm n X e) (h : X ≠ 0) : X % 2 = 1 := by rcases F.odd with k | k; exact k; exact absurd k.1 h

/-- What is not greater is not rounded to what is greater. -/
theorem near_mono (mode : Int) {n m : Bool} {X Y : Nat} {e f : Int} (FX : Frm n X e) (FY : Frm m Y f) (h : cmpV n X e m Y f ≤ 0) : sK (rS n X) (rW mode n X e) ≤ sK (rS m Y) (rW mode m Y f) := by
  obtain ⟨Bs, hB⟩ : ∃ B : Int, B ≤ -1074 ∧ B ≤ e ∧ B ≤ f := ⟨min (-1074) (min e f), by omega⟩
  obtain ⟨hB0, hBe, hBf⟩ := hB
  rw [cmpV_z n X e m Y f Bs hBe hBf, cmpZ_le] at h
  have pX : X ≠ 0 → 0 < X * 2 ^ (e - Bs).toNat := fun k => Nat.mul_pos (by omega) (Nat.two_pow_pos _)
  have pY : Y ≠ 0 → 0 < Y * 2 ^ (f - Bs).toNat := fun k => Nat.mul_pos (by omega) (Nat.two_pow_pos _)
  unfold rS rW sK
  by_cases hX : X = 0
  · rw [if_pos hX, if_pos hX]
    by_cases hY : Y = 0
    · rw [if_pos hY, if_pos hY]; simp
    · rw [if_neg hY, if_neg hY]
      have := pY hY
      rw [hX, Nat.zero_mul] at h
      generalize Y * 2 ^ (f - Bs).toNat = Q at h this
      cases m
      · simp
      · exfalso; simp [sg1] at h; omega
  · rw [if_neg hX, if_neg hX]
    have hp := pX hX
    by_cases hY : Y = 0
    · rw [if_pos hY, if_pos hY]
      rw [hY, Nat.zero_mul] at h
      generalize X * 2 ^ (e - Bs).toNat = P at h hp
      cases n
      · exfalso; simp [sg1] at h; omega
      · simp
    · rw [if_neg hY, if_neg hY]
      have hq := pY hY
      have L1 := lies X e (frm_odd FX hX) FX.down FX.up Bs hBe hB0
      have L2 := lies Y f (frm_odd FY hY) FY.down FY.up Bs hBf hB0
      rw [rndK_eq, rndK_eq]
      generalize X * 2 ^ (e - Bs).toNat = P at h hp L1
      generalize Y * 2 ^ (f - Bs).toNat = Q at h hq L2
      cases n <;> cases m
      · have := rK_mono mode false L1 L2 (by simp [sg1] at h; omega)
        simp; omega
      · exfalso; simp [sg1] at h; omega
      · first | (simp; done) | (simp; omega)
      · have := rK_mono mode true L2 L1 (by simp [sg1] at h; omega)
        simp; omega
end Go.Proofs.YtnnlicahgdcbdaaDoor

/- DyadNear: numbers' own values, how far apart. -/
namespace Go.Proofs.YtnnlicahgdcbdaaDoor
open Go.RowKit
set_option linter.unusedVariables false
set_option maxRecDepth 20000

/-- What Of answers of a word. -/
def ofK (s : Bool) (K : Nat) : Option (Bool × Nat × Int) := ofR s (K / 4503599627370496) (K % 4503599627370496)
theorem ofK_val (s : Bool) (K : Nat) (hK : K < 9218868437227405312) : ∃ n X e, ofK s K = some (n, X, e) ∧ Frm n X e ∧ (X ≠ 0 → n = s) ∧ (X = 0 ↔ K = 0) ∧ ∀ Bs : Int, Bs ≤ -1074 → zv Bs (n, X, e) = sg1 s * ((vK K * 2 ^ (-1074 - Bs).toNat : Nat) : Int) := by
  obtain ⟨x, hx⟩ : ∃ x, K / 4503599627370496 = x := ⟨_, rfl⟩
  obtain ⟨f, hf⟩ : ∃ f, K % 4503599627370496 = f := ⟨_, rfl⟩
  have hxl : x < 2047 := by omega
  have hfl : f < 4503599627370496 := by omega
  obtain ⟨M, hM⟩ : ∃ M, (if x = 0 then f else f + 4503599627370496) = M := ⟨_, rfl⟩
  obtain ⟨E, hE⟩ : ∃ E : Int, (if x = 0 then (-1074 : Int) else (x : Int) - 1075) = E := ⟨_, rfl⟩
  have hME : (x = 0 ∧ M = f ∧ E = -1074) ∨ (x ≠ 0 ∧ M = f + 4503599627370496 ∧ E = (x : Int) - 1075) := by
    by_cases h : x = 0
    · rw [if_pos h] at hM hE; exact .inl ⟨h, hM.symm, hE.symm⟩
    · rw [if_neg h] at hM hE; exact .inr ⟨h, hM.symm, hE.symm⟩
  have hMl : M < 9007199254740992 := by omega
  have hO : ofK s K = mkS s M E := by unfold ofK ofR; rw [hx, hf, if_neg (by omega), hM, hE]
  have hsome : (mkS s M E).isSome = true := by
    unfold mkS
    split
    · rfl
    · rename_i h0
      have hb := bl_le53 M hMl
      obtain ⟨_, _, _, hbb⟩ := odd_part M h0
      rw [if_neg (by omega)]
      rfl
  obtain ⟨⟨n, X, e⟩, hz⟩ := Option.isSome_iff_exists.1 hsome
  have hKw : K = (E + 1074).toNat * 4503599627370496 + M := by rcases hME with h | h <;> omega
  have hv : vK K = M * 2 ^ (E + 1074).toNat := by
    rw [hKw]; exact vK_word _ _ (by rcases hME with h | h; left; omega; right; omega) (by omega)
  have hM0 : M = 0 ↔ K = 0 := by rcases hME with h | h <;> omega
  refine ⟨n, X, e, by rw [hO, hz], mkS_frm hz, ?_, ?_, ?_⟩
  · intro hX
    unfold mkS at hz
    split at hz
    · cases hz; exact absurd rfl hX
    · split at hz
      · cases hz
      · cases hz; rfl
  · rw [← hM0]
    constructor
    · intro hX
      unfold mkS at hz
      split at hz
      · assumption
      · rename_i h0
        split at hz
        · cases hz
        · obtain ⟨m, _, hd, _⟩ := odd_part M h0
          cases hz
          omega
    · intro h0
      unfold mkS at hz
      rw [if_pos h0] at hz
      cases hz; rfl
  · intro Bs hBs
    rw [zv_mkS hz Bs (.inr (by omega)), hv, Nat.mul_assoc, ← Nat.pow_add, show (E + 1074).toNat + (-1074 - Bs).toNat = (E - Bs).toNat by omega]

/-- The word's value against a form. -/
theorem cmp_word (s : Bool) (K : Nat) (hK : K < 9218868437227405312) {n : Bool} {X : Nat} {e : Int} (F : Frm n X e) (Bs : Int) (hB : Bs ≤ -1048576) :
    cmpV (dN (ofK s K)) (dX (ofK s K)) (dE (ofK s K)) n X e = cmpZ (sg1 s * ((vK K * 2 ^ (-1074 - Bs).toNat : Nat) : Int)) (sg1 n * ((X * 2 ^ (e - Bs).toNat : Nat) : Int)) := by
  obtain ⟨n', X', e', ho, F', _, _, hv⟩ := ofK_val s K hK
  rw [ho]
  show cmpV n' X' e' n X e = _
  have hd := F.down
  have hd' := F'.down
  rw [cmpV_z n' X' e' n X e Bs (by omega) (by omega), ← hv Bs (by omega)]
  rfl

theorem near_down {n : Bool} {X : Nat} {e : Int} (F : Frm n X e) (hK : rW 3 n X e < 9218868437227405312) : cmpV (dN (ofK (rS n X) (rW 3 n X e))) (dX (ofK (rS n X) (rW 3 n X e))) (dE (ofK (rS n X) (rW 3 n X e))) n X e ≤ 0 := by
  rw [cmp_word _ _ hK F (-1048576) (by omega), cmpZ_le]
  by_cases hX : X = 0
  · unfold rS rW
    rw [if_pos hX, if_pos hX, hX]
    rw [show vK 0 = 0 from B.val_zero _, Nat.zero_mul, Nat.zero_mul, Int.natCast_zero, Int.mul_zero, Int.mul_zero]
    exact Int.le_refl _
  · have L := lies X e (frm_odd F hX) F.down F.up (-1048576) F.down (by omega)
    unfold rS
    unfold rW at hK ⊢
    rw [if_neg hX] at hK ⊢
    rw [if_neg hX]
    rw [rndK_eq] at hK ⊢
    cases n
    · have := rK_inner 3 false L (by simp [outS])
      simp only [sg1, Bool.false_eq_true, if_false, Int.one_mul]
      exact Int.ofNat_le.2 this
    · have := rK_outer 3 true L (by simp [outS]) hK
      simp only [sg1, if_true]
      have := Int.ofNat_le.2 this
      omega
theorem near_up {n : Bool} {X : Nat} {e : Int} (F : Frm n X e) (hK : rW 2 n X e < 9218868437227405312) : 0 ≤ cmpV (dN (ofK (rS n X) (rW 2 n X e))) (dX (ofK (rS n X) (rW 2 n X e))) (dE (ofK (rS n X) (rW 2 n X e))) n X e := by
  rw [cmp_word _ _ hK F (-1048576) (by omega), cmpZ_ge]
  by_cases hX : X = 0
  · unfold rS rW
    rw [if_pos hX, if_pos hX, hX]
    rw [show vK 0 = 0 from B.val_zero _, Nat.zero_mul, Nat.zero_mul, Int.natCast_zero, Int.mul_zero, Int.mul_zero]
    exact Int.le_refl _
  · have L := lies X e (frm_odd F hX) F.down F.up (-1048576) F.down (by omega)
    unfold rS
    unfold rW at hK ⊢
    rw [if_neg hX] at hK ⊢
    rw [if_neg hX]
    rw [rndK_eq] at hK ⊢
    cases n
    · have := rK_outer 2 false L (by simp [outS]) hK
      simp only [sg1, Bool.false_eq_true, if_false, Int.one_mul]
      exact Int.ofNat_le.2 this
    · have := rK_inner 2 true L (by simp [outS])
      simp only [sg1, if_true]
      have := Int.ofNat_le.2 this
      omega

theorem near_own (mode : Int) (s : Bool) (L : Nat) (hL : L < 9218868437227405312) {n : Bool} {X : Nat} {e : Int} (ho : ofK s L = some (n, X, e)) : sK (rS n X) (rW mode n X e) = sK s L := by
  obtain ⟨n', X', e', ho', F, hn, h0, hv⟩ := ofK_val s L hL
  rw [ho] at ho'
  cases ho'
  unfold rS rW
  by_cases hX : X = 0
  · rw [if_pos hX, if_pos hX, h0.1 hX]
    unfold sK
    cases s <;> simp
  · rw [if_neg hX, if_neg hX, hn hX]
    have Ls := lies X e (frm_odd F hX) F.down F.up (-1048576) F.down (by omega)
    have hz := hv (-1048576) (by omega)
    unfold zv at hz
    simp only at hz
    rw [hn hX] at hz
    have hV : X * 2 ^ (e - -1048576).toNat = vK L * 2 ^ (-1074 - -1048576 : Int).toNat := by
      generalize X * 2 ^ (e - -1048576).toNat = P at hz ⊢
      generalize vK L * 2 ^ (-1074 - -1048576 : Int).toNat = Q at hz ⊢
      cases s <;> (simp only [sg1, Bool.false_eq_true, if_true, if_false] at hz; omega)
    rw [rndK_eq, rK_own mode s Ls L hL hV]
end Go.Proofs.YtnnlicahgdcbdaaDoor

/- SuperBetween: Down and Up about a value, in plain terms. -/
namespace Go.Proofs.YtnnlicahgdcbdaaDoor
open Go.RowKit
set_option linter.unusedVariables false
set_option maxRecDepth 20000
set_option linter.unusedSimpArgs false

theorem exV_form {V : Int} (h0 : -(HB : Int) < V) (h1 : V < (HB : Int)) : ∃ n X e, exV V = some (n, X, e) ∧ Frm n X e ∧ (X = 0 ↔ V = 0) := by
  by_cases hv : V = 0
  · subst hv
    refine ⟨false, 0, 0, by unfold exV; exact mkS_zero _ _, mkS_frm (mkS_zero false 0), by simp⟩
  · have hb : bl V.natAbs ≤ 4238 := by
      refine Nat.le_of_not_lt (fun q => ?_)
      obtain ⟨k, hk⟩ : ∃ k, k = 4238 := ⟨_, rfl⟩
      rw [← hk] at q
      have h2 := (bl_gt V.natAbs k).1 q
      have h3 := HB_two k hk
      omega
    obtain ⟨m, o1, o2, o3⟩ := odd_part V.natAbs (by omega)
    have hs : mkS (decide (V < 0)) V.natAbs (-2148) = some (decide (V < 0), V.natAbs / 2 ^ lo V.natAbs, -2148 + (lo V.natAbs : Int)) := by
      unfold mkS
      rw [if_neg (by omega), if_neg (by omega)]
    refine ⟨_, _, _, hs, mkS_frm hs, ?_⟩
    rw [o2]
    constructor
    · intro q; omega
    · intro q; exact absurd q hv
/-- What is told with everything special passed over. -/
theorem rd7_pass {V : Int} (s : Sp) (mode : Int) (h0 : 0 ≤ mode) (h4 : mode ≤ 4) {n : Bool} {X : Nat} {e : Int} (hx : exV V = some (n, X, e)) (F : Frm n X e) (hX : X = 0 ↔ V = 0) :
    (V ≠ 0 → rd7 V s mode 1 1 = (wd64 n (rW mode n X e), 0)) ∧ (V = 0 → rd7 V s mode 1 1 = (0, 0) ∨ rd7 V s mode 1 1 = (9223372036854775808, 0)) := by
  have hvd : ∀ ok : Bool, (vd ok s.n s.u s.d 1 1).2 = false := by
    intro ok
    unfold vd
    cases ok
    · rfl
    · rw [if_neg (by decide), if_neg (by omega), if_pos (by decide)]
  constructor
  · intro hv
    have ha : ahd V s mode 1 1 = (0, false, 0) := by
      unfold ahd
      rw [hvd, if_neg (by decide), if_neg hv]
    unfold rd7
    rw [ha]
    simp only [Bool.false_eq_true, if_false]
    rw [hx]
    show rndS (mkS n X e) mode = _
    rw [mkS_idem F, rndS_form mode n X e h0 h4]
    unfold rS
    rw [if_neg (fun q => hv (hX.1 q))]
  · intro hv
    have ha : ahd V s mode 1 1 = (nt (snd s.n s.u s.d s.m s.p s.a) s.n s.u s.d s.m s.p s.a mode, true, 0) := by
      unfold ahd
      rw [hvd, if_neg (by decide), if_pos hv]
    unfold rd7
    rw [ha]
    simp only [if_true]
    unfold nt
    repeat (split; first | exact .inl rfl | exact .inr rfl)
    all_goals first | exact .inl rfl | exact .inr rfl
/-- All that the law asks of two words about V. -/
structure Btw (n : Bool) (X : Nat) (e : Int) (sl : Bool) (Kl : Nat) (sh : Bool) (Kh : Nat) : Prop where
  kl : Kl ≤ 9218868437227405312
  kh : Kh ≤ 9218868437227405312
  ord : sK sl Kl ≤ sK sh Kh
  low : Kl < 9218868437227405312 → cmpV (dN (ofK sl Kl)) (dX (ofK sl Kl)) (dE (ofK sl Kl)) n X e ≤ 0
  high : Kh < 9218868437227405312 → cmpV n X e (dN (ofK sh Kh)) (dX (ofK sh Kh)) (dE (ofK sh Kh)) ≤ 0
  same : sK sl Kl = sK sh Kh → Kl < 9218868437227405312 ∧ cmpV (dN (ofK sl Kl)) (dX (ofK sl Kl)) (dE (ofK sl Kl)) n X e = 0
  next : ¬ sK sl Kl = sK sh Kh → B.nx sl (Kl / 4503599627370496) (Kl % 4503599627370496) = wd64 sh Kh
theorem cmp_turn (n : Bool) (X : Nat) (e : Int) (m : Bool) (Y : Nat) (f : Int) (h : 0 ≤ cmpV m Y f n X e) : cmpV n X e m Y f ≤ 0 := by
  obtain ⟨B, h1, h2⟩ : ∃ B : Int, B ≤ e ∧ B ≤ f := ⟨min e f, Int.min_le_left _ _, Int.min_le_right _ _⟩
  rw [cmpV_z m Y f n X e B h2 h1] at h
  rw [cmpV_z n X e m Y f B h1 h2]
  exact cmpZ_le.2 (cmpZ_ge.1 h)
theorem btw_zero (sl sh : Bool) : Btw false 0 0 sl 0 sh 0 := by
  refine ⟨by omega, by omega, by cases sl <;> cases sh <;> decide, fun _ => by cases sl <;> decide, fun _ => by cases sh <;> decide, fun _ => ⟨by omega, by cases sl <;> decide⟩, fun h => absurd (by cases sl <;> cases sh <;> decide) h⟩
theorem wd64_f (K : Nat) : wd64 false K = K := by unfold wd64; rw [if_neg (by decide), Nat.add_zero]
theorem wd64_t (K : Nat) : wd64 true K = K + 9223372036854775808 := by unfold wd64; rw [if_pos rfl]
theorem nx_up (K : Nat) (h : K < 9218868437227405312) : B.nx false (K / 4503599627370496) (K % 4503599627370496) = K + 1 := by
  have e1 : B.bw false (K / 4503599627370496) (K % 4503599627370496) = K := by unfold B.bw; rw [Bool.toNat_false]; omega
  unfold B.nx
  rw [if_neg (by omega), if_neg (by omega), e1]
  split
  · omega
  · rw [if_neg (by decide)]
theorem nx_dn (K : Nat) (h : K < 9218868437227405312) : B.nx true ((K + 1) / 4503599627370496) ((K + 1) % 4503599627370496) = K + 9223372036854775808 := by
  have e1 : B.bw true ((K + 1) / 4503599627370496) ((K + 1) % 4503599627370496) = K + 1 + 9223372036854775808 := by unfold B.bw; rw [Bool.toNat_true]; omega
  unfold B.nx
  rw [if_neg (by omega), if_neg (fun q => by cases q.1), if_neg (by omega), if_pos rfl, e1]
  omega
theorem btw_form {n : Bool} {X : Nat} {e : Int} (F : Frm n X e) (hX : X ≠ 0) : Btw n X e n (rW 3 n X e) n (rW 2 n X e) := by
  have hS : rS n X = n := by unfold rS; rw [if_neg hX]
  have h3 : rW 3 n X e = rK 3 n (flK X e) (plc 53 (-1074) 1024 X e).2.2.1 (plc 53 (-1074) 1024 X e).2.2.2 := by unfold rW; rw [if_neg hX, rndK_eq]
  have h2 : rW 2 n X e = rK 2 n (flK X e) (plc 53 (-1074) 1024 X e).2.2.1 (plc 53 (-1074) 1024 X e).2.2.2 := by unfold rW; rw [if_neg hX, rndK_eq]
  obtain ⟨Bs, hB1, hB2⟩ : ∃ Bs : Int, Bs ≤ -1048576 ∧ Bs ≤ e := ⟨-1048576, by omega, F.down⟩
  have hl := lies X e (frm_odd F hX) F.down F.up Bs hB2 (by omega)
  have l3 := rW_le 3 n X e F
  have l2 := rW_le 2 n X e F
  have nd := near_down F
  have nu := near_up F
  rw [hS] at nd nu
  have o3 : ∀ K m, outS 3 K m n = n := fun K m => by unfold outS; simp
  have o2 : ∀ K m, outS 2 K m n = !n := fun K m => by unfold outS; simp
  unfold rK at h3 h2
  rw [o3] at h3
  rw [o2] at h2
  have hfin := hl.fin
  cases ht : (plc 53 (-1074) 1024 X e).2.2.1
  · rw [ht] at h3 h2
    simp only [Bool.false_eq_true, if_false] at h3 h2
    cases n
    · simp at h3 h2
      refine ⟨l3, l2, by rw [h3, h2]; simp [sK]; omega, nd, fun q => cmp_turn _ _ _ _ _ _ (nu q), fun q => ?_, fun q => ?_⟩
      · rw [h3, h2] at q; simp [sK] at q; omega
      · rw [h3, h2, wd64_f]; exact nx_up _ hfin
    · simp at h3 h2
      refine ⟨l3, l2, by rw [h3, h2]; simp [sK]; omega, nd, fun q => cmp_turn _ _ _ _ _ _ (nu q), fun q => ?_, fun q => ?_⟩
      · rw [h3, h2] at q; simp [sK] at q; omega
      · rw [h3, h2, wd64_t]; exact nx_dn _ hfin
  · rw [ht] at h3 h2
    simp only [if_true] at h3 h2
    have hone := hl.one ht
    refine ⟨l3, l2, by rw [h3, h2]; omega, nd, fun q => cmp_turn _ _ _ _ _ _ (nu q), fun q => ⟨by rw [h3]; exact hfin, ?_⟩, fun q => absurd (by rw [h3, h2]) q⟩
    rw [h3, cmp_word n (flK X e) hfin F Bs hB1, hone]
    unfold cmpZ
    simp
end Go.Proofs.YtnnlicahgdcbdaaDoor

/- New, Specials, Copy, Exact. -/
namespace Go.Proofs.YtnnlicahgdcbdaaDoor
open Go.RowKit
set_option linter.unusedVariables false
set_option maxRecDepth 20000
set_option linter.unusedSimpArgs false

theorem Tryd.zero_acc : Tryd.zeroCells66 = ((List.replicate 133 0).map U ++ Sp.cells ⟨0, 0, 0, 0, 0, 0⟩).toArray := by kernel_rfl
theorem zero_acc7 {w : World} {g : Nat} (h : Bl w g 66 ((List.replicate 133 0).map U ++ Sp.cells ⟨0, 0, 0, 0, 0, 0⟩)) : Acc7 w g 0 ⟨0, 0, 0, 0, 0, 0⟩ :=
  ⟨List.replicate 133 0, by simp, Wf.zeros 133, by rw [val_zeros]; simp, by have := HB_pos; omega, by have := HB_pos; omega, h⟩

set_option maxHeartbeats 1000000 in
theorem New7 (w : World) : Calls Tryd.prog 7 #[] w fun r w' => r = .returned (.pointer (some ⟨w.heap.size, 0, none⟩)) ∧ Acc7 w' w.heap.size 0 ⟨0, 0, 0, 0, 0, 0⟩ ∧ Below w.heap.size w w' := by
  go_enter Tryd.func7, Tryd.ntmps7
  go_wp2
  go_ret
  refine ⟨rfl, ?_, bel_alloc _ _⟩
  rw [Tryd.zero_acc]
  exact zero_acc7 (Bl.new _ _ _)

end Go.Proofs.YtnnlicahgdcbdaaDoor

/- live: the law's first look. -/
namespace Go.Proofs.YtnnlicahgdcbdaaDoor
open Go.RowKit
open Go.Proofs.YtnnlicahgdcbdaaDoor.B (bw)
set_option linter.unusedVariables false
set_option maxRecDepth 20000
set_option linter.unusedSimpArgs false

theorem ldexp_pow (e E : Nat) (x : Int) (w : World) (he0 : 0 < e) (he1 : e < 2047) (hE0 : 0 < E) (hE : E < 2047) (hx0 : -3000 ≤ x) (hx1 : x ≤ 3000) (hxE : (E : Int) = x + e) :
    Calls Tryd.prog 58 #[.float .f64 (B.bw false e 0), .int .i64 x] w fun r w' => r = .returned (.float .f64 (B.bw false E 0)) ∧ w' = w := by
  have hb : B.bw false e 0 = e * 4503599627370496 + 0 := by unfold B.bw; simp
  have hd : B.bw false E 0 = E * 4503599627370496 + 0 := by unfold B.bw; simp
  exact B.ldexp_norm (B.bw false e 0) e 0 (B.bw false E 0) x (x + ((e : Int) - 1023)) ((E : Int) * 4503599627370496) w (by rw [hb]; omega) hx0 hx1 he0 he1 (by omega)
    (by rw [B.eq_zero false e 0 (by omega) (by omega)]; simp; omega) (hid fun u => B.isInf0 e 0 (by omega) (by omega) u) (hid fun u => B.nan_no e 0 (by omega) (by omega) u) (hid fun u => B.normalize_any e 0 he0 (by omega) (by omega) u)
    (B.bw_exp false e 0 (by omega) (by omega)) (B.mask_clear e 0 (by omega) (by omega)) rfl (by omega) (by omega) (by omega) (by omega) (by omega) (B.join_exp E 0 (by omega) (by omega)) (B.mul_one _ (by rw [hd]; omega) (by rw [hd]; omega) _)
set_option maxHeartbeats 1000000 in
theorem Ldexp1000 (w : World) : Calls Tryd.prog 30 #[.float .f64 4607182418800017408, .int .i64 1000] w fun r w' => r = .returned (.float .f64 9110782046170513408) ∧ w' = w := by
  have H := hid (ldexp_pow 1023 2023 1000 w (by decide) (by decide) (by decide) (by decide) (by decide) (by decide) (by decide))
  rw [show B.bw false 1023 0 = 4607182418800017408 by decide, show B.bw false 2023 0 = 9110782046170513408 by decide] at H
  go_enter Tryd.func30, Tryd.ntmps30
  go_wp2_with fail
  refine H.out.mono ?_
  rintro r w1 ⟨rfl, rfl⟩
  go_wp2
  go_ret
  exact ⟨rfl, rfl⟩

theorem pK_one : pK 4607182418800017408 4607182418800017408 = 0 := by decide
theorem pK_up : pK 9110782046170513408 4607182418800017408 = 0 := by decide
theorem pK_dn : pK 18334154083025289216 4607182418800017408 = 0 := by decide
theorem pT_pow (x : Nat) (ng : Bool) (j k : Nat) (h : pK x 4607182418800017408 = 0) (hf : frW x = 2 ^ 52) (hn : (!ngW x == ngW 4607182418800017408) = ng) (hj : (xpW x + xpW 4607182418800017408 + 2148).toNat = j) (hk : k = 104 + j) : pT x 4607182418800017408 = sgn7 ng (2 ^ k) := by
  unfold pT
  rw [pv7_yes h, hf, show frW 4607182418800017408 = 2 ^ 52 by decide, hn, hj, hk, ← Nat.pow_add, ← Nat.pow_add]
theorem pT_one (k : Nat) (hk : k = 2148) : pT 4607182418800017408 4607182418800017408 = ((2 ^ k : Nat) : Int) := by
  obtain ⟨j, hj⟩ : ∃ j, j = 2044 := ⟨_, rfl⟩
  rw [pT_pow 4607182418800017408 false j k pK_one (by decide) (by decide) (by rw [hj]; decide) (by omega)]
  rfl
theorem pT_up (k : Nat) (hk : k = 3148) : pT 9110782046170513408 4607182418800017408 = ((2 ^ k : Nat) : Int) := by
  obtain ⟨j, hj⟩ : ∃ j, j = 3044 := ⟨_, rfl⟩
  rw [pT_pow 9110782046170513408 false j k pK_up (by decide) (by decide) (by rw [hj]; decide) (by omega)]
  rfl
theorem pT_dn (k : Nat) (hk : k = 3148) : pT 18334154083025289216 4607182418800017408 = -((2 ^ k : Nat) : Int) := by
  obtain ⟨j, hj⟩ : ∃ j, j = 3044 := ⟨_, rfl⟩
  rw [pT_pow 18334154083025289216 true j k pK_dn (by decide) (by decide) (by rw [hj]; decide) (by omega)]
  rfl
theorem pow_HB (k : Nat) (hk : k < 4237) : ((2 ^ k : Nat) : Int) * 4 ≤ (HB : Int) := by
  obtain ⟨j, hj⟩ : ∃ j, j = 4238 := ⟨_, rfl⟩
  rw [HB_two j hj]
  have h : 2 ^ (k + 2) ≤ 2 ^ j := Nat.pow_le_pow_right (by decide) (by omega)
  rw [Nat.pow_succ, Nat.pow_succ] at h
  omega
theorem bl_double7 (X : Nat) (h : X ≠ 0) : bl (2 * X) = bl X + 1 := by
  have := bl_mul_pow 1 X h
  rw [Nat.pow_one] at this
  omega
theorem lo_double7 (X : Nat) (h : X ≠ 0) : lo (2 * X) = lo X + 1 := by
  obtain ⟨m, hm⟩ := lo_form X h
  obtain ⟨k, hk⟩ : ∃ k, lo X = k := ⟨_, rfl⟩
  rw [hk] at hm ⊢
  have e : 2 * X = 2 ^ (k + 1) * (2 * m + 1) := by rw [hm, Nat.pow_succ]; grind
  rw [e]
  exact lo_eq (k + 1) m
theorem mkS_double7 (n : Bool) (X : Nat) (e : Int) : mkS n (2 * X) e = mkS n X (e + 1) := by
  unfold mkS
  by_cases h : X = 0
  · subst h; simp
  · rw [if_neg (by omega), if_neg h, lo_double7 X h, bl_double7 X h]
    have e1 : 2 * X / 2 ^ (lo X + 1) = X / 2 ^ lo X := by
      rw [Nat.pow_succ, Nat.mul_comm (2 ^ lo X) 2, Nat.mul_div_mul_left _ _ (by omega)]
    rw [e1]
    have e2 : (262144 < bl X + 1 - (lo X + 1) ∨ 1048576 - ((lo X + 1 : Nat) : Int) < e ∨ e < -1048576 - ((lo X + 1 : Nat) : Int)) ↔ (262144 < bl X - lo X ∨ 1048576 - (lo X : Int) < e + 1 ∨ e + 1 < -1048576 - (lo X : Int)) := by omega
    by_cases h2 : 262144 < bl X - lo X ∨ 1048576 - (lo X : Int) < e + 1 ∨ e + 1 < -1048576 - (lo X : Int)
    · rw [if_pos h2, if_pos (e2.2 h2)]
    · rw [if_neg h2, if_neg (fun h3 => h2 (e2.1 h3))]
      congr 3
      omega
theorem mkS_pow (n : Bool) (k : Nat) : ∀ e : Int, mkS n (2 ^ k) e = mkS n 1 (e + k) := by
  induction k with
  | zero => intro e; simp
  | succ k ih => intro e; rw [Nat.pow_succ, Nat.mul_comm, mkS_double7, ih]; congr 1; omega
theorem exV_one (k : Nat) (hk : k = 2148) : exV ((2 ^ k : Nat) : Int) = some (false, 1, 0) := by
  unfold exV
  rw [decide_eq_false (Int.not_lt.mpr (Int.natCast_nonneg _)), Int.natAbs_natCast, mkS_pow, hk]
  kernel_rfl
theorem rd7_one (k : Nat) (hk : k = 2148) : rd7 ((2 ^ k : Nat) : Int) ⟨0, 0, 0, 0, 0, 3⟩ 0 0 0 = (4607182418800017408, 0) := by
  have h0 : ((2 ^ k : Nat) : Int) ≠ 0 := by have := Nat.two_pow_pos k; omega
  have e : ahd ((2 ^ k : Nat) : Int) ⟨0, 0, 0, 0, 0, 3⟩ 0 0 0 = (0, false, 0) := by
    unfold ahd
    rw [if_neg (by decide), if_neg h0]
  have e2 : rndS (mkS (dN (some (false, 1, 0))) (dX (some (false, 1, 0))) (dE (some (false, 1, 0)))) 0 = (4607182418800017408, 0) := by kernel_rfl
  unfold rd7
  rw [e, exV_one k hk, e2]
  rfl
theorem put_steps (k j : Nat) (hk : k = 2148) (hj : j = 3148) :
    putS 0 ⟨0, 0, 0, 0, 0, 0⟩ (pK 9110782046170513408 4607182418800017408) (pT 9110782046170513408 4607182418800017408) = (0, ((2 ^ j : Nat) : Int), ⟨0, 0, 0, 0, 0, 1⟩) ∧
    putS ((2 ^ j : Nat) : Int) ⟨0, 0, 0, 0, 0, 1⟩ (pK 4607182418800017408 4607182418800017408) (pT 4607182418800017408 4607182418800017408) = (0, ((2 ^ j : Nat) : Int) + ((2 ^ k : Nat) : Int), ⟨0, 0, 0, 0, 0, 2⟩) ∧
    putS (((2 ^ j : Nat) : Int) + ((2 ^ k : Nat) : Int)) ⟨0, 0, 0, 0, 0, 2⟩ (pK 18334154083025289216 4607182418800017408) (pT 18334154083025289216 4607182418800017408) = (0, ((2 ^ k : Nat) : Int), ⟨0, 0, 0, 0, 0, 3⟩) := by
  have a1 := pow_HB k (by omega)
  have a2 := pow_HB j (by omega)
  have p1 := Nat.two_pow_pos k
  have p2 := Nat.two_pow_pos j
  rw [pK_up, pK_one, pK_dn, pT_up j hj, pT_one k hk, pT_dn j hj]
  generalize (2 ^ k : Nat) = A at *
  generalize (2 ^ j : Nat) = C at *
  have hb := HB_pos
  refine ⟨?_, ?_, ?_⟩
  · unfold putS step7
    rw [if_neg (by decide), if_pos (by omega), Int.zero_add]
    rfl
  · unfold putS step7
    rw [if_neg (by decide), if_pos (by omega)]
    rfl
  · unfold putS step7
    rw [if_neg (by decide), if_pos (by omega)]
    rw [show (C : Int) + A + -C = A by omega]
    rfl

set_option maxHeartbeats 2000000 in
theorem live7 (w : World) (hT : Tab w) : Calls Tryd.prog 6 #[] w fun r w' => r = .returned (.bool true) ∧ Below w.heap.size w w' := by
  obtain ⟨k, hk⟩ : ∃ k, k = 2148 := ⟨_, rfl⟩
  obtain ⟨j, hj⟩ : ∃ j, j = 3148 := ⟨_, rfl⟩
  obtain ⟨q1, q2, q3⟩ := put_steps k j hk hj
  have q4 := rd7_one k hk
  have HQ := Aside.intro (And.intro q1 (And.intro q2 (And.intro q3 (And.intro q4 hT))))
  have HL := hid (fun u : World => Ldexp1000 u)
  have hneg : ∀ u : World, Sem.run Tryd.prog (Op.unary UnOp.neg (Value.float FloatKind.f64 9110782046170513408)) u = .ok (.float .f64 18334154083025289216) u := fun u => by kernel_rfl
  clear q1 q2 q3 q4 hT hk hj
  go_enter Tryd.func6, Tryd.ntmps6
  go_wp2_with fail
  refine (New7 w).mono ?_
  rintro r w1 ⟨rfl, hA, hb⟩
  have S1 := Aside.intro (And.intro hA hb)
  clear hA hb
  go_wp2_with fail
  refine (HL.out _).mono ?_
  rintro r u ⟨rfl, rfl⟩
  go_wp2_with fail
  have C1 := Add7 w.heap.size 0 ⟨0, 0, 0, 0, 0, 0⟩ 9110782046170513408 u S1.out.1 (by unfold Sp.ok; decide) (by decide)
  rw [HQ.out.1] at C1
  refine C1.mono ?_
  rintro r w2 ⟨rfl, hA, hbut⟩
  have S2 := Aside.intro (And.intro hA (But.below S1.out.2 hbut S1.out.2.size (Nat.le_refl _)))
  clear hA hbut C1
  go_wp2_with fail
  have C2 := Add7 w.heap.size _ ⟨0, 0, 0, 0, 0, 1⟩ 4607182418800017408 w2 S2.out.1 (by unfold Sp.ok; decide) (by decide)
  rw [HQ.out.2.1] at C2
  refine C2.mono ?_
  rintro r w3 ⟨rfl, hA, hbut⟩
  have S3 := Aside.intro (And.intro hA (But.below S2.out.2 hbut S2.out.2.size (Nat.le_refl _)))
  clear hA hbut C2
  go_wp2_with fail
  refine (HL.out _).mono ?_
  rintro r u3 ⟨rfl, rfl⟩
  go_wp2_with fail
  have C3 := Add7 w.heap.size _ ⟨0, 0, 0, 0, 0, 2⟩ 18334154083025289216 u3 S3.out.1 (by unfold Sp.ok; decide) (by decide)
  rw [HQ.out.2.2.1] at C3
  refine C3.mono ?_
  rintro r w4 ⟨rfl, hA, hbut⟩
  have S4 := Aside.intro (And.intro hA (But.below S3.out.2 hbut S3.out.2.size (Nat.le_refl _)))
  clear hA hbut C3
  go_wp2_with fail
  have C4 := Round7 w.heap.size _ ⟨0, 0, 0, 0, 0, 3⟩ 0 0 0 w4 S4.out.1 (by unfold Sp.ok; decide) (HQ.out.2.2.2.2.belows S4.out.2) (by decide) (by decide) (by decide) (by decide) (by decide)
  rw [HQ.out.2.2.2.1] at C4
  refine C4.mono ?_
  rintro r w5 ⟨rfl, hb⟩
  have S5 := Aside.intro (S4.out.2.trans (hb.mono S4.out.2.size))
  clear hb C4
  have heq : (FloatKind.f64.format.order 4607182418800017408 4607182418800017408 == some .eq) = true := by kernel_rfl
  go_wp2
  go_ret
  exact ⟨rfl, S5.out⟩
end Go.Proofs.YtnnlicahgdcbdaaDoor

/- What is added and then taken: the plain part. -/
namespace Go.Proofs.YtnnlicahgdcbdaaDoor
open Go.RowKit
set_option linter.unusedVariables false
set_option maxRecDepth 20000
set_option linter.unusedSimpArgs false

/-- A bound for one thing's value. -/
def QB : Nat := HB / 4398046511104
theorem QB_HB : HB = 4398046511104 * QB := by
  obtain ⟨k, hk⟩ : ∃ k, k = 4238 := ⟨_, rfl⟩
  obtain ⟨j, hj⟩ : ∃ j, j = 4196 := ⟨_, rfl⟩
  unfold QB
  rw [HB_two k hk, show k = 42 + j by omega, Nat.pow_add]
  have e : (2 : Nat) ^ 42 = 4398046511104 := by decide
  rw [e, Nat.mul_div_cancel_left _ (by decide)]
theorem QB_pos : 0 < QB := by have := QB_HB; have := HB_pos; omega
theorem pT_small (x y : Nat) (hx : x < 18446744073709551616) (hy : y < 18446744073709551616) : -(QB : Int) ≤ pT x y ∧ pT x y ≤ (QB : Int) := by
  have hp := QB_pos
  have e2 : ∃ j, j = 4196 ∧ QB = 2 ^ j := by
    obtain ⟨k, hk⟩ : ∃ k, k = 4238 := ⟨_, rfl⟩
    obtain ⟨j, hj⟩ : ∃ j, j = 4196 := ⟨_, rfl⟩
    refine ⟨j, hj, ?_⟩
    unfold QB
    rw [HB_two k hk, show k = 42 + j by omega, Nat.pow_add]
    have e : (2 : Nat) ^ 42 = 4398046511104 := by decide
    rw [e, Nat.mul_div_cancel_left _ (by decide)]
  obtain ⟨j, hj, hq⟩ := e2
  unfold pT pv7
  split
  · have f1 := fr_bound (eW x) (fW x) (bw_parts x hx).2.2
    have f2 := fr_bound (eW y) (fW y) (bw_parts y hy).2.2
    have x1 := xp_bound (eW x) (bw_parts x hx).2.1
    have x2 := xp_bound (eW y) (bw_parts y hy).2.1
    have h1 : frW x * frW y < 2 ^ 106 := by
      have : frW x * frW y ≤ 9007199254740991 * 9007199254740991 := Nat.mul_le_mul (by unfold frW; omega) (by unfold frW; omega)
      exact Nat.lt_of_le_of_lt this (by decide)
    have h3 : frW x * frW y * 2 ^ (xpW x + xpW y + 2148).toNat < QB := by
      rw [hq]
      refine Nat.lt_of_lt_of_le (Nat.mul_lt_mul_of_pos_right h1 (Nat.two_pow_pos _)) ?_
      rw [← Nat.pow_add]
      exact Nat.pow_le_pow_right (by decide) (by unfold xpW; omega)
    have := sgn_bound (!ngW x == ngW y) _ _ h3
    omega
  · constructor <;> omega

/-- Counts that may be. -/
def Sp.pos (s : Sp) : Prop := 0 ≤ s.n ∧ 0 ≤ s.u ∧ 0 ≤ s.d ∧ 0 ≤ s.m ∧ 0 ≤ s.p ∧ s.n + s.u + s.d + s.m + s.p ≤ s.a
theorem Sp.pos.cnt {s : Sp} (h : s.pos) (k : Nat) (hk : k ≤ 5) : (s.cnt k 1).pos := by
  obtain ⟨h0, h1, h2, h3, h4, h5⟩ := h
  have hc : k = 0 ∨ k = 1 ∨ k = 2 ∨ k = 3 ∨ k = 4 ∨ k = 5 := by omega
  rcases hc with rfl | rfl | rfl | rfl | rfl | rfl <;> (unfold Sp.pos Sp.cnt; simp; omega)
theorem Sp.pos.ok {s : Sp} (h : s.pos) (ha : s.a ≤ 4398046511104) : s.ok := by
  obtain ⟨h0, h1, h2, h3, h4, h5⟩ := h
  unfold Sp.ok
  omega
theorem put_ok (V : Int) (s : Sp) (k : Nat) (T : Int) (h0 : -(HB : Int) < V + T) (h1 : V + T < (HB : Int)) (ha : s.a < 1099511627776) : putS V s k T = (0, V + T, s.cnt k 1) := by
  unfold putS step7
  rw [if_neg (by omega), if_pos ⟨h0, h1⟩]
/-- The things of a list of indices, put in one after the other. -/
def sAt (kA kB : Nat → Nat) (s : Sp) : List Nat → Sp
  | [] => s
  | j :: R => ((sAt kA kB s R).cnt (kA j) 1).cnt (kB j) 1
def vAt (tA tB : Nat → Int) (V : Int) : List Nat → Int
  | [] => V
  | j :: R => vAt tA tB V R + tA j + tB j
/-- n - 1, .., 0. -/
def down : Nat → List Nat
  | 0 => []
  | n + 1 => n :: down n
end Go.Proofs.YtnnlicahgdcbdaaDoor

