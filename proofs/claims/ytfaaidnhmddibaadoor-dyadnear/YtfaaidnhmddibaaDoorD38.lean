/- dyad's Cmp. -/
import Derived.Test.YtfaaidnhmddibaaDoorD37
namespace Go.Proofs.YtfaaidnhmddibaaDoor
open Go.RowKit
set_option linter.unusedVariables false
set_option maxRecDepth 20000
set_option linter.unusedSimpArgs false

set_option maxHeartbeats 4000000 in
theorem cmpSizes_lt {w : World} {a b : Option Addr} {n c m d : Nat} (ng mg : Bool) (e f : Int) (z : Int) (hlt : e < f) (hz0 : -1 ≤ z) (hz1 : z ≤ 1)
    (HR : Hid (∀ u, Below w.heap.size w u → Calls Tryd.prog 61 #[.agg #[.bool mg, .slice b m d, .int .i64 f], .agg #[.bool ng, .slice a n c, .int .i64 e]] u fun r w' => r = .returned (.int .i64 z) ∧ Below u.heap.size u w')) :
    Calls Tryd.prog 61 #[.agg #[.bool ng, .slice a n c, .int .i64 e], .agg #[.bool mg, .slice b m d, .int .i64 f]] w fun r w' => r = .returned (.int .i64 (-z)) ∧ Below w.heap.size w w' := by
  obtain ⟨W1, hW1⟩ : ∃ W, W = (w.alloc (.cells #[.bool ng, .slice a n c, .int .i64 e] 27)).alloc (.cells #[.bool mg, .slice b m d, .int .i64 f] 27) := ⟨_, rfl⟩
  have hB : Below w.heap.size w W1 := by rw [hW1]; exact (below_alloc w _).alloc (by simp) _
  have hz : W1.heap.size = w.heap.size + 2 := by rw [hW1]; simp
  have DA : Dk W1 w.heap.size ng (.slice a n c) e := by rw [hW1]; exact (Dk.new w ng (.slice a n c) e).alloc _
  have DB : Dk W1 (w.heap.size + 1) mg (.slice b m d) f := by
    rw [hW1]
    have := Dk.new (w.alloc (.cells #[.bool ng, .slice a n c, .int .i64 e] 27)) mg (.slice b m d) f
    simpa using this
  have hs : w.heap.size ≤ W1.heap.size := by omega
  have S0 := (Aside.intro (And.intro hB (And.intro DA DB)))
  clear hz
  clear hB DA DB
  go_enter Tryd.func61, Tryd.ntmps61
  go_upto_region 1 with fail
  rw [← hW1]
  clear hW1
  obtain ⟨hB, DA, DB⟩ := S0.out
  obtain ⟨x0, x1, x2, xf0, xf1, xf2⟩ := DA.facts
  obtain ⟨y0, y1, y2, yf0, yf1, yf2⟩ := DB.facts
  have HH := hid (HR.out W1 hB)
  clear hB DA DB
  go_wp2_with fail
  clear x0 x1 x2 xf0 xf1 xf2 y0 y1 y2 yf0 yf1 yf2
  refine (Calls.mono HH.out) ?_
  rintro r u1 ⟨rfl, hb⟩
  obtain ⟨hB, DA, DB⟩ := S0.out
  have hs1 := hb.size
  have S1 := (Aside.intro (And.intro (hB.trans (hb.mono (by omega))) (And.intro (DA.below hb) (DB.below hb))))
  clear hB DA DB hb HH S0
  go_wp2
  go_ret
  exact ⟨rfl, S1.out.1⟩

set_option maxHeartbeats 4000000 in
theorem cmp_nought {w : World} {a b : Option Addr} {n c m d : Nat} (ng mg : Bool) (e f : Int) (s t z : Int) (hs0 : s = 0)
    (HA : Hid (∀ u, Below w.heap.size w u → Calls Tryd.prog 59 #[.agg #[.bool ng, .slice a n c, .int .i64 e]] u fun r w' => r = .returned (.int .i64 s) ∧ Below u.heap.size u w'))
    (HB : Hid (∀ u, Below w.heap.size w u → Calls Tryd.prog 59 #[.agg #[.bool mg, .slice b m d, .int .i64 f]] u fun r w' => r = .returned (.int .i64 t) ∧ Below u.heap.size u w'))
    (HC : Hid (∀ u, Calls Tryd.prog 60 #[.int .i64 s, .int .i64 t] u fun r w' => r = .returned (.int .i64 z) ∧ w' = u)) :
    Calls Tryd.prog 26 #[.agg #[.bool ng, .slice a n c, .int .i64 e], .agg #[.bool mg, .slice b m d, .int .i64 f]] w fun r w' => r = .returned (.int .i64 z) ∧ Below w.heap.size w w' := by
  subst hs0
  obtain ⟨W1, hW1⟩ : ∃ W, W = (w.alloc (.cells #[.bool ng, .slice a n c, .int .i64 e] 27)).alloc (.cells #[.bool mg, .slice b m d, .int .i64 f] 27) := ⟨_, rfl⟩
  have hB : Below w.heap.size w W1 := by rw [hW1]; exact (below_alloc w _).alloc (by simp) _
  have hz : W1.heap.size = w.heap.size + 2 := by rw [hW1]; simp
  have DA : Dk W1 w.heap.size ng (.slice a n c) e := by rw [hW1]; exact (Dk.new w ng (.slice a n c) e).alloc _
  have DB : Dk W1 (w.heap.size + 1) mg (.slice b m d) f := by
    rw [hW1]
    have := Dk.new (w.alloc (.cells #[.bool ng, .slice a n c, .int .i64 e] 27)) mg (.slice b m d) f
    simpa using this
  have hs : w.heap.size ≤ W1.heap.size := by omega
  have S0 := (Aside.intro (And.intro hB (And.intro DA DB)))
  clear hz
  clear hB DA DB
  go_enter Tryd.func26, Tryd.ntmps26
  go_upto_region 1 with fail
  rw [← hW1]
  clear hW1
  obtain ⟨hB, DA, DB⟩ := S0.out
  obtain ⟨x0, x1, x2, xf0, xf1, xf2⟩ := DA.facts
  obtain ⟨y0, y1, y2, yf0, yf1, yf2⟩ := DB.facts
  have HH := hid (HA.out W1 hB)
  clear hB DA DB
  go_wp2_with fail
  clear x0 x1 x2 xf0 xf1 xf2 y0 y1 y2 yf0 yf1 yf2
  refine (Calls.mono HH.out) ?_
  rintro r u1 ⟨rfl, hb⟩
  obtain ⟨hB, DA, DB⟩ := S0.out
  have hs1 := hb.size
  have S1 := (Aside.intro (And.intro (hB.trans (hb.mono (by omega))) (And.intro (DA.below hb) (DB.below hb))))
  clear hB DA DB hb HH S0
  obtain ⟨hB, DA, DB⟩ := S1.out
  obtain ⟨x0, x1, x2, xf0, xf1, xf2⟩ := DA.facts
  obtain ⟨y0, y1, y2, yf0, yf1, yf2⟩ := DB.facts
  have HH := hid (HB.out u1 hB)
  clear hB DA DB
  go_wp2_with fail
  clear x0 x1 x2 xf0 xf1 xf2 y0 y1 y2 yf0 yf1 yf2
  refine (Calls.mono HH.out) ?_
  rintro r u2 ⟨rfl, hb⟩
  obtain ⟨hB, DA, DB⟩ := S1.out
  have hs2 := hb.size
  have S2 := (Aside.intro (And.intro (hB.trans (hb.mono (by omega))) (And.intro (DA.below hb) (DB.below hb))))
  clear hB DA DB hb HH S1
  obtain ⟨hB, DA, DB⟩ := S2.out
  obtain ⟨x0, x1, x2, xf0, xf1, xf2⟩ := DA.facts
  obtain ⟨y0, y1, y2, yf0, yf1, yf2⟩ := DB.facts
  have HH := hid (HC.out u2)
  clear hB DA DB
  go_wp2_with fail
  clear x0 x1 x2 xf0 xf1 xf2 y0 y1 y2 yf0 yf1 yf2
  refine (Calls.mono HH.out) ?_
  rintro r uu ⟨rfl, hw⟩
  rw [hw]
  clear hw uu HH
  go_wp2
  go_ret
  exact ⟨rfl, S2.out.1⟩

set_option maxHeartbeats 4000000 in
theorem cmp_apart {w : World} {a b : Option Addr} {n c m d : Nat} (ng mg : Bool) (e f : Int) (s t z : Int) (hs0 : (s == 0) = false) (hst : (s == t) = false)
    (HA : Hid (∀ u, Below w.heap.size w u → Calls Tryd.prog 59 #[.agg #[.bool ng, .slice a n c, .int .i64 e]] u fun r w' => r = .returned (.int .i64 s) ∧ Below u.heap.size u w'))
    (HB : Hid (∀ u, Below w.heap.size w u → Calls Tryd.prog 59 #[.agg #[.bool mg, .slice b m d, .int .i64 f]] u fun r w' => r = .returned (.int .i64 t) ∧ Below u.heap.size u w'))
    (HC : Hid (∀ u, Calls Tryd.prog 60 #[.int .i64 s, .int .i64 t] u fun r w' => r = .returned (.int .i64 z) ∧ w' = u)) :
    Calls Tryd.prog 26 #[.agg #[.bool ng, .slice a n c, .int .i64 e], .agg #[.bool mg, .slice b m d, .int .i64 f]] w fun r w' => r = .returned (.int .i64 z) ∧ Below w.heap.size w w' := by
  obtain ⟨W1, hW1⟩ : ∃ W, W = (w.alloc (.cells #[.bool ng, .slice a n c, .int .i64 e] 27)).alloc (.cells #[.bool mg, .slice b m d, .int .i64 f] 27) := ⟨_, rfl⟩
  have hB : Below w.heap.size w W1 := by rw [hW1]; exact (below_alloc w _).alloc (by simp) _
  have hz : W1.heap.size = w.heap.size + 2 := by rw [hW1]; simp
  have DA : Dk W1 w.heap.size ng (.slice a n c) e := by rw [hW1]; exact (Dk.new w ng (.slice a n c) e).alloc _
  have DB : Dk W1 (w.heap.size + 1) mg (.slice b m d) f := by
    rw [hW1]
    have := Dk.new (w.alloc (.cells #[.bool ng, .slice a n c, .int .i64 e] 27)) mg (.slice b m d) f
    simpa using this
  have hs : w.heap.size ≤ W1.heap.size := by omega
  have S0 := (Aside.intro (And.intro hB (And.intro DA DB)))
  clear hz
  clear hB DA DB
  go_enter Tryd.func26, Tryd.ntmps26
  go_upto_region 1 with fail
  rw [← hW1]
  clear hW1
  obtain ⟨hB, DA, DB⟩ := S0.out
  obtain ⟨x0, x1, x2, xf0, xf1, xf2⟩ := DA.facts
  obtain ⟨y0, y1, y2, yf0, yf1, yf2⟩ := DB.facts
  have HH := hid (HA.out W1 hB)
  clear hB DA DB
  go_wp2_with fail
  clear x0 x1 x2 xf0 xf1 xf2 y0 y1 y2 yf0 yf1 yf2
  refine (Calls.mono HH.out) ?_
  rintro r u1 ⟨rfl, hb⟩
  obtain ⟨hB, DA, DB⟩ := S0.out
  have hs1 := hb.size
  have S1 := (Aside.intro (And.intro (hB.trans (hb.mono (by omega))) (And.intro (DA.below hb) (DB.below hb))))
  clear hB DA DB hb HH S0
  obtain ⟨hB, DA, DB⟩ := S1.out
  obtain ⟨x0, x1, x2, xf0, xf1, xf2⟩ := DA.facts
  obtain ⟨y0, y1, y2, yf0, yf1, yf2⟩ := DB.facts
  have HH := hid (HB.out u1 hB)
  clear hB DA DB
  go_wp2_with fail
  clear x0 x1 x2 xf0 xf1 xf2 y0 y1 y2 yf0 yf1 yf2
  refine (Calls.mono HH.out) ?_
  rintro r u2 ⟨rfl, hb⟩
  obtain ⟨hB, DA, DB⟩ := S1.out
  have hs2 := hb.size
  have S2 := (Aside.intro (And.intro (hB.trans (hb.mono (by omega))) (And.intro (DA.below hb) (DB.below hb))))
  clear hB DA DB hb HH S1
  obtain ⟨hB, DA, DB⟩ := S2.out
  obtain ⟨x0, x1, x2, xf0, xf1, xf2⟩ := DA.facts
  obtain ⟨y0, y1, y2, yf0, yf1, yf2⟩ := DB.facts
  have HH := hid (HB.out u2 hB)
  clear hB DA DB
  go_wp2_with fail
  clear x0 x1 x2 xf0 xf1 xf2 y0 y1 y2 yf0 yf1 yf2
  refine (Calls.mono HH.out) ?_
  rintro r u3 ⟨rfl, hb⟩
  obtain ⟨hB, DA, DB⟩ := S2.out
  have hs3 := hb.size
  have S3 := (Aside.intro (And.intro (hB.trans (hb.mono (by omega))) (And.intro (DA.below hb) (DB.below hb))))
  clear hB DA DB hb HH S2
  obtain ⟨hB, DA, DB⟩ := S3.out
  obtain ⟨x0, x1, x2, xf0, xf1, xf2⟩ := DA.facts
  obtain ⟨y0, y1, y2, yf0, yf1, yf2⟩ := DB.facts
  have HH := hid (HC.out u3)
  clear hB DA DB
  go_wp2_with fail
  clear x0 x1 x2 xf0 xf1 xf2 y0 y1 y2 yf0 yf1 yf2
  refine (Calls.mono HH.out) ?_
  rintro r uu ⟨rfl, hw⟩
  rw [hw]
  clear hw uu HH
  go_wp2
  go_ret
  exact ⟨rfl, S3.out.1⟩

set_option maxHeartbeats 4000000 in
theorem cmp_alike {w : World} {a b : Option Addr} {n c m d : Nat} (ng mg : Bool) (e f : Int) (s z : Int) (hs0 : (s == 0) = false) (bs0 : -1 ≤ s) (bs1 : s ≤ 1) (bz0 : -1 ≤ z) (bz1 : z ≤ 1) (p : Int) (hp : IntKind.i64.wrap (s * z) = p)
    (HA : Hid (∀ u, Below w.heap.size w u → Calls Tryd.prog 59 #[.agg #[.bool ng, .slice a n c, .int .i64 e]] u fun r w' => r = .returned (.int .i64 s) ∧ Below u.heap.size u w'))
    (HB : Hid (∀ u, Below w.heap.size w u → Calls Tryd.prog 59 #[.agg #[.bool mg, .slice b m d, .int .i64 f]] u fun r w' => r = .returned (.int .i64 s) ∧ Below u.heap.size u w'))
    (HZ : Hid (∀ u, Below w.heap.size w u → Calls Tryd.prog 61 #[.agg #[.bool ng, .slice a n c, .int .i64 e], .agg #[.bool mg, .slice b m d, .int .i64 f]] u fun r w' => r = .returned (.int .i64 z) ∧ Below u.heap.size u w')) :
    Calls Tryd.prog 26 #[.agg #[.bool ng, .slice a n c, .int .i64 e], .agg #[.bool mg, .slice b m d, .int .i64 f]] w fun r w' => r = .returned (.int .i64 p) ∧ Below w.heap.size w w' := by
  obtain ⟨W1, hW1⟩ : ∃ W, W = (w.alloc (.cells #[.bool ng, .slice a n c, .int .i64 e] 27)).alloc (.cells #[.bool mg, .slice b m d, .int .i64 f] 27) := ⟨_, rfl⟩
  have hB : Below w.heap.size w W1 := by rw [hW1]; exact (below_alloc w _).alloc (by simp) _
  have hz : W1.heap.size = w.heap.size + 2 := by rw [hW1]; simp
  have DA : Dk W1 w.heap.size ng (.slice a n c) e := by rw [hW1]; exact (Dk.new w ng (.slice a n c) e).alloc _
  have DB : Dk W1 (w.heap.size + 1) mg (.slice b m d) f := by
    rw [hW1]
    have := Dk.new (w.alloc (.cells #[.bool ng, .slice a n c, .int .i64 e] 27)) mg (.slice b m d) f
    simpa using this
  have hs : w.heap.size ≤ W1.heap.size := by omega
  have S0 := (Aside.intro (And.intro hB (And.intro DA DB)))
  clear hz
  clear hB DA DB
  go_enter Tryd.func26, Tryd.ntmps26
  go_upto_region 1 with fail
  rw [← hW1]
  clear hW1
  obtain ⟨hB, DA, DB⟩ := S0.out
  obtain ⟨x0, x1, x2, xf0, xf1, xf2⟩ := DA.facts
  obtain ⟨y0, y1, y2, yf0, yf1, yf2⟩ := DB.facts
  have HH := hid (HA.out W1 hB)
  clear hB DA DB
  go_wp2_with fail
  clear x0 x1 x2 xf0 xf1 xf2 y0 y1 y2 yf0 yf1 yf2
  refine (Calls.mono HH.out) ?_
  rintro r u1 ⟨rfl, hb⟩
  obtain ⟨hB, DA, DB⟩ := S0.out
  have hs1 := hb.size
  have S1 := (Aside.intro (And.intro (hB.trans (hb.mono (by omega))) (And.intro (DA.below hb) (DB.below hb))))
  clear hB DA DB hb HH S0
  obtain ⟨hB, DA, DB⟩ := S1.out
  obtain ⟨x0, x1, x2, xf0, xf1, xf2⟩ := DA.facts
  obtain ⟨y0, y1, y2, yf0, yf1, yf2⟩ := DB.facts
  have HH := hid (HB.out u1 hB)
  clear hB DA DB
  go_wp2_with fail
  clear x0 x1 x2 xf0 xf1 xf2 y0 y1 y2 yf0 yf1 yf2
  refine (Calls.mono HH.out) ?_
  rintro r u2 ⟨rfl, hb⟩
  obtain ⟨hB, DA, DB⟩ := S1.out
  have hs2 := hb.size
  have S2 := (Aside.intro (And.intro (hB.trans (hb.mono (by omega))) (And.intro (DA.below hb) (DB.below hb))))
  clear hB DA DB hb HH S1
  obtain ⟨hB, DA, DB⟩ := S2.out
  obtain ⟨x0, x1, x2, xf0, xf1, xf2⟩ := DA.facts
  obtain ⟨y0, y1, y2, yf0, yf1, yf2⟩ := DB.facts
  have HH := hid (HZ.out u2 hB)
  clear hB DA DB
  go_wp2_with fail
  clear x0 x1 x2 xf0 xf1 xf2 y0 y1 y2 yf0 yf1 yf2
  refine (Calls.mono HH.out) ?_
  rintro r u3 ⟨rfl, hb⟩
  obtain ⟨hB, DA, DB⟩ := S2.out
  have hs3 := hb.size
  have S3 := (Aside.intro (And.intro (hB.trans (hb.mono (by omega))) (And.intro (DA.below hb) (DB.below hb))))
  clear hB DA DB hb HH S2
  go_wp2
  go_ret
  exact ⟨rfl, S3.out.1⟩


theorem u64_apart (e f : Int) (he0 : -9223372036854775808 ≤ e) (he1 : e ≤ 9223372036854775807) (hf0 : -9223372036854775808 ≤ f) (hf1 : f ≤ 9223372036854775807) (h : f ≤ e) : IntKind.u64.wrap (IntKind.u64.wrap e - IntKind.u64.wrap f) = (((e - f).toNat : Nat) : Int) := by
  rw [IntKind.wrap_u64, IntKind.wrap_u64, IntKind.wrap_u64]
  omega
theorem cmp_size (X Y dd : Nat) (hX : X ≠ 0) : (if bl Y < dd then 1 else if dd + bl X = bl Y then cmpI (X * 2 ^ dd) Y else cmpI (dd + bl X) (bl Y)) = cmpI (X * 2 ^ dd) Y := by
  have hb := bl_up X dd hX
  by_cases h1 : bl Y < dd
  · rw [if_pos h1, cmpI_bl (by omega), hb]
    unfold cmpI
    rw [if_neg (by omega), if_pos (by omega)]
  · rw [if_neg h1]
    by_cases h2 : dd + bl X = bl Y
    · rw [if_pos h2]
    · rw [if_neg h2, cmpI_bl (x := X * 2 ^ dd) (by omega), hb, Nat.add_comm]

theorem bl_arg {w : World} {a : Option Addr} {n c : Nat} {xs : List Nat} (h1 : Arg w a n c xs) : bl (val xs) ≤ 1125899906842624 := by
  have := val_lt xs h1.wf
  rw [← h1.len] at this
  have := bl_pw _ _ this
  have := h1.big
  omega
theorem cmpSizes_ge {w : World} {a b : Option Addr} {n c m d : Nat} {xs ys : List Nat} (h1 : Arg w a n c xs) (h2 : Arg w b m d ys) (ng mg : Bool) (e f : Int) (he0 : -9223372036854775808 ≤ e) (he1 : e ≤ 9223372036854775807) (hf0 : -9223372036854775808 ≤ f) (hf1 : f ≤ 9223372036854775807) (h : f ≤ e) (hX : val xs ≠ 0) :
    Calls Tryd.prog 61 #[.agg #[.bool ng, .slice a n c, .int .i64 e], .agg #[.bool mg, .slice b m d, .int .i64 f]] w fun r w' => r = .returned (.int .i64 (cmpP (val xs) e (val ys) f)) ∧ Below w.heap.size w w' := by
  have b1 := h1.big
  have b2 := h2.big
  have := cmpSizes_go (w := w) ng mg e f (bl (val xs)) (bl (val ys)) (e - f).toNat (cmpI (val xs * 2 ^ (e - f).toNat) (val ys)) (bl_arg h1) (bl_arg h2) (decide_eq_false (by omega)) (u64_apart e f he0 he1 hf0 hf1 h)
    (hid fun u hu => len_any xs a n c u.heap.size u h1.len h1.cap (by omega) h1.wf (h1.below hu).rd)
    (hid fun u hu => len_any ys b m d u.heap.size u h2.len h2.cap (by omega) h2.wf (h2.below hu).rd)
    (hid fun u hu hd => cmpFromTop_any (h1.below hu) (h2.below hu) (e - f).toNat (by omega))
  rw [cmp_size _ _ _ hX] at this
  unfold cmpP
  rw [if_neg (by omega)]
  exact this
theorem cmpSizes_any {w : World} {a b : Option Addr} {n c m d : Nat} {xs ys : List Nat} (h1 : Arg w a n c xs) (h2 : Arg w b m d ys) (ng mg : Bool) (e f : Int) (he0 : -9223372036854775808 ≤ e) (he1 : e ≤ 9223372036854775807) (hf0 : -9223372036854775808 ≤ f) (hf1 : f ≤ 9223372036854775807) (hX : val xs ≠ 0) (hY : val ys ≠ 0) :
    Calls Tryd.prog 61 #[.agg #[.bool ng, .slice a n c, .int .i64 e], .agg #[.bool mg, .slice b m d, .int .i64 f]] w fun r w' => r = .returned (.int .i64 (cmpP (val xs) e (val ys) f)) ∧ Below w.heap.size w w' := by
  by_cases h : e < f
  · have hr := cmpP_range (val ys) f (val xs) e
    have := cmpSizes_lt (w := w) ng mg e f (cmpP (val ys) f (val xs) e) h (by omega) (by omega) (hid fun u hu => cmpSizes_ge (h2.below hu) (h1.below hu) mg ng f e hf0 hf1 he0 he1 (by omega) hY)
    rw [cmpP_neg] at this
    exact this
  · exact cmpSizes_ge h1 h2 ng mg e f he0 he1 hf0 hf1 (by omega) hX

theorem sgn_range (n : Bool) (X : Nat) : sgn n X = -1 ∨ sgn n X = 0 ∨ sgn n X = 1 := by
  unfold sgn; split
  · exact .inr (.inl rfl)
  · split
    · exact .inl rfl
    · exact .inr (.inr rfl)
theorem sgn_zero {n : Bool} {X : Nat} : sgn n X = 0 ↔ X = 0 := by
  unfold sgn
  by_cases h : X = 0
  · simp [h]
  · rw [if_neg h]; cases n <;> simp [h]
theorem Cmp_any3 {w : World} {a b : Option Addr} {n c m d : Nat} {xs ys : List Nat} (h1 : Arg w a n c xs) (h2 : Arg w b m d ys) (ng mg : Bool) (e f : Int) (he0 : -9223372036854775808 ≤ e) (he1 : e ≤ 9223372036854775807) (hf0 : -9223372036854775808 ≤ f) (hf1 : f ≤ 9223372036854775807) :
    Calls Tryd.prog 26 #[.agg #[.bool ng, .slice a n c, .int .i64 e], .agg #[.bool mg, .slice b m d, .int .i64 f]] w fun r w' => r = .returned (.int .i64 (cmpV ng (val xs) e mg (val ys) f)) ∧ Below w.heap.size w w' := by
  have SA := hid fun u (hu : Below w.heap.size w u) => Sign_any3 (h1.below hu) ng e
  have SB := hid fun u (hu : Below w.heap.size w u) => Sign_any3 (h2.below hu) mg f
  have hA := sgn_range ng (val xs)
  have hB := sgn_range mg (val ys)
  by_cases h0 : sgn ng (val xs) = 0
  · have hX := sgn_zero.1 h0
    have e1 : cmpV ng (val xs) e mg (val ys) f = cmpZ (sgn ng (val xs)) (sgn mg (val ys)) := by
      unfold cmpV cmpZ
      rw [if_pos hX]
    rw [e1]
    exact cmp_nought ng mg e f _ _ _ h0 SA SB (hid fun u => compare_z _ _ u)
  · have h0' : (sgn ng (val xs) == 0) = false := by simpa using h0
    by_cases hst : sgn ng (val xs) = sgn mg (val ys)
    · have hX : val xs ≠ 0 := fun h => h0 (sgn_zero.2 h)
      have hY : val ys ≠ 0 := fun h => h0 (by rw [hst]; exact sgn_zero.2 h)
      have hz := cmpP_range (val xs) e (val ys) f
      have e1 : cmpV ng (val xs) e mg (val ys) f = sgn ng (val xs) * cmpP (val xs) e (val ys) f := by
        unfold cmpV
        rw [hst, if_neg (by omega), if_neg (by omega), if_neg hX, ← hst]
        unfold sgn
        rw [if_neg hX]
        cases ng
        · simp
        · simp only [if_true]
          rw [Int.neg_one_mul, cmpP_neg]
      rw [e1]
      rw [← hst] at SB
      refine cmp_alike ng mg e f (sgn ng (val xs)) (cmpP (val xs) e (val ys) f) h0' (by omega) (by omega) (by omega) (by omega) _ ?_ SA SB (hid fun u hu => cmpSizes_any (h1.below hu) (h2.below hu) ng mg e f he0 he1 hf0 hf1 hX hY)
      rcases hA with h | h | h <;> rcases hz with k | k | k <;> rw [h, k] <;> rfl
    · have e1 : cmpV ng (val xs) e mg (val ys) f = cmpZ (sgn ng (val xs)) (sgn mg (val ys)) := by
        unfold cmpV cmpZ
        by_cases k : sgn ng (val xs) < sgn mg (val ys)
        · rw [if_pos k, if_pos k]
        · rw [if_neg k, if_neg k, if_pos (by omega), if_pos (by omega)]
      rw [e1]
      exact cmp_apart ng mg e f _ _ _ h0' (by simpa using hst) SA SB (hid fun u => compare_z _ _ u)
end Go.Proofs.YtfaaidnhmddibaaDoor
