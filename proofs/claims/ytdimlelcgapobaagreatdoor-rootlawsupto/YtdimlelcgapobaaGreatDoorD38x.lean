/- dyad's Cmp. -/
import Derived.Test.YtdimlelcgapobaaGreatDoorD22x
import Derived.Test.YtdimlelcgapobaaGreatDoorZ8x
import Derived.Deep.OwnRows
import Derived.Deep.LoopGhost
import Derived.Test.YtdimlelcgapobaaGreatDoorD16x
import Derived.Deep.Cut
import Derived.Deep.RegionHeld3
namespace Go.Proofs.YtdimlelcgapobaaGreatDoor
open Go.RowKit
set_option linter.unusedVariables false
set_option maxRecDepth 20000
set_option linter.unusedSimpArgs false

set_option maxHeartbeats 4000000 in
theorem cmpSizes_lt {w : World} {a b : Option Addr} {n c m d : Nat} (ng mg : Bool) (e f : Int) (z : Int) (hlt : e < f) (hz0 : -1 ≤ z) (hz1 : z ≤ 1)
    (HR : Hid (∀ u, Below w.heap.size w u → Calls Tryz.prog 96 #[.agg #[.bool mg, .slice b m d, .int .i64 f], .agg #[.bool ng, .slice a n c, .int .i64 e]] u fun r w' => r = .returned (.int .i64 z) ∧ Below u.heap.size u w')) :
    Calls Tryz.prog 96 #[.agg #[.bool ng, .slice a n c, .int .i64 e], .agg #[.bool mg, .slice b m d, .int .i64 f]] w fun r w' => r = .returned (.int .i64 (-z)) ∧ Below w.heap.size w w' := by
  obtain ⟨W1, hW1⟩ : ∃ W, W = (w.alloc (.cells #[.bool ng, .slice a n c, .int .i64 e] 27)).alloc (.cells #[.bool mg, .slice b m d, .int .i64 f] 27) := ⟨_, rfl⟩
  have hB : Below w.heap.size w W1 := by rw [hW1]; exact (below_alloc w _).alloc (by simp) _
  have hz : W1.heap.size = w.heap.size + 2 := by rw [hW1]; simp
  have DA : Dk W1 w.heap.size ng (.slice a n c) e := by rw [hW1]; exact (Dk.new w ng (.slice a n c) e).alloc _
  have DB : Dk W1 (w.heap.size + 1) mg (.slice b m d) f := by
    rw [hW1]
    have := Dk.new (w.alloc (.cells #[.bool ng, .slice a n c, .int .i64 e] 27)) mg (.slice b m d) f
    simpa using this
  have hs : w.heap.size ≤ W1.heap.size := by omega
  have S0 := (Aside.intro (And.intro hB (And.intro DA DB)))
  clear hz
  clear hB DA DB
  go_enter Tryz.func96, Tryz.ntmps96
  go_upto_region 1 with fail
  rw [← hW1]
  clear hW1
  obtain ⟨hB, DA, DB⟩ := S0.out
  obtain ⟨x0, x1, x2, xf0, xf1, xf2⟩ := DA.facts
  obtain ⟨y0, y1, y2, yf0, yf1, yf2⟩ := DB.facts
  have HH := hid (HR.out W1 hB)
  clear hB DA DB
  go_wp2_with fail
  clear x0 x1 x2 xf0 xf1 xf2 y0 y1 y2 yf0 yf1 yf2
  refine (Calls.mono HH.out) ?_
  rintro r u1 ⟨rfl, hb⟩
  obtain ⟨hB, DA, DB⟩ := S0.out
  have hs1 := hb.size
  have S1 := (Aside.intro (And.intro (hB.trans (hb.mono (by omega))) (And.intro (DA.below hb) (DB.below hb))))
  clear hB DA DB hb HH S0
  go_wp2
  go_ret
  exact ⟨rfl, S1.out.1⟩

set_option maxHeartbeats 4000000 in
theorem cmp_nought {w : World} {a b : Option Addr} {n c m d : Nat} (ng mg : Bool) (e f : Int) (s t z : Int) (hs0 : s = 0)
    (HA : Hid (∀ u, Below w.heap.size w u → Calls Tryz.prog 59 #[.agg #[.bool ng, .slice a n c, .int .i64 e]] u fun r w' => r = .returned (.int .i64 s) ∧ Below u.heap.size u w'))
    (HB : Hid (∀ u, Below w.heap.size w u → Calls Tryz.prog 59 #[.agg #[.bool mg, .slice b m d, .int .i64 f]] u fun r w' => r = .returned (.int .i64 t) ∧ Below u.heap.size u w'))
    (HC : Hid (∀ u, Calls Tryz.prog 95 #[.int .i64 s, .int .i64 t] u fun r w' => r = .returned (.int .i64 z) ∧ w' = u)) :
    Calls Tryz.prog 61 #[.agg #[.bool ng, .slice a n c, .int .i64 e], .agg #[.bool mg, .slice b m d, .int .i64 f]] w fun r w' => r = .returned (.int .i64 z) ∧ Below w.heap.size w w' := by
  subst hs0
  obtain ⟨W1, hW1⟩ : ∃ W, W = (w.alloc (.cells #[.bool ng, .slice a n c, .int .i64 e] 27)).alloc (.cells #[.bool mg, .slice b m d, .int .i64 f] 27) := ⟨_, rfl⟩
  have hB : Below w.heap.size w W1 := by rw [hW1]; exact (below_alloc w _).alloc (by simp) _
  have hz : W1.heap.size = w.heap.size + 2 := by rw [hW1]; simp
  have DA : Dk W1 w.heap.size ng (.slice a n c) e := by rw [hW1]; exact (Dk.new w ng (.slice a n c) e).alloc _
  have DB : Dk W1 (w.heap.size + 1) mg (.slice b m d) f := by
    rw [hW1]
    have := Dk.new (w.alloc (.cells #[.bool ng, .slice a n c, .int .i64 e] 27)) mg (.slice b m d) f
    simpa using this
  have hs : w.heap.size ≤ W1.heap.size := by omega
  have S0 := (Aside.intro (And.intro hB (And.intro DA DB)))
  clear hz
  clear hB DA DB
  go_enter Tryz.func61, Tryz.ntmps61
  go_upto_region 1 with fail
  rw [← hW1]
  clear hW1
  obtain ⟨hB, DA, DB⟩ := S0.out
  obtain ⟨x0, x1, x2, xf0, xf1, xf2⟩ := DA.facts
  obtain ⟨y0, y1, y2, yf0, yf1, yf2⟩ := DB.facts
  have HH := hid (HA.out W1 hB)
  clear hB DA DB
  go_wp2_with fail
  clear x0 x1 x2 xf0 xf1 xf2 y0 y1 y2 yf0 yf1 yf2
  refine (Calls.mono HH.out) ?_
  rintro r u1 ⟨rfl, hb⟩
  obtain ⟨hB, DA, DB⟩ := S0.out
  have hs1 := hb.size
  have S1 := (Aside.intro (And.intro (hB.trans (hb.mono (by omega))) (And.intro (DA.below hb) (DB.below hb))))
  clear hB DA DB hb HH S0
  obtain ⟨hB, DA, DB⟩ := S1.out
  obtain ⟨x0, x1, x2, xf0, xf1, xf2⟩ := DA.facts
  obtain ⟨y0, y1, y2, yf0, yf1, yf2⟩ := DB.facts
  have HH := hid (HB.out u1 hB)
  clear hB DA DB
  go_wp2_with fail
  clear x0 x1 x2 xf0 xf1 xf2 y0 y1 y2 yf0 yf1 yf2
  refine (Calls.mono HH.out) ?_
  rintro r u2 ⟨rfl, hb⟩
  obtain ⟨hB, DA, DB⟩ := S1.out
  have hs2 := hb.size
  have S2 := (Aside.intro (And.intro (hB.trans (hb.mono (by omega))) (And.intro (DA.below hb) (DB.below hb))))
  clear hB DA DB hb HH S1
  obtain ⟨hB, DA, DB⟩ := S2.out
  obtain ⟨x0, x1, x2, xf0, xf1, xf2⟩ := DA.facts
  obtain ⟨y0, y1, y2, yf0, yf1, yf2⟩ := DB.facts
  have HH := hid (HC.out u2)
  clear hB DA DB
  go_wp2_with fail
  clear x0 x1 x2 xf0 xf1 xf2 y0 y1 y2 yf0 yf1 yf2
  refine (Calls.mono HH.out) ?_
  rintro r uu ⟨rfl, hw⟩
  rw [hw]
  clear hw uu HH
  go_wp2
  go_ret
  exact ⟨rfl, S2.out.1⟩

set_option maxHeartbeats 4000000 in
theorem cmp_apart {w : World} {a b : Option Addr} {n c m d : Nat} (ng mg : Bool) (e f : Int) (s t z : Int) (hs0 : (s == 0) = false) (hst : (s == t) = false)
    (HA : Hid (∀ u, Below w.heap.size w u → Calls Tryz.prog 59 #[.agg #[.bool ng, .slice a n c, .int .i64 e]] u fun r w' => r = .returned (.int .i64 s) ∧ Below u.heap.size u w'))
    (HB : Hid (∀ u, Below w.heap.size w u → Calls Tryz.prog 59 #[.agg #[.bool mg, .slice b m d, .int .i64 f]] u fun r w' => r = .returned (.int .i64 t) ∧ Below u.heap.size u w'))
    (HC : Hid (∀ u, Calls Tryz.prog 95 #[.int .i64 s, .int .i64 t] u fun r w' => r = .returned (.int .i64 z) ∧ w' = u)) :
    Calls Tryz.prog 61 #[.agg #[.bool ng, .slice a n c, .int .i64 e], .agg #[.bool mg, .slice b m d, .int .i64 f]] w fun r w' => r = .returned (.int .i64 z) ∧ Below w.heap.size w w' := by
  obtain ⟨W1, hW1⟩ : ∃ W, W = (w.alloc (.cells #[.bool ng, .slice a n c, .int .i64 e] 27)).alloc (.cells #[.bool mg, .slice b m d, .int .i64 f] 27) := ⟨_, rfl⟩
  have hB : Below w.heap.size w W1 := by rw [hW1]; exact (below_alloc w _).alloc (by simp) _
  have hz : W1.heap.size = w.heap.size + 2 := by rw [hW1]; simp
  have DA : Dk W1 w.heap.size ng (.slice a n c) e := by rw [hW1]; exact (Dk.new w ng (.slice a n c) e).alloc _
  have DB : Dk W1 (w.heap.size + 1) mg (.slice b m d) f := by
    rw [hW1]
    have := Dk.new (w.alloc (.cells #[.bool ng, .slice a n c, .int .i64 e] 27)) mg (.slice b m d) f
    simpa using this
  have hs : w.heap.size ≤ W1.heap.size := by omega
  have S0 := (Aside.intro (And.intro hB (And.intro DA DB)))
  clear hz
  clear hB DA DB
  go_enter Tryz.func61, Tryz.ntmps61
  go_upto_region 1 with fail
  rw [← hW1]
  clear hW1
  obtain ⟨hB, DA, DB⟩ := S0.out
  obtain ⟨x0, x1, x2, xf0, xf1, xf2⟩ := DA.facts
  obtain ⟨y0, y1, y2, yf0, yf1, yf2⟩ := DB.facts
  have HH := hid (HA.out W1 hB)
  clear hB DA DB
  go_wp2_with fail
  clear x0 x1 x2 xf0 xf1 xf2 y0 y1 y2 yf0 yf1 yf2
  refine (Calls.mono HH.out) ?_
  rintro r u1 ⟨rfl, hb⟩
  obtain ⟨hB, DA, DB⟩ := S0.out
  have hs1 := hb.size
  have S1 := (Aside.intro (And.intro (hB.trans (hb.mono (by omega))) (And.intro (DA.below hb) (DB.below hb))))
  clear hB DA DB hb HH S0
  obtain ⟨hB, DA, DB⟩ := S1.out
  obtain ⟨x0, x1, x2, xf0, xf1, xf2⟩ := DA.facts
  obtain ⟨y0, y1, y2, yf0, yf1, yf2⟩ := DB.facts
  have HH := hid (HB.out u1 hB)
  clear hB DA DB
  go_wp2_with fail
  clear x0 x1 x2 xf0 xf1 xf2 y0 y1 y2 yf0 yf1 yf2
  refine (Calls.mono HH.out) ?_
  rintro r u2 ⟨rfl, hb⟩
  obtain ⟨hB, DA, DB⟩ := S1.out
  have hs2 := hb.size
  have S2 := (Aside.intro (And.intro (hB.trans (hb.mono (by omega))) (And.intro (DA.below hb) (DB.below hb))))
  clear hB DA DB hb HH S1
  obtain ⟨hB, DA, DB⟩ := S2.out
  obtain ⟨x0, x1, x2, xf0, xf1, xf2⟩ := DA.facts
  obtain ⟨y0, y1, y2, yf0, yf1, yf2⟩ := DB.facts
  have HH := hid (HB.out u2 hB)
  clear hB DA DB
  go_wp2_with fail
  clear x0 x1 x2 xf0 xf1 xf2 y0 y1 y2 yf0 yf1 yf2
  refine (Calls.mono HH.out) ?_
  rintro r u3 ⟨rfl, hb⟩
  obtain ⟨hB, DA, DB⟩ := S2.out
  have hs3 := hb.size
  have S3 := (Aside.intro (And.intro (hB.trans (hb.mono (by omega))) (And.intro (DA.below hb) (DB.below hb))))
  clear hB DA DB hb HH S2
  obtain ⟨hB, DA, DB⟩ := S3.out
  obtain ⟨x0, x1, x2, xf0, xf1, xf2⟩ := DA.facts
  obtain ⟨y0, y1, y2, yf0, yf1, yf2⟩ := DB.facts
  have HH := hid (HC.out u3)
  clear hB DA DB
  go_wp2_with fail
  clear x0 x1 x2 xf0 xf1 xf2 y0 y1 y2 yf0 yf1 yf2
  refine (Calls.mono HH.out) ?_
  rintro r uu ⟨rfl, hw⟩
  rw [hw]
  clear hw uu HH
  go_wp2
  go_ret
  exact ⟨rfl, S3.out.1⟩

set_option maxHeartbeats 4000000 in
theorem cmp_alike {w : World} {a b : Option Addr} {n c m d : Nat} (ng mg : Bool) (e f : Int) (s z : Int) (hs0 : (s == 0) = false) (bs0 : -1 ≤ s) (bs1 : s ≤ 1) (bz0 : -1 ≤ z) (bz1 : z ≤ 1) (p : Int) (hp : IntKind.i64.wrap (s * z) = p)
    (HA : Hid (∀ u, Below w.heap.size w u → Calls Tryz.prog 59 #[.agg #[.bool ng, .slice a n c, .int .i64 e]] u fun r w' => r = .returned (.int .i64 s) ∧ Below u.heap.size u w'))
    (HB : Hid (∀ u, Below w.heap.size w u → Calls Tryz.prog 59 #[.agg #[.bool mg, .slice b m d, .int .i64 f]] u fun r w' => r = .returned (.int .i64 s) ∧ Below u.heap.size u w'))
    (HZ : Hid (∀ u, Below w.heap.size w u → Calls Tryz.prog 96 #[.agg #[.bool ng, .slice a n c, .int .i64 e], .agg #[.bool mg, .slice b m d, .int .i64 f]] u fun r w' => r = .returned (.int .i64 z) ∧ Below u.heap.size u w')) :
    Calls Tryz.prog 61 #[.agg #[.bool ng, .slice a n c, .int .i64 e], .agg #[.bool mg, .slice b m d, .int .i64 f]] w fun r w' => r = .returned (.int .i64 p) ∧ Below w.heap.size w w' := by
  obtain ⟨W1, hW1⟩ : ∃ W, W = (w.alloc (.cells #[.bool ng, .slice a n c, .int .i64 e] 27)).alloc (.cells #[.bool mg, .slice b m d, .int .i64 f] 27) := ⟨_, rfl⟩
  have hB : Below w.heap.size w W1 := by rw [hW1]; exact (below_alloc w _).alloc (by simp) _
  have hz : W1.heap.size = w.heap.size + 2 := by rw [hW1]; simp
  have DA : Dk W1 w.heap.size ng (.slice a n c) e := by rw [hW1]; exact (Dk.new w ng (.slice a n c) e).alloc _
  have DB : Dk W1 (w.heap.size + 1) mg (.slice b m d) f := by
    rw [hW1]
    have := Dk.new (w.alloc (.cells #[.bool ng, .slice a n c, .int .i64 e] 27)) mg (.slice b m d) f
    simpa using this
  have hs : w.heap.size ≤ W1.heap.size := by omega
  have S0 := (Aside.intro (And.intro hB (And.intro DA DB)))
  clear hz
  clear hB DA DB
  go_enter Tryz.func61, Tryz.ntmps61
  go_upto_region 1 with fail
  rw [← hW1]
  clear hW1
  obtain ⟨hB, DA, DB⟩ := S0.out
  obtain ⟨x0, x1, x2, xf0, xf1, xf2⟩ := DA.facts
  obtain ⟨y0, y1, y2, yf0, yf1, yf2⟩ := DB.facts
  have HH := hid (HA.out W1 hB)
  clear hB DA DB
  go_wp2_with fail
  clear x0 x1 x2 xf0 xf1 xf2 y0 y1 y2 yf0 yf1 yf2
  refine (Calls.mono HH.out) ?_
  rintro r u1 ⟨rfl, hb⟩
  obtain ⟨hB, DA, DB⟩ := S0.out
  have hs1 := hb.size
  have S1 := (Aside.intro (And.intro (hB.trans (hb.mono (by omega))) (And.intro (DA.below hb) (DB.below hb))))
  clear hB DA DB hb HH S0
  obtain ⟨hB, DA, DB⟩ := S1.out
  obtain ⟨x0, x1, x2, xf0, xf1, xf2⟩ := DA.facts
  obtain ⟨y0, y1, y2, yf0, yf1, yf2⟩ := DB.facts
  have HH := hid (HB.out u1 hB)
  clear hB DA DB
  go_wp2_with fail
  clear x0 x1 x2 xf0 xf1 xf2 y0 y1 y2 yf0 yf1 yf2
  refine (Calls.mono HH.out) ?_
  rintro r u2 ⟨rfl, hb⟩
  obtain ⟨hB, DA, DB⟩ := S1.out
  have hs2 := hb.size
  have S2 := (Aside.intro (And.intro (hB.trans (hb.mono (by omega))) (And.intro (DA.below hb) (DB.below hb))))
  clear hB DA DB hb HH S1
  obtain ⟨hB, DA, DB⟩ := S2.out
  obtain ⟨x0, x1, x2, xf0, xf1, xf2⟩ := DA.facts
  obtain ⟨y0, y1, y2, yf0, yf1, yf2⟩ := DB.facts
  have HH := hid (HZ.out u2 hB)
  clear hB DA DB
  go_wp2_with fail
  clear x0 x1 x2 xf0 xf1 xf2 y0 y1 y2 yf0 yf1 yf2
  refine (Calls.mono HH.out) ?_
  rintro r u3 ⟨rfl, hb⟩
  obtain ⟨hB, DA, DB⟩ := S2.out
  have hs3 := hb.size
  have S3 := (Aside.intro (And.intro (hB.trans (hb.mono (by omega))) (And.intro (DA.below hb) (DB.below hb))))
  clear hB DA DB hb HH S2
  go_wp2
  go_ret
  exact ⟨rfl, S3.out.1⟩

theorem u64_apart (e f : Int) (he0 : -9223372036854775808 ≤ e) (he1 : e ≤ 9223372036854775807) (hf0 : -9223372036854775808 ≤ f) (hf1 : f ≤ 9223372036854775807) (h : f ≤ e) : IntKind.u64.wrap (IntKind.u64.wrap e - IntKind.u64.wrap f) = (((e - f).toNat : Nat) : Int) := by
  rw [IntKind.wrap_u64, IntKind.wrap_u64, IntKind.wrap_u64]
  omega
theorem cmp_size (X Y dd : Nat) (hX : X ≠ 0) : (if bl Y < dd then 1 else if dd + bl X = bl Y then cmpI (X * 2 ^ dd) Y else cmpI (dd + bl X) (bl Y)) = cmpI (X * 2 ^ dd) Y := by
  have hb := bl_up X dd hX
  by_cases h1 : bl Y < dd
  · rw [if_pos h1, cmpI_bl (by omega), hb]
    unfold cmpI
    rw [if_neg (by omega), if_pos (by omega)]
  · rw [if_neg h1]
    by_cases h2 : dd + bl X = bl Y
    · rw [if_pos h2]
    · rw [if_neg h2, cmpI_bl (x := X * 2 ^ dd) (by omega), hb, Nat.add_comm]

theorem bl_arg {w : World} {a : Option Addr} {n c : Nat} {xs : List Nat} (h1 : Arg w a n c xs) : bl (val xs) ≤ 1125899906842624 := by
  have := val_lt xs h1.wf
  rw [← h1.len] at this
  have := bl_pw _ _ this
  have := h1.big
  omega
theorem cmpSizes_ge {w : World} {a b : Option Addr} {n c m d : Nat} {xs ys : List Nat} (h1 : Arg w a n c xs) (h2 : Arg w b m d ys) (ng mg : Bool) (e f : Int) (he0 : -9223372036854775808 ≤ e) (he1 : e ≤ 9223372036854775807) (hf0 : -9223372036854775808 ≤ f) (hf1 : f ≤ 9223372036854775807) (h : f ≤ e) (hX : val xs ≠ 0) :
    Calls Tryz.prog 96 #[.agg #[.bool ng, .slice a n c, .int .i64 e], .agg #[.bool mg, .slice b m d, .int .i64 f]] w fun r w' => r = .returned (.int .i64 (cmpP (val xs) e (val ys) f)) ∧ Below w.heap.size w w' := by
  have b1 := h1.big
  have b2 := h2.big
  have := cmpSizes_go (w := w) ng mg e f (bl (val xs)) (bl (val ys)) (e - f).toNat (cmpI (val xs * 2 ^ (e - f).toNat) (val ys)) (bl_arg h1) (bl_arg h2) (decide_eq_false (by omega)) (u64_apart e f he0 he1 hf0 hf1 h)
    (hid fun u hu => len_any xs a n c u.heap.size u h1.len h1.cap (by omega) h1.wf (h1.below hu).rd)
    (hid fun u hu => len_any ys b m d u.heap.size u h2.len h2.cap (by omega) h2.wf (h2.below hu).rd)
    (hid fun u hu hd => cmpFromTop_any (h1.below hu) (h2.below hu) (e - f).toNat (by omega))
  rw [cmp_size _ _ _ hX] at this
  unfold cmpP
  rw [if_neg (by omega)]
  exact this
theorem cmpSizes_any {w : World} {a b : Option Addr} {n c m d : Nat} {xs ys : List Nat} (h1 : Arg w a n c xs) (h2 : Arg w b m d ys) (ng mg : Bool) (e f : Int) (he0 : -9223372036854775808 ≤ e) (he1 : e ≤ 9223372036854775807) (hf0 : -9223372036854775808 ≤ f) (hf1 : f ≤ 9223372036854775807) (hX : val xs ≠ 0) (hY : val ys ≠ 0) :
    Calls Tryz.prog 96 #[.agg #[.bool ng, .slice a n c, .int .i64 e], .agg #[.bool mg, .slice b m d, .int .i64 f]] w fun r w' => r = .returned (.int .i64 (cmpP (val xs) e (val ys) f)) ∧ Below w.heap.size w w' := by
  by_cases h : e < f
  · have hr := cmpP_range (val ys) f (val xs) e
    have := cmpSizes_lt (w := w) ng mg e f (cmpP (val ys) f (val xs) e) h (by omega) (by omega) (hid fun u hu => cmpSizes_ge (h2.below hu) (h1.below hu) mg ng f e hf0 hf1 he0 he1 (by omega) hY)
    rw [cmpP_neg] at this
    exact this
  · exact cmpSizes_ge h1 h2 ng mg e f he0 he1 hf0 hf1 (by omega) hX

theorem sgn_range (n : Bool) (X : Nat) : sgn n X = -1 ∨ sgn n X = 0 ∨ sgn n X = 1 := by
  unfold sgn; split
  · exact .inr (.inl rfl)
  · split
    · exact .inl rfl
    · exact .inr (.inr rfl)
theorem sgn_zero3 {n : Bool} {X : Nat} : sgn n X = 0 ↔ X = 0 := by
  unfold sgn
  by_cases h : X = 0
  · simp [h]
  · rw [if_neg h]; cases n <;> simp [h]
theorem Cmp_any3 {w : World} {a b : Option Addr} {n c m d : Nat} {xs ys : List Nat} (h1 : Arg w a n c xs) (h2 : Arg w b m d ys) (ng mg : Bool) (e f : Int) (he0 : -9223372036854775808 ≤ e) (he1 : e ≤ 9223372036854775807) (hf0 : -9223372036854775808 ≤ f) (hf1 : f ≤ 9223372036854775807) :
    Calls Tryz.prog 61 #[.agg #[.bool ng, .slice a n c, .int .i64 e], .agg #[.bool mg, .slice b m d, .int .i64 f]] w fun r w' => r = .returned (.int .i64 (cmpV ng (val xs) e mg (val ys) f)) ∧ Below w.heap.size w w' := by
  have SA := hid fun u (hu : Below w.heap.size w u) => Sign_any3 (h1.below hu) ng e
  have SB := hid fun u (hu : Below w.heap.size w u) => Sign_any3 (h2.below hu) mg f
  have hA := sgn_range ng (val xs)
  have hB := sgn_range mg (val ys)
  by_cases h0 : sgn ng (val xs) = 0
  · have hX := sgn_zero3.1 h0
    have e1 : cmpV ng (val xs) e mg (val ys) f = cmpZ (sgn ng (val xs)) (sgn mg (val ys)) := by
      unfold cmpV cmpZ
      rw [if_pos hX]
    rw [e1]
    exact cmp_nought ng mg e f _ _ _ h0 SA SB (hid fun u => compare_z _ _ u)
  · have h0' : (sgn ng (val xs) == 0) = false := by simpa using h0
    by_cases hst : sgn ng (val xs) = sgn mg (val ys)
    · have hX : val xs ≠ 0 := fun h => h0 (sgn_zero3.2 h)
      have hY : val ys ≠ 0 := fun h => h0 (by rw [hst]; exact sgn_zero3.2 h)
      have hz := cmpP_range (val xs) e (val ys) f
      have e1 : cmpV ng (val xs) e mg (val ys) f = sgn ng (val xs) * cmpP (val xs) e (val ys) f := by
        unfold cmpV
        rw [hst, if_neg (by omega), if_neg (by omega), if_neg hX, ← hst]
        unfold sgn
        rw [if_neg hX]
        cases ng
        · simp
        · simp only [if_true]
          rw [Int.neg_one_mul, cmpP_neg]
      rw [e1]
      rw [← hst] at SB
      refine cmp_alike ng mg e f (sgn ng (val xs)) (cmpP (val xs) e (val ys) f) h0' (by omega) (by omega) (by omega) (by omega) _ ?_ SA SB (hid fun u hu => cmpSizes_any (h1.below hu) (h2.below hu) ng mg e f he0 he1 hf0 hf1 hX hY)
      rcases hA with h | h | h <;> rcases hz with k | k | k <;> rw [h, k] <;> rfl
    · have e1 : cmpV ng (val xs) e mg (val ys) f = cmpZ (sgn ng (val xs)) (sgn mg (val ys)) := by
        unfold cmpV cmpZ
        by_cases k : sgn ng (val xs) < sgn mg (val ys)
        · rw [if_pos k, if_pos k]
        · rw [if_neg k, if_neg k, if_pos (by omega), if_pos (by omega)]
      rw [e1]
      exact cmp_apart ng mg e f _ _ _ h0' (by simpa using hst) SA SB (hid fun u => compare_z _ _ u)
end Go.Proofs.YtdimlelcgapobaaGreatDoor

/- root's forms: of one Ratio, of two. -/
namespace Go.Proofs.YtdimlelcgapobaaGreatDoor
open Go.RowKit
set_option linter.unusedVariables false
set_option maxRecDepth 20000
set_option linter.unusedSimpArgs false

theorem infoR : (Tryz.prog.info? 30).map (fun i => (i.zero, i.size, i.bytes)) = some (some (.agg #[.bool false, .slice none 0 0, .int .i64 0, .bool false, .slice none 0 0, .int .i64 0]), 6, 80) := by kernel_rfl
theorem make_ratios1 (w : World) :
    (Instr.makeSlice 45 (.int .i64 1) (.int .i64 1)).run Tryz.prog w = .ok (.slice (some ⟨w.heap.size, 0, none⟩) 1 1) (w.alloc (.cells #[.bool false, .slice none 0 0, .int .i64 0, .bool false, .slice none 0 0, .int .i64 0] 30)) := by
  have h := infoR
  have e : IntKind.i64.wrap 1 = 1 := by decide
  cases hq : Tryz.prog.info? 30 with
  | none => rw [hq] at h; simp at h
  | some i =>
    rw [hq] at h
    simp at h
    simp [Instr.makeSlice, go_sem, Tryz.underlying45, hq, h, typeInfo, e]
theorem make_ratios2 (w : World) :
    (Instr.makeSlice 45 (.int .i64 2) (.int .i64 2)).run Tryz.prog w = .ok (.slice (some ⟨w.heap.size, 0, none⟩) 2 2) (w.alloc (.cells #[.bool false, .slice none 0 0, .int .i64 0, .bool false, .slice none 0 0, .int .i64 0, .bool false, .slice none 0 0, .int .i64 0, .bool false, .slice none 0 0, .int .i64 0] 30)) := by
  have h := infoR
  have e : IntKind.i64.wrap 2 = 2 := by decide
  cases hq : Tryz.prog.info? 30 with
  | none => rw [hq] at h; simp at h
  | some i =>
    rw [hq] at h
    simp at h
    simp [Instr.makeSlice, go_sem, Tryz.underlying45, hq, h, typeInfo, e]

structure Ri where
  n : Bool
  v : Value
  X : Nat
  e : Int
  m : Bool
  u : Value
  Y : Nat
  f : Int
def Av (w : World) (v : Value) (X : Nat) : Prop := ∃ a l c xs, v = .slice a l c ∧ Arg w a l c xs ∧ val xs = X
theorem Av.below {w w' : World} {v : Value} {X : Nat} (h : Av w v X) (hb : Below w.heap.size w w') : Av w' v X := by
  obtain ⟨a, l, c, xs, rfl, hA, hv⟩ := h
  exact ⟨a, l, c, xs, rfl, hA.below hb, hv⟩
theorem Nt.av {lo : Nat} {w : World} {v : Value} {X : Nat} (h : Nt lo w v X) (hs : (ws X).length ≤ 35184372088832) : Av w v X := by
  obtain ⟨a, c, rfl, hA⟩ := h.arg hs
  exact ⟨a, _, c, _, rfl, hA, val_ws X⟩
def Row6 (w : World) (g k : Nat) (I : Nat → Ri) : Prop := ∃ cur : Array Value, w.heap[g]? = some (.cells cur 30 (0, 0)) ∧ ∀ i, i < k → cur[i * 6]? = some (.bool (I i).n) ∧ cur[i * 6 + 1]? = some (I i).v ∧ cur[i * 6 + 2]? = some (.int .i64 (I i).e) ∧ cur[i * 6 + 3]? = some (.bool (I i).m) ∧ cur[i * 6 + 4]? = some (I i).u ∧ cur[i * 6 + 5]? = some (.int .i64 (I i).f)
theorem Row6.lt {w : World} {g k : Nat} {I : Nat → Ri} (h : Row6 w g k I) : g < w.heap.size := by obtain ⟨c, h, _⟩ := h; exact (Array.getElem?_eq_some_iff.1 h).1
theorem Row6.below {w w' : World} {g k : Nat} {I : Nat → Ri} (h : Row6 w g k I) (hb : Below w.heap.size w w') : Row6 w' g k I := by
  have hl := h.lt
  obtain ⟨c, h, r⟩ := h
  exact ⟨c, by rw [hb.block g hl]; exact h, r⟩
theorem Row6.but {w w' : World} {g g' k : Nat} {I : Nat → Ri} (h : Row6 w g k I) (hb : But g' w w') (hg : g ≠ g') : Row6 w' g k I := by
  have hl := h.lt
  obtain ⟨c, h, r⟩ := h
  exact ⟨c, by rw [hb.block g hl hg]; exact h, r⟩
theorem Row6.facts {w : World} {g k : Nat} {I : Nat → Ri} (h : Row6 w g k I) (i : Nat) (hi : i < k) :
    w.cell? ⟨g, i * 6, none⟩ = some (.bool (I i).n) ∧ w.cell? ⟨g, i * 6 + 1, none⟩ = some (I i).v ∧ w.cell? ⟨g, i * 6 + 2, none⟩ = some (.int .i64 (I i).e) ∧ w.cell? ⟨g, i * 6 + 3, none⟩ = some (.bool (I i).m) ∧ w.cell? ⟨g, i * 6 + 4, none⟩ = some (I i).u ∧ w.cell? ⟨g, i * 6 + 5, none⟩ = some (.int .i64 (I i).f) := by
  obtain ⟨c, h, r⟩ := h
  obtain ⟨r0, r1, r2, r3, r4, r5⟩ := r i hi
  simp [World.cell?, h, r0, r1, r2, r3, r4, r5]
def errL (I : Nat → Ri) (k : Nat) : Int :=
  if (List.range k).any (fun i => decide (sgn (I i).m (I i).Y < 0)) then 1
  else if (List.range k).any (fun i => !((mkS (I i).n (I i).X (I i).e).isSome && (mkS (I i).m (I i).Y (I i).f).isSome)) then 2
  else if (List.range k).any (fun i => decide (dX (mkS (I i).m (I i).Y (I i).f) = 0)) then 21 else 0
theorem any_of {k i : Nat} {p : Nat → Bool} (hi : i < k) (h : p i = true) : (List.range k).any p = true := List.any_eq_true.2 ⟨i, List.mem_range.2 hi, h⟩
theorem any_no {k : Nat} {p : Nat → Bool} (h : ∀ i, i < k → p i = false) : (List.range k).any p = false := by
  rw [List.any_eq_false]; intro i hi; rw [h i (List.mem_range.1 hi)]; simp

structure RIn (w : World) (g k : Nat) (I : Nat → Ri) : Prop where
  row : Row6 w g k I
  one : ∀ i, i < k → Av w (I i).v (I i).X ∧ Av w (I i).u (I i).Y
  rng : ∀ i, i < k → -9223372036854775808 ≤ (I i).e ∧ (I i).e ≤ 9223372036854775807 ∧ -9223372036854775808 ≤ (I i).f ∧ (I i).f ≤ 9223372036854775807
  tab : Tab w
theorem RIn.below {w w' : World} {g k : Nat} {I : Nat → Ri} (h : RIn w g k I) (hb : Below w.heap.size w w') : RIn w' g k I :=
  ⟨h.row.below hb, fun i hi => ⟨(h.one i hi).1.below hb, (h.one i hi).2.below hb⟩, h.rng, h.tab.belows hb⟩
def frmI (I : Nat → Ri) (V : Nat → Value × Value) (i : Nat) : Ri :=
  ⟨dN (mkS (I i).n (I i).X (I i).e), (V i).1, dX (mkS (I i).n (I i).X (I i).e), dE (mkS (I i).n (I i).X (I i).e), dN (mkS (I i).m (I i).Y (I i).f), (V i).2, dX (mkS (I i).m (I i).Y (I i).f), dE (mkS (I i).m (I i).Y (I i).f)⟩
structure ROut (lo : Nat) (w : World) (g k : Nat) (I : Nat → Ri) (V : Nat → Value × Value) : Prop where
  row : Row6 w g k (frmI I V)
  own : lo ≤ g
  nts : ∀ i, i < k → Nt lo w (V i).1 (dX (mkS (I i).n (I i).X (I i).e)) ∧ Nt lo w (V i).2 (dX (mkS (I i).m (I i).Y (I i).f))
theorem ROut.below {lo : Nat} {w w' : World} {g k : Nat} {I : Nat → Ri} {V : Nat → Value × Value} (h : ROut lo w g k I V) (hb : Below w.heap.size w w') : ROut lo w' g k I V :=
  ⟨h.row.below hb, h.own, fun i hi => ⟨(h.nts i hi).1.below hb, (h.nts i hi).2.below hb⟩⟩

abbrev st6o (w : World) (g o : Nat) (a b c d e f : Value) : World := (((((w.setCell ⟨g, o, none⟩ a).setCell ⟨g, o + 1, none⟩ b).setCell ⟨g, o + 2, none⟩ c).setCell ⟨g, o + 3, none⟩ d).setCell ⟨g, o + 4, none⟩ e).setCell ⟨g, o + 5, none⟩ f
theorem st6o_but (g o : Nat) (w : World) (a b c d e f : Value) : But g w (st6o w g o a b c d e f) := ((((((But.refl g w).set _ _).set _ _).set _ _).set _ _).set _ _).set _ _
theorem setc {w : World} {g T : Nat} {cur : Array Value} {fz : Nat × Nat} (h : w.heap[g]? = some (.cells cur T fz)) (o : Nat) (v : Value) : (w.setCell ⟨g, o, none⟩ v).heap[g]? = some (.cells (cur.setIfInBounds o v) T fz) := by
  simp [World.setCell, Array.getElem?_modify, h]
theorem st6o_cells {w : World} {g T : Nat} {cur : Array Value} {fz : Nat × Nat} (h : w.heap[g]? = some (.cells cur T fz)) (o : Nat) (a b c d e f : Value) (ho : o + 5 < cur.size) :
    ∃ cur', (st6o w g o a b c d e f).heap[g]? = some (.cells cur' T fz) ∧ cur'.size = cur.size ∧ (cur'[o]? = some a ∧ cur'[o + 1]? = some b ∧ cur'[o + 2]? = some c ∧ cur'[o + 3]? = some d ∧ cur'[o + 4]? = some e ∧ cur'[o + 5]? = some f) ∧ ∀ j, (j < o ∨ o + 5 < j) → cur'[j]? = cur[j]? := by
  refine ⟨_, setc (setc (setc (setc (setc (setc h o a) (o + 1) b) (o + 2) c) (o + 3) d) (o + 4) e) (o + 5) f, by simp, ?_, ?_⟩
  · simp [Array.getElem?_setIfInBounds]
    omega
  · intro j hj
    have n0 : o ≠ j := by omega
    have n1 : o + 1 ≠ j := by omega
    have n2 : o + 2 ≠ j := by omega
    have n3 : o + 3 ≠ j := by omega
    have n4 : o + 4 ≠ j := by omega
    have n5 : o + 5 ≠ j := by omega
    simp [Array.getElem?_setIfInBounds, n0, n1, n2, n3, n4, n5]
structure RPart (lo : Nat) (w : World) (g k i : Nat) (I : Nat → Ri) (V : Nat → Value × Value) : Prop where
  row : ∃ cur : Array Value, w.heap[g]? = some (.cells cur 30 (0, 0)) ∧ cur.size = 6 * k ∧ ∀ j, j < i → cur[j * 6]? = some (.bool (frmI I V j).n) ∧ cur[j * 6 + 1]? = some (frmI I V j).v ∧ cur[j * 6 + 2]? = some (.int .i64 (frmI I V j).e) ∧ cur[j * 6 + 3]? = some (.bool (frmI I V j).m) ∧ cur[j * 6 + 4]? = some (frmI I V j).u ∧ cur[j * 6 + 5]? = some (.int .i64 (frmI I V j).f)
  own : lo ≤ g
  nts : ∀ j, j < i → Nt lo w (V j).1 (dX (mkS (I j).n (I j).X (I j).e)) ∧ Nt lo w (V j).2 (dX (mkS (I j).m (I j).Y (I j).f))
theorem RPart.lt {lo : Nat} {w : World} {g k i : Nat} {I : Nat → Ri} {V : Nat → Value × Value} (h : RPart lo w g k i I V) : g < w.heap.size := by obtain ⟨c, h, _⟩ := h.row; exact (Array.getElem?_eq_some_iff.1 h).1
theorem RPart.below {lo : Nat} {w w' : World} {g k i : Nat} {I : Nat → Ri} {V : Nat → Value × Value} (h : RPart lo w g k i I V) (hb : Below w.heap.size w w') : RPart lo w' g k i I V := by
  have hl := h.lt
  obtain ⟨⟨c, h1, r⟩, h2, h3⟩ := h
  exact ⟨⟨c, by rw [hb.block g hl]; exact h1, r⟩, h2, fun j hj => ⟨(h3 j hj).1.below hb, (h3 j hj).2.below hb⟩⟩
theorem RPart.room {lo : Nat} {w : World} {g k i : Nat} {I : Nat → Ri} {V : Nat → Value × Value} (h : RPart lo w g k i I V) (j : Nat) (hj : j < 6 * k) : (∃ v, w.cell? ⟨g, j, none⟩ = some v) ∧ w.frozen? ⟨g, j, none⟩ = false := by
  obtain ⟨⟨c, h1, hs, r⟩, h2, h3⟩ := h
  refine ⟨⟨c[j]'(by omega), ?_⟩, ?_⟩
  · simp [World.cell?, h1]
  · simp [World.frozen?, h1]
theorem RPart.out {lo : Nat} {w : World} {g k : Nat} {I : Nat → Ri} {V : Nat → Value × Value} (h : RPart lo w g k k I V) : ROut lo w g k I V := by
  obtain ⟨⟨c, h1, hs, r⟩, h2, h3⟩ := h
  exact ⟨⟨c, h1, r⟩, h2, h3⟩
theorem RPart.step {lo : Nat} {w : World} {g k i : Nat} {I : Nat → Ri} {V : Nat → Value × Value} (h : RPart lo w g k i I V) (hi : i < k) (v u : Value)
    (hv : Nt lo w v (dX (mkS (I i).n (I i).X (I i).e))) (hu : Nt lo w u (dX (mkS (I i).m (I i).Y (I i).f))) :
    ∃ V', RPart lo (st6o w g (i * 6) (.bool (dN (mkS (I i).n (I i).X (I i).e))) v (.int .i64 (dE (mkS (I i).n (I i).X (I i).e))) (.bool (dN (mkS (I i).m (I i).Y (I i).f))) u (.int .i64 (dE (mkS (I i).m (I i).Y (I i).f)))) g k (i + 1) I V' := by
  obtain ⟨⟨c, h1, hs, r⟩, h2, h3⟩ := h
  obtain ⟨c', k1, k2, k3, k4⟩ := st6o_cells h1 (i * 6) (.bool (dN (mkS (I i).n (I i).X (I i).e))) v (.int .i64 (dE (mkS (I i).n (I i).X (I i).e))) (.bool (dN (mkS (I i).m (I i).Y (I i).f))) u (.int .i64 (dE (mkS (I i).m (I i).Y (I i).f))) (by omega)
  refine ⟨fun j => if j = i then (v, u) else V j, ⟨c', k1, by omega, fun j hj => ?_⟩, h2, fun j hj => ?_⟩
  · by_cases e : j = i
    · subst e
      simp only [frmI, if_true]
      exact k3
    · have := r j (by omega)
      rw [k4 _ (by omega), k4 _ (by omega), k4 _ (by omega), k4 _ (by omega), k4 _ (by omega), k4 _ (by omega)]
      simp only [frmI, if_neg e] at this ⊢
      exact this
  · by_cases e : j = i
    · subst e
      simp only [if_true]
      exact ⟨hv.off (st6o_but _ _ _ _ _ _ _ _ _) (hv.notin (by decide) h1), hu.off (st6o_but _ _ _ _ _ _ _ _ _) (hu.notin (by decide) h1)⟩
    · simp only [if_neg e]
      obtain ⟨q1, q2⟩ := h3 j (by omega)
      exact ⟨q1.off (st6o_but _ _ _ _ _ _ _ _ _) (q1.notin (by decide) h1), q2.off (st6o_but _ _ _ _ _ _ _ _ _) (q2.notin (by decide) h1)⟩

theorem sgnD {w : World} {n : Bool} {v : Value} {X : Nat} {e : Int} (h : Av w v X) : Calls Tryz.prog 59 #[.agg #[.bool n, v, .int .i64 e]] w fun r w' => r = .returned (.int .i64 (sgn n X)) ∧ Below w.heap.size w w' := by
  obtain ⟨a, l, c, xs, rfl, hA, rfl⟩ := h
  exact Sign_any3 hA n e
theorem formD {w : World} {r : Ri} (h1 : Av w r.v r.X) (h2 : Av w r.u r.Y) (hT : Tab w) (b0 : -9223372036854775808 ≤ r.e) (b1 : r.e ≤ 9223372036854775807) (b2 : -9223372036854775808 ≤ r.f) (b3 : r.f ≤ 9223372036854775807) :
    Calls Tryz.prog 93 #[.agg #[.bool r.n, r.v, .int .i64 r.e, .bool r.m, r.u, .int .i64 r.f]] w fun q w' =>
      (((mkS r.n r.X r.e).isSome && (mkS r.m r.Y r.f).isSome) = true → ∃ v u, q = .returned (.tuple #[.agg #[.bool (dN (mkS r.n r.X r.e)), v, .int .i64 (dE (mkS r.n r.X r.e)), .bool (dN (mkS r.m r.Y r.f)), u, .int .i64 (dE (mkS r.m r.Y r.f))], .int .i64 0]) ∧ Nt w.heap.size w' v (dX (mkS r.n r.X r.e)) ∧ Nt w.heap.size w' u (dX (mkS r.m r.Y r.f)) ∧ Ap v u) ∧
      (((mkS r.n r.X r.e).isSome && (mkS r.m r.Y r.f).isSome) = false → q = .returned (.tuple #[.agg #[.bool false, .slice none 0 0, .int .i64 0, .bool false, .slice none 0 0, .int .i64 0], .int .i64 2])) ∧ Below w.heap.size w w' := by
  obtain ⟨n, v, X, e, m, u, Y, f⟩ := r
  simp only at *
  obtain ⟨a, l, c, xs, rfl, hA, rfl⟩ := h1
  obtain ⟨b, k, d, ys, rfl, hB, rfl⟩ := h2
  have l1 := mkS_len n (val xs) e
  have l2 := mkS_len m (val ys) f
  have H1 : ∀ u, Below w.heap.size w u → Calls Tryz.prog 110 #[.bool n, .slice a l c, .int .i64 e] u fun r w' => DAns u.heap.size w' r (mkS n (val xs) e) ∧ Below u.heap.size u w' := fun u hu => Make_any (hA.below hu) (hT.belows hu) n e b0 b1
  have H2 : ∀ u, Below w.heap.size w u → Calls Tryz.prog 110 #[.bool m, .slice b k d, .int .i64 f] u fun r w' => DAns u.heap.size w' r (mkS m (val ys) f) ∧ Below u.heap.size u w' := fun u hu => Make_any (hB.below hu) (hT.belows hu) m f b2 b3
  simp only [DAns] at H1 H2
  generalize mkS n (val xs) e = o at *
  generalize mkS m (val ys) f = p at *
  cases ho : o.isSome with
  | false =>
    have he : erS o = 2 := by unfold erS; rw [ho]; rfl
    rw [he] at H1
    refine (form_bad1 n m e f (dN o) false (dX o) 0 (dE o) 0 l1 (by rw [ws0]; omega) H1).mono ?_
    rintro r w' ⟨⟨v, u, h, rfl, rfl⟩, hb⟩
    exact ⟨fun hh => (by cases hh), fun _ => h, hb⟩
  | true =>
    have he : erS o = 0 := by unfold erS; rw [ho]; rfl
    rw [he] at H1
    cases hp : p.isSome with
    | false =>
      have he : erS p = 2 := by unfold erS; rw [hp]; rfl
      rw [he] at H2
      refine (form_bad2 n m e f (dN o) (dN p) (dX o) (dX p) (dE o) (dE p) l1 l2 H1 H2).mono ?_
      rintro r w' ⟨⟨v, u, h, rfl, rfl⟩, hb⟩
      exact ⟨fun hh => (by cases hh), fun _ => h, hb⟩
    | true =>
      have he : erS p = 0 := by unfold erS; rw [hp]; rfl
      rw [he] at H2
      refine (form_ok n m e f (dN o) (dN p) (dX o) (dX p) (dE o) (dE p) l1 l2 H1 H2).mono ?_
      rintro r w' ⟨⟨v, u, h, hN, hM, hap⟩, hb⟩
      exact ⟨fun _ => ⟨v, u, h, hN, hM, hap⟩, fun hh => (by cases hh), hb⟩

set_option maxHeartbeats 8000000 in
theorem forms1 (w : World) (g : Nat) (I : Nat → Ri) (h : RIn w g 1 I) :
    Calls Tryz.prog 57 #[.slice (some ⟨g, 0, none⟩) 1 1] w fun r w' =>
      ((errL I 1 ≠ 0 ∧ r = .returned (.tuple #[.slice none 0 0, .int .i64 (errL I 1)])) ∨
       (errL I 1 = 0 ∧ ∃ g' V, r = .returned (.tuple #[.slice (some ⟨g', 0, none⟩) 1 1, .int .i64 0]) ∧ ROut w.heap.size w' g' 1 I V)) ∧ Below w.heap.size w w' := by
  have MK := make_ratios1
  have hH := Aside.intro h
  clear h
  go_enter Tryz.func57, Tryz.ntmps57
  go_wp2_with fail
  go_loopg [15] 1 (fun gk iv wr => ∃ i : Nat, gk + i = 1 ∧ iv = .int .i64 (i : Nat) ∧ Aside (Below w.heap.size w wr ∧ ∀ j, j < i → decide (sgn (I j).m (I j).Y < 0) = false))
  case atStart => exact ⟨0, by omega, rfl, Below.refl _ _, fun j hj => by omega⟩
  case round =>
    obtain ⟨i, hgi, rfl, HR⟩ := hrel
    by_cases hi : i < 1
    · have hin := hH.out.below HR.out.1
      obtain ⟨g0, g1, g2, g3, g4, g5⟩ := hin.row.facts i hi
      obtain ⟨A1, A2⟩ := hin.one i hi
      obtain ⟨n, v, X, e, m, u, Y, f, hI⟩ : ∃ n v X e m u Y f, I i = ⟨n, v, X, e, m, u, Y, f⟩ := ⟨_, _, _, _, _, _, _, _, rfl⟩
      rw [hI] at g0 g1 g2 g3 g4 g5 A1 A2
      simp only at g0 g1 g2 g3 g4 g5 A1 A2
      obtain ⟨a1, l1, c1, xs, rfl, -, -⟩ := id A1
      obtain ⟨a2, l2, c2, ys, rfl, -, -⟩ := id A2
      obtain ⟨U, hU⟩ : ∃ U, U = wr.alloc (.cells #[.bool n, .slice a1 l1 c1, .int .i64 e, .bool m, .slice a2 l2 c2, .int .i64 f] 30) := ⟨_, rfl⟩
      have hbU : Below wr.heap.size wr U := by rw [hU]; exact below_alloc _ _
      have RQ : Rq U wr.heap.size n (.slice a1 l1 c1) e m (.slice a2 l2 c2) f := by rw [hU]; exact Rq.new _ _ _ _ _ _ _
      obtain ⟨x0, x1, x2, x3, x4, x5⟩ := RQ.facts
      have HC := hid (sgnD (n := m) (e := f) (A2.below hbU))
      obtain ⟨s, hs⟩ : ∃ s, sgn m Y = s := ⟨_, rfl⟩
      rw [hs] at HC
      have SI := (Aside.intro (And.intro (HR.out.1.trans (hbU.mono HR.out.1.size)) (And.intro HR.out.2 (And.intro hI (And.intro hs hi)))))
      clear hbU RQ A1 A2 hin HR hI hs
      have hli : (i : Int) < 1 := by omega
      have hl0 : (0 : Int) ≤ (i : Int) := by omega
      go_upto_region 4 with fail
      rw [← hU]
      clear hU g0 g1 g2 g3 g4 g5
      go_wp2_with fail
      clear x0 x1 x2 x3 x4 x5
      refine (Calls.mono HC.out) ?_
      rintro r u1 ⟨rfl, hb⟩
      have S2 := Aside.intro (SI.out.1.trans (hb.mono SI.out.1.size))
      clear hb HC
      by_cases hneg : s < 0
      · have hn := decide_eq_true hneg
        go_wp2_with fail
        go_ret2
        obtain ⟨_, hbef, hI, hs, hi⟩ := SI.out
        have hE : errL I 1 = 1 := by
          unfold errL
          rw [if_pos (any_of hi (by rw [hI]; simp only; rw [hs]; exact decide_eq_true hneg))]
        rw [hE]
        exact ⟨.inl ⟨by decide, rfl⟩, S2.out⟩
      · have hn : decide (s < 0) = false := decide_eq_false (by omega)
        go_wp2_with fail
        go_roundg (1 - (i + 1))
        case measure => omega
        case rel =>
          obtain ⟨_, hbef, hI, hs, hi⟩ := SI.out
          refine ⟨i + 1, by omega, by go_num, S2.out, fun j hj => ?_⟩
          by_cases hji : j = i
          · subst hji; rw [hI]; simp only; rw [hs]; exact decide_eq_false (by omega)
          · exact hbef j (by omega)
    · obtain rfl : i = 1 := by omega
      obtain ⟨M, hM⟩ : ∃ M, M = wr.alloc (.cells #[.bool false, .slice none 0 0, .int .i64 0, .bool false, .slice none 0 0, .int .i64 0] 30) := ⟨_, rfl⟩
      have hbM : Below wr.heap.size wr M := by rw [hM]; exact below_alloc _ _
      have hpM : RPart w.heap.size M wr.heap.size 1 0 I (fun _ => (.slice none 0 0, .slice none 0 0)) := by
        rw [hM]
        exact ⟨⟨_, heap_alloc_new _ _, rfl, fun j hj => by omega⟩, HR.out.1.size, fun j hj => by omega⟩
      have S1 := (Aside.intro (And.intro HR.out.2 (And.intro hpM (HR.out.1.trans (hbM.mono HR.out.1.size)))))
      obtain ⟨gO, hgO⟩ : ∃ gO, gO = wr.heap.size := ⟨_, rfl⟩
      clear HR hbM hpM hi hgi
      go_upto_region 9 with fail
      rw [← hM]
      rw [← hgO] at S1 ⊢
      clear hM hgO
      go_loopg [29] 1 (fun gk iv wr => ∃ i : Nat, gk + i = 1 ∧ iv = .int .i64 (i : Nat) ∧ Aside (Below w.heap.size w wr ∧ (∀ j, j < i → ((mkS (I j).n (I j).X (I j).e).isSome && (mkS (I j).m (I j).Y (I j).f).isSome) = true) ∧ ∃ V, RPart w.heap.size wr gO 1 i I V))
      case atStart => exact ⟨0, by omega, rfl, S1.out.2.2, fun j hj => by omega, _, S1.out.2.1⟩
      case round =>
        obtain ⟨i, hgi, rfl, HR⟩ := hrel
        have SS := Aside.intro S1.out.1
        clear S1
        by_cases hi : i < 1
        · obtain ⟨bel, hbef, V, hP⟩ := HR.out
          have hin := hH.out.below bel
          obtain ⟨g0, g1, g2, g3, g4, g5⟩ := hin.row.facts i hi
          obtain ⟨A1, A2⟩ := hin.one i hi
          obtain ⟨b0, b1, b2, b3⟩ := hin.rng i hi
          have hFD := fun (u : World) (hb : Below wr.heap.size wr u) => formD (r := I i) (A1.below hb) (A2.below hb) ((hin.below hb).tab) b0 b1 b2 b3
          obtain ⟨n, v, X, e, m, u, Y, f, hI⟩ : ∃ n v X e m u Y f, I i = ⟨n, v, X, e, m, u, Y, f⟩ := ⟨_, _, _, _, _, _, _, _, rfl⟩
          rw [hI] at g0 g1 g2 g3 g4 g5 A1 A2 hFD
          simp only at g0 g1 g2 g3 g4 g5 A1 A2 hFD
          obtain ⟨a1, l1, c1, xs, rfl, -, -⟩ := id A1
          obtain ⟨a2, l2, c2, ys, rfl, -, -⟩ := id A2
          obtain ⟨U, hU⟩ : ∃ U, U = wr.alloc (.cells #[.bool n, .slice a1 l1 c1, .int .i64 e, .bool m, .slice a2 l2 c2, .int .i64 f] 30) := ⟨_, rfl⟩
          have hbU : Below wr.heap.size wr U := by rw [hU]; exact below_alloc _ _
          have RQ : Rq U wr.heap.size n (.slice a1 l1 c1) e m (.slice a2 l2 c2) f := by rw [hU]; exact Rq.new _ _ _ _ _ _ _
          obtain ⟨x0, x1, x2, x3, x4, x5⟩ := RQ.facts
          have HC := hid (hFD U hbU)
          have lo1 := mkS_len n X e
          have lo2 := mkS_len m Y f
          obtain ⟨o, ho⟩ : ∃ o, mkS n X e = o := ⟨_, rfl⟩
          obtain ⟨p, hp⟩ : ∃ p, mkS m Y f = p := ⟨_, rfl⟩
          rw [ho, hp] at HC
          rw [ho] at lo1
          rw [hp] at lo2
          have SI := (Aside.intro (And.intro (bel.trans (hbU.mono bel.size)) (And.intro hbef (And.intro hI (And.intro ho (And.intro hp (And.intro hi (hP.below hbU))))))))
          clear hbU RQ A1 A2 hin HR hI ho hp bel hbef hP hFD b0 b1 b2 b3
          have hli : (i : Int) < 1 := by omega
          have hl0 : (0 : Int) ≤ (i : Int) := by omega
          go_upto_region 11 with fail
          rw [← hU]
          clear hU g0 g1 g2 g3 g4 g5
          go_wp2_with fail
          clear x0 x1 x2 x3 x4 x5
          refine (Calls.mono HC.out) ?_
          rintro r u1 ⟨h1, h2, hb⟩
          clear HC
          cases hok : (o.isSome && p.isSome) with
          | false =>
            obtain rfl := h2 hok
            have S2 := Aside.intro (SI.out.1.trans (hb.mono SI.out.1.size))
            clear h1 h2 hb
            go_wp2_with fail
            go_ret2
            obtain ⟨_, hbef, hI, ho, hp, hi, _⟩ := SI.out
            have hE : errL I 1 = 2 := by
              unfold errL
              rw [any_no (p := fun i => decide (sgn (I i).m (I i).Y < 0)) SS.out, if_neg Bool.false_ne_true, if_pos (any_of hi (by rw [hI]; simp only; rw [ho, hp, hok]; rfl))]
            rw [hE]
            exact ⟨.inl ⟨by decide, rfl⟩, S2.out.alloc S2.out.size _⟩
          | true =>
            obtain ⟨v1, v2, rfl, hN, hM2, -⟩ := h1 hok
            obtain ⟨p1, q1, rfl, _⟩ := hN.arg (by omega)
            obtain ⟨p2, q2, rfl, _⟩ := hM2.arg (by omega)
            obtain ⟨U2, hU2⟩ : ∃ U, U = u1.alloc (.cells #[.bool (dN o), .slice p1 (ws (dX o)).length q1, .int .i64 (dE o), .bool (dN p), .slice p2 (ws (dX p)).length q2, .int .i64 (dE p)] 30) := ⟨_, rfl⟩
            have hbU : Below u1.heap.size u1 U2 := by rw [hU2]; exact below_alloc _ _
            have RQ : Rq U2 u1.heap.size (dN o) (.slice p1 (ws (dX o)).length q1) (dE o) (dN p) (.slice p2 (ws (dX p)).length q2) (dE p) := by rw [hU2]; exact Rq.new _ _ _ _ _ _ _
            obtain ⟨x0, x1, x2, x3, x4, x5⟩ := RQ.facts
            have hP2 := (SI.out.2.2.2.2.2.2.below hb).below hbU
            have hb2 := (SI.out.1.trans (hb.mono SI.out.1.size)).trans (hbU.mono (Nat.le_trans SI.out.1.size hb.size))
            obtain ⟨⟨y0, r0⟩, f0⟩ := hP2.room (i * 6) (by omega)
            obtain ⟨⟨y1, r1⟩, f1⟩ := hP2.room (i * 6 + 1) (by omega)
            obtain ⟨⟨y2, r2⟩, f2⟩ := hP2.room (i * 6 + 2) (by omega)
            obtain ⟨⟨y3, r3⟩, f3⟩ := hP2.room (i * 6 + 3) (by omega)
            obtain ⟨⟨y4, r4⟩, f4⟩ := hP2.room (i * 6 + 4) (by omega)
            obtain ⟨⟨y5, r5⟩, f5⟩ := hP2.room (i * 6 + 5) (by omega)
            obtain ⟨W', hW'⟩ : ∃ W', W' = st6o U2 gO (i * 6) (.bool (dN o)) (.slice p1 (ws (dX o)).length q1) (.int .i64 (dE o)) (.bool (dN p)) (.slice p2 (ws (dX p)).length q2) (.int .i64 (dE p)) := ⟨_, rfl⟩
            have S3 : Aside (Below w.heap.size w W' ∧ (∀ j, j < i + 1 → ((mkS (I j).n (I j).X (I j).e).isSome && (mkS (I j).m (I j).Y (I j).f).isSome) = true) ∧ ∃ V, RPart w.heap.size W' gO 1 (i + 1) I V) := by
              obtain ⟨_, hbef, hI, ho, hp, hi, _⟩ := SI.out
              refine ⟨?_, ?_, ?_⟩
              · rw [hW']; exact But.below hb2 (st6o_but _ _ _ _ _ _ _ _ _) hb2.size hP2.own
              · intro j hj
                by_cases e : j = i
                · subst e; rw [hI]; simp only; rw [ho, hp, hok]
                · exact hbef j (by omega)
              · have hsz := SI.out.1.size
                have := hP2.step hi (.slice p1 (ws (dX o)).length q1) (.slice p2 (ws (dX p)).length q2) (by rw [hI]; simp only; rw [ho]; exact (hN.below hbU).mono hsz) (by rw [hI]; simp only; rw [hp]; exact (hM2.below hbU).mono hsz)
                rw [hI] at this
                simp only at this
                rw [ho, hp, ← hW'] at this
                exact this
            have neq : u1.heap.size ≠ gO := by have := (SI.out.2.2.2.2.2.2.below hb).lt; omega
            clear h1 h2 hb hN hM2 hbU RQ hP2 hb2 SI
            go_upto_region 12 with fail
            rw [← hU2]
            clear hU2
            go_wp2_with fail
            unfold st6o at hW'
            go_roundg (1 - (i + 1))
            case measure => omega
            case rel =>
              refine ⟨i + 1, by omega, by go_num, ?_⟩
              first | rw [← hW'] | (rw [hW'] at S3)
              exact S3
        · obtain rfl : i = 1 := by omega
          obtain ⟨bel, hbef, V, hP⟩ := HR.out
          have hO := hP.out
          have S2 := (Aside.intro (And.intro bel (And.intro hbef hO)))
          have hi0 : wr = wr := rfl
          clear HR bel hbef hP hO hi hgi
          go_upto_region 17 with fail
          go_loopg [49] 1 (fun gk iv wr => ∃ i : Nat, gk + i = 1 ∧ iv = .int .i64 (i : Nat) ∧ Aside (Below w.heap.size w wr ∧ (∀ j, j < i → decide (dX (mkS (I j).m (I j).Y (I j).f) = 0) = false) ∧ ROut w.heap.size wr gO 1 I V))
          case atStart => exact ⟨0, by omega, rfl, S2.out.1, fun j hj => by omega, S2.out.2.2⟩
          case round =>
            obtain ⟨i, hgi, rfl, HR⟩ := hrel
            have SS2 := Aside.intro S2.out.2.1
            clear S2
            by_cases hi : i < 1
            · obtain ⟨bel, hbef, hO⟩ := HR.out
              obtain ⟨g0, g1, g2, g3, g4, g5⟩ := hO.row.facts i hi
              obtain ⟨A1, A2⟩ := hO.nts i hi
              have lo1 := mkS_len (I i).n (I i).X (I i).e
              have lo2 := mkS_len (I i).m (I i).Y (I i).f
              unfold frmI at g0 g1 g2 g3 g4 g5
              simp only at g0 g1 g2 g3 g4 g5
              obtain ⟨o, ho⟩ : ∃ o, mkS (I i).n (I i).X (I i).e = o := ⟨_, rfl⟩
              obtain ⟨p, hp⟩ : ∃ p, mkS (I i).m (I i).Y (I i).f = p := ⟨_, rfl⟩
              rw [ho] at g0 g2 A1 lo1
              rw [hp] at g3 g5 A2 lo2
              obtain ⟨v1, hv1⟩ : ∃ v1, (V i).1 = v1 := ⟨_, rfl⟩
              obtain ⟨v2, hv2⟩ : ∃ v2, (V i).2 = v2 := ⟨_, rfl⟩
              rw [hv1] at g1 A1
              rw [hv2] at g4 A2
              obtain ⟨p1, q1, rfl, _⟩ := A1.arg (by omega)
              obtain ⟨p2, q2, rfl, _⟩ := A2.arg (by omega)
              obtain ⟨U, hU⟩ : ∃ U, U = wr.alloc (.cells #[.bool (dN o), .slice p1 (ws (dX o)).length q1, .int .i64 (dE o), .bool (dN p), .slice p2 (ws (dX p)).length q2, .int .i64 (dE p)] 30) := ⟨_, rfl⟩
              have hbU : Below wr.heap.size wr U := by rw [hU]; exact below_alloc _ _
              have RQ : Rq U wr.heap.size (dN o) (.slice p1 (ws (dX o)).length q1) (dE o) (dN p) (.slice p2 (ws (dX p)).length q2) (dE p) := by rw [hU]; exact Rq.new _ _ _ _ _ _ _
              obtain ⟨x0, x1, x2, x3, x4, x5⟩ := RQ.facts
              have HC := hid (sgnD (n := dN p) (e := dE p) ((A2.below hbU).av (by omega)))
              obtain ⟨s, hs⟩ : ∃ s, sgn (dN p) (dX p) = s := ⟨_, rfl⟩
              rw [hs] at HC
              have SI := (Aside.intro (And.intro (bel.trans (hbU.mono bel.size)) (And.intro hbef (And.intro hp (And.intro hs (And.intro hi (hO.below hbU)))))))
              clear hbU RQ A1 A2 HR ho hp hv1 hv2 hs bel hbef hO
              have hli : (i : Int) < 1 := by omega
              have hl0 : (0 : Int) ≤ (i : Int) := by omega
              go_upto_region 19 with fail
              rw [← hU]
              clear hU g0 g1 g2 g3 g4 g5
              go_wp2_with fail
              clear x0 x1 x2 x3 x4 x5
              refine (Calls.mono HC.out) ?_
              rintro r u1 ⟨rfl, hb⟩
              have S2 := (Aside.intro (And.intro (SI.out.1.trans (hb.mono SI.out.1.size)) (SI.out.2.2.2.2.2.below hb)))
              clear hb HC
              by_cases hz : s = 0
              · have hn : (s == 0) = true := by simp [hz]
                have hsz := SI
                clear SI
                go_wp2_with fail
                go_ret2
                obtain ⟨_, hbef, hp, hs, hi, _⟩ := hsz.out
                have hE : errL I 1 = 21 := by
                  unfold errL
                  rw [any_no (p := fun i => decide (sgn (I i).m (I i).Y < 0)) SS.out, if_neg Bool.false_ne_true, any_no (p := fun i => !((mkS (I i).n (I i).X (I i).e).isSome && (mkS (I i).m (I i).Y (I i).f).isSome)) (fun j hj => by rw [SS2.out j hj]; rfl), if_neg Bool.false_ne_true, if_pos (any_of hi (by simp only [hp]; exact decide_eq_true (sgn_zero3.1 (hs.trans hz))))]
                rw [hE]
                exact ⟨.inl ⟨by decide, rfl⟩, S2.out.1⟩
              · have hn : (s == 0) = false := by simp [hz]
                go_wp2_with fail
                go_roundg (1 - (i + 1))
                case measure => omega
                case rel =>
                  obtain ⟨_, hbef, hp, hs, hi, _⟩ := SI.out
                  refine ⟨i + 1, by omega, by go_num, S2.out.1, fun j hj => ?_, S2.out.2⟩
                  by_cases hji : j = i
                  · subst hji; rw [hp]; exact decide_eq_false (fun h0 => hz (hs.symm.trans (sgn_zero3.2 h0)))
                  · exact hbef j (by omega)
            · obtain rfl : i = 1 := by omega
              have S3 := HR
              clear HR hi hgi
              go_wp2_with fail
              go_ret2
              have hE : errL I 1 = 0 := by
                unfold errL
                rw [any_no (p := fun i => decide (sgn (I i).m (I i).Y < 0)) SS.out, if_neg Bool.false_ne_true, any_no (p := fun i => !((mkS (I i).n (I i).X (I i).e).isSome && (mkS (I i).m (I i).Y (I i).f).isSome)) (fun j hj => by rw [SS2.out j hj]; rfl), if_neg Bool.false_ne_true, any_no (p := fun i => decide (dX (mkS (I i).m (I i).Y (I i).f) = 0)) S3.out.2.1, if_neg Bool.false_ne_true]
              exact ⟨.inr ⟨hE, gO, V, rfl, S3.out.2.2⟩, S3.out.1⟩

set_option maxHeartbeats 8000000 in
theorem forms2 (w : World) (g : Nat) (I : Nat → Ri) (h : RIn w g 2 I) :
    Calls Tryz.prog 57 #[.slice (some ⟨g, 0, none⟩) 2 2] w fun r w' =>
      ((errL I 2 ≠ 0 ∧ r = .returned (.tuple #[.slice none 0 0, .int .i64 (errL I 2)])) ∨
       (errL I 2 = 0 ∧ ∃ g' V, r = .returned (.tuple #[.slice (some ⟨g', 0, none⟩) 2 2, .int .i64 0]) ∧ ROut w.heap.size w' g' 2 I V)) ∧ Below w.heap.size w w' := by
  have MK := make_ratios2
  have hH := Aside.intro h
  clear h
  go_enter Tryz.func57, Tryz.ntmps57
  go_wp2_with fail
  go_loopg [15] 2 (fun gk iv wr => ∃ i : Nat, gk + i = 2 ∧ iv = .int .i64 (i : Nat) ∧ Aside (Below w.heap.size w wr ∧ ∀ j, j < i → decide (sgn (I j).m (I j).Y < 0) = false))
  case atStart => exact ⟨0, by omega, rfl, Below.refl _ _, fun j hj => by omega⟩
  case round =>
    obtain ⟨i, hgi, rfl, HR⟩ := hrel
    by_cases hi : i < 2
    · have hin := hH.out.below HR.out.1
      obtain ⟨g0, g1, g2, g3, g4, g5⟩ := hin.row.facts i hi
      obtain ⟨A1, A2⟩ := hin.one i hi
      obtain ⟨n, v, X, e, m, u, Y, f, hI⟩ : ∃ n v X e m u Y f, I i = ⟨n, v, X, e, m, u, Y, f⟩ := ⟨_, _, _, _, _, _, _, _, rfl⟩
      rw [hI] at g0 g1 g2 g3 g4 g5 A1 A2
      simp only at g0 g1 g2 g3 g4 g5 A1 A2
      obtain ⟨a1, l1, c1, xs, rfl, -, -⟩ := id A1
      obtain ⟨a2, l2, c2, ys, rfl, -, -⟩ := id A2
      obtain ⟨U, hU⟩ : ∃ U, U = wr.alloc (.cells #[.bool n, .slice a1 l1 c1, .int .i64 e, .bool m, .slice a2 l2 c2, .int .i64 f] 30) := ⟨_, rfl⟩
      have hbU : Below wr.heap.size wr U := by rw [hU]; exact below_alloc _ _
      have RQ : Rq U wr.heap.size n (.slice a1 l1 c1) e m (.slice a2 l2 c2) f := by rw [hU]; exact Rq.new _ _ _ _ _ _ _
      obtain ⟨x0, x1, x2, x3, x4, x5⟩ := RQ.facts
      have HC := hid (sgnD (n := m) (e := f) (A2.below hbU))
      obtain ⟨s, hs⟩ : ∃ s, sgn m Y = s := ⟨_, rfl⟩
      rw [hs] at HC
      have SI := (Aside.intro (And.intro (HR.out.1.trans (hbU.mono HR.out.1.size)) (And.intro HR.out.2 (And.intro hI (And.intro hs hi)))))
      clear hbU RQ A1 A2 hin HR hI hs
      have hli : (i : Int) < 2 := by omega
      have hl0 : (0 : Int) ≤ (i : Int) := by omega
      go_upto_region 4 with fail
      rw [← hU]
      clear hU g0 g1 g2 g3 g4 g5
      go_wp2_with fail
      clear x0 x1 x2 x3 x4 x5
      refine (Calls.mono HC.out) ?_
      rintro r u1 ⟨rfl, hb⟩
      have S2 := Aside.intro (SI.out.1.trans (hb.mono SI.out.1.size))
      clear hb HC
      by_cases hneg : s < 0
      · have hn := decide_eq_true hneg
        go_wp2_with fail
        go_ret2
        obtain ⟨_, hbef, hI, hs, hi⟩ := SI.out
        have hE : errL I 2 = 1 := by
          unfold errL
          rw [if_pos (any_of hi (by rw [hI]; simp only; rw [hs]; exact decide_eq_true hneg))]
        rw [hE]
        exact ⟨.inl ⟨by decide, rfl⟩, S2.out⟩
      · have hn : decide (s < 0) = false := decide_eq_false (by omega)
        go_wp2_with fail
        go_roundg (2 - (i + 1))
        case measure => omega
        case rel =>
          obtain ⟨_, hbef, hI, hs, hi⟩ := SI.out
          refine ⟨i + 1, by omega, by go_num, S2.out, fun j hj => ?_⟩
          by_cases hji : j = i
          · subst hji; rw [hI]; simp only; rw [hs]; exact decide_eq_false (by omega)
          · exact hbef j (by omega)
    · obtain rfl : i = 2 := by omega
      obtain ⟨M, hM⟩ : ∃ M, M = wr.alloc (.cells #[.bool false, .slice none 0 0, .int .i64 0, .bool false, .slice none 0 0, .int .i64 0, .bool false, .slice none 0 0, .int .i64 0, .bool false, .slice none 0 0, .int .i64 0] 30) := ⟨_, rfl⟩
      have hbM : Below wr.heap.size wr M := by rw [hM]; exact below_alloc _ _
      have hpM : RPart w.heap.size M wr.heap.size 2 0 I (fun _ => (.slice none 0 0, .slice none 0 0)) := by
        rw [hM]
        exact ⟨⟨_, heap_alloc_new _ _, rfl, fun j hj => by omega⟩, HR.out.1.size, fun j hj => by omega⟩
      have S1 := (Aside.intro (And.intro HR.out.2 (And.intro hpM (HR.out.1.trans (hbM.mono HR.out.1.size)))))
      obtain ⟨gO, hgO⟩ : ∃ gO, gO = wr.heap.size := ⟨_, rfl⟩
      clear HR hbM hpM hi hgi
      go_upto_region 9 with fail
      rw [← hM]
      rw [← hgO] at S1 ⊢
      clear hM hgO
      go_loopg [29] 2 (fun gk iv wr => ∃ i : Nat, gk + i = 2 ∧ iv = .int .i64 (i : Nat) ∧ Aside (Below w.heap.size w wr ∧ (∀ j, j < i → ((mkS (I j).n (I j).X (I j).e).isSome && (mkS (I j).m (I j).Y (I j).f).isSome) = true) ∧ ∃ V, RPart w.heap.size wr gO 2 i I V))
      case atStart => exact ⟨0, by omega, rfl, S1.out.2.2, fun j hj => by omega, _, S1.out.2.1⟩
      case round =>
        obtain ⟨i, hgi, rfl, HR⟩ := hrel
        have SS := Aside.intro S1.out.1
        clear S1
        by_cases hi : i < 2
        · obtain ⟨bel, hbef, V, hP⟩ := HR.out
          have hin := hH.out.below bel
          obtain ⟨g0, g1, g2, g3, g4, g5⟩ := hin.row.facts i hi
          obtain ⟨A1, A2⟩ := hin.one i hi
          obtain ⟨b0, b1, b2, b3⟩ := hin.rng i hi
          have hFD := fun (u : World) (hb : Below wr.heap.size wr u) => formD (r := I i) (A1.below hb) (A2.below hb) ((hin.below hb).tab) b0 b1 b2 b3
          obtain ⟨n, v, X, e, m, u, Y, f, hI⟩ : ∃ n v X e m u Y f, I i = ⟨n, v, X, e, m, u, Y, f⟩ := ⟨_, _, _, _, _, _, _, _, rfl⟩
          rw [hI] at g0 g1 g2 g3 g4 g5 A1 A2 hFD
          simp only at g0 g1 g2 g3 g4 g5 A1 A2 hFD
          obtain ⟨a1, l1, c1, xs, rfl, -, -⟩ := id A1
          obtain ⟨a2, l2, c2, ys, rfl, -, -⟩ := id A2
          obtain ⟨U, hU⟩ : ∃ U, U = wr.alloc (.cells #[.bool n, .slice a1 l1 c1, .int .i64 e, .bool m, .slice a2 l2 c2, .int .i64 f] 30) := ⟨_, rfl⟩
          have hbU : Below wr.heap.size wr U := by rw [hU]; exact below_alloc _ _
          have RQ : Rq U wr.heap.size n (.slice a1 l1 c1) e m (.slice a2 l2 c2) f := by rw [hU]; exact Rq.new _ _ _ _ _ _ _
          obtain ⟨x0, x1, x2, x3, x4, x5⟩ := RQ.facts
          have HC := hid (hFD U hbU)
          have lo1 := mkS_len n X e
          have lo2 := mkS_len m Y f
          obtain ⟨o, ho⟩ : ∃ o, mkS n X e = o := ⟨_, rfl⟩
          obtain ⟨p, hp⟩ : ∃ p, mkS m Y f = p := ⟨_, rfl⟩
          rw [ho, hp] at HC
          rw [ho] at lo1
          rw [hp] at lo2
          have SI := (Aside.intro (And.intro (bel.trans (hbU.mono bel.size)) (And.intro hbef (And.intro hI (And.intro ho (And.intro hp (And.intro hi (hP.below hbU))))))))
          clear hbU RQ A1 A2 hin HR hI ho hp bel hbef hP hFD b0 b1 b2 b3
          have hli : (i : Int) < 2 := by omega
          have hl0 : (0 : Int) ≤ (i : Int) := by omega
          go_upto_region 11 with fail
          rw [← hU]
          clear hU g0 g1 g2 g3 g4 g5
          go_wp2_with fail
          clear x0 x1 x2 x3 x4 x5
          refine (Calls.mono HC.out) ?_
          rintro r u1 ⟨h1, h2, hb⟩
          clear HC
          cases hok : (o.isSome && p.isSome) with
          | false =>
            obtain rfl := h2 hok
            have S2 := Aside.intro (SI.out.1.trans (hb.mono SI.out.1.size))
            clear h1 h2 hb
            go_wp2_with fail
            go_ret2
            obtain ⟨_, hbef, hI, ho, hp, hi, _⟩ := SI.out
            have hE : errL I 2 = 2 := by
              unfold errL
              rw [any_no (p := fun i => decide (sgn (I i).m (I i).Y < 0)) SS.out, if_neg Bool.false_ne_true, if_pos (any_of hi (by rw [hI]; simp only; rw [ho, hp, hok]; rfl))]
            rw [hE]
            exact ⟨.inl ⟨by decide, rfl⟩, S2.out.alloc S2.out.size _⟩
          | true =>
            obtain ⟨v1, v2, rfl, hN, hM2, -⟩ := h1 hok
            obtain ⟨p1, q1, rfl, _⟩ := hN.arg (by omega)
            obtain ⟨p2, q2, rfl, _⟩ := hM2.arg (by omega)
            obtain ⟨U2, hU2⟩ : ∃ U, U = u1.alloc (.cells #[.bool (dN o), .slice p1 (ws (dX o)).length q1, .int .i64 (dE o), .bool (dN p), .slice p2 (ws (dX p)).length q2, .int .i64 (dE p)] 30) := ⟨_, rfl⟩
            have hbU : Below u1.heap.size u1 U2 := by rw [hU2]; exact below_alloc _ _
            have RQ : Rq U2 u1.heap.size (dN o) (.slice p1 (ws (dX o)).length q1) (dE o) (dN p) (.slice p2 (ws (dX p)).length q2) (dE p) := by rw [hU2]; exact Rq.new _ _ _ _ _ _ _
            obtain ⟨x0, x1, x2, x3, x4, x5⟩ := RQ.facts
            have hP2 := (SI.out.2.2.2.2.2.2.below hb).below hbU
            have hb2 := (SI.out.1.trans (hb.mono SI.out.1.size)).trans (hbU.mono (Nat.le_trans SI.out.1.size hb.size))
            obtain ⟨⟨y0, r0⟩, f0⟩ := hP2.room (i * 6) (by omega)
            obtain ⟨⟨y1, r1⟩, f1⟩ := hP2.room (i * 6 + 1) (by omega)
            obtain ⟨⟨y2, r2⟩, f2⟩ := hP2.room (i * 6 + 2) (by omega)
            obtain ⟨⟨y3, r3⟩, f3⟩ := hP2.room (i * 6 + 3) (by omega)
            obtain ⟨⟨y4, r4⟩, f4⟩ := hP2.room (i * 6 + 4) (by omega)
            obtain ⟨⟨y5, r5⟩, f5⟩ := hP2.room (i * 6 + 5) (by omega)
            obtain ⟨W', hW'⟩ : ∃ W', W' = st6o U2 gO (i * 6) (.bool (dN o)) (.slice p1 (ws (dX o)).length q1) (.int .i64 (dE o)) (.bool (dN p)) (.slice p2 (ws (dX p)).length q2) (.int .i64 (dE p)) := ⟨_, rfl⟩
            have S3 : Aside (Below w.heap.size w W' ∧ (∀ j, j < i + 1 → ((mkS (I j).n (I j).X (I j).e).isSome && (mkS (I j).m (I j).Y (I j).f).isSome) = true) ∧ ∃ V, RPart w.heap.size W' gO 2 (i + 1) I V) := by
              obtain ⟨_, hbef, hI, ho, hp, hi, _⟩ := SI.out
              refine ⟨?_, ?_, ?_⟩
              · rw [hW']; exact But.below hb2 (st6o_but _ _ _ _ _ _ _ _ _) hb2.size hP2.own
              · intro j hj
                by_cases e : j = i
                · subst e; rw [hI]; simp only; rw [ho, hp, hok]
                · exact hbef j (by omega)
              · have hsz := SI.out.1.size
                have := hP2.step hi (.slice p1 (ws (dX o)).length q1) (.slice p2 (ws (dX p)).length q2) (by rw [hI]; simp only; rw [ho]; exact (hN.below hbU).mono hsz) (by rw [hI]; simp only; rw [hp]; exact (hM2.below hbU).mono hsz)
                rw [hI] at this
                simp only at this
                rw [ho, hp, ← hW'] at this
                exact this
            have neq : u1.heap.size ≠ gO := by have := (SI.out.2.2.2.2.2.2.below hb).lt; omega
            clear h1 h2 hb hN hM2 hbU RQ hP2 hb2 SI
            go_upto_region 12 with fail
            rw [← hU2]
            clear hU2
            go_wp2_with fail
            unfold st6o at hW'
            go_roundg (2 - (i + 1))
            case measure => omega
            case rel =>
              refine ⟨i + 1, by omega, by go_num, ?_⟩
              first | rw [← hW'] | (rw [hW'] at S3)
              exact S3
        · obtain rfl : i = 2 := by omega
          obtain ⟨bel, hbef, V, hP⟩ := HR.out
          have hO := hP.out
          have S2 := (Aside.intro (And.intro bel (And.intro hbef hO)))
          have hi0 : wr = wr := rfl
          clear HR bel hbef hP hO hi hgi
          go_upto_region 17 with fail
          go_loopg [49] 2 (fun gk iv wr => ∃ i : Nat, gk + i = 2 ∧ iv = .int .i64 (i : Nat) ∧ Aside (Below w.heap.size w wr ∧ (∀ j, j < i → decide (dX (mkS (I j).m (I j).Y (I j).f) = 0) = false) ∧ ROut w.heap.size wr gO 2 I V))
          case atStart => exact ⟨0, by omega, rfl, S2.out.1, fun j hj => by omega, S2.out.2.2⟩
          case round =>
            obtain ⟨i, hgi, rfl, HR⟩ := hrel
            have SS2 := Aside.intro S2.out.2.1
            clear S2
            by_cases hi : i < 2
            · obtain ⟨bel, hbef, hO⟩ := HR.out
              obtain ⟨g0, g1, g2, g3, g4, g5⟩ := hO.row.facts i hi
              obtain ⟨A1, A2⟩ := hO.nts i hi
              have lo1 := mkS_len (I i).n (I i).X (I i).e
              have lo2 := mkS_len (I i).m (I i).Y (I i).f
              unfold frmI at g0 g1 g2 g3 g4 g5
              simp only at g0 g1 g2 g3 g4 g5
              obtain ⟨o, ho⟩ : ∃ o, mkS (I i).n (I i).X (I i).e = o := ⟨_, rfl⟩
              obtain ⟨p, hp⟩ : ∃ p, mkS (I i).m (I i).Y (I i).f = p := ⟨_, rfl⟩
              rw [ho] at g0 g2 A1 lo1
              rw [hp] at g3 g5 A2 lo2
              obtain ⟨v1, hv1⟩ : ∃ v1, (V i).1 = v1 := ⟨_, rfl⟩
              obtain ⟨v2, hv2⟩ : ∃ v2, (V i).2 = v2 := ⟨_, rfl⟩
              rw [hv1] at g1 A1
              rw [hv2] at g4 A2
              obtain ⟨p1, q1, rfl, _⟩ := A1.arg (by omega)
              obtain ⟨p2, q2, rfl, _⟩ := A2.arg (by omega)
              obtain ⟨U, hU⟩ : ∃ U, U = wr.alloc (.cells #[.bool (dN o), .slice p1 (ws (dX o)).length q1, .int .i64 (dE o), .bool (dN p), .slice p2 (ws (dX p)).length q2, .int .i64 (dE p)] 30) := ⟨_, rfl⟩
              have hbU : Below wr.heap.size wr U := by rw [hU]; exact below_alloc _ _
              have RQ : Rq U wr.heap.size (dN o) (.slice p1 (ws (dX o)).length q1) (dE o) (dN p) (.slice p2 (ws (dX p)).length q2) (dE p) := by rw [hU]; exact Rq.new _ _ _ _ _ _ _
              obtain ⟨x0, x1, x2, x3, x4, x5⟩ := RQ.facts
              have HC := hid (sgnD (n := dN p) (e := dE p) ((A2.below hbU).av (by omega)))
              obtain ⟨s, hs⟩ : ∃ s, sgn (dN p) (dX p) = s := ⟨_, rfl⟩
              rw [hs] at HC
              have SI := (Aside.intro (And.intro (bel.trans (hbU.mono bel.size)) (And.intro hbef (And.intro hp (And.intro hs (And.intro hi (hO.below hbU)))))))
              clear hbU RQ A1 A2 HR ho hp hv1 hv2 hs bel hbef hO
              have hli : (i : Int) < 2 := by omega
              have hl0 : (0 : Int) ≤ (i : Int) := by omega
              go_upto_region 19 with fail
              rw [← hU]
              clear hU g0 g1 g2 g3 g4 g5
              go_wp2_with fail
              clear x0 x1 x2 x3 x4 x5
              refine (Calls.mono HC.out) ?_
              rintro r u1 ⟨rfl, hb⟩
              have S2 := (Aside.intro (And.intro (SI.out.1.trans (hb.mono SI.out.1.size)) (SI.out.2.2.2.2.2.below hb)))
              clear hb HC
              by_cases hz : s = 0
              · have hn : (s == 0) = true := by simp [hz]
                have hsz := SI
                clear SI
                go_wp2_with fail
                go_ret2
                obtain ⟨_, hbef, hp, hs, hi, _⟩ := hsz.out
                have hE : errL I 2 = 21 := by
                  unfold errL
                  rw [any_no (p := fun i => decide (sgn (I i).m (I i).Y < 0)) SS.out, if_neg Bool.false_ne_true, any_no (p := fun i => !((mkS (I i).n (I i).X (I i).e).isSome && (mkS (I i).m (I i).Y (I i).f).isSome)) (fun j hj => by rw [SS2.out j hj]; rfl), if_neg Bool.false_ne_true, if_pos (any_of hi (by simp only [hp]; exact decide_eq_true (sgn_zero3.1 (hs.trans hz))))]
                rw [hE]
                exact ⟨.inl ⟨by decide, rfl⟩, S2.out.1⟩
              · have hn : (s == 0) = false := by simp [hz]
                go_wp2_with fail
                go_roundg (2 - (i + 1))
                case measure => omega
                case rel =>
                  obtain ⟨_, hbef, hp, hs, hi, _⟩ := SI.out
                  refine ⟨i + 1, by omega, by go_num, S2.out.1, fun j hj => ?_, S2.out.2⟩
                  by_cases hji : j = i
                  · subst hji; rw [hp]; exact decide_eq_false (fun h0 => hz (hs.symm.trans (sgn_zero3.2 h0)))
                  · exact hbef j (by omega)
            · obtain rfl : i = 2 := by omega
              have S3 := HR
              clear HR hi hgi
              go_wp2_with fail
              go_ret2
              have hE : errL I 2 = 0 := by
                unfold errL
                rw [any_no (p := fun i => decide (sgn (I i).m (I i).Y < 0)) SS.out, if_neg Bool.false_ne_true, any_no (p := fun i => !((mkS (I i).n (I i).X (I i).e).isSome && (mkS (I i).m (I i).Y (I i).f).isSome)) (fun j hj => by rw [SS2.out j hj]; rfl), if_neg Bool.false_ne_true, any_no (p := fun i => decide (dX (mkS (I i).m (I i).Y (I i).f) = 0)) S3.out.2.1, if_neg Bool.false_ne_true]
              exact ⟨.inr ⟨hE, gO, V, rfl, S3.out.2.2⟩, S3.out.1⟩
end Go.Proofs.YtdimlelcgapobaaGreatDoor

/- The document's Mul. -/
namespace Go.Proofs.YtdimlelcgapobaaGreatDoor
open Go.RowKit
set_option linter.unusedVariables false
set_option maxRecDepth 20000
set_option linter.unusedSimpArgs false

theorem wrap64 (x : Int) (h0 : -9223372036854775808 ≤ x) (h1 : x ≤ 9223372036854775807) : IntKind.i64.wrap x = x := by rw [IntKind.wrap_i64]; omega

end Go.Proofs.YtdimlelcgapobaaGreatDoor

/- dyad's Sub, the document's Add and Sub; sums and products in either order. -/
namespace Go.Proofs.YtdimlelcgapobaaGreatDoor
open Go.RowKit
set_option linter.unusedVariables false
set_option maxRecDepth 20000
set_option linter.unusedSimpArgs false

theorem sub_res (W : World) (g : Nat) (n : Bool) (v : Value) (e k : Int) (tmps : Array Value) (ht : tmps[4]?.getD undef = .pointer (some ⟨g, 0, none⟩)) (hk : tmps[5]?.getD undef = .int .i64 k) (D : Dk W g n v e) :
    (results Tryz.f56 tmps).run Tryz.prog W = .ok (.tuple #[.agg #[.bool n, v, .int .i64 e], .int .i64 k]) W := by
  obtain ⟨x0, x1, x2, xf0, xf1, xf2⟩ := D.facts
  simp [results, Tryz.results56, ht, hk, go_sem, x0, x1, x2]

set_option maxHeartbeats 4000000 in
theorem sub_core {w : World} {a b : Option Addr} {l c k d : Nat} (n m : Bool) (e f : Int) (dn : Bool) (V : Nat) (de er : Int) (lV : (ws V).length ≤ 8192)
    (HT : Hid (∀ u, Calls Tryz.prog 92 #[.agg #[.bool m, .slice b k d, .int .i64 f]] u fun r w' => r = .returned (.agg #[.bool (!m), .slice b k d, .int .i64 f]) ∧ Below u.heap.size u w'))
    (HA : Hid (∀ u, Below w.heap.size w u → Calls Tryz.prog 55 #[.agg #[.bool n, .slice a l c, .int .i64 e], .agg #[.bool (!m), .slice b k d, .int .i64 f]] u fun r w' => (∃ v, r = .returned (.tuple #[.agg #[.bool dn, v, .int .i64 de], .int .i64 er]) ∧ Nt u.heap.size w' v V) ∧ Below u.heap.size u w')) :
    Calls Tryz.prog 56 #[.agg #[.bool n, .slice a l c, .int .i64 e], .agg #[.bool m, .slice b k d, .int .i64 f]] w fun r w' => (∃ v, r = .returned (.tuple #[.agg #[.bool dn, v, .int .i64 de], .int .i64 er]) ∧ Nt w.heap.size w' v V) ∧ Below w.heap.size w w' := by
  obtain ⟨W1, hW1⟩ : ∃ W, W = ((w.alloc (.cells #[.bool n, .slice a l c, .int .i64 e] 27)).alloc (.cells #[.bool m, .slice b k d, .int .i64 f] 27)).alloc (.cells #[.bool false, .slice none 0 0, .int .i64 0] 27) := ⟨_, rfl⟩
  obtain ⟨hB, hz1, DA, DB, DR⟩ := add_begin w n m (.slice a l c) (.slice b k d) e f W1 hW1
  have T1 := hid (HT.out W1)
  have T2 := hid (HT.out W1.drew)
  obtain ⟨x0, x1, x2, xf0, xf1, xf2⟩ := DA.facts
  obtain ⟨y0, y1, y2, yf0, yf1, yf2⟩ := DB.facts
  obtain ⟨r0, r1, r2, rf0, rf1, rf2⟩ := DR.facts
  have hs1 : w.heap.size + 3 ≤ W1.heap.size := by omega
  have SB := (Aside.intro (And.intro hB (And.intro DA (And.intro DB DR))))
  clear hB hz1 DA DB DR
  go_enter Tryz.func56, Tryz.ntmps56
  go_wp2_with fail
  rw [← hW1]
  clear hW1
  have ne1 : w.heap.size ≠ w.heap.size + 1 + 1 := by omega
  have ne2 : w.heap.size + 1 ≠ w.heap.size + 1 + 1 := by omega
  have ne3 : w.heap.size + 1 + 1 ≠ w.heap.size := by omega
  have ne4 : w.heap.size + 1 + 1 ≠ w.heap.size + 1 := by omega
  go_region_held3 (fun w' => w'.cell? ⟨w.heap.size, 0, none⟩ = some (.bool n) ∧ w'.cell? ⟨w.heap.size, 1, none⟩ = some (.slice a l c) ∧ w'.cell? ⟨w.heap.size, 2, none⟩ = some (.int .i64 e) ∧ w'.cell? ⟨w.heap.size + 1, 0, none⟩ = some (.bool m) ∧ w'.cell? ⟨w.heap.size + 1, 1, none⟩ = some (.slice b k d) ∧ w'.cell? ⟨w.heap.size + 1, 2, none⟩ = some (.int .i64 f)) (go_keep) (first
    | (go_at_call 92
       first | with_reducible refine T1.out.mono ?_ | with_reducible refine T2.out.mono ?_
       rintro r u1 ⟨rfl, hb⟩
       have hb1 : Below W1.heap.size W1 u1 := by first | exact hb | exact ((Below.refl _ W1).drew).trans (hb.mono (Nat.le_refl _))
       have hs2 : W1.heap.size ≤ u1.heap.size := hb1.size
       have BW : Below w.heap.size w u1 := SB.out.1.trans (hb1.mono (by omega))
       have HA1 := hid (HA.out u1 BW)
       have KR := SB.out.2.2.2.below hb1
       obtain ⟨p0, p1, p2, pf0, pf1, pf2⟩ := KR.facts
       obtain ⟨q0, q1, q2, qf0, qf1, qf2⟩ := (SB.out.2.1.below hb1).facts
       obtain ⟨s0, s1, s2, sf0, sf1, sf2⟩ := (SB.out.2.2.1.below hb1).facts
       have S1 := (Aside.intro (And.intro BW (And.intro KR (And.intro (SB.out.2.1.below hb1) (SB.out.2.2.1.below hb1)))))
       clear hb hb1 KR BW)
    | (go_at_call 55
       with_reducible refine HA1.out.mono ?_
       rintro r u2 ⟨⟨v, rfl, hN⟩, hb⟩
       obtain ⟨a4, c4, rfl, _⟩ := hN.arg (by omega)
       have LR := S1.out.2.1.below hb
       obtain ⟨t0, t1, t2, tf0, tf1, tf2⟩ := LR.facts
       obtain ⟨i0, i1, i2, if0, if1, if2⟩ := (S1.out.2.2.1.below hb).facts
       obtain ⟨j0, j1, j2, jf0, jf1, jf2⟩ := (S1.out.2.2.2.below hb).facts
       have FV := Aside.intro (show Fin w.heap.size (w.heap.size + 3) w u2 (.slice a4 (ws V).length c4) V from ⟨hN.mono (by omega), S1.out.1.trans (hb.mono (by omega)), by have := hb.size; omega⟩)
       have S10 := Aside.intro LR
       clear hN hb LR))
  all_goals (
    go_wp2
    refine bodyPost_ret (sub_res _ (w.heap.size + 1 + 1) dn (.slice a4 (ws V).length c4) de er _ rfl rfl (S10.out.set _ _ _)) rfl ?_
    refine Fin.dans (m := w.heap.size + 3) ?_ (by omega)
    repeat (with_reducible first | exact FV.out | refine Fin.drew ?_ | refine Fin.alloc ?_ _ | refine Fin.set ?_ _ _ _ (by omega) (by omega)))

theorem addUp_len (n : Bool) (X : Nat) (e : Int) (m : Bool) (Y : Nat) (f : Int) : (ws (dX (addUp n X e m Y f))).length ≤ 8192 := by
  unfold addUp
  split
  · show (ws 0).length ≤ 8192; rw [ws_zero]; exact Nat.zero_le _
  · split
    · exact mkS_len _ _ _
    · split <;> exact mkS_len _ _ _
theorem addD_len (n : Bool) (X : Nat) (e : Int) (m : Bool) (Y : Nat) (f : Int) : (ws (dX (addD (mkS n X e) (mkS m Y f)))).length ≤ 8192 := by
  have z0 : (ws 0).length ≤ 8192 := by rw [ws_zero]; exact Nat.zero_le _
  cases hx : mkS n X e with
  | none => exact z0
  | some x =>
    cases hy : mkS m Y f with
    | none => exact z0
    | some y =>
      obtain ⟨n1, X1, e1⟩ := x
      obtain ⟨m1, Y1, f1⟩ := y
      show (ws (dX (addF _ _))).length ≤ 8192
      unfold addF
      split
      · exact frm_len (mkS_frm hy)
      · split
        · exact frm_len (mkS_frm hx)
        · split <;> exact addUp_len _ _ _ _ _ _
theorem mulD_len (n : Bool) (X : Nat) (e : Int) (m : Bool) (Y : Nat) (f : Int) : (ws (dX (mulD (mkS n X e) (mkS m Y f)))).length ≤ 8192 := by
  have z0 : (ws 0).length ≤ 8192 := by rw [ws_zero]; exact Nat.zero_le _
  cases hx : mkS n X e with
  | none => exact z0
  | some x =>
    cases hy : mkS m Y f with
    | none => exact z0
    | some y => exact mkS_len _ _ _
theorem Sub_any3 {w : World} {a b : Option Addr} {l c k d : Nat} {xs ys : List Nat} (h1 : Arg w a l c xs) (h2 : Arg w b k d ys) (hT : Tab w) (n m : Bool) (e f : Int) (he0 : -9223372036854775808 ≤ e) (he1 : e ≤ 9223372036854775807) (hf0 : -9223372036854775808 ≤ f) (hf1 : f ≤ 9223372036854775807) :
    Calls Tryz.prog 56 #[.agg #[.bool n, .slice a l c, .int .i64 e], .agg #[.bool m, .slice b k d, .int .i64 f]] w fun r w' => DAns w.heap.size w' r (addD (mkS n (val xs) e) (mkS (!m) (val ys) f)) ∧ Below w.heap.size w w' :=
  sub_core n m e f _ _ _ _ (addD_len n (val xs) e (!m) (val ys) f) (hid fun u => turned_any b k d m f u) (hid fun u hu => Add_any3 (h1.below hu) (h2.below hu) (hT.belows hu) n (!m) e f he0 he1 hf0 hf1)
end Go.Proofs.YtdimlelcgapobaaGreatDoor

