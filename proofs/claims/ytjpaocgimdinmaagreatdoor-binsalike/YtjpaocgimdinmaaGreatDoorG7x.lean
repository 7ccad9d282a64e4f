/- Bins: eachSlice. -/
import Derived.Test.YtjpaocgimdinmaaGreatDoorG1x
import Derived.Deep.RegionWith
import Derived.Deep.LoopGhost
import Derived.Test.YtjpaocgimdinmaaGreatDoorProg
import Derived.Laws.Externs
import Derived.WalkKit
import Derived.WalkLawsBesides
import Derived.Test.YtjpaocgimdinmaaGreatDoorBIeeex
import Derived.Laws.BitsAllLaws
import Derived.WalkSpells
import Derived.Test.YtjpaocgimdinmaaGreatDoorW8x
import Derived.BigQuiet
import Derived.ArgAppend
import Derived.Maps.AppendAt
import Derived.WalkMore
namespace Go.Proofs.YtjpaocgimdinmaaGreatDoor
open Go Go.RowKit
set_option linter.unusedVariables false
set_option maxRecDepth 20000
set_option linter.unusedSimpArgs false

/-- What stands after so many slices. -/
def est (T : Int) (D : Int → Int) (t v0 v1 v2 : Int) : Nat → Int × (Int → Int)
  | 0 => (T, D)
  | 1 => hnd (T, D) (t + 2) v0
  | 2 => hnd (hnd (T, D) (t + 2) v0) (t + 1) v1
  | _ => hnd (hnd (hnd (T, D) (t + 2) v0) (t + 1) v1) t v2
theorem Tryz.und_arr3 : Tryz.prog.underlying 249 = some (.array 3 124) := by kernel_rfl
theorem idx3_0 (x0 x1 x2 : Value) (w : World) : (Instr.index 249 (.agg #[x0, x1, x2]) (.int .i64 0)).run Tryz.prog w = .ok x0 w := by
  simp [Instr.index, run_underlying Tryz.und_arr3, asIntOf, go_sem]
theorem idx3_1 (x0 x1 x2 : Value) (w : World) : (Instr.index 249 (.agg #[x0, x1, x2]) (.int .i64 1)).run Tryz.prog w = .ok x1 w := by
  simp [Instr.index, run_underlying Tryz.und_arr3, asIntOf, go_sem]
theorem idx3_2 (x0 x1 x2 : Value) (w : World) : (Instr.index 249 (.agg #[x0, x1, x2]) (.int .i64 2)).run Tryz.prog w = .ok x2 w := by
  simp [Instr.index, run_underlying Tryz.und_arr3, asIntOf, go_sem]
def sgv (neg : Bool) (s : Nat) : Int := if neg then -(s : Int) else (s : Int)
/-- Where the loop stands. -/
structure Ei (w : World) (g f : Nat) (c T : Int) (D : Int → Int) (t v0 v1 v2 : Int) (neg : Bool) (cl e : Int) (F : Nat) (i : Nat) (u : World) : Prop where
  bs : Bs u g f c (est T D t v0 v1 v2 i).1 (est T D t v0 v1 v2 i).2
  but : But g w u
  box : Bl u w.heap.size 195 [.bool neg, .int .i64 cl, .int .i64 e, .int .u64 F]
theorem Ei.below {w : World} {g f : Nat} {c T : Int} {D : Int → Int} {t v0 v1 v2 : Int} {neg : Bool} {cl e : Int} {F i : Nat} {u u' : World} (h : Ei w g f c T D t v0 v1 v2 neg cl e F i u) (hb : Below u.heap.size u u') : Ei w g f c T D t v0 v1 v2 neg cl e F i u' :=
  ⟨h.bs.below hb h.bs.lt, h.but.of_bel9 hb, h.box.below hb h.box.lt⟩
theorem hnd_zero (s : Int × (Int → Int)) (t v : Int) (h : v = 0) : hnd s t v = s := by unfold hnd; rw [if_pos h]
theorem Ei.skip0 {w : World} {g f : Nat} {c T : Int} {D : Int → Int} {t v0 v1 v2 : Int} {neg : Bool} {cl e : Int} {F : Nat} {u : World} (h : Ei w g f c T D t v0 v1 v2 neg cl e F 0 u) (hv : v0 = 0) : Ei w g f c T D t v0 v1 v2 neg cl e F 1 u := by
  have e1 : est T D t v0 v1 v2 1 = est T D t v0 v1 v2 0 := hnd_zero _ _ _ hv
  exact ⟨by rw [e1]; exact h.bs, h.but, h.box⟩
theorem Ei.skip1 {w : World} {g f : Nat} {c T : Int} {D : Int → Int} {t v0 v1 v2 : Int} {neg : Bool} {cl e : Int} {F : Nat} {u : World} (h : Ei w g f c T D t v0 v1 v2 neg cl e F 1 u) (hv : v1 = 0) : Ei w g f c T D t v0 v1 v2 neg cl e F 2 u := by
  have e1 : est T D t v0 v1 v2 2 = est T D t v0 v1 v2 1 := hnd_zero _ _ _ hv
  exact ⟨by rw [e1]; exact h.bs, h.but, h.box⟩
theorem Ei.skip2 {w : World} {g f : Nat} {c T : Int} {D : Int → Int} {t v0 v1 v2 : Int} {neg : Bool} {cl e : Int} {F : Nat} {u : World} (h : Ei w g f c T D t v0 v1 v2 neg cl e F 2 u) (hv : v2 = 0) : Ei w g f c T D t v0 v1 v2 neg cl e F 3 u := by
  have e1 : est T D t v0 v1 v2 3 = est T D t v0 v1 v2 2 := hnd_zero _ _ _ hv
  exact ⟨by rw [e1]; exact h.bs, h.but, h.box⟩
attribute [local go_sem] idx3_0 idx3_1 idx3_2 in
set_option maxHeartbeats 2000000 in
theorem each_core (neg : Bool) (cl e lo up : Int) (F s0 s1 s2 : Nat) (g h f : Nat) (c T : Int) (D : Int → Int) (w : World) (hlo : e / 32 = lo) (hup : e - 32 * lo = up) (he : -1074 ≤ e ∧ e ≤ 1000) (hup0 : 0 ≤ up) (hup1 : up ≤ 31) (hF : F < 9007199254740992)
    (hs0 : (F : Int) / 2 ^ (64 - up).toNat = (s0 : Int)) (hs1 : bits .and .u64 ((F : Int) / 2 ^ (32 - up).toNat) 4294967295 = (s1 : Int)) (hs2 : bits .and .u64 (IntKind.u64.wrap ((F : Int) * 2 ^ up.toNat)) 4294967295 = (s2 : Int))
    (hb0 : s0 < 4294967296) (hb1 : s1 < 4294967296) (hb2 : s2 < 4294967296) (hB : Bs w g f c T D)
    (HH : Hid (∀ i j v u, i < 3 → j = lo + 2 - (i : Nat) → v = (match i with | 0 => sgv neg s0 | 1 => sgv neg s1 | _ => sgv neg s2) → v ≠ 0 → Ei w g f c T D (lo + 34) (sgv neg s0) (sgv neg s1) (sgv neg s2) neg cl e F i u →
      Calls Tryz.prog 145 #[.int .i64 j, .agg #[.int .i64 (v / 4294967296), .int .i64 (v % 4294967296)], .pointer (some ⟨h, 0, none⟩)] u fun r w' => r = .returned (.tuple #[]) ∧ Ei w g f c T D (lo + 34) (sgv neg s0) (sgv neg s1) (sgv neg s2) neg cl e F (i + 1) w')) :
    Calls Tryz.prog 144 #[.agg #[.bool neg, .int .i64 cl, .int .i64 e, .int .u64 F], .func (.func 145) #[] #[.pointer (some ⟨h, 0, none⟩)]] w fun r w' => r = .returned (.tuple #[]) ∧ Ei w g f c T D (lo + 34) (sgv neg s0) (sgv neg s1) (sgv neg s2) neg cl e F 3 w' := by
  obtain ⟨W, hW⟩ : ∃ W, W = ((w.alloc (Obj.cells #[.bool neg, .int .i64 cl, .int .i64 e, .int .u64 F] 195)).alloc (Obj.cells #[.int .u64 s0, .int .u64 s1, .int .u64 s2] 249)).drew := ⟨_, rfl⟩
  have H0 : Aside (Ei w g f c T D (lo + 34) (sgv neg s0) (sgv neg s1) (sgv neg s2) neg cl e F 0 W) := by
    subst hW
    refine ⟨((hB.alloc _).alloc _).drew, (((But.refl g w).alloc _).alloc _).drew, ((Bl.new w 195 [_, _, _, _]).alloc _).drew⟩
  have hl : -40 ≤ lo ∧ lo ≤ 40 := by omega
  have HBI := hid binOf_any
  unfold Bv at HBI
  clear hB
  go_enter Tryz.func144, Tryz.ntmps144
  go_wp2_with fail
  go_region
  skip
  clear hs0 hs1 hs2 hlo hup hup0 hup1 he hF
  go_wp2_with fail
  rw [← hW]
  clear hW
  go_loopg [36] 3 (fun gk iv wr => ∃ i : Nat, gk + i = 3 ∧ iv = .int .i64 (i : Nat) ∧ Aside (Ei w g f c T D (lo + 34) (sgv neg s0) (sgv neg s1) (sgv neg s2) neg cl e F i wr))
  case atStart => exact ⟨0, by omega, rfl, H0⟩
  case round =>
    clear H0 W
    obtain ⟨i, hgi, rfl, HW⟩ := hrel
    have kb := HW.out.box.cell 0 _ rfl
    obtain rfl | rfl | rfl | rfl : i = 0 ∨ i = 1 ∨ i = 2 ∨ i = 3 := by omega
    · cases neg
      · by_cases hz : s0 = 0
        · have hz' : (s0 : Int) = 0 := by omega
          have HX := Aside.intro (Ei.skip0 HW.out (by unfold sgv; simp [hz]))
          clear HW HH HBI
          go_wp2
          go_roundg (gk - 1)
          case measure => omega
          case rel => exact ⟨1, by omega, rfl, HX⟩
        · have hz' : ¬ ((s0 : Int) = 0) := by omega
          go_wp2_with fail
          with_reducible refine (HBI.out _ _).mono ?_
          rintro r u ⟨rfl, hb⟩
          have HZ := Aside.intro (HW.out.below hb)
          clear HW hb kb
          go_wp2_with fail
          refine (HH.out 0 _ _ _ (by omega) (by omega) rfl (by show sgv _ s0 ≠ 0; unfold sgv; simp [hz]) HZ.out).mono ?_
          rintro r u2 ⟨rfl, hE⟩
          have HX := Aside.intro hE
          clear hE HZ HH HBI
          go_wp2
          go_roundg (gk - 1)
          case measure => omega
          case rel => exact ⟨1, by omega, rfl, HX⟩
      · by_cases hz : s0 = 0
        · have hz' : (s0 : Int) = 0 := by omega
          have HX := Aside.intro (Ei.skip0 HW.out (by unfold sgv; simp [hz]))
          clear HW HH HBI
          go_wp2
          go_roundg (gk - 1)
          case measure => omega
          case rel => exact ⟨1, by omega, rfl, HX⟩
        · have hz' : ¬ ((s0 : Int) = 0) := by omega
          go_wp2_with fail
          with_reducible refine (HBI.out _ _).mono ?_
          rintro r u ⟨rfl, hb⟩
          have HZ := Aside.intro (HW.out.below hb)
          clear HW hb kb
          go_wp2_with fail
          refine (HH.out 0 _ _ _ (by omega) (by omega) rfl (by show sgv _ s0 ≠ 0; unfold sgv; simp [hz]) HZ.out).mono ?_
          rintro r u2 ⟨rfl, hE⟩
          have HX := Aside.intro hE
          clear hE HZ HH HBI
          go_wp2
          go_roundg (gk - 1)
          case measure => omega
          case rel => exact ⟨1, by omega, rfl, HX⟩
    · cases neg
      · by_cases hz : s1 = 0
        · have hz' : (s1 : Int) = 0 := by omega
          have HX := Aside.intro (Ei.skip1 HW.out (by unfold sgv; simp [hz]))
          clear HW HH HBI
          go_wp2
          go_roundg (gk - 1)
          case measure => omega
          case rel => exact ⟨2, by omega, rfl, HX⟩
        · have hz' : ¬ ((s1 : Int) = 0) := by omega
          go_wp2_with fail
          with_reducible refine (HBI.out _ _).mono ?_
          rintro r u ⟨rfl, hb⟩
          have HZ := Aside.intro (HW.out.below hb)
          clear HW hb kb
          go_wp2_with fail
          refine (HH.out 1 _ _ _ (by omega) (by omega) rfl (by show sgv _ s1 ≠ 0; unfold sgv; simp [hz]) HZ.out).mono ?_
          rintro r u2 ⟨rfl, hE⟩
          have HX := Aside.intro hE
          clear hE HZ HH HBI
          go_wp2
          go_roundg (gk - 1)
          case measure => omega
          case rel => exact ⟨2, by omega, rfl, HX⟩
      · by_cases hz : s1 = 0
        · have hz' : (s1 : Int) = 0 := by omega
          have HX := Aside.intro (Ei.skip1 HW.out (by unfold sgv; simp [hz]))
          clear HW HH HBI
          go_wp2
          go_roundg (gk - 1)
          case measure => omega
          case rel => exact ⟨2, by omega, rfl, HX⟩
        · have hz' : ¬ ((s1 : Int) = 0) := by omega
          go_wp2_with fail
          with_reducible refine (HBI.out _ _).mono ?_
          rintro r u ⟨rfl, hb⟩
          have HZ := Aside.intro (HW.out.below hb)
          clear HW hb kb
          go_wp2_with fail
          refine (HH.out 1 _ _ _ (by omega) (by omega) rfl (by show sgv _ s1 ≠ 0; unfold sgv; simp [hz]) HZ.out).mono ?_
          rintro r u2 ⟨rfl, hE⟩
          have HX := Aside.intro hE
          clear hE HZ HH HBI
          go_wp2
          go_roundg (gk - 1)
          case measure => omega
          case rel => exact ⟨2, by omega, rfl, HX⟩
    · cases neg
      · by_cases hz : s2 = 0
        · have hz' : (s2 : Int) = 0 := by omega
          have HX := Aside.intro (Ei.skip2 HW.out (by unfold sgv; simp [hz]))
          clear HW HH HBI
          go_wp2
          go_roundg (gk - 1)
          case measure => omega
          case rel => exact ⟨3, by omega, rfl, HX⟩
        · have hz' : ¬ ((s2 : Int) = 0) := by omega
          go_wp2_with fail
          with_reducible refine (HBI.out _ _).mono ?_
          rintro r u ⟨rfl, hb⟩
          have HZ := Aside.intro (HW.out.below hb)
          clear HW hb kb
          go_wp2_with fail
          refine (HH.out 2 _ _ _ (by omega) (by omega) rfl (by show sgv _ s2 ≠ 0; unfold sgv; simp [hz]) HZ.out).mono ?_
          rintro r u2 ⟨rfl, hE⟩
          have HX := Aside.intro hE
          clear hE HZ HH HBI
          go_wp2
          go_roundg (gk - 1)
          case measure => omega
          case rel => exact ⟨3, by omega, rfl, HX⟩
      · by_cases hz : s2 = 0
        · have hz' : (s2 : Int) = 0 := by omega
          have HX := Aside.intro (Ei.skip2 HW.out (by unfold sgv; simp [hz]))
          clear HW HH HBI
          go_wp2
          go_roundg (gk - 1)
          case measure => omega
          case rel => exact ⟨3, by omega, rfl, HX⟩
        · have hz' : ¬ ((s2 : Int) = 0) := by omega
          go_wp2_with fail
          with_reducible refine (HBI.out _ _).mono ?_
          rintro r u ⟨rfl, hb⟩
          have HZ := Aside.intro (HW.out.below hb)
          clear HW hb kb
          go_wp2_with fail
          refine (HH.out 2 _ _ _ (by omega) (by omega) rfl (by show sgv _ s2 ≠ 0; unfold sgv; simp [hz]) HZ.out).mono ?_
          rintro r u2 ⟨rfl, hE⟩
          have HX := Aside.intro hE
          clear hE HZ HH HBI
          go_wp2
          go_roundg (gk - 1)
          case measure => omega
          case rel => exact ⟨3, by omega, rfl, HX⟩
    · go_wp2
      go_end0
      exact ⟨rfl, HW.out⟩
end Go.Proofs.YtjpaocgimdinmaaGreatDoor

/- What the four body-less functions of package math answer over this program. -/
namespace Go.Proofs.YtjpaocgimdinmaaGreatDoor.B
set_option linter.unusedVariables false
set_option maxRecDepth 20000
theorem f64bits (b : Nat) (w : World) : (callFunc 85 #[.float .f64 b]).run Tryz.prog w = .ok (.value (.int .u64 b)) w := by
  rw [run_callFunc_extern (e := Extern.MathFloatBits.float64bits) Tryz.func85 (by kernel_rfl) (by kernel_rfl) (by kernel_rfl) (by kernel_rfl)]; rfl
theorem f64frombits (n : Int) (w : World) : (callFunc 57 #[.int .u64 n]).run Tryz.prog w = .ok (.value (.float .f64 n.toNat)) w := by
  rw [run_callFunc_extern (e := Extern.MathFloatBits.float64frombits) Tryz.func57 (by kernel_rfl) (by kernel_rfl) (by kernel_rfl) (by kernel_rfl)]; rfl
theorem f32frombits (n : Int) (w : World) : (callFunc 185 #[.int .u32 n]).run Tryz.prog w = .ok (.value (.float .f32 n.toNat)) w := by
  rw [run_callFunc_extern (e := Extern.MathFloatBits.float32frombits) Tryz.func185 (by kernel_rfl) (by kernel_rfl) (by kernel_rfl) (by kernel_rfl)]; rfl
end Go.Proofs.YtjpaocgimdinmaaGreatDoor.B

/- Plain facts on the bits of a number of 64 bits: its sign, its exponent's field, its fraction's field; what is taken apart. -/
namespace Go.Proofs.YtjpaocgimdinmaaGreatDoor.B
set_option linter.unusedVariables false
set_option maxRecDepth 20000

def bw (s : Bool) (e f : Nat) : Nat := s.toNat * 9223372036854775808 + e * 4503599627370496 + f

theorem bw_of (b : Nat) (hb : b < 18446744073709551616) : ∃ s e f, e < 2048 ∧ f < 4503599627370496 ∧ b = bw s e f := by
  refine ⟨decide (9223372036854775808 ≤ b), b % 9223372036854775808 / 4503599627370496, b % 4503599627370496, by omega, by omega, ?_⟩
  unfold bw
  by_cases h : 9223372036854775808 ≤ b
  · rw [decide_eq_true h]; simp only [Bool.toNat_true]; omega
  · rw [decide_eq_false h]; simp only [Bool.toNat_false]; omega

theorem bw_lt (s : Bool) (e f : Nat) (he : e < 2048) (hf : f < 4503599627370496) : bw s e f < 18446744073709551616 := by
  unfold bw; cases s <;> simp only [Bool.toNat_true, Bool.toNat_false] <;> omega

theorem wraps_i64 (n : Int) (h0 : 0 ≤ n) (h1 : n < 2 ^ 63) : IntKind.i64.wrap n = n := by rw [IntKind.wrap_i64]; omega
theorem wraps_u64 (n : Int) (h0 : 0 ≤ n) (h1 : n < 2 ^ 64) : IntKind.u64.wrap n = n := by
  simp [IntKind.wrap, IntKind.bits, IntKind.signed]; omega

theorem bw_exp (s : Bool) (e f : Nat) (he : e < 2048) (hf : f < 4503599627370496) : bits .and .i64 ((bw s e f : Int) / 4503599627370496) 2047 = (e : Int) := by
  have hl := bw_lt s e f he hf
  have h := bits_mask .i64 63 (by decide) wraps_i64 11 (by decide) ((bw s e f : Int) / 4503599627370496) (by omega) (by omega)
  rw [show ((2 : Int) ^ 11 - 1) = 2047 from rfl] at h
  rw [h]
  unfold bw; cases s <;> simp only [Bool.toNat_true, Bool.toNat_false] <;> omega

theorem bw_frac (s : Bool) (e f : Nat) (he : e < 2048) (hf : f < 4503599627370496) : bits .and .u64 ((bw s e f : Nat) : Int) 4503599627370495 = (f : Int) := by
  have hl := bw_lt s e f he hf
  have h := bits_mask .u64 64 (by decide) wraps_u64 52 (by decide) (bw s e f : Int) (by omega) (by omega)
  rw [show ((2 : Int) ^ 52 - 1) = 4503599627370495 from rfl] at h
  rw [h]
  unfold bw; cases s <;> simp only [Bool.toNat_true, Bool.toNat_false] <;> omega

theorem bw_sign (s : Bool) (e f : Nat) (he : e < 2048) (hf : f < 4503599627370496) : bits .and .u64 ((bw s e f : Int) / 9223372036854775808) 1 = (s.toNat : Int) := by
  have hl := bw_lt s e f he hf
  have h := bits_mask .u64 64 (by decide) wraps_u64 1 (by decide) ((bw s e f : Int) / 9223372036854775808) (by omega) (by omega)
  rw [show ((2 : Int) ^ 1 - 1) = 1 from rfl] at h
  rw [h]
  unfold bw; cases s <;> simp only [Bool.toNat_true, Bool.toNat_false] <;> omega

theorem frac_or (f : Nat) (hf : f < 4503599627370496) : bits .or .u64 (f : Int) 4503599627370496 = (f : Int) + 4503599627370496 := by
  have hc : bits .or .u64 (f : Int) 4503599627370496 = bits .or .u64 4503599627370496 (f : Int) := by simp only [bits, BitVec.or_comm]
  rw [hc, bits_join .u64 64 (by decide) wraps_u64 52 4503599627370496 (f : Int) (by decide) (by decide) (by decide) (by omega) (by omega) (by omega)]
  omega

theorem or_sign (x : Int) (h0 : 0 ≤ x) (h1 : x < 9223372036854775808) : bits .or .u64 x 9223372036854775808 = x + 9223372036854775808 := by
  have hc : bits .or .u64 x 9223372036854775808 = bits .or .u64 9223372036854775808 x := by simp only [bits, BitVec.or_comm]
  rw [hc, bits_join .u64 64 (by decide) wraps_u64 63 9223372036854775808 x (by decide) (by decide) (by decide) h0 (by omega) (by omega)]
  omega

/-- Parts as a value. -/
def pv (neg : Bool) (c x : Int) (f : Int) : Value := .agg #[.bool neg, .int .i64 c, .int .i64 x, .int .u64 f]

def cls (e f : Nat) : Int := if e = 2047 then (if f = 0 then 3 else 4) else if e = 0 then (if f = 0 then 0 else 1) else 2
def xp (e : Nat) : Int := if e = 2047 then 0 else if e = 0 then -1074 else (e : Int) - 1075
def fr (e f : Nat) : Int := if e = 2047 then 0 else if e = 0 then (f : Int) else (f : Int) + 4503599627370496
def ng (s : Bool) (e f : Nat) : Bool := if e = 2047 ∧ f ≠ 0 then false else s
def splitV (s : Bool) (e f : Nat) : Value := pv (ng s e f) (cls e f) (xp e) (fr e f)

theorem splitV_odd (s : Bool) (e f : Nat) (h : e = 2047) (h2 : ((f : Int) != 0) = true) : splitV s e f = .agg #[.bool false, .int .i64 4, .int .i64 0, .int .u64 0] := by
  have : f ≠ 0 := by intro h; subst h; simp at h2
  simp [splitV, pv, ng, cls, xp, fr, h, this]
theorem splitV_end (s : Bool) (e f : Nat) (h : e = 2047) (h2 : ((f : Int) != 0) = false) : splitV s e f = .agg #[.bool s, .int .i64 3, .int .i64 0, .int .u64 0] := by
  have : f = 0 := by simp at h2; omega
  simp [splitV, pv, ng, cls, xp, fr, h, this]
theorem splitV_nought (s : Bool) (e f : Nat) (h : e = 0) (h2 : ((f : Int) == 0) = true) : splitV s e f = .agg #[.bool s, .int .i64 0, .int .i64 (-1074), .int .u64 0] := by
  have : f = 0 := by simp at h2; omega
  simp [splitV, pv, ng, cls, xp, fr, h, this]
theorem splitV_small (s : Bool) (e f : Nat) (h : e = 0) (h2 : ((f : Int) == 0) = false) : splitV s e f = .agg #[.bool s, .int .i64 1, .int .i64 (-1074), .int .u64 f] := by
  have : f ≠ 0 := by intro h; subst h; simp at h2
  simp [splitV, pv, ng, cls, xp, fr, h, this]
theorem splitV_plain (s : Bool) (e f : Nat) (h : e ≠ 2047) (h2 : e ≠ 0) : splitV s e f = .agg #[.bool s, .int .i64 2, .int .i64 ((e : Int) - 1075), .int .u64 ((f : Int) + 4503599627370496)] := by
  simp [splitV, pv, ng, cls, xp, fr, h, h2]

theorem beq_nat_true (e n : Nat) (h : ((e : Int) == (n : Int)) = true) : e = n := by
  have : (e : Int) = n := by simpa using h
  omega
theorem bw_exp2 (s : Bool) (e f : Nat) (he : e < 2048) (hf : f < 4503599627370496) : (bw s e f : Int) / 4503599627370496 % 2048 = e := by
  unfold bw; cases s <;> simp only [Bool.toNat_true, Bool.toNat_false] <;> omega
theorem bw_frac2 (s : Bool) (e f : Nat) (hf : f < 4503599627370496) : (bw s e f : Int) % 4503599627370496 = f := by
  unfold bw; cases s <;> simp only [Bool.toNat_true, Bool.toNat_false] <;> omega
theorem bw_sign2 (s : Bool) (e f : Nat) (he : e < 2048) (hf : f < 4503599627370496) : (bw s e f : Int) / 9223372036854775808 % 2 = s.toNat := by
  unfold bw; cases s <;> simp only [Bool.toNat_true, Bool.toNat_false] <;> omega

/-- NaN? -/
def odd (e f : Nat) : Bool := e == 2047 && f != 0

theorem not_odd (e f : Nat) (h : odd e f = false) : ¬ (e = 2047 ∧ f ≠ 0) := by
  rintro ⟨h1, h2⟩; simp [odd, h1, h2] at h
theorem is_odd (e f : Nat) (h : odd e f = true) : e = 2047 ∧ f ≠ 0 := by
  simpa [odd] using h

/-- the bits, of a NaN those of the one that is answered. -/
def cb (s : Bool) (e f : Nat) : Nat := if e = 2047 ∧ f ≠ 0 then 9221120237041090560 else bw s e f
theorem cb_odd (s : Bool) (e f : Nat) (h : e = 2047 ∧ f ≠ 0) : cb s e f = 9221120237041090560 := if_pos h
theorem cb_else (s : Bool) (e f : Nat) (h : ¬ (e = 2047 ∧ f ≠ 0)) : cb s e f = bw s e f := if_neg h

theorem bw_mod (s : Bool) (e f : Nat) (he : e < 2048) (hf : f < 4503599627370496) : (bw s e f : Int) % 9223372036854775808 = (e : Int) * 4503599627370496 + f := by
  unfold bw; cases s <;> simp only [Bool.toNat_true, Bool.toNat_false] <;> omega

theorem dInf : Ieee.double.infRung = 9218868437227405312 := by decide
theorem dSign : Ieee.double.signWeight = 9223372036854775808 := by decide
theorem dBin : Ieee.double.binade = 4503599627370496 := by decide
theorem dHs : Ieee.double.infRung < Ieee.double.signWeight := by decide
theorem dHb : Ieee.double.binade ≤ Ieee.double.infRung := by decide

/-- the bits as a word. -/
theorem bw_word (s : Bool) (e f : Nat) : bw s e f = Ieee.double.word s (e * 4503599627370496 + f) := by
  unfold bw Ieee.Format.word
  rw [dSign]
  cases s <;> simp [Nat.add_assoc]

theorem bw_read_odd (s : Bool) (e f : Nat) (hf : f < 4503599627370496) (h : odd e f = true) : Ieee.double.read (bw s e f) = .nan s f := by
  have h0 : e = 2047 ∧ f ≠ 0 := by simpa [odd] using h
  have e1 : bw s e f % Ieee.double.signWeight = e * 4503599627370496 + f := by
    rw [dSign]; unfold bw; cases s <;> simp only [Bool.toNat_true, Bool.toNat_false] <;> omega
  have e2 : (bw s e f / Ieee.double.signWeight % 2 == 1) = s := by
    rw [dSign]
    cases s
    · have : bw false e f / 9223372036854775808 % 2 = 0 := by unfold bw; simp only [Bool.toNat_false]; omega
      rw [this]; rfl
    · have : bw true e f / 9223372036854775808 % 2 = 1 := by unfold bw; simp only [Bool.toNat_true]; omega
      rw [this]; rfl
  rw [read_nan Ieee.double _ (by rw [e1, dInf]; omega) dHb, e1, e2, dInf, show e * 4503599627370496 + f - 9218868437227405312 = f from by omega]

theorem rung_le (e f : Nat) (he : e < 2048) (hf : f < 4503599627370496) (h : odd e f = false) : e * 4503599627370496 + f ≤ Ieee.double.infRung := by
  rw [dInf]; have := not_odd e f h; omega

/-- the place of a number in the order of all but NaN. -/
def pl (s : Bool) (e f : Nat) : Int := sg s (e * 4503599627370496 + f)

theorem ord (s t : Bool) (e f u v : Nat) (he : e < 2048) (hf : f < 4503599627370496) (hu : u < 2048) (hv : v < 4503599627370496) :
    FloatKind.f64.format.order (bw s e f) (bw t u v) = if odd e f || odd u v then none else some (compare (pl s e f) (pl t u v)) := by
  show Ieee.double.order _ _ = _
  by_cases h1 : odd e f = true
  · rw [h1]
    show (Ieee.double.read (bw s e f)).order _ = none
    rw [bw_read_odd s e f hf h1]; rfl
  · by_cases h2 : odd u v = true
    · rw [h2]
      show (Ieee.double.read (bw s e f)).order (Ieee.double.read (bw t u v)) = if (odd e f || true) = true then none else _
      rw [bw_read_odd t u v hv h2, Bool.or_true, if_pos rfl]
      cases Ieee.double.read (bw s e f) <;> rfl
    · have h3 : odd e f = false := by simpa using h1
      have h4 : odd u v = false := by simpa using h2
      rw [h3, h4, bw_word, bw_word]
      rw [order_word Ieee.double dHs dHb s t _ _ (rung_le e f he hf h3) (rung_le u v hu hv h4)]
      simp [pl]

theorem order_self (s : Bool) (e f : Nat) (he : e < 2048) (hf : f < 4503599627370496) : (FloatKind.f64.format.order (bw s e f) (bw s e f) != some .eq) = odd e f := by
  rw [ord s s e f e f he hf he hf, Bool.or_self, Int.compare_eq_eq.2 rfl]
  cases odd e f <;> rfl
end Go.Proofs.YtjpaocgimdinmaaGreatDoor.B

/- Plain facts on comparisons, signs and neighbours of numbers of 64 bits, by their bits. -/
namespace Go.Proofs.YtjpaocgimdinmaaGreatDoor.B
set_option linter.unusedVariables false
set_option maxRecDepth 20000

theorem lt_f64 (s t : Bool) (e f u v : Nat) (he : e < 2048) (hf : f < 4503599627370496) (hu : u < 2048) (hv : v < 4503599627370496) :
    (FloatKind.f64.format.order (bw s e f) (bw t u v) == some .lt) = (!odd e f && (!odd u v && decide (pl s e f < pl t u v))) := by
  rw [ord s t e f u v he hf hu hv]
  cases odd e f <;> cases odd u v <;> simp
  by_cases h : pl s e f < pl t u v
  · rw [Int.compare_eq_lt.2 h]; simp [h]
  · rw [decide_eq_false h]
    by_cases h2 : pl t u v < pl s e f
    · rw [Int.compare_eq_gt.2 h2]; rfl
    · rw [Int.compare_eq_eq.2 (by omega)]; rfl

theorem gt_f64 (s t : Bool) (e f u v : Nat) (he : e < 2048) (hf : f < 4503599627370496) (hu : u < 2048) (hv : v < 4503599627370496) :
    (FloatKind.f64.format.order (bw s e f) (bw t u v) == some .gt) = (!odd e f && (!odd u v && decide (pl t u v < pl s e f))) := by
  rw [ord s t e f u v he hf hu hv]
  cases odd e f <;> cases odd u v <;> simp
  by_cases h : pl t u v < pl s e f
  · rw [Int.compare_eq_gt.2 h]; simp [h]
  · rw [decide_eq_false h]
    by_cases h2 : pl s e f < pl t u v
    · rw [Int.compare_eq_lt.2 h2]; rfl
    · rw [Int.compare_eq_eq.2 (by omega)]; rfl

theorem eq_f64 (s t : Bool) (e f u v : Nat) (he : e < 2048) (hf : f < 4503599627370496) (hu : u < 2048) (hv : v < 4503599627370496) :
    (FloatKind.f64.format.order (bw s e f) (bw t u v) == some .eq) = (!odd e f && (!odd u v && decide (pl s e f = pl t u v))) := by
  rw [ord s t e f u v he hf hu hv]
  cases odd e f <;> cases odd u v <;> simp
  by_cases h : pl s e f < pl t u v
  · rw [Int.compare_eq_lt.2 h, decide_eq_false (by omega)]; rfl
  · by_cases h2 : pl t u v < pl s e f
    · rw [Int.compare_eq_gt.2 h2, decide_eq_false (by omega)]; rfl
    · rw [Int.compare_eq_eq.2 (by omega), decide_eq_true (by omega)]; rfl

theorem odd_lt (e f : Nat) (h : e < 2047) : odd e f = false := by
  have : (e == 2047) = false := by simp; omega
  simp [odd, this]
theorem odd_zero (e : Nat) : odd e 0 = false := by simp [odd]

theorem zero_bw : bw false 0 0 = 0 := rfl
theorem max_bw : bw false 2046 4503599627370495 = 9218868437227405311 := rfl

theorem gt_max (s : Bool) (e f : Nat) (he : e < 2048) (hf : f < 4503599627370496) :
    (FloatKind.f64.format.order (bw s e f) 9218868437227405311 == some .gt) = (!s && (e == 2047 && f == 0)) := by
  have h := gt_f64 s false e f 2046 4503599627370495 he hf (by omega) (by omega)
  rw [max_bw] at h
  rw [h, odd_lt 2046 _ (by omega)]
  cases ho : odd e f
  · have := not_odd e f ho
    rw [Bool.eq_iff_iff]
    cases s <;> simp [pl, sg] <;> omega
  · obtain ⟨h1, h2⟩ := is_odd e f ho
    have h3 : (f == 0) = false := by simp [h2]
    simp [h1, h3]

theorem eq_zero (s : Bool) (e f : Nat) (he : e < 2048) (hf : f < 4503599627370496) :
    (FloatKind.f64.format.order (bw s e f) 0 == some .eq) = (e == 0 && f == 0) := by
  have h := eq_f64 s false e f 0 0 he hf (by omega) (by omega)
  rw [zero_bw] at h
  rw [h, odd_lt 0 _ (by omega)]
  cases ho : odd e f
  · rw [Bool.eq_iff_iff]
    cases s <;> simp [pl, sg] <;> omega
  · obtain ⟨h1, h2⟩ := is_odd e f ho
    have h3 : (e == 0) = false := by simp [h1]
    simp [h3]

theorem lt_zero (s : Bool) (e f : Nat) (he : e < 2048) (hf : f < 4503599627370496) (ho : odd e f = false) (hz : (e == 0 && f == 0) = false) :
    (FloatKind.f64.format.order (bw s e f) 0 == some .lt) = s := by
  have h := lt_f64 s false e f 0 0 he hf (by omega) (by omega)
  rw [zero_bw] at h
  rw [h, odd_lt 0 _ (by omega), ho]
  have hz' : ¬ (e = 0 ∧ f = 0) := by rintro ⟨rfl, rfl⟩; simp at hz
  rw [Bool.eq_iff_iff]
  cases s <;> simp [pl, sg] <;> omega

theorem abs_bw (s : Bool) (e f : Nat) (he : e < 2048) (hf : f < 4503599627370496) : bits .andNot .u64 ((bw s e f : Nat) : Int) 9223372036854775808 = (bw false e f : Int) := by
  have h := u64_andNot_nat (bw s e f) 9223372036854775808 (bw_lt s e f he hf) (by omega)
  rw [show (((9223372036854775808 : Nat)) : Int) = 9223372036854775808 from rfl] at h
  rw [h, show 18446744073709551615 - 9223372036854775808 = 2 ^ 63 - 1 from rfl, Nat.and_two_pow_sub_one_eq_mod]
  congr 1
  unfold bw; cases s <;> simp only [Bool.toNat_true, Bool.toNat_false] <;> omega

end Go.Proofs.YtjpaocgimdinmaaGreatDoor.B

/- What the functions that take a number of 64 bits apart answer, at every number. -/
namespace Go.Proofs.YtjpaocgimdinmaaGreatDoor.B
set_option linter.unusedVariables false
set_option maxRecDepth 20000
open Go.RowKit

set_option maxHeartbeats 1000000 in
theorem split_any (s : Bool) (e f : Nat) (he : e < 2048) (hf : f < 4503599627370496) (w : World) :
    Calls Tryz.prog 201 #[.int .u64 (bw s e f), .int .u64 52, .int .u64 11, .int .i64 (-1074)] w fun r w' => r = .returned (splitV s e f) ∧ Below w.heap.size w w' := by
  have hl := bw_lt s e f he hf
  have h1 := bw_exp s e f he hf
  have h2 := bw_frac s e f he hf
  have h3 := bw_sign s e f he hf
  have h4 := frac_or f hf
  have h5 : ((s.toNat : Int) == 1) = s := by cases s <;> rfl
  go_enter Tryz.func201, Tryz.ntmps201
  go_wp2
  · rw [splitV_odd s e f (by omega) ‹_›]
    exact bodyPost_ret (v := .agg #[.bool false, .int .i64 4, .int .i64 0, .int .u64 0]) (by simp [results, Tryz.results201, go_sem]) rfl ⟨rfl, (by repeat (first | exact Below.refl _ _ | assumption | exact Nat.le_refl _ | (simp; done) | (simp; omega) | refine Below.alloc ?_ ?_ _ | refine Below.setCell ?_ ?_ _ | refine Below.drew ?_))⟩
  · rw [splitV_end s e f (by omega) ‹_›]
    exact bodyPost_ret (v := .agg #[.bool s, .int .i64 3, .int .i64 0, .int .u64 0]) (by simp [results, Tryz.results201, go_sem]) rfl ⟨rfl, (by repeat (first | exact Below.refl _ _ | assumption | exact Nat.le_refl _ | (simp; done) | (simp; omega) | refine Below.alloc ?_ ?_ _ | refine Below.setCell ?_ ?_ _ | refine Below.drew ?_))⟩
  · rw [splitV_nought s e f (by omega) ‹_›]
    exact bodyPost_ret (v := .agg #[.bool s, .int .i64 0, .int .i64 (-1074), .int .u64 0]) (by simp [results, Tryz.results201, go_sem]) rfl ⟨rfl, (by repeat (first | exact Below.refl _ _ | assumption | exact Nat.le_refl _ | (simp; done) | (simp; omega) | refine Below.alloc ?_ ?_ _ | refine Below.setCell ?_ ?_ _ | refine Below.drew ?_))⟩
  · rw [splitV_small s e f (by omega) ‹_›]
    exact bodyPost_ret (v := .agg #[.bool s, .int .i64 1, .int .i64 (-1074), .int .u64 f]) (by simp [results, Tryz.results201, go_sem]) rfl ⟨rfl, (by repeat (first | exact Below.refl _ _ | assumption | exact Nat.le_refl _ | (simp; done) | (simp; omega) | refine Below.alloc ?_ ?_ _ | refine Below.setCell ?_ ?_ _ | refine Below.drew ?_))⟩
  · rw [splitV_plain s e f (by omega) (by omega)]
    refine bodyPost_ret (v := .agg #[.bool s, .int .i64 2, .int .i64 ((e : Int) - 1075), .int .u64 ((f : Int) + 4503599627370496)]) (by simp [results, Tryz.results201, go_sem]; try omega) rfl ⟨rfl, (by repeat (first | exact Below.refl _ _ | assumption | exact Nat.le_refl _ | (simp; done) | (simp; omega) | refine Below.alloc ?_ ?_ _ | refine Below.setCell ?_ ?_ _ | refine Below.drew ?_))⟩
end Go.Proofs.YtjpaocgimdinmaaGreatDoor.B

/- What Split, its twin of the document, the classes and Same answer, at every number. -/
namespace Go.Proofs.YtjpaocgimdinmaaGreatDoor.B
set_option linter.unusedVariables false
set_option maxRecDepth 20000
open Go.RowKit
attribute [local go_sem] f64bits f64frombits
theorem bcell {W w1 : World} (hb : Below W.heap.size W w1) : (∀ b o, b < W.heap.size → w1.cell? ⟨b, o, none⟩ = W.cell? ⟨b, o, none⟩) ∧ (∀ b o, b < W.heap.size → w1.frozen? ⟨b, o, none⟩ = W.frozen? ⟨b, o, none⟩) :=
  ⟨fun b o h => hb.cell (p := ⟨b, o, none⟩) h, fun b o h => hb.frozen (p := ⟨b, o, none⟩) h⟩

theorem split_lit (s : Bool) (e f : Nat) (he : e < 2048) (hf : f < 4503599627370496) (w : World) :
    Calls Tryz.prog 201 #[.int .u64 (bw s e f), .int .u64 52, .int .u64 11, .int .i64 (-1074)] w fun r w' => r = .returned (.agg #[.bool (ng s e f), .int .i64 (cls e f), .int .i64 (xp e), .int .u64 (fr e f)]) ∧ Below w.heap.size w w' :=
  split_any s e f he hf w

set_option maxHeartbeats 1000000 in
theorem nan_any (w : World) : Calls Tryz.prog 210 #[] w fun r w' => r = .returned (.float .f64 9221120237041090560) ∧ w' = w := by
  go_enter Tryz.func210, Tryz.ntmps210
  go_wp2
  go_ret
  exact ⟨rfl, rfl⟩

set_option maxHeartbeats 1000000 in
theorem Split_any (s : Bool) (e f : Nat) (he : e < 2048) (hf : f < 4503599627370496) (w : World) :
    Calls Tryz.prog 143 #[.float .f64 (bw s e f)] w fun r w' => r = .returned (.agg #[.bool (ng s e f), .int .i64 (cls e f), .int .i64 (xp e), .int .u64 (fr e f)]) ∧ Below w.heap.size w w' := by
  go_enter Tryz.func143, Tryz.ntmps143
  go_wp2_with (go_at_call 201; refine (split_lit s e f he hf _).mono ?_; rintro r w1 ⟨rfl, hb⟩; (obtain ⟨hc, hfz⟩ := bcell hb; have hz : w.heap.size < w1.heap.size := by (have := hb.size; simp at this; omega)))
  exact bodyPost_ret (v := (.agg #[.bool (ng s e f), .int .i64 (cls e f), .int .i64 (xp e), .int .u64 (fr e f)])) (by simp [results, Tryz.results143, go_sem, hc]) rfl ⟨rfl, (by repeat (first | exact Below.refl _ _ | exact ((Below.refl _ _).alloc (Nat.le_refl _) _).trans (hb.mono (by simp)) | exact Nat.le_refl _ | (simp; done) | (simp; omega) | refine Below.alloc ?_ ?_ _ | refine Below.setCell ?_ ?_ _ | refine Below.drew ?_))⟩

set_option maxHeartbeats 1000000 in
theorem rBits_any (s : Bool) (e f : Nat) (he : e < 2048) (hf : f < 4503599627370496) (w : World) :
    Calls Tryz.prog 110 #[.float .f64 (bw s e f)] w fun r w' => r = .returned (.int .u64 (cb s e f)) ∧ w' = w := by
  have hl := bw_lt s e f he hf
  have h1 := bw_mod s e f he hf
  by_cases h : e = 2047 ∧ f ≠ 0
  · have h2 : (9218868437227405312 : Int) < (e : Int) * 4503599627370496 + f := by omega
    rw [cb_odd s e f h]
    clear h
    go_enter Tryz.func110, Tryz.ntmps110
    go_wp2
    go_ret
    exact ⟨rfl, rfl⟩
  · have h2 : ¬ (9218868437227405312 : Int) < (e : Int) * 4503599627370496 + f := by omega
    rw [cb_else s e f h]
    clear h
    go_enter Tryz.func110, Tryz.ntmps110
    go_wp2
    go_ret
    exact ⟨rfl, rfl⟩

set_option maxHeartbeats 1000000 in
theorem isNaN_any (s : Bool) (e f : Nat) (he : e < 2048) (hf : f < 4503599627370496) (w : World) :
    Calls Tryz.prog 135 #[.float .f64 (bw s e f)] w fun r w' => r = .returned (.bool (odd e f)) ∧ w' = w := by
  have h1 := order_self s e f he hf
  go_enter Tryz.func135, Tryz.ntmps135
  go_wp2
  go_ret
  exact ⟨rfl, rfl⟩

set_option maxHeartbeats 1000000 in
theorem parts_any (s : Bool) (e f : Nat) (he : e < 2048) (hf : f < 4503599627370496) (w : World) :
    Calls Tryz.prog 225 #[.int .u64 (bw s e f), .int .i64 11, .int .i64 52] w fun r w' => r = .returned (splitV s e f) ∧ Below w.heap.size w w' := by
  have hl := bw_lt s e f he hf
  have h1 := bw_exp2 s e f he hf
  have h2 := bw_frac2 s e f hf
  have h3 := bw_sign2 s e f he hf
  have h5 : ((s.toNat : Int) == 1) = s := by cases s <;> rfl
  go_enter Tryz.func225, Tryz.ntmps225
  go_wp2
  · have hh : e = 2047 := by first | omega | exact beq_nat_true e 2047 ‹_›
    rw [splitV_odd s e f hh (by simp; omega)]
    exact bodyPost_ret (v := .agg #[.bool false, .int .i64 4, .int .i64 0, .int .u64 0]) (by simp [results, Tryz.results225, go_sem]) rfl ⟨rfl, (by repeat (first | exact Below.refl _ _ | assumption | exact Nat.le_refl _ | (simp; done) | (simp; omega) | refine Below.alloc ?_ ?_ _ | refine Below.setCell ?_ ?_ _ | refine Below.drew ?_))⟩
  · have hh : e = 2047 := by first | omega | exact beq_nat_true e 2047 ‹_›
    rw [splitV_end s e f hh (by simp; omega)]
    exact bodyPost_ret (v := .agg #[.bool s, .int .i64 3, .int .i64 0, .int .u64 0]) (by simp [results, Tryz.results225, go_sem]) rfl ⟨rfl, (by repeat (first | exact Below.refl _ _ | assumption | exact Nat.le_refl _ | (simp; done) | (simp; omega) | refine Below.alloc ?_ ?_ _ | refine Below.setCell ?_ ?_ _ | refine Below.drew ?_))⟩
  · have hh : e ≠ 2047 := by intro hq; subst hq; simp_all
    rw [splitV_plain s e f hh (by omega)]
    refine bodyPost_ret (v := .agg #[.bool s, .int .i64 2, .int .i64 ((e : Int) - 1075), .int .u64 ((f : Int) + 4503599627370496)]) (by simp [results, Tryz.results225, go_sem]; try omega) rfl ⟨rfl, (by repeat (first | exact Below.refl _ _ | assumption | exact Nat.le_refl _ | (simp; done) | (simp; omega) | refine Below.alloc ?_ ?_ _ | refine Below.setCell ?_ ?_ _ | refine Below.drew ?_))⟩
  · rw [splitV_small s e f (by omega) (by simp; omega)]
    exact bodyPost_ret (v := .agg #[.bool s, .int .i64 1, .int .i64 (-1074), .int .u64 f]) (by simp [results, Tryz.results225, go_sem]) rfl ⟨rfl, (by repeat (first | exact Below.refl _ _ | assumption | exact Nat.le_refl _ | (simp; done) | (simp; omega) | refine Below.alloc ?_ ?_ _ | refine Below.setCell ?_ ?_ _ | refine Below.drew ?_))⟩
  · rw [splitV_nought s e f (by omega) (by simp; omega)]
    refine bodyPost_ret (v := .agg #[.bool s, .int .i64 0, .int .i64 (-1074), .int .u64 0]) (by simp [results, Tryz.results225, go_sem]; try omega) rfl ⟨rfl, (by repeat (first | exact Below.refl _ _ | assumption | exact Nat.le_refl _ | (simp; done) | (simp; omega) | refine Below.alloc ?_ ?_ _ | refine Below.setCell ?_ ?_ _ | refine Below.drew ?_))⟩
end Go.Proofs.YtjpaocgimdinmaaGreatDoor.B

/- The document's Lent, AsLent. -/
namespace Go.Proofs.YtjpaocgimdinmaaGreatDoor
open Go.RowKit
set_option linter.unusedVariables false
set_option maxRecDepth 20000

theorem But.drewN {g : Nat} {a w : World} (h : But g a w) (n : Nat) : But g a (w.drewN n) := ⟨h.os, h.tape, h.output, h.size, h.block⟩

end Go.Proofs.YtjpaocgimdinmaaGreatDoor

/- Rows of words that are kept in a book: what is appended, what stays; the document's Take. -/
namespace Go.Proofs.YtjpaocgimdinmaaGreatDoor
open Go.RowKit
set_option linter.unusedVariables false
set_option maxRecDepth 20000

/-- A row of words. -/
abbrev Rw (lo : Nat) (w : World) (v : Value) (n : Nat) (ys : List Value) : Prop := w.ownsRow lo 103 1 v n ys

/-- All rows of words are as they were. -/
def Keep (w w' : World) : Prop := ∀ (g : Nat) (cur : Array Value) (e : TypeId), e ≠ 31 → e ≠ 52 → w.heap[g]? = some (.cells cur e (0, 0)) → w'.heap[g]? = some (.cells cur e (0, 0))

theorem Keep.refl (w : World) : Keep w w := fun _ _ _ _ _ h => h
theorem Keep.trans {a b c : World} (h : Keep a b) (k : Keep b c) : Keep a c := fun g cur t h1 h2 e => k g cur t h1 h2 (h g cur t h1 h2 e)
theorem Keep.row {w w' : World} {lo : Nat} {v : Value} {n : Nat} {ys : List Value} (h : Rw lo w v n ys) (k : Keep w w') : Rw lo w' v n ys := by
  refine ⟨h.1, ?_⟩
  rcases h.2 with hn | ⟨g, cap, cur, rfl, hlo, hg, rest⟩
  · exact .inl hn
  · exact .inr ⟨g, cap, cur, rfl, hlo, k _ _ _ (by decide) (by decide) hg, rest⟩
theorem Keep.below {w w' : World} (h : Below w.heap.size w w') : Keep w w' := fun g cur _ _ _ e => by rw [h.block g (Array.getElem?_eq_some_iff.1 e).1]; exact e

theorem Tryz.info31 : (Tryz.prog.info? 31).map (fun i => (i.zero, i.size, i.bytes)) = some (some (.slice none 0 0), 1, 24) := by kernel_rfl

theorem row_other {w w' : World} {lo e s : Nat} {v : Value} {n : Nat} {ys : List Value} (h : w.ownsRow lo e s v n ys) (hb : ∀ g, v.ownBlock = some g → w'.heap[g]? = w.heap[g]?) : w'.ownsRow lo e s v n ys := by
  refine ⟨h.1, ?_⟩
  rcases h.2 with hn | ⟨g, cap, cur, rfl, hlo, hg, rest⟩
  · exact .inl hn
  · refine .inr ⟨g, cap, cur, rfl, hlo, ?_, rest⟩
    rw [hb g rfl]; exact hg

theorem row_set {w : World} {lo g n cap : Nat} {ys : List Value} (h : Rw lo w (.slice (some ⟨g, 0, none⟩) n cap) n ys) (k : Nat) (hk : k < n) (u : Value) :
    Rw lo (w.setCell ⟨g, k, none⟩ u) (.slice (some ⟨g, 0, none⟩) n cap) n (ys.set k u) := by
  refine ⟨by simpa using h.1, ?_⟩
  rcases h.2 with ⟨e, hn⟩ | ⟨g', cap', cur, e, hlo, hg, hnc, hm, hs, ht⟩
  · omega
  · cases e
    refine .inr ⟨g, cap, cur.set! k u, rfl, hlo, ?_, hnc, hm, by simpa using hs, ?_⟩
    · simp only [World.setCell, Array.getElem?_modify, hg]
      simp
    · rw [← ht]
      simp [List.take_set]

theorem row_setOther {w : World} {lo e s : Nat} {v : Value} {n : Nat} {ys : List Value} (h : w.ownsRow lo e s v n ys) (a : Addr) (u : Value) (ha : v.ownBlock ≠ some a.block) : (w.setCell a u).ownsRow lo e s v n ys :=
  row_other h fun g hg => Below.heap_setCell _ _ _ _ (fun e => ha (by rw [hg, e]))

/-- One word appended to a row of words: what else there is, and what is shorter in the same row, stays. -/
theorem append_word (w : World) (lo : Nat) (v : Value) (n : Nat) (ys : List Value) (x : Value) (s : Nat) (ty : TypeId) (hown : Rw lo w v n ys) (hx : w.cell? ⟨s, 0, none⟩ = some x) (h1 : x.oneCell' = true)
    (hbig : n + 1 ≤ 35184372088832) (hlo : lo ≤ w.heap.size) :
    ∃ v' w', (Builtin.append_ #[31, 31] ty #[v, .slice (some ⟨s, 0, none⟩) 1 1]).run Tryz.prog w = .ok v' w' ∧ Rw lo w' v' (n + 1) (ys ++ [x]) ∧ w.grownBy w' v.ownBlock ∧
      (v'.ownBlock = v.ownBlock ∨ ∃ g, v'.ownBlock = some g ∧ w.heap.size ≤ g) ∧ (∀ (u : Value) (k : Nat) (zs : List Value), Rw lo w u k zs → (u.ownBlock = v.ownBlock → k ≤ n) → Rw lo w' u k zs) := by
  obtain ⟨i0, hi, hz0, hz1, hz2⟩ := info_parts Tryz.info103
  have hnews : ∀ j u, [x][j]? = some u → w.cell? ((⟨s, 0, none⟩ : Addr).add j) = some u := by
    intro j u hj
    match j, hj with
    | 0, hj => simp at hj; subst hj; simpa [Addr.add] using hx
  have h1' : ∀ u ∈ [x], u.oneCell' = true := by intro u hu; simp at hu; subst hu; exact h1
  have keep : ∀ w', w.grownBy w' none → ∀ (u : Value) (k : Nat) (zs : List Value), Rw lo w u k zs → Rw lo w' u k zs := by
    intro w' hg u k zs hr
    rcases hr.2 with hn | ⟨g, cap, cur, rfl, hl, hgb, rest⟩
    · exact ⟨hr.1, .inl hn⟩
    · refine ⟨hr.1, .inr ⟨g, cap, cur, rfl, hl, ?_, rest⟩⟩
      rw [hg.block g (Array.getElem?_eq_some_iff.1 hgb).1 (by simp)]; exact hgb
  have newb : ∀ (v' : Value) (w' : World) (m : Nat) (zs : List Value), w'.ownsRow w.heap.size 103 1 v' (m + 1) zs → ∃ g, v'.ownBlock = some g ∧ w.heap.size ≤ g := by
    intro v' w' m zs h
    rcases h.2 with ⟨_, h0⟩ | ⟨g, cap, cur, rfl, hl, _⟩
    · omega
    · exact ⟨g, rfl, hl⟩
  have mono : ∀ (v' : Value) (w' : World) (m : Nat) (zs : List Value), w'.ownsRow w.heap.size 103 1 v' m zs → Rw lo w' v' m zs := by
    intro v' w' m zs h
    refine ⟨h.1, ?_⟩
    rcases h.2 with hn | ⟨g, cap, cur, rfl, hl, rest⟩
    · exact .inl hn
    · exact .inr ⟨g, cap, cur, rfl, by omega, rest⟩
  rcases hown.2 with ⟨rfl, rfl⟩ | ⟨g, cap, cur, rfl, hlg, hg, hnc, hm, hs, ht⟩
  · obtain ⟨v', w', r1, r2, r3, _, _⟩ := run_append_own_at (P := Tryz.prog) w w.heap.size 31 ty 103 i0 (.int .u32 0) 1 4 Tryz.underlying31 hi hz0 hz1 hz2 rfl (by decide) (.slice none 0 0) 0 [] (World.ownsRow_nil _ _ _ _) ⟨s, 0, none⟩ 1 1 [x] rfl hnews h1' (by unfold maxLen; omega) (by omega) (Nat.le_refl _)
    have hy : ys = [] := List.eq_nil_of_length_eq_zero (by simpa using hown.1)
    subst hy
    exact ⟨v', w', r1, mono _ _ _ _ (by simpa using r2), r3, .inr (newb _ _ 0 _ (by simpa using r2)), fun u k zs hr _ => keep _ r3 u k zs hr⟩
  · by_cases hroom : n + 1 ≤ cap
    · have hr := run_append_room (P := Tryz.prog) w 31 ty 103 i0 Tryz.underlying31 hi g n cap cur hg ⟨s, 0, none⟩ 1 1 [x] (by rw [hz1]; rfl) hnews h1' hroom (by rw [hz1, hs]; simp; omega)
      rw [hz1] at hr
      refine ⟨_, _, hr, ⟨by simpa using hown.1, .inr ⟨g, cap, _, rfl, hlg, setRow_heap w g cur _ 103 _ hg, hroom, hm, ?_, ?_⟩⟩, ⟨rfl, rfl, rfl, by simp, fun k _ hk => setRow_other w g k _ (fun e => hk (by simp [Value.ownBlock, e]))⟩, .inl rfl, ?_⟩
      · simp only [List.size_toArray, List.length_append, List.length_take, List.length_drop, Array.length_toList, List.length_cons, List.length_nil]
        omega
      · rw [ht]
        have hyl : ys.length = n := by simpa using hown.1
        simp only [Nat.mul_one, List.append_assoc]
        rw [← List.append_assoc]
        rw [List.take_append_of_le_length (by simp [hyl])]
        rw [List.take_of_length_le (by simp [hyl])]
      · intro u k zs hr2 hle
        rcases hr2.2 with hn | ⟨g2, cap2, cur2, rfl, hl2, hg2, hnc2, hm2, hs2, ht2⟩
        · exact ⟨hr2.1, .inl hn⟩
        · by_cases he : g2 = g
          · subst he
            rw [hg] at hg2
            cases hg2
            have hk := hle rfl
            refine ⟨hr2.1, .inr ⟨g2, cap2, _, rfl, hl2, setRow_heap w g2 cur _ 103 _ hg, hnc2, hm2, ?_, ?_⟩⟩
            · simp only [List.size_toArray, List.length_append, List.length_take, List.length_drop, Array.length_toList, List.length_cons, List.length_nil]
              omega
            · have hcl : cur.toList.length = cap2 := by simpa using hs2
              rw [← ht2]
              simp only [Nat.mul_one, List.append_assoc]
              rw [List.take_append_of_le_length (by rw [List.length_take]; omega), List.take_take, Nat.min_eq_left hk]
          · refine ⟨hr2.1, .inr ⟨g2, cap2, cur2, rfl, hl2, ?_, hnc2, hm2, hs2, ht2⟩⟩
            rw [setRow_other w g g2 _ he]; exact hg2
    · obtain ⟨v', w', r1, r2, r3⟩ := run_append_arg_grows (P := Tryz.prog) w 31 ty 103 i0 (.int .u32 0) 1 4 Tryz.underlying31 hi hz0 hz1 hz2 rfl (by decide) ⟨g, 0, none⟩ n cap ys (by simpa using hown.1) (fun j u hj => hown.cells (g := g) (by simp [Value.ownBlock]) j u hj) ⟨s, 0, none⟩ 1 1 [x] rfl hnews (by omega) (by unfold maxLen; omega) (by omega)
      exact ⟨v', w', r1, mono _ _ _ _ r2, ⟨r3.os, r3.tape, r3.output, r3.size, fun k hk _ => r3.block k hk (by simp)⟩, .inr (newb _ _ n _ r2), fun u k zs hr _ => keep _ r3 u k zs hr⟩

/-- One Nat appended to a row of Nats. -/
theorem append_nat (w : World) (lo : Nat) (v : Value) (n : Nat) (vs : List Value) (x : Value) (s : Nat) (ty : TypeId) (hown : w.ownsRow lo 31 1 v n vs) (hx : w.cell? ⟨s, 0, none⟩ = some x) (h1 : x.oneCell' = true)
    (hbig : n + 1 ≤ 1000000) (hlo : lo ≤ w.heap.size) :
    ∃ g cap w', (Builtin.append_ #[50, 50] ty #[v, .slice (some ⟨s, 0, none⟩) 1 1]).run Tryz.prog w = .ok (.slice (some ⟨g, 0, none⟩) (n + 1) cap) w' ∧ w'.ownsRow lo 31 1 (.slice (some ⟨g, 0, none⟩) (n + 1) cap) (n + 1) (vs ++ [x]) ∧ w.grownBy w' v.ownBlock ∧ Keep w w' := by
  obtain ⟨i0, hi, hz0, hz1, hz2⟩ := info_parts Tryz.info31
  have hnews : ∀ j u, [x][j]? = some u → w.cell? ((⟨s, 0, none⟩ : Addr).add j) = some u := by
    intro j u hj
    match j, hj with
    | 0, hj => simp at hj; subst hj; simpa [Addr.add] using hx
  have h1' : ∀ u ∈ [x], u.oneCell' = true := by intro u hu; simp at hu; subst hu; exact h1
  obtain ⟨v', w', r1, r2, r3, _, _⟩ := run_append_own_at (P := Tryz.prog) w lo 50 ty 31 i0 (.slice none 0 0) 1 24 Tryz.underlying50 hi hz0 hz1 hz2 rfl (by decide) v n vs hown ⟨s, 0, none⟩ 1 1 [x] rfl hnews h1' (by unfold maxLen; omega) (by omega) hlo
  have hk : Keep w w' := by
    intro g cur te ht1 ht2 hg
    rw [r3.block g (Array.getElem?_eq_some_iff.1 hg).1]
    · exact hg
    · intro e
      rcases hown.2 with ⟨rfl, _⟩ | ⟨g2, cap2, cur2, rfl, _, hg2, _⟩
      · simp [Value.ownBlock] at e
      · simp [Value.ownBlock] at e
        subst e
        rw [hg] at hg2
        cases hg2
        exact ht1 rfl
  rcases r2.2 with ⟨_, h0⟩ | ⟨g, cap, cur, rfl, rest⟩
  · omega
  · exact ⟨g, cap, w', r1, r2, r3, hk⟩

/-- The law for the walk, of whatever slices. -/
theorem wpList_append_run2 {w : World} {ops : Array Oper} {rest : List Oper} {o : Oper} {a : Act} {Q : Exit → Act → World → Prop} (hgd : o.guard = none) (s x : Operand) (t : TypeId)
    (ho : o.op = .call { callee := .builtin .append, args := #[s, x], argTypes := #[t, t] }) (v u : Value) (hs : a.eval s = v) (hx : a.eval x = u) (v' : Value) (w' : World)
    (hrun : (Builtin.append_ #[t, t] o.type #[v, u]).run Tryz.prog w = .ok v' w') (h : wpList Tryz.prog ops Q rest (a.put o.dst v') w') : wpList Tryz.prog ops Q (o :: rest) a w := by
  refine wpList_plain hgd fun K hK => ?_
  unfold Oper.wp
  simp [execOp, ho, resolve, invoke, builtin, hs, hx, hrun, Result.andThen]
  exact hK _ _ h

/-- A book of Nats at block h. -/
def Bk (lo : Nat) (w : World) (h : Nat) (vs : List Value) : Prop := lo ≤ h ∧ ∃ v, w.heap[h]? = some (.cells #[v] 52 (0, 0)) ∧ w.ownsRow lo 31 1 v vs.length vs

theorem Bk.made (lo : Nat) (w : World) (hlo : lo ≤ w.heap.size) : Bk lo (w.alloc (.cells #[.slice none 0 0] 52)) w.heap.size [] :=
  ⟨hlo, _, heap_alloc_new w _, World.ownsRow_nil _ _ _ _⟩

set_option maxHeartbeats 1000000 in
theorem take_any (lo h : Nat) (vs : List Value) (ao : Option Addr) (n cap : Nat) (w : World) (hB : Bk lo w h vs) (hlen : vs.length ≤ 1000) (hlo : lo ≤ w.heap.size) :
    Calls Tryz.prog 23 #[.pointer (some ⟨h, 0, none⟩), .slice ao n cap] w fun r w' => r = .returned (.tuple #[]) ∧ Bk lo w' h (vs ++ [.slice ao n cap]) ∧ Keep w w' ∧ Below lo w w' ∧ w.heap.size ≤ w'.heap.size := by
  obtain ⟨hlh, v, hv, hrow⟩ := hB
  have hhl := (Array.getElem?_eq_some_iff.1 hv).1
  have hc : w.cell? ⟨h, 0, none⟩ = some v := by simp [World.cell?, hv]
  have hrow1 : (w.alloc (.cells #[.slice ao n cap] 31)).ownsRow lo 31 1 v vs.length vs := hrow.alloc _
  obtain ⟨g, cap', w', hap, hown, hgrow, hkeep⟩ := append_nat (w.alloc (.cells #[.slice ao n cap] 31)) lo v vs.length vs (.slice ao n cap) w.heap.size 50 hrow1 (by unfold World.cell?; simp only [heap_alloc_new]; rfl) rfl (by omega) (by simp; omega)
  have hvh : v.ownBlock ≠ some h := by
    intro e
    rcases hrow.2 with ⟨rfl, _⟩ | ⟨g2, cap2, cur2, rfl, _, hg2, _⟩
    · simp [Value.ownBlock] at e
    · simp [Value.ownBlock] at e
      subst e
      rw [hv] at hg2
      cases hg2
  have hh' : w'.heap[h]? = some (.cells #[v] 52 (0, 0)) := by
    rw [hgrow.block h (by simp; omega) (fun e => hvh e.symm), Below.heap_alloc _ _ _ hhl]; exact hv
  have hf' : w'.frozen? ⟨h, 0, none⟩ = false := by simp [World.frozen?, hh']
  have hc' : w'.cell? ⟨h, 0, none⟩ = some v := by simp [World.cell?, hh']
  have hgh : g ≠ h := by
    intro e
    subst e
    rcases hown.2 with ⟨e, _⟩ | ⟨g2, cap2, cur2, e, _, hg2, _⟩
    · cases e
    · cases e
      rw [hh'] at hg2
      cases hg2
  have hbel : Below lo w w' := ((Below.refl lo w).alloc hlo _).grown hgrow (by simp; omega) (fun k hk => by
    rcases hrow.2 with ⟨rfl, _⟩ | ⟨g2, cap2, cur2, rfl, hl2, _⟩
    · simp [Value.ownBlock] at hk
    · simp [Value.ownBlock] at hk; omega)
  have hsz : w.heap.size ≤ w'.heap.size := by have := hgrow.size; simp at this; omega
  have HX := (Aside.intro (And.intro hown (And.intro hkeep (And.intro hh' (And.intro hgh (And.intro hbel (And.intro hlh hsz)))))))
  clear hown hkeep hh' hgh hbel hlh hsz hgrow hvh hrow1 hrow hv hhl
  have HAP := hid hap
  clear hap
  go_enter Tryz.func23, Tryz.ntmps23
  go_wp2_with (at_builtin; refine wpList_append_run2 rfl (.tmp 8) (.tmp 10) 50 rfl _ _ rfl rfl _ _ HAP.out ?_)
  go_end0
  obtain ⟨hown, hkeep, hh', hgh, hbel, hlh, hsz⟩ := HX.out
  refine ⟨rfl, ⟨hlh, .slice (some ⟨g, 0, none⟩) (vs.length + 1) cap', ?_, ?_⟩, ?_, ?_, by simpa [World.setCell] using hsz⟩
  · simp only [World.setCell, Array.getElem?_modify, hh']
    simp
  · have h1 := row_setOther hown ⟨h, 0, none⟩ (.slice (some ⟨g, 0, none⟩) (vs.length + 1) cap') (by simp [Value.ownBlock]; exact hgh)
    simpa using h1
  · intro b cur te ht1 ht2 hb
    have h1 : (w.alloc (.cells #[.slice ao n cap] 31)).heap[b]? = some (.cells cur te (0, 0)) := by rw [Below.heap_alloc _ _ _ (Array.getElem?_eq_some_iff.1 hb).1]; exact hb
    have h2 := hkeep b cur te ht1 ht2 h1
    rw [Below.heap_setCell _ _ _ _ (fun e => by
      subst e
      rw [hh'] at h2
      cases h2
      exact ht2 rfl)]
    exact h2
  · exact hbel.trans ⟨rfl, rfl, rfl, by simp [World.setCell], fun k hk => Below.heap_setCell _ _ _ _ (by simp; omega)⟩
end Go.Proofs.YtjpaocgimdinmaaGreatDoor

/- What Owned keeps to, phase by phase. -/
namespace Go.Proofs.YtjpaocgimdinmaaGreatDoor
open Go.RowKit
set_option linter.unusedVariables false
set_option maxRecDepth 20000

def slen : Value → Nat
  | .slice _ n _ => n
  | _ => 0
def nth (vs : List Value) (i : Nat) : Value := vs.getD i (.slice none 0 0)

theorem Rw.len {lo : Nat} {w : World} {v : Value} {n : Nat} {ys : List Value} (h : Rw lo w v n ys) : slen v = n := by
  rcases h.2 with ⟨rfl, h0⟩ | ⟨g, cap, cur, rfl, _⟩
  · exact h0.symm
  · rfl

theorem Rw.lt {lo : Nat} {w : World} {v : Value} {n : Nat} {ys : List Value} (h : Rw lo w v n ys) (b : Nat) (hb : v.ownBlock = some b) : lo ≤ b ∧ b < w.heap.size ∧ ∃ cur, w.heap[b]? = some (.cells cur 103 (0, 0)) := by
  rcases h.2 with ⟨rfl, h0⟩ | ⟨g, cap, cur, rfl, hlo, hg, _⟩
  · cases hb
  · cases hb
    exact ⟨hlo, (Array.getElem?_eq_some_iff.1 hg).1, cur, hg⟩

theorem Rw.noneLen {lo : Nat} {w : World} {v : Value} {n : Nat} {ys : List Value} (h : Rw lo w v n ys) (hb : v.ownBlock = none) : n = 0 := by
  rcases h.2 with ⟨rfl, h0⟩ | ⟨g, cap, cur, rfl, _⟩
  · exact h0
  · cases hb

/-- Nats of one's own, in rows apart. -/
structure Nice (lo : Nat) (w : World) (vs : List Value) : Prop where
  rows : ∀ i, i < vs.length → ∃ ys, Rw lo w (nth vs i) (slen (nth vs i)) ys
  small : ∀ i, i < vs.length → slen (nth vs i) ≤ 35184372088000
  apart : ∀ i j, i < vs.length → j < vs.length → i ≠ j → ∀ b, (nth vs i).ownBlock = some b → (nth vs j).ownBlock ≠ some b

def mrk (i : Nat) : Value := .int .u32 (1000 + (i : Int))

/-- Phase 1: k words of Nat i are written, and all of the Nats ahead of it. -/
structure P1 (lo h : Nat) (v : Value) (vs : List Value) (w : World) (i k : Nat) (wr : World) : Prop where
  book : wr.heap[h]? = some (.cells #[v] 52 (0, 0))
  list : wr.ownsRow lo 31 1 v vs.length vs
  below : Below lo w wr
  size : wr.heap.size = w.heap.size
  rows : ∀ j, j < vs.length → ∃ ys, Rw lo wr (nth vs j) (slen (nth vs j)) ys ∧ (j < i → ys = List.replicate (slen (nth vs j)) (mrk j)) ∧ (j = i → ys.take k = List.replicate k (mrk i))

theorem P1.start {lo h : Nat} {v : Value} {vs : List Value} {w : World} (hv : w.heap[h]? = some (.cells #[v] 52 (0, 0))) (hl : w.ownsRow lo 31 1 v vs.length vs) (hN : Nice lo w vs) : P1 lo h v vs w 0 0 w :=
  ⟨hv, hl, Below.refl _ _, rfl, fun j hj => by
    obtain ⟨ys, hy⟩ := hN.rows j hj
    exact ⟨ys, hy, fun h => absurd h (by omega), fun _ => by simp⟩⟩

theorem P1.next {lo h : Nat} {v : Value} {vs : List Value} {w wr : World} {i : Nat} (H : P1 lo h v vs w i (slen (nth vs i)) wr) : P1 lo h v vs w (i + 1) 0 wr :=
  ⟨H.book, H.list, H.below, H.size, fun j hj => by
    obtain ⟨ys, hy, a, b⟩ := H.rows j hj
    refine ⟨ys, hy, fun h => ?_, fun _ => by simp⟩
    by_cases e : j = i
    · subst e
      have h1 := b rfl
      have hl : ys.length = slen (nth vs j) := by simpa using hy.1
      rwa [← hl, List.take_length, hl] at h1
    · exact a (by omega)⟩

theorem P1.step {lo h : Nat} {v : Value} {vs : List Value} {w wr : World} {i k g n cap : Nat} (H : P1 lo h v vs w i k wr) (hN : Nice lo w vs) (hi : i < vs.length) (hV : nth vs i = .slice (some ⟨g, 0, none⟩) n cap) (hk : k < n) :
    P1 lo h v vs w i (k + 1) (wr.setCell ⟨g, k, none⟩ (mrk i)) := by
  obtain ⟨ys0, hy0, _, _⟩ := H.rows i hi
  obtain ⟨hlg, _, cur, hcur⟩ := hy0.lt g (by rw [hV]; rfl)
  have hgh : h ≠ g := by intro e; subst e; rw [H.book] at hcur; cases hcur
  have hvg : v.ownBlock ≠ some g := by
    intro e
    rcases H.list.2 with ⟨rfl, _⟩ | ⟨g2, cap2, cur2, rfl, _, hg2, _⟩
    · cases e
    · cases e; rw [hcur] at hg2; cases hg2
  refine ⟨?_, row_setOther H.list _ _ hvg, H.below.trans ⟨rfl, rfl, rfl, by simp [World.setCell], fun b hb => Below.heap_setCell _ _ _ _ (by simp; omega)⟩, by simpa [World.setCell] using H.size, fun j hj => ?_⟩
  · rw [Below.heap_setCell _ _ _ _ hgh]; exact H.book
  · obtain ⟨ys, hy, a, b⟩ := H.rows j hj
    by_cases e : j = i
    · subst e
      rw [hV] at hy ⊢
      have h1 := row_set hy k hk (mrk j)
      have hl : ys.length = n := by simpa [slen] using hy.1
      refine ⟨ys.set k (mrk j), h1, fun h => absurd h (by omega), fun _ => ?_⟩
      rw [List.take_succ_eq_append_getElem (by simp; omega), List.take_set_of_le (Nat.le_refl _), b rfl, List.replicate_succ']
      simp
    · refine ⟨ys, row_setOther hy _ _ (fun e2 => hN.apart i j hi hj (fun e3 => e e3.symm) g (by rw [hV]; rfl) e2), a, fun h => absurd h e⟩

/-- Phase 2, ahead of Nat i: what stands in the list, and what is still to come. -/
structure P2 (lo h : Nat) (v : Value) (vs : List Value) (w : World) (i c d : Nat) (av : Value) (es : List Value) (x : Value) (wr : World) : Prop where
  book : wr.heap[h]? = some (.cells #[v] 52 (0, 0))
  list : wr.ownsRow lo 31 1 v vs.length vs
  below : Below lo w wr
  size : w.heap.size ≤ wr.heap.size
  all : wr.ownsRow w.heap.size 31 1 av es.length es
  len : es.length = 5 * i + d
  come : ∀ j, i < j → j < vs.length → Rw lo wr (nth vs j) (slen (nth vs j)) (List.replicate (slen (nth vs j)) (mrk j))
  old : ∀ j, j < es.length → Rw lo wr (nth es j) (slen (nth es j)) (List.replicate (slen (nth es j)) (mrk (j / 5)))
  row : Rw lo wr x (slen x) (List.replicate (slen x) (mrk i))
  more : slen x = slen (nth vs i) + c
  less : ∀ j, j < es.length → (nth es j).ownBlock = x.ownBlock → slen (nth es j) ≤ slen x
  off : ∀ j, i < j → j < vs.length → ∀ b, (nth vs j).ownBlock = some b → x.ownBlock ≠ some b ∧ ∀ k, k < es.length → (nth es k).ownBlock ≠ some b

/-- Between two Nats. -/
structure P2o (lo h : Nat) (v : Value) (vs : List Value) (w : World) (i : Nat) (av : Value) (es : List Value) (wr : World) : Prop where
  book : wr.heap[h]? = some (.cells #[v] 52 (0, 0))
  list : wr.ownsRow lo 31 1 v vs.length vs
  below : Below lo w wr
  size : w.heap.size ≤ wr.heap.size
  all : wr.ownsRow w.heap.size 31 1 av es.length es
  len : es.length = 5 * i
  come : ∀ j, i ≤ j → j < vs.length → Rw lo wr (nth vs j) (slen (nth vs j)) (List.replicate (slen (nth vs j)) (mrk j))
  old : ∀ j, j < es.length → Rw lo wr (nth es j) (slen (nth es j)) (List.replicate (slen (nth es j)) (mrk (j / 5)))
  off : ∀ j, i ≤ j → j < vs.length → ∀ b, (nth vs j).ownBlock = some b → ∀ k, k < es.length → (nth es k).ownBlock ≠ some b

theorem P2o.start {lo h : Nat} {v : Value} {vs : List Value} {w wr : World} (H : P1 lo h v vs w vs.length 0 wr) : P2o lo h v vs w 0 (.slice none 0 0) [] wr :=
  ⟨H.book, H.list, H.below, by rw [H.size]; exact Nat.le_refl _, World.ownsRow_nil _ _ _ _, rfl, fun j _ hj => by
    obtain ⟨ys, hy, a, _⟩ := H.rows j hj
    rw [← a hj]; exact hy, fun j hj => absurd hj (by simp), fun _ _ _ _ _ k hk => absurd hk (by simp)⟩

theorem P2o.enter {lo h : Nat} {v : Value} {vs : List Value} {w wr : World} {i : Nat} {av : Value} {es : List Value} (H : P2o lo h v vs w i av es wr) (hN : Nice lo w vs) (hi : i < vs.length) :
    P2 lo h v vs w i 0 0 av es (nth vs i) wr :=
  ⟨H.book, H.list, H.below, H.size, H.all, H.len, fun j h1 h2 => H.come j (by omega) h2, H.old, H.come i (Nat.le_refl _) hi, rfl, fun j hj e => by
    rcases hb : (nth vs i).ownBlock with _ | b
    · rw [hb] at e
      have := (H.old j hj).noneLen e
      omega
    · rw [hb] at e
      exact absurd e (H.off i (Nat.le_refl _) hi b hb j hj), fun j h1 h2 b hb => ⟨fun e => hN.apart i j hi h2 (by omega) b e hb, H.off j (by omega) h2 b hb⟩⟩

theorem P2.leave {lo h : Nat} {v : Value} {vs : List Value} {w wr : World} {i : Nat} {av x : Value} {es : List Value} {c : Nat} (H : P2 lo h v vs w i c 5 av es x wr) : P2o lo h v vs w (i + 1) av es wr :=
  ⟨H.book, H.list, H.below, H.size, H.all, by rw [H.len]; omega, fun j h1 h2 => H.come j (by omega) h2, H.old, fun j h1 h2 b hb => (H.off j (by omega) h2 b hb).2⟩

theorem nth_append_lt (es : List Value) (x : Value) (j : Nat) (h : j < es.length) : nth (es ++ [x]) j = nth es j := by
  simp [nth, List.getD_eq_getElem?_getD, List.getElem?_append_left h]
theorem nth_append_eq (es : List Value) (x : Value) : nth (es ++ [x]) es.length = x := by
  simp [nth, List.getD_eq_getElem?_getD]

/-- The list takes the Nat. -/
theorem P2.take {lo h : Nat} {v : Value} {vs : List Value} {w wr w' : World} {i c d : Nat} {av av' x : Value} {es : List Value} (H : P2 lo h v vs w i c d av es x wr) (hd : d < 5) (hlo : lo ≤ w.heap.size) (hh : h < w.heap.size) (hvl : ∀ b, v.ownBlock = some b → b < w.heap.size) (o : Obj)
    (hown : w'.ownsRow w.heap.size 31 1 av' (es.length + 1) (es ++ [x])) (hgrow : (wr.alloc o).grownBy w' av.ownBlock) (hkeep : Keep (wr.alloc o) w') :
    P2 lo h v vs w i c (d + 1) av' (es ++ [x]) x w' := by
  have hs := H.size
  have hav : ∀ b, av.ownBlock = some b → w.heap.size ≤ b := by
    intro b hb
    rcases H.all.2 with ⟨rfl, _⟩ | ⟨g, cap, cur, rfl, hl, _⟩
    · cases hb
    · cases hb; exact hl
  have hblk : ∀ b, b < w.heap.size → w'.heap[b]? = wr.heap[b]? := by
    intro b hb
    rw [hgrow.block b (by simp; omega) (fun e => by have := hav b e.symm; omega), Below.heap_alloc _ _ _ (by omega)]
  have hk : Keep wr w' := Keep.trans (fun g cur _ _ _ e => by rw [Below.heap_alloc _ _ _ (Array.getElem?_eq_some_iff.1 e).1]; exact e) hkeep
  refine ⟨by rw [hblk h hh]; exact H.book, row_other H.list (fun g hg => hblk g (hvl g hg)), ?_, by have := hgrow.size; simp at this; omega, by simpa using hown, by simp [H.len]; omega, fun j h1 h2 => Keep.row (H.come j h1 h2) hk, ?_, Keep.row H.row hk, H.more, ?_, ?_⟩
  · exact ((H.below.alloc (by omega) o).grown hgrow (by simp; omega) (fun k hk => by have := hav k hk; omega))
  · intro j hj
    by_cases e : j = es.length
    · subst e
      rw [nth_append_eq, show es.length / 5 = i by rw [H.len]; omega]
      exact Keep.row H.row hk
    · simp at hj
      rw [nth_append_lt _ _ _ (by omega)]
      exact Keep.row (H.old j (by omega)) hk
  · intro j hj e2
    by_cases e : j = es.length
    · subst e
      rw [nth_append_eq]; exact Nat.le_refl _
    · simp at hj
      rw [nth_append_lt _ _ _ (by omega)] at e2 ⊢
      exact H.less j (by omega) e2
  · intro j h1 h2 b hb
    obtain ⟨a1, a2⟩ := H.off j h1 h2 b hb
    refine ⟨a1, fun k hk2 => ?_⟩
    by_cases e : k = es.length
    · subst e
      rw [nth_append_eq]; exact a1
    · simp at hk2
      rw [nth_append_lt _ _ _ (by omega)]
      exact a2 k (by omega)

/-- The Nat grows by a word. -/
theorem P2.grow {lo h : Nat} {v : Value} {vs : List Value} {w wr w' : World} {i c d : Nat} {av x x' : Value} {es : List Value} (H : P2 lo h v vs w i c d av es x wr) (hlo : lo ≤ w.heap.size) (o : Obj)
    (hown : Rw lo w' x' (slen x + 1) (List.replicate (slen x) (mrk i) ++ [mrk i])) (hgrow : (wr.alloc o).grownBy w' x.ownBlock) (hpl : x'.ownBlock = x.ownBlock ∨ ∃ g, x'.ownBlock = some g ∧ (wr.alloc o).heap.size ≤ g)
    (hkeep : ∀ (u : Value) (k : Nat) (zs : List Value), Rw lo (wr.alloc o) u k zs → (u.ownBlock = x.ownBlock → k ≤ slen x) → Rw lo w' u k zs) :
    P2 lo h v vs w i (c + 1) d av es x' w' := by
  have hs := H.size
  have hl' := hown.len
  have hxb : ∀ b, x.ownBlock = some b → ∃ cur, wr.heap[b]? = some (.cells cur 103 (0, 0)) := fun b hb => (H.row.lt b hb).2.2
  have hblk : ∀ b, b < wr.heap.size → x.ownBlock ≠ some b → w'.heap[b]? = wr.heap[b]? := by
    intro b hb hx
    rw [hgrow.block b (by simp; omega) (fun e => hx e.symm), Below.heap_alloc _ _ _ hb]
  have hnb : ∀ b, wr.heap[b]? = some (.cells #[v] 52 (0, 0)) → x.ownBlock ≠ some b := by
    intro b hb e
    obtain ⟨cur, hc⟩ := hxb b e
    rw [hb] at hc; cases hc
  have hrow24 : ∀ (l : Nat) (u : Value) (n : Nat) (zs : List Value), wr.ownsRow l 31 1 u n zs → w'.ownsRow l 31 1 u n zs := by
    intro l u n zs hr
    refine row_other hr fun g hg => ?_
    rcases hr.2 with ⟨rfl, _⟩ | ⟨g2, cap, cur, rfl, _, hg2, _⟩
    · cases hg
    · cases hg
      refine hblk g2 (Array.getElem?_eq_some_iff.1 hg2).1 (fun e => ?_)
      obtain ⟨cur', hc⟩ := hxb g2 e
      rw [hg2] at hc; cases hc
  have hlow : ∀ b, x.ownBlock = some b → lo ≤ b := fun b hb => (H.row.lt b hb).1
  refine ⟨by rw [hblk h (Array.getElem?_eq_some_iff.1 H.book).1 (hnb h H.book)]; exact H.book, hrow24 _ _ _ _ H.list, ?_, by have := hgrow.size; simp at this; omega, hrow24 _ _ _ _ H.all, H.len, ?_, ?_, ?_, by rw [hl', H.more]; omega, ?_, ?_⟩
  · exact ((H.below.alloc (by omega) o).grown hgrow (by simp; omega) hlow)
  · intro j h1 h2
    refine hkeep _ _ _ ((H.come j h1 h2).alloc o) (fun e => ?_)
    rcases hb : (nth vs j).ownBlock with _ | b
    · have := (H.come j h1 h2).noneLen hb
      omega
    · exact absurd (by rw [← e, hb]) (H.off j h1 h2 b hb).1
  · intro j hj
    exact hkeep _ _ _ ((H.old j hj).alloc o) (fun e => H.less j hj e)
  · rw [hl', List.replicate_succ']
    exact hown
  · intro j hj e
    rw [hl']
    rcases hpl with h1 | ⟨g, h1, h2⟩
    · have := H.less j hj (e.trans h1); omega
    · have := (H.old j hj).lt g (e.trans h1)
      simp at h2
      omega
  · intro j h1 h2 b hb
    obtain ⟨a1, a2⟩ := H.off j h1 h2 b hb
    refine ⟨?_, a2⟩
    rcases hpl with h3 | ⟨g, h3, h4⟩
    · rw [h3]; exact a1
    · rw [h3]
      intro e
      cases e
      have := (H.come j h1 h2).lt _ hb
      simp at h4
      omega
end Go.Proofs.YtjpaocgimdinmaaGreatDoor

/- The document's Owned. -/
namespace Go.Proofs.YtjpaocgimdinmaaGreatDoor
open Go.RowKit
set_option linter.unusedVariables false
set_option maxRecDepth 20000

theorem list_shape {lo : Nat} {w : World} {v : Value} {vs : List Value} (h : w.ownsRow lo 31 1 v vs.length vs) (hm : 0 < vs.length) :
    ∃ g cap, v = .slice (some ⟨g, 0, none⟩) vs.length cap ∧ vs.length ≤ cap := by
  rcases h.2 with ⟨_, h0⟩ | ⟨g, cap, cur, rfl, _, _, hn, _⟩
  · omega
  · exact ⟨g, cap, rfl, hn⟩

theorem list_cell {lo : Nat} {w : World} {g n cap : Nat} {vs : List Value} (h : w.ownsRow lo 31 1 (.slice (some ⟨g, 0, none⟩) n cap) vs.length vs) (i : Nat) (hi : i < vs.length) : w.cell? ⟨g, i, none⟩ = some (nth vs i) := by
  have h1 := h.cells (g := g) (by simp [Value.ownBlock]) i (nth vs i) (by simp [nth, hi])
  have e : (⟨g, 0, none⟩ : Addr).add i = ⟨g, i, none⟩ := by unfold Addr.add; split <;> simp_all
  rw [e] at h1
  exact h1

theorem Rw.cell {lo : Nat} {w : World} {g n cap : Nat} {ys : List Value} (h : Rw lo w (.slice (some ⟨g, 0, none⟩) n cap) n ys) (k : Nat) (u : Value) (hk : ys[k]? = some u) : w.cell? ⟨g, k, none⟩ = some u := by
  have h1 := h.cells (g := g) (by simp [Value.ownBlock]) k u hk
  have e : (⟨g, 0, none⟩ : Addr).add k = ⟨g, k, none⟩ := by unfold Addr.add; split <;> simp_all
  rw [e] at h1
  exact h1

theorem Rw.frozen {lo : Nat} {w : World} {g n cap : Nat} {ys : List Value} (h : Rw lo w (.slice (some ⟨g, 0, none⟩) n cap) n ys) (k : Nat) : w.frozen? ⟨g, k, none⟩ = false := by
  rcases h.2 with ⟨e, _⟩ | ⟨g2, cap2, cur2, e, _, hg2, _⟩
  · cases e
  · cases e
    simp [World.frozen?, hg2]

theorem Rw.shape {lo : Nat} {w : World} {v : Value} {n : Nat} {ys : List Value} (h : Rw lo w v n ys) : ∃ ao cap, v = .slice ao n cap ∧ n ≤ cap ∧ cap ≤ maxLen ∧ (0 < n → ∃ g, ao = some ⟨g, 0, none⟩) := by
  rcases h.2 with ⟨rfl, h0⟩ | ⟨g, cap, cur, rfl, _, _, hn, hm, _⟩
  · exact ⟨none, 0, by rw [h0], by omega, by unfold maxLen; omega, fun h => absurd h (by omega)⟩
  · exact ⟨_, cap, rfl, hn, hm, fun _ => ⟨g, rfl⟩⟩

set_option maxHeartbeats 4000000 in
set_option maxRecDepth 100000 in
theorem owned_any (lo h : Nat) (vs : List Value) (w : World) (hB : Bk lo w h vs) (hN : Nice lo w vs) (hm : 0 < vs.length) (hm2 : vs.length ≤ 100) (hlo : lo ≤ w.heap.size) :
    Calls Tryz.prog 24 #[.pointer (some ⟨h, 0, none⟩)] w fun r w' => r = .returned (.bool true) ∧ Below lo w w' := by
  obtain ⟨hlh, v, hv, hrow⟩ := hB
  have hhl := (Array.getElem?_eq_some_iff.1 hv).1
  obtain ⟨gv, capv, rfl, hcapv⟩ := list_shape hrow hm
  have hvl : ∀ b, (Value.slice (some ⟨gv, 0, none⟩) vs.length capv).ownBlock = some b → b < w.heap.size := by
    intro b hb
    rcases hrow.2 with ⟨e, _⟩ | ⟨g2, cap2, cur2, e, _, hg2, _⟩
    · cases e
    · cases e; cases hb; exact (Array.getElem?_eq_some_iff.1 hg2).1
  have H0 := P1.start hv hrow hN
  obtain ⟨m, hmm⟩ : ∃ m, vs.length = m := ⟨_, rfl⟩
  have HX := (Aside.intro (And.intro hlh (And.intro hlo (And.intro hhl (And.intro hvl (And.intro hN (And.intro hmm H0)))))))
  rw [hmm] at hm hm2 hcapv
  clear hlh hlo hhl hvl hN hv hrow H0
  go_enter Tryz.func24, Tryz.ntmps24
  go_wp2
  go_loopg [3] m (fun gk iv wr => ∃ (i : Nat), gk + i = m ∧ iv = .int .i64 (i : Nat) ∧ Aside (P1 lo h (.slice (some ⟨gv, 0, none⟩) vs.length capv) vs w i 0 wr))
  case atStart => exact ⟨0, by omega, rfl, HX.out.2.2.2.2.2.2⟩
  case round =>
    obtain ⟨i, hi, rfl, HA⟩ := hrel
    have hcb : wr.cell? ⟨h, 0, none⟩ = some (.slice (some ⟨gv, 0, none⟩) vs.length capv) := by simp [World.cell?, HA.out.book]
    rw [hmm] at hcb
    by_cases him : i = m
    · obtain rfl : gk = 0 := by omega
      have him2 : m = i := him.symm
      have H2 : Aside (P2o lo h (.slice (some ⟨gv, 0, none⟩) vs.length capv) vs w 0 (.slice none 0 0) [] wr) := by
        have h1 := HA.out
        rw [him, ← hmm] at h1
        exact P2o.start h1
      clear HA hi him
      subst him2
      go_wp2
      clear hcb
      go_loopg [5, 6] m (fun gk av iv w2 => ∃ (i : Nat) (es : List Value), gk + i = m ∧ iv = .int .i64 (i : Nat) ∧ Aside (P2o lo h (.slice (some ⟨gv, 0, none⟩) vs.length capv) vs w i av es w2))
      case atStart => exact ⟨0, [], by omega, rfl, H2⟩
      case round =>
        obtain ⟨i, es, hi, rfl, HA⟩ := hrel
        clear H2
        have hcb : wr.cell? ⟨h, 0, none⟩ = some (.slice (some ⟨gv, 0, none⟩) vs.length capv) := by simp [World.cell?, HA.out.book]
        rw [hmm] at hcb
        by_cases him : i = m
        · obtain rfl : gk = 0 := by omega
          have hel : es.length = 5 * m := by rw [HA.out.len, him]
          obtain ⟨ga, capa, hav, hcapa⟩ := list_shape HA.out.all (by omega)
          rw [hel] at hav hcapa
          subst hav
          have HA2 := HA
          have him2 : m = i := him.symm
          clear HA him hi
          subst him2
          obtain ⟨W3, hW3⟩ : ∃ W, W = wr := ⟨_, rfl⟩
          go_wp2
          go_loopg [9] (5 * m) (fun gk jv w3 => ∃ (j : Nat), gk + j = 5 * m ∧ jv = .int .i64 (j : Nat) ∧ w3 = W3)
          case atStart => exact ⟨0, by omega, rfl, hW3.symm⟩
          case round =>
            obtain ⟨j, hj, rfl, rfl⟩ := hrel
            subst hW3
            by_cases hjm : j = 5 * m
            · obtain rfl : gk = 0 := by omega
              have hjm2 : (j : Int) = 5 * (m : Int) := by omega
              go_wp2
              go_ret
              exact ⟨rfl, HA2.out.below⟩
            · have hjl : j < 5 * m := by omega
              have hcj := list_cell HA2.out.all j (by omega)
              have hold := HA2.out.old j (by omega)
              obtain ⟨ao, cap, hsh, hnc, hcm, hg⟩ := hold.shape
              obtain ⟨n, hn⟩ : ∃ n, slen (nth es j) = n := ⟨_, rfl⟩
              obtain ⟨q, hq⟩ : ∃ q, j / 5 = q := ⟨_, rfl⟩
              have hq2 : (j : Int) / 5 = (q : Int) := by omega
              have hq3 : q ≤ 100 := by omega
              rw [hn] at hsh hnc hg hold
              rw [hq] at hold
              rw [hsh] at hcj hold
              have HO := hid hold
              clear hold hsh hn hq
              unfold maxLen at hcm
              go_wp2
              go_loopg [10] n (fun gk kv w3 => ∃ (k : Nat), gk + k = n ∧ kv = .int .i64 (k : Nat) ∧ w3 = wr)
              case atStart => exact ⟨0, by omega, rfl, rfl⟩
              case round =>
                obtain ⟨k, hk, rfl, rfl⟩ := hrel
                by_cases hkn : k = n
                · obtain rfl : gk = 0 := by omega
                  subst hkn
                  go_wp2
                  go_roundg (5 * m - (j + 1))
                  case measure => omega
                  case rel => exact ⟨j + 1, by omega, by first | go_num | (congr 1; omega), rfl⟩
                · have hkl : k < n := by omega
                  obtain ⟨g, rfl⟩ := hg (by omega)
                  have hck := Rw.cell HO.out k (mrk q) (by simp [hkl])
                  unfold mrk at hck
                  go_wp2
                  go_roundg (gk - 1)
                  case measure => omega
                  case rel => exact ⟨k + 1, by omega, by first | go_num | (congr 1; omega), rfl⟩
        · have hil : i < m := by omega
          have hil2 : i < vs.length := by omega
          have hcv := list_cell HA.out.list i hil2
          obtain ⟨hlh, hlo, hhl, hvl, hN, _, _⟩ := HX.out
          obtain ⟨ao, cap, hsh, hnc, hcm, hg⟩ := (HA.out.come i (Nat.le_refl _) hil2).shape
          obtain ⟨n, hn⟩ : ∃ n, slen (nth vs i) = n := ⟨_, rfl⟩
          have HS : Aside (slen (nth vs i) ≤ 35184372088000) := hN.small i hil2
          have HE : Aside (P2 lo h (.slice (some ⟨gv, 0, none⟩) vs.length capv) vs w i 0 0 u5 es (nth vs i) wr) := P2o.enter HA.out hN hil2
          rw [hn] at hsh hnc
          rw [hsh] at hcv
          have hsh2 := Aside.intro hsh
          clear hlh hlo hhl hvl hN hsh hn HA hg
          unfold maxLen at hcm
          go_wp2
          go_loopg [5, 7, 8] 5 (fun gk av xv kv w2 => ∃ (c : Nat) (es : List Value), gk + c = 5 ∧ kv = .int .i64 (c : Nat) ∧ Aside (P2 lo h (.slice (some ⟨gv, 0, none⟩) vs.length capv) vs w i c c av es xv w2))
          case atStart => exact ⟨0, es, by omega, rfl, by rw [← hsh2.out]; exact HE⟩
          case round =>
            obtain ⟨c, es, hc, rfl, HA⟩ := hrel
            clear hcb hcv HE
            by_cases hc5 : c = 5
            · obtain rfl : gk = 0 := by omega
              subst hc5
              have HL := Aside.intro (P2.leave HA.out)
              clear HA
              go_wp2
              go_roundg (m - (i + 1))
              case measure => omega
              case rel => exact ⟨i + 1, _, by omega, by first | go_num | (congr 1; omega), HL⟩
            · have hcl : c < 5 := by omega
              obtain ⟨hlh, hlo, hhl, hvl, hN, _, _⟩ := HX.out
              obtain ⟨ao, cap, hsh, _, _, _⟩ := HA.out.row.shape
              obtain ⟨n, hn⟩ : ∃ n, slen u7 = n := ⟨_, rfl⟩
              have hns : n ≤ 35184372088005 := by have h1 := HA.out.more; have h2 := HS.out; omega
              rw [hn] at hsh
              have H1 := HA.out
              subst hsh
              obtain ⟨ga, capa, w1, hap1, hown1, hgrow1, hkeep1⟩ := append_nat (wr.alloc (.cells #[.slice ao n cap] 31)) w.heap.size u5 es.length es (.slice ao n cap) wr.heap.size 50 (H1.all.alloc _) (by unfold World.cell?; simp only [heap_alloc_new]; rfl) rfl (by have := H1.len; omega) (by have := H1.size; simp; omega)
              have H3 := P2.take H1 hcl hlo hhl hvl _ hown1 hgrow1 hkeep1
              obtain ⟨x', w2, hap2, hown2, hgrow2, hpl2, hkeep2⟩ := append_word (w1.alloc (.cells #[mrk i] 103)) lo (.slice ao n cap) n (List.replicate n (mrk i)) (mrk i) w1.heap.size 31 (H3.row.alloc _) (by unfold World.cell?; simp only [heap_alloc_new]; rfl) rfl (by omega) (by have := H3.size; simp; omega)
              have H4 := Aside.intro (P2.grow H3 hlo _ hown2 hgrow2 hpl2 hkeep2)
              unfold mrk at hap2
              have HAP1 := hid hap1
              have HAP2 := hid hap2
              clear hap1 hap2 hown1 hgrow1 hkeep1 H3 hown2 hgrow2 hpl2 hkeep2 H1 HA hlh hlo hhl hvl hN hc5
              go_wp2_with (first | (at_builtin; refine wpList_append_run2 rfl (.tmp 64) (.tmp 66) 50 rfl _ _ rfl rfl _ _ HAP1.out ?_) | (at_builtin; refine wpList_append_run2 rfl (.tmp 68) (.tmp 72) 31 rfl _ _ rfl rfl _ _ HAP2.out ?_))
              go_roundg (gk - 1)
              case measure => omega
              case rel => exact ⟨c + 1, _, by omega, by first | go_num | (congr 1; omega), H4⟩
    · have hil : i < m := by omega
      have hil2 : i < vs.length := by omega
      obtain ⟨ys, hy, _, _⟩ := HA.out.rows i hil2
      obtain ⟨ao, cap, hsh, hnc, hcm, hg⟩ := hy.shape
      obtain ⟨n, hn⟩ : ∃ n, slen (nth vs i) = n := ⟨_, rfl⟩
      have hns : n ≤ 35184372088000 := hn ▸ HX.out.2.2.2.2.1.small i hil2
      rw [hn] at hsh hnc hg
      clear hy
      go_wp2
      go_loopg [4] n (fun gk2 kv w2 => ∃ (k : Nat), gk2 + k = n ∧ kv = .int .i64 (k : Nat) ∧ Aside (P1 lo h (.slice (some ⟨gv, 0, none⟩) vs.length capv) vs w i k w2))
      case atStart => exact ⟨0, by omega, rfl, HA.out⟩
      case round =>
        obtain ⟨k, hk, rfl, HB⟩ := hrel
        have hcb2 : wr.cell? ⟨h, 0, none⟩ = some (.slice (some ⟨gv, 0, none⟩) vs.length capv) := by simp [World.cell?, HB.out.book]
        have hcv := list_cell HB.out.list i hil2
        rw [hsh] at hcv
        rw [hmm] at hcb2
        by_cases hkn : k = n
        · obtain rfl : gk = 0 := by omega
          have HC : Aside (P1 lo h (.slice (some ⟨gv, 0, none⟩) vs.length capv) vs w (i + 1) 0 wr) := by
            have h1 := HB.out
            rw [hkn, ← hn] at h1
            exact P1.next h1
          clear hn hsh hmm hcb
          subst hkn
          go_wp2
          go_roundg (m - (i + 1))
          case measure => omega
          case rel => exact ⟨i + 1, by omega, by first | go_num | (congr 1; omega), HC⟩
        · have hkl : k < n := by omega
          obtain ⟨g, rfl⟩ := hg (by omega)
          obtain ⟨ys2, hy2, _, _⟩ := HB.out.rows i hil2
          rw [hsh] at hy2
          have hl2 : ys2.length = n := by simpa [slen] using hy2.1
          obtain ⟨yk, hyk⟩ : ∃ y, ys2[k]? = some y := ⟨ys2[k]'(by omega), by simp⟩
          have hgc := Rw.cell hy2 k yk hyk
          have hgf := Rw.frozen hy2 k
          have HC : Aside (P1 lo h (.slice (some ⟨gv, 0, none⟩) vs.length capv) vs w i (k + 1) (wr.setCell ⟨g, k, none⟩ (mrk i))) := P1.step HB.out HX.out.2.2.2.2.1 hil2 hsh hkl
          clear hy2 hyk hn hsh hmm hcb hkn him
          go_wp2
          go_roundg (gk - 1)
          case measure => omega
          case rel =>
            refine ⟨k + 1, by omega, by first | go_num | (congr 1; omega), ?_⟩
            exact HC
end Go.Proofs.YtjpaocgimdinmaaGreatDoor

/- The document's at, Plus, Minus. -/
namespace Go.Proofs.YtjpaocgimdinmaaGreatDoor
open Go.RowKit
set_option linter.unusedVariables false
set_option maxRecDepth 20000

theorem Rw.words {lo : Nat} {w : World} {v : Value} {n : Nat} {L : List Nat} (h : Rw lo w v n (L.map U)) : ∃ ao cap, v = .slice ao n cap ∧ n ≤ cap ∧ n = L.length ∧ (ao = none → cap = 0) ∧ Rd w.heap.size w ao L := by
  have hl : n = L.length := by have := h.1; simp at this; omega
  rcases h.2 with ⟨rfl, h0⟩ | ⟨g, cap, cur, rfl, hlo, hg, hn, hm, hs, ht⟩
  · refine ⟨none, 0, by rw [h0], by omega, hl, fun _ => rfl, ?_⟩
    have : L = [] := List.length_eq_zero_iff.1 (by omega)
    rw [this]; exact Rd.nil _ _ _
  · refine ⟨_, cap, rfl, hn, hl, (fun e => by cases e), fun _ => ⟨g, 0, (Array.getElem?_eq_some_iff.1 hg).1, rfl, fun i hi => ?_⟩⟩
    have h1 := Rw.cell h i (U (L.getD i 0)) (by simp [hi])
    rw [Nat.zero_add]
    exact h1

theorem val_take_all (xs : List Nat) (k : Nat) : val (xs.take (k + 1)) = val (xs.take k) + pw k * xs.getD k 0 := by
  by_cases h : k < xs.length
  · exact val_take_succ xs k h
  · rw [List.take_of_length_le (by omega), List.take_of_length_le (by omega)]
    simp [List.getD_eq_getElem?_getD, List.getElem?_eq_none (show xs.length ≤ k by omega)]

theorem plus_step (p V c a b x y s d : Nat) (h : V + c * p = a + b) (e : s + d * 4294967296 = x + y + c) : (V + p * s) + d * (4294967296 * p) = (a + p * x) + (b + p * y) := carry_step p a b V c x y s d h e

theorem minus_step (p V c a b x y s d : Nat) (h : V + b = a + c * p) (e : s + y + c = x + d * 4294967296) : (V + p * s) + (b + p * y) = (a + p * x) + d * (4294967296 * p) := borrow_step p a b V c x y s d h e

set_option maxHeartbeats 1000000 in
theorem at_any (xs : List Nat) (ao : Option Addr) (n cap B i : Nat) (w : World) (hn : n = xs.length) (hm : n ≤ 70368744177664) (hx : Wf xs) (hR : Rd B w ao xs) (hi : i ≤ 70368744177664) :
    Calls Tryz.prog 157 #[.slice ao n cap, .int .i64 (i : Nat)] w fun r w' => r = .returned (.int .u64 ((xs.getD i 0 : Nat) : Int)) ∧ w' = w := by
  by_cases hin : i < n
  · obtain ⟨b, off, hB, rfl, hcell⟩ := hR (by intro e; subst e; simp at hn; omega)
    have hck := hcell i (by omega)
    have hxl := hx.get i
    obtain ⟨t, ht⟩ : ∃ t, xs.getD i 0 = t := ⟨_, rfl⟩
    rw [ht] at hck hxl ⊢
    clear hcell hR hn hx ht
    go_enter Tryz.func157, Tryz.ntmps157
    go_wp2
    go_ret
    exact ⟨rfl, rfl⟩
  · have e : xs.getD i 0 = 0 := by simp [List.getD_eq_getElem?_getD, List.getElem?_eq_none (show xs.length ≤ i by omega)]
    rw [e]
    clear hR hn hx e
    go_enter Tryz.func157, Tryz.ntmps157
    go_wp2
    go_ret
    exact ⟨rfl, rfl⟩

theorem plus_end (X Y V c n m N : Nat) (hX : X < pw n) (hY : Y < pw m) (hn : n ≤ N) (hm : m ≤ N) (h : V + c * pw (N + 1) = X + Y) : c = 0 := by
  rcases Nat.eq_zero_or_pos c with h0 | h0
  · exact h0
  · exfalso
    have h1 := pw_mono hn
    have h2 := pw_mono hm
    have h3 : 1 * pw (N + 1) ≤ c * pw (N + 1) := Nat.mul_le_mul_right _ h0
    rw [pw_succ] at h3 h
    have := pw_pos N
    omega

set_option maxHeartbeats 2000000 in
theorem rPlus_any (xs ys : List Nat) (ao bo : Option Addr) (n cap m capb B : Nat) (w : World) (hn : n = xs.length) (hm : m = ys.length) (hc : n ≤ cap) (hcb : m ≤ capb) (hbig : n ≤ 35184372088000) (hbig2 : m ≤ 35184372088000)
    (hx : Wf xs) (hy : Wf ys) (hR : Rd B w ao xs) (hS : Rd B w bo ys) (hB : B ≤ w.heap.size) :
    Calls Tryz.prog 91 #[.slice ao n cap, .slice bo m capb] w fun r w' => ∃ v, r = .returned v ∧ Nt w.heap.size w' v (val xs + val ys) ∧ Below w.heap.size w w' := by
  have hX := val_lt xs hx
  have hY := val_lt ys hy
  rw [← hn] at hX
  rw [← hm] at hY
  obtain ⟨N, hN⟩ : ∃ N, N = max n m := ⟨_, rfl⟩
  have hnN : n ≤ N := by omega
  have hmN : m ≤ N := by omega
  have hNb : N ≤ 35184372088000 := by omega
  have HR := (Aside.intro (And.intro hR (And.intro hS (And.intro hn (And.intro hm (And.intro hx (And.intro hy (And.intro hB (And.intro hX (And.intro hY hN))))))))))
  clear hR hS hn hm hx hy hB hX hY hN
  go_enter Tryz.func91, Tryz.ntmps91
  go_wp2
  go_loopg [5, 6, 7] (N + 1) (fun gk ov cv iv wr => ∃ (i c : Nat) (L : List Nat), gk + i = N + 1 ∧ cv = .int .u64 (c : Nat) ∧ c ≤ 1 ∧ iv = .int .i64 (i : Nat) ∧ Hid (Rw w.heap.size wr ov i (L.map U)) ∧ Hid (Below w.heap.size w wr) ∧
      Aside (Wf L ∧ val L + c * pw i = val (xs.take i) + val (ys.take i)))
  case atStart => exact ⟨0, 0, [], by omega, rfl, by omega, rfl, World.ownsRow_nil _ _ _ _, Below.refl _ _, Wf.nil, by simp [val]⟩
  case round =>
    obtain ⟨i, c, L, hgi, rfl, hc1, rfl, HO, HB, HA⟩ := hrel
    by_cases hgo : i < n ∨ i < m ∨ c = 1
    · have hiN : i ≤ N := by
        rcases hgo with h | h | h
        · omega
        · omega
        · by_cases hi1 : i = N + 1
          · exfalso
            obtain ⟨hR, hS, hn, hm, hx, hy, hB, hX, hY, hN⟩ := HR.out
            have h1 := HA.out.2
            rw [List.take_of_length_le (by omega), List.take_of_length_le (by omega), hi1] at h1
            have := plus_end _ _ _ _ _ _ _ hX hY hnN hmN h1
            omega
          · omega
      obtain ⟨hR, hS, hn, hm, hx, hy, hB, hX, hY, hN⟩ := HR.out
      have HA1 := hid (at_any xs ao n cap B i wr hn (by omega) hx (hR.below (HB.out.mono hB)) (by omega))
      have HA2 := hid (at_any ys bo m capb B i wr hm (by omega) hy (hS.below (HB.out.mono hB)) (by omega))
      obtain ⟨x, hxx⟩ : ∃ x, xs.getD i 0 = x := ⟨_, rfl⟩
      obtain ⟨y, hyy⟩ : ∃ y, ys.getD i 0 = y := ⟨_, rfl⟩
      have hxl : x < 4294967296 := hxx ▸ hx.get i
      have hyl : y < 4294967296 := hyy ▸ hy.get i
      rw [hxx] at HA1
      rw [hyy] at HA2
      obtain ⟨s, hs⟩ : ∃ s : Nat, s = (x + y + c) % 4294967296 := ⟨_, rfl⟩
      obtain ⟨d, hd⟩ : ∃ d : Nat, d = (x + y + c) / 4294967296 := ⟨_, rfl⟩
      have e1 : ((x : Int) + y + c) % 4294967296 = (s : Int) := by omega
      have e2 : ((x : Int) + y + c) / 4294967296 = (d : Int) := by omega
      have hsz := HB.out.size
      obtain ⟨v', w', hap, hown, hgrow, _, _⟩ := append_word (wr.alloc (.cells #[.int .u32 (s : Nat)] 103)) w.heap.size u5 i (L.map U) (.int .u32 (s : Nat)) wr.heap.size 31 (HO.out.alloc _) (by unfold World.cell?; simp only [heap_alloc_new]; rfl) rfl (by omega) (by simp; omega)
      have HX : Aside (xs.getD i 0 = x ∧ ys.getD i 0 = y ∧ s + d * 4294967296 = x + y + c ∧ s < 4294967296 ∧ d ≤ 1) := ⟨hxx, hyy, by omega, by omega, by omega⟩
      have hbel : Below w.heap.size w w' := (HB.out.alloc hsz _).grown hgrow (by simp; omega) (fun k hk => (HO.out.lt k hk).1)
      have HI := (Aside.intro (And.intro hown hbel))
      have HAP := hid hap
      clear hap hown hgrow hbel hs hd hxx hyy hR hS hn hm hx hy hB hX hY hN hsz
      have hways : (decide (i < n) = true) ∨ (decide (i < n) = false ∧ decide (i < m) = true) ∨ (decide (i < n) = false ∧ decide (i < m) = false ∧ decide (0 < c) = true) := by
        by_cases a : i < n
        · exact .inl (decide_eq_true (by omega))
        · by_cases b : i < m
          · exact .inr (.inl ⟨decide_eq_false (by omega), decide_eq_true (by omega)⟩)
          · exact .inr (.inr ⟨decide_eq_false (by omega), decide_eq_false (by omega), decide_eq_true (by omega)⟩)
      rcases hways with h1 | ⟨h1, h2⟩ | ⟨h1, h2, h3⟩
      all_goals (
        go_wp2_with fail
        refine (Calls.mono HA1.out) ?_
        rintro r w1 ⟨rfl, rfl⟩
        go_wp2_with fail
        refine (Calls.mono HA2.out) ?_
        rintro r w1 ⟨rfl, rfl⟩
        go_wp2_with (at_builtin; refine wpList_append_run2 rfl (.tmp 34) (.tmp 37) 31 rfl _ _ rfl rfl _ _ HAP.out ?_)
        go_roundg (gk - 1)
        case measure => omega
        case rel =>
          obtain ⟨a1, a2, a3, a4, a5⟩ := HX.out
          obtain ⟨hLw, hLv⟩ := HA.out
          refine ⟨i + 1, d, L ++ [s], by omega, by first | rfl | rw [e2], a5, by first | go_num | (congr 1; omega), by rw [List.map_append]; exact HI.out.1, HI.out.2, hLw.append (Wf.cons a4 Wf.nil), ?_⟩
          have hLl : L.length = i := by have := HO.out.1; simp at this; omega
          rw [val_append, hLl, val_take_all, val_take_all, a1, a2, pw_succ]
          simpa [val] using plus_step (pw i) _ _ _ _ x y s d hLv a3)
    · have hi : N ≤ i := by have := HR.out.2.2.2.2.2.2.2.2.2; omega
      obtain rfl : c = 0 := by omega
      obtain ⟨aoo, capo, hsh, hcap, hl, hnil, hRo⟩ := HO.out.words
      subst hsh
      obtain ⟨hR, hS, hn, hm, hx, hy, hB, hX, hY, hN⟩ := HR.out
      have HNm := hid (rNorm_any L aoo i capo wr.heap.size wr hl hcap (by omega) HA.out.1 hRo hnil)
      have hLv : val L = val xs + val ys := by
        have h1 := HA.out.2
        rw [List.take_of_length_le (by omega), List.take_of_length_le (by omega)] at h1
        omega
      rw [hLv] at HNm
      have h1 : decide (i < n) = false := decide_eq_false (by omega)
      have h2 : decide (i < m) = false := decide_eq_false (by omega)
      clear hR hS hn hm hx hy hB hX hY hN hl hnil hRo hLv hgo HO
      go_wp2_with fail
      refine (Calls.mono HNm.out) ?_
      rintro r w1 ⟨v, rfl, hNt, hb⟩
      have HZ := (Aside.intro (And.intro hNt hb))
      clear hNt hb
      go_wp2
      go_ret
      have hsz := HB.out.size
      exact ⟨v, rfl, HZ.out.1.mono hsz, HB.out.trans (HZ.out.2.mono hsz)⟩
end Go.Proofs.YtjpaocgimdinmaaGreatDoor

