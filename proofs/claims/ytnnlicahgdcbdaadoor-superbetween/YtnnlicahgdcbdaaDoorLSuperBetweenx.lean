/- SuperBetween: the exact value lies between Down and Up, no number does. -/
import Derived.Test.YtnnlicahgdcbdaaDoorD38x
import Derived.Deep.RegionHeld
import Derived.Deep.Cut
import Derived.ProofKit
import Derived.OpenShut
import Derived.ChangeOld
import Derived.ChangeArms
import Derived.SizedLaws
import Derived.Laws.Cover2
namespace Go.Proofs.YtnnlicahgdcbdaaDoor
open Go.RowKit
set_option linter.unusedVariables false
set_option maxRecDepth 20000
set_option linter.unusedSimpArgs false

/-- Numbers that lie in memory below B. -/
def Fs (B : Nat) (w : World) (ao : Option Addr) (xs : List Nat) : Prop :=
  xs ≠ [] → ∃ b off, b < B ∧ ao = some ⟨b, off, none⟩ ∧ ∀ i, i < xs.length → w.cell? ⟨b, off + i, none⟩ = some (.float .f64 (xs.getD i 0))
theorem Fs.at {B : Nat} {w w' : World} {ao : Option Addr} {xs : List Nat} (h : Fs B w ao xs) (hb : Below B w w') (i : Nat) (hi : i < xs.length) : ∃ b off, ao = some ⟨b, off, none⟩ ∧ w'.cell? ⟨b, off + i, none⟩ = some (.float .f64 (xs.getD i 0)) := by
  obtain ⟨b, off, h1, h2, h3⟩ := h (by intro e; subst e; simp at hi)
  exact ⟨b, off, h2, (hb.cell (p := ⟨b, off + i, none⟩) h1).trans (h3 i hi)⟩
def W64 (xs : List Nat) : Prop := ∀ x ∈ xs, x < 18446744073709551616
theorem W64.get {xs : List Nat} (h : W64 xs) (i : Nat) : xs.getD i 0 < 18446744073709551616 := by
  by_cases hi : i < xs.length
  · rw [List.getD_eq_getElem?_getD, List.getElem?_eq_getElem hi]; exact h _ (List.getElem_mem hi)
  · rw [List.getD_eq_getElem?_getD, List.getElem?_eq_none (by omega)]; simp
theorem Acc7.drew {w : World} {g : Nat} {V : Int} {s : Sp} (h : Acc7 w g V s) : Acc7 w.drew g V s := by
  obtain ⟨L, h1, h2, h3, h4, h5, h6⟩ := h; exact ⟨L, h1, h2, h3, h4, h5, h6.drew⟩
/-- What stands while the two lists are added: k is how many were. -/
structure Bs (w : World) (g k : Nat) (V : Int) (s : Sp) (wr : World) : Prop where
  acc : Acc7 wr g V s
  pos : s.pos
  cnt : s.a ≤ (k : Int)
  lo : -((k * QB : Nat) : Int) ≤ V
  hi : V ≤ ((k * QB : Nat) : Int)
  bel : Below w.heap.size w wr
theorem Bs.put {w : World} {g k : Nat} {V : Int} {s : Sp} {wr w' : World} (h : Bs w g k V s wr) (hk : k ≤ 400) (x y : Nat) (hx : x < 18446744073709551616) (hy : y < 18446744073709551616) (hg : w.heap.size ≤ g) :
    s.ok ∧ putS V s (pK x y) (pT x y) = (0, V + pT x y, s.cnt (pK x y) 1) ∧ (∀ w', Acc7 w' g (V + pT x y) (s.cnt (pK x y) 1) → But g wr w' → Bs w g (k + 1) (V + pT x y) (s.cnt (pK x y) 1) w') := by
  have hsm := pT_small x y hx hy
  have hmul : ((k + 1) * QB : Nat) = k * QB + QB := by rw [Nat.add_mul, Nat.one_mul]
  have hkq : k * QB ≤ 400 * QB := Nat.mul_le_mul_right _ hk
  have hQ := QB_HB
  have hqp := QB_pos
  have h1 := h.cnt
  have h2 := h.lo
  have h3 := h.hi
  refine ⟨h.pos.ok (by omega), put_ok V s _ _ (by omega) (by omega) (by omega), fun w' hA hb => ⟨hA, h.pos.cnt _ (pk_le _ _ _), by show s.a + 1 ≤ _; omega, by omega, by omega, But.below h.bel hb h.bel.size hg⟩⟩
theorem ofE_fin {K : Nat} (h : K < 9218868437227405312) : ofE (K / 4503599627370496) = 0 := by unfold ofE; rw [if_neg (by omega)]
theorem ofE_inf : ofE (9218868437227405312 / 4503599627370496) = 30 := by decide
theorem ofK_len (s : Bool) (K : Nat) (h : K ≤ 9218868437227405312) : (ws (dX (ofK s K))).length ≤ 8192 ∧ -9223372036854775808 ≤ dE (ofK s K) ∧ dE (ofK s K) ≤ 9223372036854775807 := by
  by_cases q : K < 9218868437227405312
  · obtain ⟨n, X, e, h1, F, _⟩ := ofK_val s K q
    rw [h1]
    have := F.up
    have := F.down
    exact ⟨frm_len F, by show -9223372036854775808 ≤ e; omega, by show e ≤ 9223372036854775807; omega⟩
  · have : K = 9218868437227405312 := by omega
    subst this
    have : ofK s 9218868437227405312 = none := by unfold ofK ofR; rw [if_pos (by decide)]
    rw [this]
    exact ⟨by simp [dX, ws_zero], by decide, by decide⟩
theorem of_word (s : Bool) (K : Nat) (h : K ≤ 9218868437227405312) (w : World) (hT : Tab w) :
    Calls Tryd.prog 12 #[.float .f64 (wd64 s K)] w fun r w' => OAns w.heap.size w' r (ofK s K) (ofE (K / 4503599627370496)) ∧ Below w.heap.size w w' := by
  obtain ⟨h1, h2, h3, _⟩ := wd64_bw s K h
  rw [h1]
  exact Of_any s (K / 4503599627370496) (K % 4503599627370496) h2 h3 w hT
theorem next_word (s : Bool) (K : Nat) (h : K ≤ 9218868437227405312) (w : World) : Calls Tryd.prog 14 #[.float .f64 (wd64 s K)] w fun r w' => r = .returned (.float .f64 (B.nx s (K / 4503599627370496) (K % 4503599627370496))) ∧ w' = w := by
  obtain ⟨h1, h2, h3, _⟩ := wd64_bw s K h
  rw [h1]
  exact B.next_any s (K / 4503599627370496) (K % 4503599627370496) h2 h3 w

set_option maxRecDepth 100000 in
set_option maxHeartbeats 16000000 in
theorem walk_SuperBetween (ls xs : List Nat) (a1 a2 : Option Addr) (n1 n2 c1 c2 : Nat) (w : World) (hT : Tab w) (e1 : n1 = ls.length) (e2 : n2 = xs.length) (f1 : Fs w.heap.size w a1 ls) (f2 : Fs w.heap.size w a2 xs) (k1 : W64 ls) (k2 : W64 xs)
    (m1 : n1 ≤ 4611686018427387904) (m2 : n2 ≤ 4611686018427387904) :
    Calls Tryd.prog 3 #[.slice a1 n1 c1, .slice a2 n2 c2] w fun r w' => r = .returned (.bool true) ∧ Below w.heap.size w w' := by
  have HR := Aside.intro (And.intro hT (And.intro (And.intro e1 (And.intro f1 k1)) (And.intro e2 (And.intro f2 k2))))
  clear hT e1 e2 f1 f2 k1 k2
  go_enter Tryd.func3, Tryd.ntmps3
  go_wp2_with fail
  with_reducible refine (live7 w HR.out.1).mono ?_
  rintro r w1 ⟨rfl, hb⟩
  have B1 := Aside.intro hb
  clear hb
  go_wp2_with fail
  with_reducible refine (New7 w1).mono ?_
  rintro r w2 ⟨rfl, hA, hb⟩
  obtain ⟨g, hg⟩ : ∃ g, g = w1.heap.size := ⟨_, rfl⟩
  have S2 : Aside (Bs w g 0 0 ⟨0, 0, 0, 0, 0, 0⟩ w2 ∧ w.heap.size ≤ g) := by
    rw [hg]
    exact ⟨⟨hA, by unfold Sp.pos; decide, by decide, by simp, by simp, B1.out.trans (hb.mono B1.out.size)⟩, B1.out.size⟩
  rw [← hg]
  clear hA hb hg
  go_wp2_with fail
  go_loopg [7] 200 (fun gk i wr => ∃ (k : Nat) (V : Int) (s : Sp), gk + k = 200 ∧ i = .int .i64 (k : Nat) ∧ Aside (Bs w g k V s wr))
  case atStart => exact ⟨0, 0, _, by omega, by simp, S2.out.1⟩
  case round =>
    obtain ⟨k, V, s, hgk, rfl, HA⟩ := hrel
    by_cases hin : k < n1 ∧ k < 200
    · obtain ⟨hk, hk2⟩ := hin
      obtain ⟨b, off, rfl, hc⟩ := HR.out.2.1.2.1.at HA.out.bel k (by rw [← HR.out.2.1.1]; exact hk)
      obtain ⟨x, hx⟩ : ∃ x, x = ls.getD k 0 := ⟨_, rfl⟩
      rw [← hx] at hc
      have hx64 : x < 18446744073709551616 := by rw [hx]; exact HR.out.2.1.2.2.get k
      obtain ⟨q1, q2, q3⟩ := HA.out.put (w' := wr) (by omega) x 4607182418800017408 hx64 (by decide) S2.out.2
      have C := Add7 g V s x wr HA.out.acc q1 hx64
      rw [q2] at C
      have HC := hid C
      have HQ := Aside.intro q3
      clear hx hx64 q1 q2 q3 C
      go_wp2_with fail
      with_reducible refine HC.out.mono ?_
      rintro r w3 ⟨rfl, hA3, hbut⟩
      have HA3 := Aside.intro (HQ.out w3 hA3 hbut)
      clear hA3 hbut HC HQ
      go_wp2
      go_roundg (gk - 1)
      case measure => omega
      case rel => exact ⟨k + 1, _, _, by omega, by simp, HA3⟩
    · have hk200 : k ≤ 200 := by omega
      rcases (show (k < n1 ∧ ¬ k < 200) ∨ ¬ k < n1 by omega) with ⟨hk, hk2⟩ | hk
      all_goals (
        clear hin
        go_wp2_with fail
        go_loopg [8] 200 (fun gk i wr => ∃ (j i2 : Nat) (V : Int) (s : Sp), gk + j = 200 ∧ i = .int .i64 (i2 : Nat) ∧ Aside (i2 = 2 * j) ∧ j ≤ 200 ∧ Aside (Bs w g (k + j) V s wr))
        case atStart => exact ⟨0, 0, V, s, by omega, by simp, Aside.intro rfl, by omega, HA⟩
        case round =>
          obtain ⟨j, i2, V, s, hgj, rfl, HI2, hj200, HA2⟩ := hrel
          have hi4 : i2 ≤ 400 := by have := HI2.out; omega
          by_cases hin2 : i2 + 1 < n2 ∧ i2 < 200
          · obtain ⟨hj1, hj2⟩ := hin2
            obtain ⟨b, off, rfl, hc⟩ := HR.out.2.2.2.1.at HA2.out.bel (i2) (by rw [← HR.out.2.2.1]; omega)
            have hcb : ∀ W, Below w.heap.size w W → W.cell? ⟨b, off + i2, none⟩ = some (.float .f64 (xs.getD (i2) 0)) ∧ W.cell? ⟨b, off + (i2 + 1), none⟩ = some (.float .f64 (xs.getD (i2 + 1) 0)) := fun W hW => by
              obtain ⟨b', off', e', h'⟩ := HR.out.2.2.2.1.at hW (i2) (by rw [← HR.out.2.2.1]; omega)
              obtain ⟨b'', off'', e'', h''⟩ := HR.out.2.2.2.1.at hW (i2 + 1) (by rw [← HR.out.2.2.1]; omega)
              cases e'
              cases e''
              exact ⟨h', h''⟩
            obtain ⟨x, hx⟩ : ∃ x, x = xs.getD (i2) 0 := ⟨_, rfl⟩
            obtain ⟨y, hy⟩ : ∃ x, x = xs.getD (i2 + 1) 0 := ⟨_, rfl⟩
            have hx64 : x < 18446744073709551616 := by rw [hx]; exact HR.out.2.2.2.2.get _
            have hy64 : y < 18446744073709551616 := by rw [hy]; exact HR.out.2.2.2.2.get _
            rw [← hx, ← hy] at hcb
            have HCB := Aside.intro hcb
            obtain ⟨q1, q2, q3⟩ := HA2.out.put (w' := wr) (by have := HI2.out; omega) x y hx64 hy64 S2.out.2
            have C := AddProduct7 g V s x y wr.drew HA2.out.acc.drew q1 hx64 hy64
            rw [q2] at C
            have HC := hid C
            have HQ := Aside.intro q3
            have hwp : IntKind.i64.wrap ((i2 : Int) + 1) = ((i2 + 1 : Nat) : Int) := by rw [IntKind.wrap_i64]; omega
            obtain ⟨hd1, hd2⟩ := HCB.out wr HA2.out.bel
            have kS : Aside (wr.drew.cell? ⟨b, off + i2, none⟩ = some (.float .f64 x) ∧ wr.drew.cell? ⟨b, off + (i2 + 1), none⟩ = some (.float .f64 y)) := ⟨hd1, hd2⟩
            clear hx hy hx64 hy64 q1 q2 q3 C hcb hc
            go_wp2
            go_region_held (fun w' => w'.cell? ⟨b, off + i2, none⟩ = some (.float .f64 x) ∧ w'.cell? ⟨b, off + (i2 + 1), none⟩ = some (.float .f64 y)) (with_reducible exact kS.out) (first
              | (go_at_call 9
                 with_reducible refine HC.out.mono ?_
                 rintro r u ⟨rfl, hA3, hbut⟩
                 have hB3 := HQ.out u hA3 ⟨hbut.os, hbut.tape, hbut.output, hbut.size, hbut.block⟩
                 have kS := Aside.intro (HCB.out u hB3.bel)
                 have H3 := Aside.intro hB3
                 clear hA3 hbut hB3))
            all_goals (
              go_wp2
              have hij : j < 100 := by have := HI2.out; omega
              try clear hwp
              go_roundg (gk - 1)
              case measure => omega
              case rel => exact ⟨j + 1, i2 + 2, _, _, by omega, by simp, Aside.intro (by have := HI2.out; omega), by have := HI2.out; omega, by have := H3.out; rw [Nat.add_assoc] at this; exact this⟩)
          · rcases (show (i2 + 1 < n2 ∧ ¬ i2 < 200) ∨ ¬ i2 + 1 < n2 by omega) with ⟨hl1, hl2⟩ | hl1
            all_goals (
              clear hin2
              have hq := HA2.out
              have hfin : (s.ok ∧ -(HB : Int) < V ∧ V < (HB : Int)) := by
                have h1 := hq.cnt
                have h2 := hq.lo
                have h3 := hq.hi
                have hkq : (k + j) * QB ≤ 400 * QB := Nat.mul_le_mul_right _ (by omega)
                have hQ := QB_HB
                have hqp := QB_pos
                exact ⟨hq.pos.ok (by omega), by omega, by omega⟩
              obtain ⟨n, X, e, hx, F, hX⟩ := exV_form hfin.2.1 hfin.2.2
              have key : ∃ sl Kl sh Kh, rd7 V s 3 1 1 = (wd64 sl Kl, 0) ∧ rd7 V s 2 1 1 = (wd64 sh Kh, 0) ∧ Btw n X e sl Kl sh Kh := by
                obtain ⟨p3, p3z⟩ := rd7_pass s 3 (by decide) (by decide) hx F hX
                obtain ⟨p2, p2z⟩ := rd7_pass s 2 (by decide) (by decide) hx F hX
                by_cases hv : V = 0
                · have e0 : exV V = some (false, 0, 0) := by rw [hv]; unfold exV; exact mkS_zero _ _
                  rw [e0] at hx
                  cases hx
                  have w0 : (0, (0 : Int)) = (wd64 false 0, 0) := rfl
                  have w1 : (9223372036854775808, (0 : Int)) = (wd64 true 0, 0) := by rw [wd64_t, Nat.zero_add]
                  rcases p3z hv with q3 | q3 <;> rcases p2z hv with q2 | q2
                  · exact ⟨false, 0, false, 0, q3.trans w0, q2.trans w0, btw_zero _ _⟩
                  · exact ⟨false, 0, true, 0, q3.trans w0, q2.trans w1, btw_zero _ _⟩
                  · exact ⟨true, 0, false, 0, q3.trans w1, q2.trans w0, btw_zero _ _⟩
                  · exact ⟨true, 0, true, 0, q3.trans w1, q2.trans w1, btw_zero _ _⟩
                · exact ⟨n, _, n, _, p3 hv, p2 hv, btw_form F (fun q => hv (hX.1 q))⟩
              obtain ⟨sl, Kl, sh, Kh, r3, r2, BT⟩ := key
              have HBT := Aside.intro BT
              obtain ⟨W, hW⟩ : ∃ W, W = wr.alloc (.cells #[.int .i64 1, .int .i64 1] 31) := ⟨_, rfl⟩
              have hbW : Below wr.heap.size wr W := by subst hW; exact below_alloc _ _
              have HAC : Aside (∀ U, Below W.heap.size W U → Acc7 U g V s ∧ Tab U ∧ Below w.heap.size w U) := fun U hU => by
                have q := hbW.trans (hU.mono hbW.size)
                have q2 := hq.bel.trans (q.mono hq.bel.size)
                exact ⟨hq.acc.bel q, HR.out.1.belows q2, q2⟩
              have R3 := Round7 g V s 3 1 1 W (HAC.out W (Below.refl _ _)).1 hfin.1 (HAC.out W (Below.refl _ _)).2.1 (by decide) (by decide) (by decide) (by decide) (by decide)
              rw [r3] at R3
              have HR3 := hid R3
              have HR2 : Hid (∀ U, Below W.heap.size W U → Calls Tryd.prog 10 #[.pointer (some ⟨g, 0, none⟩), .int .i64 2, .agg #[.int .i64 1, .int .i64 1]] U fun r w' => r = .returned (.tuple #[.float .f64 (wd64 sh Kh), .int .i64 0]) ∧ Below U.heap.size U w') := fun U hU => by
                have q := Round7 g V s 2 1 1 U (HAC.out U hU).1 hfin.1 (HAC.out U hU).2.1 (by decide) (by decide) (by decide) (by decide) (by decide)
                rw [r2] at q
                exact q
              have HEx : Hid (∀ U, Below W.heap.size W U → Calls Tryd.prog 11 #[.pointer (some ⟨g, 0, none⟩)] U fun r w' => ∃ v, r = .returned (.agg #[.bool n, v, .int .i64 e]) ∧ Nt U.heap.size w' v X ∧ Below U.heap.size U w') := fun U hU => by
                have q := Exact7 g V s U (HAC.out U hU).1 (HAC.out U hU).2.1
                rw [hx] at q
                exact q
              have HF := Aside.intro (And.intro F (frm_len F))
              obtain ⟨pl0, pl1⟩ : W.cell? ⟨wr.heap.size, 0, none⟩ = some (.int .i64 1) ∧ W.cell? ⟨wr.heap.size, 1, none⟩ = some (.int .i64 1) := by
                subst hW; constructor <;> (unfold World.cell?; simp only [heap_alloc_new]; rfl)
              have HPL : Aside (∀ U, Below W.heap.size W U → U.cell? ⟨wr.heap.size, 0, none⟩ = some (.int .i64 1) ∧ U.cell? ⟨wr.heap.size, 1, none⟩ = some (.int .i64 1)) := fun U hU => by
                have hl : wr.heap.size < W.heap.size := by subst hW; simp
                exact ⟨(hU.cell (p := ⟨wr.heap.size, 0, none⟩) hl).trans pl0, (hU.cell (p := ⟨wr.heap.size, 1, none⟩) hl).trans pl1⟩
              have hnl : (FloatKind.f64.format.order (wd64 sl Kl) (wd64 sl Kl) != some .eq) = false := by
                have q := eq64 sl sl Kl Kl BT.kl BT.kl
                rw [decide_eq_true rfl] at q
                have : (FloatKind.f64.format.order (wd64 sl Kl) (wd64 sl Kl) != some .eq) = !(FloatKind.f64.format.order (wd64 sl Kl) (wd64 sl Kl) == some .eq) := rfl
                rw [this, q]; rfl
              have hnh : (FloatKind.f64.format.order (wd64 sh Kh) (wd64 sh Kh) != some .eq) = false := by
                have q := eq64 sh sh Kh Kh BT.kh BT.kh
                rw [decide_eq_true rfl] at q
                have : (FloatKind.f64.format.order (wd64 sh Kh) (wd64 sh Kh) != some .eq) = !(FloatKind.f64.format.order (wd64 sh Kh) (wd64 sh Kh) == some .eq) := rfl
                rw [this, q]; rfl
              have hgt : (FloatKind.f64.format.order (wd64 sl Kl) (wd64 sh Kh) == some .gt) = false := by
                rw [gt64 sl sh Kl Kh BT.kl BT.kh]
                have := BT.ord
                simpa using this
              have heq := eq64 sl sh Kl Kh BT.kl BT.kh
              have HO1 := hid (fun U (hU : Below W.heap.size W U) => of_word sl Kl BT.kl U (HAC.out U hU).2.1)
              have HO2 := hid (fun U (hU : Below W.heap.size W U) => of_word sh Kh BT.kh U (HAC.out U hU).2.1)
              have HNx := hid (fun U => next_word sl Kl BT.kl U)
              obtain ⟨wl, hwl⟩ : ∃ x, x = wd64 sl Kl := ⟨_, rfl⟩
              obtain ⟨wh, hwh⟩ : ∃ x, x = wd64 sh Kh := ⟨_, rfl⟩
              rw [← hwl] at hnl hgt heq HO1 HNx HR3
              rw [← hwh] at hnh hgt heq HO2 HR2
              have HWH := Aside.intro hwh
              have HLL := Aside.intro (And.intro (ofK_len sl Kl BT.kl) (ofK_len sh Kh BT.kh))
              clear hq hfin hx hX r3 r2 BT F R3 hbW hwl hwh HA2 HA
              go_wp2_with fail
              rw [← hW]
              clear hW
              with_reducible refine HR3.out.mono ?_
              rintro r t1 ⟨rfl, hb⟩
              have T1 := Aside.intro hb
              obtain ⟨pq0, pq1⟩ := HPL.out t1 hb
              clear hb HR3 pl0 pl1
              go_wp2_with fail
              with_reducible refine (HR2.out _ T1.out).mono ?_
              rintro r t2 ⟨rfl, hb⟩
              have T2 := Aside.intro (T1.out.trans (hb.mono T1.out.size))
              clear hb HR2 pq0 pq1
              go_wp2_with fail
              with_reducible refine (HEx.out _ T2.out).mono ?_
              rintro r t3 ⟨v3, rfl, hN3, hb⟩
              obtain ⟨a3, c3, rfl, _⟩ := hN3.arg (Nat.le_trans HF.out.2 (by decide))
              obtain ⟨W3, hW3⟩ : ∃ U, U = t3.alloc (.cells #[.bool n, .slice a3 (ws X).length c3, .int .i64 e] 37) := ⟨_, rfl⟩
              have T3 : Aside (Below W.heap.size W W3 ∧ Dk W3 t3.heap.size n (.slice a3 (ws X).length c3) e ∧ Nt 0 W3 (.slice a3 (ws X).length c3) X) := by
                subst hW3
                have q := T2.out.trans (hb.mono T2.out.size)
                exact ⟨q.trans ((below_alloc _ _).mono q.size), Dk.new _ _ _ _, (hN3.below (below_alloc _ _)).mono (Nat.zero_le _)⟩
              clear hN3 hb HEx
              go_wp2_with fail
              rw [← hW3]
              clear hW3
              with_reducible refine (HO1.out _ T3.out.1).mono ?_
              rintro r t4 ⟨⟨v4, rfl, hN4⟩, hb⟩
              obtain ⟨a4, c4, rfl, _⟩ := hN4.arg (Nat.le_trans HLL.out.1.1 (by decide))
              obtain ⟨W4, hW4⟩ : ∃ U, U = t4.alloc (.cells #[.bool (dN (ofK sl Kl)), .slice a4 (ws (dX (ofK sl Kl))).length c4, .int .i64 (dE (ofK sl Kl))] 37) := ⟨_, rfl⟩
              have T4 : Aside (Below W3.heap.size W3 W4 ∧ Dk W4 t4.heap.size (dN (ofK sl Kl)) (.slice a4 (ws (dX (ofK sl Kl))).length c4) (dE (ofK sl Kl)) ∧ Nt 0 W4 (.slice a4 (ws (dX (ofK sl Kl))).length c4) (dX (ofK sl Kl))) := by
                subst hW4
                exact ⟨hb.trans ((below_alloc _ _).mono hb.size), Dk.new _ _ _ _, (hN4.below (below_alloc _ _)).mono (Nat.zero_le _)⟩
              obtain ⟨el, hel⟩ : ∃ x, x = ofE (Kl / 4503599627370496) := ⟨_, rfl⟩
              rw [← hel]
              have HEL := Aside.intro hel
              clear hel
              clear hN4 hb HO1
              go_wp2_with fail
              rw [← hW4]
              clear hW4
              with_reducible refine (HO2.out _ (T3.out.1.trans (T4.out.1.mono T3.out.1.size))).mono ?_
              rintro r t5 ⟨⟨v5, rfl, hN5⟩, hb⟩
              obtain ⟨a5, c5, rfl, _⟩ := hN5.arg (Nat.le_trans HLL.out.2.1 (by decide))
              obtain ⟨W5, hW5⟩ : ∃ U, U = t5.alloc (.cells #[.bool (dN (ofK sh Kh)), .slice a5 (ws (dX (ofK sh Kh))).length c5, .int .i64 (dE (ofK sh Kh))] 37) := ⟨_, rfl⟩
              have T5 : Aside (Dk W5 t3.heap.size n (.slice a3 (ws X).length c3) e ∧ Dk W5 t4.heap.size (dN (ofK sl Kl)) (.slice a4 (ws (dX (ofK sl Kl))).length c4) (dE (ofK sl Kl)) ∧ Dk W5 t5.heap.size (dN (ofK sh Kh)) (.slice a5 (ws (dX (ofK sh Kh))).length c5) (dE (ofK sh Kh)) ∧ Below W.heap.size W W5 ∧ Nt 0 W5 (.slice a3 (ws X).length c3) X ∧ Nt 0 W5 (.slice a4 (ws (dX (ofK sl Kl))).length c4) (dX (ofK sl Kl)) ∧ Nt 0 W5 (.slice a5 (ws (dX (ofK sh Kh))).length c5) (dX (ofK sh Kh))) := by
                subst hW5
                have q := hb.trans ((below_alloc t5 (.cells #[.bool (dN (ofK sh Kh)), .slice a5 (ws (dX (ofK sh Kh))).length c5, .int .i64 (dE (ofK sh Kh))] 37)).mono hb.size)
                have q3 := T4.out.1.trans (q.mono T4.out.1.size)
                exact ⟨T3.out.2.1.below q3, T4.out.2.1.below q, Dk.new _ _ _ _, T3.out.1.trans (q3.mono T3.out.1.size), T3.out.2.2.below q3, T4.out.2.2.below q, (hN5.below (below_alloc _ _)).mono (Nat.zero_le _)⟩
              obtain ⟨eh, heh⟩ : ∃ x, x = ofE (Kh / 4503599627370496) := ⟨_, rfl⟩
              rw [← heh]
              have HEH := Aside.intro heh
              clear heh
              clear hN5 hb HO2
              obtain ⟨z1, hz1⟩ : ∃ z, z = cmpV (dN (ofK sl Kl)) (dX (ofK sl Kl)) (dE (ofK sl Kl)) n X e := ⟨_, rfl⟩
              obtain ⟨z2, hz2⟩ : ∃ z, z = cmpV n X e (dN (ofK sh Kh)) (dX (ofK sh Kh)) (dE (ofK sh Kh)) := ⟨_, rfl⟩
              have HFE : Aside (-9223372036854775808 ≤ e ∧ e ≤ 9223372036854775807) := by have q1 := HF.out.1.down; have q2 := HF.out.1.up; exact ⟨by omega, by omega⟩
              have HC1 : Hid (∀ U, Below W5.heap.size W5 U → Calls Tryd.prog 13 #[.agg #[.bool (dN (ofK sl Kl)), .slice a4 (ws (dX (ofK sl Kl))).length c4, .int .i64 (dE (ofK sl Kl))], .agg #[.bool n, .slice a3 (ws X).length c3, .int .i64 e]] U fun r w' => r = .returned (.int .i64 z1) ∧ Below U.heap.size U w') := fun U hU => by
                have q := Cmp_any3 ((T5.out.2.2.2.2.2.1.below hU).arg' (Nat.le_trans HLL.out.1.1 (by decide))).2 ((T5.out.2.2.2.2.1.below hU).arg' (Nat.le_trans HF.out.2 (by decide))).2 (dN (ofK sl Kl)) n (dE (ofK sl Kl)) e HLL.out.1.2.1 HLL.out.1.2.2 HFE.out.1 HFE.out.2
                rw [val_ws, val_ws, ← hz1] at q
                exact q
              have HC2 : Hid (∀ U, Below W5.heap.size W5 U → Calls Tryd.prog 13 #[.agg #[.bool n, .slice a3 (ws X).length c3, .int .i64 e], .agg #[.bool (dN (ofK sh Kh)), .slice a5 (ws (dX (ofK sh Kh))).length c5, .int .i64 (dE (ofK sh Kh))]] U fun r w' => r = .returned (.int .i64 z2) ∧ Below U.heap.size U w') := fun U hU => by
                have q := Cmp_any3 ((T5.out.2.2.2.2.1.below hU).arg' (Nat.le_trans HF.out.2 (by decide))).2 ((T5.out.2.2.2.2.2.2.below hU).arg' (Nat.le_trans HLL.out.2.1 (by decide))).2 n (dN (ofK sh Kh)) e (dE (ofK sh Kh)) HFE.out.1 HFE.out.2 HLL.out.2.2.1 HLL.out.2.2.2
                rw [val_ws, val_ws, ← hz2] at q
                exact q
              have HZ1 := Aside.intro hz1
              have HZ2 := Aside.intro hz2
              clear hz1 hz2
              obtain ⟨b0, b1, b2, _, _, _⟩ := T5.out.2.1.facts
              obtain ⟨v0, v1, v2, _, _, _⟩ := T5.out.1.facts
              obtain ⟨d0, d1, d2, _, _, _⟩ := T5.out.2.2.1.facts
              go_upto_region 21 with fail
              rw [← hW5]
              clear hW5
              by_cases hKl : Kl < 9218868437227405312
              · have hel0 : el = 0 := HEL.out.trans (ofE_fin hKl)
                subst hel0
                have hz1n : z1 ≤ 0 := by have := HBT.out.low hKl; rw [← HZ1.out] at this; simpa using this
                by_cases hKh : Kh < 9218868437227405312
                · have heh0 : eh = 0 := HEH.out.trans (ofE_fin hKh)
                  subst heh0
                  have hz2n : z2 ≤ 0 := by have := HBT.out.high hKh; rw [← HZ2.out] at this; simpa using this
                  by_cases hs : sK sl Kl = sK sh Kh
                  · rw [decide_eq_true hs] at heq
                    have hzz : z1 = 0 := by have := (HBT.out.same hs).2; rw [← HZ1.out] at this; simpa using this
                    subst hzz
                    clear HEL HEH HZ1 HZ2 hs hKl hKh HNx
                    have T6 : Aside (Below W5.heap.size W5 W5) := Below.refl _ _
                    go_wp2_with fail
                    with_reducible refine (HC1.out _ T6.out).mono ?_
                    rintro r t7 ⟨rfl, hb⟩
                    have T7 := Aside.intro (T6.out.trans (hb.mono T6.out.size))
                    clear hb b0 b1 b2 v0 v1 v2 d0 d1 d2
                    obtain ⟨b0, b1, b2, _, _, _⟩ := (T5.out.2.1.below T7.out).facts
                    obtain ⟨v0, v1, v2, _, _, _⟩ := (T5.out.1.below T7.out).facts
                    obtain ⟨d0, d1, d2, _, _, _⟩ := (T5.out.2.2.1.below T7.out).facts
                    go_wp2_with fail
                    with_reducible refine (HC2.out _ T7.out).mono ?_
                    rintro r t8 ⟨rfl, hb⟩
                    have T8 := Aside.intro (T7.out.trans (hb.mono T7.out.size))
                    clear hb b0 b1 b2 v0 v1 v2 d0 d1 d2
                    obtain ⟨b0, b1, b2, _, _, _⟩ := (T5.out.2.1.below T8.out).facts
                    obtain ⟨v0, v1, v2, _, _, _⟩ := (T5.out.1.below T8.out).facts
                    obtain ⟨d0, d1, d2, _, _, _⟩ := (T5.out.2.2.1.below T8.out).facts
                    go_wp2_with fail
                    with_reducible refine (HC1.out _ T8.out).mono ?_
                    rintro r t9 ⟨rfl, hb⟩
                    have T9 := Aside.intro (T8.out.trans (hb.mono T8.out.size))
                    clear hb b0 b1 b2 v0 v1 v2 d0 d1 d2
                    obtain ⟨b0, b1, b2, _, _, _⟩ := (T5.out.2.1.below T9.out).facts
                    obtain ⟨v0, v1, v2, _, _, _⟩ := (T5.out.1.below T9.out).facts
                    obtain ⟨d0, d1, d2, _, _, _⟩ := (T5.out.2.2.1.below T9.out).facts
                    go_wp2
                    go_ret
                    exact ⟨rfl, (HAC.out _ (T5.out.2.2.2.1.trans (T9.out.mono T5.out.2.2.2.1.size))).2.2⟩
                  · rw [decide_eq_false hs] at heq
                    have hnx := HBT.out.next hs
                    rw [← HWH.out] at hnx
                    rw [hnx] at HNx
                    have hww : (FloatKind.f64.format.order wh wh == some .eq) = true := by
                      have q := eq64 sh sh Kh Kh HBT.out.kh HBT.out.kh
                      rw [decide_eq_true rfl, ← HWH.out] at q
                      exact q
                    clear HEL HEH HZ1 HZ2 hs hKl hKh hnx
                    have T6 : Aside (Below W5.heap.size W5 W5) := Below.refl _ _
                    go_wp2_with fail
                    with_reducible refine (HC1.out _ T6.out).mono ?_
                    rintro r t7 ⟨rfl, hb⟩
                    have T7 := Aside.intro (T6.out.trans (hb.mono T6.out.size))
                    clear hb b0 b1 b2 v0 v1 v2 d0 d1 d2
                    obtain ⟨b0, b1, b2, _, _, _⟩ := (T5.out.2.1.below T7.out).facts
                    obtain ⟨v0, v1, v2, _, _, _⟩ := (T5.out.1.below T7.out).facts
                    obtain ⟨d0, d1, d2, _, _, _⟩ := (T5.out.2.2.1.below T7.out).facts
                    go_wp2_with fail
                    with_reducible refine (HC2.out _ T7.out).mono ?_
                    rintro r t8 ⟨rfl, hb⟩
                    have T8 := Aside.intro (T7.out.trans (hb.mono T7.out.size))
                    clear hb b0 b1 b2 v0 v1 v2 d0 d1 d2
                    obtain ⟨b0, b1, b2, _, _, _⟩ := (T5.out.2.1.below T8.out).facts
                    obtain ⟨v0, v1, v2, _, _, _⟩ := (T5.out.1.below T8.out).facts
                    obtain ⟨d0, d1, d2, _, _, _⟩ := (T5.out.2.2.1.below T8.out).facts
                    go_wp2_with fail
                    with_reducible refine (HNx.out _).mono ?_
                    rintro r z9 ⟨rfl, rfl⟩
                    go_wp2
                    go_ret
                    exact ⟨rfl, (HAC.out _ (T5.out.2.2.2.1.trans (T8.out.mono T5.out.2.2.2.1.size))).2.2⟩
                · have heh0 : eh = 30 := by
                    have : Kh = 9218868437227405312 := by have := HBT.out.kh; omega
                    rw [HEH.out, this, ofE_inf]
                  subst heh0
                  have hs : ¬ sK sl Kl = sK sh Kh := by
                    have : Kh = 9218868437227405312 := by have := HBT.out.kh; omega
                    rw [this]
                    unfold sK
                    cases sl <;> cases sh <;> simp <;> omega
                  rw [decide_eq_false hs] at heq
                  have hnx := HBT.out.next hs
                  rw [← HWH.out] at hnx
                  rw [hnx] at HNx
                  have hww : (FloatKind.f64.format.order wh wh == some .eq) = true := by
                    have q := eq64 sh sh Kh Kh HBT.out.kh HBT.out.kh
                    rw [decide_eq_true rfl, ← HWH.out] at q
                    exact q
                  clear HEL HEH HZ1 HZ2 hs hKl hKh hnx
                  have T6 : Aside (Below W5.heap.size W5 W5) := Below.refl _ _
                  go_wp2_with fail
                  with_reducible refine (HC1.out _ T6.out).mono ?_
                  rintro r t7 ⟨rfl, hb⟩
                  have T7 := Aside.intro (T6.out.trans (hb.mono T6.out.size))
                  clear hb b0 b1 b2 v0 v1 v2 d0 d1 d2
                  obtain ⟨b0, b1, b2, _, _, _⟩ := (T5.out.2.1.below T7.out).facts
                  obtain ⟨v0, v1, v2, _, _, _⟩ := (T5.out.1.below T7.out).facts
                  obtain ⟨d0, d1, d2, _, _, _⟩ := (T5.out.2.2.1.below T7.out).facts
                  go_wp2_with fail
                  with_reducible refine (HNx.out _).mono ?_
                  rintro r z9 ⟨rfl, rfl⟩
                  go_wp2
                  go_ret
                  exact ⟨rfl, (HAC.out _ (T5.out.2.2.2.1.trans (T7.out.mono T5.out.2.2.2.1.size))).2.2⟩
              · have hel0 : el = 30 := by
                  have : Kl = 9218868437227405312 := by have := HBT.out.kl; omega
                  rw [HEL.out, this, ofE_inf]
                subst hel0
                have hs : ¬ sK sl Kl = sK sh Kh := fun q => hKl (HBT.out.same q).1
                by_cases hKh : Kh < 9218868437227405312
                · have heh0 : eh = 0 := HEH.out.trans (ofE_fin hKh)
                  subst heh0
                  have hz2n : z2 ≤ 0 := by have := HBT.out.high hKh; rw [← HZ2.out] at this; simpa using this
                  rw [decide_eq_false hs] at heq
                  have hnx := HBT.out.next hs
                  rw [← HWH.out] at hnx
                  rw [hnx] at HNx
                  have hww : (FloatKind.f64.format.order wh wh == some .eq) = true := by
                    have q := eq64 sh sh Kh Kh HBT.out.kh HBT.out.kh
                    rw [decide_eq_true rfl, ← HWH.out] at q
                    exact q
                  clear HEL HEH HZ1 HZ2 hs hKl hKh hnx
                  have T6 : Aside (Below W5.heap.size W5 W5) := Below.refl _ _
                  go_wp2_with fail
                  with_reducible refine (HC2.out _ T6.out).mono ?_
                  rintro r t7 ⟨rfl, hb⟩
                  have T7 := Aside.intro (T6.out.trans (hb.mono T6.out.size))
                  clear hb b0 b1 b2 v0 v1 v2 d0 d1 d2
                  obtain ⟨b0, b1, b2, _, _, _⟩ := (T5.out.2.1.below T7.out).facts
                  obtain ⟨v0, v1, v2, _, _, _⟩ := (T5.out.1.below T7.out).facts
                  obtain ⟨d0, d1, d2, _, _, _⟩ := (T5.out.2.2.1.below T7.out).facts
                  go_wp2_with fail
                  with_reducible refine (HNx.out _).mono ?_
                  rintro r z9 ⟨rfl, rfl⟩
                  go_wp2
                  go_ret
                  exact ⟨rfl, (HAC.out _ (T5.out.2.2.2.1.trans (T7.out.mono T5.out.2.2.2.1.size))).2.2⟩
                · exfalso
                  have hnx := HBT.out.next hs
                  have e1 : Kl = 9218868437227405312 := by have := HBT.out.kl; omega
                  have e2 : Kh = 9218868437227405312 := by have := HBT.out.kh; omega
                  rw [e1, e2] at hnx hs
                  cases sl <;> cases sh
                  · exact hs rfl
                  · revert hnx; decide
                  · revert hnx; decide
                  · exact hs rfl))
end Go.Proofs.YtnnlicahgdcbdaaDoor

/- SuperBetween: lists of numbers that came in. -/
namespace Go.Proofs.YtnnlicahgdcbdaaDoor
open Go.ChangeShapes Go.WideShapes Go.ChangeAt Go.RowKit
set_option linter.unusedVariables false
set_option maxRecDepth 20000
set_option linter.unusedSimpArgs false

theorem trodF {H : Type} {enc : TypeId × Value → H} {P : Program} {w : World} {base : Nat} {spare : Nat → Bool} {held : Bool} {fuel : Nat} {t : TypeId} {cs : List Value} {x : DataW H × List MemPlace} {k : FloatKind} (ht : P.underlying t = some (.float k)) (h : DataW.trod enc P w base spare held fuel t cs = some x) : ∃ n, cs = [.float k n] ∧ x = (.lit (.float k n), []) ∧ (Lit.float k n).wf = true := by
  cases fuel with
  | zero => simp [DataW.trod] at h
  | succ m =>
    simp only [DataW.trod, ht] at h
    split at h <;> simp_all

/-- A list that came in: its numbers, its room. -/
structure CameF (w : World) (a : Option Addr) (n c : Nat) (xs : List Nat) : Prop where
  len : n = xs.length
  cap : n ≤ c
  wf : W64 xs
  rd : Fs w.heap.size w a xs
  nil : a = none → c = 0

theorem add_noneF (b off i : Nat) : (⟨b, off, none⟩ : Addr).add i = ⟨b, off + i, none⟩ := by unfold Addr.add; split <;> simp_all

def numF {H : Type} (y : DataW H × List MemPlace) : Nat := match y.1 with | .lit (.float _ n) => n | _ => 0

theorem Tryd.cellsF : Tryd.prog.cellsOf 28 = 1 := by kernel_rfl
theorem Tryd.bytesF : Tryd.prog.bytesOf 28 = 8 := by kernel_rfl

theorem cameF_of {H : Type} {enc : TypeId × Value → H} {W : World} {a : Option Addr} {n c : Nat} {d : DataW H} {p : List MemPlace} (h : DataW.Trod enc Tryd.prog W 0 (fun _ => true) true 22 (.slice a n c) d p) :
    ∃ xs, CameF W a n c xs ∧ ((d = .nil ∧ c = 0) ∨ ∃ elems spare : List (DataW H), d = .slice elems spare ∧ elems.length + spare.length = c) := by
  obtain ⟨fuel, hf⟩ := h
  rcases DataW.trod_slice Tryd.underlying22 hf with ⟨hcs, hx⟩ | ⟨x, l, cp, elems, rest, m, _, hcs, hx, hb, hl, hm, hlen, hel, hsp, hns⟩
  · simp [Value.cells] at hcs
    obtain ⟨rfl, rfl, rfl⟩ := hcs
    exact ⟨[], ⟨rfl, Nat.le_refl _, (fun x hx => by cases hx), (fun h => absurd rfl h), fun _ => rfl⟩, .inl ⟨(Prod.mk.inj hx).1, rfl⟩⟩
  · simp [Value.cells] at hcs
    obtain ⟨rfl, rfl, rfl⟩ := hcs
    have each : ∀ i y, i < n → elems[i]? = some y → y = (.lit (.float .f64 (numF y)), []) ∧ (Lit.float .f64 (numF y)).wf = true ∧ W.cell? (x.add i) = some (.float .f64 (numF y)) := by
      intro i y hi hy
      have hb' := hel i hi
      rw [hy, Tryd.cellsF, Nat.mul_one, Option.bind_eq_some_iff] at hb'
      obtain ⟨cs', hcs, hy'⟩ := hb'
      obtain ⟨k, rfl, rfl, hw⟩ := trodF Tryd.underlying28 hy'
      exact ⟨rfl, hw, cell_of_cells?_one hcs⟩
    refine ⟨elems.map numF, ⟨by simp [hlen], hl, ?_, ?_, fun e => by cases e⟩, .inr ⟨_, _, (Prod.mk.inj hx).1, ?_⟩⟩
    · intro y hy
      obtain ⟨z, hz, rfl⟩ := List.mem_map.1 hy
      obtain ⟨i, hi⟩ := List.getElem?_of_mem hz
      have hil := (List.getElem?_eq_some_iff.1 hi).1
      have := (each i z (by omega) hi).2.1
      exact of_decide_eq_true this
    · intro hne
      obtain ⟨b, off, spot⟩ := x
      have hn0 : 0 < n := by
        rcases Nat.eq_zero_or_pos n with h0 | h0
        · rw [h0] at hlen; have := List.eq_nil_of_length_eq_zero hlen; subst this; simp at hne
        · exact h0
      have hc0 := (each 0 (elems[0]'(by omega)) hn0 (List.getElem?_eq_getElem _)).2.2
      have hspot : spot = none := by simpa [Addr.add] using World.cell?_spot hc0
      subst hspot
      refine ⟨b, off, World.block_lt_of_cell? W _ (by simpa [Addr.add] using hc0), rfl, fun i hi => ?_⟩
      rw [List.length_map] at hi
      have hadd := add_noneF b off i
      have := (each i (elems[i]'hi) (by omega) (List.getElem?_eq_getElem _)).2.2
      rw [hadd] at this
      rw [this]
      simp [List.getD_eq_getElem?_getD, hi]
    · have hr := (hsp rfl).1
      simp only [List.length_map]
      omega

/-- The form's own reach. -/
theorem cameF_reach {H : Type} {ts : List TypeId} {ds : List (DataW H)} (h : (DataW.weightsEach Tryd.prog ts ds).all (· ≤ reachBytes) = true) {j : Nat} {d : DataW H} {c n : Nat} (ht : ts[j]? = some 22) (hd : ds[j]? = some d) (hn : n ≤ c)
    (hc : (d = .nil ∧ c = 0) ∨ ∃ elems spare : List (DataW H), d = .slice elems spare ∧ elems.length + spare.length = c) : n ≤ 17592186043904 := by
  rcases hc with ⟨_, rfl⟩ | ⟨elems, spare, rfl, hl⟩
  · omega
  · have := sized_slice h ht hd Tryd.underlying22
    rw [Tryd.bytesF, hl] at this
    simp only [reachBytes] at this
    omega

theorem walk2_SuperBetween (o1 : Option Addr) (n1 c1 : Nat) (x1 : List Nat) (o2 : Option Addr) (n2 c2 : Nat) (x2 : List Nat) (w : World) (hT : Tab w) (w1 : CameF w o1 n1 c1 x1) (w2 : CameF w o2 n2 c2 x2)
    (b1 : n1 ≤ 17592186043904) (b2 : n2 ≤ 17592186043904) :
    Calls Tryd.prog 3 #[.slice o1 n1 c1, .slice o2 n2 c2] w fun r w' => r = .returned (.bool true) ∧ Below w.heap.size w w' :=
  walk_SuperBetween x1 x2 o1 o2 n1 n2 c1 c2 w hT w1.len w2.len w1.rd w2.rd w1.wf w2.wf (by omega) (by omega)
end Go.Proofs.YtnnlicahgdcbdaaDoor

