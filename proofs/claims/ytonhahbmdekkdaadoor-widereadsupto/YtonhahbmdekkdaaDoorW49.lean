/- The document's digit. -/
import Derived.Test.YtonhahbmdekkdaaDoorW48
namespace Go.Proofs.YtonhahbmdekkdaaDoor
open Go.RowKit
set_option linter.unusedVariables false
set_option maxRecDepth 20000

theorem rNorm_arg {w : World} {a : Option Addr} {n c : Nat} {xs : List Nat} {V : Nat} (h1 : Arg w a n c xs) (e : val xs = V) :
    Calls Tryd.prog 63 #[.slice a n c] w fun r w' => ∃ v, r = .returned v ∧ Nt w.heap.size w' v V ∧ Below w.heap.size w w' := by
  subst e
  exact rNorm_any xs a n c w.heap.size w h1.len h1.cap h1.big h1.wf h1.rd h1.nil

theorem cmpI_ge {x y : Nat} (h : y ≤ x) : 0 ≤ cmpI x y := by unfold cmpI; split <;> (try split) <;> omega
theorem cmpI_le {x y : Nat} (h : x ≤ y) : cmpI x y ≤ 0 := by unfold cmpI; split <;> (try split) <;> omega

theorem digit_end (X Y f t : Nat) (h1 : Y * f ≤ X) (h2 : X < Y * t) (h3 : f < t) (h4 : t - f ≤ 1) : X / Y = f := by
  obtain rfl : t = f + 1 := by omega
  exact Nat.div_eq_of_lt_le (by rw [Nat.mul_comm]; exact h1) (by rw [Nat.mul_comm]; exact h2)

set_option maxHeartbeats 4000000 in
theorem digit_any {w : World} {a b : Option Addr} {n c m d : Nat} {xs ys : List Nat} (h1 : Arg w a n c xs) (h2 : Arg w b m d ys) (hm : m ≤ 35184372088000) (hlt : val xs < val ys * 4294967296) :
    Calls Tryd.prog 135 #[.slice a n c, .slice b m d] w fun r w' => ∃ v, r = .returned (.tuple #[.int .u32 ((val xs / val ys : Nat) : Int), v]) ∧ Nt w.heap.size w' v (val ys * (val xs / val ys)) ∧ Below w.heap.size w w' := by
  have hlo := Nat.le_refl w.heap.size
  obtain ⟨X, hX⟩ : ∃ X, val xs = X := ⟨_, rfl⟩
  obtain ⟨Y, hY⟩ : ∃ Y, val ys = Y := ⟨_, rfl⟩
  have hYp := val_lt ys h2.wf
  rw [← h2.len, hY] at hYp
  rw [hX, hY] at hlt ⊢
  have HX := (Aside.intro (And.intro h1 (And.intro h2 (And.intro hX (And.intro hY (And.intro hlt hYp))))))
  clear h1 h2 hX hY hlt hYp
  go_enter Tryd.func135, Tryd.ntmps135
  go_wp2
  go_loopg [6, 7, 8] 4294967296 (fun gk fv tv bv wr => ∃ (f t : Nat), gk + f = t ∧ fv = .int .u64 (f : Nat) ∧ tv = .int .u64 (t : Nat) ∧ f < t ∧ t ≤ 4294967296 ∧ Aside (Y * f ≤ X ∧ X < Y * t ∧ Below w.heap.size w wr ∧ Nt w.heap.size wr bv (Y * f)))
  case atStart => exact ⟨0, 4294967296, by omega, rfl, rfl, by omega, by omega, by omega, HX.out.2.2.2.2.1, Below.refl _ _, by rw [Nat.mul_zero]; exact Nt.nil _ _⟩
  case round =>
    obtain ⟨f, t, hgt, rfl, rfl, hft, ht, HA⟩ := hrel
    by_cases hend : t - f ≤ 1
    · obtain ⟨p1, p2, p3, p4⟩ := HA.out
      have HQ := Aside.intro (digit_end X Y f t p1 p2 hft hend)
      obtain rfl : t = f + 1 := by omega
      clear p1 p2 p3 p4
      have hff : f < 4294967296 := by omega
      go_wp2
      go_ret2
      rw [HQ.out]
      exact ⟨_, by first | rfl | (congr 1), HA.out.2.2.2, HA.out.2.2.1⟩
    · obtain ⟨mid, hmid⟩ : ∃ mid, mid = (f + t) / 2 := ⟨_, rfl⟩
      have em : ((f : Int) + (t : Int)) / 2 = (mid : Int) := by omega
      have hm1 : f < mid := by omega
      have hm2 : mid < t := by omega
      have hm3 : mid < 4294967296 := by omega
      have em2 : (mid : Int) % 4294967296 = (mid : Int) := by omega
      have hgo : (1 : Int) < (t : Int) - (f : Int) := by omega
      obtain ⟨h1, h2, hX, hY, hlt, hYp⟩ := HX.out
      obtain ⟨p1, p2, p3, p4⟩ := HA.out
      have hsz := p3.size
      have T1 := hid (rTimes_arg (V := Y * mid) ((h2.below p3).below (below_alloc wr _)) (lit_arg wr mid hm3) (by omega) (by rw [hY]; simp [val]))
      have hYm : Y * mid < pw (m + 1) := by rw [pw_succ, Nat.mul_comm 4294967296]; exact Nat.mul_lt_mul'' hYp hm3
      have hwl : (ws (Y * mid)).length ≤ m + 1 := (ws_len_le _ _).2 hYm
      clear h1 h2 hX hY hlt hYp p1 p2 p3 p4 hYm hmid
      go_wp2_with fail
      refine (Calls.mono T1.out) ?_
      rintro r u1 ⟨v, rfl, hN, hb⟩
      obtain ⟨a1, c1, rfl, A1⟩ := hN.arg (by omega)
      obtain ⟨h1, h2, hX, hY, hlt, hYp⟩ := HX.out
      obtain ⟨p1, p2, p3, p4⟩ := HA.out
      have hb2 : Below wr.heap.size wr u1 := (below_alloc wr _).trans (hb.mono (by simp))
      have q3 : Below w.heap.size w u1 := p3.trans (hb2.mono hsz)
      have q4 := p4.below hb2
      have q5 := hN.mono (lo' := w.heap.size) (by simp; omega)
      have hs1 := hb2.size
      by_cases hle : Y * mid ≤ X
      · obtain ⟨z, hz⟩ : ∃ z, cmpI (Y * mid) X = z := ⟨_, rfl⟩
        have hz0 : z ≤ 0 := hz ▸ cmpI_le hle
        have C1 := hid (rCmp_arg A1 (h1.below q3) z (by rw [val_ws, hX]; exact hz))
        have S1 := (Aside.intro (And.intro p2 (And.intro q3 (And.intro q5 hle))))
        clear h1 h2 hX hY hlt hYp p1 p2 p3 p4 q3 q4 q5 hN hb hb2 A1 hz hle T1 HA
        go_wp2_with fail
        refine (Calls.mono C1.out) ?_
        rintro r u2 ⟨rfl, hb⟩
        have S2 := (Aside.intro (And.intro (S1.out.2.1.trans (hb.mono (by omega))) (S1.out.2.2.1.below hb)))
        clear hb C1
        go_wp2
        go_roundg (t - mid)
        case measure => omega
        case rel => exact ⟨mid, t, by omega, rfl, rfl, hm2, ht, S1.out.2.2.2, S1.out.1, S2.out.1, S2.out.2⟩
      · have hz : cmpI (Y * mid) X = 1 := cmpI_gt (by omega)
        have C1 := hid (rCmp_arg A1 (h1.below q3) 1 (by rw [val_ws, hX]; exact hz))
        have S1 := (Aside.intro (And.intro p1 (And.intro q3 (And.intro q4 hle))))
        clear h1 h2 hX hY hlt hYp p1 p2 p3 p4 q3 q4 q5 hN hb hb2 A1 hz hle T1 HA
        go_wp2_with fail
        refine (Calls.mono C1.out) ?_
        rintro r u2 ⟨rfl, hb⟩
        have S2 := (Aside.intro (And.intro (S1.out.2.1.trans (hb.mono (by omega))) (S1.out.2.2.1.below hb)))
        clear hb C1
        go_wp2
        go_roundg (mid - f)
        case measure => omega
        case rel => exact ⟨f, mid, by omega, rfl, rfl, hm1, by omega, S1.out.1, by have := S1.out.2.2.2; omega, S2.out.1, S2.out.2⟩
end Go.Proofs.YtonhahbmdekkdaaDoor
