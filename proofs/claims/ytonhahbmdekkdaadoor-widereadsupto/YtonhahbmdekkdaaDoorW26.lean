/- Shift. -/
import Derived.Test.YtonhahbmdekkdaaDoorW25
namespace Go.Proofs.YtonhahbmdekkdaaDoor
open Go.RowKit
set_option linter.unusedVariables false
set_option maxRecDepth 20000

theorem bl_le_words (X k : Nat) (h : X < pw k) : bl X ≤ 32 * k := by
  by_cases h0 : X = 0
  · subst h0; rw [bl_zero]; omega
  · have h1 := bl_ge X h0
    have h3 : pw k = 2 ^ (32 * k) := by rw [← Nat.add_zero (32 * k), pw_two]; simp
    rw [h3] at h
    have := (Nat.pow_lt_pow_iff_right (a := 2) (by decide)).1 (Nat.lt_of_le_of_lt h1 h)
    omega

theorem bl_small (X : Nat) (h : ¬ LG X) : bl X ≤ 262144 :=
  bl_le_words X 8192 ((ws_len_le X 8192).1 (by unfold LG at h; omega))

set_option maxHeartbeats 2000000 in
theorem Shift_any (xs : List Nat) (ao : Option Addr) (n cap B : Nat) (by' : Int) (w : World) (hn : n = xs.length) (hc : n ≤ cap) (hbig : n ≤ 35184372088833)
    (hx : Wf xs) (hR : Rd B w ao xs) (hB : B ≤ w.heap.size) (hb0 : -9223372036854775808 ≤ by') (hb1 : by' ≤ 9223372036854775807) :
    Calls Tryd.prog 49 #[.slice ao n cap, .int .i64 by'] w fun r w' => One w.heap.size w' r (shiftS (val xs) by') ∧ Below w.heap.size w w' := by
  obtain ⟨T1, hRX, hl1⟩ := trimX xs ao n cap B w hn hc (by omega) hx hR
  generalize val xs = X at *
  have N0 := len_any (ws X) ao _ cap B w rfl (by omega) (by omega) (wf_ws X) hRX
  rw [val_ws] at N0
  have H1 := (hid T1)
  have H2 := (hid N0)
  have HR := (Aside.intro (And.intro hRX hl1))
  clear T1 N0 hRX hn hx hR hl1
  by_cases hLX : LG X
  · have L := hid (longb (ws X).length ao cap w true (by simpa [LG] using hLX))
    have e : shiftS X by' = (0, 2) := by simp [shiftS, hLX]
    rw [e]
    clear e hLX HR
    generalize bl X = c at *
    go_enter Tryd.func49, Tryd.ntmps49
    go_wp2_with fail
    refine (Calls.mono H1.out) ?_
    rintro r w1 ⟨rfl, rfl⟩
    go_wp2_with fail
    refine (Calls.mono H2.out) ?_
    rintro r w1 ⟨rfl, rfl⟩
    go_wp2_with fail
    refine (Calls.mono L.out) ?_
    rintro r w1 ⟨rfl, rfl⟩
    go_wp2
    go_ret2
    exact ⟨⟨_, rfl, Nt.nil _ _⟩, Below.refl _ _⟩
  · have L := hid (longb (ws X).length ao cap w false (by simpa [LG] using hLX))
    have hbs := bl_small X hLX
    obtain ⟨c, hcc⟩ : ∃ c, bl X = c := ⟨_, rfl⟩
    by_cases h0 : X = 0
    · have e : shiftS X by' = (0, 0) := by unfold shiftS; rw [if_neg hLX, if_pos h0]
      rw [e]
      subst h0
      rw [ws_zero] at H1 H2 L
      rw [bl_zero] at H2
      clear e hLX HR hbs hcc
      go_enter Tryd.func49, Tryd.ntmps49
      go_wp2_with fail
      refine (Calls.mono H1.out) ?_
      rintro r w1 ⟨rfl, rfl⟩
      go_wp2_with fail
      refine (Calls.mono H2.out) ?_
      rintro r w1 ⟨rfl, rfl⟩
      go_wp2_with fail
      refine (Calls.mono L.out) ?_
      rintro r w1 ⟨rfl, rfl⟩
      go_wp2
      go_ret2
      exact ⟨⟨_, rfl, Nt.nil _ _⟩, Below.refl _ _⟩
    · have hcp := bl_pos X h0
      have hlt := bl_lt X
      rw [hcc] at hcp hbs H2 hlt
      have hcne : ((c : Int) == 0) = false := by simp; omega
      by_cases hneg : by' < 0
      · obtain ⟨d, hd⟩ : ∃ d : Nat, (d : Int) = -by' := ⟨(-by').toNat, by omega⟩
        have e : shiftS X by' = (X / 2 ^ d, 0) := by
          unfold shiftS; rw [if_neg hLX, if_neg h0, if_pos hneg, ← hd, Int.toNat_natCast]
        rw [e]
        by_cases hbig2 : by' ≤ -(c : Int)
        · have e2 : X / 2 ^ d = 0 := Nat.div_eq_of_lt (Nat.lt_of_lt_of_le hlt (Nat.pow_le_pow_right (by decide) (by omega)))
          rw [e2]
          clear e e2 hLX HR hcc hlt hd h0
          go_enter Tryd.func49, Tryd.ntmps49
          go_wp2_with fail
          refine (Calls.mono H1.out) ?_
          rintro r w1 ⟨rfl, rfl⟩
          go_wp2_with fail
          refine (Calls.mono H2.out) ?_
          rintro r w1 ⟨rfl, rfl⟩
          go_wp2_with fail
          refine (Calls.mono L.out) ?_
          rintro r w1 ⟨rfl, rfl⟩
          go_wp2
          go_ret2
          exact ⟨⟨_, rfl, Nt.nil _ _⟩, Below.refl _ _⟩
        · obtain ⟨hRX, hl1⟩ := HR.out
          have D0 := down_any (ws X) ao _ cap B d (d / 32) (d % 32) w rfl (by omega) (by omega) (by omega) (by omega) (by omega) (wf_ws X) hRX hB
          rw [val_ws] at D0
          have D := hid D0
          have hgt : -(c : Int) < by' := by omega
          have hd' : -by' = (d : Int) := hd.symm
          clear e hLX HR hcc hlt h0 hRX hl1 D0 hbig2 hd
          go_enter Tryd.func49, Tryd.ntmps49
          go_wp2_with fail
          refine (Calls.mono H1.out) ?_
          rintro r w1 ⟨rfl, rfl⟩
          go_wp2_with fail
          refine (Calls.mono H2.out) ?_
          rintro r w1 ⟨rfl, rfl⟩
          go_wp2_with fail
          refine (Calls.mono L.out) ?_
          rintro r w1 ⟨rfl, rfl⟩
          go_wp2_with fail
          try rw [hd']
          refine (Calls.mono D.out) ?_
          rintro r w2 ⟨v, rfl, hN, hb⟩
          have HN := (Aside.intro (And.intro hN hb))
          clear hN hb D
          go_wp2
          go_ret2
          exact ⟨⟨_, rfl, HN.out.1⟩, HN.out.2⟩
      · obtain ⟨d, rfl⟩ : ∃ d : Nat, by' = (d : Int) := ⟨by'.toNat, by omega⟩
        by_cases hover : 262144 - (c : Int) < (d : Int)
        · have e : shiftS X (d : Int) = (0, 2) := by unfold shiftS; rw [if_neg hLX, if_neg h0, if_neg hneg, hcc, if_pos hover]
          rw [e]
          clear e hLX HR hcc hlt h0 hneg
          go_enter Tryd.func49, Tryd.ntmps49
          go_wp2_with fail
          refine (Calls.mono H1.out) ?_
          rintro r w1 ⟨rfl, rfl⟩
          go_wp2_with fail
          refine (Calls.mono H2.out) ?_
          rintro r w1 ⟨rfl, rfl⟩
          go_wp2_with fail
          refine (Calls.mono L.out) ?_
          rintro r w1 ⟨rfl, rfl⟩
          go_wp2
          go_ret2
          exact ⟨⟨_, rfl, Nt.nil _ _⟩, Below.refl _ _⟩
        · have e : shiftS X (d : Int) = (X * 2 ^ d, 0) := by unfold shiftS; rw [if_neg hLX, if_neg h0, if_neg hneg, hcc, if_neg hover, Int.toNat_natCast]
          rw [e]
          obtain ⟨hRX, hl1⟩ := HR.out
          have D0 := up_any (ws X) ao _ cap B d (d / 32) (d % 32) w rfl (by omega) (by omega) (by omega) (by unfold LG at hLX; omega) (wf_ws X) hRX hB
          rw [val_ws] at D0
          have D := hid D0
          have hle : (d : Int) ≤ 262144 - (c : Int) := by omega
          have hleb : decide (262144 - (c : Int) < (d : Int)) = false := decide_eq_false (by omega)
          clear e hLX HR hcc hlt h0 hRX hl1 D0 hover hneg
          go_enter Tryd.func49, Tryd.ntmps49
          go_wp2_with fail
          refine (Calls.mono H1.out) ?_
          rintro r w1 ⟨rfl, rfl⟩
          go_wp2_with fail
          refine (Calls.mono H2.out) ?_
          rintro r w1 ⟨rfl, rfl⟩
          go_wp2_with fail
          refine (Calls.mono L.out) ?_
          rintro r w1 ⟨rfl, rfl⟩
          go_wp2_with fail
          refine (Calls.mono D.out) ?_
          rintro r w2 ⟨v, rfl, hN, hb⟩
          have HN := (Aside.intro (And.intro hN hb))
          clear hN hb D
          go_wp2
          go_ret2
          exact ⟨⟨_, rfl, HN.out.1⟩, HN.out.2⟩
end Go.Proofs.YtonhahbmdekkdaaDoor
