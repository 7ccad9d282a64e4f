/- Mul, Div. -/
import Derived.Test.YtonhahbmdekkdaaDoorW24
namespace Go.Proofs.YtonhahbmdekkdaaDoor
open Go.RowKit
set_option linter.unusedVariables false
set_option maxRecDepth 20000

set_option maxHeartbeats 2000000 in
theorem Mul_any (xs ys : List Nat) (ao bo : Option Addr) (n cap m capb B : Nat) (w : World) (hn : n = xs.length) (hm : m = ys.length) (hc : n ≤ cap) (hcb : m ≤ capb) (hbig : n ≤ 35184372088833) (hbig2 : m ≤ 35184372088833)
    (hx : Wf xs) (hy : Wf ys) (hR : Rd B w ao xs) (hS : Rd B w bo ys) (hB : B ≤ w.heap.size) :
    Calls Tryd.prog 47 #[.slice ao n cap, .slice bo m capb] w fun r w' => One w.heap.size w' r (mulS (val xs) (val ys)) ∧ Below w.heap.size w w' := by
  obtain ⟨T1, hRX, hl1⟩ := trimX xs ao n cap B w hn hc (by omega) hx hR
  obtain ⟨T2, hRY, hl2⟩ := trimX ys bo m capb B w hm hcb (by omega) hy hS
  generalize val xs = X at *
  generalize val ys = Y at *
  have H1 := (hid T1)
  have H2 := (hid T2)
  have HR := (Aside.intro (And.intro hRX (And.intro hRY (And.intro hl1 hl2))))
  clear T1 T2 hRX hRY hn hm hx hy hR hS hl1 hl2
  by_cases hLX : LG X
  · have L := hid (longb (ws X).length ao cap w true (by simpa [LG] using hLX))
    have e : mulS X Y = (0, 2) := by simp [mulS, hLX]
    rw [e]
    clear e hLX HR
    go_enter Tryd.func47, Tryd.ntmps47
    go_wp2_with fail
    refine (Calls.mono H1.out) ?_
    rintro r w1 ⟨rfl, rfl⟩
    go_wp2_with fail
    refine (Calls.mono H2.out) ?_
    rintro r w1 ⟨rfl, rfl⟩
    go_wp2_with fail
    refine (Calls.mono L.out) ?_
    rintro r w1 ⟨rfl, rfl⟩
    go_wp2
    go_ret2
    exact ⟨⟨_, rfl, Nt.nil _ _⟩, Below.refl _ _⟩
  · have L := hid (longb (ws X).length ao cap w false (by simpa [LG] using hLX))
    by_cases hLY : LG Y
    · have L2 := hid (longb (ws Y).length bo capb w true (by simpa [LG] using hLY))
      have e : mulS X Y = (0, 2) := by simp [mulS, hLY]
      rw [e]
      clear e hLX hLY HR
      go_enter Tryd.func47, Tryd.ntmps47
      go_wp2_with fail
      refine (Calls.mono H1.out) ?_
      rintro r w1 ⟨rfl, rfl⟩
      go_wp2_with fail
      refine (Calls.mono H2.out) ?_
      rintro r w1 ⟨rfl, rfl⟩
      go_wp2_with fail
      refine (Calls.mono L.out) ?_
      rintro r w1 ⟨rfl, rfl⟩
      go_wp2_with fail
      refine (Calls.mono L2.out) ?_
      rintro r w1 ⟨rfl, rfl⟩
      go_wp2
      go_ret2
      exact ⟨⟨_, rfl, Nt.nil _ _⟩, Below.refl _ _⟩
    · have L2 := hid (longb (ws Y).length bo capb w false (by simpa [LG] using hLY))
      have hz1 : (ws X).length = 0 → X = 0 := (ws_len_zero X).1
      have hz2 : (ws Y).length = 0 → Y = 0 := (ws_len_zero Y).1
      by_cases h1 : (ws X).length = 0
      · have e : mulS X Y = (0, 0) := by
          have := hz1 h1; subst this
          unfold mulS
          rw [if_neg (by simp [hLX, hLY]), Nat.zero_mul, if_neg hLX]
        rw [e]
        have hh := hid h1
        rw [h1] at H1 L
        have h1b : ((ws X).length : Int) = 0 := by omega
        clear e hLX hLY HR hz1 hz2 h1 h1b hh
        go_enter Tryd.func47, Tryd.ntmps47
        go_wp2_with fail
        refine (Calls.mono H1.out) ?_
        rintro r w1 ⟨rfl, rfl⟩
        go_wp2_with fail
        refine (Calls.mono H2.out) ?_
        rintro r w1 ⟨rfl, rfl⟩
        go_wp2_with fail
        refine (Calls.mono L.out) ?_
        rintro r w1 ⟨rfl, rfl⟩
        go_wp2_with fail
        refine (Calls.mono L2.out) ?_
        rintro r w1 ⟨rfl, rfl⟩
        go_wp2
        go_ret2
        exact ⟨⟨_, rfl, Nt.nil _ _⟩, Below.refl _ _⟩
      · by_cases h2 : (ws Y).length = 0
        · have e : mulS X Y = (0, 0) := by
            have := hz2 h2; subst this
            unfold mulS
            rw [if_neg (by simp [hLX, hLY]), Nat.mul_zero, if_neg hLY]
          rw [e]
          rw [h2] at H2 L2
          obtain ⟨k1, hk1⟩ : ∃ k, (ws X).length = k := ⟨_, rfl⟩
          rw [hk1] at H1 L h1
          have h1b : ((k1 : Int) == 0) = false := by simp; omega
          clear e hLX hLY HR hz1 hz2 h2 hk1
          go_enter Tryd.func47, Tryd.ntmps47
          go_wp2_with fail
          refine (Calls.mono H1.out) ?_
          rintro r w1 ⟨rfl, rfl⟩
          go_wp2_with fail
          refine (Calls.mono H2.out) ?_
          rintro r w1 ⟨rfl, rfl⟩
          go_wp2_with fail
          refine (Calls.mono L.out) ?_
          rintro r w1 ⟨rfl, rfl⟩
          go_wp2_with fail
          refine (Calls.mono L2.out) ?_
          rintro r w1 ⟨rfl, rfl⟩
          go_wp2
          go_ret2
          exact ⟨⟨_, rfl, Nt.nil _ _⟩, Below.refl _ _⟩
        · have hX0 : X ≠ 0 := fun e => h1 ((ws_len_zero X).2 e)
          have hY0 : Y ≠ 0 := fun e => h2 ((ws_len_zero Y).2 e)
          have hlow : pw ((ws X).length + (ws Y).length - 2) ≤ X * Y := by
            have a := Nat.mul_le_mul (ws_len_ge X hX0) (ws_len_ge Y hY0)
            rw [← pw_add] at a
            rw [show (ws X).length + (ws Y).length - 2 = (ws X).length - 1 + ((ws Y).length - 1) by omega]; exact a
          obtain ⟨hRX, hRY, hl1, hl2⟩ := HR.out
          have M0 := mul_any (ws X) (ws Y) ao bo _ cap _ capb B w rfl rfl (by omega) (by omega) (by unfold LG at hLX hLY; omega) (wf_ws X) (wf_ws Y) hRX hRY hB
          rw [val_ws, val_ws] at M0
          have hsmall1 : (ws X).length ≤ 8192 := by unfold LG at hLX; omega
          have hsmall2 : (ws Y).length ≤ 8192 := by unfold LG at hLY; omega
          obtain ⟨k1, hk1⟩ : ∃ k, (ws X).length = k := ⟨_, rfl⟩
          obtain ⟨k2, hk2⟩ : ∃ k, (ws Y).length = k := ⟨_, rfl⟩
          rw [hk1] at H1 L h1 M0 hlow hsmall1
          rw [hk2] at H2 L2 h2 M0 hlow hsmall2
          have h1b : ((k1 : Int) == 0) = false := by simp; omega
          have h2b : ((k2 : Int) == 0) = false := by simp; omega
          by_cases h3 : 8192 < k1 + k2 - 1
          · have hLG : LG (X * Y) := by
              unfold LG
              by_cases h4 : (ws (X * Y)).length ≤ 8192
              · have := (ws_len_le _ _).1 h4
                have := pw_mono (show 8192 ≤ k1 + k2 - 2 by omega)
                omega
              · omega
            have e : mulS X Y = (0, 2) := by simp [mulS, hLG]
            rw [e]
            have h3i : (8192 : Int) < (k1 : Int) + (k2 : Int) - 1 := by omega
            clear e hLX hLY HR hz1 hz2 hk1 hk2 hRX hRY hl1 hl2 M0 hX0 hY0 hlow hLG h3
            go_enter Tryd.func47, Tryd.ntmps47
            go_wp2_with fail
            refine (Calls.mono H1.out) ?_
            rintro r w1 ⟨rfl, rfl⟩
            go_wp2_with fail
            refine (Calls.mono H2.out) ?_
            rintro r w1 ⟨rfl, rfl⟩
            go_wp2_with fail
            refine (Calls.mono L.out) ?_
            rintro r w1 ⟨rfl, rfl⟩
            go_wp2_with fail
            refine (Calls.mono L2.out) ?_
            rintro r w1 ⟨rfl, rfl⟩
            go_wp2
            go_ret2
            exact ⟨⟨_, rfl, Nt.nil _ _⟩, Below.refl _ _⟩
          · have h3i : (k1 : Int) + (k2 : Int) - 1 ≤ 8192 := by omega
            have h3b : decide ((8192 : Int) < (k1 : Int) + (k2 : Int) - 1) = false := decide_eq_false (by omega)
            have M := hid M0
            have HL := (Aside.intro (And.intro hLX hLY))
            clear hLX hLY HR hz1 hz2 hk1 hk2 hRX hRY hl1 hl2 M0 hX0 hY0 hlow h3
            go_enter Tryd.func47, Tryd.ntmps47
            go_wp2_with fail
            refine (Calls.mono H1.out) ?_
            rintro r w1 ⟨rfl, rfl⟩
            go_wp2_with fail
            refine (Calls.mono H2.out) ?_
            rintro r w1 ⟨rfl, rfl⟩
            go_wp2_with fail
            refine (Calls.mono L.out) ?_
            rintro r w1 ⟨rfl, rfl⟩
            go_wp2_with fail
            refine (Calls.mono L2.out) ?_
            rintro r w1 ⟨rfl, rfl⟩
            go_wp2_with fail
            refine (Calls.mono M.out) ?_
            rintro r w2 ⟨v, rfl, hN, hb⟩
            obtain ⟨av, cv, rfl, hcv, hcm, hRv⟩ := hN.shape
            have U0 := unlessLong_any (ws (X * Y)).length av cv w2
            have HN := (Aside.intro (And.intro hN hb))
            clear M hN hb hRv
            by_cases hL : LG (X * Y)
            · rw [if_pos (show 8192 < (ws (X * Y)).length from hL)] at U0
              have U := (hid U0)
              clear U0
              go_wp2_with fail
              refine (Calls.mono U.out) ?_
              rintro r w3 ⟨rfl, rfl⟩
              go_wp2
              go_ret2
              rw [show mulS X Y = (0, 2) by simp [mulS, hL]]
              exact ⟨⟨_, rfl, Nt.nil _ _⟩, HN.out.2⟩
            · rw [if_neg (show ¬ 8192 < (ws (X * Y)).length from hL)] at U0
              have U := (hid U0)
              clear U0
              go_wp2_with fail
              refine (Calls.mono U.out) ?_
              rintro r w3 ⟨rfl, rfl⟩
              go_wp2
              go_ret2
              rw [show mulS X Y = (X * Y, 0) by simp [mulS, HL.out.1, HL.out.2, hL]]
              exact ⟨⟨_, rfl, HN.out.1⟩, HN.out.2⟩

/-- Two Nats in new memory, and an error. -/
def Three (lo : Nat) (w : World) (r : Ending) (a : Nat × Nat × Int) : Prop := ∃ v u, r = .returned (.tuple #[v, u, .int .i64 a.2.2]) ∧ Nt lo w v a.1 ∧ Nt lo w u a.2.1 ∧ Apart v u

set_option maxHeartbeats 2000000 in
theorem Div_any (xs ys : List Nat) (ao bo : Option Addr) (n cap m capb B : Nat) (w : World) (hn : n = xs.length) (hm : m = ys.length) (hc : n ≤ cap) (hcb : m ≤ capb) (hbig : n ≤ 35184372088833) (hbig2 : m ≤ 35184372088833)
    (hx : Wf xs) (hy : Wf ys) (hR : Rd B w ao xs) (hS : Rd B w bo ys) (hB : B ≤ w.heap.size) :
    Calls Tryd.prog 48 #[.slice ao n cap, .slice bo m capb] w fun r w' => Three w.heap.size w' r (divS (val xs) (val ys)) ∧ Below w.heap.size w w' := by
  obtain ⟨T1, hRX, hl1⟩ := trimX xs ao n cap B w hn hc (by omega) hx hR
  obtain ⟨T2, hRY, hl2⟩ := trimX ys bo m capb B w hm hcb (by omega) hy hS
  generalize val xs = X at *
  generalize val ys = Y at *
  have H1 := (hid T1)
  have H2 := (hid T2)
  have HR := (Aside.intro (And.intro hRX (And.intro hRY (And.intro hl1 hl2))))
  clear T1 T2 hRX hRY hn hm hx hy hR hS hl1 hl2
  by_cases hLX : LG X
  · have L := hid (longb (ws X).length ao cap w true (by simpa [LG] using hLX))
    have e : divS X Y = (0, 0, 2) := by simp [divS, hLX]
    rw [e]
    clear e hLX HR
    go_enter Tryd.func48, Tryd.ntmps48
    go_wp2_with fail
    refine (Calls.mono H1.out) ?_
    rintro r w1 ⟨rfl, rfl⟩
    go_wp2_with fail
    refine (Calls.mono H2.out) ?_
    rintro r w1 ⟨rfl, rfl⟩
    go_wp2_with fail
    refine (Calls.mono L.out) ?_
    rintro r w1 ⟨rfl, rfl⟩
    go_wp2
    go_ret3
    exact ⟨⟨_, _, rfl, Nt.nil _ _, Nt.nil _ _, apart_nil _⟩, Below.refl _ _⟩
  · have L := hid (longb (ws X).length ao cap w false (by simpa [LG] using hLX))
    by_cases hLY : LG Y
    · have L2 := hid (longb (ws Y).length bo capb w true (by simpa [LG] using hLY))
      have e : divS X Y = (0, 0, 2) := by simp [divS, hLY]
      rw [e]
      clear e hLX hLY HR
      go_enter Tryd.func48, Tryd.ntmps48
      go_wp2_with fail
      refine (Calls.mono H1.out) ?_
      rintro r w1 ⟨rfl, rfl⟩
      go_wp2_with fail
      refine (Calls.mono H2.out) ?_
      rintro r w1 ⟨rfl, rfl⟩
      go_wp2_with fail
      refine (Calls.mono L.out) ?_
      rintro r w1 ⟨rfl, rfl⟩
      go_wp2_with fail
      refine (Calls.mono L2.out) ?_
      rintro r w1 ⟨rfl, rfl⟩
      go_wp2
      go_ret3
      exact ⟨⟨_, _, rfl, Nt.nil _ _, Nt.nil _ _, apart_nil _⟩, Below.refl _ _⟩
    · have L2 := hid (longb (ws Y).length bo capb w false (by simpa [LG] using hLY))
      by_cases h2 : Y = 0
      · have e : divS X Y = (0, 0, 21) := by unfold divS; rw [if_neg (by simp [hLX, hLY]), if_pos h2]
        rw [e]
        subst h2
        rw [ws_zero] at H2 L2
        clear e hLX hLY HR
        go_enter Tryd.func48, Tryd.ntmps48
        go_wp2_with fail
        refine (Calls.mono H1.out) ?_
        rintro r w1 ⟨rfl, rfl⟩
        go_wp2_with fail
        refine (Calls.mono H2.out) ?_
        rintro r w1 ⟨rfl, rfl⟩
        go_wp2_with fail
        refine (Calls.mono L.out) ?_
        rintro r w1 ⟨rfl, rfl⟩
        go_wp2_with fail
        refine (Calls.mono L2.out) ?_
        rintro r w1 ⟨rfl, rfl⟩
        go_wp2
        go_ret3
        exact ⟨⟨_, _, rfl, Nt.nil _ _, Nt.nil _ _, apart_nil _⟩, Below.refl _ _⟩
      · have h3 : (ws Y).length ≠ 0 := fun e => h2 ((ws_len_zero Y).1 e)
        obtain ⟨hRX, hRY, hl1, hl2⟩ := HR.out
        have D0 := div_any (ws X) (ws Y) ao bo _ cap _ capb B w rfl rfl (by omega) (by omega) (by omega) (by omega) (wf_ws X) (wf_ws Y) (ws_top Y h2) hRX hRY hB
        rw [val_ws, val_ws] at D0
        have e : divS X Y = (X / Y, X % Y, 0) := by simp [divS, hLX, hLY, h2]
        rw [e]
        obtain ⟨k2, hk2⟩ : ∃ k, (ws Y).length = k := ⟨_, rfl⟩
        rw [hk2] at H2 L2 D0 h3
        have h2b : ((k2 : Int) == 0) = false := by simp; omega
        have D := hid D0
        clear e hLX hLY HR hk2 hRX hRY hl1 hl2 D0 h2
        go_enter Tryd.func48, Tryd.ntmps48
        go_wp2_with fail
        refine (Calls.mono H1.out) ?_
        rintro r w1 ⟨rfl, rfl⟩
        go_wp2_with fail
        refine (Calls.mono H2.out) ?_
        rintro r w1 ⟨rfl, rfl⟩
        go_wp2_with fail
        refine (Calls.mono L.out) ?_
        rintro r w1 ⟨rfl, rfl⟩
        go_wp2_with fail
        refine (Calls.mono L2.out) ?_
        rintro r w1 ⟨rfl, rfl⟩
        go_wp2_with fail
        refine (Calls.mono D.out) ?_
        rintro r w2 ⟨⟨v, u, rfl, hN1, hN2, hap⟩, hb⟩
        have HN := (Aside.intro (And.intro hN1 (And.intro hN2 (And.intro hap hb))))
        clear hN1 hN2 hap hb D
        go_wp2
        go_ret3
        obtain ⟨hN1, hN2, hap, hb⟩ := HN.out
        exact ⟨⟨_, _, rfl, hN1, hN2, hap⟩, hb⟩
end Go.Proofs.YtonhahbmdekkdaaDoor
