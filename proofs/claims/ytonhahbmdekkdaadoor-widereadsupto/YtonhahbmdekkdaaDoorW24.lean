/- Add, Sub. -/
import Derived.Test.YtonhahbmdekkdaaDoorW23
namespace Go.Proofs.YtonhahbmdekkdaaDoor
open Go.RowKit
set_option linter.unusedVariables false
set_option maxRecDepth 20000

/-- Is a number long? -/
abbrev LG (X : Nat) : Prop := 8192 < (ws X).length
theorem LG_mono {X Y : Nat} (h : X ≤ Y) (k : LG X) : LG Y := Nat.lt_of_lt_of_le k (ws_len_mono h)

/-- What is answered: a number, an error. -/
def addS (X Y : Nat) : Nat × Int := if LG (X + Y) then (0, 2) else (X + Y, 0)
def subS (X Y : Nat) : Nat × Int := if LG X ∨ LG Y then (0, 2) else if X < Y then (0, 20) else (X - Y, 0)
def mulS (X Y : Nat) : Nat × Int := if LG X ∨ LG Y then (0, 2) else if LG (X * Y) then (0, 2) else (X * Y, 0)
def divS (X Y : Nat) : Nat × Nat × Int := if LG X ∨ LG Y then (0, 0, 2) else if Y = 0 then (0, 0, 21) else (X / Y, X % Y, 0)
def shiftS (X : Nat) (by' : Int) : Nat × Int := if LG X then (0, 2) else if X = 0 then (0, 0) else if by' < 0 then (X / 2 ^ (-by').toNat, 0) else if 262144 - (bl X : Int) < by' then (0, 2) else (X * 2 ^ by'.toNat, 0)

/-- A Nat in new memory, and an error. -/
def One (lo : Nat) (w : World) (r : Ending) (a : Nat × Int) : Prop := ∃ v, r = .returned (.tuple #[v, .int .i64 a.2]) ∧ Nt lo w v a.1

theorem trimX (xs : List Nat) (ao : Option Addr) (n cap B : Nat) (w : World) (hn : n = xs.length) (hc : n ≤ cap) (hm : n ≤ 70368744177664) (hx : Wf xs) (hR : Rd B w ao xs) :
    (Calls Tryd.prog 59 #[.slice ao n cap] w fun r w' => r = .returned (.slice ao (ws (val xs)).length cap) ∧ w' = w) ∧ Rd B w ao (ws (val xs)) ∧ (ws (val xs)).length ≤ n := by
  have T := trim_any xs ao n cap B w hn hc (by omega) hR
  have hl := nl_le xs
  have hf := form_eq xs hx
  have hlen := nl_eq_length xs hx
  rw [hlen] at T hl hf
  exact ⟨T, by rw [← hf]; exact hR.take _, by omega⟩

set_option maxHeartbeats 2000000 in
theorem Add_any (xs ys : List Nat) (ao bo : Option Addr) (n cap m capb B : Nat) (w : World) (hn : n = xs.length) (hm : m = ys.length) (hc : n ≤ cap) (hcb : m ≤ capb) (hbig : n ≤ 35184372088833) (hbig2 : m ≤ 35184372088833)
    (hx : Wf xs) (hy : Wf ys) (hR : Rd B w ao xs) (hS : Rd B w bo ys) (hB : B ≤ w.heap.size) :
    Calls Tryd.prog 45 #[.slice ao n cap, .slice bo m capb] w fun r w' => One w.heap.size w' r (addS (val xs) (val ys)) ∧ Below w.heap.size w w' := by
  obtain ⟨T1, hRX, hl1⟩ := trimX xs ao n cap B w hn hc (by omega) hx hR
  obtain ⟨T2, hRY, hl2⟩ := trimX ys bo m capb B w hm hcb (by omega) hy hS
  generalize val xs = X at *
  generalize val ys = Y at *
  have A0 := add_any (ws X) (ws Y) ao bo _ cap _ capb B w rfl rfl (by omega) (by omega) (by omega) (by omega) (wf_ws X) (wf_ws Y) hRX hRY hB
  rw [val_ws, val_ws] at A0
  have H1 := (hid T1)
  have H2 := (hid T2)
  have H3 := (hid A0)
  clear T1 T2 A0 hRX hRY hn hm hx hy hR hS hl1 hl2
  go_enter Tryd.func45, Tryd.ntmps45
  go_wp2_with fail
  refine (Calls.mono H1.out) ?_
  rintro r w1 ⟨rfl, rfl⟩
  go_wp2_with fail
  refine (Calls.mono H2.out) ?_
  rintro r w1 ⟨rfl, rfl⟩
  go_wp2_with fail
  refine (Calls.mono H3.out) ?_
  rintro r w2 ⟨v, rfl, hN, hb⟩
  obtain ⟨av, cv, rfl, hcv, hcm, hRv⟩ := hN.shape
  have U0 := unlessLong_any (ws (X + Y)).length av cv w2
  have HN := (Aside.intro (And.intro hN hb))
  clear H1 H2 H3 hN hb hRv
  by_cases hL : LG (X + Y)
  · rw [if_pos (show 8192 < (ws (X + Y)).length from hL)] at U0
    have U := (hid U0)
    clear U0
    go_wp2_with fail
    refine (Calls.mono U.out) ?_
    rintro r w3 ⟨rfl, rfl⟩
    go_wp2
    go_ret2
    rw [show addS X Y = (0, 2) by simp [addS, hL]]
    exact ⟨⟨_, rfl, Nt.nil _ _⟩, HN.out.2⟩
  · rw [if_neg (show ¬ 8192 < (ws (X + Y)).length from hL)] at U0
    have U := (hid U0)
    clear U0
    go_wp2_with fail
    refine (Calls.mono U.out) ?_
    rintro r w3 ⟨rfl, rfl⟩
    go_wp2
    go_ret2
    rw [show addS X Y = (X + Y, 0) by simp [addS, hL]]
    exact ⟨⟨_, rfl, HN.out.1⟩, HN.out.2⟩

theorem longb (n : Nat) (ao : Option Addr) (cap : Nat) (w : World) (b : Bool) (hb : decide (8192 < n) = b) :
    Calls Tryd.prog 60 #[.slice ao n cap] w fun r w' => r = .returned (.bool b) ∧ w' = w := by
  have h := long_any n ao cap w
  have e : decide ((8192 : Int) < (n : Int)) = b := by rw [← hb]; simp only [decide_eq_decide]; omega
  rw [e] at h
  exact h

set_option maxHeartbeats 2000000 in
theorem Sub_any (xs ys : List Nat) (ao bo : Option Addr) (n cap m capb B : Nat) (w : World) (hn : n = xs.length) (hm : m = ys.length) (hc : n ≤ cap) (hcb : m ≤ capb) (hbig : n ≤ 35184372088833) (hbig2 : m ≤ 35184372088833)
    (hx : Wf xs) (hy : Wf ys) (hR : Rd B w ao xs) (hS : Rd B w bo ys) (hB : B ≤ w.heap.size) :
    Calls Tryd.prog 46 #[.slice ao n cap, .slice bo m capb] w fun r w' => One w.heap.size w' r (subS (val xs) (val ys)) ∧ Below w.heap.size w w' := by
  obtain ⟨T1, hRX, hl1⟩ := trimX xs ao n cap B w hn hc (by omega) hx hR
  obtain ⟨T2, hRY, hl2⟩ := trimX ys bo m capb B w hm hcb (by omega) hy hS
  generalize val xs = X at *
  generalize val ys = Y at *
  have H1 := (hid T1)
  have H2 := (hid T2)
  have HR := (Aside.intro (And.intro hRX (And.intro hRY (And.intro hl1 hl2))))
  clear T1 T2 hRX hRY hn hm hx hy hR hS hl1 hl2
  by_cases hLX : LG X
  · have L := hid (longb (ws X).length ao cap w true (by simpa [LG] using hLX))
    have e : subS X Y = (0, 2) := by simp [subS, hLX]
    rw [e]
    clear e hLX HR
    go_enter Tryd.func46, Tryd.ntmps46
    go_wp2_with fail
    refine (Calls.mono H1.out) ?_
    rintro r w1 ⟨rfl, rfl⟩
    go_wp2_with fail
    refine (Calls.mono H2.out) ?_
    rintro r w1 ⟨rfl, rfl⟩
    go_wp2_with fail
    refine (Calls.mono L.out) ?_
    rintro r w1 ⟨rfl, rfl⟩
    go_wp2
    go_ret2
    exact ⟨⟨_, rfl, Nt.nil _ _⟩, Below.refl _ _⟩
  · have L := hid (longb (ws X).length ao cap w false (by simpa [LG] using hLX))
    by_cases hLY : LG Y
    · have L2 := hid (longb (ws Y).length bo capb w true (by simpa [LG] using hLY))
      have e : subS X Y = (0, 2) := by simp [subS, hLY]
      rw [e]
      clear e hLX hLY HR
      go_enter Tryd.func46, Tryd.ntmps46
      go_wp2_with fail
      refine (Calls.mono H1.out) ?_
      rintro r w1 ⟨rfl, rfl⟩
      go_wp2_with fail
      refine (Calls.mono H2.out) ?_
      rintro r w1 ⟨rfl, rfl⟩
      go_wp2_with fail
      refine (Calls.mono L.out) ?_
      rintro r w1 ⟨rfl, rfl⟩
      go_wp2_with fail
      refine (Calls.mono L2.out) ?_
      rintro r w1 ⟨rfl, rfl⟩
      go_wp2
      go_ret2
      exact ⟨⟨_, rfl, Nt.nil _ _⟩, Below.refl _ _⟩
    · have L2 := hid (longb (ws Y).length bo capb w false (by simpa [LG] using hLY))
      obtain ⟨hRX, hRY, hl1, hl2⟩ := HR.out
      have C0 := cmp_any (ws X) (ws Y) ao bo _ cap _ capb B w rfl rfl (by omega) (by omega) (by omega) (by omega) (wf_ws X) (wf_ws Y) hRX hRY
      rw [val_ws, val_ws] at C0
      by_cases hlt : X < Y
      · rw [cmpI_lt hlt] at C0
        have C := hid C0
        have e : subS X Y = (0, 20) := by simp [subS, hLX, hLY, hlt]
        rw [e]
        clear e hLX hLY HR C0 hlt hRX hRY hl1 hl2
        go_enter Tryd.func46, Tryd.ntmps46
        go_wp2_with fail
        refine (Calls.mono H1.out) ?_
        rintro r w1 ⟨rfl, rfl⟩
        go_wp2_with fail
        refine (Calls.mono H2.out) ?_
        rintro r w1 ⟨rfl, rfl⟩
        go_wp2_with fail
        refine (Calls.mono L.out) ?_
        rintro r w1 ⟨rfl, rfl⟩
        go_wp2_with fail
        refine (Calls.mono L2.out) ?_
        rintro r w1 ⟨rfl, rfl⟩
        go_wp2_with fail
        refine (Calls.mono C.out) ?_
        rintro r w2 ⟨rfl, hb⟩
        have HB := (Aside.intro hb)
        clear hb
        go_wp2
        go_ret2
        exact ⟨⟨_, rfl, Nt.nil _ _⟩, HB.out⟩
      · have hc1 : 0 ≤ cmpI X Y := by unfold cmpI; rw [if_neg hlt]; split <;> omega
        obtain ⟨cc, hcc⟩ : ∃ cc, cmpI X Y = cc := ⟨_, rfl⟩
        rw [hcc] at C0 hc1
        have C := hid C0
        have e : subS X Y = (X - Y, 0) := by simp [subS, hLX, hLY, hlt]
        rw [e]
        have HL := (Aside.intro hlt)
        clear e hLX hLY C0 hlt hRX hRY hl1 hl2 hcc
        go_enter Tryd.func46, Tryd.ntmps46
        go_wp2_with fail
        refine (Calls.mono H1.out) ?_
        rintro r w1 ⟨rfl, rfl⟩
        go_wp2_with fail
        refine (Calls.mono H2.out) ?_
        rintro r w1 ⟨rfl, rfl⟩
        go_wp2_with fail
        refine (Calls.mono L.out) ?_
        rintro r w1 ⟨rfl, rfl⟩
        go_wp2_with fail
        refine (Calls.mono L2.out) ?_
        rintro r w1 ⟨rfl, rfl⟩
        go_wp2_with fail
        refine (Calls.mono C.out) ?_
        rintro r w2 ⟨rfl, hb⟩
        obtain ⟨hRX, hRY, hl1, hl2⟩ := HR.out
        have hs := hb.size
        have S0 := sub_any (ws X) (ws Y) ao bo _ cap _ capb B w2 rfl rfl (ws_len_mono (by have := HL.out; omega)) (by omega) (by omega) (by omega) (wf_ws X) (wf_ws Y) (by rw [val_ws, val_ws]; have := HL.out; omega) (hRX.below (hb.mono hB)) (hRY.below (hb.mono hB)) (by omega)
        rw [val_ws, val_ws] at S0
        have S := hid S0
        have HB := (Aside.intro (And.intro hb hs))
        clear hb hRX hRY hl1 hl2 S0 hs C
        go_wp2_with fail
        refine (Calls.mono S.out) ?_
        rintro r w3 ⟨v, rfl, hN, hb2⟩
        have HN := (Aside.intro (And.intro hN hb2))
        clear hN hb2 S
        go_wp2
        go_ret2
        obtain ⟨hb, hs⟩ := HB.out
        exact ⟨⟨_, rfl, HN.out.1.mono hs⟩, hb.trans (HN.out.2.mono hs)⟩
end Go.Proofs.YtonhahbmdekkdaaDoor
