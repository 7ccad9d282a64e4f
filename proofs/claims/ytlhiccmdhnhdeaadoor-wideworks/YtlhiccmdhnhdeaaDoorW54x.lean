import Derived.Test.YtlhiccmdhnhdeaaDoorW49x
import Derived.Test.YtlhiccmdhnhdeaaDoorW48
import Derived.BigQuiet
import Derived.Deep.RegionHeld3
/- The document's long, fits, Add, Sub, Mul, Div. -/
namespace Go.Proofs.YtlhiccmdhnhdeaaDoor
open Go.RowKit
set_option linter.unusedVariables false
set_option maxRecDepth 20000

theorem size_arg {w : World} {a : Option Addr} {n c : Nat} {xs : List Nat} (h1 : Arg w a n c xs) :
    Calls Tryd.prog 108 #[.slice a n c] w fun r w' => r = .returned (.int .i64 ((ws (val xs)).length : Nat)) ∧ w' = w := by
  have h := size_any xs a n c w.heap.size w h1.len (by have := h1.big; omega) h1.rd
  rw [nl_eq_length xs h1.wf] at h
  exact h

set_option maxHeartbeats 1000000 in
theorem rlong_arg {w : World} {a b : Option Addr} {n c m d : Nat} {xs ys : List Nat} (h1 : Arg w a n c xs) (h2 : Arg w b m d ys) (t : Bool) (ht : t = true ↔ (LG (val xs) ∨ LG (val ys))) :
    Calls Tryd.prog 106 #[.slice a n c, .slice b m d] w fun r w' => r = .returned (.bool t) ∧ w' = w := by
  have Z1 := hid (size_arg h1)
  have Z2 := hid (size_arg h2)
  obtain ⟨L, hL⟩ : ∃ L, (ws (val xs)).length = L := ⟨_, rfl⟩
  obtain ⟨M, hM⟩ : ∃ M, (ws (val ys)).length = M := ⟨_, rfl⟩
  unfold LG at ht
  rw [hL] at Z1 ht
  rw [hM] at Z2 ht
  clear h1 h2 hL hM
  by_cases hl : 8192 < L
  · obtain rfl : t = true := ht.2 (.inl hl)
    clear ht
    go_enter Tryd.func106, Tryd.ntmps106
    go_wp2_with fail
    refine (Calls.mono Z1.out) ?_
    rintro r w1 ⟨rfl, rfl⟩
    go_wp2
    go_ret
    exact ⟨rfl, rfl⟩
  · have hlf : decide (8192 < L) = false := decide_eq_false hl
    have hlf2 : decide ((8192 : Int) < (L : Int)) = false := decide_eq_false (by omega)
    have ht2 : decide (8192 < M) = t := by
      cases t
      · exact decide_eq_false (fun h => by have := ht.2 (.inr h); cases this)
      · exact decide_eq_true ((ht.1 rfl).resolve_left hl)
    have ht3 : decide ((8192 : Int) < (M : Int)) = t := by rw [← ht2]; exact decide_eq_decide.2 (by omega)
    clear ht
    cases t
    all_goals (
      go_enter Tryd.func106, Tryd.ntmps106
      go_wp2_with fail
      refine (Calls.mono Z1.out) ?_
      rintro r w1 ⟨rfl, rfl⟩
      go_wp2_with fail
      refine (Calls.mono Z2.out) ?_
      rintro r w1 ⟨rfl, rfl⟩
      go_wp2
      go_ret
      exact ⟨by first | rfl | (rw [ht2]) | (rw [ht3]), rfl⟩)

set_option maxHeartbeats 1000000 in
theorem rfits_arg {w : World} {v : Value} {X lo : Nat} (hN : Nt lo w v X) (hs : (ws X).length ≤ 35184372088832) :
    Calls Tryd.prog 107 #[v] w fun r w' => One w.heap.size w' r (if LG X then (0, 2) else (X, 0)) ∧ Below w.heap.size w w' := by
  obtain ⟨a, c, rfl, A1⟩ := hN.arg hs
  have Z1 := hid (size_arg A1)
  have N1 := hid (rNorm_arg A1 (val_ws X))
  rw [val_ws] at Z1
  by_cases hL : LG X
  · rw [if_pos hL]
    unfold LG at hL
    generalize (ws X).length = L at *
    clear N1 A1 hN
    go_enter Tryd.func107, Tryd.ntmps107
    go_wp2_with fail
    refine (Calls.mono Z1.out) ?_
    rintro r w1 ⟨rfl, rfl⟩
    go_wp2
    go_ret2
    exact ⟨⟨_, rfl, Nt.nil _ _⟩, Below.refl _ _⟩
  · rw [if_neg hL]
    unfold LG at hL
    generalize (ws X).length = L at *
    clear A1 hN
    go_enter Tryd.func107, Tryd.ntmps107
    go_wp2_with fail
    refine (Calls.mono Z1.out) ?_
    rintro r w1 ⟨rfl, rfl⟩
    go_wp2_with fail
    refine (Calls.mono N1.out) ?_
    rintro r u1 ⟨v, rfl, hN, hb⟩
    have S := (Aside.intro (And.intro hN hb))
    clear hN hb
    go_wp2
    go_ret2
    exact ⟨⟨v, rfl, S.out.1⟩, S.out.2⟩

theorem LG_le {X Y : Nat} (h : X ≤ Y) (hL : LG X) : LG Y := by
  unfold LG at *
  have h1 := (ws_len_le X (ws Y).length).2 (by have := ws_len_lt Y; omega)
  omega

theorem LG_pw {X : Nat} (h : ¬ LG X) : X < pw 8192 := (ws_len_le X 8192).1 (by unfold LG at h; omega)

set_option maxHeartbeats 1000000 in
theorem rAdd_arg {w : World} {a b : Option Addr} {n c m d : Nat} {xs ys : List Nat} (h1 : Arg w a n c xs) (h2 : Arg w b m d ys) (hn : n ≤ 35184372088000) (hm : m ≤ 35184372088000) :
    Calls Tryd.prog 57 #[.slice a n c, .slice b m d] w fun r w' => One w.heap.size w' r (addS (val xs) (val ys)) ∧ Below w.heap.size w w' := by
  by_cases hl : LG (val xs) ∨ LG (val ys)
  · have e : addS (val xs) (val ys) = (0, 2) := by
      unfold addS
      rw [if_pos]
      rcases hl with h | h
      · exact LG_le (by omega) h
      · exact LG_le (by omega) h
    rw [e]
    have L := hid (rlong_arg h1 h2 true (by simp [hl]))
    clear h1 h2 e hl
    go_enter Tryd.func57, Tryd.ntmps57
    go_wp2_with fail
    refine (Calls.mono L.out) ?_
    rintro r w1 ⟨rfl, rfl⟩
    go_wp2
    go_ret2
    exact ⟨⟨_, rfl, Nt.nil _ _⟩, Below.refl _ _⟩
  · have L := hid (rlong_arg h1 h2 false (by simp [hl]))
    have P := hid (rPlus_arg h1 h2 hn hm rfl)
    have hx := LG_pw (fun h => hl (.inl h))
    have hy := LG_pw (fun h => hl (.inr h))
    have hs := (ws_len_le (val xs + val ys) 8193).2 (by rw [pw_succ]; omega)
    unfold addS
    generalize val xs + val ys = Z at *
    obtain ⟨p, hp⟩ : ∃ p, (if LG Z then ((0 : Nat), (2 : Int)) else (Z, 0)) = p := ⟨_, rfl⟩
    rw [hp]
    have HP := Aside.intro hp
    clear h1 h2 hl hx hy hp
    go_enter Tryd.func57, Tryd.ntmps57
    go_wp2_with fail
    refine (Calls.mono L.out) ?_
    rintro r w1 ⟨rfl, rfl⟩
    go_wp2_with fail
    refine (Calls.mono P.out) ?_
    rintro r u1 ⟨v, rfl, hN, hb⟩
    have F := hid (rfits_arg hN (by omega))
    rw [HP.out] at F
    have S := Aside.intro hb
    clear hN hb
    go_wp2_with fail
    refine (Calls.mono F.out) ?_
    rintro r u2 ⟨⟨v2, rfl, hN⟩, hb⟩
    have S2 := (Aside.intro (And.intro hN hb))
    clear hN hb
    go_wp2
    go_ret2
    exact ⟨⟨v2, rfl, S2.out.1.mono S.out.size⟩, S.out.trans (S2.out.2.mono S.out.size)⟩

set_option maxHeartbeats 1000000 in
theorem rSub_arg {w : World} {a b : Option Addr} {n c m d : Nat} {xs ys : List Nat} (h1 : Arg w a n c xs) (h2 : Arg w b m d ys) :
    Calls Tryd.prog 58 #[.slice a n c, .slice b m d] w fun r w' => One w.heap.size w' r (subS (val xs) (val ys)) ∧ Below w.heap.size w w' := by
  by_cases hl : LG (val xs) ∨ LG (val ys)
  · have e : subS (val xs) (val ys) = (0, 2) := by unfold subS; rw [if_pos hl]
    rw [e]
    have L := hid (rlong_arg h1 h2 true (by simp [hl]))
    clear h1 h2 e hl
    go_enter Tryd.func58, Tryd.ntmps58
    go_wp2_with fail
    refine (Calls.mono L.out) ?_
    rintro r w1 ⟨rfl, rfl⟩
    go_wp2
    go_ret2
    exact ⟨⟨_, rfl, Nt.nil _ _⟩, Below.refl _ _⟩
  · have L := hid (rlong_arg h1 h2 false (by simp [hl]))
    by_cases hlt : val xs < val ys
    · have e : subS (val xs) (val ys) = (0, 20) := by unfold subS; rw [if_neg hl, if_pos hlt]
      rw [e]
      have C := hid (rCmp_arg h1 h2 (-1) (cmpI_lt hlt))
      clear h1 h2 e hl hlt
      go_enter Tryd.func58, Tryd.ntmps58
      go_wp2_with fail
      refine (Calls.mono L.out) ?_
      rintro r w1 ⟨rfl, rfl⟩
      go_wp2_with fail
      refine (Calls.mono C.out) ?_
      rintro r u1 ⟨rfl, hb⟩
      have S := Aside.intro hb
      clear hb
      go_wp2
      go_ret2
      exact ⟨⟨_, rfl, Nt.nil _ _⟩, S.out⟩
    · have e : subS (val xs) (val ys) = (val xs - val ys, 0) := by unfold subS; rw [if_neg hl, if_neg hlt]
      rw [e]
      obtain ⟨z, hz⟩ : ∃ z, cmpI (val xs) (val ys) = z := ⟨_, rfl⟩
      have hz0 : decide (z < 0) = false := decide_eq_false (by have := cmpI_ge (x := val xs) (y := val ys) (by omega); omega)
      have C := hid (rCmp_arg h1 h2 z hz)
      have hx : (ws (val xs)).length ≤ 8192 := by have : ¬ LG (val xs) := fun h => hl (.inl h); unfold LG at this; omega
      have hy : (ws (val ys)).length ≤ 8192 := by have : ¬ LG (val ys) := fun h => hl (.inr h); unfold LG at this; omega
      have HX := (Aside.intro (And.intro h1 (And.intro h2 hlt)))
      clear h1 h2 e hl hlt hz
      go_enter Tryd.func58, Tryd.ntmps58
      go_wp2_with fail
      refine (Calls.mono L.out) ?_
      rintro r w1 ⟨rfl, rfl⟩
      go_wp2_with fail
      refine (Calls.mono C.out) ?_
      rintro r u1 ⟨rfl, hb⟩
      have N1 := hid (rNorm_arg (HX.out.1.below hb) rfl)
      have S1 := Aside.intro hb
      clear hb
      go_wp2_with fail
      refine (Calls.mono N1.out) ?_
      rintro r u2 ⟨v, rfl, hN, hb⟩
      have hb2 : Below w1.heap.size w1 u2 := S1.out.trans (hb.mono S1.out.size)
      have N2 := hid (rNorm_arg (HX.out.2.1.below hb2) rfl)
      obtain ⟨a1, c1, rfl, A1⟩ := hN.arg (by omega)
      have S2 := (Aside.intro (And.intro hb2 (And.intro hN A1)))
      clear hb hb2 hN A1 S1 N1
      go_wp2_with fail
      refine (Calls.mono N2.out) ?_
      rintro r u3 ⟨v, rfl, hN, hb⟩
      obtain ⟨a2, c2, rfl, A2⟩ := hN.arg (by omega)
      have hb3 : Below w1.heap.size w1 u3 := S2.out.1.trans (hb.mono S2.out.1.size)
      have M := hid (rMinus_arg (V := val xs - val ys) (S2.out.2.2.below hb) A2 (by omega) (by omega) (by rw [val_ws, val_ws]; have := HX.out.2.2; omega))
      have S3 := Aside.intro hb3
      clear hb hb3 hN A2 N2
      go_wp2_with fail
      refine (Calls.mono M.out) ?_
      rintro r u4 ⟨v, rfl, hN, hb⟩
      have S4 := (Aside.intro (And.intro hN hb))
      clear hN hb M
      go_wp2
      go_ret2
      exact ⟨⟨v, rfl, S4.out.1.mono S3.out.size⟩, S3.out.trans (S4.out.2.mono S3.out.size)⟩
end Go.Proofs.YtlhiccmdhnhdeaaDoor

/- The document's Mul, Div. -/
namespace Go.Proofs.YtlhiccmdhnhdeaaDoor
open Go.RowKit
set_option linter.unusedVariables false
set_option maxRecDepth 20000

theorem prod_len (X Y i k : Nat) (h1 : X < pw i) (h2 : Y < pw k) : (ws (X * Y)).length ≤ i + k := (ws_len_le _ _).2 (pw_mul_lt h1 h2)

set_option maxHeartbeats 1000000 in
theorem rMul_arg {w : World} {a b : Option Addr} {n c m d : Nat} {xs ys : List Nat} (h1 : Arg w a n c xs) (h2 : Arg w b m d ys) :
    Calls Tryd.prog 59 #[.slice a n c, .slice b m d] w fun r w' => One w.heap.size w' r (mulS (val xs) (val ys)) ∧ Below w.heap.size w w' := by
  by_cases hl : LG (val xs) ∨ LG (val ys)
  · have e : mulS (val xs) (val ys) = (0, 2) := by unfold mulS; rw [if_pos hl]
    rw [e]
    have L := hid (rlong_arg h1 h2 true (by simp [hl]))
    clear h1 h2 e hl
    go_enter Tryd.func59, Tryd.ntmps59
    go_wp2_with fail
    refine (Calls.mono L.out) ?_
    rintro r w1 ⟨rfl, rfl⟩
    go_wp2
    go_ret2
    exact ⟨⟨_, rfl, Nt.nil _ _⟩, Below.refl _ _⟩
  · have L := hid (rlong_arg h1 h2 false (by simp [hl]))
    have hx : (ws (val xs)).length ≤ 8192 := by have : ¬ LG (val xs) := fun h => hl (.inl h); unfold LG at this; omega
    have hy : (ws (val ys)).length ≤ 8192 := by have : ¬ LG (val ys) := fun h => hl (.inr h); unfold LG at this; omega
    have hs : (ws (val xs * val ys)).length ≤ 8192 + 8192 := prod_len _ _ _ _ (LG_pw (fun h => hl (.inl h))) (LG_pw (fun h => hl (.inr h)))
    unfold mulS
    rw [if_neg hl]
    obtain ⟨p, hp⟩ : ∃ p, (if LG (val xs * val ys) then ((0 : Nat), (2 : Int)) else (val xs * val ys, 0)) = p := ⟨_, rfl⟩
    rw [hp]
    have HX := (Aside.intro (And.intro h1 (And.intro h2 hp)))
    clear h1 h2 hl hp
    go_enter Tryd.func59, Tryd.ntmps59
    go_wp2_with fail
    refine (Calls.mono L.out) ?_
    rintro r w1 ⟨rfl, rfl⟩
    have N1 := hid (rNorm_arg HX.out.1 rfl)
    go_wp2_with fail
    refine (Calls.mono N1.out) ?_
    rintro r u2 ⟨v, rfl, hN, hb⟩
    have N2 := hid (rNorm_arg (HX.out.2.1.below hb) rfl)
    obtain ⟨a1, c1, rfl, A1⟩ := hN.arg (by omega)
    have S2 := (Aside.intro (And.intro hb (And.intro hN A1)))
    clear hb hN A1 N1
    go_wp2_with fail
    refine (Calls.mono N2.out) ?_
    rintro r u3 ⟨v, rfl, hN, hb⟩
    obtain ⟨a2, c2, rfl, A2⟩ := hN.arg (by omega)
    have hb3 : Below w1.heap.size w1 u3 := S2.out.1.trans (hb.mono S2.out.1.size)
    have M := hid (rTimes_arg (V := val xs * val ys) (S2.out.2.2.below hb) A2 (by omega) (by rw [val_ws, val_ws]))
    have S3 := Aside.intro hb3
    clear hb hb3 hN A2 N2
    go_wp2_with fail
    refine (Calls.mono M.out) ?_
    rintro r u4 ⟨v, rfl, hN, hb⟩
    have F := hid (rfits_arg hN (by omega))
    rw [HX.out.2.2] at F
    have S4 := Aside.intro (S3.out.trans (hb.mono S3.out.size))
    clear hN hb M
    go_wp2_with fail
    refine (Calls.mono F.out) ?_
    rintro r u5 ⟨⟨v2, rfl, hN⟩, hb⟩
    have S5 := (Aside.intro (And.intro hN hb))
    clear hN hb
    go_wp2
    go_ret2
    exact ⟨⟨v2, rfl, S5.out.1.mono S4.out.size⟩, S4.out.trans (S5.out.2.mono S4.out.size)⟩

/-- Of the document's Div nothing is asked of where its two answers lie. -/
def Three' (lo : Nat) (w : World) (r : Ending) (a : Nat × Nat × Int) : Prop := ∃ v u, r = .returned (.tuple #[v, u, .int .i64 a.2.2]) ∧ Nt lo w v a.1 ∧ Nt lo w u a.2.1

set_option maxHeartbeats 1000000 in
theorem rDiv_arg {w : World} {a b : Option Addr} {n c m d : Nat} {xs ys : List Nat} (h1 : Arg w a n c xs) (h2 : Arg w b m d ys) :
    Calls Tryd.prog 60 #[.slice a n c, .slice b m d] w fun r w' => Three' w.heap.size w' r (divS (val xs) (val ys)) ∧ Below w.heap.size w w' := by
  by_cases hl : LG (val xs) ∨ LG (val ys)
  · have e : divS (val xs) (val ys) = (0, 0, 2) := by unfold divS; rw [if_pos hl]
    rw [e]
    have L := hid (rlong_arg h1 h2 true (by simp [hl]))
    clear h1 h2 e hl
    go_enter Tryd.func60, Tryd.ntmps60
    go_wp2_with fail
    refine (Calls.mono L.out) ?_
    rintro r w1 ⟨rfl, rfl⟩
    go_wp2
    go_ret3
    exact ⟨⟨_, _, rfl, Nt.nil _ _, Nt.nil _ _⟩, Below.refl _ _⟩
  · have L := hid (rlong_arg h1 h2 false (by simp [hl]))
    have Z := hid (size_arg h2)
    by_cases h0 : val ys = 0
    · have e : divS (val xs) (val ys) = (0, 0, 21) := by unfold divS; rw [if_neg hl, if_pos h0]
      rw [e]
      rw [h0, ws_zero] at Z
      clear h1 h2 e hl h0
      go_enter Tryd.func60, Tryd.ntmps60
      go_wp2_with fail
      refine (Calls.mono L.out) ?_
      rintro r w1 ⟨rfl, rfl⟩
      go_wp2_with fail
      refine (Calls.mono Z.out) ?_
      rintro r w1 ⟨rfl, rfl⟩
      go_wp2
      go_ret3
      exact ⟨⟨_, _, rfl, Nt.nil _ _, Nt.nil _ _⟩, Below.refl _ _⟩
    · have e : divS (val xs) (val ys) = (val xs / val ys, val xs % val ys, 0) := by unfold divS; rw [if_neg hl, if_neg h0]
      rw [e]
      have hx : (ws (val xs)).length ≤ 8192 := by have : ¬ LG (val xs) := fun h => hl (.inl h); unfold LG at this; omega
      have hy : (ws (val ys)).length ≤ 8192 := by have : ¬ LG (val ys) := fun h => hl (.inr h); unfold LG at this; omega
      have hk0 : (ws (val ys)).length ≠ 0 := fun e => h0 ((ws_len_zero _).1 e)
      obtain ⟨k, hk⟩ : ∃ k, (ws (val ys)).length = k := ⟨_, rfl⟩
      rw [hk] at Z hk0
      have hkf : ((k : Int) == 0) = false := by simp; omega
      have HX := (Aside.intro (And.intro h1 (And.intro h2 h0)))
      clear h1 h2 e hl h0 hk hk0
      go_enter Tryd.func60, Tryd.ntmps60
      go_wp2_with fail
      refine (Calls.mono L.out) ?_
      rintro r w1 ⟨rfl, rfl⟩
      go_wp2_with fail
      refine (Calls.mono Z.out) ?_
      rintro r w1 ⟨rfl, rfl⟩
      have N1 := hid (rNorm_arg HX.out.1 rfl)
      go_wp2_with fail
      refine (Calls.mono N1.out) ?_
      rintro r u2 ⟨v, rfl, hN, hb⟩
      have N2 := hid (rNorm_arg (HX.out.2.1.below hb) rfl)
      obtain ⟨a1, c1, rfl, A1⟩ := hN.arg (by omega)
      have S2 := (Aside.intro (And.intro hb (And.intro hN A1)))
      clear hb hN A1 N1
      go_wp2_with fail
      refine (Calls.mono N2.out) ?_
      rintro r u3 ⟨v, rfl, hN, hb⟩
      obtain ⟨a2, c2, rfl, A2⟩ := hN.arg (by omega)
      have hb3 : Below w1.heap.size w1 u3 := S2.out.1.trans (hb.mono S2.out.1.size)
      have P0 := parts_any (S2.out.2.2.below hb) A2 (by omega) (by omega) (by rw [val_ws]; have := HX.out.2.2; omega)
      rw [val_ws, val_ws] at P0
      have P := hid P0
      have S3 := Aside.intro hb3
      clear hb hb3 hN A2 N2 P0
      go_wp2_with fail
      refine (Calls.mono P.out) ?_
      rintro r u4 ⟨v, u, rfl, hN, hN2, hb⟩
      have S4 := (Aside.intro (And.intro hN (And.intro hN2 hb)))
      clear hN hN2 hb P
      go_wp2
      go_ret3
      exact ⟨⟨v, u, rfl, S4.out.1.mono S3.out.size, S4.out.2.1.mono S3.out.size⟩, S3.out.trans (S4.out.2.2.mono S3.out.size)⟩
end Go.Proofs.YtlhiccmdhnhdeaaDoor

/- The law's program. -/
namespace Go.Proofs.YtlhiccmdhnhdeaaDoor
open Go.RowKit
set_option linter.unusedVariables false
set_option maxRecDepth 20000

/-- A block that is one struct's cells, free to be written. -/
def Blk (w : World) (h : Nat) (cs : Array Value) : Prop := w.heap[h]? = some (.cells cs 32 (0, 0))
theorem Blk.lt {w : World} {h : Nat} {cs : Array Value} (H : Blk w h cs) : h < w.heap.size := (Array.getElem?_eq_some_iff.1 H).1
theorem Blk.below {w w' : World} {h : Nat} {cs : Array Value} (H : Blk w h cs) (hb : Below w.heap.size w w') : Blk w' h cs := by
  unfold Blk; rw [hb.block h H.lt]; exact H
theorem Blk.cell {w : World} {h : Nat} {cs : Array Value} (H : Blk w h cs) (i : Nat) : w.cell? ⟨h, i, none⟩ = cs[i]? := by
  unfold Blk at H; simp [World.cell?, H]
theorem Blk.frozen {w : World} {h : Nat} {cs : Array Value} (H : Blk w h cs) (i : Nat) : w.frozen? ⟨h, i, none⟩ = false := by
  unfold Blk at H; simp [World.frozen?, H]
theorem Blk.set {w : World} {h : Nat} {cs : Array Value} (H : Blk w h cs) (i : Nat) (u : Value) : Blk (w.setCell ⟨h, i, none⟩ u) h (cs.set! i u) := by
  unfold Blk at H ⊢
  simp only [World.setCell, Array.getElem?_modify, H]
  simp

end Go.Proofs.YtlhiccmdhnhdeaaDoor

/- The law's document, program: a struct of answers. -/
namespace Go.Proofs.YtlhiccmdhnhdeaaDoor
open Go.RowKit
set_option linter.unusedVariables false
set_option maxRecDepth 20000

/-- What document answers. -/
def Both (lo : Nat) (w : World) (r : Ending) (X1 X2 X3 X4 X5 : Nat) (e1 e2 e3 e4 z : Int) : Prop :=
  ∃ v1 v2 v3 v4 v5, r = .returned (.agg #[v1, v2, v3, v4, v5, .int .i64 e1, .int .i64 e2, .int .i64 e3, .int .i64 e4, .int .i64 z]) ∧ Nt lo w v1 X1 ∧ Nt lo w v2 X2 ∧ Nt lo w v3 X3 ∧ Nt lo w v4 X4 ∧ Nt lo w v5 X5

theorem document_res (W : World) (h : Nat) (v0 v1 v2 v3 v4 v5 v6 v7 v8 v9 : Value) (tmps : Array Value) (ht : tmps[4]?.getD undef = .pointer (some ⟨h, 0, none⟩))
    (c_0 : W.cell? ⟨h, 0, none⟩ = some v0) (c_1 : W.cell? ⟨h, 1, none⟩ = some v1) (c_2 : W.cell? ⟨h, 2, none⟩ = some v2) (c_3 : W.cell? ⟨h, 3, none⟩ = some v3) (c_4 : W.cell? ⟨h, 4, none⟩ = some v4) (c_5 : W.cell? ⟨h, 5, none⟩ = some v5) (c_6 : W.cell? ⟨h, 6, none⟩ = some v6) (c_7 : W.cell? ⟨h, 7, none⟩ = some v7) (c_8 : W.cell? ⟨h, 8, none⟩ = some v8) (c_9 : W.cell? ⟨h, 9, none⟩ = some v9) :
    (results Tryd.f14 tmps).run Tryd.prog W = .ok (.agg #[v0, v1, v2, v3, v4, v5, v6, v7, v8, v9]) W := by
  simp [results, Tryd.results14, ht, go_sem, c_0, c_1, c_2, c_3, c_4, c_5, c_6, c_7, c_8, c_9]

theorem program_res (W : World) (h : Nat) (v0 v1 v2 v3 v4 v5 v6 v7 v8 v9 : Value) (tmps : Array Value) (ht : tmps[4]?.getD undef = .pointer (some ⟨h, 0, none⟩))
    (c_0 : W.cell? ⟨h, 0, none⟩ = some v0) (c_1 : W.cell? ⟨h, 1, none⟩ = some v1) (c_2 : W.cell? ⟨h, 2, none⟩ = some v2) (c_3 : W.cell? ⟨h, 3, none⟩ = some v3) (c_4 : W.cell? ⟨h, 4, none⟩ = some v4) (c_5 : W.cell? ⟨h, 5, none⟩ = some v5) (c_6 : W.cell? ⟨h, 6, none⟩ = some v6) (c_7 : W.cell? ⟨h, 7, none⟩ = some v7) (c_8 : W.cell? ⟨h, 8, none⟩ = some v8) (c_9 : W.cell? ⟨h, 9, none⟩ = some v9) :
    (results Tryd.f11 tmps).run Tryd.prog W = .ok (.agg #[v0, v1, v2, v3, v4, v5, v6, v7, v8, v9]) W := by
  simp [results, Tryd.results11, ht, go_sem, c_0, c_1, c_2, c_3, c_4, c_5, c_6, c_7, c_8, c_9]

theorem Blk.all {w : World} {h : Nat} {a0 a1 a2 a3 a4 a5 a6 a7 a8 a9 : Value} (H : Blk w h #[a0, a1, a2, a3, a4, a5, a6, a7, a8, a9]) (v0 v1 v2 v3 v4 v5 v6 v7 v8 v9 : Value) :
    Blk ((((((((((w.setCell ⟨h, 0, none⟩ v0).setCell ⟨h, 1, none⟩ v1).setCell ⟨h, 2, none⟩ v2).setCell ⟨h, 3, none⟩ v3).setCell ⟨h, 4, none⟩ v4).setCell ⟨h, 5, none⟩ v5).setCell ⟨h, 6, none⟩ v6).setCell ⟨h, 7, none⟩ v7).setCell ⟨h, 8, none⟩ v8).setCell ⟨h, 9, none⟩ v9) h #[v0, v1, v2, v3, v4, v5, v6, v7, v8, v9] := by
  have H0 : Blk _ h #[v0, a1, a2, a3, a4, a5, a6, a7, a8, a9] := H.set 0 v0
  have H1 : Blk _ h #[v0, v1, a2, a3, a4, a5, a6, a7, a8, a9] := H0.set 1 v1
  have H2 : Blk _ h #[v0, v1, v2, a3, a4, a5, a6, a7, a8, a9] := H1.set 2 v2
  have H3 : Blk _ h #[v0, v1, v2, v3, a4, a5, a6, a7, a8, a9] := H2.set 3 v3
  have H4 : Blk _ h #[v0, v1, v2, v3, v4, a5, a6, a7, a8, a9] := H3.set 4 v4
  have H5 : Blk _ h #[v0, v1, v2, v3, v4, v5, a6, a7, a8, a9] := H4.set 5 v5
  have H6 : Blk _ h #[v0, v1, v2, v3, v4, v5, v6, a7, a8, a9] := H5.set 6 v6
  have H7 : Blk _ h #[v0, v1, v2, v3, v4, v5, v6, v7, a8, a9] := H6.set 7 v7
  have H8 : Blk _ h #[v0, v1, v2, v3, v4, v5, v6, v7, v8, a9] := H7.set 8 v8
  have H9 : Blk _ h #[v0, v1, v2, v3, v4, v5, v6, v7, v8, v9] := H8.set 9 v9
  exact H9

theorem LG_ans {X : Nat} (h : ¬ LG X) : (ws X).length ≤ 8192 := by unfold LG at h; omega
theorem addS_len {X Y V : Nat} {e : Int} (h : addS X Y = (V, e)) : (ws V).length ≤ 8192 := by
  unfold addS at h
  split at h
  · cases h; rw [ws_zero]; simp
  · next hL => cases h; exact LG_ans hL
theorem subS_len {X Y V : Nat} {e : Int} (h : subS X Y = (V, e)) : (ws V).length ≤ 8192 := by
  unfold subS at h
  split at h
  · cases h; rw [ws_zero]; simp
  · next hL =>
    split at h
    · cases h; rw [ws_zero]; simp
    · cases h
      exact LG_ans (fun h => hL (.inl (LG_le (Nat.sub_le _ _) h)))
theorem mulS_len {X Y V : Nat} {e : Int} (h : mulS X Y = (V, e)) : (ws V).length ≤ 8192 := by
  unfold mulS at h
  split at h
  · cases h; rw [ws_zero]; simp
  · split at h
    · cases h; rw [ws_zero]; simp
    · next hL => cases h; exact LG_ans hL
theorem divS_len {X Y V R : Nat} {e : Int} (h : divS X Y = (V, R, e)) : (ws V).length ≤ 8192 ∧ (ws R).length ≤ 8192 := by
  unfold divS at h
  split at h
  · cases h; rw [ws_zero]; simp
  · next hL =>
    split at h
    · cases h; rw [ws_zero]; simp
    · cases h
      exact ⟨LG_ans (fun h => hL (.inl (LG_le (Nat.div_le_self _ _) h))), LG_ans (fun h => hL (.inl (LG_le (Nat.mod_le _ _) h)))⟩

set_option maxHeartbeats 8000000 in
set_option maxRecDepth 100000 in
theorem document_any {w : World} {a b : Option Addr} {n c m d : Nat} {xs ys : List Nat} (h1 : Arg w a n c xs) (h2 : Arg w b m d ys) (hn : n ≤ 35184372088000) (hm : m ≤ 35184372088000)
    (X1 X2 X3 X4 X5 : Nat) (e1 e2 e3 e4 z : Int) (q1 : addS (val xs) (val ys) = (X1, e1)) (q2 : subS (val xs) (val ys) = (X2, e2)) (q3 : mulS (val xs) (val ys) = (X3, e3)) (q4 : divS (val xs) (val ys) = (X4, X5, e4)) (q5 : cmpI (val xs) (val ys) = z) :
    Calls Tryd.prog 14 #[.slice a n c, .slice b m d] w fun r w' => Both w.heap.size w' r X1 X2 X3 X4 X5 e1 e2 e3 e4 z ∧ Below w.heap.size w w' := by
  have HX := (Aside.intro (And.intro h1 (And.intro h2 (And.intro q1 (And.intro q2 (And.intro q3 (And.intro q4 q5)))))))
  have hw1 := addS_len q1
  have hw2 := subS_len q2
  have hw3 := mulS_len q3
  obtain ⟨hw4, hw5⟩ := divS_len q4
  obtain ⟨U0, hU0⟩ : ∃ U, U = ((w.alloc (.cells #[.slice none 0 0, .slice none 0 0, .slice none 0 0, .slice none 0 0, .slice none 0 0, .int .i64 0, .int .i64 0, .int .i64 0, .int .i64 0, .int .i64 0] 32)).alloc (.cells #[.slice none 0 0, .slice none 0 0, .slice none 0 0, .slice none 0 0, .slice none 0 0, .int .i64 0, .int .i64 0, .int .i64 0, .int .i64 0, .int .i64 0] 32)) := ⟨_, rfl⟩
  have hbel : Below w.heap.size w U0 := by rw [hU0]; exact ((Below.refl _ _).alloc (Nat.le_refl _) _).alloc (by simp) _
  have K0 : Blk U0 w.heap.size #[.slice none 0 0, .slice none 0 0, .slice none 0 0, .slice none 0 0, .slice none 0 0, .int .i64 0, .int .i64 0, .int .i64 0, .int .i64 0, .int .i64 0] := by
    unfold Blk
    rw [hU0, Below.heap_alloc _ _ _ (by simp), heap_alloc_new]
  have K1 : Blk U0 (w.heap.size + 1) #[.slice none 0 0, .slice none 0 0, .slice none 0 0, .slice none 0 0, .slice none 0 0, .int .i64 0, .int .i64 0, .int .i64 0, .int .i64 0, .int .i64 0] := by
    unfold Blk
    have h5 := heap_alloc_new (w.alloc (.cells #[.slice none 0 0, .slice none 0 0, .slice none 0 0, .slice none 0 0, .slice none 0 0, .int .i64 0, .int .i64 0, .int .i64 0, .int .i64 0, .int .i64 0] 32)) (.cells #[.slice none 0 0, .slice none 0 0, .slice none 0 0, .slice none 0 0, .slice none 0 0, .int .i64 0, .int .i64 0, .int .i64 0, .int .i64 0, .int .i64 0] 32)
    rw [hU0]
    simpa using h5
  have S0 := (Aside.intro (And.intro hbel (And.intro K0 K1)))
  have hs0 := K1.lt
  clear h1 h2 q1 q2 q3 q4 q5 hbel K0 K1
  go_enter Tryd.func14, Tryd.ntmps14
  obtain ⟨hbel, K0, K1⟩ := S0.out
  obtain ⟨h1, h2, q1, q2, q3, q4, q5⟩ := HX.out
  have hbw : Below w.heap.size w U0 := hbel
  have A1 := h1.below hbw
  have A2 := h2.below hbw
  have H0 := rAdd_arg A1 A2 hn hm
  rw [q1] at H0
  have H := hid H0
  clear H0 A1 A2 hbw hbel K0 K1 h1 h2 q1 q2 q3 q4 q5
  go_wp2_with fail
  rw [← hU0]
  refine (Calls.mono H.out) ?_
  rintro r u1 ⟨⟨v1, rfl, M1⟩, hb⟩
  obtain ⟨hbel, K0, K1⟩ := S0.out
  have hsu1 := hb.size
  replace M1 : Nt U0.heap.size u1 v1 X1 := M1
  obtain ⟨a1, c1, rfl, _⟩ := M1.arg (by omega)
  obtain ⟨U1, hU1⟩ : ∃ U, U = ((u1.setCell ⟨w.heap.size + 1, 0, none⟩ (.slice a1 (ws X1).length c1)).setCell ⟨w.heap.size + 1, 5, none⟩ (.int .i64 e1)) := ⟨_, rfl⟩
  have hbt : But (w.heap.size + 1) u1 U1 := by rw [hU1]; exact But.set (But.set (But.refl _ _) _ _) _ _
  have J1 : Blk U1 (w.heap.size + 1) #[.slice a1 (ws X1).length c1, .slice none 0 0, .slice none 0 0, .slice none 0 0, .slice none 0 0, .int .i64 e1, .int .i64 0, .int .i64 0, .int .i64 0, .int .i64 0] := by rw [hU1]; exact ((K1.below hb).set 0 _).set 5 _
  have J0 : Blk U1 w.heap.size #[.slice none 0 0, .slice none 0 0, .slice none 0 0, .slice none 0 0, .slice none 0 0, .int .i64 0, .int .i64 0, .int .i64 0, .int .i64 0, .int .i64 0] := by unfold Blk; rw [hbt.block w.heap.size (by have := (K0.below hb).lt; omega) (by omega)]; exact K0.below hb
  have hbl : Below w.heap.size w U1 := But.below (hbel.trans (hb.mono (by omega))) hbt (by omega) (by omega)
  have hs1 := J1.lt
  have f1_0 := (K1.below hb).frozen 0
  have f1_5 := (K1.below hb).frozen 5
  have g1_0 := (K1.below hb).cell 0
  have g1_5 := (K1.below hb).cell 5
  simp at g1_0 g1_5
  have S1 := (Aside.intro (And.intro hbl (And.intro J0 (And.intro J1 ((M1.mono (lo' := w.heap.size + 2) (by omega)).but hbt (by omega))))))
  clear hb hbt J0 J1 hbl H hbel K0 K1 M1
  obtain ⟨hbel, K0, K1, N_v1⟩ := S1.out
  obtain ⟨h1, h2, q1, q2, q3, q4, q5⟩ := HX.out
  have hbw : Below w.heap.size w U1 := hbel
  have A1 := h1.below hbw
  have A2 := h2.below hbw
  have H0 := rSub_arg A1 A2
  rw [q2] at H0
  have H := hid H0
  clear H0 A1 A2 hbw hbel K0 K1 N_v1 h1 h2 q1 q2 q3 q4 q5
  go_wp2_with fail
  rw [← hU1]
  refine (Calls.mono H.out) ?_
  rintro r u2 ⟨⟨v2, rfl, M2⟩, hb⟩
  obtain ⟨hbel, K0, K1, N_v1⟩ := S1.out
  have hsu2 := hb.size
  replace M2 : Nt U1.heap.size u2 v2 X2 := M2
  obtain ⟨a2, c2, rfl, _⟩ := M2.arg (by omega)
  obtain ⟨U2, hU2⟩ : ∃ U, U = ((u2.setCell ⟨w.heap.size + 1, 1, none⟩ (.slice a2 (ws X2).length c2)).setCell ⟨w.heap.size + 1, 6, none⟩ (.int .i64 e2)) := ⟨_, rfl⟩
  have hbt : But (w.heap.size + 1) u2 U2 := by rw [hU2]; exact But.set (But.set (But.refl _ _) _ _) _ _
  have J1 : Blk U2 (w.heap.size + 1) #[.slice a1 (ws X1).length c1, .slice a2 (ws X2).length c2, .slice none 0 0, .slice none 0 0, .slice none 0 0, .int .i64 e1, .int .i64 e2, .int .i64 0, .int .i64 0, .int .i64 0] := by rw [hU2]; exact ((K1.below hb).set 1 _).set 6 _
  have J0 : Blk U2 w.heap.size #[.slice none 0 0, .slice none 0 0, .slice none 0 0, .slice none 0 0, .slice none 0 0, .int .i64 0, .int .i64 0, .int .i64 0, .int .i64 0, .int .i64 0] := by unfold Blk; rw [hbt.block w.heap.size (by have := (K0.below hb).lt; omega) (by omega)]; exact K0.below hb
  have hbl : Below w.heap.size w U2 := But.below (hbel.trans (hb.mono (by omega))) hbt (by omega) (by omega)
  have hs2 := J1.lt
  have f2_1 := (K1.below hb).frozen 1
  have f2_6 := (K1.below hb).frozen 6
  have g2_1 := (K1.below hb).cell 1
  have g2_6 := (K1.below hb).cell 6
  simp at g2_1 g2_6
  have S2 := (Aside.intro (And.intro hbl (And.intro J0 (And.intro J1 (And.intro ((N_v1.below hb).but hbt (by omega)) ((M2.mono (lo' := w.heap.size + 2) (by omega)).but hbt (by omega)))))))
  clear hb hbt J0 J1 hbl H hbel K0 K1 N_v1 M2
  obtain ⟨hbel, K0, K1, N_v1, N_v2⟩ := S2.out
  obtain ⟨h1, h2, q1, q2, q3, q4, q5⟩ := HX.out
  have hbw : Below w.heap.size w U2 := hbel
  have A1 := h1.below hbw
  have A2 := h2.below hbw
  have H0 := rMul_arg A1 A2
  rw [q3] at H0
  have H := hid H0
  clear H0 A1 A2 hbw hbel K0 K1 N_v1 N_v2 h1 h2 q1 q2 q3 q4 q5
  go_wp2_with fail
  rw [← hU2]
  refine (Calls.mono H.out) ?_
  rintro r u3 ⟨⟨v3, rfl, M3⟩, hb⟩
  obtain ⟨hbel, K0, K1, N_v1, N_v2⟩ := S2.out
  have hsu3 := hb.size
  replace M3 : Nt U2.heap.size u3 v3 X3 := M3
  obtain ⟨a3, c3, rfl, _⟩ := M3.arg (by omega)
  obtain ⟨U3, hU3⟩ : ∃ U, U = ((u3.setCell ⟨w.heap.size + 1, 2, none⟩ (.slice a3 (ws X3).length c3)).setCell ⟨w.heap.size + 1, 7, none⟩ (.int .i64 e3)) := ⟨_, rfl⟩
  have hbt : But (w.heap.size + 1) u3 U3 := by rw [hU3]; exact But.set (But.set (But.refl _ _) _ _) _ _
  have J1 : Blk U3 (w.heap.size + 1) #[.slice a1 (ws X1).length c1, .slice a2 (ws X2).length c2, .slice a3 (ws X3).length c3, .slice none 0 0, .slice none 0 0, .int .i64 e1, .int .i64 e2, .int .i64 e3, .int .i64 0, .int .i64 0] := by rw [hU3]; exact ((K1.below hb).set 2 _).set 7 _
  have J0 : Blk U3 w.heap.size #[.slice none 0 0, .slice none 0 0, .slice none 0 0, .slice none 0 0, .slice none 0 0, .int .i64 0, .int .i64 0, .int .i64 0, .int .i64 0, .int .i64 0] := by unfold Blk; rw [hbt.block w.heap.size (by have := (K0.below hb).lt; omega) (by omega)]; exact K0.below hb
  have hbl : Below w.heap.size w U3 := But.below (hbel.trans (hb.mono (by omega))) hbt (by omega) (by omega)
  have hs3 := J1.lt
  have f3_2 := (K1.below hb).frozen 2
  have f3_7 := (K1.below hb).frozen 7
  have g3_2 := (K1.below hb).cell 2
  have g3_7 := (K1.below hb).cell 7
  simp at g3_2 g3_7
  have S3 := (Aside.intro (And.intro hbl (And.intro J0 (And.intro J1 (And.intro ((N_v1.below hb).but hbt (by omega)) (And.intro ((N_v2.below hb).but hbt (by omega)) ((M3.mono (lo' := w.heap.size + 2) (by omega)).but hbt (by omega))))))))
  clear hb hbt J0 J1 hbl H hbel K0 K1 N_v1 N_v2 M3
  obtain ⟨hbel, K0, K1, N_v1, N_v2, N_v3⟩ := S3.out
  obtain ⟨h1, h2, q1, q2, q3, q4, q5⟩ := HX.out
  have hbw : Below w.heap.size w U3 := hbel
  have A1 := h1.below hbw
  have A2 := h2.below hbw
  have H0 := rDiv_arg A1 A2
  rw [q4] at H0
  have H := hid H0
  clear H0 A1 A2 hbw hbel K0 K1 N_v1 N_v2 N_v3 h1 h2 q1 q2 q3 q4 q5
  go_wp2_with fail
  rw [← hU3]
  refine (Calls.mono H.out) ?_
  rintro r u4 ⟨⟨v4, v5, rfl, M4, M5⟩, hb⟩
  obtain ⟨hbel, K0, K1, N_v1, N_v2, N_v3⟩ := S3.out
  have hsu4 := hb.size
  replace M4 : Nt U3.heap.size u4 v4 X4 := M4
  replace M5 : Nt U3.heap.size u4 v5 X5 := M5
  obtain ⟨a4, c4, rfl, _⟩ := M4.arg (by omega)
  obtain ⟨a5, c5, rfl, _⟩ := M5.arg (by omega)
  obtain ⟨U4, hU4⟩ : ∃ U, U = (((u4.setCell ⟨w.heap.size + 1, 3, none⟩ (.slice a4 (ws X4).length c4)).setCell ⟨w.heap.size + 1, 4, none⟩ (.slice a5 (ws X5).length c5)).setCell ⟨w.heap.size + 1, 8, none⟩ (.int .i64 e4)) := ⟨_, rfl⟩
  have hbt : But (w.heap.size + 1) u4 U4 := by rw [hU4]; exact But.set (But.set (But.set (But.refl _ _) _ _) _ _) _ _
  have J1 : Blk U4 (w.heap.size + 1) #[.slice a1 (ws X1).length c1, .slice a2 (ws X2).length c2, .slice a3 (ws X3).length c3, .slice a4 (ws X4).length c4, .slice a5 (ws X5).length c5, .int .i64 e1, .int .i64 e2, .int .i64 e3, .int .i64 e4, .int .i64 0] := by rw [hU4]; exact (((K1.below hb).set 3 _).set 4 _).set 8 _
  have J0 : Blk U4 w.heap.size #[.slice none 0 0, .slice none 0 0, .slice none 0 0, .slice none 0 0, .slice none 0 0, .int .i64 0, .int .i64 0, .int .i64 0, .int .i64 0, .int .i64 0] := by unfold Blk; rw [hbt.block w.heap.size (by have := (K0.below hb).lt; omega) (by omega)]; exact K0.below hb
  have hbl : Below w.heap.size w U4 := But.below (hbel.trans (hb.mono (by omega))) hbt (by omega) (by omega)
  have hs4 := J1.lt
  have f4_3 := (K1.below hb).frozen 3
  have f4_4 := (K1.below hb).frozen 4
  have f4_8 := (K1.below hb).frozen 8
  have g4_3 := (K1.below hb).cell 3
  have g4_4 := (K1.below hb).cell 4
  have g4_8 := (K1.below hb).cell 8
  simp at g4_3 g4_4 g4_8
  have S4 := (Aside.intro (And.intro hbl (And.intro J0 (And.intro J1 (And.intro ((N_v1.below hb).but hbt (by omega)) (And.intro ((N_v2.below hb).but hbt (by omega)) (And.intro ((N_v3.below hb).but hbt (by omega)) (And.intro ((M4.mono (lo' := w.heap.size + 2) (by omega)).but hbt (by omega)) ((M5.mono (lo' := w.heap.size + 2) (by omega)).but hbt (by omega))))))))))
  clear hb hbt J0 J1 hbl H hbel K0 K1 N_v1 N_v2 N_v3 M4 M5
  obtain ⟨hbel, K0, K1, N_v1, N_v2, N_v3, N_v4, N_v5⟩ := S4.out
  obtain ⟨h1, h2, q1, q2, q3, q4, q5⟩ := HX.out
  have hbw : Below w.heap.size w U4 := hbel
  have A1 := h1.below hbw
  have A2 := h2.below hbw
  have H0 := rCmp_arg A1 A2 z q5
  have H := hid H0
  clear H0 A1 A2 hbw hbel K0 K1 N_v1 N_v2 N_v3 N_v4 N_v5 h1 h2 q1 q2 q3 q4 q5
  go_wp2_with fail
  rw [← hU4]
  refine (Calls.mono H.out) ?_
  rintro r u5 ⟨rfl, hb⟩
  obtain ⟨hbel, K0, K1, N_v1, N_v2, N_v3, N_v4, N_v5⟩ := S4.out
  have hsu5 := hb.size
  obtain ⟨U5, hU5⟩ : ∃ U, U = (u5.setCell ⟨w.heap.size + 1, 9, none⟩ (.int .i64 z)) := ⟨_, rfl⟩
  have hbt : But (w.heap.size + 1) u5 U5 := by rw [hU5]; exact But.set (But.refl _ _) _ _
  have J1 : Blk U5 (w.heap.size + 1) #[.slice a1 (ws X1).length c1, .slice a2 (ws X2).length c2, .slice a3 (ws X3).length c3, .slice a4 (ws X4).length c4, .slice a5 (ws X5).length c5, .int .i64 e1, .int .i64 e2, .int .i64 e3, .int .i64 e4, .int .i64 z] := by rw [hU5]; exact (K1.below hb).set 9 _
  have J0 : Blk U5 w.heap.size #[.slice none 0 0, .slice none 0 0, .slice none 0 0, .slice none 0 0, .slice none 0 0, .int .i64 0, .int .i64 0, .int .i64 0, .int .i64 0, .int .i64 0] := by unfold Blk; rw [hbt.block w.heap.size (by have := (K0.below hb).lt; omega) (by omega)]; exact K0.below hb
  have hbl : Below w.heap.size w U5 := But.below (hbel.trans (hb.mono (by omega))) hbt (by omega) (by omega)
  have hs5 := J1.lt
  have f5_9 := (K1.below hb).frozen 9
  have g5_9 := (K1.below hb).cell 9
  simp at g5_9
  have g5_0 := (K1.below hb).cell 0
  have f5_0 := (K1.below hb).frozen 0
  have g5_1 := (K1.below hb).cell 1
  have f5_1 := (K1.below hb).frozen 1
  have g5_2 := (K1.below hb).cell 2
  have f5_2 := (K1.below hb).frozen 2
  have g5_3 := (K1.below hb).cell 3
  have f5_3 := (K1.below hb).frozen 3
  have g5_4 := (K1.below hb).cell 4
  have f5_4 := (K1.below hb).frozen 4
  have g5_5 := (K1.below hb).cell 5
  have f5_5 := (K1.below hb).frozen 5
  have g5_6 := (K1.below hb).cell 6
  have f5_6 := (K1.below hb).frozen 6
  have g5_7 := (K1.below hb).cell 7
  have f5_7 := (K1.below hb).frozen 7
  have g5_8 := (K1.below hb).cell 8
  have f5_8 := (K1.below hb).frozen 8
  have k5_0 := (K0.below hb).cell 0
  have j5_0 := (K0.below hb).frozen 0
  have k5_1 := (K0.below hb).cell 1
  have j5_1 := (K0.below hb).frozen 1
  have k5_2 := (K0.below hb).cell 2
  have j5_2 := (K0.below hb).frozen 2
  have k5_3 := (K0.below hb).cell 3
  have j5_3 := (K0.below hb).frozen 3
  have k5_4 := (K0.below hb).cell 4
  have j5_4 := (K0.below hb).frozen 4
  have k5_5 := (K0.below hb).cell 5
  have j5_5 := (K0.below hb).frozen 5
  have k5_6 := (K0.below hb).cell 6
  have j5_6 := (K0.below hb).frozen 6
  have k5_7 := (K0.below hb).cell 7
  have j5_7 := (K0.below hb).frozen 7
  have k5_8 := (K0.below hb).cell 8
  have j5_8 := (K0.below hb).frozen 8
  have k5_9 := (K0.below hb).cell 9
  have j5_9 := (K0.below hb).frozen 9
  simp at g5_0 g5_1 g5_2 g5_3 g5_4 g5_5 g5_6 g5_7 g5_8 k5_0 k5_1 k5_2 k5_3 k5_4 k5_5 k5_6 k5_7 k5_8 k5_9
  have S5 := (Aside.intro (And.intro hbl (And.intro J0 (And.intro J1 (And.intro ((N_v1.below hb).but hbt (by omega)) (And.intro ((N_v2.below hb).but hbt (by omega)) (And.intro ((N_v3.below hb).but hbt (by omega)) (And.intro ((N_v4.below hb).but hbt (by omega)) ((N_v5.below hb).but hbt (by omega))))))))))
  clear hb hbt J0 J1 hbl H hbel K0 K1 N_v1 N_v2 N_v3 N_v4 N_v5
  go_wp2
  rw [← hU5]
  obtain ⟨Wf, hWf⟩ : ∃ W, W = ((((((((((U5.setCell ⟨w.heap.size, 0, none⟩ (.slice a1 (ws X1).length c1)).setCell ⟨w.heap.size, 1, none⟩ (.slice a2 (ws X2).length c2)).setCell ⟨w.heap.size, 2, none⟩ (.slice a3 (ws X3).length c3)).setCell ⟨w.heap.size, 3, none⟩ (.slice a4 (ws X4).length c4)).setCell ⟨w.heap.size, 4, none⟩ (.slice a5 (ws X5).length c5)).setCell ⟨w.heap.size, 5, none⟩ (.int .i64 e1)).setCell ⟨w.heap.size, 6, none⟩ (.int .i64 e2)).setCell ⟨w.heap.size, 7, none⟩ (.int .i64 e3)).setCell ⟨w.heap.size, 8, none⟩ (.int .i64 e4)).setCell ⟨w.heap.size, 9, none⟩ (.int .i64 z)) := ⟨_, rfl⟩
  rw [← hWf]
  obtain ⟨hbel, K0, K1, N_v1, N_v2, N_v3, N_v4, N_v5⟩ := S5.out
  have KF : Blk Wf w.heap.size #[.slice a1 (ws X1).length c1, .slice a2 (ws X2).length c2, .slice a3 (ws X3).length c3, .slice a4 (ws X4).length c4, .slice a5 (ws X5).length c5, .int .i64 e1, .int .i64 e2, .int .i64 e3, .int .i64 e4, .int .i64 z] := by rw [hWf]; exact K0.all _ _ _ _ _ _ _ _ _ _
  have hbt : But w.heap.size U5 Wf := by rw [hWf]; exact (But.set (But.set (But.set (But.set (But.set (But.set (But.set (But.set (But.set (But.set (But.refl w.heap.size U5) _ _) _ _) _ _) _ _) _ _) _ _) _ _) _ _) _ _) _ _)
  have c_0 := KF.cell 0
  have c_1 := KF.cell 1
  have c_2 := KF.cell 2
  have c_3 := KF.cell 3
  have c_4 := KF.cell 4
  have c_5 := KF.cell 5
  have c_6 := KF.cell 6
  have c_7 := KF.cell 7
  have c_8 := KF.cell 8
  have c_9 := KF.cell 9
  simp at c_0 c_1 c_2 c_3 c_4 c_5 c_6 c_7 c_8 c_9
  refine bodyPost_ret (document_res Wf w.heap.size _ _ _ _ _ _ _ _ _ _ _ (by first | rfl | simp) c_0 c_1 c_2 c_3 c_4 c_5 c_6 c_7 c_8 c_9) rfl ?_
  refine ⟨⟨_, _, _, _, _, rfl, (N_v1.but hbt (by omega)).mono (by omega), (N_v2.but hbt (by omega)).mono (by omega), (N_v3.but hbt (by omega)).mono (by omega), (N_v4.but hbt (by omega)).mono (by omega), (N_v5.but hbt (by omega)).mono (by omega)⟩, But.below hbel hbt (by omega) (Nat.le_refl _)⟩
end Go.Proofs.YtlhiccmdhnhdeaaDoor

/- The law's program: a struct of answers, apart from each other. -/
namespace Go.Proofs.YtlhiccmdhnhdeaaDoor
open Go.RowKit
set_option linter.unusedVariables false
set_option maxRecDepth 20000

def BothP (lo : Nat) (w : World) (r : Ending) (X1 X2 X3 X4 X5 : Nat) (e1 e2 e3 e4 z : Int) : Prop :=
  ∃ v1 v2 v3 v4 v5, r = .returned (.agg #[v1, v2, v3, v4, v5, .int .i64 e1, .int .i64 e2, .int .i64 e3, .int .i64 e4, .int .i64 z]) ∧ Nt lo w v1 X1 ∧ Nt lo w v2 X2 ∧ Nt lo w v3 X3 ∧ Nt lo w v4 X4 ∧ Nt lo w v5 X5 ∧ Nice lo w [v1, v2, v3, v4, v5]

theorem Nice.mono {lo lo' : Nat} {w : World} {vs : List Value} (h : Nice lo w vs) (hl : lo' ≤ lo) : Nice lo' w vs :=
  ⟨fun i hi => by obtain ⟨ys, hy⟩ := h.rows i hi; exact ⟨ys, Rw.mono' hy hl⟩, h.small, h.apart⟩
theorem nth_mem {vs : List Value} {u : Value} (hu : u ∈ vs) : ∃ i, i < vs.length ∧ nth vs i = u := by
  obtain ⟨i, hi, e⟩ := List.getElem_of_mem hu
  exact ⟨i, hi, by simp [nth, List.getD_eq_getElem?_getD, hi, e]⟩
theorem Nice.lt {lo : Nat} {w : World} {vs : List Value} (h : Nice lo w vs) {u : Value} (hu : u ∈ vs) (b : Nat) (hb : u.ownBlock = some b) : lo ≤ b ∧ b < w.heap.size := by
  obtain ⟨i, hi, e⟩ := nth_mem hu
  obtain ⟨ys, hy⟩ := h.rows i hi
  rw [e] at hy
  obtain ⟨h1, h2, _⟩ := Rw.lt hy b hb
  exact ⟨h1, h2⟩
theorem Nice.but {lo g : Nat} {w w' : World} {vs : List Value} (h : Nice lo w vs) (hb : But g w w') (hg : g < lo) : Nice lo w' vs := by
  refine ⟨fun i hi => ?_, h.small, h.apart⟩
  obtain ⟨ys, hy⟩ := h.rows i hi
  refine ⟨ys, row_other hy fun b hb2 => ?_⟩
  obtain ⟨h1, h2, _⟩ := Rw.lt hy b hb2
  exact hb.block b h2 (by omega)
theorem Nice.snocN {lo : Nat} {w u : World} {vs : List Value} {v : Value} {X : Nat} (h : Nice lo w vs) (hb : Below w.heap.size w u) (hN : Nt w.heap.size u v X) (hlo : lo ≤ w.heap.size) (hs : (ws X).length ≤ 35184372088000) : Nice lo u (vs ++ [v]) :=
  (h.keep (Keep.below hb)).snoc (hN.mono hlo) hs fun x hx b e1 e2 => by
    have h1 := h.lt hx b e1
    have h2 := hN.lt b e2
    omega
theorem Nice.snocP {lo : Nat} {w u : World} {vs : List Value} {v v' : Value} {X X' : Nat} (h : Nice lo w vs) (hb : Below w.heap.size w u) (hN : Nt w.heap.size u v X) (hN' : Nt w.heap.size u v' X') (ha : Apart v v') (hlo : lo ≤ w.heap.size) (hs : (ws X).length ≤ 35184372088000) (hs' : (ws X').length ≤ 35184372088000) : Nice lo u (vs ++ [v, v']) := by
  have h1 := (h.snocN hb hN hlo hs).snoc (hN'.mono hlo) hs' (v := v') fun x hx b e1 e2 => by
    rw [List.mem_append] at hx
    rcases hx with hx | hx
    · have h1 := h.lt hx b e1
      have h2 := hN'.lt b e2
      omega
    · rw [List.mem_singleton] at hx
      subst hx
      exact ha b e1 e2
  rwa [List.append_assoc] at h1

theorem wAdd_arg {w : World} {a b : Option Addr} {n c m d : Nat} {xs ys : List Nat} (h1 : Arg w a n c xs) (h2 : Arg w b m d ys) :
    Calls Tryd.prog 44 #[.slice a n c, .slice b m d] w fun r w' => One w.heap.size w' r (addS (val xs) (val ys)) ∧ Below w.heap.size w w' :=
  Add_any xs ys a b n c m d w.heap.size w h1.len h2.len h1.cap h2.cap (by have := h1.big; omega) (by have := h2.big; omega) h1.wf h2.wf h1.rd h2.rd (Nat.le_refl _)
theorem wSub_arg {w : World} {a b : Option Addr} {n c m d : Nat} {xs ys : List Nat} (h1 : Arg w a n c xs) (h2 : Arg w b m d ys) :
    Calls Tryd.prog 45 #[.slice a n c, .slice b m d] w fun r w' => One w.heap.size w' r (subS (val xs) (val ys)) ∧ Below w.heap.size w w' :=
  Sub_any xs ys a b n c m d w.heap.size w h1.len h2.len h1.cap h2.cap (by have := h1.big; omega) (by have := h2.big; omega) h1.wf h2.wf h1.rd h2.rd (Nat.le_refl _)
theorem wMul_arg {w : World} {a b : Option Addr} {n c m d : Nat} {xs ys : List Nat} (h1 : Arg w a n c xs) (h2 : Arg w b m d ys) :
    Calls Tryd.prog 46 #[.slice a n c, .slice b m d] w fun r w' => One w.heap.size w' r (mulS (val xs) (val ys)) ∧ Below w.heap.size w w' :=
  Mul_any xs ys a b n c m d w.heap.size w h1.len h2.len h1.cap h2.cap (by have := h1.big; omega) (by have := h2.big; omega) h1.wf h2.wf h1.rd h2.rd (Nat.le_refl _)
theorem wDiv_arg {w : World} {a b : Option Addr} {n c m d : Nat} {xs ys : List Nat} (h1 : Arg w a n c xs) (h2 : Arg w b m d ys) :
    Calls Tryd.prog 47 #[.slice a n c, .slice b m d] w fun r w' => Three w.heap.size w' r (divS (val xs) (val ys)) ∧ Below w.heap.size w w' :=
  Div_any xs ys a b n c m d w.heap.size w h1.len h2.len h1.cap h2.cap (by have := h1.big; omega) (by have := h2.big; omega) h1.wf h2.wf h1.rd h2.rd (Nat.le_refl _)

set_option maxHeartbeats 8000000 in
set_option maxRecDepth 100000 in
theorem program_any {w : World} {a b : Option Addr} {n c m d : Nat} {xs ys : List Nat} (h1 : Arg w a n c xs) (h2 : Arg w b m d ys) (hn : n ≤ 35184372088000) (hm : m ≤ 35184372088000)
    (X1 X2 X3 X4 X5 : Nat) (e1 e2 e3 e4 z : Int) (q1 : addS (val xs) (val ys) = (X1, e1)) (q2 : subS (val xs) (val ys) = (X2, e2)) (q3 : mulS (val xs) (val ys) = (X3, e3)) (q4 : divS (val xs) (val ys) = (X4, X5, e4)) (q5 : cmpI (val xs) (val ys) = z) :
    Calls Tryd.prog 11 #[.slice a n c, .slice b m d] w fun r w' => BothP w.heap.size w' r X1 X2 X3 X4 X5 e1 e2 e3 e4 z ∧ Below w.heap.size w w' := by
  have HX := (Aside.intro (And.intro h1 (And.intro h2 (And.intro q1 (And.intro q2 (And.intro q3 (And.intro q4 q5)))))))
  have hw1 := addS_len q1
  have hw2 := subS_len q2
  have hw3 := mulS_len q3
  obtain ⟨hw4, hw5⟩ := divS_len q4
  obtain ⟨U0, hU0⟩ : ∃ U, U = ((w.alloc (.cells #[.slice none 0 0, .slice none 0 0, .slice none 0 0, .slice none 0 0, .slice none 0 0, .int .i64 0, .int .i64 0, .int .i64 0, .int .i64 0, .int .i64 0] 32)).alloc (.cells #[.slice none 0 0, .slice none 0 0, .slice none 0 0, .slice none 0 0, .slice none 0 0, .int .i64 0, .int .i64 0, .int .i64 0, .int .i64 0, .int .i64 0] 32)) := ⟨_, rfl⟩
  have hbel : Below w.heap.size w U0 := by rw [hU0]; exact ((Below.refl _ _).alloc (Nat.le_refl _) _).alloc (by simp) _
  have K0 : Blk U0 w.heap.size #[.slice none 0 0, .slice none 0 0, .slice none 0 0, .slice none 0 0, .slice none 0 0, .int .i64 0, .int .i64 0, .int .i64 0, .int .i64 0, .int .i64 0] := by
    unfold Blk
    rw [hU0, Below.heap_alloc _ _ _ (by simp), heap_alloc_new]
  have K1 : Blk U0 (w.heap.size + 1) #[.slice none 0 0, .slice none 0 0, .slice none 0 0, .slice none 0 0, .slice none 0 0, .int .i64 0, .int .i64 0, .int .i64 0, .int .i64 0, .int .i64 0] := by
    unfold Blk
    have h5 := heap_alloc_new (w.alloc (.cells #[.slice none 0 0, .slice none 0 0, .slice none 0 0, .slice none 0 0, .slice none 0 0, .int .i64 0, .int .i64 0, .int .i64 0, .int .i64 0, .int .i64 0] 32)) (.cells #[.slice none 0 0, .slice none 0 0, .slice none 0 0, .slice none 0 0, .slice none 0 0, .int .i64 0, .int .i64 0, .int .i64 0, .int .i64 0, .int .i64 0] 32)
    rw [hU0]
    simpa using h5
  have S0 := (Aside.intro (And.intro hbel (And.intro K0 (And.intro K1 (Nice.nil (w.heap.size + 2) U0)))))
  have hs0 := K1.lt
  clear h1 h2 q1 q2 q3 q4 q5 hbel K0 K1
  go_enter Tryd.func11, Tryd.ntmps11
  obtain ⟨hbel, K0, K1, NN⟩ := S0.out
  obtain ⟨h1, h2, q1, q2, q3, q4, q5⟩ := HX.out
  have hbw : Below w.heap.size w U0 := hbel
  have A1 := h1.below hbw
  have A2 := h2.below hbw
  have H0 := wAdd_arg A1 A2
  rw [q1] at H0
  have H := hid H0
  clear H0 A1 A2 hbw hbel K0 K1 NN h1 h2 q1 q2 q3 q4 q5
  go_wp2_with fail
  rw [← hU0]
  refine (Calls.mono H.out) ?_
  rintro r u1 ⟨⟨v1, rfl, M1⟩, hb⟩
  obtain ⟨hbel, K0, K1, NN⟩ := S0.out
  have hsu1 := hb.size
  replace M1 : Nt U0.heap.size u1 v1 X1 := M1
  have NK := NN.snocN hb M1 (by omega) (by omega)
  obtain ⟨a1, c1, rfl, _⟩ := M1.arg (by omega)
  obtain ⟨U1, hU1⟩ : ∃ U, U = ((u1.setCell ⟨w.heap.size + 1, 0, none⟩ (.slice a1 (ws X1).length c1)).setCell ⟨w.heap.size + 1, 5, none⟩ (.int .i64 e1)) := ⟨_, rfl⟩
  have hbt : But (w.heap.size + 1) u1 U1 := by rw [hU1]; exact But.set (But.set (But.refl _ _) _ _) _ _
  have J1 : Blk U1 (w.heap.size + 1) #[.slice a1 (ws X1).length c1, .slice none 0 0, .slice none 0 0, .slice none 0 0, .slice none 0 0, .int .i64 e1, .int .i64 0, .int .i64 0, .int .i64 0, .int .i64 0] := by rw [hU1]; exact ((K1.below hb).set 0 _).set 5 _
  have J0 : Blk U1 w.heap.size #[.slice none 0 0, .slice none 0 0, .slice none 0 0, .slice none 0 0, .slice none 0 0, .int .i64 0, .int .i64 0, .int .i64 0, .int .i64 0, .int .i64 0] := by unfold Blk; rw [hbt.block w.heap.size (by have := (K0.below hb).lt; omega) (by omega)]; exact K0.below hb
  have hbl : Below w.heap.size w U1 := But.below (hbel.trans (hb.mono (by omega))) hbt (by omega) (by omega)
  have hs1 := J1.lt
  have f1_0 := (K1.below hb).frozen 0
  have f1_5 := (K1.below hb).frozen 5
  have g1_0 := (K1.below hb).cell 0
  have g1_5 := (K1.below hb).cell 5
  simp at g1_0 g1_5
  have S1 := (Aside.intro (And.intro hbl (And.intro J0 (And.intro J1 (And.intro (NK.but hbt (by omega)) ((M1.mono (lo' := w.heap.size + 2) (by omega)).but hbt (by omega)))))))
  clear hb hbt J0 J1 hbl H NK hbel K0 K1 NN M1
  obtain ⟨hbel, K0, K1, NN, N_v1⟩ := S1.out
  obtain ⟨h1, h2, q1, q2, q3, q4, q5⟩ := HX.out
  have hbw : Below w.heap.size w U1 := hbel
  have A1 := h1.below hbw
  have A2 := h2.below hbw
  have H0 := wSub_arg A1 A2
  rw [q2] at H0
  have H := hid H0
  clear H0 A1 A2 hbw hbel K0 K1 NN N_v1 h1 h2 q1 q2 q3 q4 q5
  go_wp2_with fail
  rw [← hU1]
  refine (Calls.mono H.out) ?_
  rintro r u2 ⟨⟨v2, rfl, M2⟩, hb⟩
  obtain ⟨hbel, K0, K1, NN, N_v1⟩ := S1.out
  have hsu2 := hb.size
  replace M2 : Nt U1.heap.size u2 v2 X2 := M2
  have NK := NN.snocN hb M2 (by omega) (by omega)
  obtain ⟨a2, c2, rfl, _⟩ := M2.arg (by omega)
  obtain ⟨U2, hU2⟩ : ∃ U, U = ((u2.setCell ⟨w.heap.size + 1, 1, none⟩ (.slice a2 (ws X2).length c2)).setCell ⟨w.heap.size + 1, 6, none⟩ (.int .i64 e2)) := ⟨_, rfl⟩
  have hbt : But (w.heap.size + 1) u2 U2 := by rw [hU2]; exact But.set (But.set (But.refl _ _) _ _) _ _
  have J1 : Blk U2 (w.heap.size + 1) #[.slice a1 (ws X1).length c1, .slice a2 (ws X2).length c2, .slice none 0 0, .slice none 0 0, .slice none 0 0, .int .i64 e1, .int .i64 e2, .int .i64 0, .int .i64 0, .int .i64 0] := by rw [hU2]; exact ((K1.below hb).set 1 _).set 6 _
  have J0 : Blk U2 w.heap.size #[.slice none 0 0, .slice none 0 0, .slice none 0 0, .slice none 0 0, .slice none 0 0, .int .i64 0, .int .i64 0, .int .i64 0, .int .i64 0, .int .i64 0] := by unfold Blk; rw [hbt.block w.heap.size (by have := (K0.below hb).lt; omega) (by omega)]; exact K0.below hb
  have hbl : Below w.heap.size w U2 := But.below (hbel.trans (hb.mono (by omega))) hbt (by omega) (by omega)
  have hs2 := J1.lt
  have f2_1 := (K1.below hb).frozen 1
  have f2_6 := (K1.below hb).frozen 6
  have g2_1 := (K1.below hb).cell 1
  have g2_6 := (K1.below hb).cell 6
  simp at g2_1 g2_6
  have S2 := (Aside.intro (And.intro hbl (And.intro J0 (And.intro J1 (And.intro (NK.but hbt (by omega)) (And.intro ((N_v1.below hb).but hbt (by omega)) ((M2.mono (lo' := w.heap.size + 2) (by omega)).but hbt (by omega))))))))
  clear hb hbt J0 J1 hbl H NK hbel K0 K1 NN N_v1 M2
  obtain ⟨hbel, K0, K1, NN, N_v1, N_v2⟩ := S2.out
  obtain ⟨h1, h2, q1, q2, q3, q4, q5⟩ := HX.out
  have hbw : Below w.heap.size w U2 := hbel
  have A1 := h1.below hbw
  have A2 := h2.below hbw
  have H0 := wMul_arg A1 A2
  rw [q3] at H0
  have H := hid H0
  clear H0 A1 A2 hbw hbel K0 K1 NN N_v1 N_v2 h1 h2 q1 q2 q3 q4 q5
  go_wp2_with fail
  rw [← hU2]
  refine (Calls.mono H.out) ?_
  rintro r u3 ⟨⟨v3, rfl, M3⟩, hb⟩
  obtain ⟨hbel, K0, K1, NN, N_v1, N_v2⟩ := S2.out
  have hsu3 := hb.size
  replace M3 : Nt U2.heap.size u3 v3 X3 := M3
  have NK := NN.snocN hb M3 (by omega) (by omega)
  obtain ⟨a3, c3, rfl, _⟩ := M3.arg (by omega)
  obtain ⟨U3, hU3⟩ : ∃ U, U = ((u3.setCell ⟨w.heap.size + 1, 2, none⟩ (.slice a3 (ws X3).length c3)).setCell ⟨w.heap.size + 1, 7, none⟩ (.int .i64 e3)) := ⟨_, rfl⟩
  have hbt : But (w.heap.size + 1) u3 U3 := by rw [hU3]; exact But.set (But.set (But.refl _ _) _ _) _ _
  have J1 : Blk U3 (w.heap.size + 1) #[.slice a1 (ws X1).length c1, .slice a2 (ws X2).length c2, .slice a3 (ws X3).length c3, .slice none 0 0, .slice none 0 0, .int .i64 e1, .int .i64 e2, .int .i64 e3, .int .i64 0, .int .i64 0] := by rw [hU3]; exact ((K1.below hb).set 2 _).set 7 _
  have J0 : Blk U3 w.heap.size #[.slice none 0 0, .slice none 0 0, .slice none 0 0, .slice none 0 0, .slice none 0 0, .int .i64 0, .int .i64 0, .int .i64 0, .int .i64 0, .int .i64 0] := by unfold Blk; rw [hbt.block w.heap.size (by have := (K0.below hb).lt; omega) (by omega)]; exact K0.below hb
  have hbl : Below w.heap.size w U3 := But.below (hbel.trans (hb.mono (by omega))) hbt (by omega) (by omega)
  have hs3 := J1.lt
  have f3_2 := (K1.below hb).frozen 2
  have f3_7 := (K1.below hb).frozen 7
  have g3_2 := (K1.below hb).cell 2
  have g3_7 := (K1.below hb).cell 7
  simp at g3_2 g3_7
  have S3 := (Aside.intro (And.intro hbl (And.intro J0 (And.intro J1 (And.intro (NK.but hbt (by omega)) (And.intro ((N_v1.below hb).but hbt (by omega)) (And.intro ((N_v2.below hb).but hbt (by omega)) ((M3.mono (lo' := w.heap.size + 2) (by omega)).but hbt (by omega)))))))))
  clear hb hbt J0 J1 hbl H NK hbel K0 K1 NN N_v1 N_v2 M3
  obtain ⟨hbel, K0, K1, NN, N_v1, N_v2, N_v3⟩ := S3.out
  obtain ⟨h1, h2, q1, q2, q3, q4, q5⟩ := HX.out
  have hbw : Below w.heap.size w U3 := hbel
  have A1 := h1.below hbw
  have A2 := h2.below hbw
  have H0 := wDiv_arg A1 A2
  rw [q4] at H0
  have H := hid H0
  clear H0 A1 A2 hbw hbel K0 K1 NN N_v1 N_v2 N_v3 h1 h2 q1 q2 q3 q4 q5
  go_wp2_with fail
  rw [← hU3]
  refine (Calls.mono H.out) ?_
  rintro r u4 ⟨⟨v4, v5, rfl, M4, M5, MA⟩, hb⟩
  obtain ⟨hbel, K0, K1, NN, N_v1, N_v2, N_v3⟩ := S3.out
  have hsu4 := hb.size
  replace M4 : Nt U3.heap.size u4 v4 X4 := M4
  replace M5 : Nt U3.heap.size u4 v5 X5 := M5
  have NK := NN.snocP hb M4 M5 MA (by omega) (by omega) (by omega)
  obtain ⟨a4, c4, rfl, _⟩ := M4.arg (by omega)
  obtain ⟨a5, c5, rfl, _⟩ := M5.arg (by omega)
  obtain ⟨U4, hU4⟩ : ∃ U, U = (((u4.setCell ⟨w.heap.size + 1, 3, none⟩ (.slice a4 (ws X4).length c4)).setCell ⟨w.heap.size + 1, 4, none⟩ (.slice a5 (ws X5).length c5)).setCell ⟨w.heap.size + 1, 8, none⟩ (.int .i64 e4)) := ⟨_, rfl⟩
  have hbt : But (w.heap.size + 1) u4 U4 := by rw [hU4]; exact But.set (But.set (But.set (But.refl _ _) _ _) _ _) _ _
  have J1 : Blk U4 (w.heap.size + 1) #[.slice a1 (ws X1).length c1, .slice a2 (ws X2).length c2, .slice a3 (ws X3).length c3, .slice a4 (ws X4).length c4, .slice a5 (ws X5).length c5, .int .i64 e1, .int .i64 e2, .int .i64 e3, .int .i64 e4, .int .i64 0] := by rw [hU4]; exact (((K1.below hb).set 3 _).set 4 _).set 8 _
  have J0 : Blk U4 w.heap.size #[.slice none 0 0, .slice none 0 0, .slice none 0 0, .slice none 0 0, .slice none 0 0, .int .i64 0, .int .i64 0, .int .i64 0, .int .i64 0, .int .i64 0] := by unfold Blk; rw [hbt.block w.heap.size (by have := (K0.below hb).lt; omega) (by omega)]; exact K0.below hb
  have hbl : Below w.heap.size w U4 := But.below (hbel.trans (hb.mono (by omega))) hbt (by omega) (by omega)
  have hs4 := J1.lt
  have f4_3 := (K1.below hb).frozen 3
  have f4_4 := (K1.below hb).frozen 4
  have f4_8 := (K1.below hb).frozen 8
  have g4_3 := (K1.below hb).cell 3
  have g4_4 := (K1.below hb).cell 4
  have g4_8 := (K1.below hb).cell 8
  simp at g4_3 g4_4 g4_8
  have S4 := (Aside.intro (And.intro hbl (And.intro J0 (And.intro J1 (And.intro (NK.but hbt (by omega)) (And.intro ((N_v1.below hb).but hbt (by omega)) (And.intro ((N_v2.below hb).but hbt (by omega)) (And.intro ((N_v3.below hb).but hbt (by omega)) (And.intro ((M4.mono (lo' := w.heap.size + 2) (by omega)).but hbt (by omega)) ((M5.mono (lo' := w.heap.size + 2) (by omega)).but hbt (by omega)))))))))))
  clear hb hbt J0 J1 hbl H NK hbel K0 K1 NN N_v1 N_v2 N_v3 M4 M5
  obtain ⟨hbel, K0, K1, NN, N_v1, N_v2, N_v3, N_v4, N_v5⟩ := S4.out
  obtain ⟨h1, h2, q1, q2, q3, q4, q5⟩ := HX.out
  have hbw : Below w.heap.size w U4 := hbel
  have A1 := h1.below hbw
  have A2 := h2.below hbw
  have H0 := Cmp_arg A1 A2 z q5
  have H := hid H0
  clear H0 A1 A2 hbw hbel K0 K1 NN N_v1 N_v2 N_v3 N_v4 N_v5 h1 h2 q1 q2 q3 q4 q5
  go_wp2_with fail
  rw [← hU4]
  refine (Calls.mono H.out) ?_
  rintro r u5 ⟨rfl, hb⟩
  obtain ⟨hbel, K0, K1, NN, N_v1, N_v2, N_v3, N_v4, N_v5⟩ := S4.out
  have hsu5 := hb.size
  have NK := NN.keep (Keep.below hb)
  obtain ⟨U5, hU5⟩ : ∃ U, U = (u5.setCell ⟨w.heap.size + 1, 9, none⟩ (.int .i64 z)) := ⟨_, rfl⟩
  have hbt : But (w.heap.size + 1) u5 U5 := by rw [hU5]; exact But.set (But.refl _ _) _ _
  have J1 : Blk U5 (w.heap.size + 1) #[.slice a1 (ws X1).length c1, .slice a2 (ws X2).length c2, .slice a3 (ws X3).length c3, .slice a4 (ws X4).length c4, .slice a5 (ws X5).length c5, .int .i64 e1, .int .i64 e2, .int .i64 e3, .int .i64 e4, .int .i64 z] := by rw [hU5]; exact (K1.below hb).set 9 _
  have J0 : Blk U5 w.heap.size #[.slice none 0 0, .slice none 0 0, .slice none 0 0, .slice none 0 0, .slice none 0 0, .int .i64 0, .int .i64 0, .int .i64 0, .int .i64 0, .int .i64 0] := by unfold Blk; rw [hbt.block w.heap.size (by have := (K0.below hb).lt; omega) (by omega)]; exact K0.below hb
  have hbl : Below w.heap.size w U5 := But.below (hbel.trans (hb.mono (by omega))) hbt (by omega) (by omega)
  have hs5 := J1.lt
  have f5_9 := (K1.below hb).frozen 9
  have g5_9 := (K1.below hb).cell 9
  simp at g5_9
  have g5_0 := (K1.below hb).cell 0
  have f5_0 := (K1.below hb).frozen 0
  have g5_1 := (K1.below hb).cell 1
  have f5_1 := (K1.below hb).frozen 1
  have g5_2 := (K1.below hb).cell 2
  have f5_2 := (K1.below hb).frozen 2
  have g5_3 := (K1.below hb).cell 3
  have f5_3 := (K1.below hb).frozen 3
  have g5_4 := (K1.below hb).cell 4
  have f5_4 := (K1.below hb).frozen 4
  have g5_5 := (K1.below hb).cell 5
  have f5_5 := (K1.below hb).frozen 5
  have g5_6 := (K1.below hb).cell 6
  have f5_6 := (K1.below hb).frozen 6
  have g5_7 := (K1.below hb).cell 7
  have f5_7 := (K1.below hb).frozen 7
  have g5_8 := (K1.below hb).cell 8
  have f5_8 := (K1.below hb).frozen 8
  have k5_0 := (K0.below hb).cell 0
  have j5_0 := (K0.below hb).frozen 0
  have k5_1 := (K0.below hb).cell 1
  have j5_1 := (K0.below hb).frozen 1
  have k5_2 := (K0.below hb).cell 2
  have j5_2 := (K0.below hb).frozen 2
  have k5_3 := (K0.below hb).cell 3
  have j5_3 := (K0.below hb).frozen 3
  have k5_4 := (K0.below hb).cell 4
  have j5_4 := (K0.below hb).frozen 4
  have k5_5 := (K0.below hb).cell 5
  have j5_5 := (K0.below hb).frozen 5
  have k5_6 := (K0.below hb).cell 6
  have j5_6 := (K0.below hb).frozen 6
  have k5_7 := (K0.below hb).cell 7
  have j5_7 := (K0.below hb).frozen 7
  have k5_8 := (K0.below hb).cell 8
  have j5_8 := (K0.below hb).frozen 8
  have k5_9 := (K0.below hb).cell 9
  have j5_9 := (K0.below hb).frozen 9
  simp at g5_0 g5_1 g5_2 g5_3 g5_4 g5_5 g5_6 g5_7 g5_8 k5_0 k5_1 k5_2 k5_3 k5_4 k5_5 k5_6 k5_7 k5_8 k5_9
  have S5 := (Aside.intro (And.intro hbl (And.intro J0 (And.intro J1 (And.intro (NK.but hbt (by omega)) (And.intro ((N_v1.below hb).but hbt (by omega)) (And.intro ((N_v2.below hb).but hbt (by omega)) (And.intro ((N_v3.below hb).but hbt (by omega)) (And.intro ((N_v4.below hb).but hbt (by omega)) ((N_v5.below hb).but hbt (by omega)))))))))))
  clear hb hbt J0 J1 hbl H NK hbel K0 K1 NN N_v1 N_v2 N_v3 N_v4 N_v5
  go_wp2
  rw [← hU5]
  obtain ⟨Wf, hWf⟩ : ∃ W, W = ((((((((((U5.setCell ⟨w.heap.size, 0, none⟩ (.slice a1 (ws X1).length c1)).setCell ⟨w.heap.size, 1, none⟩ (.slice a2 (ws X2).length c2)).setCell ⟨w.heap.size, 2, none⟩ (.slice a3 (ws X3).length c3)).setCell ⟨w.heap.size, 3, none⟩ (.slice a4 (ws X4).length c4)).setCell ⟨w.heap.size, 4, none⟩ (.slice a5 (ws X5).length c5)).setCell ⟨w.heap.size, 5, none⟩ (.int .i64 e1)).setCell ⟨w.heap.size, 6, none⟩ (.int .i64 e2)).setCell ⟨w.heap.size, 7, none⟩ (.int .i64 e3)).setCell ⟨w.heap.size, 8, none⟩ (.int .i64 e4)).setCell ⟨w.heap.size, 9, none⟩ (.int .i64 z)) := ⟨_, rfl⟩
  rw [← hWf]
  obtain ⟨hbel, K0, K1, NN, N_v1, N_v2, N_v3, N_v4, N_v5⟩ := S5.out
  have KF : Blk Wf w.heap.size #[.slice a1 (ws X1).length c1, .slice a2 (ws X2).length c2, .slice a3 (ws X3).length c3, .slice a4 (ws X4).length c4, .slice a5 (ws X5).length c5, .int .i64 e1, .int .i64 e2, .int .i64 e3, .int .i64 e4, .int .i64 z] := by rw [hWf]; exact K0.all _ _ _ _ _ _ _ _ _ _
  have hbt : But w.heap.size U5 Wf := by rw [hWf]; exact (But.set (But.set (But.set (But.set (But.set (But.set (But.set (But.set (But.set (But.set (But.refl w.heap.size U5) _ _) _ _) _ _) _ _) _ _) _ _) _ _) _ _) _ _) _ _)
  have c_0 := KF.cell 0
  have c_1 := KF.cell 1
  have c_2 := KF.cell 2
  have c_3 := KF.cell 3
  have c_4 := KF.cell 4
  have c_5 := KF.cell 5
  have c_6 := KF.cell 6
  have c_7 := KF.cell 7
  have c_8 := KF.cell 8
  have c_9 := KF.cell 9
  simp at c_0 c_1 c_2 c_3 c_4 c_5 c_6 c_7 c_8 c_9
  refine bodyPost_ret (program_res Wf w.heap.size _ _ _ _ _ _ _ _ _ _ _ (by first | rfl | simp) c_0 c_1 c_2 c_3 c_4 c_5 c_6 c_7 c_8 c_9) rfl ?_
  refine ⟨⟨_, _, _, _, _, rfl, (N_v1.but hbt (by omega)).mono (by omega), (N_v2.but hbt (by omega)).mono (by omega), (N_v3.but hbt (by omega)).mono (by omega), (N_v4.but hbt (by omega)).mono (by omega), (N_v5.but hbt (by omega)).mono (by omega), (NN.but hbt (by omega)).mono (by omega)⟩, But.below hbel hbt (by omega) (Nat.le_refl _)⟩
end Go.Proofs.YtlhiccmdhnhdeaaDoor

/- The law's alike. -/
namespace Go.Proofs.YtlhiccmdhnhdeaaDoor
open Go.RowKit
set_option linter.unusedVariables false
set_option maxRecDepth 20000

set_option maxHeartbeats 8000000 in
theorem alike_any {w : World} {a1 a2 a3 a4 a5 b1 b2 b3 b4 b5 : Option Addr} {c1 c2 c3 c4 c5 d1 d2 d3 d4 d5 : Nat} {X1 X2 X3 X4 X5 : Nat} {e1 e2 e3 e4 z : Int} (A1 : Arg w a1 (ws X1).length c1 (ws X1)) (B1 : Arg w b1 (ws X1).length d1 (ws X1)) (A2 : Arg w a2 (ws X2).length c2 (ws X2)) (B2 : Arg w b2 (ws X2).length d2 (ws X2)) (A3 : Arg w a3 (ws X3).length c3 (ws X3)) (B3 : Arg w b3 (ws X3).length d3 (ws X3)) (A4 : Arg w a4 (ws X4).length c4 (ws X4)) (B4 : Arg w b4 (ws X4).length d4 (ws X4)) (A5 : Arg w a5 (ws X5).length c5 (ws X5)) (B5 : Arg w b5 (ws X5).length d5 (ws X5)) :
    Calls Tryd.prog 13 #[.agg #[.slice a1 (ws X1).length c1, .slice a2 (ws X2).length c2, .slice a3 (ws X3).length c3, .slice a4 (ws X4).length c4, .slice a5 (ws X5).length c5, .int .i64 e1, .int .i64 e2, .int .i64 e3, .int .i64 e4, .int .i64 z], .agg #[.slice b1 (ws X1).length d1, .slice b2 (ws X2).length d2, .slice b3 (ws X3).length d3, .slice b4 (ws X4).length d4, .slice b5 (ws X5).length d5, .int .i64 e1, .int .i64 e2, .int .i64 e3, .int .i64 e4, .int .i64 z]] w fun r w' => r = .returned (.bool true) ∧ Below w.heap.size w w' := by
  obtain ⟨U0, hU0⟩ : ∃ U, U = ((w.alloc (.cells #[.slice a1 (ws X1).length c1, .slice a2 (ws X2).length c2, .slice a3 (ws X3).length c3, .slice a4 (ws X4).length c4, .slice a5 (ws X5).length c5, .int .i64 e1, .int .i64 e2, .int .i64 e3, .int .i64 e4, .int .i64 z] 32)).alloc (.cells #[.slice b1 (ws X1).length d1, .slice b2 (ws X2).length d2, .slice b3 (ws X3).length d3, .slice b4 (ws X4).length d4, .slice b5 (ws X5).length d5, .int .i64 e1, .int .i64 e2, .int .i64 e3, .int .i64 e4, .int .i64 z] 32)) := ⟨_, rfl⟩
  have hbel : Below w.heap.size w U0 := by rw [hU0]; exact ((Below.refl _ _).alloc (Nat.le_refl _) _).alloc (by simp) _
  have K0 : Blk U0 w.heap.size #[.slice a1 (ws X1).length c1, .slice a2 (ws X2).length c2, .slice a3 (ws X3).length c3, .slice a4 (ws X4).length c4, .slice a5 (ws X5).length c5, .int .i64 e1, .int .i64 e2, .int .i64 e3, .int .i64 e4, .int .i64 z] := by
    unfold Blk
    rw [hU0, Below.heap_alloc _ _ _ (by simp), heap_alloc_new]
  have K1 : Blk U0 (w.heap.size + 1) #[.slice b1 (ws X1).length d1, .slice b2 (ws X2).length d2, .slice b3 (ws X3).length d3, .slice b4 (ws X4).length d4, .slice b5 (ws X5).length d5, .int .i64 e1, .int .i64 e2, .int .i64 e3, .int .i64 e4, .int .i64 z] := by
    unfold Blk
    have h5 := heap_alloc_new (w.alloc (.cells #[.slice a1 (ws X1).length c1, .slice a2 (ws X2).length c2, .slice a3 (ws X3).length c3, .slice a4 (ws X4).length c4, .slice a5 (ws X5).length c5, .int .i64 e1, .int .i64 e2, .int .i64 e3, .int .i64 e4, .int .i64 z] 32)) (.cells #[.slice b1 (ws X1).length d1, .slice b2 (ws X2).length d2, .slice b3 (ws X3).length d3, .slice b4 (ws X4).length d4, .slice b5 (ws X5).length d5, .int .i64 e1, .int .i64 e2, .int .i64 e3, .int .i64 e4, .int .i64 z] 32)
    rw [hU0]
    simpa using h5
  have HX := (Aside.intro (And.intro A1 (And.intro B1 (And.intro A2 (And.intro B2 (And.intro A3 (And.intro B3 (And.intro A4 (And.intro B4 (And.intro A5 B5))))))))))
  have S0 := (Aside.intro (And.intro hbel (And.intro K0 K1)))
  have hs0 := K1.lt
  clear hbel K0 K1 A1 B1 A2 B2 A3 B3 A4 B4 A5 B5
  go_enter Tryd.func13, Tryd.ntmps13
  obtain ⟨hbel, K0, K1⟩ := S0.out
  obtain ⟨A1, B1, A2, B2, A3, B3, A4, B4, A5, B5⟩ := HX.out
  have p0 := K0.cell 0
  have q0 := K1.cell 0
  simp at p0 q0
  have H := hid (same_arg (A1.below hbel) (B1.below hbel))
  clear hbel K0 K1 A1 B1 A2 B2 A3 B3 A4 B4 A5 B5
  go_wp2_with fail
  rw [← hU0]
  refine (Calls.mono H.out) ?_
  rintro r u1 ⟨rfl, hb⟩
  obtain ⟨hbel, K0, K1⟩ := S0.out
  have hs1 := hb.size
  have S1 := (Aside.intro (And.intro (hbel.trans (hb.mono (by omega))) (And.intro (K0.below hb) (K1.below hb))))
  clear hb hbel K0 K1 H p0 q0 hU0
  obtain ⟨hbel, K0, K1⟩ := S1.out
  obtain ⟨A1, B1, A2, B2, A3, B3, A4, B4, A5, B5⟩ := HX.out
  have p1 := K0.cell 1
  have q1 := K1.cell 1
  simp at p1 q1
  have H := hid (same_arg (A2.below hbel) (B2.below hbel))
  clear hbel K0 K1 A1 B1 A2 B2 A3 B3 A4 B4 A5 B5
  go_wp2_with fail
  refine (Calls.mono H.out) ?_
  rintro r u2 ⟨rfl, hb⟩
  obtain ⟨hbel, K0, K1⟩ := S1.out
  have hs2 := hb.size
  have S2 := (Aside.intro (And.intro (hbel.trans (hb.mono (by omega))) (And.intro (K0.below hb) (K1.below hb))))
  clear hb hbel K0 K1 H p1 q1
  obtain ⟨hbel, K0, K1⟩ := S2.out
  obtain ⟨A1, B1, A2, B2, A3, B3, A4, B4, A5, B5⟩ := HX.out
  have p2 := K0.cell 2
  have q2 := K1.cell 2
  simp at p2 q2
  have H := hid (same_arg (A3.below hbel) (B3.below hbel))
  clear hbel K0 K1 A1 B1 A2 B2 A3 B3 A4 B4 A5 B5
  go_wp2_with fail
  refine (Calls.mono H.out) ?_
  rintro r u3 ⟨rfl, hb⟩
  obtain ⟨hbel, K0, K1⟩ := S2.out
  have hs3 := hb.size
  have S3 := (Aside.intro (And.intro (hbel.trans (hb.mono (by omega))) (And.intro (K0.below hb) (K1.below hb))))
  clear hb hbel K0 K1 H p2 q2
  obtain ⟨hbel, K0, K1⟩ := S3.out
  obtain ⟨A1, B1, A2, B2, A3, B3, A4, B4, A5, B5⟩ := HX.out
  have p3 := K0.cell 3
  have q3 := K1.cell 3
  simp at p3 q3
  have H := hid (same_arg (A4.below hbel) (B4.below hbel))
  clear hbel K0 K1 A1 B1 A2 B2 A3 B3 A4 B4 A5 B5
  go_wp2_with fail
  refine (Calls.mono H.out) ?_
  rintro r u4 ⟨rfl, hb⟩
  obtain ⟨hbel, K0, K1⟩ := S3.out
  have hs4 := hb.size
  have S4 := (Aside.intro (And.intro (hbel.trans (hb.mono (by omega))) (And.intro (K0.below hb) (K1.below hb))))
  clear hb hbel K0 K1 H p3 q3
  obtain ⟨hbel, K0, K1⟩ := S4.out
  obtain ⟨A1, B1, A2, B2, A3, B3, A4, B4, A5, B5⟩ := HX.out
  have p4 := K0.cell 4
  have q4 := K1.cell 4
  simp at p4 q4
  have H := hid (same_arg (A5.below hbel) (B5.below hbel))
  clear hbel K0 K1 A1 B1 A2 B2 A3 B3 A4 B4 A5 B5
  go_wp2_with fail
  refine (Calls.mono H.out) ?_
  rintro r u5 ⟨rfl, hb⟩
  obtain ⟨hbel, K0, K1⟩ := S4.out
  have hs5 := hb.size
  have S5 := (Aside.intro (And.intro (hbel.trans (hb.mono (by omega))) (And.intro (K0.below hb) (K1.below hb))))
  clear hb hbel K0 K1 H p4 q4
  obtain ⟨hbel, K0, K1⟩ := S5.out
  have p5 := K0.cell 5
  have q5 := K1.cell 5
  have p6 := K0.cell 6
  have q6 := K1.cell 6
  have p7 := K0.cell 7
  have q7 := K1.cell 7
  have p8 := K0.cell 8
  have q8 := K1.cell 8
  have p9 := K0.cell 9
  have q9 := K1.cell 9
  simp at p5 q5 p6 q6 p7 q7 p8 q8 p9 q9
  clear hbel K0 K1
  go_wp2
  go_ret
  exact ⟨rfl, S5.out.1⟩
end Go.Proofs.YtlhiccmdhnhdeaaDoor

/- A book and the Nats in it. -/
namespace Go.Proofs.YtlhiccmdhnhdeaaDoor
open Go.RowKit
set_option linter.unusedVariables false
set_option maxRecDepth 20000

/-- A book and the Nats in it. -/
structure Held (lo : Nat) (w0 w : World) (h : Nat) (vs all : List Value) : Prop where
  below : Below lo w0 w
  book : Bk lo w h vs
  nice : Nice lo w all
  size : lo ≤ w.heap.size

theorem Held.take' {lo : Nat} {w0 w : World} {h : Nat} {vs all : List Value} (H : Held lo w0 w h vs all) (hl : vs.length ≤ 1000) (ao : Option Addr) (n cap : Nat) :
    Calls Tryd.prog 15 #[.pointer (some ⟨h, 0, none⟩), .slice ao n cap] w fun r w' => r = .returned (.tuple #[]) ∧ Held lo w0 w' h (vs ++ [.slice ao n cap]) all ∧ Keep w w' ∧ w.heap.size ≤ w'.heap.size :=
  (take_any lo h vs ao n cap w H.book hl H.size).mono fun r w' ⟨h1, h2, h3, h4, h5⟩ => ⟨h1, ⟨H.below.trans h4, h2, H.nice.keep h3, by have := H.size; omega⟩, h3, h5⟩

theorem Held.take {lo : Nat} {w0 w : World} {h : Nat} {vs all : List Value} (H : Held lo w0 w h vs all) (hl : vs.length ≤ 1000) (ao : Option Addr) (n cap : Nat) :
    Calls Tryd.prog 15 #[.pointer (some ⟨h, 0, none⟩), .slice ao n cap] w fun r w' => r = .returned (.tuple #[]) ∧ Held lo w0 w' h (vs ++ [.slice ao n cap]) all :=
  (take_any lo h vs ao n cap w H.book hl H.size).mono fun r w' ⟨h1, h2, h3, h4, h5⟩ => ⟨h1, H.below.trans h4, h2, H.nice.keep h3, by have := H.size; omega⟩

theorem Held.owned {lo : Nat} {w0 w : World} {h : Nat} {vs : List Value} (H : Held lo w0 w h vs vs) (hm : 0 < vs.length) (hm2 : vs.length ≤ 100) :
    Calls Tryd.prog 16 #[.pointer (some ⟨h, 0, none⟩)] w fun r w' => r = .returned (.bool true) ∧ Below lo w0 w' :=
  (owned_any lo h vs w H.book H.nice hm hm2 H.size).mono fun r w' ⟨h1, h2⟩ => ⟨h1, H.below.trans h2⟩

theorem Held.made {lo : Nat} {w0 w : World} {all : List Value} (hb : Below lo w0 w) (hn : Nice lo w all) (hs : lo ≤ w.heap.size) : Held lo w0 (w.alloc (.cells #[.slice none 0 0] 28)) w.heap.size [] all :=
  ⟨hb.alloc hs _, Bk.made lo w hs, hn.keep (Keep.below (below_alloc w _)), by simp; omega⟩
end Go.Proofs.YtlhiccmdhnhdeaaDoor

/- WideWorks: the walk. -/
namespace Go.Proofs.YtlhiccmdhnhdeaaDoor
open Go.RowKit
set_option linter.unusedVariables false
set_option maxRecDepth 20000

theorem Bk.below {lo : Nat} {w w' : World} {h : Nat} {vs : List Value} (H : Bk lo w h vs) (hb : Below w.heap.size w w') : Bk lo w' h vs := by
  obtain ⟨hlh, v, hv, hrow⟩ := H
  refine ⟨hlh, v, ?_, row_other hrow fun g hg => hb.block g ?_⟩
  · rw [hb.block h (Array.getElem?_eq_some_iff.1 hv).1]; exact hv
  · exact (World.ownsRow.lt hrow g hg).2
theorem Held.below' {lo : Nat} {w0 w w' : World} {h : Nat} {vs all : List Value} (H : Held lo w0 w h vs all) (hb : Below w.heap.size w w') : Held lo w0 w' h vs all :=
  ⟨H.below.trans (hb.mono H.size), H.book.below hb, H.nice.keep (Keep.below hb), Nat.le_trans H.size hb.size⟩
theorem Held.more {lo : Nat} {w0 w : World} {h : Nat} {vs all all' : List Value} (H : Held lo w0 w h vs all) (hn : Nice lo w all') : Held lo w0 w h vs all' := ⟨H.below, H.book, hn, H.size⟩
theorem nth_left (vs us : List Value) (i : Nat) (hi : i < vs.length) : nth (vs ++ us) i = nth vs i := by
  simp [nth, List.getD_eq_getElem?_getD, List.getElem?_append_left hi]
theorem nth_right (vs us : List Value) (i : Nat) (hi : vs.length ≤ i) : nth (vs ++ us) i = nth us (i - vs.length) := by
  simp [nth, List.getD_eq_getElem?_getD, List.getElem?_append_right hi]
theorem nth_in {vs : List Value} {i : Nat} (hi : i < vs.length) : nth vs i ∈ vs := by
  simp [nth, List.getD_eq_getElem?_getD, hi]
theorem Nice.append {lo m : Nat} {w : World} {vs us : List Value} (h : Nice lo w vs) (k : Nice m w us) (hlo : lo ≤ m) (hv : ∀ u ∈ vs, ∀ b, u.ownBlock = some b → b < m) : Nice lo w (vs ++ us) := by
  have k' := k.mono hlo
  refine ⟨fun i hi => ?_, fun i hi => ?_, fun i j hi hj hij b hb => ?_⟩
  · rw [List.length_append] at hi
    by_cases e : i < vs.length
    · rw [nth_left _ _ _ e]; exact h.rows i e
    · rw [nth_right _ _ _ (by omega)]; exact k'.rows _ (by omega)
  · rw [List.length_append] at hi
    by_cases e : i < vs.length
    · rw [nth_left _ _ _ e]; exact h.small i e
    · rw [nth_right _ _ _ (by omega)]; exact k'.small _ (by omega)
  · rw [List.length_append] at hi hj
    by_cases e : i < vs.length
    · rw [nth_left _ _ _ e] at hb
      by_cases e2 : j < vs.length
      · rw [nth_left _ _ _ e2]; exact h.apart i j e e2 hij b hb
      · rw [nth_right _ _ _ (by omega)]
        intro e3
        have h1 := hv _ (nth_in e) b hb
        have h2 := k.lt (nth_in (show j - vs.length < us.length by omega)) b e3
        omega
    · rw [nth_right _ _ _ (by omega)] at hb
      have h2 := k.lt (nth_in (show i - vs.length < us.length by omega)) b hb
      by_cases e2 : j < vs.length
      · rw [nth_left _ _ _ e2]
        intro e3
        have h1 := hv _ (nth_in e2) b e3
        omega
      · rw [nth_right _ _ _ (by omega)]
        exact k.apart _ _ (by omega) (by omega) (by omega) b hb

theorem natArg {lo : Nat} {w : World} {a : Option Addr} {c X : Nat} (h : Nt lo w (.slice a (ws X).length c) X) (hs : (ws X).length ≤ 35184372088832) : Arg w a (ws X).length c (ws X) := by
  obtain ⟨a', c', e, A⟩ := h.arg hs
  cases e
  exact A

/-- The two of a round. -/
def Pick (W : World) (g i : Nat) : Prop := ∃ aF nF cF xf aS nS cS xs, W.cell? ⟨g, i, none⟩ = some (.slice aF nF cF) ∧ W.cell? ⟨g + 1, i, none⟩ = some (.slice aS nS cS) ∧ Arg W aF nF cF xf ∧ Arg W aS nS cS xs ∧ nF ≤ 35184372087808 ∧ nS ≤ 35184372087808

theorem picks {u W : World} {aX aY : Option Addr} {nX cX nY cY : Nat} {xa ya : List Nat} (AX : Arg u aX nX cX xa) (AY : Arg u aY nY cY ya) (bX : nX ≤ 35184372087808) (bY : nY ≤ 35184372087808)
    (hW : W = (u.alloc (.cells #[.slice aX nX cX, .slice aY nY cY, .slice aX nX cX, .slice aX nX cX] 23)).alloc (.cells #[.slice aY nY cY, .slice aX nX cX, .slice aX nX cX, .slice aY nY cY] 23)) : ∀ i, i < 4 → Pick W u.heap.size i := by
  have hb : Below u.heap.size u W := by rw [hW]; exact ((Below.refl _ _).alloc (Nat.le_refl _) _).alloc (by simp) _
  have K0 : W.heap[u.heap.size]? = some (.cells #[.slice aX nX cX, .slice aY nY cY, .slice aX nX cX, .slice aX nX cX] 23 (0, 0)) := by
    rw [hW, Below.heap_alloc _ _ _ (by simp), heap_alloc_new]
  have K1 : W.heap[u.heap.size + 1]? = some (.cells #[.slice aY nY cY, .slice aX nX cX, .slice aX nX cX, .slice aY nY cY] 23 (0, 0)) := by
    have h5 := heap_alloc_new (u.alloc (.cells #[.slice aX nX cX, .slice aY nY cY, .slice aX nX cX, .slice aX nX cX] 23)) (.cells #[.slice aY nY cY, .slice aX nX cX, .slice aX nX cX, .slice aY nY cY] 23)
    rw [hW]
    simpa using h5
  have BX := AX.below hb
  have BY := AY.below hb
  intro i hi
  match i, hi with
  | 0, _ => exact ⟨aX, nX, cX, xa, aY, nY, cY, ya, by simp [World.cell?, K0], by simp [World.cell?, K1], BX, BY, bX, bY⟩
  | 1, _ => exact ⟨aY, nY, cY, ya, aX, nX, cX, xa, by simp [World.cell?, K0], by simp [World.cell?, K1], BY, BX, bY, bX⟩
  | 2, _ => exact ⟨aX, nX, cX, xa, aX, nX, cX, xa, by simp [World.cell?, K0], by simp [World.cell?, K1], BX, BX, bX, bX⟩
  | 3, _ => exact ⟨aX, nX, cX, xa, aY, nY, cY, ya, by simp [World.cell?, K0], by simp [World.cell?, K1], BX, BY, bX, bY⟩

set_option maxHeartbeats 16000000 in
set_option maxRecDepth 100000 in
theorem walk_WideWorks (aX : Option Addr) (nX cX : Nat) (xa : List Nat) (aY : Option Addr) (nY cY : Nat) (ya : List Nat) (w : World) (hT : Tab w) (w0 : Came w aX nX cX xa) (w1 : Came w aY nY cY ya) (bX : nX ≤ 35184372087808) (bY : nY ≤ 35184372087808) :
    Calls Tryd.prog 3 #[.slice aX nX cX, .slice aY nY cY] w fun r w' => r = .returned (.bool true) ∧ Below w.heap.size w w' := by
  have AW := hid (awake_any w hT)
  have AX := w0.arg (by omega)
  have AY := w1.arg (by omega)
  have HW := (Aside.intro (And.intro AX AY))
  clear hT w0 w1 AX AY
  go_enter Tryd.func3, Tryd.ntmps3
  go_wp2_with fail
  refine (Calls.mono AW.out) ?_
  rintro r u1 ⟨rfl, hb1⟩
  have hs1 := hb1.size
  obtain ⟨AX, AY⟩ := HW.out
  obtain ⟨W3, hW3⟩ : ∃ W, W = (u1.alloc (.cells #[.slice aX nX cX, .slice aY nY cY, .slice aX nX cX, .slice aX nX cX] 23)).alloc (.cells #[.slice aY nY cY, .slice aX nX cX, .slice aX nX cX, .slice aY nY cY] 23) := ⟨_, rfl⟩
  have hPick := picks (AX.below hb1) (AY.below hb1) bX bY hW3
  have hsz3 : W3.heap.size = u1.heap.size + 2 := by rw [hW3]; simp
  have hb3 : Below w.heap.size w W3 := by rw [hW3]; exact (hb1.alloc hs1 _).alloc (by simp; omega) _
  have HP := (Aside.intro (And.intro hPick hb3))
  have HS3 := Aside.intro hsz3
  obtain ⟨W4, hW4⟩ : ∃ W, W = W3.alloc (.cells #[.slice none 0 0] 28) := ⟨_, rfl⟩
  have hHeld : Held W3.heap.size W3 W4 W3.heap.size [] [] := by rw [hW4]; exact Held.made (Below.refl _ _) (Nice.nil _ _) (Nat.le_refl _)
  rw [hsz3] at hHeld
  have HH := Aside.intro hHeld
  clear AW AX AY HW hb1 hPick hb3 hHeld hsz3
  go_wp2
  rw [← hW3, ← hW4]
  clear hW3 hW4
  go_loopg [9] 4 (fun k iv wr => ∃ i, i + k = 4 ∧ iv = .int .i64 (i : Nat) ∧ Aside (∃ vs, vs.length = 5 * i ∧ Held (u1.heap.size + 2) W3 wr (u1.heap.size + 2) vs vs))
  case atStart =>
    exact ⟨0, by omega, rfl, ⟨[], rfl, HH.out⟩⟩
  case round =>
    clear HH
    obtain ⟨i, hi4, rfl, HA⟩ := hrel
    by_cases hk0 : gk = 0
    · subst hk0
      obtain rfl : i = 4 := by omega
      obtain ⟨vs, hvl, hHd⟩ := HA.out
      have OW := hid (Held.owned hHd (by omega) (by omega))
      clear HA hHd
      go_wp2_with fail
      refine (Calls.mono OW.out) ?_
      rintro r u2 ⟨rfl, hb⟩
      have S2 := Aside.intro hb
      clear hb OW
      go_wp2
      go_ret
      exact ⟨rfl, HP.out.2.trans (S2.out.mono (by omega))⟩
    · have hi : i < 4 := by omega
      obtain ⟨vs, hvl, hHd⟩ := HA.out
      obtain ⟨hPick, hb3⟩ := HP.out
      obtain ⟨aF, nF, cF, xf, aS, nS, cS, xs, hcF, hcS, AF0, AS0, bF, bS⟩ := hPick i hi
      have hbw := hHd.below
      have hlo := hHd.size
      have hsz3 := HS3.out
      rw [← hsz3] at hbw
      have AF := AF0.below hbw
      have AS := AS0.below hbw
      have hF : wr.cell? ⟨u1.heap.size, i, none⟩ = some (.slice aF nF cF) := (hbw.cell (p := ⟨u1.heap.size, i, none⟩) (by simp; omega)).trans hcF
      have hS : wr.cell? ⟨u1.heap.size + 1, i, none⟩ = some (.slice aS nS cS) := (hbw.cell (p := ⟨u1.heap.size + 1, i, none⟩) (by simp; omega)).trans hcS
      have hblt : u1.heap.size + 2 ≤ W3.heap.size := by omega
      have L1 := hid (lent_any xf aF nF cF wr.heap.size wr AF.len AF.cap bF AF.rd (Nat.le_refl _))
      have SA := (Aside.intro (And.intro AF (And.intro AS (And.intro hvl (And.intro hHd (And.intro hF hS))))))
      clear HA hHd hPick hb3 hcF hcS AF0 AS0 AF AS hbw hS hsz3 hvl
      go_wp2_with fail
      refine (Calls.mono L1.out) ?_
      rintro r u2 ⟨rfl, hO1, hb2⟩
      obtain ⟨AF, AS, hvl, hHd, hF', hS⟩ := SA.out
      have hs2 := hb2.size
      have hO1l := hO1.lt
      have hS2 : u2.cell? ⟨u1.heap.size + 1, i, none⟩ = some (.slice aS nS cS) := (hb2.cell (p := ⟨u1.heap.size + 1, i, none⟩) (by simp; omega)).trans hS
      have AS2 := AS.below hb2
      have L2 := hid (lent_any xs aS nS cS u2.heap.size u2 AS2.len AS2.cap bS AS2.rd (Nat.le_refl _))
      have S2 := (Aside.intro (And.intro hO1 hb2))
      clear L1 AF AS hvl hHd hF hF' hS hO1 hb2 AS2
      go_wp2_with fail
      refine (Calls.mono L2.out) ?_
      rintro r u3 ⟨rfl, hO2, hb⟩
      obtain ⟨AF, AS, hvl, hHd, hF, hS⟩ := SA.out
      obtain ⟨hO1, hb2⟩ := S2.out
      have hs3 := hb.size
      have hO2l := hO2.lt
      have hO1' := hO1.below hb hO1l
      have hbel3 : Below wr.heap.size wr u3 := hb2.trans (hb.mono hs2)
      obtain ⟨X1, e1, q1⟩ : ∃ X e, addS (val xf) (val xs) = (X, e) := ⟨_, _, rfl⟩
      obtain ⟨X2, e2, q2⟩ : ∃ X e, subS (val xf) (val xs) = (X, e) := ⟨_, _, rfl⟩
      obtain ⟨X3, e3, q3⟩ : ∃ X e, mulS (val xf) (val xs) = (X, e) := ⟨_, _, rfl⟩
      obtain ⟨X4, X5, e4, q4⟩ : ∃ X Y e, divS (val xf) (val xs) = (X, Y, e) := ⟨_, _, _, rfl⟩
      obtain ⟨z, q5⟩ : ∃ z, cmpI (val xf) (val xs) = z := ⟨_, rfl⟩
      have hw1 := addS_len q1
      have hw2 := subS_len q2
      have hw3 := mulS_len q3
      obtain ⟨hw4, hw5⟩ := divS_len q4
      have PR := hid (program_any (lent_arg AF.len (by omega) AF.wf hO1') (lent_arg AS.len (by omega) AS.wf hO2) (by omega) (by omega) X1 X2 X3 X4 X5 e1 e2 e3 e4 z q1 q2 q3 q4 q5)
      have S3 := (Aside.intro (And.intro hbel3 (And.intro hO1' hO2)))
      have HQ := (Aside.intro (And.intro q1 (And.intro q2 (And.intro q3 (And.intro q4 q5)))))
      clear L2 S2 AF AS hvl hHd hF hS hO1 hO1' hO2 hb hb2 hbel3 q1 q2 q3 q4 q5 hS2
      go_wp2_with fail
      refine (Calls.mono PR.out) ?_
      rintro r u4 ⟨⟨v1, v2, v3, v4, v5, rfl, M1, M2, M3, M4, M5, MN⟩, hb4⟩
      obtain ⟨a1, c1, rfl, _⟩ := M1.arg (by omega)
      obtain ⟨a2, c2, rfl, _⟩ := M2.arg (by omega)
      obtain ⟨a3, c3, rfl, _⟩ := M3.arg (by omega)
      obtain ⟨a4, c4, rfl, _⟩ := M4.arg (by omega)
      obtain ⟨a5, c5, rfl, _⟩ := M5.arg (by omega)
      have hs4 := hb4.size
      obtain ⟨hbel3, hO1, hO2⟩ := S3.out
      obtain ⟨AF, AS, hvl, hHd, hF, hS⟩ := SA.out
      obtain ⟨Wp, hWp⟩ : ∃ W, W = (u4.alloc (.cells #[.slice a1 (ws X1).length c1, .slice a2 (ws X2).length c2, .slice a3 (ws X3).length c3, .slice a4 (ws X4).length c4, .slice a5 (ws X5).length c5, .int .i64 e1, .int .i64 e2, .int .i64 e3, .int .i64 e4, .int .i64 z] 32)) := ⟨_, rfl⟩
      have KP : Blk Wp u4.heap.size #[.slice a1 (ws X1).length c1, .slice a2 (ws X2).length c2, .slice a3 (ws X3).length c3, .slice a4 (ws X4).length c4, .slice a5 (ws X5).length c5, .int .i64 e1, .int .i64 e2, .int .i64 e3, .int .i64 e4, .int .i64 z] := by rw [hWp]; unfold Blk; exact heap_alloc_new _ _
      have hbp : Below u4.heap.size u4 Wp := by rw [hWp]; exact below_alloc u4 _
      have hsp := KP.lt
      have hbelp : Below wr.heap.size wr Wp := (hbel3.trans (hb4.mono (by omega))).trans (hbp.mono (by omega))
      have O1p := (hO1.below hb4 (by omega)).below hbp (by omega)
      have O2p := (hO2.below hb4 (by omega)).below hbp (by omega)
      have AFp := AF.below hbelp
      have Fp : Wp.cell? ⟨u1.heap.size, i, none⟩ = some (.slice aF nF cF) := (hbelp.cell (p := ⟨u1.heap.size, i, none⟩) (by simp; omega)).trans hF
      have F4 : u4.cell? ⟨u1.heap.size, i, none⟩ = some (.slice aF nF cF) := ((hbel3.trans (hb4.mono (by omega))).cell (p := ⟨u1.heap.size, i, none⟩) (by simp; omega)).trans hF
      have hlt4 : u1.heap.size < u4.heap.size := by omega
      rw [hWp] at Fp
      have P1 := hid (asLent_any xf aF nF cF wr.heap.size wr.heap.size Wp AFp.len AFp.cap bF AFp.wf (AF.rd.below hbelp) (Nat.le_refl _) O1p)
      have NNp := MN.keep (Keep.below hbp)
      have T1 := (M1.below hbp)
      have T2 := (M2.below hbp)
      have T3 := (M3.below hbp)
      have T4 := (M4.below hbp)
      have T5 := (M5.below hbp)
      have S4 := (Aside.intro (And.intro hbelp (And.intro O2p (And.intro KP (And.intro NNp (And.intro T1 (And.intro T2 (And.intro T3 (And.intro T4 T5)))))))))
      clear PR S3 M1 M2 M3 M4 M5 MN hb4 hbel3 hO1 hO2 AF AS hvl hHd hF hS KP hbp hbelp O1p O2p AFp NNp T1 T2 T3 T4 T5
      go_wp2_with fail
      rw [← hWp]
      refine (Calls.mono P1.out) ?_
      rintro r u5 ⟨rfl, hbt⟩
      obtain ⟨hbelp, O2p, KP, NNp, T1, T2, T3, T4, T5⟩ := S4.out
      obtain ⟨AF, AS, hvl, hHd, hF, hS⟩ := SA.out
      have hs5 := hbt.size
      have hbel5 : Below wr.heap.size wr u5 := But.below hbelp hbt (by omega) (Nat.le_refl _)
      have O25 : Own u5 u2.heap.size (xs ++ [71, 72]) := by unfold Own; rw [hbt.block u2.heap.size (by omega) (by omega)]; exact O2p
      have K5 : Blk u5 u4.heap.size #[.slice a1 (ws X1).length c1, .slice a2 (ws X2).length c2, .slice a3 (ws X3).length c3, .slice a4 (ws X4).length c4, .slice a5 (ws X5).length c5, .int .i64 e1, .int .i64 e2, .int .i64 e3, .int .i64 e4, .int .i64 z] := by unfold Blk; rw [hbt.block u4.heap.size (by omega) (by omega)]; exact KP
      have S5v : u5.cell? ⟨u1.heap.size + 1, i, none⟩ = some (.slice aS nS cS) := (hbel5.cell (p := ⟨u1.heap.size + 1, i, none⟩) (by simp; omega)).trans hS
      have P2 := hid (asLent_any xs aS nS cS wr.heap.size u2.heap.size u5 AS.len AS.cap bS AS.wf (AS.rd.below hbel5) (by omega) O25)
      have S5 := (Aside.intro (And.intro hbel5 (And.intro K5 (And.intro (NNp.but hbt (by omega)) (And.intro (T1.but hbt (by omega)) (And.intro (T2.but hbt (by omega)) (And.intro (T3.but hbt (by omega)) (And.intro (T4.but hbt (by omega)) (T5.but hbt (by omega))))))))))
      clear P1 S4 hbelp O2p KP NNp T1 T2 T3 T4 T5 AF AS hvl hHd hF hS hbt hbel5 O25 K5 hWp Fp F4
      go_wp2_with fail
      refine (Calls.mono P2.out) ?_
      rintro r u6 ⟨rfl, hbt⟩
      obtain ⟨hbel5, K5, NN, T1, T2, T3, T4, T5⟩ := S5.out
      obtain ⟨AF, AS, hvl, hHd, hF, hS⟩ := SA.out
      have hs6 := hbt.size
      have hbel6 : Below wr.heap.size wr u6 := But.below hbel5 hbt (by omega) (by omega)
      have K6 : Blk u6 u4.heap.size #[.slice a1 (ws X1).length c1, .slice a2 (ws X2).length c2, .slice a3 (ws X3).length c3, .slice a4 (ws X4).length c4, .slice a5 (ws X5).length c5, .int .i64 e1, .int .i64 e2, .int .i64 e3, .int .i64 e4, .int .i64 z] := by unfold Blk; rw [hbt.block u4.heap.size (by omega) (by omega)]; exact K5
      have F6 : u6.cell? ⟨u1.heap.size, i, none⟩ = some (.slice aF nF cF) := (hbel6.cell (p := ⟨u1.heap.size, i, none⟩) (by simp; omega)).trans hF
      have G6 : u6.cell? ⟨u1.heap.size + 1, i, none⟩ = some (.slice aS nS cS) := (hbel6.cell (p := ⟨u1.heap.size + 1, i, none⟩) (by simp; omega)).trans hS
      have p_0 := K6.cell 0
      have p_1 := K6.cell 1
      have p_2 := K6.cell 2
      have p_3 := K6.cell 3
      have p_4 := K6.cell 4
      have p_5 := K6.cell 5
      have p_6 := K6.cell 6
      have p_7 := K6.cell 7
      have p_8 := K6.cell 8
      have p_9 := K6.cell 9
      simp at p_0 p_1 p_2 p_3 p_4 p_5 p_6 p_7 p_8 p_9
      obtain ⟨q1, q2, q3, q4, q5⟩ := HQ.out
      have A6 := AF.below hbel6
      have B6 := AS.below hbel6
      have DC : Hid (∀ u, Below u6.heap.size u6 u → Calls Tryd.prog 14 #[.slice aF nF cF, .slice aS nS cS] u fun r w' => Both u.heap.size w' r X1 X2 X3 X4 X5 e1 e2 e3 e4 z ∧ Below u.heap.size u w') :=
        fun u hu => document_any (A6.below hu) (B6.below hu) (by omega) (by omega) X1 X2 X3 X4 X5 e1 e2 e3 e4 z q1 q2 q3 q4 q5
      have S6 := (Aside.intro (And.intro hbel6 (And.intro K6 (And.intro (NN.but hbt (by omega)) (And.intro (T1.but hbt (by omega)) (And.intro (T2.but hbt (by omega)) (And.intro (T3.but hbt (by omega)) (And.intro (T4.but hbt (by omega)) (T5.but hbt (by omega))))))))))
      have hs46 : u4.heap.size < u6.heap.size := by omega
      have hiI0 : (0 : Int) ≤ (i : Int) := by omega
      have hiI1 : (i : Int) < 4 := by omega
      clear P2 S5 hbel5 K5 NN T1 T2 T3 T4 T5 AF AS hvl hHd hF hS hbt hbel6 K6 q1 q2 q3 q4 q5 A6 B6 HQ S5v
      go_wp2
      go_region_held3 (fun w' => w'.cell? ⟨u4.heap.size, 0, none⟩ = some (.slice a1 (ws X1).length c1) ∧ w'.cell? ⟨u4.heap.size, 1, none⟩ = some (.slice a2 (ws X2).length c2) ∧ w'.cell? ⟨u4.heap.size, 2, none⟩ = some (.slice a3 (ws X3).length c3) ∧ w'.cell? ⟨u4.heap.size, 3, none⟩ = some (.slice a4 (ws X4).length c4) ∧ w'.cell? ⟨u4.heap.size, 4, none⟩ = some (.slice a5 (ws X5).length c5) ∧ w'.cell? ⟨u4.heap.size, 5, none⟩ = some (.int .i64 e1) ∧ w'.cell? ⟨u4.heap.size, 6, none⟩ = some (.int .i64 e2) ∧ w'.cell? ⟨u4.heap.size, 7, none⟩ = some (.int .i64 e3) ∧ w'.cell? ⟨u4.heap.size, 8, none⟩ = some (.int .i64 e4) ∧ w'.cell? ⟨u4.heap.size, 9, none⟩ = some (.int .i64 z) ∧ w'.cell? ⟨u1.heap.size, i, none⟩ = some (.slice aF nF cF) ∧ w'.cell? ⟨u1.heap.size + 1, i, none⟩ = some (.slice aS nS cS)) (go_keep) (first
        | (go_at_call 14
           refine (DC.out _ (by first | exact Below.refl _ _ | exact (Below.refl _ _).drew)).mono ?_
           rintro r u7 ⟨⟨v1, v2, v3, v4, v5, rfl, D1, D2, D3, D4, D5⟩, hb7⟩
           have hb67 : Below u6.heap.size u6 u7 := by first | exact hb7 | exact ((Below.refl _ u6).drew).trans (hb7.mono (Nat.le_refl _))
           obtain ⟨b1, d1, rfl, B1⟩ := D1.arg (by omega)
           obtain ⟨b2, d2, rfl, B2⟩ := D2.arg (by omega)
           obtain ⟨b3, d3, rfl, B3⟩ := D3.arg (by omega)
           obtain ⟨b4, d4, rfl, B4⟩ := D4.arg (by omega)
           obtain ⟨b5, d5, rfl, B5⟩ := D5.arg (by omega)
           obtain ⟨hbel6, K6, NN, T1, T2, T3, T4, T5⟩ := S6.out
           have hs7 := hb67.size
           have K7 := K6.below hb67
           have AL : Hid (∀ u, Below u7.heap.size u7 u → Calls Tryd.prog 13 #[.agg #[.slice a1 (ws X1).length c1, .slice a2 (ws X2).length c2, .slice a3 (ws X3).length c3, .slice a4 (ws X4).length c4, .slice a5 (ws X5).length c5, .int .i64 e1, .int .i64 e2, .int .i64 e3, .int .i64 e4, .int .i64 z], .agg #[.slice b1 (ws X1).length d1, .slice b2 (ws X2).length d2, .slice b3 (ws X3).length d3, .slice b4 (ws X4).length d4, .slice b5 (ws X5).length d5, .int .i64 e1, .int .i64 e2, .int .i64 e3, .int .i64 e4, .int .i64 z]] u fun r w' => r = .returned (.bool true) ∧ Below u.heap.size u w') :=
             fun u hu => alike_any ((natArg (T1.below hb67) (by omega)).below hu) (B1.below hu) ((natArg (T2.below hb67) (by omega)).below hu) (B2.below hu) ((natArg (T3.below hb67) (by omega)).below hu) (B3.below hu) ((natArg (T4.below hb67) (by omega)).below hu) (B4.below hu) ((natArg (T5.below hb67) (by omega)).below hu) (B5.below hu)
           have r_0 := K7.cell 0
           have r_1 := K7.cell 1
           have r_2 := K7.cell 2
           have r_3 := K7.cell 3
           have r_4 := K7.cell 4
           have r_5 := K7.cell 5
           have r_6 := K7.cell 6
           have r_7 := K7.cell 7
           have r_8 := K7.cell 8
           have r_9 := K7.cell 9
           simp at r_0 r_1 r_2 r_3 r_4 r_5 r_6 r_7 r_8 r_9
           have F7 : u7.cell? ⟨u1.heap.size, i, none⟩ = some (.slice aF nF cF) := (hb67.cell (p := ⟨u1.heap.size, i, none⟩) (by simp; omega)).trans F6
           have G7 : u7.cell? ⟨u1.heap.size + 1, i, none⟩ = some (.slice aS nS cS) := (hb67.cell (p := ⟨u1.heap.size + 1, i, none⟩) (by simp; omega)).trans G6
           have S7 := (Aside.intro (And.intro hb67 K7))
           clear D1 D2 D3 D4 D5 B1 B2 B3 B4 B5 hb7 hb67 hbel6 K6 NN T1 T2 T3 T4 T5 K7)
        | (go_at_call 13
           refine (AL.out _ (by first | exact Below.refl _ _ | exact (Below.refl _ _).drew)).mono ?_
           rintro r u8 ⟨rfl, hb8⟩
           have hb78 : Below u7.heap.size u7 u8 := by first | exact hb8 | exact ((Below.refl _ u7).drew).trans (hb8.mono (Nat.le_refl _))
           have K8 := S7.out.2.below hb78
           have s_0 := K8.cell 0
           have s_1 := K8.cell 1
           have s_2 := K8.cell 2
           have s_3 := K8.cell 3
           have s_4 := K8.cell 4
           have s_5 := K8.cell 5
           have s_6 := K8.cell 6
           have s_7 := K8.cell 7
           have s_8 := K8.cell 8
           have s_9 := K8.cell 9
           simp at s_0 s_1 s_2 s_3 s_4 s_5 s_6 s_7 s_8 s_9
           have F8 : u8.cell? ⟨u1.heap.size, i, none⟩ = some (.slice aF nF cF) := (hb78.cell (p := ⟨u1.heap.size, i, none⟩) (by simp; omega)).trans F7
           have G8 : u8.cell? ⟨u1.heap.size + 1, i, none⟩ = some (.slice aS nS cS) := (hb78.cell (p := ⟨u1.heap.size + 1, i, none⟩) (by simp; omega)).trans G7
           have S8 := Aside.intro (S7.out.1.trans (hb78.mono S7.out.1.size))
           clear hb8 hb78 K8))
      all_goals (
        obtain ⟨hbel6, K6, NN, T1, T2, T3, T4, T5⟩ := S6.out
        obtain ⟨AF, AS, hvl, hHd, hF, hS⟩ := SA.out
        have hb68 := S8.out
        have hs8 := hb68.size
        have hbel8 : Below wr.heap.size wr u8 := hbel6.trans (hb68.mono (by omega))
        have N8 := NN.keep (Keep.below hb68)
        have K8 := K6.below hb68
        have H8 := (hHd.below' hbel8).more ((hHd.below' hbel8).nice.append N8 (by omega) (fun u hu b e => by have := (hHd.nice.lt hu b e).2; omega))
        have S9 := (Aside.intro (And.intro H8 K8))
        have hvl2 : vs.length ≤ 900 := by omega
        have HV := Aside.intro hvl
        clear hbel6 K6 NN T1 T2 T3 T4 T5 AF AS hvl hHd hF hS hb68 hbel8 N8 K8 H8 S6 S7 S8 AL DC p_0 p_1 p_2 p_3 p_4 p_5 p_6 p_7 p_8 p_9 r_0 r_1 r_2 r_3 r_4 r_5 r_6 r_7 r_8 r_9 s_0 s_1 s_2 s_3 s_4 s_5 s_6 s_7 s_8 s_9 F6 G6 F7 G7 F8 G8
        obtain ⟨H, K⟩ := S9.out
        have k_0 := K.cell 0
        simp at k_0
        have T := hid (Held.take' H (by first | omega | (simp; omega)) a1 (ws X1).length c1)
        clear H K
        go_wp2_with fail
        refine (Calls.mono T.out) ?_
        rintro r u9 ⟨rfl, hH, hK, hsz9⟩
        obtain ⟨H, K⟩ := S9.out
        have KN : Blk u9 u4.heap.size #[.slice a1 (ws X1).length c1, .slice a2 (ws X2).length c2, .slice a3 (ws X3).length c3, .slice a4 (ws X4).length c4, .slice a5 (ws X5).length c5, .int .i64 e1, .int .i64 e2, .int .i64 e3, .int .i64 e4, .int .i64 z] := hK _ _ _ (by decide) (by decide) K
        have S10 := (Aside.intro (And.intro hH KN))
        clear T H K KN hH hK k_0 S9
        obtain ⟨H, K⟩ := S10.out
        have k_1 := K.cell 1
        simp at k_1
        have T := hid (Held.take' H (by first | omega | (simp; omega)) a2 (ws X2).length c2)
        clear H K
        go_wp2_with fail
        refine (Calls.mono T.out) ?_
        rintro r u10 ⟨rfl, hH, hK, hsz10⟩
        obtain ⟨H, K⟩ := S10.out
        have KN : Blk u10 u4.heap.size #[.slice a1 (ws X1).length c1, .slice a2 (ws X2).length c2, .slice a3 (ws X3).length c3, .slice a4 (ws X4).length c4, .slice a5 (ws X5).length c5, .int .i64 e1, .int .i64 e2, .int .i64 e3, .int .i64 e4, .int .i64 z] := hK _ _ _ (by decide) (by decide) K
        have S11 := (Aside.intro (And.intro hH KN))
        clear T H K KN hH hK k_1 S10
        obtain ⟨H, K⟩ := S11.out
        have k_2 := K.cell 2
        simp at k_2
        have T := hid (Held.take' H (by first | omega | (simp; omega)) a3 (ws X3).length c3)
        clear H K
        go_wp2_with fail
        refine (Calls.mono T.out) ?_
        rintro r u11 ⟨rfl, hH, hK, hsz11⟩
        obtain ⟨H, K⟩ := S11.out
        have KN : Blk u11 u4.heap.size #[.slice a1 (ws X1).length c1, .slice a2 (ws X2).length c2, .slice a3 (ws X3).length c3, .slice a4 (ws X4).length c4, .slice a5 (ws X5).length c5, .int .i64 e1, .int .i64 e2, .int .i64 e3, .int .i64 e4, .int .i64 z] := hK _ _ _ (by decide) (by decide) K
        have S12 := (Aside.intro (And.intro hH KN))
        clear T H K KN hH hK k_2 S11
        obtain ⟨H, K⟩ := S12.out
        have k_3 := K.cell 3
        simp at k_3
        have T := hid (Held.take' H (by first | omega | (simp; omega)) a4 (ws X4).length c4)
        clear H K
        go_wp2_with fail
        refine (Calls.mono T.out) ?_
        rintro r u12 ⟨rfl, hH, hK, hsz12⟩
        obtain ⟨H, K⟩ := S12.out
        have KN : Blk u12 u4.heap.size #[.slice a1 (ws X1).length c1, .slice a2 (ws X2).length c2, .slice a3 (ws X3).length c3, .slice a4 (ws X4).length c4, .slice a5 (ws X5).length c5, .int .i64 e1, .int .i64 e2, .int .i64 e3, .int .i64 e4, .int .i64 z] := hK _ _ _ (by decide) (by decide) K
        have S13 := (Aside.intro (And.intro hH KN))
        clear T H K KN hH hK k_3 S12
        obtain ⟨H, K⟩ := S13.out
        have k_4 := K.cell 4
        simp at k_4
        have T := hid (Held.take' H (by first | omega | (simp; omega)) a5 (ws X5).length c5)
        clear H K
        go_wp2_with fail
        refine (Calls.mono T.out) ?_
        rintro r u13 ⟨rfl, hH, hK, hsz13⟩
        obtain ⟨H, K⟩ := S13.out
        have KN : Blk u13 u4.heap.size #[.slice a1 (ws X1).length c1, .slice a2 (ws X2).length c2, .slice a3 (ws X3).length c3, .slice a4 (ws X4).length c4, .slice a5 (ws X5).length c5, .int .i64 e1, .int .i64 e2, .int .i64 e3, .int .i64 e4, .int .i64 z] := hK _ _ _ (by decide) (by decide) K
        have S14 := (Aside.intro (And.intro hH KN))
        clear T H K KN hH hK k_4 S13
        go_wp2
        go_roundg (gk - 1)
        case measure => omega
        case rel =>
          refine ⟨i + 1, by omega, by first | rfl | go_num, ⟨vs ++ [.slice a1 (ws X1).length c1, .slice a2 (ws X2).length c2, .slice a3 (ws X3).length c3, .slice a4 (ws X4).length c4, .slice a5 (ws X5).length c5], ?_, ?_⟩⟩
          · have := HV.out
            simp
            omega
          · simpa using S14.out.1)
end Go.Proofs.YtlhiccmdhnhdeaaDoor

