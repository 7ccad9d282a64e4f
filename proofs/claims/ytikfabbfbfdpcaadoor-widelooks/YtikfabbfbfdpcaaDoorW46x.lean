import Derived.Test.YtikfabbfbfdpcaaDoorW43x
import Derived.Test.YtikfabbfbfdpcaaDoorW37
import Derived.Test.YtikfabbfbfdpcaaDoorW38
import Derived.Test.YtikfabbfbfdpcaaDoorW32
/- The document's calls by arguments. -/
namespace Go.Proofs.YtikfabbfbfdpcaaDoor
open Go.RowKit
set_option linter.unusedVariables false

theorem rTimes_arg {w : World} {a b : Option Addr} {n c m d : Nat} {xs ys : List Nat} {V : Nat} (h1 : Arg w a n c xs) (h2 : Arg w b m d ys) (hs : n + m ≤ 35184372088832) (e : val xs * val ys = V) :
    Calls Tryd.prog 64 #[.slice a n c, .slice b m d] w fun r w' => ∃ v, r = .returned v ∧ Nt w.heap.size w' v V ∧ Below w.heap.size w w' := by
  subst e
  exact rTimes_any xs ys a b n c m d w.heap.size w h1.len h2.len h1.cap h2.cap hs h1.wf h2.wf h1.rd h2.rd (Nat.le_refl _)

theorem rPlus_arg {w : World} {a b : Option Addr} {n c m d : Nat} {xs ys : List Nat} {V : Nat} (h1 : Arg w a n c xs) (h2 : Arg w b m d ys) (hs1 : n ≤ 35184372088000) (hs2 : m ≤ 35184372088000) (e : val xs + val ys = V) :
    Calls Tryd.prog 63 #[.slice a n c, .slice b m d] w fun r w' => ∃ v, r = .returned v ∧ Nt w.heap.size w' v V ∧ Below w.heap.size w w' := by
  subst e
  exact rPlus_any xs ys a b n c m d w.heap.size w h1.len h2.len h1.cap h2.cap hs1 hs2 h1.wf h2.wf h1.rd h2.rd (Nat.le_refl _)

theorem rMinus_arg {w : World} {a b : Option Addr} {n c m d : Nat} {xs ys : List Nat} {V : Nat} (h1 : Arg w a n c xs) (h2 : Arg w b m d ys) (hs1 : n ≤ 35184372088000) (hs2 : m ≤ 35184372088000) (e : V + val ys = val xs) :
    Calls Tryd.prog 65 #[.slice a n c, .slice b m d] w fun r w' => ∃ v, r = .returned v ∧ Nt w.heap.size w' v V ∧ Below w.heap.size w w' := by
  have h := rMinus_any xs ys a b n c m d w.heap.size w h1.len h2.len h1.cap h2.cap hs1 hs2 h1.wf h2.wf h1.rd h2.rd (Nat.le_refl _) (by omega)
  rw [show val xs - val ys = V by omega] at h
  exact h

theorem rCmp_arg {w : World} {a b : Option Addr} {n c m d : Nat} {xs ys : List Nat} (h1 : Arg w a n c xs) (h2 : Arg w b m d ys) (z : Int) (e : cmpI (val xs) (val ys) = z) :
    Calls Tryd.prog 51 #[.slice a n c, .slice b m d] w fun r w' => r = .returned (.int .i64 z) ∧ Below w.heap.size w w' := by
  have := rCmp_any xs ys a b n c m d w.heap.size w h1.len h2.len (by have := h1.big; omega) (by have := h2.big; omega) h1.wf h2.wf h1.rd h2.rd
  rw [e] at this
  exact this

/-- One word, laid for a call. -/
theorem lit_arg (w : World) (d : Nat) (hd : d < 4294967296) : Arg (w.alloc (.cells #[.int .u32 (d : Int)] 55)) (some ⟨w.heap.size, 0, none⟩) 1 1 [d] := by
  refine ⟨rfl, Nat.le_refl _, by omega, Wf.cons hd Wf.nil, fun _ => ⟨w.heap.size, 0, by simp, rfl, fun i hi => ?_⟩, fun e => by cases e⟩
  obtain rfl : i = 0 := by simpa using hi
  unfold World.cell?
  simp only [heap_alloc_new]
  rfl

theorem below_alloc (w : World) (o : Obj) : Below w.heap.size w (w.alloc o) := (Below.refl _ _).alloc (Nat.le_refl _) _

theorem root_digits (N k : Nat) (hk : 0 < k) : N / 4 ^ (k - 1) = 4 * (N / 4 ^ k) + 2 * (N / 2 ^ (2 * k - 1) % 2) + N / 2 ^ (2 * k - 2) % 2 := by
  obtain ⟨j, rfl⟩ : ∃ j, k = j + 1 := ⟨k - 1, by omega⟩
  have e1 : 2 ^ (2 * (j + 1) - 2) = 4 ^ j := by rw [show 2 * (j + 1) - 2 = 2 * j by omega, Nat.pow_mul]
  have e2 : 2 ^ (2 * (j + 1) - 1) = 4 ^ j * 2 := by rw [show 2 * (j + 1) - 1 = 2 * j + 1 by omega, Nat.pow_succ, Nat.pow_mul]
  rw [e1, e2, Nat.add_sub_cancel, Nat.pow_succ, ← Nat.div_div_eq_div_mul, ← Nat.div_div_eq_div_mul]
  omega

theorem root_yes (R S two : Nat) (h : 4 * R + 1 ≤ 4 * S + two) (hS : S ≤ 2 * R) (ht : two ≤ 3) : (2 * R + 1) * (2 * R + 1) + (4 * S + two - (4 * R + 1)) = 4 * (R * R + S) + two ∧ 4 * S + two - (4 * R + 1) ≤ 2 * (2 * R + 1) := by
  have : (2 * R + 1) * (2 * R + 1) = 4 * (R * R) + 4 * R + 1 := by grind
  omega

theorem root_no (R S two : Nat) (h : 4 * S + two < 4 * R + 1) : 2 * R * (2 * R) + (4 * S + two) = 4 * (R * R + S) + two ∧ 4 * S + two ≤ 2 * (2 * R) := by
  have : 2 * R * (2 * R) = 4 * (R * R) := by grind
  omega

theorem root_end (N R S : Nat) (h : N = R * R + S) (hS : S ≤ 2 * R) : IsRoot N R ∧ N - R * R = S := by
  have : (R + 1) * (R + 1) = R * R + 2 * R + 1 := by grind
  refine ⟨⟨by omega, by omega⟩, by omega⟩

theorem le_sq (R : Nat) : R ≤ R * R := by
  rcases Nat.eq_zero_or_pos R with h | h
  · omega
  · exact Nat.le_mul_of_pos_left R h

theorem bl_pw (N n : Nat) (h : N < pw n) : bl N ≤ 32 * n := by
  by_cases h0 : N = 0
  · rw [h0, bl_zero]; omega
  · have h1 := bl_ge N h0
    rcases Nat.lt_or_ge (32 * n) (bl N) with h2 | h2
    · exfalso
      have h3 : 2 ^ (32 * n) ≤ 2 ^ (bl N - 1) := Nat.pow_le_pow_right (by omega) (by omega)
      have h4 : pw n = 2 ^ (32 * n) := by unfold pw; rw [Nat.pow_mul]
      omega
    · exact h2
end Go.Proofs.YtikfabbfbfdpcaaDoor

/- The document's Root. -/
namespace Go.Proofs.YtikfabbfbfdpcaaDoor
open Go.RowKit
set_option linter.unusedVariables false

theorem cmpI_ge {x y : Nat} (h : y ≤ x) : 0 ≤ cmpI x y := by unfold cmpI; split <;> (try split) <;> omega

/-- What stands at a round's head. -/
structure RootAt (w : World) (N k R S : Nat) (rv sv : Value) (wr : World) : Prop where
  below : Below w.heap.size w wr
  root : Nt w.heap.size wr rv R
  rest : Nt w.heap.size wr sv S
  sum : N / 4 ^ k = R * R + S
  less : S ≤ 2 * R

theorem RootAt.le {w wr : World} {N k R S : Nat} {rv sv : Value} (h : RootAt w N k R S rv sv wr) : R ≤ N ∧ S ≤ N := by
  have h1 := h.sum
  have h2 : N / 4 ^ k ≤ N := Nat.div_le_self _ _
  have h3 := le_sq R
  omega

set_option maxHeartbeats 8000000 in
set_option maxRecDepth 100000 in
theorem rRoot_any (xs : List Nat) (ao : Option Addr) (n cap : Nat) (w : World) (hA : Arg w ao n cap xs) (hbig : n ≤ 35184372087808) :
    Calls Tryd.prog 33 #[.slice ao n cap] w fun r w' => ∃ v u q, r = .returned (.tuple #[v, u]) ∧ IsRoot (val xs) q ∧ Nt w.heap.size w' v q ∧ Nt w.heap.size w' u (val xs - q * q) ∧ Below w.heap.size w w' := by
  have HLn := hid (rLen_any xs ao n cap w.heap.size w hA.len (by omega) hA.wf hA.rd)
  have hNp := val_lt xs hA.wf
  rw [← hA.len] at hNp
  obtain ⟨N, hN⟩ : ∃ N, val xs = N := ⟨_, rfl⟩
  rw [hN] at HLn hNp ⊢
  have hbl := bl_pw N n hNp
  have hbl2 := bl_lt N
  obtain ⟨L, hL⟩ : ∃ L, bl N = L := ⟨_, rfl⟩
  rw [hL] at HLn hbl hbl2
  obtain ⟨k0, hk0⟩ : ∃ k0, k0 = (L + 1) / 2 := ⟨_, rfl⟩
  have ek : ((L : Int) + 1) / 2 = (k0 : Int) := by omega
  have hkb : k0 ≤ 562949953404928 := by omega
  have hst : N / 4 ^ k0 = 0 * 0 + 0 := by
    rw [Nat.div_eq_of_lt]
    have h1 : 2 ^ L ≤ 2 ^ (2 * k0) := Nat.pow_le_pow_right (by omega) (by omega)
    rw [Nat.pow_mul] at h1
    exact Nat.lt_of_lt_of_le hbl2 h1
  have HL : Aside (∀ X, X ≤ 4 * N + 3 → (ws X).length ≤ n + 1) := by
    intro X hX
    rw [ws_len_le, pw_succ]
    have := pw_pos n
    omega
  have HX := (Aside.intro (And.intro hA (And.intro hN hst)))
  clear hA hN hst hNp hbl hbl2 hL hk0
  go_enter Tryd.func33, Tryd.ntmps33
  go_wp2_with fail
  refine (Calls.mono HLn.out) ?_
  rintro r w ⟨rfl, rfl⟩
  go_wp2
  go_loopg [4, 5, 6] k0 (fun gk rv sv kv wr => ∃ (R S : Nat), gk ≤ k0 ∧ kv = .int .i64 (gk : Nat) ∧ Aside (RootAt w N gk R S rv sv wr))
  case atStart => exact ⟨0, 0, Nat.le_refl _, by first | rfl | go_num, ⟨Below.refl _ _, Nt.nil _ _, Nt.nil _ _, HX.out.2.2, by omega⟩⟩
  case round =>
    clear ek
    obtain ⟨R, S, hgk, rfl, HA⟩ := hrel
    by_cases hg0 : gk = 0
    · subst hg0
      go_wp2
      go_ret2
      have h1 := HA.out.sum
      rw [Nat.pow_zero, Nat.div_one] at h1
      obtain ⟨h2, h3⟩ := root_end N R S h1 HA.out.less
      exact ⟨_, _, R, rfl, h2, HA.out.root, by rw [h3]; exact HA.out.rest, HA.out.below⟩
    · have hgp : 0 < gk := by omega
      obtain ⟨i1, hi1⟩ : ∃ i, i = 2 * gk - 1 := ⟨_, rfl⟩
      obtain ⟨i2, hi2⟩ : ∃ i, i = 2 * gk - 2 := ⟨_, rfl⟩
      have ei1 : 2 * (gk : Int) - 1 = (i1 : Int) := by omega
      have ei2 : 2 * (gk : Int) - 2 = (i2 : Int) := by omega
      obtain ⟨hArg, hN, _⟩ := HX.out
      have AX := hArg.below (HA.out.below)
      have B1 := rBit_any xs ao n cap wr.heap.size i1 wr AX.len AX.wf AX.rd (by omega)
      have B2 := rBit_any xs ao n cap wr.heap.size i2 wr AX.len AX.wf AX.rd (by omega)
      have hdg := root_digits N gk hgp
      rw [← hi1, ← hi2, HA.out.sum] at hdg
      rw [hN] at B1 B2
      obtain ⟨hRN, hSN⟩ := HA.out.le
      obtain ⟨ar, cr, hrv, AR⟩ := HA.out.root.arg (by have := HL.out R (by omega); omega)
      obtain ⟨as2, cs, hsv, AS2⟩ := HA.out.rest.arg (by have := HL.out S (by omega); omega)
      have hNR := HA.out.root
      have hNS := HA.out.rest
      have hbel := HA.out.below
      have hless := HA.out.less
      subst hrv hsv
      have S0 := (Aside.intro (And.intro hbel (And.intro AR (And.intro hNR (And.intro AS2 hNS)))))
      have hm1 : N / 2 ^ i1 % 2 < 2 := Nat.mod_lt _ (by omega)
      have hm2 : N / 2 ^ i2 % 2 < 2 := Nat.mod_lt _ (by omega)
      generalize N / 2 ^ i1 % 2 = b1 at B1 hdg hm1
      generalize N / 2 ^ i2 % 2 = b2 at B2 hdg hm2
      clear hArg hN AX hbel AR AS2 hNR hNS hi1 hi2 HA HX
      rcases (by omega : b1 = 0 ∨ b1 = 1) with rfl | rfl <;> rcases (by omega : b2 = 0 ∨ b2 = 1) with rfl | rfl
      · have HB1 := hid (show Calls Tryd.prog 31 #[.slice ao n cap, .int .i64 (i1 : Int)] wr fun r w' => r = .returned (.bool false) ∧ w' = wr from B1)
        have HB2 := hid (show Calls Tryd.prog 31 #[.slice ao n cap, .int .i64 (i2 : Int)] wr fun r w' => r = .returned (.bool false) ∧ w' = wr from B2)
        have hdg2 : N / 4 ^ (gk - 1) = 4 * (R * R + S) + 0 := by omega
        have HD := Aside.intro hdg2
        have hSN3 : 4 * S + 0 ≤ 4 * N + 3 := by omega
        have hl0R := HL.out R (by omega)
        have hl0S := HL.out S (by omega)
        clear B1 B2 hdg hdg2 hm1 hm2
        go_wp2_with fail
        refine (Calls.mono HB1.out) ?_
        rintro r wr ⟨rfl, rfl⟩
        go_wp2_with fail
        refine (Calls.mono HB2.out) ?_
        rintro r wr ⟨rfl, rfl⟩
        obtain ⟨hbel, A_R, N_R, A_S, N_S⟩ := S0.out
        have hsz0 := hbel.size
        have H0 := hid (rTimes_arg (A_S.below (below_alloc wr _)) (lit_arg wr 4 (by decide)) (by omega) (show val (ws S) * val [4] = 4 * S by rw [val_ws]; simp [val] <;> omega))
        clear hbel A_R N_R A_S N_S
        go_wp2_with fail
        refine (Calls.mono H0.out) ?_
        rintro r u1 ⟨v0, rfl, hN, hb⟩
        obtain ⟨hbel, A_R, N_R, A_S, N_S⟩ := S0.out
        have hb2 : Below wr.heap.size wr u1 := (below_alloc wr _).trans (hb.mono (by simp))
        obtain ⟨a0, c0, rfl, A_s4⟩ := hN.arg (by have := HL.out (4 * S) (by omega); omega)
        have N_s4 := hN.mono (lo' := w.heap.size) (by simp; omega)
        have hl0 := HL.out (4 * S) (by omega)
        have S1 := (Aside.intro (And.intro (hbel.trans (hb2.mono hbel.size)) (And.intro (A_R.below hb2) (And.intro (N_R.below hb2) (And.intro (A_S.below hb2) (And.intro (N_S.below hb2) (And.intro A_s4 N_s4)))))))
        clear hN hb hb2 hsz0 H0 S0 hbel A_R N_R A_S N_S A_s4 N_s4
        obtain ⟨hbel, A_R, N_R, A_S, N_S, A_s4, N_s4⟩ := S1.out
        have hsz1 := hbel.size
        have H1 := hid (rPlus_arg (A_s4.below (below_alloc u1 _)) (lit_arg u1 0 (by decide)) (by omega) (by omega) (show val (ws (4 * S)) + val [0] = 4 * S + 0 by rw [val_ws]; simp [val] <;> omega))
        clear hbel A_R N_R A_S N_S A_s4 N_s4
        go_wp2_with fail
        refine (Calls.mono H1.out) ?_
        rintro r u2 ⟨v1, rfl, hN, hb⟩
        obtain ⟨hbel, A_R, N_R, A_S, N_S, A_s4, N_s4⟩ := S1.out
        have hb2 : Below u1.heap.size u1 u2 := (below_alloc u1 _).trans (hb.mono (by simp))
        obtain ⟨a1, c1, rfl, A_s5⟩ := hN.arg (by have := HL.out (4 * S + 0) (by omega); omega)
        have N_s5 := hN.mono (lo' := w.heap.size) (by simp; omega)
        have hl1 := HL.out (4 * S + 0) (by omega)
        have S2 := (Aside.intro (And.intro (hbel.trans (hb2.mono hbel.size)) (And.intro (A_R.below hb2) (And.intro (N_R.below hb2) (And.intro (A_S.below hb2) (And.intro (N_S.below hb2) (And.intro (A_s4.below hb2) (And.intro (N_s4.below hb2) (And.intro A_s5 N_s5)))))))))
        clear hN hb hb2 hsz1 H1 S1 hbel A_R N_R A_S N_S A_s4 N_s4 A_s5 N_s5
        obtain ⟨hbel, A_R, N_R, A_S, N_S, A_s4, N_s4, A_s5, N_s5⟩ := S2.out
        have hsz2 := hbel.size
        have H2 := hid (rTimes_arg (A_R.below (below_alloc u2 _)) (lit_arg u2 4 (by decide)) (by omega) (show val (ws R) * val [4] = 4 * R by rw [val_ws]; simp [val] <;> omega))
        clear hbel A_R N_R A_S N_S A_s4 N_s4 A_s5 N_s5
        go_wp2_with fail
        refine (Calls.mono H2.out) ?_
        rintro r u3 ⟨v2, rfl, hN, hb⟩
        obtain ⟨hbel, A_R, N_R, A_S, N_S, A_s4, N_s4, A_s5, N_s5⟩ := S2.out
        have hb2 : Below u2.heap.size u2 u3 := (below_alloc u2 _).trans (hb.mono (by simp))
        obtain ⟨a2, c2, rfl, A_r4⟩ := hN.arg (by have := HL.out (4 * R) (by omega); omega)
        have N_r4 := hN.mono (lo' := w.heap.size) (by simp; omega)
        have hl2 := HL.out (4 * R) (by omega)
        have S3 := (Aside.intro (And.intro (hbel.trans (hb2.mono hbel.size)) (And.intro (A_R.below hb2) (And.intro (N_R.below hb2) (And.intro (A_S.below hb2) (And.intro (N_S.below hb2) (And.intro (A_s4.below hb2) (And.intro (N_s4.below hb2) (And.intro (A_s5.below hb2) (And.intro (N_s5.below hb2) (And.intro A_r4 N_r4)))))))))))
        clear hN hb hb2 hsz2 H2 S2 hbel A_R N_R A_S N_S A_s4 N_s4 A_s5 N_s5 A_r4 N_r4
        obtain ⟨hbel, A_R, N_R, A_S, N_S, A_s4, N_s4, A_s5, N_s5, A_r4, N_r4⟩ := S3.out
        have hsz3 := hbel.size
        have H3 := hid (rPlus_arg (A_r4.below (below_alloc u3 _)) (lit_arg u3 1 (by decide)) (by omega) (by omega) (show val (ws (4 * R)) + val [1] = 4 * R + 1 by rw [val_ws]; simp [val] <;> omega))
        clear hbel A_R N_R A_S N_S A_s4 N_s4 A_s5 N_s5 A_r4 N_r4
        go_wp2_with fail
        refine (Calls.mono H3.out) ?_
        rintro r u4 ⟨v3, rfl, hN, hb⟩
        obtain ⟨hbel, A_R, N_R, A_S, N_S, A_s4, N_s4, A_s5, N_s5, A_r4, N_r4⟩ := S3.out
        have hb2 : Below u3.heap.size u3 u4 := (below_alloc u3 _).trans (hb.mono (by simp))
        obtain ⟨a3, c3, rfl, A_r5⟩ := hN.arg (by have := HL.out (4 * R + 1) (by omega); omega)
        have N_r5 := hN.mono (lo' := w.heap.size) (by simp; omega)
        have hl3 := HL.out (4 * R + 1) (by omega)
        have S4 := (Aside.intro (And.intro (hbel.trans (hb2.mono hbel.size)) (And.intro (A_R.below hb2) (And.intro (N_R.below hb2) (And.intro (A_S.below hb2) (And.intro (N_S.below hb2) (And.intro (A_s4.below hb2) (And.intro (N_s4.below hb2) (And.intro (A_s5.below hb2) (And.intro (N_s5.below hb2) (And.intro (A_r4.below hb2) (And.intro (N_r4.below hb2) (And.intro A_r5 N_r5)))))))))))))
        clear hN hb hb2 hsz3 H3 S3 hbel A_R N_R A_S N_S A_s4 N_s4 A_s5 N_s5 A_r4 N_r4 A_r5 N_r5
        obtain ⟨hbel, A_R, N_R, A_S, N_S, A_s4, N_s4, A_s5, N_s5, A_r4, N_r4, A_r5, N_r5⟩ := S4.out
        have hsz4 := hbel.size
        have H4 := hid (rTimes_arg (A_R.below (below_alloc u4 _)) (lit_arg u4 2 (by decide)) (by omega) (show val (ws R) * val [2] = 2 * R by rw [val_ws]; simp [val] <;> omega))
        clear hbel A_R N_R A_S N_S A_s4 N_s4 A_s5 N_s5 A_r4 N_r4 A_r5 N_r5
        go_wp2_with fail
        refine (Calls.mono H4.out) ?_
        rintro r u5 ⟨v4, rfl, hN, hb⟩
        obtain ⟨hbel, A_R, N_R, A_S, N_S, A_s4, N_s4, A_s5, N_s5, A_r4, N_r4, A_r5, N_r5⟩ := S4.out
        have hb2 : Below u4.heap.size u4 u5 := (below_alloc u4 _).trans (hb.mono (by simp))
        obtain ⟨a4, c4, rfl, A_r2⟩ := hN.arg (by have := HL.out (2 * R) (by omega); omega)
        have N_r2 := hN.mono (lo' := w.heap.size) (by simp; omega)
        have hl4 := HL.out (2 * R) (by omega)
        have S5 := (Aside.intro (And.intro (hbel.trans (hb2.mono hbel.size)) (And.intro (A_R.below hb2) (And.intro (N_R.below hb2) (And.intro (A_S.below hb2) (And.intro (N_S.below hb2) (And.intro (A_s4.below hb2) (And.intro (N_s4.below hb2) (And.intro (A_s5.below hb2) (And.intro (N_s5.below hb2) (And.intro (A_r4.below hb2) (And.intro (N_r4.below hb2) (And.intro (A_r5.below hb2) (And.intro (N_r5.below hb2) (And.intro A_r2 N_r2)))))))))))))))
        clear hN hb hb2 hsz4 H4 S4 hbel A_R N_R A_S N_S A_s4 N_s4 A_s5 N_s5 A_r4 N_r4 A_r5 N_r5 A_r2 N_r2
        by_cases hge : 4 * R + 1 ≤ 4 * S + 0
        · obtain ⟨hbel, A_R, N_R, A_S, N_S, A_s4, N_s4, A_s5, N_s5, A_r4, N_r4, A_r5, N_r5, A_r2, N_r2⟩ := S5.out
          obtain ⟨z, hz⟩ : ∃ z, cmpI (4 * S + 0) (4 * R + 1) = z := ⟨_, rfl⟩
          have hz0 : 0 ≤ z := hz ▸ cmpI_ge hge
          have HC := hid (rCmp_arg A_s5 A_r5 z (by rw [val_ws, val_ws]; exact hz))
          clear hz hbel A_R N_R A_S N_S A_s4 N_s4 A_s5 N_s5 A_r4 N_r4 A_r5 N_r5 A_r2 N_r2
          go_wp2_with fail
          refine (Calls.mono HC.out) ?_
          rintro r u6 ⟨rfl, hb⟩
          obtain ⟨hbel, A_R, N_R, A_S, N_S, A_s4, N_s4, A_s5, N_s5, A_r4, N_r4, A_r5, N_r5, A_r2, N_r2⟩ := S5.out
          have S6 := (Aside.intro (And.intro (hbel.trans (hb.mono hbel.size)) (And.intro (A_R.below hb) (And.intro (N_R.below hb) (And.intro (A_S.below hb) (And.intro (N_S.below hb) (And.intro (A_s4.below hb) (And.intro (N_s4.below hb) (And.intro (A_s5.below hb) (And.intro (N_s5.below hb) (And.intro (A_r4.below hb) (And.intro (N_r4.below hb) (And.intro (A_r5.below hb) (And.intro (N_r5.below hb) (And.intro (A_r2.below hb) (N_r2.below hb))))))))))))))))
          clear hb HC S5 hbel A_R N_R A_S N_S A_s4 N_s4 A_s5 N_s5 A_r4 N_r4 A_r5 N_r5 A_r2 N_r2
          obtain ⟨hbel, A_R, N_R, A_S, N_S, A_s4, N_s4, A_s5, N_s5, A_r4, N_r4, A_r5, N_r5, A_r2, N_r2⟩ := S6.out
          have hsz6 := hbel.size
          have H6 := hid (rMinus_arg (V := 4 * S + 0 - (4 * R + 1)) A_s5 A_r5 (by omega) (by omega) (by rw [val_ws, val_ws]; omega))
          clear hbel A_R N_R A_S N_S A_s4 N_s4 A_s5 N_s5 A_r4 N_r4 A_r5 N_r5 A_r2 N_r2
          go_wp2_with fail
          refine (Calls.mono H6.out) ?_
          rintro r u7 ⟨v6, rfl, hN, hb⟩
          obtain ⟨hbel, A_R, N_R, A_S, N_S, A_s4, N_s4, A_s5, N_s5, A_r4, N_r4, A_r5, N_r5, A_r2, N_r2⟩ := S6.out
          have N_q := hN.mono (lo' := w.heap.size) hsz6
          have S7 := (Aside.intro (And.intro (hbel.trans (hb.mono hbel.size)) (And.intro (A_R.below hb) (And.intro (N_R.below hb) (And.intro (A_S.below hb) (And.intro (N_S.below hb) (And.intro (A_s4.below hb) (And.intro (N_s4.below hb) (And.intro (A_s5.below hb) (And.intro (N_s5.below hb) (And.intro (A_r4.below hb) (And.intro (N_r4.below hb) (And.intro (A_r5.below hb) (And.intro (N_r5.below hb) (And.intro (A_r2.below hb) (And.intro (N_r2.below hb) N_q))))))))))))))))
          clear hN hb N_q hsz6 H6 S6 hbel A_R N_R A_S N_S A_s4 N_s4 A_s5 N_s5 A_r4 N_r4 A_r5 N_r5 A_r2 N_r2
          obtain ⟨hbel, A_R, N_R, A_S, N_S, A_s4, N_s4, A_s5, N_s5, A_r4, N_r4, A_r5, N_r5, A_r2, N_r2, N_q⟩ := S7.out
          have hsz7 := hbel.size
          have H7 := hid (rPlus_arg (V := 2 * R + 1) (A_r2.below (below_alloc u7 _)) (lit_arg u7 1 (by decide)) (by omega) (by omega) (by rw [val_ws]; simp [val] <;> omega))
          clear N_q hbel A_R N_R A_S N_S A_s4 N_s4 A_s5 N_s5 A_r4 N_r4 A_r5 N_r5 A_r2 N_r2
          go_wp2_with fail
          refine (Calls.mono H7.out) ?_
          rintro r u8 ⟨v7, rfl, hN, hb⟩
          obtain ⟨hbel, A_R, N_R, A_S, N_S, A_s4, N_s4, A_s5, N_s5, A_r4, N_r4, A_r5, N_r5, A_r2, N_r2, N_q⟩ := S7.out
          have hb2 : Below u7.heap.size u7 u8 := (below_alloc u7 _).trans (hb.mono (by simp))
          have N_p := hN.mono (lo' := w.heap.size) (by simp; omega)
          obtain ⟨hy1, hy2⟩ := root_yes R S 0 hge hless (by omega)
          have S8 : Aside (RootAt w N (gk - 1) (2 * R + 1) (4 * S + 0 - (4 * R + 1)) v7 v6 u8) := ⟨hbel.trans (hb2.mono hbel.size), N_p, N_q.below hb2, by rw [HD.out, hy1], hy2⟩
          clear hN hb hb2 N_p N_q hsz7 H7 S7 hy1 hy2 hbel A_R N_R A_S N_S A_s4 N_s4 A_s5 N_s5 A_r4 N_r4 A_r5 N_r5 A_r2 N_r2
          go_wp2
          go_roundg (gk - 1)
          case measure => omega
          case rel => exact ⟨2 * R + 1, 4 * S + 0 - (4 * R + 1), by omega, by first | go_num | (congr 1; omega), S8⟩
        · obtain ⟨hbel, A_R, N_R, A_S, N_S, A_s4, N_s4, A_s5, N_s5, A_r4, N_r4, A_r5, N_r5, A_r2, N_r2⟩ := S5.out
          have hz : cmpI (4 * S + 0) (4 * R + 1) = -1 := cmpI_lt (by omega)
          have HC := hid (rCmp_arg A_s5 A_r5 (-1) (by rw [val_ws, val_ws]; exact hz))
          clear hz hbel A_R N_R A_S N_S A_s4 N_s4 A_s5 N_s5 A_r4 N_r4 A_r5 N_r5 A_r2 N_r2
          go_wp2_with fail
          refine (Calls.mono HC.out) ?_
          rintro r u6 ⟨rfl, hb⟩
          obtain ⟨hbel, A_R, N_R, A_S, N_S, A_s4, N_s4, A_s5, N_s5, A_r4, N_r4, A_r5, N_r5, A_r2, N_r2⟩ := S5.out
          have S6 := (Aside.intro (And.intro (hbel.trans (hb.mono hbel.size)) (And.intro (A_R.below hb) (And.intro (N_R.below hb) (And.intro (A_S.below hb) (And.intro (N_S.below hb) (And.intro (A_s4.below hb) (And.intro (N_s4.below hb) (And.intro (A_s5.below hb) (And.intro (N_s5.below hb) (And.intro (A_r4.below hb) (And.intro (N_r4.below hb) (And.intro (A_r5.below hb) (And.intro (N_r5.below hb) (And.intro (A_r2.below hb) (N_r2.below hb))))))))))))))))
          clear hb HC S5 hbel A_R N_R A_S N_S A_s4 N_s4 A_s5 N_s5 A_r4 N_r4 A_r5 N_r5 A_r2 N_r2
          obtain ⟨hy1, hy2⟩ := root_no R S 0 (by omega)
          have S8 : Aside (RootAt w N (gk - 1) (2 * R) (4 * S + 0) (.slice a4 (ws (2 * R)).length c4) (.slice a1 (ws (4 * S + 0)).length c1) u6) := by
            obtain ⟨hbel, A_R, N_R, A_S, N_S, A_s4, N_s4, A_s5, N_s5, A_r4, N_r4, A_r5, N_r5, A_r2, N_r2⟩ := S6.out
            exact ⟨hbel, N_r2, N_s5, by rw [HD.out, hy1], hy2⟩
          clear S6 hy1 hy2
          go_wp2
          go_roundg (gk - 1)
          case measure => omega
          case rel => exact ⟨2 * R, 4 * S + 0, by omega, by first | go_num | (congr 1; omega), S8⟩
      · have HB1 := hid (show Calls Tryd.prog 31 #[.slice ao n cap, .int .i64 (i1 : Int)] wr fun r w' => r = .returned (.bool false) ∧ w' = wr from B1)
        have HB2 := hid (show Calls Tryd.prog 31 #[.slice ao n cap, .int .i64 (i2 : Int)] wr fun r w' => r = .returned (.bool true) ∧ w' = wr from B2)
        have hdg2 : N / 4 ^ (gk - 1) = 4 * (R * R + S) + 1 := by omega
        have HD := Aside.intro hdg2
        have hSN3 : 4 * S + 1 ≤ 4 * N + 3 := by omega
        have hl0R := HL.out R (by omega)
        have hl0S := HL.out S (by omega)
        clear B1 B2 hdg hdg2 hm1 hm2
        go_wp2_with fail
        refine (Calls.mono HB1.out) ?_
        rintro r wr ⟨rfl, rfl⟩
        go_wp2_with fail
        refine (Calls.mono HB2.out) ?_
        rintro r wr ⟨rfl, rfl⟩
        obtain ⟨hbel, A_R, N_R, A_S, N_S⟩ := S0.out
        have hsz0 := hbel.size
        have H0 := hid (rTimes_arg (A_S.below (below_alloc wr _)) (lit_arg wr 4 (by decide)) (by omega) (show val (ws S) * val [4] = 4 * S by rw [val_ws]; simp [val] <;> omega))
        clear hbel A_R N_R A_S N_S
        go_wp2_with fail
        refine (Calls.mono H0.out) ?_
        rintro r u1 ⟨v0, rfl, hN, hb⟩
        obtain ⟨hbel, A_R, N_R, A_S, N_S⟩ := S0.out
        have hb2 : Below wr.heap.size wr u1 := (below_alloc wr _).trans (hb.mono (by simp))
        obtain ⟨a0, c0, rfl, A_s4⟩ := hN.arg (by have := HL.out (4 * S) (by omega); omega)
        have N_s4 := hN.mono (lo' := w.heap.size) (by simp; omega)
        have hl0 := HL.out (4 * S) (by omega)
        have S1 := (Aside.intro (And.intro (hbel.trans (hb2.mono hbel.size)) (And.intro (A_R.below hb2) (And.intro (N_R.below hb2) (And.intro (A_S.below hb2) (And.intro (N_S.below hb2) (And.intro A_s4 N_s4)))))))
        clear hN hb hb2 hsz0 H0 S0 hbel A_R N_R A_S N_S A_s4 N_s4
        obtain ⟨hbel, A_R, N_R, A_S, N_S, A_s4, N_s4⟩ := S1.out
        have hsz1 := hbel.size
        have H1 := hid (rPlus_arg (A_s4.below (below_alloc u1 _)) (lit_arg u1 1 (by decide)) (by omega) (by omega) (show val (ws (4 * S)) + val [1] = 4 * S + 1 by rw [val_ws]; simp [val] <;> omega))
        clear hbel A_R N_R A_S N_S A_s4 N_s4
        go_wp2_with fail
        refine (Calls.mono H1.out) ?_
        rintro r u2 ⟨v1, rfl, hN, hb⟩
        obtain ⟨hbel, A_R, N_R, A_S, N_S, A_s4, N_s4⟩ := S1.out
        have hb2 : Below u1.heap.size u1 u2 := (below_alloc u1 _).trans (hb.mono (by simp))
        obtain ⟨a1, c1, rfl, A_s5⟩ := hN.arg (by have := HL.out (4 * S + 1) (by omega); omega)
        have N_s5 := hN.mono (lo' := w.heap.size) (by simp; omega)
        have hl1 := HL.out (4 * S + 1) (by omega)
        have S2 := (Aside.intro (And.intro (hbel.trans (hb2.mono hbel.size)) (And.intro (A_R.below hb2) (And.intro (N_R.below hb2) (And.intro (A_S.below hb2) (And.intro (N_S.below hb2) (And.intro (A_s4.below hb2) (And.intro (N_s4.below hb2) (And.intro A_s5 N_s5)))))))))
        clear hN hb hb2 hsz1 H1 S1 hbel A_R N_R A_S N_S A_s4 N_s4 A_s5 N_s5
        obtain ⟨hbel, A_R, N_R, A_S, N_S, A_s4, N_s4, A_s5, N_s5⟩ := S2.out
        have hsz2 := hbel.size
        have H2 := hid (rTimes_arg (A_R.below (below_alloc u2 _)) (lit_arg u2 4 (by decide)) (by omega) (show val (ws R) * val [4] = 4 * R by rw [val_ws]; simp [val] <;> omega))
        clear hbel A_R N_R A_S N_S A_s4 N_s4 A_s5 N_s5
        go_wp2_with fail
        refine (Calls.mono H2.out) ?_
        rintro r u3 ⟨v2, rfl, hN, hb⟩
        obtain ⟨hbel, A_R, N_R, A_S, N_S, A_s4, N_s4, A_s5, N_s5⟩ := S2.out
        have hb2 : Below u2.heap.size u2 u3 := (below_alloc u2 _).trans (hb.mono (by simp))
        obtain ⟨a2, c2, rfl, A_r4⟩ := hN.arg (by have := HL.out (4 * R) (by omega); omega)
        have N_r4 := hN.mono (lo' := w.heap.size) (by simp; omega)
        have hl2 := HL.out (4 * R) (by omega)
        have S3 := (Aside.intro (And.intro (hbel.trans (hb2.mono hbel.size)) (And.intro (A_R.below hb2) (And.intro (N_R.below hb2) (And.intro (A_S.below hb2) (And.intro (N_S.below hb2) (And.intro (A_s4.below hb2) (And.intro (N_s4.below hb2) (And.intro (A_s5.below hb2) (And.intro (N_s5.below hb2) (And.intro A_r4 N_r4)))))))))))
        clear hN hb hb2 hsz2 H2 S2 hbel A_R N_R A_S N_S A_s4 N_s4 A_s5 N_s5 A_r4 N_r4
        obtain ⟨hbel, A_R, N_R, A_S, N_S, A_s4, N_s4, A_s5, N_s5, A_r4, N_r4⟩ := S3.out
        have hsz3 := hbel.size
        have H3 := hid (rPlus_arg (A_r4.below (below_alloc u3 _)) (lit_arg u3 1 (by decide)) (by omega) (by omega) (show val (ws (4 * R)) + val [1] = 4 * R + 1 by rw [val_ws]; simp [val] <;> omega))
        clear hbel A_R N_R A_S N_S A_s4 N_s4 A_s5 N_s5 A_r4 N_r4
        go_wp2_with fail
        refine (Calls.mono H3.out) ?_
        rintro r u4 ⟨v3, rfl, hN, hb⟩
        obtain ⟨hbel, A_R, N_R, A_S, N_S, A_s4, N_s4, A_s5, N_s5, A_r4, N_r4⟩ := S3.out
        have hb2 : Below u3.heap.size u3 u4 := (below_alloc u3 _).trans (hb.mono (by simp))
        obtain ⟨a3, c3, rfl, A_r5⟩ := hN.arg (by have := HL.out (4 * R + 1) (by omega); omega)
        have N_r5 := hN.mono (lo' := w.heap.size) (by simp; omega)
        have hl3 := HL.out (4 * R + 1) (by omega)
        have S4 := (Aside.intro (And.intro (hbel.trans (hb2.mono hbel.size)) (And.intro (A_R.below hb2) (And.intro (N_R.below hb2) (And.intro (A_S.below hb2) (And.intro (N_S.below hb2) (And.intro (A_s4.below hb2) (And.intro (N_s4.below hb2) (And.intro (A_s5.below hb2) (And.intro (N_s5.below hb2) (And.intro (A_r4.below hb2) (And.intro (N_r4.below hb2) (And.intro A_r5 N_r5)))))))))))))
        clear hN hb hb2 hsz3 H3 S3 hbel A_R N_R A_S N_S A_s4 N_s4 A_s5 N_s5 A_r4 N_r4 A_r5 N_r5
        obtain ⟨hbel, A_R, N_R, A_S, N_S, A_s4, N_s4, A_s5, N_s5, A_r4, N_r4, A_r5, N_r5⟩ := S4.out
        have hsz4 := hbel.size
        have H4 := hid (rTimes_arg (A_R.below (below_alloc u4 _)) (lit_arg u4 2 (by decide)) (by omega) (show val (ws R) * val [2] = 2 * R by rw [val_ws]; simp [val] <;> omega))
        clear hbel A_R N_R A_S N_S A_s4 N_s4 A_s5 N_s5 A_r4 N_r4 A_r5 N_r5
        go_wp2_with fail
        refine (Calls.mono H4.out) ?_
        rintro r u5 ⟨v4, rfl, hN, hb⟩
        obtain ⟨hbel, A_R, N_R, A_S, N_S, A_s4, N_s4, A_s5, N_s5, A_r4, N_r4, A_r5, N_r5⟩ := S4.out
        have hb2 : Below u4.heap.size u4 u5 := (below_alloc u4 _).trans (hb.mono (by simp))
        obtain ⟨a4, c4, rfl, A_r2⟩ := hN.arg (by have := HL.out (2 * R) (by omega); omega)
        have N_r2 := hN.mono (lo' := w.heap.size) (by simp; omega)
        have hl4 := HL.out (2 * R) (by omega)
        have S5 := (Aside.intro (And.intro (hbel.trans (hb2.mono hbel.size)) (And.intro (A_R.below hb2) (And.intro (N_R.below hb2) (And.intro (A_S.below hb2) (And.intro (N_S.below hb2) (And.intro (A_s4.below hb2) (And.intro (N_s4.below hb2) (And.intro (A_s5.below hb2) (And.intro (N_s5.below hb2) (And.intro (A_r4.below hb2) (And.intro (N_r4.below hb2) (And.intro (A_r5.below hb2) (And.intro (N_r5.below hb2) (And.intro A_r2 N_r2)))))))))))))))
        clear hN hb hb2 hsz4 H4 S4 hbel A_R N_R A_S N_S A_s4 N_s4 A_s5 N_s5 A_r4 N_r4 A_r5 N_r5 A_r2 N_r2
        by_cases hge : 4 * R + 1 ≤ 4 * S + 1
        · obtain ⟨hbel, A_R, N_R, A_S, N_S, A_s4, N_s4, A_s5, N_s5, A_r4, N_r4, A_r5, N_r5, A_r2, N_r2⟩ := S5.out
          obtain ⟨z, hz⟩ : ∃ z, cmpI (4 * S + 1) (4 * R + 1) = z := ⟨_, rfl⟩
          have hz0 : 0 ≤ z := hz ▸ cmpI_ge hge
          have HC := hid (rCmp_arg A_s5 A_r5 z (by rw [val_ws, val_ws]; exact hz))
          clear hz hbel A_R N_R A_S N_S A_s4 N_s4 A_s5 N_s5 A_r4 N_r4 A_r5 N_r5 A_r2 N_r2
          go_wp2_with fail
          refine (Calls.mono HC.out) ?_
          rintro r u6 ⟨rfl, hb⟩
          obtain ⟨hbel, A_R, N_R, A_S, N_S, A_s4, N_s4, A_s5, N_s5, A_r4, N_r4, A_r5, N_r5, A_r2, N_r2⟩ := S5.out
          have S6 := (Aside.intro (And.intro (hbel.trans (hb.mono hbel.size)) (And.intro (A_R.below hb) (And.intro (N_R.below hb) (And.intro (A_S.below hb) (And.intro (N_S.below hb) (And.intro (A_s4.below hb) (And.intro (N_s4.below hb) (And.intro (A_s5.below hb) (And.intro (N_s5.below hb) (And.intro (A_r4.below hb) (And.intro (N_r4.below hb) (And.intro (A_r5.below hb) (And.intro (N_r5.below hb) (And.intro (A_r2.below hb) (N_r2.below hb))))))))))))))))
          clear hb HC S5 hbel A_R N_R A_S N_S A_s4 N_s4 A_s5 N_s5 A_r4 N_r4 A_r5 N_r5 A_r2 N_r2
          obtain ⟨hbel, A_R, N_R, A_S, N_S, A_s4, N_s4, A_s5, N_s5, A_r4, N_r4, A_r5, N_r5, A_r2, N_r2⟩ := S6.out
          have hsz6 := hbel.size
          have H6 := hid (rMinus_arg (V := 4 * S + 1 - (4 * R + 1)) A_s5 A_r5 (by omega) (by omega) (by rw [val_ws, val_ws]; omega))
          clear hbel A_R N_R A_S N_S A_s4 N_s4 A_s5 N_s5 A_r4 N_r4 A_r5 N_r5 A_r2 N_r2
          go_wp2_with fail
          refine (Calls.mono H6.out) ?_
          rintro r u7 ⟨v6, rfl, hN, hb⟩
          obtain ⟨hbel, A_R, N_R, A_S, N_S, A_s4, N_s4, A_s5, N_s5, A_r4, N_r4, A_r5, N_r5, A_r2, N_r2⟩ := S6.out
          have N_q := hN.mono (lo' := w.heap.size) hsz6
          have S7 := (Aside.intro (And.intro (hbel.trans (hb.mono hbel.size)) (And.intro (A_R.below hb) (And.intro (N_R.below hb) (And.intro (A_S.below hb) (And.intro (N_S.below hb) (And.intro (A_s4.below hb) (And.intro (N_s4.below hb) (And.intro (A_s5.below hb) (And.intro (N_s5.below hb) (And.intro (A_r4.below hb) (And.intro (N_r4.below hb) (And.intro (A_r5.below hb) (And.intro (N_r5.below hb) (And.intro (A_r2.below hb) (And.intro (N_r2.below hb) N_q))))))))))))))))
          clear hN hb N_q hsz6 H6 S6 hbel A_R N_R A_S N_S A_s4 N_s4 A_s5 N_s5 A_r4 N_r4 A_r5 N_r5 A_r2 N_r2
          obtain ⟨hbel, A_R, N_R, A_S, N_S, A_s4, N_s4, A_s5, N_s5, A_r4, N_r4, A_r5, N_r5, A_r2, N_r2, N_q⟩ := S7.out
          have hsz7 := hbel.size
          have H7 := hid (rPlus_arg (V := 2 * R + 1) (A_r2.below (below_alloc u7 _)) (lit_arg u7 1 (by decide)) (by omega) (by omega) (by rw [val_ws]; simp [val] <;> omega))
          clear N_q hbel A_R N_R A_S N_S A_s4 N_s4 A_s5 N_s5 A_r4 N_r4 A_r5 N_r5 A_r2 N_r2
          go_wp2_with fail
          refine (Calls.mono H7.out) ?_
          rintro r u8 ⟨v7, rfl, hN, hb⟩
          obtain ⟨hbel, A_R, N_R, A_S, N_S, A_s4, N_s4, A_s5, N_s5, A_r4, N_r4, A_r5, N_r5, A_r2, N_r2, N_q⟩ := S7.out
          have hb2 : Below u7.heap.size u7 u8 := (below_alloc u7 _).trans (hb.mono (by simp))
          have N_p := hN.mono (lo' := w.heap.size) (by simp; omega)
          obtain ⟨hy1, hy2⟩ := root_yes R S 1 hge hless (by omega)
          have S8 : Aside (RootAt w N (gk - 1) (2 * R + 1) (4 * S + 1 - (4 * R + 1)) v7 v6 u8) := ⟨hbel.trans (hb2.mono hbel.size), N_p, N_q.below hb2, by rw [HD.out, hy1], hy2⟩
          clear hN hb hb2 N_p N_q hsz7 H7 S7 hy1 hy2 hbel A_R N_R A_S N_S A_s4 N_s4 A_s5 N_s5 A_r4 N_r4 A_r5 N_r5 A_r2 N_r2
          go_wp2
          go_roundg (gk - 1)
          case measure => omega
          case rel => exact ⟨2 * R + 1, 4 * S + 1 - (4 * R + 1), by omega, by first | go_num | (congr 1; omega), S8⟩
        · obtain ⟨hbel, A_R, N_R, A_S, N_S, A_s4, N_s4, A_s5, N_s5, A_r4, N_r4, A_r5, N_r5, A_r2, N_r2⟩ := S5.out
          have hz : cmpI (4 * S + 1) (4 * R + 1) = -1 := cmpI_lt (by omega)
          have HC := hid (rCmp_arg A_s5 A_r5 (-1) (by rw [val_ws, val_ws]; exact hz))
          clear hz hbel A_R N_R A_S N_S A_s4 N_s4 A_s5 N_s5 A_r4 N_r4 A_r5 N_r5 A_r2 N_r2
          go_wp2_with fail
          refine (Calls.mono HC.out) ?_
          rintro r u6 ⟨rfl, hb⟩
          obtain ⟨hbel, A_R, N_R, A_S, N_S, A_s4, N_s4, A_s5, N_s5, A_r4, N_r4, A_r5, N_r5, A_r2, N_r2⟩ := S5.out
          have S6 := (Aside.intro (And.intro (hbel.trans (hb.mono hbel.size)) (And.intro (A_R.below hb) (And.intro (N_R.below hb) (And.intro (A_S.below hb) (And.intro (N_S.below hb) (And.intro (A_s4.below hb) (And.intro (N_s4.below hb) (And.intro (A_s5.below hb) (And.intro (N_s5.below hb) (And.intro (A_r4.below hb) (And.intro (N_r4.below hb) (And.intro (A_r5.below hb) (And.intro (N_r5.below hb) (And.intro (A_r2.below hb) (N_r2.below hb))))))))))))))))
          clear hb HC S5 hbel A_R N_R A_S N_S A_s4 N_s4 A_s5 N_s5 A_r4 N_r4 A_r5 N_r5 A_r2 N_r2
          obtain ⟨hy1, hy2⟩ := root_no R S 1 (by omega)
          have S8 : Aside (RootAt w N (gk - 1) (2 * R) (4 * S + 1) (.slice a4 (ws (2 * R)).length c4) (.slice a1 (ws (4 * S + 1)).length c1) u6) := by
            obtain ⟨hbel, A_R, N_R, A_S, N_S, A_s4, N_s4, A_s5, N_s5, A_r4, N_r4, A_r5, N_r5, A_r2, N_r2⟩ := S6.out
            exact ⟨hbel, N_r2, N_s5, by rw [HD.out, hy1], hy2⟩
          clear S6 hy1 hy2
          go_wp2
          go_roundg (gk - 1)
          case measure => omega
          case rel => exact ⟨2 * R, 4 * S + 1, by omega, by first | go_num | (congr 1; omega), S8⟩
      · have HB1 := hid (show Calls Tryd.prog 31 #[.slice ao n cap, .int .i64 (i1 : Int)] wr fun r w' => r = .returned (.bool true) ∧ w' = wr from B1)
        have HB2 := hid (show Calls Tryd.prog 31 #[.slice ao n cap, .int .i64 (i2 : Int)] wr fun r w' => r = .returned (.bool false) ∧ w' = wr from B2)
        have hdg2 : N / 4 ^ (gk - 1) = 4 * (R * R + S) + 2 := by omega
        have HD := Aside.intro hdg2
        have hSN3 : 4 * S + 2 ≤ 4 * N + 3 := by omega
        have hl0R := HL.out R (by omega)
        have hl0S := HL.out S (by omega)
        clear B1 B2 hdg hdg2 hm1 hm2
        go_wp2_with fail
        refine (Calls.mono HB1.out) ?_
        rintro r wr ⟨rfl, rfl⟩
        go_wp2_with fail
        refine (Calls.mono HB2.out) ?_
        rintro r wr ⟨rfl, rfl⟩
        obtain ⟨hbel, A_R, N_R, A_S, N_S⟩ := S0.out
        have hsz0 := hbel.size
        have H0 := hid (rTimes_arg (A_S.below (below_alloc wr _)) (lit_arg wr 4 (by decide)) (by omega) (show val (ws S) * val [4] = 4 * S by rw [val_ws]; simp [val] <;> omega))
        clear hbel A_R N_R A_S N_S
        go_wp2_with fail
        refine (Calls.mono H0.out) ?_
        rintro r u1 ⟨v0, rfl, hN, hb⟩
        obtain ⟨hbel, A_R, N_R, A_S, N_S⟩ := S0.out
        have hb2 : Below wr.heap.size wr u1 := (below_alloc wr _).trans (hb.mono (by simp))
        obtain ⟨a0, c0, rfl, A_s4⟩ := hN.arg (by have := HL.out (4 * S) (by omega); omega)
        have N_s4 := hN.mono (lo' := w.heap.size) (by simp; omega)
        have hl0 := HL.out (4 * S) (by omega)
        have S1 := (Aside.intro (And.intro (hbel.trans (hb2.mono hbel.size)) (And.intro (A_R.below hb2) (And.intro (N_R.below hb2) (And.intro (A_S.below hb2) (And.intro (N_S.below hb2) (And.intro A_s4 N_s4)))))))
        clear hN hb hb2 hsz0 H0 S0 hbel A_R N_R A_S N_S A_s4 N_s4
        obtain ⟨hbel, A_R, N_R, A_S, N_S, A_s4, N_s4⟩ := S1.out
        have hsz1 := hbel.size
        have H1 := hid (rPlus_arg (A_s4.below (below_alloc u1 _)) (lit_arg u1 2 (by decide)) (by omega) (by omega) (show val (ws (4 * S)) + val [2] = 4 * S + 2 by rw [val_ws]; simp [val] <;> omega))
        clear hbel A_R N_R A_S N_S A_s4 N_s4
        go_wp2_with fail
        refine (Calls.mono H1.out) ?_
        rintro r u2 ⟨v1, rfl, hN, hb⟩
        obtain ⟨hbel, A_R, N_R, A_S, N_S, A_s4, N_s4⟩ := S1.out
        have hb2 : Below u1.heap.size u1 u2 := (below_alloc u1 _).trans (hb.mono (by simp))
        obtain ⟨a1, c1, rfl, A_s5⟩ := hN.arg (by have := HL.out (4 * S + 2) (by omega); omega)
        have N_s5 := hN.mono (lo' := w.heap.size) (by simp; omega)
        have hl1 := HL.out (4 * S + 2) (by omega)
        have S2 := (Aside.intro (And.intro (hbel.trans (hb2.mono hbel.size)) (And.intro (A_R.below hb2) (And.intro (N_R.below hb2) (And.intro (A_S.below hb2) (And.intro (N_S.below hb2) (And.intro (A_s4.below hb2) (And.intro (N_s4.below hb2) (And.intro A_s5 N_s5)))))))))
        clear hN hb hb2 hsz1 H1 S1 hbel A_R N_R A_S N_S A_s4 N_s4 A_s5 N_s5
        obtain ⟨hbel, A_R, N_R, A_S, N_S, A_s4, N_s4, A_s5, N_s5⟩ := S2.out
        have hsz2 := hbel.size
        have H2 := hid (rTimes_arg (A_R.below (below_alloc u2 _)) (lit_arg u2 4 (by decide)) (by omega) (show val (ws R) * val [4] = 4 * R by rw [val_ws]; simp [val] <;> omega))
        clear hbel A_R N_R A_S N_S A_s4 N_s4 A_s5 N_s5
        go_wp2_with fail
        refine (Calls.mono H2.out) ?_
        rintro r u3 ⟨v2, rfl, hN, hb⟩
        obtain ⟨hbel, A_R, N_R, A_S, N_S, A_s4, N_s4, A_s5, N_s5⟩ := S2.out
        have hb2 : Below u2.heap.size u2 u3 := (below_alloc u2 _).trans (hb.mono (by simp))
        obtain ⟨a2, c2, rfl, A_r4⟩ := hN.arg (by have := HL.out (4 * R) (by omega); omega)
        have N_r4 := hN.mono (lo' := w.heap.size) (by simp; omega)
        have hl2 := HL.out (4 * R) (by omega)
        have S3 := (Aside.intro (And.intro (hbel.trans (hb2.mono hbel.size)) (And.intro (A_R.below hb2) (And.intro (N_R.below hb2) (And.intro (A_S.below hb2) (And.intro (N_S.below hb2) (And.intro (A_s4.below hb2) (And.intro (N_s4.below hb2) (And.intro (A_s5.below hb2) (And.intro (N_s5.below hb2) (And.intro A_r4 N_r4)))))))))))
        clear hN hb hb2 hsz2 H2 S2 hbel A_R N_R A_S N_S A_s4 N_s4 A_s5 N_s5 A_r4 N_r4
        obtain ⟨hbel, A_R, N_R, A_S, N_S, A_s4, N_s4, A_s5, N_s5, A_r4, N_r4⟩ := S3.out
        have hsz3 := hbel.size
        have H3 := hid (rPlus_arg (A_r4.below (below_alloc u3 _)) (lit_arg u3 1 (by decide)) (by omega) (by omega) (show val (ws (4 * R)) + val [1] = 4 * R + 1 by rw [val_ws]; simp [val] <;> omega))
        clear hbel A_R N_R A_S N_S A_s4 N_s4 A_s5 N_s5 A_r4 N_r4
        go_wp2_with fail
        refine (Calls.mono H3.out) ?_
        rintro r u4 ⟨v3, rfl, hN, hb⟩
        obtain ⟨hbel, A_R, N_R, A_S, N_S, A_s4, N_s4, A_s5, N_s5, A_r4, N_r4⟩ := S3.out
        have hb2 : Below u3.heap.size u3 u4 := (below_alloc u3 _).trans (hb.mono (by simp))
        obtain ⟨a3, c3, rfl, A_r5⟩ := hN.arg (by have := HL.out (4 * R + 1) (by omega); omega)
        have N_r5 := hN.mono (lo' := w.heap.size) (by simp; omega)
        have hl3 := HL.out (4 * R + 1) (by omega)
        have S4 := (Aside.intro (And.intro (hbel.trans (hb2.mono hbel.size)) (And.intro (A_R.below hb2) (And.intro (N_R.below hb2) (And.intro (A_S.below hb2) (And.intro (N_S.below hb2) (And.intro (A_s4.below hb2) (And.intro (N_s4.below hb2) (And.intro (A_s5.below hb2) (And.intro (N_s5.below hb2) (And.intro (A_r4.below hb2) (And.intro (N_r4.below hb2) (And.intro A_r5 N_r5)))))))))))))
        clear hN hb hb2 hsz3 H3 S3 hbel A_R N_R A_S N_S A_s4 N_s4 A_s5 N_s5 A_r4 N_r4 A_r5 N_r5
        obtain ⟨hbel, A_R, N_R, A_S, N_S, A_s4, N_s4, A_s5, N_s5, A_r4, N_r4, A_r5, N_r5⟩ := S4.out
        have hsz4 := hbel.size
        have H4 := hid (rTimes_arg (A_R.below (below_alloc u4 _)) (lit_arg u4 2 (by decide)) (by omega) (show val (ws R) * val [2] = 2 * R by rw [val_ws]; simp [val] <;> omega))
        clear hbel A_R N_R A_S N_S A_s4 N_s4 A_s5 N_s5 A_r4 N_r4 A_r5 N_r5
        go_wp2_with fail
        refine (Calls.mono H4.out) ?_
        rintro r u5 ⟨v4, rfl, hN, hb⟩
        obtain ⟨hbel, A_R, N_R, A_S, N_S, A_s4, N_s4, A_s5, N_s5, A_r4, N_r4, A_r5, N_r5⟩ := S4.out
        have hb2 : Below u4.heap.size u4 u5 := (below_alloc u4 _).trans (hb.mono (by simp))
        obtain ⟨a4, c4, rfl, A_r2⟩ := hN.arg (by have := HL.out (2 * R) (by omega); omega)
        have N_r2 := hN.mono (lo' := w.heap.size) (by simp; omega)
        have hl4 := HL.out (2 * R) (by omega)
        have S5 := (Aside.intro (And.intro (hbel.trans (hb2.mono hbel.size)) (And.intro (A_R.below hb2) (And.intro (N_R.below hb2) (And.intro (A_S.below hb2) (And.intro (N_S.below hb2) (And.intro (A_s4.below hb2) (And.intro (N_s4.below hb2) (And.intro (A_s5.below hb2) (And.intro (N_s5.below hb2) (And.intro (A_r4.below hb2) (And.intro (N_r4.below hb2) (And.intro (A_r5.below hb2) (And.intro (N_r5.below hb2) (And.intro A_r2 N_r2)))))))))))))))
        clear hN hb hb2 hsz4 H4 S4 hbel A_R N_R A_S N_S A_s4 N_s4 A_s5 N_s5 A_r4 N_r4 A_r5 N_r5 A_r2 N_r2
        by_cases hge : 4 * R + 1 ≤ 4 * S + 2
        · obtain ⟨hbel, A_R, N_R, A_S, N_S, A_s4, N_s4, A_s5, N_s5, A_r4, N_r4, A_r5, N_r5, A_r2, N_r2⟩ := S5.out
          obtain ⟨z, hz⟩ : ∃ z, cmpI (4 * S + 2) (4 * R + 1) = z := ⟨_, rfl⟩
          have hz0 : 0 ≤ z := hz ▸ cmpI_ge hge
          have HC := hid (rCmp_arg A_s5 A_r5 z (by rw [val_ws, val_ws]; exact hz))
          clear hz hbel A_R N_R A_S N_S A_s4 N_s4 A_s5 N_s5 A_r4 N_r4 A_r5 N_r5 A_r2 N_r2
          go_wp2_with fail
          refine (Calls.mono HC.out) ?_
          rintro r u6 ⟨rfl, hb⟩
          obtain ⟨hbel, A_R, N_R, A_S, N_S, A_s4, N_s4, A_s5, N_s5, A_r4, N_r4, A_r5, N_r5, A_r2, N_r2⟩ := S5.out
          have S6 := (Aside.intro (And.intro (hbel.trans (hb.mono hbel.size)) (And.intro (A_R.below hb) (And.intro (N_R.below hb) (And.intro (A_S.below hb) (And.intro (N_S.below hb) (And.intro (A_s4.below hb) (And.intro (N_s4.below hb) (And.intro (A_s5.below hb) (And.intro (N_s5.below hb) (And.intro (A_r4.below hb) (And.intro (N_r4.below hb) (And.intro (A_r5.below hb) (And.intro (N_r5.below hb) (And.intro (A_r2.below hb) (N_r2.below hb))))))))))))))))
          clear hb HC S5 hbel A_R N_R A_S N_S A_s4 N_s4 A_s5 N_s5 A_r4 N_r4 A_r5 N_r5 A_r2 N_r2
          obtain ⟨hbel, A_R, N_R, A_S, N_S, A_s4, N_s4, A_s5, N_s5, A_r4, N_r4, A_r5, N_r5, A_r2, N_r2⟩ := S6.out
          have hsz6 := hbel.size
          have H6 := hid (rMinus_arg (V := 4 * S + 2 - (4 * R + 1)) A_s5 A_r5 (by omega) (by omega) (by rw [val_ws, val_ws]; omega))
          clear hbel A_R N_R A_S N_S A_s4 N_s4 A_s5 N_s5 A_r4 N_r4 A_r5 N_r5 A_r2 N_r2
          go_wp2_with fail
          refine (Calls.mono H6.out) ?_
          rintro r u7 ⟨v6, rfl, hN, hb⟩
          obtain ⟨hbel, A_R, N_R, A_S, N_S, A_s4, N_s4, A_s5, N_s5, A_r4, N_r4, A_r5, N_r5, A_r2, N_r2⟩ := S6.out
          have N_q := hN.mono (lo' := w.heap.size) hsz6
          have S7 := (Aside.intro (And.intro (hbel.trans (hb.mono hbel.size)) (And.intro (A_R.below hb) (And.intro (N_R.below hb) (And.intro (A_S.below hb) (And.intro (N_S.below hb) (And.intro (A_s4.below hb) (And.intro (N_s4.below hb) (And.intro (A_s5.below hb) (And.intro (N_s5.below hb) (And.intro (A_r4.below hb) (And.intro (N_r4.below hb) (And.intro (A_r5.below hb) (And.intro (N_r5.below hb) (And.intro (A_r2.below hb) (And.intro (N_r2.below hb) N_q))))))))))))))))
          clear hN hb N_q hsz6 H6 S6 hbel A_R N_R A_S N_S A_s4 N_s4 A_s5 N_s5 A_r4 N_r4 A_r5 N_r5 A_r2 N_r2
          obtain ⟨hbel, A_R, N_R, A_S, N_S, A_s4, N_s4, A_s5, N_s5, A_r4, N_r4, A_r5, N_r5, A_r2, N_r2, N_q⟩ := S7.out
          have hsz7 := hbel.size
          have H7 := hid (rPlus_arg (V := 2 * R + 1) (A_r2.below (below_alloc u7 _)) (lit_arg u7 1 (by decide)) (by omega) (by omega) (by rw [val_ws]; simp [val] <;> omega))
          clear N_q hbel A_R N_R A_S N_S A_s4 N_s4 A_s5 N_s5 A_r4 N_r4 A_r5 N_r5 A_r2 N_r2
          go_wp2_with fail
          refine (Calls.mono H7.out) ?_
          rintro r u8 ⟨v7, rfl, hN, hb⟩
          obtain ⟨hbel, A_R, N_R, A_S, N_S, A_s4, N_s4, A_s5, N_s5, A_r4, N_r4, A_r5, N_r5, A_r2, N_r2, N_q⟩ := S7.out
          have hb2 : Below u7.heap.size u7 u8 := (below_alloc u7 _).trans (hb.mono (by simp))
          have N_p := hN.mono (lo' := w.heap.size) (by simp; omega)
          obtain ⟨hy1, hy2⟩ := root_yes R S 2 hge hless (by omega)
          have S8 : Aside (RootAt w N (gk - 1) (2 * R + 1) (4 * S + 2 - (4 * R + 1)) v7 v6 u8) := ⟨hbel.trans (hb2.mono hbel.size), N_p, N_q.below hb2, by rw [HD.out, hy1], hy2⟩
          clear hN hb hb2 N_p N_q hsz7 H7 S7 hy1 hy2 hbel A_R N_R A_S N_S A_s4 N_s4 A_s5 N_s5 A_r4 N_r4 A_r5 N_r5 A_r2 N_r2
          go_wp2
          go_roundg (gk - 1)
          case measure => omega
          case rel => exact ⟨2 * R + 1, 4 * S + 2 - (4 * R + 1), by omega, by first | go_num | (congr 1; omega), S8⟩
        · obtain ⟨hbel, A_R, N_R, A_S, N_S, A_s4, N_s4, A_s5, N_s5, A_r4, N_r4, A_r5, N_r5, A_r2, N_r2⟩ := S5.out
          have hz : cmpI (4 * S + 2) (4 * R + 1) = -1 := cmpI_lt (by omega)
          have HC := hid (rCmp_arg A_s5 A_r5 (-1) (by rw [val_ws, val_ws]; exact hz))
          clear hz hbel A_R N_R A_S N_S A_s4 N_s4 A_s5 N_s5 A_r4 N_r4 A_r5 N_r5 A_r2 N_r2
          go_wp2_with fail
          refine (Calls.mono HC.out) ?_
          rintro r u6 ⟨rfl, hb⟩
          obtain ⟨hbel, A_R, N_R, A_S, N_S, A_s4, N_s4, A_s5, N_s5, A_r4, N_r4, A_r5, N_r5, A_r2, N_r2⟩ := S5.out
          have S6 := (Aside.intro (And.intro (hbel.trans (hb.mono hbel.size)) (And.intro (A_R.below hb) (And.intro (N_R.below hb) (And.intro (A_S.below hb) (And.intro (N_S.below hb) (And.intro (A_s4.below hb) (And.intro (N_s4.below hb) (And.intro (A_s5.below hb) (And.intro (N_s5.below hb) (And.intro (A_r4.below hb) (And.intro (N_r4.below hb) (And.intro (A_r5.below hb) (And.intro (N_r5.below hb) (And.intro (A_r2.below hb) (N_r2.below hb))))))))))))))))
          clear hb HC S5 hbel A_R N_R A_S N_S A_s4 N_s4 A_s5 N_s5 A_r4 N_r4 A_r5 N_r5 A_r2 N_r2
          obtain ⟨hy1, hy2⟩ := root_no R S 2 (by omega)
          have S8 : Aside (RootAt w N (gk - 1) (2 * R) (4 * S + 2) (.slice a4 (ws (2 * R)).length c4) (.slice a1 (ws (4 * S + 2)).length c1) u6) := by
            obtain ⟨hbel, A_R, N_R, A_S, N_S, A_s4, N_s4, A_s5, N_s5, A_r4, N_r4, A_r5, N_r5, A_r2, N_r2⟩ := S6.out
            exact ⟨hbel, N_r2, N_s5, by rw [HD.out, hy1], hy2⟩
          clear S6 hy1 hy2
          go_wp2
          go_roundg (gk - 1)
          case measure => omega
          case rel => exact ⟨2 * R, 4 * S + 2, by omega, by first | go_num | (congr 1; omega), S8⟩
      · have HB1 := hid (show Calls Tryd.prog 31 #[.slice ao n cap, .int .i64 (i1 : Int)] wr fun r w' => r = .returned (.bool true) ∧ w' = wr from B1)
        have HB2 := hid (show Calls Tryd.prog 31 #[.slice ao n cap, .int .i64 (i2 : Int)] wr fun r w' => r = .returned (.bool true) ∧ w' = wr from B2)
        have hdg2 : N / 4 ^ (gk - 1) = 4 * (R * R + S) + 3 := by omega
        have HD := Aside.intro hdg2
        have hSN3 : 4 * S + 3 ≤ 4 * N + 3 := by omega
        have hl0R := HL.out R (by omega)
        have hl0S := HL.out S (by omega)
        clear B1 B2 hdg hdg2 hm1 hm2
        go_wp2_with fail
        refine (Calls.mono HB1.out) ?_
        rintro r wr ⟨rfl, rfl⟩
        go_wp2_with fail
        refine (Calls.mono HB2.out) ?_
        rintro r wr ⟨rfl, rfl⟩
        obtain ⟨hbel, A_R, N_R, A_S, N_S⟩ := S0.out
        have hsz0 := hbel.size
        have H0 := hid (rTimes_arg (A_S.below (below_alloc wr _)) (lit_arg wr 4 (by decide)) (by omega) (show val (ws S) * val [4] = 4 * S by rw [val_ws]; simp [val] <;> omega))
        clear hbel A_R N_R A_S N_S
        go_wp2_with fail
        refine (Calls.mono H0.out) ?_
        rintro r u1 ⟨v0, rfl, hN, hb⟩
        obtain ⟨hbel, A_R, N_R, A_S, N_S⟩ := S0.out
        have hb2 : Below wr.heap.size wr u1 := (below_alloc wr _).trans (hb.mono (by simp))
        obtain ⟨a0, c0, rfl, A_s4⟩ := hN.arg (by have := HL.out (4 * S) (by omega); omega)
        have N_s4 := hN.mono (lo' := w.heap.size) (by simp; omega)
        have hl0 := HL.out (4 * S) (by omega)
        have S1 := (Aside.intro (And.intro (hbel.trans (hb2.mono hbel.size)) (And.intro (A_R.below hb2) (And.intro (N_R.below hb2) (And.intro (A_S.below hb2) (And.intro (N_S.below hb2) (And.intro A_s4 N_s4)))))))
        clear hN hb hb2 hsz0 H0 S0 hbel A_R N_R A_S N_S A_s4 N_s4
        obtain ⟨hbel, A_R, N_R, A_S, N_S, A_s4, N_s4⟩ := S1.out
        have hsz1 := hbel.size
        have H1 := hid (rPlus_arg (A_s4.below (below_alloc u1 _)) (lit_arg u1 3 (by decide)) (by omega) (by omega) (show val (ws (4 * S)) + val [3] = 4 * S + 3 by rw [val_ws]; simp [val] <;> omega))
        clear hbel A_R N_R A_S N_S A_s4 N_s4
        go_wp2_with fail
        refine (Calls.mono H1.out) ?_
        rintro r u2 ⟨v1, rfl, hN, hb⟩
        obtain ⟨hbel, A_R, N_R, A_S, N_S, A_s4, N_s4⟩ := S1.out
        have hb2 : Below u1.heap.size u1 u2 := (below_alloc u1 _).trans (hb.mono (by simp))
        obtain ⟨a1, c1, rfl, A_s5⟩ := hN.arg (by have := HL.out (4 * S + 3) (by omega); omega)
        have N_s5 := hN.mono (lo' := w.heap.size) (by simp; omega)
        have hl1 := HL.out (4 * S + 3) (by omega)
        have S2 := (Aside.intro (And.intro (hbel.trans (hb2.mono hbel.size)) (And.intro (A_R.below hb2) (And.intro (N_R.below hb2) (And.intro (A_S.below hb2) (And.intro (N_S.below hb2) (And.intro (A_s4.below hb2) (And.intro (N_s4.below hb2) (And.intro A_s5 N_s5)))))))))
        clear hN hb hb2 hsz1 H1 S1 hbel A_R N_R A_S N_S A_s4 N_s4 A_s5 N_s5
        obtain ⟨hbel, A_R, N_R, A_S, N_S, A_s4, N_s4, A_s5, N_s5⟩ := S2.out
        have hsz2 := hbel.size
        have H2 := hid (rTimes_arg (A_R.below (below_alloc u2 _)) (lit_arg u2 4 (by decide)) (by omega) (show val (ws R) * val [4] = 4 * R by rw [val_ws]; simp [val] <;> omega))
        clear hbel A_R N_R A_S N_S A_s4 N_s4 A_s5 N_s5
        go_wp2_with fail
        refine (Calls.mono H2.out) ?_
        rintro r u3 ⟨v2, rfl, hN, hb⟩
        obtain ⟨hbel, A_R, N_R, A_S, N_S, A_s4, N_s4, A_s5, N_s5⟩ := S2.out
        have hb2 : Below u2.heap.size u2 u3 := (below_alloc u2 _).trans (hb.mono (by simp))
        obtain ⟨a2, c2, rfl, A_r4⟩ := hN.arg (by have := HL.out (4 * R) (by omega); omega)
        have N_r4 := hN.mono (lo' := w.heap.size) (by simp; omega)
        have hl2 := HL.out (4 * R) (by omega)
        have S3 := (Aside.intro (And.intro (hbel.trans (hb2.mono hbel.size)) (And.intro (A_R.below hb2) (And.intro (N_R.below hb2) (And.intro (A_S.below hb2) (And.intro (N_S.below hb2) (And.intro (A_s4.below hb2) (And.intro (N_s4.below hb2) (And.intro (A_s5.below hb2) (And.intro (N_s5.below hb2) (And.intro A_r4 N_r4)))))))))))
        clear hN hb hb2 hsz2 H2 S2 hbel A_R N_R A_S N_S A_s4 N_s4 A_s5 N_s5 A_r4 N_r4
        obtain ⟨hbel, A_R, N_R, A_S, N_S, A_s4, N_s4, A_s5, N_s5, A_r4, N_r4⟩ := S3.out
        have hsz3 := hbel.size
        have H3 := hid (rPlus_arg (A_r4.below (below_alloc u3 _)) (lit_arg u3 1 (by decide)) (by omega) (by omega) (show val (ws (4 * R)) + val [1] = 4 * R + 1 by rw [val_ws]; simp [val] <;> omega))
        clear hbel A_R N_R A_S N_S A_s4 N_s4 A_s5 N_s5 A_r4 N_r4
        go_wp2_with fail
        refine (Calls.mono H3.out) ?_
        rintro r u4 ⟨v3, rfl, hN, hb⟩
        obtain ⟨hbel, A_R, N_R, A_S, N_S, A_s4, N_s4, A_s5, N_s5, A_r4, N_r4⟩ := S3.out
        have hb2 : Below u3.heap.size u3 u4 := (below_alloc u3 _).trans (hb.mono (by simp))
        obtain ⟨a3, c3, rfl, A_r5⟩ := hN.arg (by have := HL.out (4 * R + 1) (by omega); omega)
        have N_r5 := hN.mono (lo' := w.heap.size) (by simp; omega)
        have hl3 := HL.out (4 * R + 1) (by omega)
        have S4 := (Aside.intro (And.intro (hbel.trans (hb2.mono hbel.size)) (And.intro (A_R.below hb2) (And.intro (N_R.below hb2) (And.intro (A_S.below hb2) (And.intro (N_S.below hb2) (And.intro (A_s4.below hb2) (And.intro (N_s4.below hb2) (And.intro (A_s5.below hb2) (And.intro (N_s5.below hb2) (And.intro (A_r4.below hb2) (And.intro (N_r4.below hb2) (And.intro A_r5 N_r5)))))))))))))
        clear hN hb hb2 hsz3 H3 S3 hbel A_R N_R A_S N_S A_s4 N_s4 A_s5 N_s5 A_r4 N_r4 A_r5 N_r5
        obtain ⟨hbel, A_R, N_R, A_S, N_S, A_s4, N_s4, A_s5, N_s5, A_r4, N_r4, A_r5, N_r5⟩ := S4.out
        have hsz4 := hbel.size
        have H4 := hid (rTimes_arg (A_R.below (below_alloc u4 _)) (lit_arg u4 2 (by decide)) (by omega) (show val (ws R) * val [2] = 2 * R by rw [val_ws]; simp [val] <;> omega))
        clear hbel A_R N_R A_S N_S A_s4 N_s4 A_s5 N_s5 A_r4 N_r4 A_r5 N_r5
        go_wp2_with fail
        refine (Calls.mono H4.out) ?_
        rintro r u5 ⟨v4, rfl, hN, hb⟩
        obtain ⟨hbel, A_R, N_R, A_S, N_S, A_s4, N_s4, A_s5, N_s5, A_r4, N_r4, A_r5, N_r5⟩ := S4.out
        have hb2 : Below u4.heap.size u4 u5 := (below_alloc u4 _).trans (hb.mono (by simp))
        obtain ⟨a4, c4, rfl, A_r2⟩ := hN.arg (by have := HL.out (2 * R) (by omega); omega)
        have N_r2 := hN.mono (lo' := w.heap.size) (by simp; omega)
        have hl4 := HL.out (2 * R) (by omega)
        have S5 := (Aside.intro (And.intro (hbel.trans (hb2.mono hbel.size)) (And.intro (A_R.below hb2) (And.intro (N_R.below hb2) (And.intro (A_S.below hb2) (And.intro (N_S.below hb2) (And.intro (A_s4.below hb2) (And.intro (N_s4.below hb2) (And.intro (A_s5.below hb2) (And.intro (N_s5.below hb2) (And.intro (A_r4.below hb2) (And.intro (N_r4.below hb2) (And.intro (A_r5.below hb2) (And.intro (N_r5.below hb2) (And.intro A_r2 N_r2)))))))))))))))
        clear hN hb hb2 hsz4 H4 S4 hbel A_R N_R A_S N_S A_s4 N_s4 A_s5 N_s5 A_r4 N_r4 A_r5 N_r5 A_r2 N_r2
        by_cases hge : 4 * R + 1 ≤ 4 * S + 3
        · obtain ⟨hbel, A_R, N_R, A_S, N_S, A_s4, N_s4, A_s5, N_s5, A_r4, N_r4, A_r5, N_r5, A_r2, N_r2⟩ := S5.out
          obtain ⟨z, hz⟩ : ∃ z, cmpI (4 * S + 3) (4 * R + 1) = z := ⟨_, rfl⟩
          have hz0 : 0 ≤ z := hz ▸ cmpI_ge hge
          have HC := hid (rCmp_arg A_s5 A_r5 z (by rw [val_ws, val_ws]; exact hz))
          clear hz hbel A_R N_R A_S N_S A_s4 N_s4 A_s5 N_s5 A_r4 N_r4 A_r5 N_r5 A_r2 N_r2
          go_wp2_with fail
          refine (Calls.mono HC.out) ?_
          rintro r u6 ⟨rfl, hb⟩
          obtain ⟨hbel, A_R, N_R, A_S, N_S, A_s4, N_s4, A_s5, N_s5, A_r4, N_r4, A_r5, N_r5, A_r2, N_r2⟩ := S5.out
          have S6 := (Aside.intro (And.intro (hbel.trans (hb.mono hbel.size)) (And.intro (A_R.below hb) (And.intro (N_R.below hb) (And.intro (A_S.below hb) (And.intro (N_S.below hb) (And.intro (A_s4.below hb) (And.intro (N_s4.below hb) (And.intro (A_s5.below hb) (And.intro (N_s5.below hb) (And.intro (A_r4.below hb) (And.intro (N_r4.below hb) (And.intro (A_r5.below hb) (And.intro (N_r5.below hb) (And.intro (A_r2.below hb) (N_r2.below hb))))))))))))))))
          clear hb HC S5 hbel A_R N_R A_S N_S A_s4 N_s4 A_s5 N_s5 A_r4 N_r4 A_r5 N_r5 A_r2 N_r2
          obtain ⟨hbel, A_R, N_R, A_S, N_S, A_s4, N_s4, A_s5, N_s5, A_r4, N_r4, A_r5, N_r5, A_r2, N_r2⟩ := S6.out
          have hsz6 := hbel.size
          have H6 := hid (rMinus_arg (V := 4 * S + 3 - (4 * R + 1)) A_s5 A_r5 (by omega) (by omega) (by rw [val_ws, val_ws]; omega))
          clear hbel A_R N_R A_S N_S A_s4 N_s4 A_s5 N_s5 A_r4 N_r4 A_r5 N_r5 A_r2 N_r2
          go_wp2_with fail
          refine (Calls.mono H6.out) ?_
          rintro r u7 ⟨v6, rfl, hN, hb⟩
          obtain ⟨hbel, A_R, N_R, A_S, N_S, A_s4, N_s4, A_s5, N_s5, A_r4, N_r4, A_r5, N_r5, A_r2, N_r2⟩ := S6.out
          have N_q := hN.mono (lo' := w.heap.size) hsz6
          have S7 := (Aside.intro (And.intro (hbel.trans (hb.mono hbel.size)) (And.intro (A_R.below hb) (And.intro (N_R.below hb) (And.intro (A_S.below hb) (And.intro (N_S.below hb) (And.intro (A_s4.below hb) (And.intro (N_s4.below hb) (And.intro (A_s5.below hb) (And.intro (N_s5.below hb) (And.intro (A_r4.below hb) (And.intro (N_r4.below hb) (And.intro (A_r5.below hb) (And.intro (N_r5.below hb) (And.intro (A_r2.below hb) (And.intro (N_r2.below hb) N_q))))))))))))))))
          clear hN hb N_q hsz6 H6 S6 hbel A_R N_R A_S N_S A_s4 N_s4 A_s5 N_s5 A_r4 N_r4 A_r5 N_r5 A_r2 N_r2
          obtain ⟨hbel, A_R, N_R, A_S, N_S, A_s4, N_s4, A_s5, N_s5, A_r4, N_r4, A_r5, N_r5, A_r2, N_r2, N_q⟩ := S7.out
          have hsz7 := hbel.size
          have H7 := hid (rPlus_arg (V := 2 * R + 1) (A_r2.below (below_alloc u7 _)) (lit_arg u7 1 (by decide)) (by omega) (by omega) (by rw [val_ws]; simp [val] <;> omega))
          clear N_q hbel A_R N_R A_S N_S A_s4 N_s4 A_s5 N_s5 A_r4 N_r4 A_r5 N_r5 A_r2 N_r2
          go_wp2_with fail
          refine (Calls.mono H7.out) ?_
          rintro r u8 ⟨v7, rfl, hN, hb⟩
          obtain ⟨hbel, A_R, N_R, A_S, N_S, A_s4, N_s4, A_s5, N_s5, A_r4, N_r4, A_r5, N_r5, A_r2, N_r2, N_q⟩ := S7.out
          have hb2 : Below u7.heap.size u7 u8 := (below_alloc u7 _).trans (hb.mono (by simp))
          have N_p := hN.mono (lo' := w.heap.size) (by simp; omega)
          obtain ⟨hy1, hy2⟩ := root_yes R S 3 hge hless (by omega)
          have S8 : Aside (RootAt w N (gk - 1) (2 * R + 1) (4 * S + 3 - (4 * R + 1)) v7 v6 u8) := ⟨hbel.trans (hb2.mono hbel.size), N_p, N_q.below hb2, by rw [HD.out, hy1], hy2⟩
          clear hN hb hb2 N_p N_q hsz7 H7 S7 hy1 hy2 hbel A_R N_R A_S N_S A_s4 N_s4 A_s5 N_s5 A_r4 N_r4 A_r5 N_r5 A_r2 N_r2
          go_wp2
          go_roundg (gk - 1)
          case measure => omega
          case rel => exact ⟨2 * R + 1, 4 * S + 3 - (4 * R + 1), by omega, by first | go_num | (congr 1; omega), S8⟩
        · obtain ⟨hbel, A_R, N_R, A_S, N_S, A_s4, N_s4, A_s5, N_s5, A_r4, N_r4, A_r5, N_r5, A_r2, N_r2⟩ := S5.out
          have hz : cmpI (4 * S + 3) (4 * R + 1) = -1 := cmpI_lt (by omega)
          have HC := hid (rCmp_arg A_s5 A_r5 (-1) (by rw [val_ws, val_ws]; exact hz))
          clear hz hbel A_R N_R A_S N_S A_s4 N_s4 A_s5 N_s5 A_r4 N_r4 A_r5 N_r5 A_r2 N_r2
          go_wp2_with fail
          refine (Calls.mono HC.out) ?_
          rintro r u6 ⟨rfl, hb⟩
          obtain ⟨hbel, A_R, N_R, A_S, N_S, A_s4, N_s4, A_s5, N_s5, A_r4, N_r4, A_r5, N_r5, A_r2, N_r2⟩ := S5.out
          have S6 := (Aside.intro (And.intro (hbel.trans (hb.mono hbel.size)) (And.intro (A_R.below hb) (And.intro (N_R.below hb) (And.intro (A_S.below hb) (And.intro (N_S.below hb) (And.intro (A_s4.below hb) (And.intro (N_s4.below hb) (And.intro (A_s5.below hb) (And.intro (N_s5.below hb) (And.intro (A_r4.below hb) (And.intro (N_r4.below hb) (And.intro (A_r5.below hb) (And.intro (N_r5.below hb) (And.intro (A_r2.below hb) (N_r2.below hb))))))))))))))))
          clear hb HC S5 hbel A_R N_R A_S N_S A_s4 N_s4 A_s5 N_s5 A_r4 N_r4 A_r5 N_r5 A_r2 N_r2
          obtain ⟨hy1, hy2⟩ := root_no R S 3 (by omega)
          have S8 : Aside (RootAt w N (gk - 1) (2 * R) (4 * S + 3) (.slice a4 (ws (2 * R)).length c4) (.slice a1 (ws (4 * S + 3)).length c1) u6) := by
            obtain ⟨hbel, A_R, N_R, A_S, N_S, A_s4, N_s4, A_s5, N_s5, A_r4, N_r4, A_r5, N_r5, A_r2, N_r2⟩ := S6.out
            exact ⟨hbel, N_r2, N_s5, by rw [HD.out, hy1], hy2⟩
          clear S6 hy1 hy2
          go_wp2
          go_roundg (gk - 1)
          case measure => omega
          case rel => exact ⟨2 * R, 4 * S + 3, by omega, by first | go_num | (congr 1; omega), S8⟩
end Go.Proofs.YtikfabbfbfdpcaaDoor

/- Books of what came out: what the statements with a book share. -/
namespace Go.Proofs.YtikfabbfbfdpcaaDoor
open Go.RowKit
set_option linter.unusedVariables false

theorem Nt.but {lo g : Nat} {w w' : World} {v : Value} {X : Nat} (h : Nt lo w v X) (hb : But g w w') (hg : g < lo) : Nt lo w' v X := by
  have h1 : Rw lo w v (ws X).length ((ws X).map U) := h
  exact row_other h1 fun b hb2 => by
    obtain ⟨h2, h3⟩ := h.lt b hb2
    exact hb.block b h3 (by omega)

theorem Nice.nil (lo : Nat) (w : World) : Nice lo w [] := ⟨fun i hi => absurd hi (by simp), fun i hi => absurd hi (by simp), fun i j hi => absurd hi (by simp)⟩

theorem Nice.snoc {lo : Nat} {w : World} {vs : List Value} {v : Value} {X : Nat} (h : Nice lo w vs) (hN : Nt lo w v X) (hs : (ws X).length ≤ 35184372088000) (ha : ∀ u ∈ vs, ∀ b, u.ownBlock = some b → v.ownBlock ≠ some b) : Nice lo w (vs ++ [v]) := by
  have h1 : Rw lo w v (ws X).length ((ws X).map U) := hN
  have hl := h1.len
  refine ⟨fun i hi => ?_, fun i hi => ?_, fun i j hi hj hij b hb => ?_⟩
  · by_cases e : i = vs.length
    · subst e; rw [nth_append_eq, hl]; exact ⟨_, h1⟩
    · simp at hi
      rw [nth_append_lt _ _ _ (by omega)]; exact h.rows i (by omega)
  · by_cases e : i = vs.length
    · subst e; rw [nth_append_eq, hl]; exact hs
    · simp at hi
      rw [nth_append_lt _ _ _ (by omega)]; exact h.small i (by omega)
  · simp at hi hj
    have mem : ∀ k, k < vs.length → nth vs k ∈ vs := by
      intro k hk
      simp [nth, hk]
    by_cases e : i = vs.length
    · subst e
      rw [nth_append_eq] at hb
      rw [nth_append_lt _ _ _ (by omega)]
      intro e2
      exact ha _ (mem j (by omega)) b e2 hb
    · rw [nth_append_lt _ _ _ (by omega)] at hb
      by_cases e2 : j = vs.length
      · subst e2
        rw [nth_append_eq]
        exact ha _ (mem i (by omega)) b hb
      · rw [nth_append_lt _ _ _ (by omega)]
        exact h.apart i j (by omega) (by omega) hij b hb

theorem Nice.keep {lo : Nat} {w w' : World} {vs : List Value} (h : Nice lo w vs) (k : Keep w w') : Nice lo w' vs :=
  ⟨fun i hi => by obtain ⟨ys, hy⟩ := h.rows i hi; exact ⟨ys, Keep.row hy k⟩, h.small, h.apart⟩

theorem lent_rd {w : World} {g n : Nat} {xs : List Nat} (hn : n = xs.length) (h : Own w g (xs ++ [71, 72])) : Rd (g + 1) w (some ⟨g, 0, none⟩) xs := by
  have h1 := Rd.ofOwn h 0 n
  rw [List.drop_zero, List.take_append_of_le_length (by omega), List.take_of_length_le (by omega)] at h1
  exact h1

theorem lent_arg {w : World} {g n : Nat} {xs : List Nat} (hn : n = xs.length) (hb : n ≤ 35184372088832) (hx : Wf xs) (h : Own w g (xs ++ [71, 72])) : Arg w (some ⟨g, 0, none⟩) n (n + 2) xs :=
  ⟨hn, by omega, hb, hx, (lent_rd hn h).mono h.lt, fun e => by cases e⟩

theorem root_words {N q n : Nat} (h : N < pw n) (hq : IsRoot N q) : (ws q).length ≤ n ∧ (ws (N - q * q)).length ≤ n := by
  have h1 := hq.1
  have h2 := le_sq q
  exact ⟨(ws_len_le q n).2 (by omega), (ws_len_le _ n).2 (by omega)⟩
end Go.Proofs.YtikfabbfbfdpcaaDoor

