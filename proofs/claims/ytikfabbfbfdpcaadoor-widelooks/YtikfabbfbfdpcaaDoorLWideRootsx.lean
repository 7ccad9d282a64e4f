import Derived.Test.YtikfabbfbfdpcaaDoorW46x
import Derived.Test.YtikfabbfbfdpcaaDoorW49x
/- WideRoots: the walk. -/
namespace Go.Proofs.YtikfabbfbfdpcaaDoor
open Go.RowKit
set_option linter.unusedVariables false

/-- A book and the Nats in it. -/
structure Held (lo : Nat) (w0 w : World) (h : Nat) (vs all : List Value) : Prop where
  below : Below lo w0 w
  book : Bk lo w h vs
  nice : Nice lo w all
  size : lo ≤ w.heap.size

theorem Held.take {lo : Nat} {w0 w : World} {h : Nat} {vs all : List Value} (H : Held lo w0 w h vs all) (hl : vs.length ≤ 1000) (ao : Option Addr) (n cap : Nat) :
    Calls Tryd.prog 15 #[.pointer (some ⟨h, 0, none⟩), .slice ao n cap] w fun r w' => r = .returned (.tuple #[]) ∧ Held lo w0 w' h (vs ++ [.slice ao n cap]) all :=
  (take_any lo h vs ao n cap w H.book hl H.size).mono fun r w' ⟨h1, h2, h3, h4, h5⟩ => ⟨h1, H.below.trans h4, h2, H.nice.keep h3, by have := H.size; omega⟩

theorem Held.owned {lo : Nat} {w0 w : World} {h : Nat} {vs : List Value} (H : Held lo w0 w h vs vs) (hm : 0 < vs.length) (hm2 : vs.length ≤ 100) :
    Calls Tryd.prog 16 #[.pointer (some ⟨h, 0, none⟩)] w fun r w' => r = .returned (.bool true) ∧ Below lo w0 w' :=
  (owned_any lo h vs w H.book H.nice hm hm2 H.size).mono fun r w' ⟨h1, h2⟩ => ⟨h1, H.below.trans h2⟩

theorem Held.made {lo : Nat} {w0 w : World} {all : List Value} (hb : Below lo w0 w) (hn : Nice lo w all) (hs : lo ≤ w.heap.size) : Held lo w0 (w.alloc (.cells #[.slice none 0 0] 28)) w.heap.size [] all :=
  ⟨hb.alloc hs _, Bk.made lo w hs, hn.keep (Keep.below (below_alloc w _)), by simp; omega⟩

set_option maxHeartbeats 8000000 in
set_option maxRecDepth 100000 in
theorem walk_WideRoots (aX : Option Addr) (nX cX : Nat) (xa : List Nat) (w : World) (hT : Tab w) (w0 : Came w aX nX cX xa) (bX : nX ≤ 35184372087808) :
    Calls Tryd.prog 6 #[.slice aX nX cX] w fun r w' => r = .returned (.bool true) ∧ Below w.heap.size w w' := by
  have AW := hid (awake_any w hT)
  have AX := w0.arg (by omega)
  have hv := val_lt xa AX.wf
  rw [← AX.len] at hv
  have hlo := Nat.le_refl w.heap.size
  have HW := (Aside.intro (And.intro AX hv))
  clear hT w0 AX hv
  go_enter Tryd.func6, Tryd.ntmps6
  go_wp2_with fail
  refine (Calls.mono AW.out) ?_
  rintro r u1 ⟨rfl, hb1⟩
  have hs1 := hb1.size
  obtain ⟨AX, hv⟩ := HW.out
  have L1 := hid (lent_any xa aX nX cX w.heap.size u1 AX.len AX.cap bX (AX.rd.below hb1) hs1)
  have S1 := Aside.intro hb1
  clear AW AX hv hb1
  go_wp2_with fail
  refine (Calls.mono L1.out) ?_
  rintro r u2 ⟨rfl, hO, hb2⟩
  obtain ⟨g, hg⟩ : ∃ g, g = u1.heap.size := ⟨_, rfl⟩
  rw [← hg] at hO hb2
  rw [← hg]
  have hgw : w.heap.size ≤ g := by omega
  obtain ⟨AX, hv⟩ := HW.out
  have hs2 := hO.lt
  have R1 := hid (root_any xa (some ⟨g, 0, none⟩) nX (nX + 2) (g + 1) u2 AX.len (by omega) (by omega) AX.wf (lent_rd AX.len hO) hs2)
  have S2 := (Aside.intro (And.intro (S1.out.trans (hb2.mono hgw)) hO))
  clear L1 S1 AX hv hO hb2 hg hs1
  go_wp2_with fail
  refine (Calls.mono R1.out) ?_
  rintro r u3 ⟨q, hq, ⟨v1, v2, rfl, hN1, hN2, hap12⟩, hb3⟩
  obtain ⟨AX, hv⟩ := HW.out
  obtain ⟨hwq, hwl⟩ := root_words hv hq
  obtain ⟨l, hl⟩ : ∃ l, val xa - q * q = l := ⟨_, rfl⟩
  rw [hl] at hN2 hwl
  have hs3 := hb3.size
  have hO3 := S2.out.2.below hb3 hs2
  obtain ⟨a1, c1, rfl, A1⟩ := hN1.arg (by omega)
  obtain ⟨a2, c2, rfl, A2⟩ := hN2.arg (by omega)
  have R2 := hid (root_any xa (some ⟨g, 0, none⟩) nX (nX + 2) (g + 1) u3 AX.len (by omega) (by omega) AX.wf (lent_rd AX.len hO3) hO3.lt)
  have S3 := (Aside.intro (And.intro (S2.out.1.trans (hb3.mono (Nat.le_trans hgw (Nat.le_of_lt hs2)))) (And.intro hO3 (And.intro hq (And.intro hl (And.intro hN1 (And.intro hN2 (And.intro hap12 hs2))))))))
  clear R1 S2 AX hv hO3 hq hl hN1 hN2 hap12 hb3 A1 A2
  go_wp2_with fail
  refine (Calls.mono R2.out) ?_
  rintro r u4 ⟨q', hq', ⟨v3, v4, rfl, hN3, hN4, hap34⟩, hb4⟩
  obtain ⟨hbel, hO, hq, hl, hN1, hN2, hap12, _⟩ := S3.out
  obtain rfl := hq'.unique hq
  rw [hl] at hN4
  have hs4 := hb4.size
  have hO4 := hO.below hb4 hO.lt
  obtain ⟨a3, c3, rfl, A3⟩ := hN3.arg (by omega)
  obtain ⟨a4, c4, rfl, A4⟩ := hN4.arg (by omega)
  obtain ⟨AX, hv⟩ := HW.out
  have hbel4 : Below w.heap.size w u4 := hbel.trans (hb4.mono (by omega))
  have hlt1 := hN1.lt
  have hlt2 := hN2.lt
  have hlt3 := hN3.lt
  have hlt4 := hN4.lt
  have P1 := hid (asLent_any xa aX nX cX w.heap.size g u4 AX.len AX.cap bX AX.wf (AX.rd.below hbel4) hgw hO4)
  have S4 := (Aside.intro (And.intro hbel4 (And.intro hq' (And.intro hl (And.intro (hN1.below hb4) (And.intro (hN2.below hb4) (And.intro hN3 (And.intro hN4 (And.intro hap12 (And.intro hap34 (And.intro hlt1 (And.intro hlt2 (And.intro hlt3 hlt4)))))))))))))
  clear R2 S3 hbel hO hq' hq hl hN1 hN2 hN3 hN4 hap12 hap34 hb4 hO4 A3 A4 AX hv hbel4 hlt1 hlt2 hlt3 hlt4
  go_wp2_with fail
  refine (Calls.mono P1.out) ?_
  rintro r u5 ⟨rfl, hbt⟩
  obtain ⟨hbel, hq, hl, hN1, hN2, hN3, hN4, hap12, hap34, hlt1, hlt2, hlt3, hlt4⟩ := S4.out
  have hs5 := hbt.size
  have hbel5 : Below w.heap.size w u5 := But.below hbel hbt (by omega) hgw
  obtain ⟨AX, hv⟩ := HW.out
  have D1 := hid (rRoot_any xa aX nX cX u5 (AX.below hbel5) bX)
  have S5 := (Aside.intro (And.intro hbel5 (And.intro hq (And.intro hl (And.intro (hN1.but hbt (by omega)) (And.intro (hN2.but hbt (by omega)) (And.intro (hN3.but hbt (by omega)) (And.intro (hN4.but hbt (by omega)) (And.intro hap12 (And.intro hap34 (And.intro hlt1 (And.intro hlt2 (And.intro hlt3 hlt4)))))))))))))
  clear P1 S4 hbel hq hl hN1 hN2 hN3 hN4 hap12 hap34 hbt hbel5 hlt1 hlt2 hlt3 hlt4 AX hv
  go_wp2_with fail
  refine (Calls.mono D1.out) ?_
  rintro r u6 ⟨v5, v6, q2, rfl, hq2, hN5, hN6, hb6⟩
  obtain ⟨hbel, hq, hl, hN1, hN2, hN3, hN4, hap12, hap34, hlt1, hlt2, hlt3, hlt4⟩ := S5.out
  obtain rfl := hq2.unique hq
  rw [hl] at hN6
  have hs6 := hb6.size
  obtain ⟨a5, c5, rfl, A5⟩ := hN5.arg (by omega)
  obtain ⟨a6, c6, rfl, A6⟩ := hN6.arg (by omega)
  have hbel6 : Below w.heap.size w u6 := hbel.trans (hb6.mono (by omega))
  have M1 := hN1.below hb6
  have M2 := hN2.below hb6
  have M3 := hN3.below hb6
  have M4 := hN4.below hb6
  obtain ⟨a, c, e, A1⟩ := M1.arg (by omega)
  cases e
  obtain ⟨a, c, e, A2⟩ := M2.arg (by omega)
  cases e
  obtain ⟨a, c, e, A3⟩ := M3.arg (by omega)
  cases e
  obtain ⟨a, c, e, A4⟩ := M4.arg (by omega)
  cases e
  have E1 := hid (same_arg A1 A5)
  have S6 := (Aside.intro (And.intro hbel6 (And.intro M1 (And.intro M2 (And.intro M3 (And.intro M4 (And.intro hap12 (And.intro hap34 (And.intro hlt1 (And.intro hlt2 (And.intro hlt3 (And.intro hlt4 (And.intro A1 (And.intro A2 (And.intro A3 (And.intro A4 (And.intro A5 A6)))))))))))))))))
  clear D1 S5 hbel hq hq2 hl hN1 hN2 hN3 hN4 hN5 hN6 hap12 hap34 hb6 hbel6 hlt1 hlt2 hlt3 hlt4 M1 M2 M3 M4 A1 A2 A3 A4 A5 A6
  go_wp2_with fail
  refine (Calls.mono E1.out) ?_
  rintro r u7 ⟨rfl, hb⟩
  obtain ⟨hbel, M1, M2, M3, M4, hap12, hap34, hlt1, hlt2, hlt3, hlt4, A1, A2, A3, A4, A5, A6⟩ := S6.out
  have hs7 := hb.size
  have hbn : Below w.heap.size w u7 := hbel.trans (hb.mono (by omega))
  have E2 := hid (same_arg (A2.below hb) (A6.below hb))
  have S7 := (Aside.intro (And.intro hbn (And.intro (M1.below hb) (And.intro (M2.below hb) (And.intro (M3.below hb) (And.intro (M4.below hb) (And.intro hap12 (And.intro hap34 (And.intro hlt1 (And.intro hlt2 (And.intro hlt3 (And.intro hlt4 (And.intro (A1.below hb) (And.intro (A2.below hb) (And.intro (A3.below hb) (And.intro (A4.below hb) (And.intro (A5.below hb) (A6.below hb))))))))))))))))))
  clear E1 S6 hb hbn hbel M1 M2 M3 M4 hap12 hap34 hlt1 hlt2 hlt3 hlt4 A1 A2 A3 A4 A5 A6
  go_wp2_with fail
  refine (Calls.mono E2.out) ?_
  rintro r u8 ⟨rfl, hb⟩
  obtain ⟨hbel, M1, M2, M3, M4, hap12, hap34, hlt1, hlt2, hlt3, hlt4, A1, A2, A3, A4, A5, A6⟩ := S7.out
  have hs8 := hb.size
  have hbn : Below w.heap.size w u8 := hbel.trans (hb.mono (by omega))
  have E3 := hid (same_arg (A3.below hb) (A5.below hb))
  have S8 := (Aside.intro (And.intro hbn (And.intro (M1.below hb) (And.intro (M2.below hb) (And.intro (M3.below hb) (And.intro (M4.below hb) (And.intro hap12 (And.intro hap34 (And.intro hlt1 (And.intro hlt2 (And.intro hlt3 (And.intro hlt4 (And.intro (A1.below hb) (And.intro (A2.below hb) (And.intro (A3.below hb) (And.intro (A4.below hb) (And.intro (A5.below hb) (A6.below hb))))))))))))))))))
  clear E2 S7 hb hbn hbel M1 M2 M3 M4 hap12 hap34 hlt1 hlt2 hlt3 hlt4 A1 A2 A3 A4 A5 A6
  go_wp2_with fail
  refine (Calls.mono E3.out) ?_
  rintro r u9 ⟨rfl, hb⟩
  obtain ⟨hbel, M1, M2, M3, M4, hap12, hap34, hlt1, hlt2, hlt3, hlt4, A1, A2, A3, A4, A5, A6⟩ := S8.out
  have hs9 := hb.size
  have hbn : Below w.heap.size w u9 := hbel.trans (hb.mono (by omega))
  have E4 := hid (same_arg (A4.below hb) (A6.below hb))
  have S9 := (Aside.intro (And.intro hbn (And.intro (M1.below hb) (And.intro (M2.below hb) (And.intro (M3.below hb) (And.intro (M4.below hb) (And.intro hap12 (And.intro hap34 (And.intro hlt1 (And.intro hlt2 (And.intro hlt3 (And.intro hlt4 (And.intro (A1.below hb) (And.intro (A2.below hb) (And.intro (A3.below hb) (And.intro (A4.below hb) (And.intro (A5.below hb) (A6.below hb))))))))))))))))))
  clear E3 S8 hb hbn hbel M1 M2 M3 M4 hap12 hap34 hlt1 hlt2 hlt3 hlt4 A1 A2 A3 A4 A5 A6
  go_wp2_with fail
  refine (Calls.mono E4.out) ?_
  rintro r u10 ⟨rfl, hb⟩
  obtain ⟨hbel, M1, M2, M3, M4, hap12, hap34, hlt1, hlt2, hlt3, hlt4, A1, A2, A3, A4, A5, A6⟩ := S9.out
  have hs10 := hb.size
  have hbn : Below w.heap.size w u10 := hbel.trans (hb.mono (by omega))
  have K1 := M1.below hb
  have K2 := M2.below hb
  have K3 := M3.below hb
  have K4 := M4.below hb
  obtain ⟨s1, hs1e⟩ : ∃ s, s = Value.slice a1 (ws q2).length c1 := ⟨_, rfl⟩
  obtain ⟨s2, hs2e⟩ : ∃ s, s = Value.slice a2 (ws l).length c2 := ⟨_, rfl⟩
  obtain ⟨s3, hs3e⟩ : ∃ s, s = Value.slice a3 (ws q2).length c3 := ⟨_, rfl⟩
  obtain ⟨s4, hs4e⟩ : ∃ s, s = Value.slice a4 (ws l).length c4 := ⟨_, rfl⟩
  have NI : Nice w.heap.size u10 [Value.slice a1 (ws q2).length c1, Value.slice a2 (ws l).length c2, Value.slice a3 (ws q2).length c3, Value.slice a4 (ws l).length c4] := by
    have n1 := (Nice.nil w.heap.size u10).snoc (K1.mono (by omega)) (by omega) (by simp)
    have n2 := n1.snoc (K2.mono (by omega)) (by omega) (by
      intro u hu b hb
      simp at hu
      subst hu
      exact hap12 b hb)
    have n3 := n2.snoc (K3.mono (by omega)) (by omega) (by
      intro u hu b hb e
      have h3 := hlt3 b e
      simp at hu
      rcases hu with rfl | rfl
      · have := hlt1 b hb; omega
      · have := hlt2 b hb; omega)
    exact n3.snoc (K4.mono (by omega)) (by omega) (by
      intro u hu b hb e
      have h4 := hlt4 b e
      simp at hu
      rcases hu with rfl | rfl | rfl
      · have := hlt1 b hb; omega
      · have := hlt2 b hb; omega
      · exact hap34 b hb e)
  have S10 := Aside.intro (Held.made hbn NI (by omega))
  clear E4 S9 hb hbn NI K1 K2 K3 K4 s1 hs1e s2 hs2e s3 hs3e s4 hs4e hbel M1 M2 M3 M4 hap12 hap34 hlt1 hlt2 hlt3 hlt4 A1 A2 A3 A4 A5 A6
  have T0 := hid (Held.take S10.out (by simp) a1 (ws q2).length c1)
  go_wp2_with fail
  refine (Calls.mono T0.out) ?_
  rintro r u11 ⟨rfl, hH⟩
  have S11 := Aside.intro hH
  clear T0 S10 hH
  have T1 := hid (Held.take S11.out (by simp) a2 (ws l).length c2)
  go_wp2_with fail
  refine (Calls.mono T1.out) ?_
  rintro r u12 ⟨rfl, hH⟩
  have S12 := Aside.intro hH
  clear T1 S11 hH
  have T2 := hid (Held.take S12.out (by simp) a3 (ws q2).length c3)
  go_wp2_with fail
  refine (Calls.mono T2.out) ?_
  rintro r u13 ⟨rfl, hH⟩
  have S13 := Aside.intro hH
  clear T2 S12 hH
  have T3 := hid (Held.take S13.out (by simp) a4 (ws l).length c4)
  go_wp2_with fail
  refine (Calls.mono T3.out) ?_
  rintro r u14 ⟨rfl, hH⟩
  have S14 := Aside.intro hH
  clear T3 S13 hH
  have OW := hid (Held.owned (vs := [Value.slice a1 (ws q2).length c1, Value.slice a2 (ws l).length c2, Value.slice a3 (ws q2).length c3, Value.slice a4 (ws l).length c4]) S14.out (by simp) (by simp))
  clear S14
  go_wp2_with fail
  refine (Calls.mono OW.out) ?_
  rintro r u15 ⟨rfl, hb⟩
  have S15 := Aside.intro hb
  clear hb OW
  go_wp2
  go_ret
  exact ⟨rfl, S15.out⟩
end Go.Proofs.YtikfabbfbfdpcaaDoor

/- WideLooks: the walk. -/
namespace Go.Proofs.YtikfabbfbfdpcaaDoor
open Go.RowKit
set_option linter.unusedVariables false

theorem wNorm_arg {w : World} {a : Option Addr} {n c : Nat} {xs : List Nat} {V : Nat} (h1 : Arg w a n c xs) (e : val xs = V) :
    Calls Tryd.prog 17 #[.slice a n c] w fun r w' => ∃ v, r = .returned v ∧ Nt w.heap.size w' v V ∧ Below w.heap.size w w' := by
  subst e
  refine (norm_any xs a n c w.heap.size w h1.len h1.cap (by have := h1.big; omega) h1.wf h1.rd (Nat.le_refl _)).mono ?_
  rintro r w' ⟨rfl, hO, hb⟩
  have hl : (ws (val xs)).length ≤ n := (ws_len_le _ _).2 (by rw [h1.len]; exact val_lt xs h1.wf)
  have h2 := Nt.ofOwn hO (Nat.le_refl _) (wf_ws _) (by have := h1.big; unfold maxLen; omega)
  rw [nl_ws, val_ws] at h2
  exact ⟨_, rfl, h2, hb⟩

theorem arg_of {lo : Nat} {w : World} {a : Option Addr} {n c X : Nat} (h : Nt lo w (.slice a n c) X) (hn : n = (ws X).length) (hs : (ws X).length ≤ 35184372088832) : Arg w a (ws X).length c (ws X) := by
  obtain ⟨_, _, e, A⟩ := h.arg hs
  cases e
  exact A

theorem shiftS_len (X n : Nat) (by' : Int) (h : X < pw n) : (ws (shiftS X by').1).length ≤ max n 8192 := by
  unfold shiftS
  split
  · rw [ws_zero]; simp
  · next hL =>
    split
    · rw [ws_zero]; simp
    · next h0 =>
      split
      · have h1 : X / 2 ^ (-by').toNat ≤ X := Nat.div_le_self _ _
        have := (ws_len_le (X / 2 ^ (-by').toNat) n).2 (by omega)
        simp only []
        omega
      · split
        · rw [ws_zero]; simp
        · next hn hf =>
          have h1 := bl_lt X
          have h2 : X * 2 ^ by'.toNat < 2 ^ (bl X + by'.toNat) := by
            rw [Nat.pow_add]
            exact Nat.mul_lt_mul_of_pos_right h1 (Nat.pow_pos (by omega))
          have h3 := two_le_pw (bl X + by'.toNat) 8192 (by omega)
          have := (ws_len_le (X * 2 ^ by'.toNat) 8192).2 (by omega)
          simp only []
          omega

theorem small_tuple (X : Nat) : ∃ s1 s2 : Int, smallV X = .tuple #[.int .u64 s1, .int .i64 s2] := by
  unfold smallV
  split
  · exact ⟨_, _, rfl⟩
  · exact ⟨_, _, rfl⟩

/-- Both ask for the same bit. -/
theorem bits_both (xs : List Nat) (i : Int) (hi : -9223372036854775808 ≤ i) (hi2 : i ≤ 9223372036854775807) : ∃ t : Bool,
    (∀ (w : World) (a : Option Addr) (n c : Nat), Arg w a n c xs → Calls Tryd.prog 23 #[.slice a n c, .int .i64 i] w fun r w' => r = .returned (.bool t) ∧ w' = w) ∧
    (∀ (w : World) (a : Option Addr) (n c : Nat), Arg w a n c xs → Calls Tryd.prog 31 #[.slice a n c, .int .i64 i] w fun r w' => r = .returned (.bool t) ∧ w' = w) := by
  by_cases h : i < 0
  · exact ⟨false, fun w a n c _ => bit_neg a n c i w h, fun w a n c _ => rBit_neg a n c i w h⟩
  · obtain ⟨k, rfl⟩ : ∃ k : Nat, i = (k : Int) := ⟨i.toNat, by omega⟩
    exact ⟨_, fun w a n c hA => bit_any xs a n c w.heap.size k w hA.len hA.wf hA.rd (by omega), fun w a n c hA => rBit_any xs a n c w.heap.size k w hA.len hA.wf hA.rd (by omega)⟩

set_option maxHeartbeats 16000000 in
set_option maxRecDepth 100000 in
theorem walk_WideLooks (aX : Option Addr) (nX cX : Nat) (xa : List Nat) (x : Int) (by' : Int) (i : Int) (w : World) (hT : Tab w) (w0 : Came w aX nX cX xa) (w1 : (Lit.int .u64 x).wf = true) (w2 : (Lit.int .i64 by').wf = true) (w3 : (Lit.int .i64 i).wf = true) (bX : nX ≤ 35184372087808) :
    Calls Tryd.prog 5 #[.slice aX nX cX, .int .u64 x, .int .i64 by', .int .i64 i] w fun r w' => r = .returned (.bool true) ∧ Below w.heap.size w w' := by
  have hby : -9223372036854775808 ≤ by' ∧ by' ≤ 9223372036854775807 := by
    simp [Lit.wf, IntKind.min, IntKind.max, IntKind.signed, IntKind.bits] at w2
    omega
  have hii : -9223372036854775808 ≤ i ∧ i ≤ 9223372036854775807 := by
    simp [Lit.wf, IntKind.min, IntKind.max, IntKind.signed, IntKind.bits] at w3
    omega
  have hxx : 0 ≤ x ∧ x < 18446744073709551616 := by
    simp [Lit.wf, IntKind.min, IntKind.max, IntKind.signed, IntKind.bits] at w1
    omega
  obtain ⟨xn, rfl⟩ : ∃ k : Nat, x = (k : Int) := ⟨x.toNat, by omega⟩
  have hxn : xn < 18446744073709551616 := by omega
  have hwx : (ws xn).length ≤ 2 := (ws_len_le xn 2).2 (by show xn < 18446744073709551616; exact hxn)
  have AW := hid (awake_any w hT)
  have AX := w0.arg (by omega)
  have hv := val_lt xa AX.wf
  rw [← AX.len] at hv
  obtain ⟨bt, BW, BR⟩ := bits_both xa i hii.1 hii.2
  have HBW := hid BW
  have HBR := hid BR
  obtain ⟨X, hX⟩ : ∃ X, val xa = X := ⟨_, rfl⟩
  obtain ⟨s1, s2, hsm⟩ := small_tuple X
  obtain ⟨⟨D, ec⟩, hDe⟩ : ∃ p, shiftS X by' = p := ⟨_, rfl⟩
  have hwX : (ws X).length ≤ nX := (ws_len_le X nX).2 (by omega)
  have hwD : (ws D).length ≤ max nX 8192 := by have := shiftS_len X nX by' (by omega); rw [hDe] at this; exact this
  have hwD2 : (ws D).length ≤ 35184372087808 := by omega
  have HW := (Aside.intro (And.intro AX (And.intro hX (And.intro hsm (And.intro hDe (And.intro hT (And.intro hxn (And.intro hby hwX))))))))
  clear hT w0 AX hv BW BR hX hsm hDe hwD w1 w2 w3 hii hxx
  go_enter Tryd.func5, Tryd.ntmps5
  go_wp2_with fail
  refine (Calls.mono AW.out) ?_
  rintro r u1 ⟨rfl, hb1⟩
  have hs1 := hb1.size
  obtain ⟨AX, hX, hsm, hDe, hT, hxn, hby, _⟩ := HW.out
  have L1 := hid (lent_any xa aX nX cX w.heap.size u1 AX.len AX.cap bX (AX.rd.below hb1) hs1)
  have S1 := Aside.intro hb1
  clear AW AX hX hsm hDe hT hxn hby hb1
  go_wp2_with fail
  refine (Calls.mono L1.out) ?_
  rintro r u2 ⟨rfl, hO, hb2⟩
  obtain ⟨g, hg⟩ : ∃ g, g = u1.heap.size := ⟨_, rfl⟩
  rw [← hg] at hO hb2
  rw [← hg]
  have hgw : w.heap.size ≤ g := by omega
  have hs2 := hO.lt
  have S2 := (Aside.intro (And.intro (S1.out.trans (hb2.mono hgw)) hO))
  clear L1 S1 hO hb2 hg hs1
  obtain ⟨hbel, hO⟩ := S2.out
  obtain ⟨AX, hX, hsm, hDe, hT, hxn, hby, hwX⟩ := HW.out
  have H2 := hid (wNorm_arg (lent_arg AX.len (by omega) AX.wf hO) hX)
  clear hbel hO AX hX hsm hDe hT hxn hby hwX
  go_wp2_with fail
  refine (Calls.mono H2.out) ?_
  rintro r u3 ⟨v, rfl, hN, hb⟩
  obtain ⟨hbel, hO⟩ := S2.out
  have hs3 := hb.size
  have N_A := hN.mono (lo' := u2.heap.size) (Nat.le_refl _)
  have l_A := hN.lt
  obtain ⟨aA, cA, rfl, A_A⟩ := hN.arg (by omega)
  have S3 := (Aside.intro (And.intro (hbel.trans (hb.mono (by omega))) (And.intro (hO.below hb (by omega)) (And.intro N_A l_A))))
  clear hN hb H2 S2 A_A N_A l_A hbel hO
  obtain ⟨hbel, hO, N_A, l_A⟩ := S3.out
  obtain ⟨AX, hX, hsm, hDe, hT, hxn, hby, hwX⟩ := HW.out
  have H3 := hid (of_any xn u3 hxn)
  clear hbel hO N_A l_A AX hX hsm hDe hT hxn hby hwX
  go_wp2_with fail
  refine (Calls.mono H3.out) ?_
  rintro r u4 ⟨v, rfl, hN, hb⟩
  obtain ⟨hbel, hO, N_A, l_A⟩ := S3.out
  have hs4 := hb.size
  have N_B := hN.mono (lo' := u3.heap.size) (Nat.le_refl _)
  have l_B := hN.lt
  obtain ⟨aB, cB, rfl, A_B⟩ := hN.arg (by omega)
  have S4 := (Aside.intro (And.intro (hbel.trans (hb.mono (by omega))) (And.intro (hO.below hb (by omega)) (And.intro (N_A.below hb) (And.intro l_A (And.intro N_B l_B))))))
  clear hN hb H3 S3 A_B N_B l_B hbel hO N_A l_A
  obtain ⟨hbel, hO, N_A, l_A, N_B, l_B⟩ := S4.out
  obtain ⟨AX, hX, hsm, hDe, hT, hxn, hby, hwX⟩ := HW.out
  have Q := small_any xa (some ⟨g, 0, none⟩) nX (nX + 2) (g + 1) u4 AX.len (by omega) (by omega) AX.wf (lent_rd AX.len hO)
  rw [hX, hsm] at Q
  have HQ := hid Q
  clear Q hbel hO N_A l_A N_B l_B AX hX hsm hDe hT hxn hby hwX
  go_wp2_with fail
  refine (Calls.mono HQ.out) ?_
  rintro r u5 ⟨rfl, hu⟩
  subst hu
  clear HQ
  obtain ⟨hbel, hO, N_A, l_A, N_B, l_B⟩ := S4.out
  obtain ⟨AX, hX, hsm, hDe, hT, hxn, hby, hwX⟩ := HW.out
  have H4 := hid ((Shift_any xa (some ⟨g, 0, none⟩) nX (nX + 2) (g + 1) by' u5 AX.len (by omega) (by omega) AX.wf (lent_rd AX.len hO) hO.lt hby.1 hby.2).mono (fun r w' h => (by rw [hX, hDe] at h; exact h : One _ w' r (D, ec) ∧ _)))
  clear hbel hO N_A l_A N_B l_B AX hX hsm hDe hT hxn hby hwX
  go_wp2_with fail
  refine (Calls.mono H4.out) ?_
  rintro r u6 ⟨⟨v, rfl, hN⟩, hb⟩
  obtain ⟨hbel, hO, N_A, l_A, N_B, l_B⟩ := S4.out
  have hs6 := hb.size
  replace hN : Nt u5.heap.size u6 v D := hN
  have N_D := hN.mono (lo' := u5.heap.size) (Nat.le_refl _)
  have l_D := hN.lt
  obtain ⟨aD, cD, rfl, A_D⟩ := hN.arg (by omega)
  have S5 := (Aside.intro (And.intro (hbel.trans (hb.mono (by omega))) (And.intro (hO.below hb (by omega)) (And.intro (N_A.below hb) (And.intro l_A (And.intro (N_B.below hb) (And.intro l_B (And.intro N_D l_D))))))))
  clear hN hb H4 S4 A_D N_D l_D hbel hO N_A l_A N_B l_B
  obtain ⟨hbel, hO, N_A, l_A, N_B, l_B, N_D, l_D⟩ := S5.out
  obtain ⟨AX, hX, hsm, hDe, hT, hxn, hby, hwX⟩ := HW.out
  have H5 := hid ((Shift_any xa (some ⟨g, 0, none⟩) nX (nX + 2) (g + 1) by' u6 AX.len (by omega) (by omega) AX.wf (lent_rd AX.len hO) hO.lt hby.1 hby.2).mono (fun r w' h => (by rw [hX, hDe] at h; exact h : One _ w' r (D, ec) ∧ _)))
  clear hbel hO N_A l_A N_B l_B N_D l_D AX hX hsm hDe hT hxn hby hwX
  go_wp2_with fail
  refine (Calls.mono H5.out) ?_
  rintro r u7 ⟨⟨v, rfl, hN⟩, hb⟩
  obtain ⟨hbel, hO, N_A, l_A, N_B, l_B, N_D, l_D⟩ := S5.out
  have hs7 := hb.size
  replace hN : Nt u6.heap.size u7 v D := hN
  have N_G := hN.mono (lo' := u6.heap.size) (Nat.le_refl _)
  have l_G := hN.lt
  obtain ⟨aG, cG, rfl, A_G⟩ := hN.arg (by omega)
  have S6 := (Aside.intro (And.intro (hbel.trans (hb.mono (by omega))) (And.intro (hO.below hb (by omega)) (And.intro (N_A.below hb) (And.intro l_A (And.intro (N_B.below hb) (And.intro l_B (And.intro (N_D.below hb) (And.intro l_D (And.intro N_G l_G))))))))))
  clear hN hb H5 S5 A_G N_G l_G hbel hO N_A l_A N_B l_B N_D l_D
  obtain ⟨hbel, hO, N_A, l_A, N_B, l_B, N_D, l_D, N_G, l_G⟩ := S6.out
  obtain ⟨AX, hX, hsm, hDe, hT, hxn, hby, hwX⟩ := HW.out
  have Q := len_any xa (some ⟨g, 0, none⟩) nX (nX + 2) (g + 1) u7 AX.len (by omega) (by omega) AX.wf (lent_rd AX.len hO)
  rw [hX] at Q
  have HQ := hid Q
  clear Q hbel hO N_A l_A N_B l_B N_D l_D N_G l_G AX hX hsm hDe hT hxn hby hwX
  go_wp2_with fail
  refine (Calls.mono HQ.out) ?_
  rintro r u8 ⟨rfl, hu⟩
  subst hu
  clear HQ
  obtain ⟨hbel, hO, N_A, l_A, N_B, l_B, N_D, l_D, N_G, l_G⟩ := S6.out
  obtain ⟨AX, hX, hsm, hDe, hT, hxn, hby, hwX⟩ := HW.out
  have Q := low_any xa (some ⟨g, 0, none⟩) nX (nX + 2) (g + 1) u8 AX.len (by omega) AX.wf (lent_rd AX.len hO) (hT.belows hbel)
  rw [hX] at Q
  have HQ := hid Q
  clear Q hbel hO N_A l_A N_B l_B N_D l_D N_G l_G AX hX hsm hDe hT hxn hby hwX
  go_wp2_with fail
  refine (Calls.mono HQ.out) ?_
  rintro r u9 ⟨rfl, hu⟩
  subst hu
  clear HQ
  obtain ⟨hbel, hO, N_A, l_A, N_B, l_B, N_D, l_D, N_G, l_G⟩ := S6.out
  obtain ⟨AX, hX, hsm, hDe, hT, hxn, hby, hwX⟩ := HW.out
  have Q := HBW.out u9 (some ⟨g, 0, none⟩) nX (nX + 2) (lent_arg AX.len (by omega) AX.wf hO)
  have HQ := hid Q
  clear Q hbel hO N_A l_A N_B l_B N_D l_D N_G l_G AX hX hsm hDe hT hxn hby hwX
  go_wp2_with fail
  refine (Calls.mono HQ.out) ?_
  rintro r u10 ⟨rfl, hu⟩
  subst hu
  clear HQ
  obtain ⟨hbel, hO, N_A, l_A, N_B, l_B, N_D, l_D, N_G, l_G⟩ := S6.out
  obtain ⟨AX, hX, hsm, hDe, hT, hxn, hby, hwX⟩ := HW.out
  have P1 := hid (asLent_any xa aX nX cX w.heap.size g u10 AX.len AX.cap bX AX.wf (AX.rd.below hbel) hgw hO)
  clear hbel hO N_A l_A N_B l_B N_D l_D N_G l_G AX hX hsm hDe hT hxn hby hwX
  go_wp2_with fail
  refine (Calls.mono P1.out) ?_
  rintro r u11 ⟨rfl, hbt⟩
  obtain ⟨hbel, hO, N_A, l_A, N_B, l_B, N_D, l_D, N_G, l_G⟩ := S6.out
  have hs11 := hbt.size
  have S7 := (Aside.intro (And.intro (But.below hbel hbt (by omega) hgw) (And.intro trivial (And.intro (N_A.but hbt (by omega)) (And.intro l_A (And.intro (N_B.but hbt (by omega)) (And.intro l_B (And.intro (N_D.but hbt (by omega)) (And.intro l_D (And.intro (N_G.but hbt (by omega)) l_G))))))))))
  clear hbt P1 S6 hbel hO N_A l_A N_B l_B N_D l_D N_G l_G
  obtain ⟨hbel, hO, N_A, l_A, N_B, l_B, N_D, l_D, N_G, l_G⟩ := S7.out
  obtain ⟨AX, hX, hsm, hDe, hT, hxn, hby, hwX⟩ := HW.out
  have Q := rSmall_any xa aX nX cX u11.heap.size u11 (AX.below hbel).len (by omega) AX.wf (AX.below hbel).rd
  rw [hX, hsm] at Q
  have HQ := hid Q
  clear Q hbel hO N_A l_A N_B l_B N_D l_D N_G l_G AX hX hsm hDe hT hxn hby hwX
  go_wp2_with fail
  refine (Calls.mono HQ.out) ?_
  rintro r u12 ⟨rfl, hu⟩
  subst hu
  clear HQ
  obtain ⟨hbel, hO, N_A, l_A, N_B, l_B, N_D, l_D, N_G, l_G⟩ := S7.out
  obtain ⟨AX, hX, hsm, hDe, hT, hxn, hby, hwX⟩ := HW.out
  have H7 := hid ((rShift_any (AX.below hbel) by' hby.1 hby.2).mono (fun r w' h => (by rw [hX, hDe] at h; exact h : One _ w' r (D, ec) ∧ _)))
  clear hbel hO N_A l_A N_B l_B N_D l_D N_G l_G AX hX hsm hDe hT hxn hby hwX
  go_wp2_with fail
  refine (Calls.mono H7.out) ?_
  rintro r u13 ⟨⟨v, rfl, hN⟩, hb⟩
  obtain ⟨hbel, hO, N_A, l_A, N_B, l_B, N_D, l_D, N_G, l_G⟩ := S7.out
  have hs13 := hb.size
  replace hN : Nt u12.heap.size u13 v D := hN
  have N_W := hN.mono (lo' := u12.heap.size) (Nat.le_refl _)
  have l_W := hN.lt
  obtain ⟨aW, cW, rfl, A_W⟩ := hN.arg (by omega)
  have S8 := (Aside.intro (And.intro (hbel.trans (hb.mono (by omega))) (And.intro hO (And.intro (N_A.below hb) (And.intro l_A (And.intro (N_B.below hb) (And.intro l_B (And.intro (N_D.below hb) (And.intro l_D (And.intro (N_G.below hb) (And.intro l_G (And.intro N_W l_W))))))))))))
  clear hb H7 S7 hN A_W N_W l_W hbel hO N_A l_A N_B l_B N_D l_D N_G l_G
  obtain ⟨hbel, hO, N_A, l_A, N_B, l_B, N_D, l_D, N_G, l_G, N_W, l_W⟩ := S8.out
  obtain ⟨AX, hX, hsm, hDe, hT, hxn, hby, hwX⟩ := HW.out
  have H8 := hid (rNorm_arg (AX.below hbel) hX)
  clear hbel hO N_A l_A N_B l_B N_D l_D N_G l_G N_W l_W AX hX hsm hDe hT hxn hby hwX
  go_wp2_with fail
  refine (Calls.mono H8.out) ?_
  rintro r u14 ⟨v, rfl, hN, hb⟩
  obtain ⟨hbel, hO, N_A, l_A, N_B, l_B, N_D, l_D, N_G, l_G, N_W, l_W⟩ := S8.out
  have hs14 := hb.size
  have N_M := hN.mono (lo' := u13.heap.size) (Nat.le_refl _)
  have l_M := hN.lt
  obtain ⟨aM, cM, rfl, A_M⟩ := hN.arg (by omega)
  have S9 := (Aside.intro (And.intro (hbel.trans (hb.mono (by omega))) (And.intro hO (And.intro (N_A.below hb) (And.intro l_A (And.intro (N_B.below hb) (And.intro l_B (And.intro (N_D.below hb) (And.intro l_D (And.intro (N_G.below hb) (And.intro l_G (And.intro (N_W.below hb) (And.intro l_W (And.intro N_M l_M))))))))))))))
  clear hb H8 S8 hN A_M N_M l_M hbel hO N_A l_A N_B l_B N_D l_D N_G l_G N_W l_W
  obtain ⟨hbel, hO, N_A, l_A, N_B, l_B, N_D, l_D, N_G, l_G, N_W, l_W, N_M, l_M⟩ := S9.out
  obtain ⟨AX, hX, hsm, hDe, hT, hxn, hby, hwX⟩ := HW.out
  have H9 := hid (same_arg (arg_of N_A rfl (by omega)) (arg_of N_M rfl (by omega)))
  clear hbel hO N_A l_A N_B l_B N_D l_D N_G l_G N_W l_W N_M l_M AX hX hsm hDe hT hxn hby hwX
  go_wp2_with fail
  refine (Calls.mono H9.out) ?_
  rintro r u15 ⟨rfl, hb⟩
  obtain ⟨hbel, hO, N_A, l_A, N_B, l_B, N_D, l_D, N_G, l_G, N_W, l_W, N_M, l_M⟩ := S9.out
  have hs15 := hb.size
  have S10 := (Aside.intro (And.intro (hbel.trans (hb.mono (by omega))) (And.intro hO (And.intro (N_A.below hb) (And.intro l_A (And.intro (N_B.below hb) (And.intro l_B (And.intro (N_D.below hb) (And.intro l_D (And.intro (N_G.below hb) (And.intro l_G (And.intro (N_W.below hb) (And.intro l_W (And.intro (N_M.below hb) l_M))))))))))))))
  clear hb H9 S9 hbel hO N_A l_A N_B l_B N_D l_D N_G l_G N_W l_W N_M l_M
  obtain ⟨hbel, hO, N_A, l_A, N_B, l_B, N_D, l_D, N_G, l_G, N_W, l_W, N_M, l_M⟩ := S10.out
  obtain ⟨AX, hX, hsm, hDe, hT, hxn, hby, hwX⟩ := HW.out
  have H10 := hid (rOf_any xn u15 hxn)
  clear hbel hO N_A l_A N_B l_B N_D l_D N_G l_G N_W l_W N_M l_M AX hX hsm hDe hT hxn hby hwX
  go_wp2_with fail
  refine (Calls.mono H10.out) ?_
  rintro r u16 ⟨v, rfl, hN, hb⟩
  obtain ⟨hbel, hO, N_A, l_A, N_B, l_B, N_D, l_D, N_G, l_G, N_W, l_W, N_M, l_M⟩ := S10.out
  have hs16 := hb.size
  have N_O := hN.mono (lo' := u15.heap.size) (Nat.le_refl _)
  have l_O := hN.lt
  obtain ⟨aO, cO, rfl, A_O⟩ := hN.arg (by omega)
  have S11 := (Aside.intro (And.intro (hbel.trans (hb.mono (by omega))) (And.intro hO (And.intro (N_A.below hb) (And.intro l_A (And.intro (N_B.below hb) (And.intro l_B (And.intro (N_D.below hb) (And.intro l_D (And.intro (N_G.below hb) (And.intro l_G (And.intro (N_W.below hb) (And.intro l_W (And.intro (N_M.below hb) (And.intro l_M (And.intro N_O l_O))))))))))))))))
  clear hb H10 S10 hN A_O N_O l_O hbel hO N_A l_A N_B l_B N_D l_D N_G l_G N_W l_W N_M l_M
  obtain ⟨hbel, hO, N_A, l_A, N_B, l_B, N_D, l_D, N_G, l_G, N_W, l_W, N_M, l_M, N_O, l_O⟩ := S11.out
  obtain ⟨AX, hX, hsm, hDe, hT, hxn, hby, hwX⟩ := HW.out
  have H11 := hid (same_arg (arg_of N_B rfl (by omega)) (arg_of N_O rfl (by omega)))
  clear hbel hO N_A l_A N_B l_B N_D l_D N_G l_G N_W l_W N_M l_M N_O l_O AX hX hsm hDe hT hxn hby hwX
  go_wp2_with fail
  refine (Calls.mono H11.out) ?_
  rintro r u17 ⟨rfl, hb⟩
  obtain ⟨hbel, hO, N_A, l_A, N_B, l_B, N_D, l_D, N_G, l_G, N_W, l_W, N_M, l_M, N_O, l_O⟩ := S11.out
  have hs17 := hb.size
  have S12 := (Aside.intro (And.intro (hbel.trans (hb.mono (by omega))) (And.intro hO (And.intro (N_A.below hb) (And.intro l_A (And.intro (N_B.below hb) (And.intro l_B (And.intro (N_D.below hb) (And.intro l_D (And.intro (N_G.below hb) (And.intro l_G (And.intro (N_W.below hb) (And.intro l_W (And.intro (N_M.below hb) (And.intro l_M (And.intro (N_O.below hb) l_O))))))))))))))))
  clear hb H11 S11 hbel hO N_A l_A N_B l_B N_D l_D N_G l_G N_W l_W N_M l_M N_O l_O
  obtain ⟨hbel, hO, N_A, l_A, N_B, l_B, N_D, l_D, N_G, l_G, N_W, l_W, N_M, l_M, N_O, l_O⟩ := S12.out
  obtain ⟨AX, hX, hsm, hDe, hT, hxn, hby, hwX⟩ := HW.out
  have H12 := hid (same_arg (arg_of N_D rfl (by omega)) (arg_of N_W rfl (by omega)))
  clear hbel hO N_A l_A N_B l_B N_D l_D N_G l_G N_W l_W N_M l_M N_O l_O AX hX hsm hDe hT hxn hby hwX
  go_wp2_with fail
  refine (Calls.mono H12.out) ?_
  rintro r u18 ⟨rfl, hb⟩
  obtain ⟨hbel, hO, N_A, l_A, N_B, l_B, N_D, l_D, N_G, l_G, N_W, l_W, N_M, l_M, N_O, l_O⟩ := S12.out
  have hs18 := hb.size
  have S13 := (Aside.intro (And.intro (hbel.trans (hb.mono (by omega))) (And.intro hO (And.intro (N_A.below hb) (And.intro l_A (And.intro (N_B.below hb) (And.intro l_B (And.intro (N_D.below hb) (And.intro l_D (And.intro (N_G.below hb) (And.intro l_G (And.intro (N_W.below hb) (And.intro l_W (And.intro (N_M.below hb) (And.intro l_M (And.intro (N_O.below hb) l_O))))))))))))))))
  clear hb H12 S12 hbel hO N_A l_A N_B l_B N_D l_D N_G l_G N_W l_W N_M l_M N_O l_O
  obtain ⟨hbel, hO, N_A, l_A, N_B, l_B, N_D, l_D, N_G, l_G, N_W, l_W, N_M, l_M, N_O, l_O⟩ := S13.out
  obtain ⟨AX, hX, hsm, hDe, hT, hxn, hby, hwX⟩ := HW.out
  have H13 := hid (same_arg (arg_of N_G rfl (by omega)) (arg_of N_W rfl (by omega)))
  clear hbel hO N_A l_A N_B l_B N_D l_D N_G l_G N_W l_W N_M l_M N_O l_O AX hX hsm hDe hT hxn hby hwX
  go_wp2_with fail
  refine (Calls.mono H13.out) ?_
  rintro r u19 ⟨rfl, hb⟩
  obtain ⟨hbel, hO, N_A, l_A, N_B, l_B, N_D, l_D, N_G, l_G, N_W, l_W, N_M, l_M, N_O, l_O⟩ := S13.out
  have hs19 := hb.size
  have S14 := (Aside.intro (And.intro (hbel.trans (hb.mono (by omega))) (And.intro hO (And.intro (N_A.below hb) (And.intro l_A (And.intro (N_B.below hb) (And.intro l_B (And.intro (N_D.below hb) (And.intro l_D (And.intro (N_G.below hb) (And.intro l_G (And.intro (N_W.below hb) (And.intro l_W (And.intro (N_M.below hb) (And.intro l_M (And.intro (N_O.below hb) l_O))))))))))))))))
  clear hb H13 S13 hbel hO N_A l_A N_B l_B N_D l_D N_G l_G N_W l_W N_M l_M N_O l_O
  obtain ⟨hbel, hO, N_A, l_A, N_B, l_B, N_D, l_D, N_G, l_G, N_W, l_W, N_M, l_M, N_O, l_O⟩ := S14.out
  obtain ⟨AX, hX, hsm, hDe, hT, hxn, hby, hwX⟩ := HW.out
  have Q := rLen_any xa aX nX cX u19.heap.size u19 AX.len (by omega) AX.wf (AX.below hbel).rd
  rw [hX] at Q
  have HQ := hid Q
  clear Q hbel hO N_A l_A N_B l_B N_D l_D N_G l_G N_W l_W N_M l_M N_O l_O AX hX hsm hDe hT hxn hby hwX
  go_wp2_with fail
  refine (Calls.mono HQ.out) ?_
  rintro r u20 ⟨rfl, hu⟩
  subst hu
  clear HQ
  obtain ⟨hbel, hO, N_A, l_A, N_B, l_B, N_D, l_D, N_G, l_G, N_W, l_W, N_M, l_M, N_O, l_O⟩ := S14.out
  obtain ⟨AX, hX, hsm, hDe, hT, hxn, hby, hwX⟩ := HW.out
  have Q := rLow_any xa aX nX cX u20.heap.size u20 AX.len (by omega) AX.wf (AX.below hbel).rd
  rw [hX] at Q
  have HQ := hid Q
  clear Q hbel hO N_A l_A N_B l_B N_D l_D N_G l_G N_W l_W N_M l_M N_O l_O AX hX hsm hDe hT hxn hby hwX
  go_wp2_with fail
  refine (Calls.mono HQ.out) ?_
  rintro r u21 ⟨rfl, hu⟩
  subst hu
  clear HQ
  obtain ⟨hbel, hO, N_A, l_A, N_B, l_B, N_D, l_D, N_G, l_G, N_W, l_W, N_M, l_M, N_O, l_O⟩ := S14.out
  obtain ⟨AX, hX, hsm, hDe, hT, hxn, hby, hwX⟩ := HW.out
  have Q := HBR.out u21 aX nX cX (AX.below hbel)
  have HQ := hid Q
  clear Q hbel hO N_A l_A N_B l_B N_D l_D N_G l_G N_W l_W N_M l_M N_O l_O AX hX hsm hDe hT hxn hby hwX
  go_wp2_with fail
  refine (Calls.mono HQ.out) ?_
  rintro r u22 ⟨rfl, hu⟩
  subst hu
  clear HQ
  obtain ⟨hbel, hO, N_A, l_A, N_B, l_B, N_D, l_D, N_G, l_G, N_W, l_W, N_M, l_M, N_O, l_O⟩ := S14.out
  have NI : Nice w.heap.size u22 [Value.slice aA (ws X).length cA, Value.slice aB (ws xn).length cB, Value.slice aD (ws D).length cD, Value.slice aG (ws D).length cG] := by
    have n1 := (Nice.nil w.heap.size u22).snoc (N_A.mono (by omega)) (by omega) (by simp)
    have n2 := n1.snoc (N_B.mono (by omega)) (by omega) (by
      intro u hu b hb e
      have h3 := l_B b e
      simp at hu
      subst hu
      have := l_A b hb; omega)
    have n3 := n2.snoc (N_D.mono (by omega)) (by omega) (by
      intro u hu b hb e
      have h3 := l_D b e
      simp at hu
      rcases hu with rfl | rfl
      · have := l_A b hb; omega
      · have := l_B b hb; omega)
    exact n3.snoc (N_G.mono (by omega)) (by omega) (by
      intro u hu b hb e
      have h4 := l_G b e
      simp at hu
      rcases hu with rfl | rfl | rfl
      · have := l_A b hb; omega
      · have := l_B b hb; omega
      · have := l_D b hb; omega)
  have B0 := Aside.intro (Held.made hbel NI (by omega))
  clear NI S14 hbel hO N_A l_A N_B l_B N_D l_D N_G l_G N_W l_W N_M l_M N_O l_O
  have T0 := hid (Held.take B0.out (by simp) aA (ws X).length cA)
  go_wp2_with fail
  refine (Calls.mono T0.out) ?_
  rintro r y1 ⟨rfl, hH⟩
  have B1 := Aside.intro hH
  clear T0 B0 hH
  have T1 := hid (Held.take B1.out (by simp) aB (ws xn).length cB)
  go_wp2_with fail
  refine (Calls.mono T1.out) ?_
  rintro r y2 ⟨rfl, hH⟩
  have B2 := Aside.intro hH
  clear T1 B1 hH
  have T2 := hid (Held.take B2.out (by simp) aD (ws D).length cD)
  go_wp2_with fail
  refine (Calls.mono T2.out) ?_
  rintro r y3 ⟨rfl, hH⟩
  have B3 := Aside.intro hH
  clear T2 B2 hH
  have T3 := hid (Held.take B3.out (by simp) aG (ws D).length cG)
  go_wp2_with fail
  refine (Calls.mono T3.out) ?_
  rintro r y4 ⟨rfl, hH⟩
  have B4 := Aside.intro hH
  clear T3 B3 hH
  have OW := hid (Held.owned (vs := [Value.slice aA (ws X).length cA, Value.slice aB (ws xn).length cB, Value.slice aD (ws D).length cD, Value.slice aG (ws D).length cG]) B4.out (by simp) (by simp))
  clear B4
  go_wp2_with fail
  refine (Calls.mono OW.out) ?_
  rintro r y5 ⟨rfl, hb⟩
  have B5 := Aside.intro hb
  clear hb OW
  go_wp2
  go_ret
  exact ⟨rfl, B5.out⟩
end Go.Proofs.YtikfabbfbfdpcaaDoor

