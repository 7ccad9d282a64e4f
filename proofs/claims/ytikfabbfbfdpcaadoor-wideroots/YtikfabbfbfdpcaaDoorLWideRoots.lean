/- WideRoots: the walk. -/
import Derived.Test.YtikfabbfbfdpcaaDoorW46x
namespace Go.Proofs.YtikfabbfbfdpcaaDoor
open Go.RowKit
set_option linter.unusedVariables false

/-- A book and the Nats in it. -/
structure Held (lo : Nat) (w0 w : World) (h : Nat) (vs all : List Value) : Prop where
  below : Below lo w0 w
  book : Bk lo w h vs
  nice : Nice lo w all
  size : lo ≤ w.heap.size

theorem Held.take {lo : Nat} {w0 w : World} {h : Nat} {vs all : List Value} (H : Held lo w0 w h vs all) (hl : vs.length ≤ 1000) (ao : Option Addr) (n cap : Nat) :
    Calls Tryd.prog 15 #[.pointer (some ⟨h, 0, none⟩), .slice ao n cap] w fun r w' => r = .returned (.tuple #[]) ∧ Held lo w0 w' h (vs ++ [.slice ao n cap]) all :=
  (take_any lo h vs ao n cap w H.book hl H.size).mono fun r w' ⟨h1, h2, h3, h4, h5⟩ => ⟨h1, H.below.trans h4, h2, H.nice.keep h3, by have := H.size; omega⟩

theorem Held.owned {lo : Nat} {w0 w : World} {h : Nat} {vs : List Value} (H : Held lo w0 w h vs vs) (hm : 0 < vs.length) (hm2 : vs.length ≤ 100) :
    Calls Tryd.prog 16 #[.pointer (some ⟨h, 0, none⟩)] w fun r w' => r = .returned (.bool true) ∧ Below lo w0 w' :=
  (owned_any lo h vs w H.book H.nice hm hm2 H.size).mono fun r w' ⟨h1, h2⟩ => ⟨h1, H.below.trans h2⟩

theorem Held.made {lo : Nat} {w0 w : World} {all : List Value} (hb : Below lo w0 w) (hn : Nice lo w all) (hs : lo ≤ w.heap.size) : Held lo w0 (w.alloc (.cells #[.slice none 0 0] 28)) w.heap.size [] all :=
  ⟨hb.alloc hs _, Bk.made lo w hs, hn.keep (Keep.below (below_alloc w _)), by simp; omega⟩

set_option maxHeartbeats 8000000 in
set_option maxRecDepth 100000 in
theorem walk_WideRoots (aX : Option Addr) (nX cX : Nat) (xa : List Nat) (w : World) (hT : Tab w) (w0 : Came w aX nX cX xa) (bX : nX ≤ 35184372087808) :
    Calls Tryd.prog 6 #[.slice aX nX cX] w fun r w' => r = .returned (.bool true) ∧ Below w.heap.size w w' := by
  have AW := hid (awake_any w hT)
  have AX := w0.arg (by omega)
  have hv := val_lt xa AX.wf
  rw [← AX.len] at hv
  have hlo := Nat.le_refl w.heap.size
  have HW := (Aside.intro (And.intro AX hv))
  clear hT w0 AX hv
  go_enter Tryd.func6, Tryd.ntmps6
  go_wp2_with fail
  refine (Calls.mono AW.out) ?_
  rintro r u1 ⟨rfl, hb1⟩
  have hs1 := hb1.size
  obtain ⟨AX, hv⟩ := HW.out
  have L1 := hid (lent_any xa aX nX cX w.heap.size u1 AX.len AX.cap bX (AX.rd.below hb1) hs1)
  have S1 := Aside.intro hb1
  clear AW AX hv hb1
  go_wp2_with fail
  refine (Calls.mono L1.out) ?_
  rintro r u2 ⟨rfl, hO, hb2⟩
  obtain ⟨g, hg⟩ : ∃ g, g = u1.heap.size := ⟨_, rfl⟩
  rw [← hg] at hO hb2
  rw [← hg]
  have hgw : w.heap.size ≤ g := by omega
  obtain ⟨AX, hv⟩ := HW.out
  have hs2 := hO.lt
  have R1 := hid (root_any xa (some ⟨g, 0, none⟩) nX (nX + 2) (g + 1) u2 AX.len (by omega) (by omega) AX.wf (lent_rd AX.len hO) hs2)
  have S2 := (Aside.intro (And.intro (S1.out.trans (hb2.mono hgw)) hO))
  clear L1 S1 AX hv hO hb2 hg hs1
  go_wp2_with fail
  refine (Calls.mono R1.out) ?_
  rintro r u3 ⟨q, hq, ⟨v1, v2, rfl, hN1, hN2, hap12⟩, hb3⟩
  obtain ⟨AX, hv⟩ := HW.out
  obtain ⟨hwq, hwl⟩ := root_words hv hq
  obtain ⟨l, hl⟩ : ∃ l, val xa - q * q = l := ⟨_, rfl⟩
  rw [hl] at hN2 hwl
  have hs3 := hb3.size
  have hO3 := S2.out.2.below hb3 hs2
  obtain ⟨a1, c1, rfl, A1⟩ := hN1.arg (by omega)
  obtain ⟨a2, c2, rfl, A2⟩ := hN2.arg (by omega)
  have R2 := hid (root_any xa (some ⟨g, 0, none⟩) nX (nX + 2) (g + 1) u3 AX.len (by omega) (by omega) AX.wf (lent_rd AX.len hO3) hO3.lt)
  have S3 := (Aside.intro (And.intro (S2.out.1.trans (hb3.mono (Nat.le_trans hgw (Nat.le_of_lt hs2)))) (And.intro hO3 (And.intro hq (And.intro hl (And.intro hN1 (And.intro hN2 (And.intro hap12 hs2))))))))
  clear R1 S2 AX hv hO3 hq hl hN1 hN2 hap12 hb3 A1 A2
  go_wp2_with fail
  refine (Calls.mono R2.out) ?_
  rintro r u4 ⟨q', hq', ⟨v3, v4, rfl, hN3, hN4, hap34⟩, hb4⟩
  obtain ⟨hbel, hO, hq, hl, hN1, hN2, hap12, _⟩ := S3.out
  obtain rfl := hq'.unique hq
  rw [hl] at hN4
  have hs4 := hb4.size
  have hO4 := hO.below hb4 hO.lt
  obtain ⟨a3, c3, rfl, A3⟩ := hN3.arg (by omega)
  obtain ⟨a4, c4, rfl, A4⟩ := hN4.arg (by omega)
  obtain ⟨AX, hv⟩ := HW.out
  have hbel4 : Below w.heap.size w u4 := hbel.trans (hb4.mono (by omega))
  have hlt1 := hN1.lt
  have hlt2 := hN2.lt
  have hlt3 := hN3.lt
  have hlt4 := hN4.lt
  have P1 := hid (asLent_any xa aX nX cX w.heap.size g u4 AX.len AX.cap bX AX.wf (AX.rd.below hbel4) hgw hO4)
  have S4 := (Aside.intro (And.intro hbel4 (And.intro hq' (And.intro hl (And.intro (hN1.below hb4) (And.intro (hN2.below hb4) (And.intro hN3 (And.intro hN4 (And.intro hap12 (And.intro hap34 (And.intro hlt1 (And.intro hlt2 (And.intro hlt3 hlt4)))))))))))))
  clear R2 S3 hbel hO hq' hq hl hN1 hN2 hN3 hN4 hap12 hap34 hb4 hO4 A3 A4 AX hv hbel4 hlt1 hlt2 hlt3 hlt4
  go_wp2_with fail
  refine (Calls.mono P1.out) ?_
  rintro r u5 ⟨rfl, hbt⟩
  obtain ⟨hbel, hq, hl, hN1, hN2, hN3, hN4, hap12, hap34, hlt1, hlt2, hlt3, hlt4⟩ := S4.out
  have hs5 := hbt.size
  have hbel5 : Below w.heap.size w u5 := But.below hbel hbt (by omega) hgw
  obtain ⟨AX, hv⟩ := HW.out
  have D1 := hid (rRoot_any xa aX nX cX u5 (AX.below hbel5) bX)
  have S5 := (Aside.intro (And.intro hbel5 (And.intro hq (And.intro hl (And.intro (hN1.but hbt (by omega)) (And.intro (hN2.but hbt (by omega)) (And.intro (hN3.but hbt (by omega)) (And.intro (hN4.but hbt (by omega)) (And.intro hap12 (And.intro hap34 (And.intro hlt1 (And.intro hlt2 (And.intro hlt3 hlt4)))))))))))))
  clear P1 S4 hbel hq hl hN1 hN2 hN3 hN4 hap12 hap34 hbt hbel5 hlt1 hlt2 hlt3 hlt4 AX hv
  go_wp2_with fail
  refine (Calls.mono D1.out) ?_
  rintro r u6 ⟨v5, v6, q2, rfl, hq2, hN5, hN6, hb6⟩
  obtain ⟨hbel, hq, hl, hN1, hN2, hN3, hN4, hap12, hap34, hlt1, hlt2, hlt3, hlt4⟩ := S5.out
  obtain rfl := hq2.unique hq
  rw [hl] at hN6
  have hs6 := hb6.size
  obtain ⟨a5, c5, rfl, A5⟩ := hN5.arg (by omega)
  obtain ⟨a6, c6, rfl, A6⟩ := hN6.arg (by omega)
  have hbel6 : Below w.heap.size w u6 := hbel.trans (hb6.mono (by omega))
  have M1 := hN1.below hb6
  have M2 := hN2.below hb6
  have M3 := hN3.below hb6
  have M4 := hN4.below hb6
  obtain ⟨a, c, e, A1⟩ := M1.arg (by omega)
  cases e
  obtain ⟨a, c, e, A2⟩ := M2.arg (by omega)
  cases e
  obtain ⟨a, c, e, A3⟩ := M3.arg (by omega)
  cases e
  obtain ⟨a, c, e, A4⟩ := M4.arg (by omega)
  cases e
  have E1 := hid (same_arg A1 A5)
  have S6 := (Aside.intro (And.intro hbel6 (And.intro M1 (And.intro M2 (And.intro M3 (And.intro M4 (And.intro hap12 (And.intro hap34 (And.intro hlt1 (And.intro hlt2 (And.intro hlt3 (And.intro hlt4 (And.intro A1 (And.intro A2 (And.intro A3 (And.intro A4 (And.intro A5 A6)))))))))))))))))
  clear D1 S5 hbel hq hq2 hl hN1 hN2 hN3 hN4 hN5 hN6 hap12 hap34 hb6 hbel6 hlt1 hlt2 hlt3 hlt4 M1 M2 M3 M4 A1 A2 A3 A4 A5 A6
  go_wp2_with fail
  refine (Calls.mono E1.out) ?_
  rintro r u7 ⟨rfl, hb⟩
  obtain ⟨hbel, M1, M2, M3, M4, hap12, hap34, hlt1, hlt2, hlt3, hlt4, A1, A2, A3, A4, A5, A6⟩ := S6.out
  have hs7 := hb.size
  have hbn : Below w.heap.size w u7 := hbel.trans (hb.mono (by omega))
  have E2 := hid (same_arg (A2.below hb) (A6.below hb))
  have S7 := (Aside.intro (And.intro hbn (And.intro (M1.below hb) (And.intro (M2.below hb) (And.intro (M3.below hb) (And.intro (M4.below hb) (And.intro hap12 (And.intro hap34 (And.intro hlt1 (And.intro hlt2 (And.intro hlt3 (And.intro hlt4 (And.intro (A1.below hb) (And.intro (A2.below hb) (And.intro (A3.below hb) (And.intro (A4.below hb) (And.intro (A5.below hb) (A6.below hb))))))))))))))))))
  clear E1 S6 hb hbn hbel M1 M2 M3 M4 hap12 hap34 hlt1 hlt2 hlt3 hlt4 A1 A2 A3 A4 A5 A6
  go_wp2_with fail
  refine (Calls.mono E2.out) ?_
  rintro r u8 ⟨rfl, hb⟩
  obtain ⟨hbel, M1, M2, M3, M4, hap12, hap34, hlt1, hlt2, hlt3, hlt4, A1, A2, A3, A4, A5, A6⟩ := S7.out
  have hs8 := hb.size
  have hbn : Below w.heap.size w u8 := hbel.trans (hb.mono (by omega))
  have E3 := hid (same_arg (A3.below hb) (A5.below hb))
  have S8 := (Aside.intro (And.intro hbn (And.intro (M1.below hb) (And.intro (M2.below hb) (And.intro (M3.below hb) (And.intro (M4.below hb) (And.intro hap12 (And.intro hap34 (And.intro hlt1 (And.intro hlt2 (And.intro hlt3 (And.intro hlt4 (And.intro (A1.below hb) (And.intro (A2.below hb) (And.intro (A3.below hb) (And.intro (A4.below hb) (And.intro (A5.below hb) (A6.below hb))))))))))))))))))
  clear E2 S7 hb hbn hbel M1 M2 M3 M4 hap12 hap34 hlt1 hlt2 hlt3 hlt4 A1 A2 A3 A4 A5 A6
  go_wp2_with fail
  refine (Calls.mono E3.out) ?_
  rintro r u9 ⟨rfl, hb⟩
  obtain ⟨hbel, M1, M2, M3, M4, hap12, hap34, hlt1, hlt2, hlt3, hlt4, A1, A2, A3, A4, A5, A6⟩ := S8.out
  have hs9 := hb.size
  have hbn : Below w.heap.size w u9 := hbel.trans (hb.mono (by omega))
  have E4 := hid (same_arg (A4.below hb) (A6.below hb))
  have S9 := (Aside.intro (And.intro hbn (And.intro (M1.below hb) (And.intro (M2.below hb) (And.intro (M3.below hb) (And.intro (M4.below hb) (And.intro hap12 (And.intro hap34 (And.intro hlt1 (And.intro hlt2 (And.intro hlt3 (And.intro hlt4 (And.intro (A1.below hb) (And.intro (A2.below hb) (And.intro (A3.below hb) (And.intro (A4.below hb) (And.intro (A5.below hb) (A6.below hb))))))))))))))))))
  clear E3 S8 hb hbn hbel M1 M2 M3 M4 hap12 hap34 hlt1 hlt2 hlt3 hlt4 A1 A2 A3 A4 A5 A6
  go_wp2_with fail
  refine (Calls.mono E4.out) ?_
  rintro r u10 ⟨rfl, hb⟩
  obtain ⟨hbel, M1, M2, M3, M4, hap12, hap34, hlt1, hlt2, hlt3, hlt4, A1, A2, A3, A4, A5, A6⟩ := S9.out
  have hs10 := hb.size
  have hbn : Below w.heap.size w u10 := hbel.trans (hb.mono (by omega))
  have K1 := M1.below hb
  have K2 := M2.below hb
  have K3 := M3.below hb
  have K4 := M4.below hb
  obtain ⟨s1, hs1e⟩ : ∃ s, s = Value.slice a1 (ws q2).length c1 := ⟨_, rfl⟩
  obtain ⟨s2, hs2e⟩ : ∃ s, s = Value.slice a2 (ws l).length c2 := ⟨_, rfl⟩
  obtain ⟨s3, hs3e⟩ : ∃ s, s = Value.slice a3 (ws q2).length c3 := ⟨_, rfl⟩
  obtain ⟨s4, hs4e⟩ : ∃ s, s = Value.slice a4 (ws l).length c4 := ⟨_, rfl⟩
  have NI : Nice w.heap.size u10 [Value.slice a1 (ws q2).length c1, Value.slice a2 (ws l).length c2, Value.slice a3 (ws q2).length c3, Value.slice a4 (ws l).length c4] := by
    have n1 := (Nice.nil w.heap.size u10).snoc (K1.mono (by omega)) (by omega) (by simp)
    have n2 := n1.snoc (K2.mono (by omega)) (by omega) (by
      intro u hu b hb
      simp at hu
      subst hu
      exact hap12 b hb)
    have n3 := n2.snoc (K3.mono (by omega)) (by omega) (by
      intro u hu b hb e
      have h3 := hlt3 b e
      simp at hu
      rcases hu with rfl | rfl
      · have := hlt1 b hb; omega
      · have := hlt2 b hb; omega)
    exact n3.snoc (K4.mono (by omega)) (by omega) (by
      intro u hu b hb e
      have h4 := hlt4 b e
      simp at hu
      rcases hu with rfl | rfl | rfl
      · have := hlt1 b hb; omega
      · have := hlt2 b hb; omega
      · exact hap34 b hb e)
  have S10 := Aside.intro (Held.made hbn NI (by omega))
  clear E4 S9 hb hbn NI K1 K2 K3 K4 s1 hs1e s2 hs2e s3 hs3e s4 hs4e hbel M1 M2 M3 M4 hap12 hap34 hlt1 hlt2 hlt3 hlt4 A1 A2 A3 A4 A5 A6
  have T0 := hid (Held.take S10.out (by simp) a1 (ws q2).length c1)
  go_wp2_with fail
  refine (Calls.mono T0.out) ?_
  rintro r u11 ⟨rfl, hH⟩
  have S11 := Aside.intro hH
  clear T0 S10 hH
  have T1 := hid (Held.take S11.out (by simp) a2 (ws l).length c2)
  go_wp2_with fail
  refine (Calls.mono T1.out) ?_
  rintro r u12 ⟨rfl, hH⟩
  have S12 := Aside.intro hH
  clear T1 S11 hH
  have T2 := hid (Held.take S12.out (by simp) a3 (ws q2).length c3)
  go_wp2_with fail
  refine (Calls.mono T2.out) ?_
  rintro r u13 ⟨rfl, hH⟩
  have S13 := Aside.intro hH
  clear T2 S12 hH
  have T3 := hid (Held.take S13.out (by simp) a4 (ws l).length c4)
  go_wp2_with fail
  refine (Calls.mono T3.out) ?_
  rintro r u14 ⟨rfl, hH⟩
  have S14 := Aside.intro hH
  clear T3 S13 hH
  have OW := hid (Held.owned (vs := [Value.slice a1 (ws q2).length c1, Value.slice a2 (ws l).length c2, Value.slice a3 (ws q2).length c3, Value.slice a4 (ws l).length c4]) S14.out (by simp) (by simp))
  clear S14
  go_wp2_with fail
  refine (Calls.mono OW.out) ?_
  rintro r u15 ⟨rfl, hb⟩
  have S15 := Aside.intro hb
  clear hb OW
  go_wp2
  go_ret
  exact ⟨rfl, S15.out⟩
end Go.Proofs.YtikfabbfbfdpcaaDoor
