/- WideReads: the walk. -/
import Derived.Test.YtonhahbmdekkdaaDoorR2
import Derived.Test.YtonhahbmdekkdaaDoorR4
import Derived.Test.YtonhahbmdekkdaaDoorW32
import Derived.Test.YtonhahbmdekkdaaDoorW38
import Derived.Test.YtonhahbmdekkdaaDoorW60
namespace Go.Proofs.YtonhahbmdekkdaaDoor
open Go.RowKit
set_option linter.unusedVariables false
set_option maxRecDepth 20000
set_option linter.unusedSimpArgs false

theorem nth_memR {vs : List Value} {u : Value} (hu : u ∈ vs) : ∃ i, i < vs.length ∧ nth vs i = u := by
  obtain ⟨i, hi, e⟩ := List.getElem_of_mem hu
  exact ⟨i, hi, by simp [nth, List.getD_eq_getElem?_getD, hi, e]⟩
theorem Nice.ltR {lo : Nat} {w : World} {vs : List Value} (h : Nice lo w vs) {u : Value} (hu : u ∈ vs) (b : Nat) (hb : u.ownBlock = some b) : lo ≤ b ∧ b < w.heap.size := by
  obtain ⟨i, hi, e⟩ := nth_memR hu
  obtain ⟨ys, hy⟩ := h.rows i hi
  rw [e] at hy
  obtain ⟨h1, h2, _⟩ := Rw.lt hy b hb
  exact ⟨h1, h2⟩
theorem nth_inR {vs : List Value} {i : Nat} (hi : i < vs.length) : nth vs i ∈ vs := by
  simp [nth, List.getD_eq_getElem?_getD, hi]

/-- What has come out so far, and nothing below lo has turned. -/
structure Ldr (lo : Nat) (w0 w : World) (vs : List Value) : Prop where
  bel : Below lo w0 w
  size : lo ≤ w.heap.size
  nice : Nice lo w vs
theorem Ldr.start (w : World) : Ldr w.heap.size w w [] := ⟨Below.refl _ _, Nat.le_refl _, Nice.nil _ _⟩
theorem Ldr.below {lo : Nat} {w0 w u : World} {vs : List Value} (h : Ldr lo w0 w vs) (hb : Below w.heap.size w u) : Ldr lo w0 u vs :=
  ⟨h.bel.trans (hb.mono h.size), Nat.le_trans h.size hb.size, h.nice.keep (Keep.below hb)⟩
theorem Ldr.add {lo : Nat} {w0 w u : World} {vs : List Value} {v : Value} {X : Nat} (h : Ldr lo w0 w vs) (hb : Below w.heap.size w u) (hN : Nt w.heap.size u v X) (hs : (ws X).length ≤ 8192) : Ldr lo w0 u (vs ++ [v]) :=
  ⟨(h.below hb).bel, (h.below hb).size, (h.below hb).nice.snoc (hN.mono h.size) (by omega) fun x hx b e1 e2 => by
    have h1 := h.nice.ltR hx b e1
    have h2 := hN.lt b e2
    omega⟩
theorem Ldr.but {lo g : Nat} {w0 w w' : World} {vs : List Value} (h : Ldr lo w0 w vs) (hb : But g w w') (hg : lo ≤ g) (hv : ∀ v ∈ vs, v.ownBlock ≠ some g) : Ldr lo w0 w' vs :=
  ⟨But.below h.bel hb h.size hg, Nat.le_trans h.size hb.size, ⟨fun i hi => by
    obtain ⟨ys, hy⟩ := h.nice.rows i hi
    exact ⟨ys, row_other hy fun b hb2 => hb.block b (Rw.lt hy b hb2).2.1 (fun e => hv _ (nth_inR hi) (e ▸ hb2))⟩, h.nice.small, h.nice.apart⟩⟩

theorem Nt.butR {lo g : Nat} {w w' : World} {v : Value} {X : Nat} (h : Nt lo w v X) (hb : But g w w') (hg : v.ownBlock ≠ Option.some g) : Nt lo w' v X :=
  row_other h fun b hb2 => hb.block b (h.lt b hb2).2 (fun e => hg (e ▸ hb2))

set_option maxHeartbeats 16000000 in
set_option maxRecDepth 100000 in
theorem reads_core (aN : Option Addr) (nN cN : Nat) (xs : List Nat) (s : ByteArray) (w : World) (hT : Tab w) (w0 : Arg w aN nN cN xs) (bN : nN ≤ 1048576) (bs : s.size ≤ 1048576) (tt : ByteArray) (V : Nat) (er : Int) (lV : (ws V).length ≤ 8192)
    (HT1 : Hid (∀ (u : World) (p : Option Addr) (c : Nat), Below w.heap.size w u → Arg u p nN c xs → Calls Tryd.prog 11 #[.slice p nN c] u fun r w' => r = .returned (.string tt) ∧ Below u.heap.size u w'))
    (HT2 : Hid (∀ u, Below w.heap.size w u → Calls Tryd.prog 16 #[.slice aN nN cN] u fun r w' => r = .returned (.string tt) ∧ Below u.heap.size u w'))
    (HP1 : Hid (∀ u, Calls Tryd.prog 13 #[.string s] u fun r w' => (∃ v, r = .returned (.tuple #[v, .int .i64 er]) ∧ Nt u.heap.size w' v V) ∧ Below u.heap.size u w'))
    (HP2 : Hid (∀ u, Calls Tryd.prog 14 #[.string s] u fun r w' => (∃ v, r = .returned (.tuple #[v, .int .i64 er]) ∧ Nt u.heap.size w' v V) ∧ Below u.heap.size u w')) :
    Calls Tryd.prog 3 #[.slice aN nN cN, .string s] w fun r w' => r = .returned (.bool true) ∧ Below w.heap.size w w' := by
  have AW := hid (awake_any w hT)
  have HX := Aside.intro w0
  clear w0 hT
  go_enter Tryd.func3, Tryd.ntmps3
  go_wp2_with fail
  refine (Calls.mono AW.out) ?_
  rintro r U0 ⟨rfl, hb⟩
  have hs0 := hb.size
  have S0 := Aside.intro ((Ldr.start w).below hb)
  clear hb AW
  have A := HX.out.below S0.out.bel
  have H := hid (lent_any xs aN nN cN U0.heap.size U0 A.len A.cap (by omega) A.rd (Nat.le_refl _))
  clear A
  go_wp2_with fail
  refine (Calls.mono H.out) ?_
  rintro r U1 ⟨rfl, hO, hb⟩
  obtain ⟨g, hg⟩ : ∃ g, g = U0.heap.size := ⟨_, rfl⟩
  rw [← hg] at hO hb
  rw [← hg]
  have hs1 : g ≤ U1.heap.size := by have := hb.size; omega
  have hgl := hO.lt
  have hgw : w.heap.size ≤ g := by omega
  have LN : Ldr w.heap.size w U1 [] := by rw [hg] at hb; exact S0.out.below hb
  have S1 := (Aside.intro (And.intro LN hO))
  clear hb H LN hO S0 hg hs0
  have H := hid (HT1.out U1 (some ⟨g, 0, none⟩) (nN + 2) S1.out.1.bel (lent_arg HX.out.len (by omega) HX.out.wf S1.out.2))
  go_wp2_with fail
  refine (Calls.mono H.out) ?_
  rintro r U2 ⟨rfl, hb⟩
  have hs2 := hb.size
  have S2 := (Aside.intro (And.intro (S1.out.1.below hb) (S1.out.2.below hb S1.out.2.lt)))
  clear hb H S1
  have A := HX.out.below S2.out.1.bel
  have H := hid (asLent_any xs aN nN cN w.heap.size g U2 A.len A.cap (by omega) A.wf (HX.out.rd.below S2.out.1.bel) hgw S2.out.2)
  clear A
  go_wp2_with fail
  refine (Calls.mono H.out) ?_
  rintro r U3 ⟨rfl, hb⟩
  have hs3 := hb.size
  have LN : Ldr w.heap.size w U3 [] := S2.out.1.but hb hgw (fun v hv => (List.not_mem_nil hv).elim)
  have S3 := Aside.intro LN
  clear hb H LN S2
  have H := hid (HP1.out U3)
  go_wp2_with fail
  refine (Calls.mono H.out) ?_
  rintro r U4 ⟨⟨v, rfl, hN⟩, hb⟩
  obtain ⟨a4, c4, rfl, _⟩ := hN.arg (by omega)
  have hs4 := hb.size
  have LN := S3.out.add hb hN lV
  have NN := hN.mono (lo' := w.heap.size) S3.out.size
  have S4 := (Aside.intro (And.intro LN NN))
  clear hN hb H LN NN S3 
  have H := hid (HP1.out U4)
  go_wp2_with fail
  refine (Calls.mono H.out) ?_
  rintro r U5 ⟨⟨v, rfl, hN⟩, hb⟩
  obtain ⟨a5, c5, rfl, _⟩ := hN.arg (by omega)
  have hs5 := hb.size
  have LN := S4.out.1.add hb hN lV
  have M4 := S4.out.2.below hb
  have NN := hN.mono (lo' := w.heap.size) S4.out.1.size
  have S5 := (Aside.intro (And.intro LN (And.intro M4 NN)))
  clear hN hb H LN NN S4 M4
  have H := hid (HP2.out U5)
  go_wp2_with fail
  refine (Calls.mono H.out) ?_
  rintro r U6 ⟨⟨v, rfl, hN⟩, hb⟩
  obtain ⟨a6, c6, rfl, _⟩ := hN.arg (by omega)
  have hs6 := hb.size
  have LN := S5.out.1.below hb
  have M4 := S5.out.2.1.below hb
  have M5 := S5.out.2.2.below hb
  have NN := hN.mono (lo' := w.heap.size) S5.out.1.size
  have S6 := (Aside.intro (And.intro LN (And.intro M4 (And.intro M5 NN))))
  clear hN hb H LN NN S5 M4 M5
  have H := hid (same_arg (V := V) (S6.out.2.1.argR (by omega)) (S6.out.2.2.2.argR (by omega)))
  go_wp2_with fail
  refine (Calls.mono H.out) ?_
  rintro r V0 ⟨rfl, hb⟩
  have hsv0 := hb.size
  have L9 := S6.out.1.below hb
  have M4 := S6.out.2.1.below hb
  have M5 := S6.out.2.2.1.below hb
  have M6 := S6.out.2.2.2.below hb
  have T0 := (Aside.intro (And.intro L9 (And.intro M4 (And.intro M5 M6))))
  clear hb H L9 M4 M5 M6 S6
  have H := hid (same_arg (V := V) (T0.out.2.2.1.argR (by omega)) (T0.out.2.2.2.argR (by omega)))
  go_wp2_with fail
  refine (Calls.mono H.out) ?_
  rintro r V1 ⟨rfl, hb⟩
  have hsv1 := hb.size
  have L9 := T0.out.1.below hb
  have M4 := T0.out.2.1.below hb
  have M5 := T0.out.2.2.1.below hb
  have M6 := T0.out.2.2.2.below hb
  have T1 := (Aside.intro (And.intro L9 (And.intro M4 (And.intro M5 M6))))
  clear hb H L9 M4 M5 M6 T0
  have H := hid (HT2.out V1 T1.out.1.bel)
  go_wp2_with fail
  refine (Calls.mono H.out) ?_
  rintro r U7 ⟨rfl, hb⟩
  have hs7 := hb.size
  have LN := T1.out.1.below hb
  have S7 := Aside.intro LN
  clear hb H LN T1
  obtain ⟨U8, hU8⟩ : ∃ U, U = U7.alloc (.cells #[.slice none 0 0] 34) := ⟨_, rfl⟩
  have HD : Held w.heap.size w U8 U7.heap.size [] [.slice a4 (ws V).length c4, .slice a5 (ws V).length c5] := by rw [hU8]; exact Held.made S7.out.bel S7.out.nice S7.out.size
  have S8 := Aside.intro HD
  have H := hid (HD.take (by simp) a4 (ws V).length c4)
  clear HD S7
  go_wp2_with fail
  rw [← hU8]
  clear hU8
  refine (Calls.mono H.out) ?_
  rintro r U9 ⟨rfl, HD⟩
  have H2 := hid (HD.take (by simp) a5 (ws V).length c5)
  clear HD H S8
  go_wp2_with fail
  refine (Calls.mono H2.out) ?_
  rintro r U10 ⟨rfl, HD⟩
  have H3 := hid (Held.owned (vs := [.slice a4 (ws V).length c4, .slice a5 (ws V).length c5]) HD (by simp) (by simp))
  clear HD H2
  go_wp2_with fail
  refine (Calls.mono H3.out) ?_
  rintro r U11 ⟨rfl, hb⟩
  have SE := Aside.intro hb
  clear hb H3
  go_wp2
  go_ret
  exact ⟨rfl, SE.out⟩

theorem parseS_len (B : List Nat) : (ws (parseS B).1).length ≤ 8192 := by
  have z0 : (ws 0).length ≤ 8192 := by rw [ws_zero]; exact Nat.zero_le _
  unfold parseS
  split
  · exact z0
  · split
    · exact z0
    · rename_i h; unfold LG at h; show (ws (pn B B.length)).length ≤ 8192; omega

theorem walk_WideReads (aN : Option Addr) (nN cN : Nat) (xs : List Nat) (s : ByteArray) (w : World) (hT : Tab w) (w0 : Came w aN nN cN xs) (w1 : s.size ≤ maxLen) (bN : nN ≤ 1048576) (bs : s.size ≤ 1048576) :
    Calls Tryd.prog 3 #[.slice aN nN cN, .string s] w fun r w' => r = .returned (.bool true) ∧ Below w.heap.size w w' := by
  have A := w0.arg (by omega)
  have hl : (ws (val xs)).length ≤ nN := by
    have h := val_lt xs A.wf
    rw [← A.len] at h
    exact (ws_len_le _ _).2 h
  exact reads_core aN nN cN xs s w hT A bN bs (txs (val xs)) (parseS (ltr s)).1 (parseS (ltr s)).2 (parseS_len _)
    (hid fun u p c hu hA => text_any xs p nN c u.heap.size u hA.len hA.cap (by omega) hA.wf hA.rd (Nat.le_refl _) (by omega))
    (hid fun u hu => rText_any (A.below hu) (by omega))
    (hid fun u => Parse_any s u (by omega))
    (hid fun u => rParse_any s u (by omega))
end Go.Proofs.YtonhahbmdekkdaaDoor
