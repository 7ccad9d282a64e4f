/- Text: a Nat's decimal digits. -/
import Derived.Test.YtonhahbmdekkdaaDoorW24
import Derived.Test.YtonhahbmdekkdaaDoorW27x
import Derived.Laws.IdiomStrings
namespace Go.Proofs.YtonhahbmdekkdaaDoor
open Go.RowKit
set_option linter.unusedVariables false
set_option maxRecDepth 20000

/-- A byte as a cell; a row of bytes of one's own. -/
def U8 (n : Nat) : Value := .int .u8 (n : Int)
def OwnB (w : World) (g : Nat) (L : List Nat) : Prop := w.heap[g]? = some (.cells (L.map U8).toArray 5 (0, 0))
theorem OwnB.lt {w : World} {g : Nat} {L : List Nat} (h : OwnB w g L) : g < w.heap.size := (Array.getElem?_eq_some_iff.1 h).1
theorem OwnB.cell {w : World} {g : Nat} {L : List Nat} (h : OwnB w g L) (i : Nat) (hi : i < L.length) : w.cell? ⟨g, i, none⟩ = some (.int .u8 ((L.getD i 0 : Nat) : Int)) := by
  unfold OwnB at h; simp [World.cell?, h, U8, hi]
theorem OwnB.frozen {w : World} {g : Nat} {L : List Nat} (h : OwnB w g L) (i : Nat) : w.frozen? ⟨g, i, none⟩ = false := by
  unfold OwnB at h; simp [World.frozen?, h]
theorem OwnB.set {w : World} {g : Nat} {L : List Nat} (h : OwnB w g L) (i x : Nat) : OwnB (w.setCell ⟨g, i, none⟩ (.int .u8 (x : Int))) g (L.set i x) := by
  unfold OwnB at h ⊢
  simp only [World.setCell, Array.getElem?_modify, h]
  simp [U8, List.map_set]
theorem OwnB.but {w w' : World} {g k : Nat} {L : List Nat} (h : OwnB w k L) (hb : But g w w') (hk : k ≠ g) : OwnB w' k L := by
  have := h.lt
  unfold OwnB at h ⊢
  rw [hb.block k this hk]; exact h
theorem OwnB.made (w : World) (n : Nat) : OwnB (w.alloc (.cells (madeCells #[.int .u8 0] n) 5)) w.heap.size (List.replicate n 0) := by
  unfold OwnB
  rw [heap_alloc_new]
  congr 2
  apply Array.toList_inj.1
  rw [toList_madeCells_one]
  simp [U8]
theorem Tryd.info5 : (Tryd.prog.info? 5).map (fun i => (i.zero, i.size, i.bytes)) = some (some (.int .u8 0), 1, 1) := by kernel_rfl
theorem make_bytes (z : Int) (n : Nat) (hz : z = (n : Int)) (hn : n ≤ 281474976710656) (w : World) :
    (Instr.makeSlice 76 (.int .i64 z) (.int .i64 z)).run Tryd.prog w = .ok (.slice (some ⟨w.heap.size, 0, none⟩) n n) (w.alloc (.cells (madeCells #[.int .u8 0] n) 5)) := by
  subst hz
  exact run_make_row' 76 5 (.int .u8 0) 1 Tryd.underlying76 Tryd.info5 rfl .i64 .i64 n (by omega) (by omega) w

theorem OwnB.set' {w : World} {g : Nat} {L : List Nat} (h : OwnB w g L) (i x : Nat) (y : Int) (hy : y = (x : Int)) : OwnB (w.setCell ⟨g, i, none⟩ (.int .u8 y)) g (L.set i x) := by
  subst hy; exact h.set i x
theorem OwnB.setOther {w : World} {g : Nat} {L : List Nat} (h : OwnB w g L) {a : Addr} (ha : a.block ≠ g) (u : Value) : OwnB (w.setCell a u) g L := by
  unfold OwnB at h ⊢
  rw [Below.heap_setCell _ _ _ _ (fun e => ha e.symm)]
  exact h

theorem high_zero (L : List Nat) (k : Nat) (hL : Wf L) (hk : nl L = k) : sg L 0 k = val L ∧ sg L k (L.length - k) = 0 := by
  have h1 := val_form L hL
  rw [hk, ← sg_val_take] at h1
  have hl := nl_le L
  refine ⟨h1, ?_⟩
  have h2 := sg_add L 0 k (L.length - k) (by omega)
  rw [show k + (L.length - k) = L.length by omega, sg_all, Nat.zero_add, h1] at h2
  have hp := pw_pos k
  rcases Nat.eq_zero_or_pos (sg L k (L.length - k)) with h | h
  · exact h
  · exfalso
    have := Nat.mul_pos hp h
    omega

/-- What a quotient in place leaves above. -/
theorem cut_val (L M : List Nat) (k : Nat) (hL : Wf L) (hM : Wf M) (hk : nl L = k) (ho : Out L M 0 k) : sg M 0 k = val M ∧ nl (M.take k) = nl M := by
  obtain ⟨h1, h2⟩ := high_zero L k hL hk
  have hl := nl_le L
  have h3 : sg M k (L.length - k) = 0 := by rw [ho.above k _ (by omega) (by omega)]; exact h2
  have h4 := sg_add M 0 k (L.length - k) (by rw [ho.1]; omega)
  rw [show k + (L.length - k) = M.length by rw [ho.1]; omega, sg_all, Nat.zero_add, h3, Nat.mul_zero, Nat.add_zero] at h4
  refine ⟨h4.symm, ?_⟩
  rw [nl_eq_length _ (hM.take k), nl_eq_length M hM, ← sg_val_take, ← h4]

/-- The cells from a on are these digits, as letters. -/
def Digs (T : List Nat) (a : Nat) (D : List Nat) : Prop := a + D.length = T.length ∧ Dg D ∧ ∀ i, i < D.length → T.getD (a + i) 0 = 48 + D.getD i 0

theorem Digs.put {T : List Nat} {a : Nat} {D : List Nat} (h : Digs T (a + 1) D) (d : Nat) (hd : d < 10) : Digs (T.set a (48 + d)) a (d :: D) := by
  obtain ⟨h1, h2, h3⟩ := h
  refine ⟨by simp; omega, Dg.cons hd h2, fun i hi => ?_⟩
  rcases i with _ | i
  · rw [Nat.add_zero, getD_set_same _ _ _ (by omega)]; simp
  · rw [getD_set_ne _ _ _ _ (by omega), show a + (i + 1) = a + 1 + i by omega, h3 i (by simpa using hi)]; simp

theorem Digs.skip {T : List Nat} {a d : Nat} {D : List Nat} (h : Digs T a (d :: D)) : Digs T (a + 1) D := by
  obtain ⟨h1, h2, h3⟩ := h
  refine ⟨by simp at h1; omega, h2.tail, fun i hi => ?_⟩
  rw [show a + 1 + i = a + (i + 1) by omega, h3 (i + 1) (by simpa using hi)]; simp

set_option maxHeartbeats 8000000 in
theorem text_any (xs : List Nat) (ao : Option Addr) (n cap B : Nat) (w : World) (hn : n = xs.length) (hc : n ≤ cap) (hbig : n ≤ 70368744177664) (hx : Wf xs) (hR : Rd B w ao xs) (hB : B ≤ w.heap.size) (hsm : (ws (val xs)).length ≤ 17592186044416) :
    Calls Tryd.prog 11 #[.slice ao n cap] w fun r w' => r = .returned (.string (txs (val xs))) ∧ Below w.heap.size w w' := by
  have N0 := norm_any xs ao n cap B w hn hc (by omega) hx hR hB
  have hlen : (ws (val xs)).length ≤ n := by rw [← nl_eq_length xs hx, hn]; exact nl_le xs
  obtain ⟨X, hX⟩ : ∃ X, val xs = X := ⟨_, rfl⟩
  rw [hX] at N0 hlen hsm ⊢
  by_cases h0 : X = 0
  · subst h0
    rw [ws_zero] at N0
    have N := hid N0
    clear N0 hlen hn hx hR hX
    go_enter Tryd.func11, Tryd.ntmps11
    go_wp2_with fail
    refine (Calls.mono N.out) ?_
    rintro r w1 ⟨rfl, hO, hb⟩
    have HB := (Aside.intro hb)
    clear hO hb N
    go_wp2
    go_ret
    exact ⟨rfl, HB.out⟩
  · obtain ⟨K, hK⟩ : ∃ K, (ws X).length = K := ⟨_, rfl⟩
    have hK0 : K ≠ 0 := fun e => h0 ((ws_len_zero X).1 (by omega))
    rw [hK] at N0 hlen hsm
    have N := hid N0
    have hKne : ((K : Int) == 0) = false := by simp; omega
    have hXK : X < pw K := by rw [← hK]; exact ws_len_lt X
    have HH := (Aside.intro (And.intro hK (And.intro h0 hXK)))
    have hK1 : 1 ≤ K := by omega
    clear N0 hn hx hR hX h0 hK hK0 hXK
    go_enter Tryd.func11, Tryd.ntmps11
    go_wp2_with fail
    refine (Calls.mono N.out) ?_
    rintro r w1 ⟨rfl, hO1, hb1⟩
    obtain ⟨g0, hg0⟩ : ∃ g, g = w.heap.size := ⟨_, rfl⟩
    rw [← hg0] at hO1
    obtain ⟨gt, hgt⟩ : ∃ g, g = w1.heap.size := ⟨_, rfl⟩
    obtain ⟨W2, hW2⟩ : ∃ W, W = w1.alloc (.cells (madeCells #[.int .u8 0] (10 * K + 9)) 5) := ⟨_, rfl⟩
    have hT2 : OwnB W2 gt (List.replicate (10 * K + 9) 0) := by rw [hW2, hgt]; exact OwnB.made w1 _
    have hO2 : Own W2 g0 (ws X) := by rw [hW2]; exact hO1.alloc _
    have hlt1 := hO1.lt
    have hb2 : Below g0 w W2 := by rw [hW2, hg0]; exact hb1.alloc (by omega) _
    have hmk := make_bytes (10 * (K : Int) + 9) (10 * K + 9) (by omega) (by omega) w1
    rw [← hW2, ← hgt] at hmk
    have hg01 : g0 < gt := by omega
    have H1 := (Aside.intro (And.intro hT2 (And.intro hO2 (And.intro hb2 (And.intro hg0 hg01)))))
    rw [← hg0]
    clear hO1 hb1 hT2 hO2 hb2 hW2 hgt hg0 N hlt1
    go_wp2
    go_loopg [3, 5] X (fun gk rv av wr => ∃ (L T D : List Nat) (k a : Nat), rv = .slice (some ⟨g0, 0, none⟩) k K ∧ av = .int .i64 (a : Nat) ∧ k ≤ K ∧ a ≤ 10 * K + 9 ∧
        Aside (Own wr g0 L ∧ OwnB wr gt T ∧ Wf L ∧ L.length = K ∧ nl L = k ∧ T.length = 10 * K + 9 ∧ Digs T a D ∧ num D + 10 ^ D.length * val L = X ∧ gk = val L ∧ Below g0 w wr))
    case atStart =>
      obtain ⟨hT2, hO2, hb2, hg0, hg01'⟩ := H1.out
      obtain ⟨hK, h0, hXK⟩ := HH.out
      refine ⟨ws X, List.replicate (10 * K + 9) 0, [], K, 10 * K + 9, rfl, by first | rfl | go_num, Nat.le_refl _, Nat.le_refl _, hO2, hT2, wf_ws X, hK, by rw [nl_ws]; exact hK, by simp, ⟨by simp, Dg.nil, fun i hi => by simp at hi⟩, by simp [num_nil, val_ws], (val_ws X).symm, hb2⟩
    case round =>
      obtain ⟨L, T, D, k, a, rfl, rfl, hkK, haN, HA⟩ := hrel
      by_cases hk0 : k = 0
      · subst hk0
        have HD : Aside (∃ D, Digs T a D ∧ num D = X) := by
          obtain ⟨hO, hT, hLw, hLl, hnl, hTl, hDg, hsum, hgk, hbel⟩ := HA.out
          refine ⟨D, hDg, ?_⟩
          have : val L = 0 := (nl_zero_iff L).1 hnl
          rw [this] at hsum
          omega
        go_wp2
        go_loopg [5] (10 * K + 9 - a) (fun g2 av w2 => ∃ (a : Nat), av = .int .i64 (a : Nat) ∧ g2 + a = 10 * K + 9 ∧ w2 = wr ∧ Aside (∃ D, Digs T a D ∧ num D = X))
        case atStart => exact ⟨a, rfl, by omega, rfl, HD.out⟩
        case round =>
          clear HD
          obtain ⟨a2, rfl, hga, rfl, HD⟩ := hrel
          obtain ⟨D2, hDg2, hnum⟩ := HD.out
          obtain ⟨hO, hT, hLw, hLl, hnl, hTl, hDg, hsum, hgk, hbel⟩ := HA.out
          obtain ⟨hK, h0, hXK⟩ := HH.out
          rcases D2 with _ | ⟨d, D2⟩
          · exfalso; rw [num_nil] at hnum; omega
          · have hl2 := hDg2.1
            have hdd := hDg2.2.1.head
            have hc0 := hDg2.2.2 0 (by simp)
            rw [Nat.add_zero] at hc0
            have hgc := hT.cell a2 (by simp at hl2; omega)
            rw [hc0] at hgc
            simp only [List.getD_cons_zero] at hgc
            have haN2 : a2 < 10 * K + 9 := by simp at hl2; omega
            by_cases hd0 : d = 0
            · subst hd0
              rw [Nat.add_zero] at hgc
              have HS := (Aside.intro (And.intro hDg2 hnum))
              clear hO hT hLw hLl hnl hTl hDg hsum hgk hbel hK h0 hXK hDg2 hnum hl2 hdd hc0
              go_wp2
              go_roundg (gk - 1)
              case measure => omega
              case rel =>
                obtain ⟨hDg2, hnum⟩ := HS.out
                exact ⟨a2 + 1, by go_num, by omega, rfl, D2, hDg2.skip, by rw [num_zero] at hnum; exact hnum⟩
            · obtain ⟨y, hy⟩ : ∃ y, y = 48 + d := ⟨_, rfl⟩
              rw [← hy] at hgc
              have hyne : ((y : Int) == 48) = false := by simp; omega
              have hhd := hd_unique d D2 hDg2.2.1 hd0
              rw [hnum] at hhd
              have hlen2 : (tx X).length = 10 * K + 9 - a2 := by
                unfold tx; rw [List.length_map, ← hhd]; omega
              have hcv := run_convert_bytes_back (P := Tryd.prog) wr 76 9 5 ⟨gt, a2, none⟩ (10 * K + 9 - a2) (tx X) Tryd.underlying76 Tryd.underlying5 Tryd.underlying9 (by
                intro j hj
                have hadd : (⟨gt, a2, none⟩ : Addr).add j = ⟨gt, a2 + j, none⟩ := by unfold Addr.add; split <;> simp_all
                have hj2 : j < (d :: D2).length := by rw [hlen2] at hj; omega
                rw [hadd, hT.cell (a2 + j) (by omega), hDg2.2.2 j hj2]
                have hdj : (d :: D2).getD j 0 < 10 := by
                  rw [List.getD_eq_getElem?_getD, List.getElem?_eq_getElem hj2]; exact hDg2.2.1 _ (List.getElem_mem hj2)
                have e1 : (tx X)[j] = UInt8.ofNat (48 + (d :: D2).getD j 0) := by
                  simp only [tx, List.getElem_map, ← hhd]
                  rw [List.getD_eq_getElem?_getD, List.getElem?_eq_getElem hj2]; rfl
                rw [e1]
                congr 2
                rw [UInt8.toNat_ofNat_of_lt' (by show 48 + (d :: D2).getD j 0 < 256; omega)])
              rw [hlen2] at hcv
              have hbel' := hid hbel
              clear hO hT hLw hLl hnl hTl hDg hsum hgk hbel hK h0 hXK hDg2 hnum hl2 hdd hc0 hhd hlen2 hy hd0
              go_wp2
              go_ret
              have hg0 := H1.out.2.2.2.1
              exact ⟨rfl, by first | exact hbel'.out | (rw [← hg0]; exact hbel'.out)⟩
      · obtain ⟨hO, hT, hLw, hLl, hnl, hTl, hDg, hsum, hgk, hbel⟩ := HA.out
        obtain ⟨hK, h0, hXK⟩ := HH.out
        have hV0 : 0 < val L := by
          rcases Nat.eq_zero_or_pos (val L) with h | h
          · exfalso; have := (nl_zero_iff L).2 h; omega
          · exact h
        have hroom := digits_room X D.length (val L) K hXK hV0 (by omega)
        have ha9 : 10 ≤ a := by have := hDg.1; omega
        have C := hid (cut_any L g0 0 k K 1000000000 wr hO (by omega) hkK (by omega) hLw (by omega) (by omega))
        have hkp : (0 : Int) < (k : Int) := by omega
        clear hO hT hLw hLl hnl hTl hDg hsum hgk hbel hK h0 hXK hV0 hroom hk0
        go_wp2_with fail
        refine (Calls.mono C.out) ?_
        rintro r w3 ⟨M, c, rfl, hc, hOM, hMw, hout, hcut, hbut⟩
        obtain ⟨hO, hT, hLw, hLl, hnl, hTl, hDg, hsum, hgk, hbel⟩ := HA.out
        obtain ⟨hMv, hMn⟩ := cut_val L M k hLw hMw hnl hout
        have T1 := trim_any (M.take k) (some ⟨g0, 0, none⟩) k K (g0 + 1) w3 (by rw [List.length_take, hout.1]; omega) hkK (by omega) (by simpa using Rd.ofOwn hOM 0 k)
        rw [hMn] at T1
        have TT := hid T1
        have hTw3 := hT.but hbut (by omega)
        have hcut2 : val L = val M * 1000000000 + c := by
          have := (high_zero L k hLw hnl).1
          rw [this, hMv] at hcut
          exact hcut
        have hlt3 : val M < val L := by
          have : 0 < val L := by
            rcases Nat.eq_zero_or_pos (val L) with h | h
            · exfalso; have := (nl_zero_iff L).2 h; omega
            · exact h
          omega
        have hMl : M.length = K := by rw [hout.1]; exact hLl
        have hnM := nl_le M
        have H3 := (Aside.intro (And.intro hOM (And.intro hMw (And.intro hTw3 (And.intro hcut2 (And.intro hlt3 (And.intro hMl (And.intro hbut hnM))))))))
        clear hO hT hLw hLl hnl hTl hDg hsum hgk hbel hOM hMw hout hcut hbut hMv hMn T1 hTw3 hcut2 hlt3 hMl hnM C
        go_wp2_with fail
        refine (Calls.mono TT.out) ?_
        rintro r w4 ⟨rfl, rfl⟩
        clear TT
        go_wp2
        go_loopg [5, 6, 26] 9 (fun g2 av pv iv w2 => ∃ (i p b : Nat) (T2 D2 : List Nat), g2 + i = 9 ∧ av = .int .i64 (b : Nat) ∧ pv = .int .u32 (p : Nat) ∧ iv = .int .i64 (i : Nat) ∧ p < 1000000000 ∧ b + i = a ∧
            Aside (OwnB w2 gt T2 ∧ T2.length = 10 * K + 9 ∧ Digs T2 b D2 ∧ D2.length = D.length + i ∧ p < 10 ^ (9 - i) ∧ num D2 + 10 ^ (D.length + i) * (p + 10 ^ (9 - i) * val M) = X ∧ But gt w4 w2))
        case atStart =>
          obtain ⟨hO, hT, hLw, hLl, hnl, hTl, hDg, hsum, hgk, hbel⟩ := HA.out
          obtain ⟨hOM, hMw, hTw3, hcut2, hlt3, hMl, hbut, hnM⟩ := H3.out
          refine ⟨0, c, a, T, D, rfl, rfl, rfl, rfl, hc, rfl, hTw3, hTl, hDg, rfl, hc, ?_, But.refl _ _⟩
          rw [Nat.add_zero, Nat.sub_zero, ← hsum, hcut2, Nat.mul_comm (val M), show (10 : Nat) ^ 9 = 1000000000 from rfl, Nat.add_comm c]
        case round =>
          obtain ⟨i, p, b, T2, D2, hg2, rfl, rfl, rfl, hp, hbi, HB⟩ := hrel
          by_cases hi : i < 9
          · obtain ⟨hT2, hT2l, hD2, hD2l, hpl, hsum2, hbut2⟩ := HB.out
            obtain ⟨b', rfl⟩ : ∃ b', b = b' + 1 := ⟨b - 1, by omega⟩
            obtain ⟨d, hd⟩ : ∃ d, d = p % 10 := ⟨_, rfl⟩
            obtain ⟨p2, hp2⟩ : ∃ q, q = p / 10 := ⟨_, rfl⟩
            have e1 : (p : Int) % 10 = (d : Int) := by omega
            have e2 : (p : Int) / 10 = (p2 : Int) := by omega
            have hd10 : d < 10 := by omega
            have hd10i : (d : Int) < 10 := by omega
            have hgc := hT2.cell b' (by omega)
            have hgf := hT2.frozen b'
            have hp2l : p2 < 1000000000 := by omega
            have hbN : b' < 10 * K + 9 := by omega
            have HX := (Aside.intro (And.intro hd hp2))
            clear hT2 hT2l hD2 hD2l hpl hsum2 hbut2 hd hp2
            go_wp2
            go_roundg (gk - 1)
            case measure => omega
            case rel =>
              obtain ⟨hd, hp2⟩ := HX.out
              obtain ⟨hT2, hT2l, hD2, hD2l, hpl, hsum2, hbut2⟩ := HB.out
              refine ⟨i + 1, p2, b', T2.set b' (48 + d), d :: D2, by omega, by first | go_num | (congr 1; omega), by first | rfl | go_num, by go_num, hp2l, by omega, hT2.set' b' (48 + d) _ (by omega), by simp [hT2l], hD2.put d hd10, by simp; omega, ?_, ?_, hbut2.set _ _⟩
              · rw [hp2]
                rw [show 9 - i = 9 - (i + 1) + 1 by omega, Nat.pow_succ] at hpl
                exact (Nat.div_lt_iff_lt_mul (by decide)).2 hpl
              · rw [num_cons, hD2l, hd, hp2]
                exact piece_step (num D2) p (val M) i D.length hi X hsum2
          · obtain rfl : i = 9 := by omega
            go_wp2
            go_roundg (val M)
            case measure =>
              obtain ⟨hO, hT, hLw, hLl, hnl, hTl, hDg, hsum, hgk, hbel⟩ := HA.out
              obtain ⟨hOM, hMw, hTw3, hcut2, hlt3, hMl, hbut, hnM⟩ := H3.out
              omega
            case rel =>
              obtain ⟨hO, hT, hLw, hLl, hnl, hTl, hDg, hsum, hgk, hbel⟩ := HA.out
              obtain ⟨hOM, hMw, hTw3, hcut2, hlt3, hMl, hbut, hnM⟩ := H3.out
              obtain ⟨hT2, hT2l, hD2, hD2l, hpl, hsum2, hbut2⟩ := HB.out
              rw [Nat.sub_self, Nat.pow_zero] at hpl hsum2
              obtain rfl : p = 0 := by omega
              have hs3 := hbut.size
              have hg3 := hOM.lt
              refine ⟨M, T2, D2, nl M, b, rfl, rfl, by omega, by omega, hOM.but hbut2 (by omega), hT2, hMw, hMl, rfl, hT2l, hD2, ?_, rfl, ?_⟩
              · rw [hD2l, ← hsum2]; simp
              · exact But.below (But.below hbel hbut (by have := hO.lt; omega) (Nat.le_refl _)) hbut2 (by omega) (by omega)
end Go.Proofs.YtonhahbmdekkdaaDoor
