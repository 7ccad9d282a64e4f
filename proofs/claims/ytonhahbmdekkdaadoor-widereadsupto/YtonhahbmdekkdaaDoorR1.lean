/- The document's Parse. -/
import Derived.Test.YtonhahbmdekkdaaDoorW30
import Derived.Test.YtonhahbmdekkdaaDoorW40
namespace Go.Proofs.YtonhahbmdekkdaaDoor
open Go.RowKit
set_option linter.unusedVariables false
set_option maxRecDepth 20000
set_option linter.unusedSimpArgs false

theorem pn_mono (B : List Nat) (k : Nat) : ∀ j, k + j ≤ B.length → pn B k ≤ pn B (k + j)
  | 0, _ => Nat.le_refl _
  | j + 1, h => by
    have h1 := pn_mono B k j (by omega)
    rw [show k + (j + 1) = k + j + 1 by omega, pn_succ B (k + j) (by omega)]
    omega
theorem pn_long (B : List Nat) (k : Nat) (hk : k ≤ B.length) (h : LG (pn B k)) : LG (pn B B.length) := by
  have h1 := pn_mono B k (B.length - k) (by omega)
  rw [show k + (B.length - k) = B.length by omega] at h1
  have h2 := (ws_len_le (pn B B.length) 8192)
  have h3 := (ws_len_le (pn B k) 8192)
  unfold LG at h ⊢
  rcases Nat.lt_or_ge 8192 (ws (pn B B.length)).length with q | q
  · exact q
  · have := h2.1 q
    have := h3.2 (by omega)
    omega
theorem parse_one (B : List Nat) (h0 : 0 < B.length) (hh : B.getD 0 0 ≠ 48 ∨ B.length = 1) (hok : okd B B.length) : parseS B = if LG (pn B B.length) then (0, 2) else (pn B B.length, 0) := by
  unfold parseS
  rw [if_neg]
  rintro (h | ⟨h1, h2⟩ | h)
  · subst h; simp at h0
  · rcases hh with k | k
    · exact k h1
    · omega
  · exact h (okd_all B hok)

set_option maxHeartbeats 8000000 in
theorem rparse_a (s : ByteArray) (w : World) (h2 : ¬ s.toList = []) (h3 : 0 < s.size) (h4 : s.toList.isEmpty = false) (h5 : (((s[0]'h3).toNat : Int) == 48) = false) (hbig : s.size ≤ 2000000) :
    Calls Tryd.prog 14 #[.string s] w fun r w' => One w.heap.size w' r (parseS (ltr s)) ∧ Below w.heap.size w w' := by
  obtain ⟨i0, hi, hz0, hz1, hz2⟩ := info_parts Tryd.info63
  have hh : (ltr s).getD 0 0 ≠ 48 ∨ (ltr s).length = 1 := by
    left; rw [ltr_get s 0 h3]; intro e; rw [e] at h5; exact absurd h5 (by decide)
  have HF := (Aside.intro (And.intro hh h3))
  have h3i : (0 : Int) < (s.size : Int) := by omega
  clear hh
  go_enter Tryd.func14, Tryd.ntmps14
  go_wp2
  clear h2 h4 h5 
  go_loopg [4] s.size (fun gk iv wr => ∃ k : Nat, gk + k = s.size ∧ iv = .int .i64 (k : Nat) ∧ wr = w ∧ Aside (okd (ltr s) k))
  case atStart => exact ⟨0, by omega, rfl, rfl, fun j hj => by omega⟩
  case round =>
    obtain ⟨k, hgk, rfl, hw, HA⟩ := hrel
    rw [hw]
    clear hw wr
    by_cases hk : k < s.size
    · obtain ⟨x, hx⟩ : ∃ x, (s[k]'hk).toNat = x := ⟨_, rfl⟩
      have hx256 : x < 256 := by rw [← hx]; exact (s[k]'hk).toNat_lt
      have hxl : (ltr s).getD k 0 = x := by rw [ltr_get s k hk, hx]
      have hki : (k : Int) < (s.size : Int) := by omega
      have HX := (Aside.intro (And.intro hxl hk))
      clear hxl
      by_cases hlow : x < 48
      · have hlow1 : (x : Int) < 48 := by omega
        have HP : Aside (parseS (ltr s) = (0, 5)) := parse_bad (ltr s) k (by rw [ltr_len]; exact hk) (by rw [HX.out.1]; omega)
        go_wp2
        try rw [Exit.noGoto_ret]
        go_ret2
        rw [HP.out]
        exact ⟨⟨_, rfl, Nt.nil _ _⟩, Below.refl _ _⟩
      · by_cases hhigh : 57 < x
        · have hlow1 : (48 : Int) ≤ (x : Int) := by omega
          have hlow2 : decide ((x : Int) < 48) = false := decide_eq_false (by omega)
          have hhigh1 : (57 : Int) < (x : Int) := by omega
          have HP : Aside (parseS (ltr s) = (0, 5)) := parse_bad (ltr s) k (by rw [ltr_len]; exact hk) (by rw [HX.out.1]; omega)
          go_wp2
          try rw [Exit.noGoto_ret]
          go_ret2
          rw [HP.out]
          exact ⟨⟨_, rfl, Nt.nil _ _⟩, Below.refl _ _⟩
        · have hlow1 : (48 : Int) ≤ (x : Int) := by omega
          have hhigh1 : (x : Int) ≤ 57 := by omega
          have hlow2 : decide ((x : Int) < 48) = false := decide_eq_false (by omega)
          have hhigh2 : decide ((57 : Int) < (x : Int)) = false := decide_eq_false (by omega)
          go_wp2
          go_roundg (gk - 1)
          case measure => omega
          case rel =>
            refine ⟨k + 1, by omega, by first | go_num | (congr 1; omega), rfl, fun j hj => ?_⟩
            by_cases hjk : j = k
            · subst hjk; rw [HX.out.1]; omega
            · exact HA.out j (by omega)
    · obtain rfl : k = s.size := by omega
      have HOK := (Aside.intro HA.out)
      clear HA hgk
      go_wp2
      go_loopg [5, 6] s.size (fun gk nv iv w2 => ∃ (k Y : Nat) (an : Option Addr) (cn : Nat), gk + k = s.size ∧ nv = .slice an (ws Y).length cn ∧ iv = .int .i64 (k : Nat) ∧ (ws Y).length ≤ 8192 ∧ Aside (Y = pn (ltr s) k ∧ Nt w.heap.size w2 (.slice an (ws Y).length cn) Y ∧ Below w.heap.size w w2))
      case atStart =>
        refine ⟨0, 0, none, 0, by omega, by rw [ws_zero]; rfl, rfl, by rw [ws_zero]; exact Nat.zero_le _, by simp [pn, num_nil], ?_, Below.refl _ _⟩
        rw [ws_zero]; exact Nt.nil _ _
      case round =>
        obtain ⟨k, Y, an, cn, hgk, rfl, rfl, hlen, HA⟩ := hrel
        by_cases hk : k < s.size
        · obtain ⟨x, hx⟩ : ∃ x, (s[k]'hk).toNat = x := ⟨_, rfl⟩
          have hxl : (ltr s).getD k 0 = x := by rw [ltr_get s k hk, hx]
          have hxr := HOK.out k hk
          rw [hxl] at hxr
          have hki : (k : Int) < (s.size : Int) := by omega
          have hx0 : (48 : Int) ≤ (x : Int) := by omega
          have hx1 : (x : Int) ≤ 57 := by omega
          obtain ⟨dg, hdg⟩ : ∃ dg : Nat, dg = x - 48 := ⟨_, rfl⟩
          have e8 : IntKind.u8.wrap ((x : Int) - 48) = (dg : Int) := by rw [IntKind.wrap_u8]; omega
          have e8' : (x : Int) - 48 = (dg : Int) := by omega
          have hdg9 : dg ≤ 9 := by omega
          obtain ⟨m, hm⟩ : ∃ m, (ws Y).length = m := ⟨_, rfl⟩
          have hpn : pn (ltr s) (k + 1) = Y * 10 + dg := by rw [pn_succ _ _ (by rw [ltr_len]; exact hk), hxl, ← HA.out.1, ← hdg]; omega
          have hge : m = 0 ∨ pw (m - 1) ≤ Y * 10 + dg := by
            by_cases h0 : Y = 0
            · left; rw [← hm, h0, ws_zero]; rfl
            · right
              have := ws_len_ge Y h0
              rw [hm] at this
              omega
          have HX := (Aside.intro (And.intro hpn (And.intro hm (And.intro hge hk))))
          rw [hm] at HA hlen ⊢
          clear hxl hxr hdg hpn hm hge
          go_wp2
          go_loopg [7, 8] m (fun g3 c i wq => ∃ (j cv : Nat) (M : List Nat), g3 + j = m ∧ c = .int .u64 (cv : Nat) ∧ cv < 4294967296 ∧ i = .int .i64 (j : Nat) ∧
              Aside (wq.ownsRow w.heap.size 63 1 (.slice an m cn) m (M.map U) ∧ Wf M ∧ Out (ws Y) M 0 j ∧ sg M 0 j + cv * pw j = sg (ws Y) 0 j * 10 + dg ∧ Below w.heap.size w wq))
          case atStart =>
            obtain ⟨hY, hN, hb⟩ := HA.out
            obtain ⟨hpn, hm, hge, hk'⟩ := HX.out
            refine ⟨0, dg, ws Y, by omega, by first | rfl | go_num, by omega, rfl, ?_, wf_ws Y, Out.refl _ _ _, by simp [sg_zero, pw_zero], hb⟩
            unfold Nt at hN
            rw [hm] at hN
            exact hN
          case round =>
            obtain ⟨j, cv, M, hgj, rfl, hcv, rfl, HB⟩ := hrel
            by_cases hj : j < m
            · obtain ⟨hown, hMw, hMo, hMs, hbel⟩ := HB.out
              obtain ⟨hpn, hm, hge, hk'⟩ := HX.out
              have hMl : M.length = m := by rw [hMo.1]; exact hm
              obtain ⟨g, hao⟩ : ∃ g, an = some ⟨g, 0, none⟩ := by
                rcases hown.2 with ⟨e, h0⟩ | ⟨g, cp, cur, e, _⟩
                · omega
                · cases e; exact ⟨g, rfl⟩
              subst hao
              have HP : Pre w.heap.size wr g m cn M := hown
              have hgc := HP.cell j hj
              have hgf := HP.frozen j
              obtain ⟨y, hy⟩ : ∃ y : Nat, M.getD j 0 = y := ⟨_, rfl⟩
              have hyl : y < 4294967296 := hy ▸ hMw.get _
              rw [hy] at hgc
              obtain ⟨sx, hs⟩ : ∃ sx : Nat, sx = (y * 10 + cv) % 4294967296 := ⟨_, rfl⟩
              obtain ⟨d, hd⟩ : ∃ d : Nat, d = (y * 10 + cv) / 4294967296 := ⟨_, rfl⟩
              have e1 : ((y : Int) * 10 + cv) % 4294967296 = (sx : Int) := by omega
              have e2 : ((y : Int) * 10 + cv) / 4294967296 = (d : Int) := by omega
              have hsd : sx + d * 4294967296 = y * 10 + cv := by omega
              have hsl : sx < 4294967296 := by omega
              have hdl : d < 4294967296 := by omega
              have HY := (Aside.intro (And.intro hy (And.intro hsd (And.intro hsl hdl))))
              clear hy hs hd hpn hm hge hk' hown hMw hMo hMs hbel hMl HP hsd hsl hdl
              go_wp2
              go_roundg (gk - 1)
              case measure => omega
              case rel =>
                obtain ⟨hown, hMw, hMo, hMs, hbel⟩ := HB.out
                obtain ⟨hpn, hm, hge, hk'⟩ := HX.out
                obtain ⟨hy, hsd, hsl, hdl⟩ := HY.out
                have HP : Pre w.heap.size wr g m cn M := hown
                refine ⟨j + 1, d, M.set j sx, by omega, rfl, hdl, by go_num, HP.set j sx, hMw.set _ _ hsl, (hMo.mono (by omega)).set _ _ (by omega) (by omega), ?_, hbel.setCell HP.lo.1 _⟩
                have e1 := sg_set_last M 0 j sx (by rw [hMo.1]; omega)
                rw [Nat.zero_add] at e1
                rw [e1, sg_succ (ws Y) 0 j (by omega), Nat.zero_add, pw_succ]
                have e : (ws Y).getD j 0 = y := by rw [← hy]; exact (hMo.2 _ (by omega)).symm
                rw [e]
                have := times_step (pw j) dg (sg (ws Y) 0 j) _ cv 0 y 10 sx d (by rw [hMs]; omega) (by omega)
                rw [this]; omega
            · obtain rfl : j = m := by omega
              obtain ⟨hown, hMw, hMo, hMs, hbel⟩ := HB.out
              obtain ⟨hpn, hm, hge, hk'⟩ := HX.out
              have hMl : M.length = j := by rw [hMo.1]; exact hm
              have e1 : sg M 0 j = val M := by rw [← hMl, sg_all]
              have e2 : sg (ws Y) 0 j = Y := by rw [← hm, sg_all, val_ws]
              rw [e1, e2] at hMs
              have hf := grow_form M j cv (Y * 10 + dg) hMw hMl hcv hMs hge
              have hs := hbel.size
              have HG := (Aside.intro (And.intro hf (And.intro hbel (And.intro hMl (And.intro hs hpn)))))
              have HO := hid hown
              clear hpn hm hge hk' hown hMw hMo hMs hbel e1 e2 hf hgj HB HA HX hMl hs
              by_cases h0 : cv = 0
              · subst h0
                go_wp2
                go_roundg (s.size - (k + 1))
                case measure => omega
                case rel =>
                  obtain ⟨hf, hbel, hMl, hs, hpn⟩ := HG.out
                  have hw := hf.1 (by trivial)
                  have hwl : (ws (Y * 10 + dg)).length = j := by rw [← hw]; exact hMl
                  refine ⟨k + 1, Y * 10 + dg, an, cn, by omega, by rw [hwl], by go_num, by omega, hpn.symm, ?_, hbel⟩
                  unfold Nt
                  rw [hwl, ← hw]
                  exact HO.out
              · have hcp : (0 : Int) < (cv : Int) := by omega
                have hcu : IntKind.u32.wrap (cv : Int) = (cv : Int) := by rw [IntKind.wrap_u32]; omega
                obtain ⟨v', w', hap, hrow, hgrow, _⟩ := append_word (wr.alloc (.cells #[.int .u32 (cv : Int)] 63)) w.heap.size (.slice an j cn) j (M.map U) (.int .u32 (cv : Int)) wr.heap.size 23 (HO.out.alloc _) (by go_simp) rfl (by omega) (by have := HG.out.2.2.2.1; simp; omega)
                have HAP := hid hap
                have hZ := HG.out.1.2 h0
                have hNew : Nt w.heap.size w' v' (Y * 10 + dg) := by
                  unfold Nt
                  rw [← hZ, List.length_append, HG.out.2.2.1, List.map_append]
                  exact hrow
                have hBn : Below w.heap.size w w' := (HG.out.2.1.alloc (by have := HG.out.2.2.2.1; omega) _).grown hgrow (by have := HG.out.2.2.2.1; simp; omega) (fun b hb => (World.ownsRow.lt HO.out b hb).1)
                obtain ⟨a7, c7, rfl, hc7, hm7, hR7⟩ := hNew.shape
                have hl7 : (ws (Y * 10 + dg)).length = j + 1 := by rw [← hZ, List.length_append, HG.out.2.2.1]; rfl
                have HN := (Aside.intro (And.intro hNew (And.intro hBn (And.intro HG.out.2.2.2.2 hl7))))
                rw [hl7] at HAP
                clear hap hrow hgrow hZ hNew hBn hc7 hm7 hR7 hl7 HG
                by_cases hlong : 8192 < j + 1
                · have hl1 : (8192 : Int) < (j : Int) + 1 := by omega
                  go_wp2_with (at_builtin; refine wpList_append_run2 rfl (.tmp 72) (.tmp 75) 23 rfl _ _ rfl rfl _ _ HAP.out ?_)
                  try rw [Exit.noGoto_ret]
                  go_ret2
                  obtain ⟨hNew, hBn, hpn, hl7⟩ := HN.out
                  have hL : LG (pn (ltr s) (ltr s).length) := pn_long (ltr s) (k + 1) (by rw [ltr_len]; omega) (by rw [hpn]; unfold LG; omega)
                  rw [parse_one (ltr s) (by rw [ltr_len]; exact HF.out.2) HF.out.1 (by rw [ltr_len]; exact HOK.out), if_pos hL]
                  exact ⟨⟨_, rfl, Nt.nil _ _⟩, hBn⟩
                · have hl1 : decide ((8192 : Int) < (j : Int) + 1) = false := decide_eq_false (by omega)
                  have hl2 : decide (8192 < j + 1) = false := decide_eq_false hlong
                  go_wp2_with (at_builtin; refine wpList_append_run2 rfl (.tmp 72) (.tmp 75) 23 rfl _ _ rfl rfl _ _ HAP.out ?_)
                  go_roundg (s.size - (k + 1))
                  case measure => omega
                  case rel =>
                    obtain ⟨hNew, hBn, hpn, hl7⟩ := HN.out
                    refine ⟨k + 1, Y * 10 + dg, a7, c7, by omega, by first | rfl | rw [hl7], by go_num, by omega, hpn.symm, hNew, hBn⟩
        · obtain rfl : k = s.size := by omega
          go_wp2
          go_ret2
          obtain ⟨hY, hN, hb⟩ := HA.out
          have hL : ¬ LG (pn (ltr s) (ltr s).length) := by rw [ltr_len, ← hY]; unfold LG; omega
          rw [parse_one (ltr s) (by rw [ltr_len]; exact HF.out.2) HF.out.1 (by rw [ltr_len]; exact HOK.out), if_neg hL, ltr_len, ← hY]
          exact ⟨⟨_, rfl, hN⟩, hb⟩

set_option maxHeartbeats 8000000 in
theorem rparse_b (s : ByteArray) (w : World) (h2 : ¬ s.toList = []) (h3 : 0 < s.size) (h4 : s.toList.isEmpty = false) (h5 : (((s[0]'h3).toNat : Int) == 48) = true) (h6 : s.size = 1) (hbig : s.size ≤ 2000000) :
    Calls Tryd.prog 14 #[.string s] w fun r w' => One w.heap.size w' r (parseS (ltr s)) ∧ Below w.heap.size w w' := by
  obtain ⟨i0, hi, hz0, hz1, hz2⟩ := info_parts Tryd.info63
  have hh : (ltr s).getD 0 0 ≠ 48 ∨ (ltr s).length = 1 := by right; rw [ltr_len]; exact h6
  have h7 : decide ((1 : Int) < (s.size : Int)) = false := decide_eq_false (by omega)
  have h8 : decide (1 < s.size) = false := decide_eq_false (by omega)
  clear h6
  have HF := (Aside.intro (And.intro hh h3))
  have h3i : (0 : Int) < (s.size : Int) := by omega
  clear hh
  go_enter Tryd.func14, Tryd.ntmps14
  go_wp2
  clear h2 h4 h5 h7 h8
  go_loopg [4] s.size (fun gk iv wr => ∃ k : Nat, gk + k = s.size ∧ iv = .int .i64 (k : Nat) ∧ wr = w ∧ Aside (okd (ltr s) k))
  case atStart => exact ⟨0, by omega, rfl, rfl, fun j hj => by omega⟩
  case round =>
    obtain ⟨k, hgk, rfl, hw, HA⟩ := hrel
    rw [hw]
    clear hw wr
    by_cases hk : k < s.size
    · obtain ⟨x, hx⟩ : ∃ x, (s[k]'hk).toNat = x := ⟨_, rfl⟩
      have hx256 : x < 256 := by rw [← hx]; exact (s[k]'hk).toNat_lt
      have hxl : (ltr s).getD k 0 = x := by rw [ltr_get s k hk, hx]
      have hki : (k : Int) < (s.size : Int) := by omega
      have HX := (Aside.intro (And.intro hxl hk))
      clear hxl
      by_cases hlow : x < 48
      · have hlow1 : (x : Int) < 48 := by omega
        have HP : Aside (parseS (ltr s) = (0, 5)) := parse_bad (ltr s) k (by rw [ltr_len]; exact hk) (by rw [HX.out.1]; omega)
        go_wp2
        try rw [Exit.noGoto_ret]
        go_ret2
        rw [HP.out]
        exact ⟨⟨_, rfl, Nt.nil _ _⟩, Below.refl _ _⟩
      · by_cases hhigh : 57 < x
        · have hlow1 : (48 : Int) ≤ (x : Int) := by omega
          have hlow2 : decide ((x : Int) < 48) = false := decide_eq_false (by omega)
          have hhigh1 : (57 : Int) < (x : Int) := by omega
          have HP : Aside (parseS (ltr s) = (0, 5)) := parse_bad (ltr s) k (by rw [ltr_len]; exact hk) (by rw [HX.out.1]; omega)
          go_wp2
          try rw [Exit.noGoto_ret]
          go_ret2
          rw [HP.out]
          exact ⟨⟨_, rfl, Nt.nil _ _⟩, Below.refl _ _⟩
        · have hlow1 : (48 : Int) ≤ (x : Int) := by omega
          have hhigh1 : (x : Int) ≤ 57 := by omega
          have hlow2 : decide ((x : Int) < 48) = false := decide_eq_false (by omega)
          have hhigh2 : decide ((57 : Int) < (x : Int)) = false := decide_eq_false (by omega)
          go_wp2
          go_roundg (gk - 1)
          case measure => omega
          case rel =>
            refine ⟨k + 1, by omega, by first | go_num | (congr 1; omega), rfl, fun j hj => ?_⟩
            by_cases hjk : j = k
            · subst hjk; rw [HX.out.1]; omega
            · exact HA.out j (by omega)
    · obtain rfl : k = s.size := by omega
      have HOK := (Aside.intro HA.out)
      clear HA hgk
      go_wp2
      go_loopg [5, 6] s.size (fun gk nv iv w2 => ∃ (k Y : Nat) (an : Option Addr) (cn : Nat), gk + k = s.size ∧ nv = .slice an (ws Y).length cn ∧ iv = .int .i64 (k : Nat) ∧ (ws Y).length ≤ 8192 ∧ Aside (Y = pn (ltr s) k ∧ Nt w.heap.size w2 (.slice an (ws Y).length cn) Y ∧ Below w.heap.size w w2))
      case atStart =>
        refine ⟨0, 0, none, 0, by omega, by rw [ws_zero]; rfl, rfl, by rw [ws_zero]; exact Nat.zero_le _, by simp [pn, num_nil], ?_, Below.refl _ _⟩
        rw [ws_zero]; exact Nt.nil _ _
      case round =>
        obtain ⟨k, Y, an, cn, hgk, rfl, rfl, hlen, HA⟩ := hrel
        by_cases hk : k < s.size
        · obtain ⟨x, hx⟩ : ∃ x, (s[k]'hk).toNat = x := ⟨_, rfl⟩
          have hxl : (ltr s).getD k 0 = x := by rw [ltr_get s k hk, hx]
          have hxr := HOK.out k hk
          rw [hxl] at hxr
          have hki : (k : Int) < (s.size : Int) := by omega
          have hx0 : (48 : Int) ≤ (x : Int) := by omega
          have hx1 : (x : Int) ≤ 57 := by omega
          obtain ⟨dg, hdg⟩ : ∃ dg : Nat, dg = x - 48 := ⟨_, rfl⟩
          have e8 : IntKind.u8.wrap ((x : Int) - 48) = (dg : Int) := by rw [IntKind.wrap_u8]; omega
          have e8' : (x : Int) - 48 = (dg : Int) := by omega
          have hdg9 : dg ≤ 9 := by omega
          obtain ⟨m, hm⟩ : ∃ m, (ws Y).length = m := ⟨_, rfl⟩
          have hpn : pn (ltr s) (k + 1) = Y * 10 + dg := by rw [pn_succ _ _ (by rw [ltr_len]; exact hk), hxl, ← HA.out.1, ← hdg]; omega
          have hge : m = 0 ∨ pw (m - 1) ≤ Y * 10 + dg := by
            by_cases h0 : Y = 0
            · left; rw [← hm, h0, ws_zero]; rfl
            · right
              have := ws_len_ge Y h0
              rw [hm] at this
              omega
          have HX := (Aside.intro (And.intro hpn (And.intro hm (And.intro hge hk))))
          rw [hm] at HA hlen ⊢
          clear hxl hxr hdg hpn hm hge
          go_wp2
          go_loopg [7, 8] m (fun g3 c i wq => ∃ (j cv : Nat) (M : List Nat), g3 + j = m ∧ c = .int .u64 (cv : Nat) ∧ cv < 4294967296 ∧ i = .int .i64 (j : Nat) ∧
              Aside (wq.ownsRow w.heap.size 63 1 (.slice an m cn) m (M.map U) ∧ Wf M ∧ Out (ws Y) M 0 j ∧ sg M 0 j + cv * pw j = sg (ws Y) 0 j * 10 + dg ∧ Below w.heap.size w wq))
          case atStart =>
            obtain ⟨hY, hN, hb⟩ := HA.out
            obtain ⟨hpn, hm, hge, hk'⟩ := HX.out
            refine ⟨0, dg, ws Y, by omega, by first | rfl | go_num, by omega, rfl, ?_, wf_ws Y, Out.refl _ _ _, by simp [sg_zero, pw_zero], hb⟩
            unfold Nt at hN
            rw [hm] at hN
            exact hN
          case round =>
            obtain ⟨j, cv, M, hgj, rfl, hcv, rfl, HB⟩ := hrel
            by_cases hj : j < m
            · obtain ⟨hown, hMw, hMo, hMs, hbel⟩ := HB.out
              obtain ⟨hpn, hm, hge, hk'⟩ := HX.out
              have hMl : M.length = m := by rw [hMo.1]; exact hm
              obtain ⟨g, hao⟩ : ∃ g, an = some ⟨g, 0, none⟩ := by
                rcases hown.2 with ⟨e, h0⟩ | ⟨g, cp, cur, e, _⟩
                · omega
                · cases e; exact ⟨g, rfl⟩
              subst hao
              have HP : Pre w.heap.size wr g m cn M := hown
              have hgc := HP.cell j hj
              have hgf := HP.frozen j
              obtain ⟨y, hy⟩ : ∃ y : Nat, M.getD j 0 = y := ⟨_, rfl⟩
              have hyl : y < 4294967296 := hy ▸ hMw.get _
              rw [hy] at hgc
              obtain ⟨sx, hs⟩ : ∃ sx : Nat, sx = (y * 10 + cv) % 4294967296 := ⟨_, rfl⟩
              obtain ⟨d, hd⟩ : ∃ d : Nat, d = (y * 10 + cv) / 4294967296 := ⟨_, rfl⟩
              have e1 : ((y : Int) * 10 + cv) % 4294967296 = (sx : Int) := by omega
              have e2 : ((y : Int) * 10 + cv) / 4294967296 = (d : Int) := by omega
              have hsd : sx + d * 4294967296 = y * 10 + cv := by omega
              have hsl : sx < 4294967296 := by omega
              have hdl : d < 4294967296 := by omega
              have HY := (Aside.intro (And.intro hy (And.intro hsd (And.intro hsl hdl))))
              clear hy hs hd hpn hm hge hk' hown hMw hMo hMs hbel hMl HP hsd hsl hdl
              go_wp2
              go_roundg (gk - 1)
              case measure => omega
              case rel =>
                obtain ⟨hown, hMw, hMo, hMs, hbel⟩ := HB.out
                obtain ⟨hpn, hm, hge, hk'⟩ := HX.out
                obtain ⟨hy, hsd, hsl, hdl⟩ := HY.out
                have HP : Pre w.heap.size wr g m cn M := hown
                refine ⟨j + 1, d, M.set j sx, by omega, rfl, hdl, by go_num, HP.set j sx, hMw.set _ _ hsl, (hMo.mono (by omega)).set _ _ (by omega) (by omega), ?_, hbel.setCell HP.lo.1 _⟩
                have e1 := sg_set_last M 0 j sx (by rw [hMo.1]; omega)
                rw [Nat.zero_add] at e1
                rw [e1, sg_succ (ws Y) 0 j (by omega), Nat.zero_add, pw_succ]
                have e : (ws Y).getD j 0 = y := by rw [← hy]; exact (hMo.2 _ (by omega)).symm
                rw [e]
                have := times_step (pw j) dg (sg (ws Y) 0 j) _ cv 0 y 10 sx d (by rw [hMs]; omega) (by omega)
                rw [this]; omega
            · obtain rfl : j = m := by omega
              obtain ⟨hown, hMw, hMo, hMs, hbel⟩ := HB.out
              obtain ⟨hpn, hm, hge, hk'⟩ := HX.out
              have hMl : M.length = j := by rw [hMo.1]; exact hm
              have e1 : sg M 0 j = val M := by rw [← hMl, sg_all]
              have e2 : sg (ws Y) 0 j = Y := by rw [← hm, sg_all, val_ws]
              rw [e1, e2] at hMs
              have hf := grow_form M j cv (Y * 10 + dg) hMw hMl hcv hMs hge
              have hs := hbel.size
              have HG := (Aside.intro (And.intro hf (And.intro hbel (And.intro hMl (And.intro hs hpn)))))
              have HO := hid hown
              clear hpn hm hge hk' hown hMw hMo hMs hbel e1 e2 hf hgj HB HA HX hMl hs
              by_cases h0 : cv = 0
              · subst h0
                go_wp2
                go_roundg (s.size - (k + 1))
                case measure => omega
                case rel =>
                  obtain ⟨hf, hbel, hMl, hs, hpn⟩ := HG.out
                  have hw := hf.1 (by trivial)
                  have hwl : (ws (Y * 10 + dg)).length = j := by rw [← hw]; exact hMl
                  refine ⟨k + 1, Y * 10 + dg, an, cn, by omega, by rw [hwl], by go_num, by omega, hpn.symm, ?_, hbel⟩
                  unfold Nt
                  rw [hwl, ← hw]
                  exact HO.out
              · have hcp : (0 : Int) < (cv : Int) := by omega
                have hcu : IntKind.u32.wrap (cv : Int) = (cv : Int) := by rw [IntKind.wrap_u32]; omega
                obtain ⟨v', w', hap, hrow, hgrow, _⟩ := append_word (wr.alloc (.cells #[.int .u32 (cv : Int)] 63)) w.heap.size (.slice an j cn) j (M.map U) (.int .u32 (cv : Int)) wr.heap.size 23 (HO.out.alloc _) (by go_simp) rfl (by omega) (by have := HG.out.2.2.2.1; simp; omega)
                have HAP := hid hap
                have hZ := HG.out.1.2 h0
                have hNew : Nt w.heap.size w' v' (Y * 10 + dg) := by
                  unfold Nt
                  rw [← hZ, List.length_append, HG.out.2.2.1, List.map_append]
                  exact hrow
                have hBn : Below w.heap.size w w' := (HG.out.2.1.alloc (by have := HG.out.2.2.2.1; omega) _).grown hgrow (by have := HG.out.2.2.2.1; simp; omega) (fun b hb => (World.ownsRow.lt HO.out b hb).1)
                obtain ⟨a7, c7, rfl, hc7, hm7, hR7⟩ := hNew.shape
                have hl7 : (ws (Y * 10 + dg)).length = j + 1 := by rw [← hZ, List.length_append, HG.out.2.2.1]; rfl
                have HN := (Aside.intro (And.intro hNew (And.intro hBn (And.intro HG.out.2.2.2.2 hl7))))
                rw [hl7] at HAP
                clear hap hrow hgrow hZ hNew hBn hc7 hm7 hR7 hl7 HG
                by_cases hlong : 8192 < j + 1
                · have hl1 : (8192 : Int) < (j : Int) + 1 := by omega
                  go_wp2_with (at_builtin; refine wpList_append_run2 rfl (.tmp 72) (.tmp 75) 23 rfl _ _ rfl rfl _ _ HAP.out ?_)
                  try rw [Exit.noGoto_ret]
                  go_ret2
                  obtain ⟨hNew, hBn, hpn, hl7⟩ := HN.out
                  have hL : LG (pn (ltr s) (ltr s).length) := pn_long (ltr s) (k + 1) (by rw [ltr_len]; omega) (by rw [hpn]; unfold LG; omega)
                  rw [parse_one (ltr s) (by rw [ltr_len]; exact HF.out.2) HF.out.1 (by rw [ltr_len]; exact HOK.out), if_pos hL]
                  exact ⟨⟨_, rfl, Nt.nil _ _⟩, hBn⟩
                · have hl1 : decide ((8192 : Int) < (j : Int) + 1) = false := decide_eq_false (by omega)
                  have hl2 : decide (8192 < j + 1) = false := decide_eq_false hlong
                  go_wp2_with (at_builtin; refine wpList_append_run2 rfl (.tmp 72) (.tmp 75) 23 rfl _ _ rfl rfl _ _ HAP.out ?_)
                  go_roundg (s.size - (k + 1))
                  case measure => omega
                  case rel =>
                    obtain ⟨hNew, hBn, hpn, hl7⟩ := HN.out
                    refine ⟨k + 1, Y * 10 + dg, a7, c7, by omega, by first | rfl | rw [hl7], by go_num, by omega, hpn.symm, hNew, hBn⟩
        · obtain rfl : k = s.size := by omega
          go_wp2
          go_ret2
          obtain ⟨hY, hN, hb⟩ := HA.out
          have hL : ¬ LG (pn (ltr s) (ltr s).length) := by rw [ltr_len, ← hY]; unfold LG; omega
          rw [parse_one (ltr s) (by rw [ltr_len]; exact HF.out.2) HF.out.1 (by rw [ltr_len]; exact HOK.out), if_neg hL, ltr_len, ← hY]
          exact ⟨⟨_, rfl, hN⟩, hb⟩
end Go.Proofs.YtonhahbmdekkdaaDoor
