/- Parse: decimal digits as a Nat. -/
import Derived.Test.YtonhahbmdekkdaaDoorW27x
import Derived.WalkLawsBesides
import Derived.WalkMore
namespace Go.Proofs.YtonhahbmdekkdaaDoor
open Go.RowKit
set_option linter.unusedVariables false
set_option maxRecDepth 20000

/-- The letters of a text. -/
def ltr (s : ByteArray) : List Nat := s.data.toList.map (·.toNat)
/-- The number of the first k letters, if they are digits. -/
def pn (B : List Nat) (k : Nat) : Nat := num ((B.take k).map (· - 48))
/-- Are the first k letters digits? -/
def okd (B : List Nat) (k : Nat) : Prop := ∀ j, j < k → 48 ≤ B.getD j 0 ∧ B.getD j 0 ≤ 57
/-- What Parse answers. -/
def parseS (B : List Nat) : Nat × Int :=
  if B = [] ∨ (B.getD 0 0 = 48 ∧ 1 < B.length) ∨ ¬ (∀ b ∈ B, 48 ≤ b ∧ b ≤ 57) then (0, 5) else if LG (pn B B.length) then (0, 2) else (pn B B.length, 0)

theorem pn_succ (B : List Nat) (k : Nat) (h : k < B.length) : pn B (k + 1) = 10 * pn B k + (B.getD k 0 - 48) := by
  unfold pn
  rw [List.take_succ_eq_append_getElem h, List.map_append, List.map_cons, List.map_nil, num_snoc, List.getD_eq_getElem?_getD, List.getElem?_eq_getElem h]
  rfl

theorem okd_all (B : List Nat) (h : okd B B.length) : ∀ b ∈ B, 48 ≤ b ∧ b ≤ 57 := by
  intro b hb
  obtain ⟨i, hi, rfl⟩ := List.mem_iff_getElem.1 hb
  have := h i hi
  rwa [List.getD_eq_getElem?_getD, List.getElem?_eq_getElem hi] at this

theorem ltr_get (s : ByteArray) (k : Nat) (h : k < s.size) : (ltr s).getD k 0 = (s[k]'h).toNat := by
  have h' : k < s.data.toList.length := by simpa using h
  unfold ltr
  rw [List.getD_eq_getElem?_getD, List.getElem?_eq_getElem (by simpa using h')]
  simp [ByteArray.getElem_eq_getElem_data]
theorem ltr_len (s : ByteArray) : (ltr s).length = s.size := by unfold ltr; rw [List.length_map, Array.length_toList]; rfl
theorem ba_toList (s : ByteArray) : s.toList = s.data.toList := ByteArray.toList_eq s

theorem parse_bad (B : List Nat) (k : Nat) (hk : k < B.length) (h : ¬ (48 ≤ B.getD k 0 ∧ B.getD k 0 ≤ 57)) : parseS B = (0, 5) := by
  unfold parseS
  rw [if_pos]
  refine .inr (.inr fun hall => h ?_)
  rw [List.getD_eq_getElem?_getD, List.getElem?_eq_getElem hk]
  exact hall _ (List.getElem_mem hk)

theorem parse_good (B : List Nat) (h0 : 0 < B.length) (hh : B.getD 0 0 ≠ 48) (hok : okd B B.length) : parseS B = if LG (pn B B.length) then (0, 2) else (pn B B.length, 0) := by
  unfold parseS
  rw [if_neg]
  rintro (h | h | h)
  · rw [h] at h0; simp at h0
  · exact hh h.1
  · exact h (okd_all B hok)

theorem ten_le (i : Nat) (h : i < 9) : 10 ^ i ≤ 100000000 := by
  have : (10 : Nat) ^ i ≤ 10 ^ 8 := Nat.pow_le_pow_right (by decide) (by omega)
  omega

theorem piece_more (P a q p d : Nat) : 10 * (P * q + p) + d = P * (q * 10) + (10 * p + d) := by grind

set_option maxHeartbeats 8000000 in
theorem parse_core (s : ByteArray) (w : World) (h1 : (s.toList == [48]) = false) (h2 : ¬ s.toList = []) (h3 : 0 < s.size) (h4 : s.toList.isEmpty = false) (h5 : (((s[0]'h3).toNat : Int) == 48) = false) (hbig : s.size ≤ 9223372036854775807) :
    Calls Tryd.prog 13 #[.string s] w fun r w' => One w.heap.size w' r (parseS (ltr s)) ∧ Below w.heap.size w w' := by
  have hh : (ltr s).getD 0 0 ≠ 48 := by
    rw [ltr_get s 0 h3]; intro e; rw [e] at h5; exact absurd h5 (by decide)
  have HF := (Aside.intro (And.intro hh h3))
  have HG : Hid (∀ Y ao cap lo q more w, _ → _ → _ → _ → _ → _ → _) := grow_any
  have HU : Hid (∀ n ao cap w, _) := unlessLong_any
  clear hh
  go_enter Tryd.func13, Tryd.ntmps13
  go_wp2
  go_step3
  go_wp2
  go_step3
  go_wp2
  clear h1 h2 h4 h5
  go_loopg [4, 5] s.size (fun gk nv av wr => ∃ (Y k : Nat) (an : Option Addr) (cn : Nat), nv = .slice an (ws Y).length cn ∧ av = .int .i64 (k : Nat) ∧ gk + k = s.size ∧
      Aside (okd (ltr s) k ∧ (Y = pn (ltr s) k ∨ (LG Y ∧ Y ≤ pn (ltr s) k)) ∧ Nt w.heap.size wr (.slice an (ws Y).length cn) Y ∧ Below w.heap.size w wr))
  case atStart =>
    refine ⟨0, 0, none, 0, by rw [ws_zero]; rfl, rfl, by omega, fun j hj => by omega, .inl (by simp [pn, num_nil]), ?_, Below.refl _ _⟩
    rw [ws_zero]; exact Nt.nil _ _
  case round =>
    obtain ⟨Y, k, an, cn, rfl, rfl, hgk, HA⟩ := hrel
    by_cases hk : k < s.size
    · go_wp2
      go_loopg [5, 6, 7] 9 (fun g2 av pv sv w2 => ∃ (i p sc k2 : Nat), g2 + i = 9 ∧ av = .int .i64 (k2 : Nat) ∧ pv = .int .u32 (p : Nat) ∧ sv = .int .u32 (sc : Nat) ∧ k2 = k + i ∧ k2 ≤ s.size ∧ w2 = wr ∧
          Aside (sc = 10 ^ i ∧ p < sc ∧ okd (ltr s) k2 ∧ pn (ltr s) k2 = pn (ltr s) k * sc + p))
      case atStart => exact ⟨0, 0, 1, k, rfl, rfl, rfl, rfl, rfl, by omega, rfl, rfl, by omega, HA.out.1, by omega⟩
      case round =>
        obtain ⟨i, p, sc, k2, hgi, rfl, rfl, rfl, hk2, hk2s, rfl, HB⟩ := hrel
        have HK := (Aside.intro hk2)
        clear hk2
        by_cases hi : i < 9
        · by_cases hks : k2 < s.size
          · obtain ⟨x, hx⟩ : ∃ x, (s[k2]'hks).toNat = x := ⟨_, rfl⟩
            have hx256 : x < 256 := by rw [← hx]; exact (s[k2]'hks).toNat_lt
            have hxl : (ltr s).getD k2 0 = x := by rw [ltr_get s k2 hks, hx]
            obtain ⟨hsc, hp, hok, hpn⟩ := HB.out
            have hsc8 := ten_le i hi
            rw [← hsc] at hsc8
            have hsci : (sc : Int) < 1000000000 := by omega
            have hscn : (sc : Int) ≤ 100000000 := by omega
            have hpi : (p : Int) < 100000000 := by omega
            have hk2i : (k2 : Int) < (s.size : Int) := by omega
            have HX := (Aside.intro (And.intro hxl hi))
            clear hsc hp hok hpn hsc8 hxl
            by_cases hlow : x < 48
            · have hlow1 : (x : Int) < 48 := by omega
              have HP : Aside (parseS (ltr s) = (0, 5)) := parse_bad (ltr s) k2 (by rw [ltr_len]; exact hks) (by rw [HX.out.1]; omega)
              go_wp2
              try rw [Exit.noGoto_ret]
              go_ret2
              rw [HP.out]
              exact ⟨⟨_, rfl, Nt.nil _ _⟩, HA.out.2.2.2⟩
            · by_cases hhigh : 57 < x
              · have hlow1 : (48 : Int) ≤ (x : Int) := by omega
                have hlow2 : decide ((x : Int) < 48) = false := decide_eq_false (by omega)
                have hhigh1 : (57 : Int) < (x : Int) := by omega
                have HP : Aside (parseS (ltr s) = (0, 5)) := parse_bad (ltr s) k2 (by rw [ltr_len]; exact hks) (by rw [HX.out.1]; omega)
                go_wp2
                try rw [Exit.noGoto_ret]
                go_ret2
                rw [HP.out]
                exact ⟨⟨_, rfl, Nt.nil _ _⟩, HA.out.2.2.2⟩
              · have hlow1 : (48 : Int) ≤ (x : Int) := by omega
                have hhigh1 : (x : Int) ≤ 57 := by omega
                have hlow2 : decide ((x : Int) < 48) = false := decide_eq_false (by omega)
                have hhigh2 : decide ((57 : Int) < (x : Int)) = false := decide_eq_false (by omega)
                go_wp2
                go_roundg (gk - 1)
                case measure => omega
                case rel =>
                  obtain ⟨hsc, hp, hok, hpn⟩ := HB.out
                  obtain ⟨hxl, hi'⟩ := HX.out
                  refine ⟨i + 1, 10 * p + (x - 48), sc * 10, k2 + 1, by omega, by go_num, by first | go_num | (congr 1; omega), by first | go_num | (congr 1; omega), by have := HK.out; omega, by omega, rfl, by rw [hsc, Nat.pow_succ], by omega, ?_, ?_⟩
                  · intro j hj
                    by_cases hjk : j = k2
                    · subst hjk; rw [hxl]; omega
                    · exact hok j (by omega)
                  · rw [pn_succ _ _ (by rw [ltr_len]; exact hks), hxl, hpn]
                    exact piece_more _ 0 _ _ _
          · have hk2e : k2 = s.size := by omega
            have hnlt : ¬ (k2 : Int) < (s.size : Int) := by omega
            have hk2b : decide ((k2 : Int) < (s.size : Int)) = false := decide_eq_false hnlt
            have hsci : (sc : Int) < 1000000000 := by
              have h1 := ten_le i hi
              have h2 := HB.out.1
              omega
            have HE := (Aside.intro hk2e)
            clear hk2e hks
            have hk2k : k < k2 := by have := HK.out; omega
            obtain ⟨hok0, hY, hNt, hbel⟩ := HA.out
            obtain ⟨hsc, hp, hok, hpn⟩ := HB.out
            have hsc1 : 1 ≤ sc := by rw [hsc]; exact Nat.pow_pos (by decide)
            have hscl : sc ≤ 1000000000 := by
              have : (10 : Nat) ^ i ≤ 10 ^ 9 := Nat.pow_le_pow_right (by decide) (by omega)
              omega
            have hs := hbel.size
            have hk2s' : k2 ≤ s.size := hk2s
            by_cases hLY : LG Y
            · have L := hid (longb (ws Y).length an cn wr true (by simpa [LG] using hLY))
              have HY := (Aside.intro hLY)
              clear hok0 hY hNt hbel hsc hp hok hpn hsc1 hscl hs hLY
              go_wp2_with fail
              refine (Calls.mono L.out) ?_
              rintro r w5 ⟨rfl, rfl⟩
              clear L
              go_wp2
              go_roundg (s.size - k2)
              case measure => omega
              case rel =>
                obtain ⟨hok0, hY, hNt, hbel⟩ := HA.out
                obtain ⟨hsc, hp, hok, hpn⟩ := HB.out
                refine ⟨Y, k2, an, cn, rfl, rfl, by omega, hok, .inr ⟨HY.out, ?_⟩, hNt, hbel⟩
                have h1 : Y ≤ pn (ltr s) k := by rcases hY with h | h <;> omega
                have h2 : pn (ltr s) k * 1 ≤ pn (ltr s) k * sc := Nat.mul_le_mul_left _ (by rw [hsc]; exact Nat.pow_pos (by decide))
                omega
            · have L := hid (longb (ws Y).length an cn wr false (by simpa [LG] using hLY))
              have G := hid (grow_any Y an cn w.heap.size sc p wr hNt (by omega) hsc1 (by omega) (by unfold LG at hLY; omega) hs)
              have HY := (Aside.intro hLY)
              clear hok0 hY hNt hbel hsc hp hok hpn hsc1 hscl hs hLY
              go_wp2_with fail
              refine (Calls.mono L.out) ?_
              rintro r w5 ⟨rfl, rfl⟩
              clear L
              go_wp2_with fail
              refine (Calls.mono G.out) ?_
              rintro r w6 ⟨v6, rfl, hN6, hb6⟩
              obtain ⟨a6, c6, rfl, hc6, hcm6, hR6⟩ := hN6.shape
              have H6 := (Aside.intro (And.intro hN6 hb6))
              clear hN6 hb6 hR6 G
              go_wp2
              go_roundg (s.size - k2)
              case measure => omega
              case rel =>
                obtain ⟨hok0, hY, hNt, hbel⟩ := HA.out
                obtain ⟨hsc, hp, hok, hpn⟩ := HB.out
                obtain ⟨hN6, hb6⟩ := H6.out
                refine ⟨_, k2, a6, c6, rfl, rfl, by omega, hok, .inl ?_, hN6, hbel.trans hb6⟩
                have h1 : Y = pn (ltr s) k := by
                  rcases hY with h | h
                  · exact h
                  · exact absurd h.1 HY.out
                rw [hpn, h1]
        · have hi9 : i = 9 := by omega
          have hsce : sc = 1000000000 := by have := HB.out.1; rw [hi9] at this; exact this
          have hscg : (1000000000 : Int) ≤ (sc : Int) := by omega
          have hscb : decide ((sc : Int) < 1000000000) = false := decide_eq_false (by omega)
          have H9 := (Aside.intro hi9)
          clear hsce
          have hk2k : k < k2 := by have := HK.out; omega
          clear hi9 hi
          obtain ⟨hok0, hY, hNt, hbel⟩ := HA.out
          obtain ⟨hsc, hp, hok, hpn⟩ := HB.out
          have hsc1 : 1 ≤ sc := by rw [hsc]; exact Nat.pow_pos (by decide)
          have hscl : sc ≤ 1000000000 := by
            have : (10 : Nat) ^ i ≤ 10 ^ 9 := Nat.pow_le_pow_right (by decide) (by omega)
            omega
          have hs := hbel.size
          have hk2s' : k2 ≤ s.size := hk2s
          by_cases hLY : LG Y
          · have L := hid (longb (ws Y).length an cn wr true (by simpa [LG] using hLY))
            have HY := (Aside.intro hLY)
            clear hok0 hY hNt hbel hsc hp hok hpn hsc1 hscl hs hLY
            go_wp2_with fail
            refine (Calls.mono L.out) ?_
            rintro r w5 ⟨rfl, rfl⟩
            clear L
            go_wp2
            go_roundg (s.size - k2)
            case measure => omega
            case rel =>
              obtain ⟨hok0, hY, hNt, hbel⟩ := HA.out
              obtain ⟨hsc, hp, hok, hpn⟩ := HB.out
              refine ⟨Y, k2, an, cn, rfl, rfl, by omega, hok, .inr ⟨HY.out, ?_⟩, hNt, hbel⟩
              have h1 : Y ≤ pn (ltr s) k := by rcases hY with h | h <;> omega
              have h2 : pn (ltr s) k * 1 ≤ pn (ltr s) k * sc := Nat.mul_le_mul_left _ (by rw [hsc]; exact Nat.pow_pos (by decide))
              omega
          · have L := hid (longb (ws Y).length an cn wr false (by simpa [LG] using hLY))
            have G := hid (grow_any Y an cn w.heap.size sc p wr hNt (by omega) hsc1 (by omega) (by unfold LG at hLY; omega) hs)
            have HY := (Aside.intro hLY)
            clear hok0 hY hNt hbel hsc hp hok hpn hsc1 hscl hs hLY
            go_wp2_with fail
            refine (Calls.mono L.out) ?_
            rintro r w5 ⟨rfl, rfl⟩
            clear L
            go_wp2_with fail
            refine (Calls.mono G.out) ?_
            rintro r w6 ⟨v6, rfl, hN6, hb6⟩
            obtain ⟨a6, c6, rfl, hc6, hcm6, hR6⟩ := hN6.shape
            have H6 := (Aside.intro (And.intro hN6 hb6))
            clear hN6 hb6 hR6 G
            go_wp2
            go_roundg (s.size - k2)
            case measure => omega
            case rel =>
              obtain ⟨hok0, hY, hNt, hbel⟩ := HA.out
              obtain ⟨hsc, hp, hok, hpn⟩ := HB.out
              obtain ⟨hN6, hb6⟩ := H6.out
              refine ⟨_, k2, a6, c6, rfl, rfl, by omega, hok, .inl ?_, hN6, hbel.trans hb6⟩
              have h1 : Y = pn (ltr s) k := by
                rcases hY with h | h
                · exact h
                · exact absurd h.1 HY.out
              rw [hpn, h1]
    · have hke : k = s.size := by omega
      have hnlt : ¬ (k : Int) < (s.size : Int) := by omega
      have hkb : decide ((k : Int) < (s.size : Int)) = false := decide_eq_false hnlt
      obtain ⟨hok0, hY, hNt, hbel⟩ := HA.out
      have hps := parse_good (ltr s) (by rw [ltr_len]; exact HF.out.2) HF.out.1 (by rw [ltr_len, ← hke]; exact hok0)
      rw [ltr_len, ← hke] at hps
      have U0 := unlessLong_any (ws Y).length an cn wr
      by_cases hLY : LG Y
      · rw [if_pos (show 8192 < (ws Y).length from hLY)] at U0
        have U := hid U0
        have hLP : LG (pn (ltr s) k) := by
          rcases hY with h | h
          · rw [← h]; exact hLY
          · exact LG_mono h.2 hLY
        rw [if_pos hLP] at hps
        have HP := (Aside.intro (And.intro hps hbel))
        clear hke hok0 hY hNt hbel hps U0 hLY hLP HA hk
        go_wp2_with fail
        refine (Calls.mono U.out) ?_
        rintro r w5 ⟨rfl, rfl⟩
        go_wp2
        try rw [Exit.noGoto_ret]
        go_ret2
        rw [HP.out.1]
        exact ⟨⟨_, rfl, Nt.nil _ _⟩, HP.out.2⟩
      · rw [if_neg (show ¬ 8192 < (ws Y).length from hLY)] at U0
        have U := hid U0
        have hYe : Y = pn (ltr s) k := by
          rcases hY with h | h
          · exact h
          · exact absurd h.1 hLY
        rw [← hYe, if_neg hLY] at hps
        have HP := (Aside.intro (And.intro hps (And.intro hbel hNt)))
        clear hke hok0 hY hNt hbel hps U0 hLY hYe HA hk
        go_wp2_with fail
        refine (Calls.mono U.out) ?_
        rintro r w5 ⟨rfl, rfl⟩
        go_wp2
        try rw [Exit.noGoto_ret]
        go_ret2
        rw [HP.out.1]
        exact ⟨⟨_, rfl, HP.out.2.2⟩, HP.out.2.1⟩
end Go.Proofs.YtonhahbmdekkdaaDoor
