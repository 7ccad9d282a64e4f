import Derived.Test.YthilnddhehbjiaaDoorW27x
import Derived.WalkLawsBesides
import Derived.WalkMore
import Derived.Test.YthilnddhehbjiaaDoorW17x
import Derived.Test.YthilnddhehbjiaaDoorW43x
/- Parse: decimal digits as a Nat. -/
namespace Go.Proofs.YthilnddhehbjiaaDoor
open Go.RowKit
set_option linter.unusedVariables false
set_option maxRecDepth 20000

/-- The letters of a text. -/
def ltr (s : ByteArray) : List Nat := s.data.toList.map (·.toNat)
/-- The number of the first k letters, if they are digits. -/
def pn (B : List Nat) (k : Nat) : Nat := num ((B.take k).map (· - 48))
/-- Are the first k letters digits? -/
def okd (B : List Nat) (k : Nat) : Prop := ∀ j, j < k → 48 ≤ B.getD j 0 ∧ B.getD j 0 ≤ 57
/-- What Parse answers. -/
def parseS (B : List Nat) : Nat × Int :=
  if B = [] ∨ (B.getD 0 0 = 48 ∧ 1 < B.length) ∨ ¬ (∀ b ∈ B, 48 ≤ b ∧ b ≤ 57) then (0, 5) else if LG (pn B B.length) then (0, 2) else (pn B B.length, 0)

theorem pn_succ (B : List Nat) (k : Nat) (h : k < B.length) : pn B (k + 1) = 10 * pn B k + (B.getD k 0 - 48) := by
  unfold pn
  rw [List.take_succ_eq_append_getElem h, List.map_append, List.map_cons, List.map_nil, num_snoc, List.getD_eq_getElem?_getD, List.getElem?_eq_getElem h]
  rfl

theorem okd_all (B : List Nat) (h : okd B B.length) : ∀ b ∈ B, 48 ≤ b ∧ b ≤ 57 := by
  intro b hb
  obtain ⟨i, hi, rfl⟩ := List.mem_iff_getElem.1 hb
  have := h i hi
  rwa [List.getD_eq_getElem?_getD, List.getElem?_eq_getElem hi] at this

theorem ltr_get (s : ByteArray) (k : Nat) (h : k < s.size) : (ltr s).getD k 0 = (s[k]'h).toNat := by
  have h' : k < s.data.toList.length := by simpa using h
  unfold ltr
  rw [List.getD_eq_getElem?_getD, List.getElem?_eq_getElem (by simpa using h')]
  simp [ByteArray.getElem_eq_getElem_data]
theorem ltr_len (s : ByteArray) : (ltr s).length = s.size := by unfold ltr; rw [List.length_map, Array.length_toList]; rfl
theorem ba_toList (s : ByteArray) : s.toList = s.data.toList := ByteArray.toList_eq s

theorem parse_bad (B : List Nat) (k : Nat) (hk : k < B.length) (h : ¬ (48 ≤ B.getD k 0 ∧ B.getD k 0 ≤ 57)) : parseS B = (0, 5) := by
  unfold parseS
  rw [if_pos]
  refine .inr (.inr fun hall => h ?_)
  rw [List.getD_eq_getElem?_getD, List.getElem?_eq_getElem hk]
  exact hall _ (List.getElem_mem hk)

theorem parse_good (B : List Nat) (h0 : 0 < B.length) (hh : B.getD 0 0 ≠ 48) (hok : okd B B.length) : parseS B = if LG (pn B B.length) then (0, 2) else (pn B B.length, 0) := by
  unfold parseS
  rw [if_neg]
  rintro (h | h | h)
  · rw [h] at h0; simp at h0
  · exact hh h.1
  · exact h (okd_all B hok)

theorem ten_le (i : Nat) (h : i < 9) : 10 ^ i ≤ 100000000 := by
  have : (10 : Nat) ^ i ≤ 10 ^ 8 := Nat.pow_le_pow_right (by decide) (by omega)
  omega

theorem piece_more (P a q p d : Nat) : 10 * (P * q + p) + d = P * (q * 10) + (10 * p + d) := by grind

set_option maxHeartbeats 8000000 in
theorem parse_core (s : ByteArray) (w : World) (h1 : (s.toList == [48]) = false) (h2 : ¬ s.toList = []) (h3 : 0 < s.size) (h4 : s.toList.isEmpty = false) (h5 : (((s[0]'h3).toNat : Int) == 48) = false) (hbig : s.size ≤ 9223372036854775807) :
    Calls Tryd.prog 13 #[.string s] w fun r w' => One w.heap.size w' r (parseS (ltr s)) ∧ Below w.heap.size w w' := by
  have hh : (ltr s).getD 0 0 ≠ 48 := by
    rw [ltr_get s 0 h3]; intro e; rw [e] at h5; exact absurd h5 (by decide)
  have HF := (Aside.intro (And.intro hh h3))
  have HG : Hid (∀ Y ao cap lo q more w, _ → _ → _ → _ → _ → _ → _) := grow_any
  have HU : Hid (∀ n ao cap w, _) := unlessLong_any
  clear hh
  go_enter Tryd.func13, Tryd.ntmps13
  go_wp2
  go_step3
  go_wp2
  go_step3
  go_wp2
  clear h1 h2 h4 h5
  go_loopg [4, 5] s.size (fun gk nv av wr => ∃ (Y k : Nat) (an : Option Addr) (cn : Nat), nv = .slice an (ws Y).length cn ∧ av = .int .i64 (k : Nat) ∧ gk + k = s.size ∧
      Aside (okd (ltr s) k ∧ (Y = pn (ltr s) k ∨ (LG Y ∧ Y ≤ pn (ltr s) k)) ∧ Nt w.heap.size wr (.slice an (ws Y).length cn) Y ∧ Below w.heap.size w wr))
  case atStart =>
    refine ⟨0, 0, none, 0, by rw [ws_zero]; rfl, rfl, by omega, fun j hj => by omega, .inl (by simp [pn, num_nil]), ?_, Below.refl _ _⟩
    rw [ws_zero]; exact Nt.nil _ _
  case round =>
    obtain ⟨Y, k, an, cn, rfl, rfl, hgk, HA⟩ := hrel
    by_cases hk : k < s.size
    · go_wp2
      go_loopg [5, 6, 7] 9 (fun g2 av pv sv w2 => ∃ (i p sc k2 : Nat), g2 + i = 9 ∧ av = .int .i64 (k2 : Nat) ∧ pv = .int .u32 (p : Nat) ∧ sv = .int .u32 (sc : Nat) ∧ k2 = k + i ∧ k2 ≤ s.size ∧ w2 = wr ∧
          Aside (sc = 10 ^ i ∧ p < sc ∧ okd (ltr s) k2 ∧ pn (ltr s) k2 = pn (ltr s) k * sc + p))
      case atStart => exact ⟨0, 0, 1, k, rfl, rfl, rfl, rfl, rfl, by omega, rfl, rfl, by omega, HA.out.1, by omega⟩
      case round =>
        obtain ⟨i, p, sc, k2, hgi, rfl, rfl, rfl, hk2, hk2s, rfl, HB⟩ := hrel
        have HK := (Aside.intro hk2)
        clear hk2
        by_cases hi : i < 9
        · by_cases hks : k2 < s.size
          · obtain ⟨x, hx⟩ : ∃ x, (s[k2]'hks).toNat = x := ⟨_, rfl⟩
            have hx256 : x < 256 := by rw [← hx]; exact (s[k2]'hks).toNat_lt
            have hxl : (ltr s).getD k2 0 = x := by rw [ltr_get s k2 hks, hx]
            obtain ⟨hsc, hp, hok, hpn⟩ := HB.out
            have hsc8 := ten_le i hi
            rw [← hsc] at hsc8
            have hsci : (sc : Int) < 1000000000 := by omega
            have hscn : (sc : Int) ≤ 100000000 := by omega
            have hpi : (p : Int) < 100000000 := by omega
            have hk2i : (k2 : Int) < (s.size : Int) := by omega
            have HX := (Aside.intro (And.intro hxl hi))
            clear hsc hp hok hpn hsc8 hxl
            by_cases hlow : x < 48
            · have hlow1 : (x : Int) < 48 := by omega
              have HP : Aside (parseS (ltr s) = (0, 5)) := parse_bad (ltr s) k2 (by rw [ltr_len]; exact hks) (by rw [HX.out.1]; omega)
              go_wp2
              try rw [Exit.noGoto_ret]
              go_ret2
              rw [HP.out]
              exact ⟨⟨_, rfl, Nt.nil _ _⟩, HA.out.2.2.2⟩
            · by_cases hhigh : 57 < x
              · have hlow1 : (48 : Int) ≤ (x : Int) := by omega
                have hlow2 : decide ((x : Int) < 48) = false := decide_eq_false (by omega)
                have hhigh1 : (57 : Int) < (x : Int) := by omega
                have HP : Aside (parseS (ltr s) = (0, 5)) := parse_bad (ltr s) k2 (by rw [ltr_len]; exact hks) (by rw [HX.out.1]; omega)
                go_wp2
                try rw [Exit.noGoto_ret]
                go_ret2
                rw [HP.out]
                exact ⟨⟨_, rfl, Nt.nil _ _⟩, HA.out.2.2.2⟩
              · have hlow1 : (48 : Int) ≤ (x : Int) := by omega
                have hhigh1 : (x : Int) ≤ 57 := by omega
                have hlow2 : decide ((x : Int) < 48) = false := decide_eq_false (by omega)
                have hhigh2 : decide ((57 : Int) < (x : Int)) = false := decide_eq_false (by omega)
                go_wp2
                go_roundg (gk - 1)
                case measure => omega
                case rel =>
                  obtain ⟨hsc, hp, hok, hpn⟩ := HB.out
                  obtain ⟨hxl, hi'⟩ := HX.out
                  refine ⟨i + 1, 10 * p + (x - 48), sc * 10, k2 + 1, by omega, by go_num, by first | go_num | (congr 1; omega), by first | go_num | (congr 1; omega), by have := HK.out; omega, by omega, rfl, by rw [hsc, Nat.pow_succ], by omega, ?_, ?_⟩
                  · intro j hj
                    by_cases hjk : j = k2
                    · subst hjk; rw [hxl]; omega
                    · exact hok j (by omega)
                  · rw [pn_succ _ _ (by rw [ltr_len]; exact hks), hxl, hpn]
                    exact piece_more _ 0 _ _ _
          · have hk2e : k2 = s.size := by omega
            have hnlt : ¬ (k2 : Int) < (s.size : Int) := by omega
            have hk2b : decide ((k2 : Int) < (s.size : Int)) = false := decide_eq_false hnlt
            have hsci : (sc : Int) < 1000000000 := by
              have h1 := ten_le i hi
              have h2 := HB.out.1
              omega
            have HE := (Aside.intro hk2e)
            clear hk2e hks
            have hk2k : k < k2 := by have := HK.out; omega
            obtain ⟨hok0, hY, hNt, hbel⟩ := HA.out
            obtain ⟨hsc, hp, hok, hpn⟩ := HB.out
            have hsc1 : 1 ≤ sc := by rw [hsc]; exact Nat.pow_pos (by decide)
            have hscl : sc ≤ 1000000000 := by
              have : (10 : Nat) ^ i ≤ 10 ^ 9 := Nat.pow_le_pow_right (by decide) (by omega)
              omega
            have hs := hbel.size
            have hk2s' : k2 ≤ s.size := hk2s
            by_cases hLY : LG Y
            · have L := hid (longb (ws Y).length an cn wr true (by simpa [LG] using hLY))
              have HY := (Aside.intro hLY)
              clear hok0 hY hNt hbel hsc hp hok hpn hsc1 hscl hs hLY
              go_wp2_with fail
              refine (Calls.mono L.out) ?_
              rintro r w5 ⟨rfl, rfl⟩
              clear L
              go_wp2
              go_roundg (s.size - k2)
              case measure => omega
              case rel =>
                obtain ⟨hok0, hY, hNt, hbel⟩ := HA.out
                obtain ⟨hsc, hp, hok, hpn⟩ := HB.out
                refine ⟨Y, k2, an, cn, rfl, rfl, by omega, hok, .inr ⟨HY.out, ?_⟩, hNt, hbel⟩
                have h1 : Y ≤ pn (ltr s) k := by rcases hY with h | h <;> omega
                have h2 : pn (ltr s) k * 1 ≤ pn (ltr s) k * sc := Nat.mul_le_mul_left _ (by rw [hsc]; exact Nat.pow_pos (by decide))
                omega
            · have L := hid (longb (ws Y).length an cn wr false (by simpa [LG] using hLY))
              have G := hid (grow_any Y an cn w.heap.size sc p wr hNt (by omega) hsc1 (by omega) (by unfold LG at hLY; omega) hs)
              have HY := (Aside.intro hLY)
              clear hok0 hY hNt hbel hsc hp hok hpn hsc1 hscl hs hLY
              go_wp2_with fail
              refine (Calls.mono L.out) ?_
              rintro r w5 ⟨rfl, rfl⟩
              clear L
              go_wp2_with fail
              refine (Calls.mono G.out) ?_
              rintro r w6 ⟨v6, rfl, hN6, hb6⟩
              obtain ⟨a6, c6, rfl, hc6, hcm6, hR6⟩ := hN6.shape
              have H6 := (Aside.intro (And.intro hN6 hb6))
              clear hN6 hb6 hR6 G
              go_wp2
              go_roundg (s.size - k2)
              case measure => omega
              case rel =>
                obtain ⟨hok0, hY, hNt, hbel⟩ := HA.out
                obtain ⟨hsc, hp, hok, hpn⟩ := HB.out
                obtain ⟨hN6, hb6⟩ := H6.out
                refine ⟨_, k2, a6, c6, rfl, rfl, by omega, hok, .inl ?_, hN6, hbel.trans hb6⟩
                have h1 : Y = pn (ltr s) k := by
                  rcases hY with h | h
                  · exact h
                  · exact absurd h.1 HY.out
                rw [hpn, h1]
        · have hi9 : i = 9 := by omega
          have hsce : sc = 1000000000 := by have := HB.out.1; rw [hi9] at this; exact this
          have hscg : (1000000000 : Int) ≤ (sc : Int) := by omega
          have hscb : decide ((sc : Int) < 1000000000) = false := decide_eq_false (by omega)
          have H9 := (Aside.intro hi9)
          clear hsce
          have hk2k : k < k2 := by have := HK.out; omega
          clear hi9 hi
          obtain ⟨hok0, hY, hNt, hbel⟩ := HA.out
          obtain ⟨hsc, hp, hok, hpn⟩ := HB.out
          have hsc1 : 1 ≤ sc := by rw [hsc]; exact Nat.pow_pos (by decide)
          have hscl : sc ≤ 1000000000 := by
            have : (10 : Nat) ^ i ≤ 10 ^ 9 := Nat.pow_le_pow_right (by decide) (by omega)
            omega
          have hs := hbel.size
          have hk2s' : k2 ≤ s.size := hk2s
          by_cases hLY : LG Y
          · have L := hid (longb (ws Y).length an cn wr true (by simpa [LG] using hLY))
            have HY := (Aside.intro hLY)
            clear hok0 hY hNt hbel hsc hp hok hpn hsc1 hscl hs hLY
            go_wp2_with fail
            refine (Calls.mono L.out) ?_
            rintro r w5 ⟨rfl, rfl⟩
            clear L
            go_wp2
            go_roundg (s.size - k2)
            case measure => omega
            case rel =>
              obtain ⟨hok0, hY, hNt, hbel⟩ := HA.out
              obtain ⟨hsc, hp, hok, hpn⟩ := HB.out
              refine ⟨Y, k2, an, cn, rfl, rfl, by omega, hok, .inr ⟨HY.out, ?_⟩, hNt, hbel⟩
              have h1 : Y ≤ pn (ltr s) k := by rcases hY with h | h <;> omega
              have h2 : pn (ltr s) k * 1 ≤ pn (ltr s) k * sc := Nat.mul_le_mul_left _ (by rw [hsc]; exact Nat.pow_pos (by decide))
              omega
          · have L := hid (longb (ws Y).length an cn wr false (by simpa [LG] using hLY))
            have G := hid (grow_any Y an cn w.heap.size sc p wr hNt (by omega) hsc1 (by omega) (by unfold LG at hLY; omega) hs)
            have HY := (Aside.intro hLY)
            clear hok0 hY hNt hbel hsc hp hok hpn hsc1 hscl hs hLY
            go_wp2_with fail
            refine (Calls.mono L.out) ?_
            rintro r w5 ⟨rfl, rfl⟩
            clear L
            go_wp2_with fail
            refine (Calls.mono G.out) ?_
            rintro r w6 ⟨v6, rfl, hN6, hb6⟩
            obtain ⟨a6, c6, rfl, hc6, hcm6, hR6⟩ := hN6.shape
            have H6 := (Aside.intro (And.intro hN6 hb6))
            clear hN6 hb6 hR6 G
            go_wp2
            go_roundg (s.size - k2)
            case measure => omega
            case rel =>
              obtain ⟨hok0, hY, hNt, hbel⟩ := HA.out
              obtain ⟨hsc, hp, hok, hpn⟩ := HB.out
              obtain ⟨hN6, hb6⟩ := H6.out
              refine ⟨_, k2, a6, c6, rfl, rfl, by omega, hok, .inl ?_, hN6, hbel.trans hb6⟩
              have h1 : Y = pn (ltr s) k := by
                rcases hY with h | h
                · exact h
                · exact absurd h.1 HY.out
              rw [hpn, h1]
    · have hke : k = s.size := by omega
      have hnlt : ¬ (k : Int) < (s.size : Int) := by omega
      have hkb : decide ((k : Int) < (s.size : Int)) = false := decide_eq_false hnlt
      obtain ⟨hok0, hY, hNt, hbel⟩ := HA.out
      have hps := parse_good (ltr s) (by rw [ltr_len]; exact HF.out.2) HF.out.1 (by rw [ltr_len, ← hke]; exact hok0)
      rw [ltr_len, ← hke] at hps
      have U0 := unlessLong_any (ws Y).length an cn wr
      by_cases hLY : LG Y
      · rw [if_pos (show 8192 < (ws Y).length from hLY)] at U0
        have U := hid U0
        have hLP : LG (pn (ltr s) k) := by
          rcases hY with h | h
          · rw [← h]; exact hLY
          · exact LG_mono h.2 hLY
        rw [if_pos hLP] at hps
        have HP := (Aside.intro (And.intro hps hbel))
        clear hke hok0 hY hNt hbel hps U0 hLY hLP HA hk
        go_wp2_with fail
        refine (Calls.mono U.out) ?_
        rintro r w5 ⟨rfl, rfl⟩
        go_wp2
        try rw [Exit.noGoto_ret]
        go_ret2
        rw [HP.out.1]
        exact ⟨⟨_, rfl, Nt.nil _ _⟩, HP.out.2⟩
      · rw [if_neg (show ¬ 8192 < (ws Y).length from hLY)] at U0
        have U := hid U0
        have hYe : Y = pn (ltr s) k := by
          rcases hY with h | h
          · exact h
          · exact absurd h.1 hLY
        rw [← hYe, if_neg hLY] at hps
        have HP := (Aside.intro (And.intro hps (And.intro hbel hNt)))
        clear hke hok0 hY hNt hbel hps U0 hLY hYe HA hk
        go_wp2_with fail
        refine (Calls.mono U.out) ?_
        rintro r w5 ⟨rfl, rfl⟩
        go_wp2
        try rw [Exit.noGoto_ret]
        go_ret2
        rw [HP.out.1]
        exact ⟨⟨_, rfl, HP.out.2.2⟩, HP.out.2.1⟩
end Go.Proofs.YthilnddhehbjiaaDoor

/- Parse, at every text. -/
namespace Go.Proofs.YthilnddhehbjiaaDoor
open Go.RowKit
set_option linter.unusedVariables false
set_option maxRecDepth 20000

theorem ba_eq {s : ByteArray} {l : List UInt8} (h : s.data.toList = l) : s = ⟨l.toArray⟩ := by
  cases s with
  | mk d => simp at h; subst h; simp

set_option maxHeartbeats 1000000 in
theorem parse_lead (s : ByteArray) (w : World) (h1 : (s.toList == [48]) = false) (h2 : ¬ s.toList = []) (h3 : 0 < s.size) (h4 : s.toList.isEmpty = false) (h5 : (((s[0]'h3).toNat : Int) == 48) = true) :
    Calls Tryd.prog 13 #[.string s] w fun r w' => r = .returned (.tuple #[.slice none 0 0, .int .i64 5]) ∧ w' = w := by
  go_enter Tryd.func13, Tryd.ntmps13
  go_wp2
  go_step3
  go_wp2
  all_goals (
    try rw [Exit.noGoto_ret]
    go_ret2
    exact ⟨rfl, rfl⟩)

set_option maxHeartbeats 1000000 in
theorem parse_zero (w : World) : Calls Tryd.prog 13 #[.string ⟨#[48]⟩] w fun r w' => r = .returned (.tuple #[.slice none 0 0, .int .i64 0]) ∧ w' = w := by
  go_enter Tryd.func13, Tryd.ntmps13
  go_wp2
  go_step3
  go_wp2
  all_goals (
    try rw [Exit.noGoto_ret]
    go_ret2
    exact ⟨rfl, rfl⟩)

set_option maxHeartbeats 1000000 in
theorem parse_nil (w : World) : Calls Tryd.prog 13 #[.string ⟨#[]⟩] w fun r w' => r = .returned (.tuple #[.slice none 0 0, .int .i64 5]) ∧ w' = w := by
  go_enter Tryd.func13, Tryd.ntmps13
  go_wp2
  go_step3
  go_wp2
  all_goals (
    try rw [Exit.noGoto_ret]
    go_ret2
    exact ⟨rfl, rfl⟩)

theorem Parse_any (s : ByteArray) (w : World) (hbig : s.size ≤ 9223372036854775807) :
    Calls Tryd.prog 13 #[.string s] w fun r w' => One w.heap.size w' r (parseS (ltr s)) ∧ Below w.heap.size w w' := by
  by_cases ha : s.data.toList = [48]
  · have := ba_eq ha
    subst this
    refine (parse_zero w).mono ?_
    rintro r w' ⟨rfl, rfl⟩
    have e : parseS (ltr ⟨([48] : List UInt8).toArray⟩) = (0, 0) := by
      unfold parseS
      rw [if_neg (by decide), if_neg]
      · rfl
      · have : pn (ltr ⟨([48] : List UInt8).toArray⟩) (ltr ⟨([48] : List UInt8).toArray⟩).length = 0 := by decide
        rw [this]; unfold LG; rw [ws_zero]; simp
    rw [e]
    exact ⟨⟨_, rfl, Nt.nil _ _⟩, Below.refl _ _⟩
  · by_cases hb : s.data.toList = []
    · have := ba_eq hb
      subst this
      refine (parse_nil w).mono ?_
      rintro r w' ⟨rfl, rfl⟩
      have e : parseS (ltr ⟨([] : List UInt8).toArray⟩) = (0, 5) := by unfold parseS; rw [if_pos (.inl rfl)]
      rw [e]
      exact ⟨⟨_, rfl, Nt.nil _ _⟩, Below.refl _ _⟩
    · have h3 : 0 < s.size := by
        rcases Nat.eq_zero_or_pos s.size with h | h
        · exfalso; apply hb; apply List.length_eq_zero_iff.1; rw [Array.length_toList]; exact h
        · exact h
      have h1 : (s.toList == [48]) = false := by rw [ba_toList]; simp [ha]
      have h2 : ¬ s.toList = [] := by rw [ba_toList]; exact hb
      have h4 : s.toList.isEmpty = false := by simpa using h2
      by_cases h5 : (((s[0]'h3).toNat : Int) == 48) = true
      · refine (parse_lead s w h1 h2 h3 h4 h5).mono ?_
        rintro r w' ⟨rfl, rfl⟩
        have hv : (ltr s).getD 0 0 = 48 := by rw [ltr_get s 0 h3]; have : ((s[0]'h3).toNat : Int) = 48 := by simpa using h5
                                              omega
        have hl : 1 < (ltr s).length := by
          rw [ltr_len]
          by_cases hs : s.size = 1
          · exfalso
            apply ha
            have hd : s.data.toList.length = 1 := by rw [Array.length_toList]; exact hs
            obtain ⟨x, hx⟩ := List.length_eq_one_iff.1 hd
            rw [hx]
            unfold ltr at hv
            rw [hx] at hv
            simp at hv
            have : x = 48 := UInt8.toNat_inj.1 (by simpa using hv)
            rw [this]
          · omega
        have e : parseS (ltr s) = (0, 5) := by unfold parseS; rw [if_pos (.inr (.inl ⟨hv, hl⟩))]
        rw [e]
        exact ⟨⟨_, rfl, Nt.nil _ _⟩, Below.refl _ _⟩
      · exact parse_core s w h1 h2 h3 h4 (by simpa using h5) hbig
end Go.Proofs.YthilnddhehbjiaaDoor

/- What is handed from call to call: Nats, wherever they lie. -/
namespace Go.Proofs.YthilnddhehbjiaaDoor
open Go.RowKit
set_option linter.unusedVariables false
set_option maxRecDepth 20000

/-- A Nat that is handed on: its words, where they lie. -/
structure Arg (w : World) (a : Option Addr) (n c : Nat) (xs : List Nat) : Prop where
  len : n = xs.length
  cap : n ≤ c
  big : n ≤ 35184372088832
  wf : Wf xs
  rd : Rd w.heap.size w a xs
  nil : a = none → c = 0

theorem Arg.below {w w' : World} {a : Option Addr} {n c : Nat} {xs : List Nat} (h : Arg w a n c xs) (hb : Below w.heap.size w w') : Arg w' a n c xs :=
  ⟨h.len, h.cap, h.big, h.wf, (h.rd.below hb).mono hb.size, h.nil⟩

theorem Nt.arg {lo : Nat} {w : World} {v : Value} {X : Nat} (h : Nt lo w v X) (hs : (ws X).length ≤ 35184372088832) : ∃ a c, v = .slice a (ws X).length c ∧ Arg w a (ws X).length c (ws X) := by
  have h' := h
  obtain ⟨a, c, rfl, h1, h2, h3⟩ := h.shape
  refine ⟨a, c, rfl, rfl, h1, hs, wf_ws X, h3, fun e => ?_⟩
  rcases h'.2 with ⟨e1, _⟩ | ⟨g, cap, cur, e1, _⟩
  · simp only [Value.slice.injEq] at e1; exact e1.2.2
  · simp only [Value.slice.injEq] at e1; rw [e1.1] at e; cases e

theorem ws_small {X k : Nat} (h : X < pw k) (hk : k ≤ 16384) : (ws X).length ≤ 35184372088832 := by have := (ws_len_le X k).2 h; omega
theorem LG_small {X k : Nat} (h : X < pw k) (hk : k ≤ 8192) : ¬ LG X := by have := (ws_len_le X k).2 h; unfold LG; omega
theorem pw_mul_lt {X Y i k : Nat} (h1 : X < pw i) (h2 : Y < pw k) : X * Y < pw (i + k) := by rw [pw_add]; exact Nat.mul_lt_mul'' h1 h2
theorem pw_add_lt {X Y i : Nat} (h1 : X < pw i) (h2 : Y < pw i) : X + Y < pw (i + 1) := by rw [pw_succ]; omega

/-- One answer: a Nat and OK. -/
theorem one_ok {lo : Nat} {w : World} {r : Ending} {a : Nat × Int} {V : Nat} (h : One lo w r a) (e : a = (V, 0)) : ∃ v, r = .returned (.tuple #[v, .int .i64 0]) ∧ Nt lo w v V := by
  subst e; exact h

theorem Mul_arg {w : World} {a b : Option Addr} {n c m d : Nat} {xs ys : List Nat} {V : Nat} (h1 : Arg w a n c xs) (h2 : Arg w b m d ys) (e : mulS (val xs) (val ys) = (V, 0)) :
    Calls Tryd.prog 49 #[.slice a n c, .slice b m d] w fun r w' => ∃ v, r = .returned (.tuple #[v, .int .i64 0]) ∧ Nt w.heap.size w' v V ∧ Below w.heap.size w w' :=
  (Mul_any xs ys a b n c m d w.heap.size w h1.len h2.len h1.cap h2.cap (by have := h1.big; omega) (by have := h2.big; omega) h1.wf h2.wf h1.rd h2.rd (Nat.le_refl _)).mono
    fun r w' ⟨ho, hb⟩ => by obtain ⟨v, h3, h4⟩ := one_ok ho e; exact ⟨v, h3, h4, hb⟩
theorem Add_arg {w : World} {a b : Option Addr} {n c m d : Nat} {xs ys : List Nat} {V : Nat} (h1 : Arg w a n c xs) (h2 : Arg w b m d ys) (e : addS (val xs) (val ys) = (V, 0)) :
    Calls Tryd.prog 47 #[.slice a n c, .slice b m d] w fun r w' => ∃ v, r = .returned (.tuple #[v, .int .i64 0]) ∧ Nt w.heap.size w' v V ∧ Below w.heap.size w w' :=
  (Add_any xs ys a b n c m d w.heap.size w h1.len h2.len h1.cap h2.cap (by have := h1.big; omega) (by have := h2.big; omega) h1.wf h2.wf h1.rd h2.rd (Nat.le_refl _)).mono
    fun r w' ⟨ho, hb⟩ => by obtain ⟨v, h3, h4⟩ := one_ok ho e; exact ⟨v, h3, h4, hb⟩
theorem Sub_arg {w : World} {a b : Option Addr} {n c m d : Nat} {xs ys : List Nat} {V : Nat} (h1 : Arg w a n c xs) (h2 : Arg w b m d ys) (e : subS (val xs) (val ys) = (V, 0)) :
    Calls Tryd.prog 48 #[.slice a n c, .slice b m d] w fun r w' => ∃ v, r = .returned (.tuple #[v, .int .i64 0]) ∧ Nt w.heap.size w' v V ∧ Below w.heap.size w w' :=
  (Sub_any xs ys a b n c m d w.heap.size w h1.len h2.len h1.cap h2.cap (by have := h1.big; omega) (by have := h2.big; omega) h1.wf h2.wf h1.rd h2.rd (Nat.le_refl _)).mono
    fun r w' ⟨ho, hb⟩ => by obtain ⟨v, h3, h4⟩ := one_ok ho e; exact ⟨v, h3, h4, hb⟩
theorem Shift_arg {w : World} {a : Option Addr} {n c : Nat} {xs : List Nat} {V : Nat} (by' : Int) (h1 : Arg w a n c xs) (e : shiftS (val xs) by' = (V, 0)) (hb0 : -9223372036854775808 ≤ by') (hb1 : by' ≤ 9223372036854775807) :
    Calls Tryd.prog 51 #[.slice a n c, .int .i64 by'] w fun r w' => ∃ v, r = .returned (.tuple #[v, .int .i64 0]) ∧ Nt w.heap.size w' v V ∧ Below w.heap.size w w' :=
  (Shift_any xs a n c w.heap.size by' w h1.len h1.cap (by have := h1.big; omega) h1.wf h1.rd (Nat.le_refl _) hb0 hb1).mono
    fun r w' ⟨ho, hb⟩ => by obtain ⟨v, h3, h4⟩ := one_ok ho e; exact ⟨v, h3, h4, hb⟩
theorem Norm_arg {w : World} {a : Option Addr} {n c : Nat} {xs : List Nat} {V : Nat} (h1 : Arg w a n c xs) (e : val xs = V) :
    Calls Tryd.prog 65 #[.slice a n c] w fun r w' => ∃ v, r = .returned v ∧ Nt w.heap.size w' v V ∧ Below w.heap.size w w' := by
  subst e
  exact rNorm_any xs a n c w.heap.size w h1.len h1.cap h1.big h1.wf h1.rd h1.nil
theorem same_arg {w : World} {a b : Option Addr} {c d V : Nat} (h1 : Arg w a (ws V).length c (ws V)) (h2 : Arg w b (ws V).length d (ws V)) :
    Calls Tryd.prog 15 #[.slice a (ws V).length c, .slice b (ws V).length d] w fun r w' => r = .returned (.bool true) ∧ Below w.heap.size w w' :=
  same_any (ws V) a b _ c d w.heap.size w rfl (by have := h1.big; omega) h1.rd h2.rd
theorem Cmp_arg {w : World} {a b : Option Addr} {n c m d : Nat} {xs ys : List Nat} (h1 : Arg w a n c xs) (h2 : Arg w b m d ys) (z : Int) (e : cmpI (val xs) (val ys) = z) :
    Calls Tryd.prog 56 #[.slice a n c, .slice b m d] w fun r w' => r = .returned (.int .i64 z) ∧ Below w.heap.size w w' := by
  have := cmp_any xs ys a b n c m d w.heap.size w h1.len h2.len h1.cap h2.cap (by have := h1.big; omega) (by have := h2.big; omega) h1.wf h2.wf h1.rd h2.rd
  rw [e] at this
  exact this
theorem mulS_ok {X Y V : Nat} (h1 : ¬ LG X) (h2 : ¬ LG Y) (h3 : ¬ LG V) (e : X * Y = V) : mulS X Y = (V, 0) := by subst e; unfold mulS; rw [if_neg (by simp [h1, h2]), if_neg h3]
theorem addS_ok {X Y V : Nat} (h3 : ¬ LG V) (e : X + Y = V) : addS X Y = (V, 0) := by subst e; unfold addS; rw [if_neg h3]
theorem subS_ok {X Y V : Nat} (h1 : ¬ LG X) (h2 : ¬ LG Y) (e : V + Y = X) : subS X Y = (V, 0) := by unfold subS; rw [if_neg (by simp [h1, h2]), if_neg (by omega)]; congr 1; omega
end Go.Proofs.YthilnddhehbjiaaDoor

/- The document's calls by arguments. -/
namespace Go.Proofs.YthilnddhehbjiaaDoor
open Go.RowKit
set_option linter.unusedVariables false
set_option maxRecDepth 20000

theorem rTimes_arg {w : World} {a b : Option Addr} {n c m d : Nat} {xs ys : List Nat} {V : Nat} (h1 : Arg w a n c xs) (h2 : Arg w b m d ys) (hs : n + m ≤ 35184372088832) (e : val xs * val ys = V) :
    Calls Tryd.prog 88 #[.slice a n c, .slice b m d] w fun r w' => ∃ v, r = .returned v ∧ Nt w.heap.size w' v V ∧ Below w.heap.size w w' := by
  subst e
  exact rTimes_any xs ys a b n c m d w.heap.size w h1.len h2.len h1.cap h2.cap hs h1.wf h2.wf h1.rd h2.rd (Nat.le_refl _)

theorem rPlus_arg {w : World} {a b : Option Addr} {n c m d : Nat} {xs ys : List Nat} {V : Nat} (h1 : Arg w a n c xs) (h2 : Arg w b m d ys) (hs1 : n ≤ 35184372088000) (hs2 : m ≤ 35184372088000) (e : val xs + val ys = V) :
    Calls Tryd.prog 84 #[.slice a n c, .slice b m d] w fun r w' => ∃ v, r = .returned v ∧ Nt w.heap.size w' v V ∧ Below w.heap.size w w' := by
  subst e
  exact rPlus_any xs ys a b n c m d w.heap.size w h1.len h2.len h1.cap h2.cap hs1 hs2 h1.wf h2.wf h1.rd h2.rd (Nat.le_refl _)

theorem rMinus_arg {w : World} {a b : Option Addr} {n c m d : Nat} {xs ys : List Nat} {V : Nat} (h1 : Arg w a n c xs) (h2 : Arg w b m d ys) (hs1 : n ≤ 35184372088000) (hs2 : m ≤ 35184372088000) (e : V + val ys = val xs) :
    Calls Tryd.prog 86 #[.slice a n c, .slice b m d] w fun r w' => ∃ v, r = .returned v ∧ Nt w.heap.size w' v V ∧ Below w.heap.size w w' := by
  have h := rMinus_any xs ys a b n c m d w.heap.size w h1.len h2.len h1.cap h2.cap hs1 hs2 h1.wf h2.wf h1.rd h2.rd (Nat.le_refl _) (by omega)
  rw [show val xs - val ys = V by omega] at h
  exact h

theorem rCmp_arg {w : World} {a b : Option Addr} {n c m d : Nat} {xs ys : List Nat} (h1 : Arg w a n c xs) (h2 : Arg w b m d ys) (z : Int) (e : cmpI (val xs) (val ys) = z) :
    Calls Tryd.prog 85 #[.slice a n c, .slice b m d] w fun r w' => r = .returned (.int .i64 z) ∧ Below w.heap.size w w' := by
  have := rCmp_any xs ys a b n c m d w.heap.size w h1.len h2.len (by have := h1.big; omega) (by have := h2.big; omega) h1.wf h2.wf h1.rd h2.rd
  rw [e] at this
  exact this

/-- One word, laid for a call. -/
theorem lit_arg (w : World) (d : Nat) (hd : d < 4294967296) : Arg (w.alloc (.cells #[.int .u32 (d : Int)] 61)) (some ⟨w.heap.size, 0, none⟩) 1 1 [d] := by
  refine ⟨rfl, Nat.le_refl _, by omega, Wf.cons hd Wf.nil, fun _ => ⟨w.heap.size, 0, by simp, rfl, fun i hi => ?_⟩, fun e => by cases e⟩
  obtain rfl : i = 0 := by simpa using hi
  unfold World.cell?
  simp only [heap_alloc_new]
  rfl

theorem below_alloc (w : World) (o : Obj) : Below w.heap.size w (w.alloc o) := (Below.refl _ _).alloc (Nat.le_refl _) _

theorem root_digits (N k : Nat) (hk : 0 < k) : N / 4 ^ (k - 1) = 4 * (N / 4 ^ k) + 2 * (N / 2 ^ (2 * k - 1) % 2) + N / 2 ^ (2 * k - 2) % 2 := by
  obtain ⟨j, rfl⟩ : ∃ j, k = j + 1 := ⟨k - 1, by omega⟩
  have e1 : 2 ^ (2 * (j + 1) - 2) = 4 ^ j := by rw [show 2 * (j + 1) - 2 = 2 * j by omega, Nat.pow_mul]
  have e2 : 2 ^ (2 * (j + 1) - 1) = 4 ^ j * 2 := by rw [show 2 * (j + 1) - 1 = 2 * j + 1 by omega, Nat.pow_succ, Nat.pow_mul]
  rw [e1, e2, Nat.add_sub_cancel, Nat.pow_succ, ← Nat.div_div_eq_div_mul, ← Nat.div_div_eq_div_mul]
  omega

theorem root_yes (R S two : Nat) (h : 4 * R + 1 ≤ 4 * S + two) (hS : S ≤ 2 * R) (ht : two ≤ 3) : (2 * R + 1) * (2 * R + 1) + (4 * S + two - (4 * R + 1)) = 4 * (R * R + S) + two ∧ 4 * S + two - (4 * R + 1) ≤ 2 * (2 * R + 1) := by
  have : (2 * R + 1) * (2 * R + 1) = 4 * (R * R) + 4 * R + 1 := by grind
  omega

theorem root_no (R S two : Nat) (h : 4 * S + two < 4 * R + 1) : 2 * R * (2 * R) + (4 * S + two) = 4 * (R * R + S) + two ∧ 4 * S + two ≤ 2 * (2 * R) := by
  have : 2 * R * (2 * R) = 4 * (R * R) := by grind
  omega

theorem root_end (N R S : Nat) (h : N = R * R + S) (hS : S ≤ 2 * R) : IsRoot N R ∧ N - R * R = S := by
  have : (R + 1) * (R + 1) = R * R + 2 * R + 1 := by grind
  refine ⟨⟨by omega, by omega⟩, by omega⟩

theorem le_sq (R : Nat) : R ≤ R * R := by
  rcases Nat.eq_zero_or_pos R with h | h
  · omega
  · exact Nat.le_mul_of_pos_left R h

theorem bl_pw (N n : Nat) (h : N < pw n) : bl N ≤ 32 * n := by
  by_cases h0 : N = 0
  · rw [h0, bl_zero]; omega
  · have h1 := bl_ge N h0
    rcases Nat.lt_or_ge (32 * n) (bl N) with h2 | h2
    · exfalso
      have h3 : 2 ^ (32 * n) ≤ 2 ^ (bl N - 1) := Nat.pow_le_pow_right (by omega) (by omega)
      have h4 : pw n = 2 ^ (32 * n) := by unfold pw; rw [Nat.pow_mul]
      omega
    · exact h2
end Go.Proofs.YthilnddhehbjiaaDoor

