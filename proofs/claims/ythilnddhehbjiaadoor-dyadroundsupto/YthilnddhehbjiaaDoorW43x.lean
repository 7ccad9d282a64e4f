import Derived.Test.YthilnddhehbjiaaDoorW39x
import Derived.Test.YthilnddhehbjiaaDoorW17x
import Derived.Test.YthilnddhehbjiaaDoorW16
import Derived.Test.YthilnddhehbjiaaDoorM8x
/- The document's at, Plus, Minus. -/
namespace Go.Proofs.YthilnddhehbjiaaDoor
open Go.RowKit
set_option linter.unusedVariables false
set_option maxRecDepth 20000

theorem Rw.words {lo : Nat} {w : World} {v : Value} {n : Nat} {L : List Nat} (h : Rw lo w v n (L.map U)) : ∃ ao cap, v = .slice ao n cap ∧ n ≤ cap ∧ n = L.length ∧ (ao = none → cap = 0) ∧ Rd w.heap.size w ao L := by
  have hl : n = L.length := by have := h.1; simp at this; omega
  rcases h.2 with ⟨rfl, h0⟩ | ⟨g, cap, cur, rfl, hlo, hg, hn, hm, hs, ht⟩
  · refine ⟨none, 0, by rw [h0], by omega, hl, fun _ => rfl, ?_⟩
    have : L = [] := List.length_eq_zero_iff.1 (by omega)
    rw [this]; exact Rd.nil _ _ _
  · refine ⟨_, cap, rfl, hn, hl, (fun e => by cases e), fun _ => ⟨g, 0, (Array.getElem?_eq_some_iff.1 hg).1, rfl, fun i hi => ?_⟩⟩
    have h1 := Rw.cell h i (U (L.getD i 0)) (by simp [hi])
    rw [Nat.zero_add]
    exact h1

theorem val_take_all (xs : List Nat) (k : Nat) : val (xs.take (k + 1)) = val (xs.take k) + pw k * xs.getD k 0 := by
  by_cases h : k < xs.length
  · exact val_take_succ xs k h
  · rw [List.take_of_length_le (by omega), List.take_of_length_le (by omega)]
    simp [List.getD_eq_getElem?_getD, List.getElem?_eq_none (show xs.length ≤ k by omega)]

theorem plus_step (p V c a b x y s d : Nat) (h : V + c * p = a + b) (e : s + d * 4294967296 = x + y + c) : (V + p * s) + d * (4294967296 * p) = (a + p * x) + (b + p * y) := carry_step p a b V c x y s d h e

theorem minus_step (p V c a b x y s d : Nat) (h : V + b = a + c * p) (e : s + y + c = x + d * 4294967296) : (V + p * s) + (b + p * y) = (a + p * x) + d * (4294967296 * p) := borrow_step p a b V c x y s d h e

set_option maxHeartbeats 1000000 in
theorem at_any (xs : List Nat) (ao : Option Addr) (n cap B i : Nat) (w : World) (hn : n = xs.length) (hm : n ≤ 70368744177664) (hx : Wf xs) (hR : Rd B w ao xs) (hi : i ≤ 70368744177664) :
    Calls Tryd.prog 118 #[.slice ao n cap, .int .i64 (i : Nat)] w fun r w' => r = .returned (.int .u64 ((xs.getD i 0 : Nat) : Int)) ∧ w' = w := by
  by_cases hin : i < n
  · obtain ⟨b, off, hB, rfl, hcell⟩ := hR (by intro e; subst e; simp at hn; omega)
    have hck := hcell i (by omega)
    have hxl := hx.get i
    obtain ⟨t, ht⟩ : ∃ t, xs.getD i 0 = t := ⟨_, rfl⟩
    rw [ht] at hck hxl ⊢
    clear hcell hR hn hx ht
    go_enter Tryd.func118, Tryd.ntmps118
    go_wp2
    go_ret
    exact ⟨rfl, rfl⟩
  · have e : xs.getD i 0 = 0 := by simp [List.getD_eq_getElem?_getD, List.getElem?_eq_none (show xs.length ≤ i by omega)]
    rw [e]
    clear hR hn hx e
    go_enter Tryd.func118, Tryd.ntmps118
    go_wp2
    go_ret
    exact ⟨rfl, rfl⟩

theorem plus_end (X Y V c n m N : Nat) (hX : X < pw n) (hY : Y < pw m) (hn : n ≤ N) (hm : m ≤ N) (h : V + c * pw (N + 1) = X + Y) : c = 0 := by
  rcases Nat.eq_zero_or_pos c with h0 | h0
  · exact h0
  · exfalso
    have h1 := pw_mono hn
    have h2 := pw_mono hm
    have h3 : 1 * pw (N + 1) ≤ c * pw (N + 1) := Nat.mul_le_mul_right _ h0
    rw [pw_succ] at h3 h
    have := pw_pos N
    omega

set_option maxHeartbeats 2000000 in
theorem rPlus_any (xs ys : List Nat) (ao bo : Option Addr) (n cap m capb B : Nat) (w : World) (hn : n = xs.length) (hm : m = ys.length) (hc : n ≤ cap) (hcb : m ≤ capb) (hbig : n ≤ 35184372088000) (hbig2 : m ≤ 35184372088000)
    (hx : Wf xs) (hy : Wf ys) (hR : Rd B w ao xs) (hS : Rd B w bo ys) (hB : B ≤ w.heap.size) :
    Calls Tryd.prog 84 #[.slice ao n cap, .slice bo m capb] w fun r w' => ∃ v, r = .returned v ∧ Nt w.heap.size w' v (val xs + val ys) ∧ Below w.heap.size w w' := by
  have hX := val_lt xs hx
  have hY := val_lt ys hy
  rw [← hn] at hX
  rw [← hm] at hY
  obtain ⟨N, hN⟩ : ∃ N, N = max n m := ⟨_, rfl⟩
  have hnN : n ≤ N := by omega
  have hmN : m ≤ N := by omega
  have hNb : N ≤ 35184372088000 := by omega
  have HR := (Aside.intro (And.intro hR (And.intro hS (And.intro hn (And.intro hm (And.intro hx (And.intro hy (And.intro hB (And.intro hX (And.intro hY hN))))))))))
  clear hR hS hn hm hx hy hB hX hY hN
  go_enter Tryd.func84, Tryd.ntmps84
  go_wp2
  go_loopg [5, 6, 7] (N + 1) (fun gk ov cv iv wr => ∃ (i c : Nat) (L : List Nat), gk + i = N + 1 ∧ cv = .int .u64 (c : Nat) ∧ c ≤ 1 ∧ iv = .int .i64 (i : Nat) ∧ Hid (Rw w.heap.size wr ov i (L.map U)) ∧ Hid (Below w.heap.size w wr) ∧
      Aside (Wf L ∧ val L + c * pw i = val (xs.take i) + val (ys.take i)))
  case atStart => exact ⟨0, 0, [], by omega, rfl, by omega, rfl, World.ownsRow_nil _ _ _ _, Below.refl _ _, Wf.nil, by simp [val]⟩
  case round =>
    obtain ⟨i, c, L, hgi, rfl, hc1, rfl, HO, HB, HA⟩ := hrel
    by_cases hgo : i < n ∨ i < m ∨ c = 1
    · have hiN : i ≤ N := by
        rcases hgo with h | h | h
        · omega
        · omega
        · by_cases hi1 : i = N + 1
          · exfalso
            obtain ⟨hR, hS, hn, hm, hx, hy, hB, hX, hY, hN⟩ := HR.out
            have h1 := HA.out.2
            rw [List.take_of_length_le (by omega), List.take_of_length_le (by omega), hi1] at h1
            have := plus_end _ _ _ _ _ _ _ hX hY hnN hmN h1
            omega
          · omega
      obtain ⟨hR, hS, hn, hm, hx, hy, hB, hX, hY, hN⟩ := HR.out
      have HA1 := hid (at_any xs ao n cap B i wr hn (by omega) hx (hR.below (HB.out.mono hB)) (by omega))
      have HA2 := hid (at_any ys bo m capb B i wr hm (by omega) hy (hS.below (HB.out.mono hB)) (by omega))
      obtain ⟨x, hxx⟩ : ∃ x, xs.getD i 0 = x := ⟨_, rfl⟩
      obtain ⟨y, hyy⟩ : ∃ y, ys.getD i 0 = y := ⟨_, rfl⟩
      have hxl : x < 4294967296 := hxx ▸ hx.get i
      have hyl : y < 4294967296 := hyy ▸ hy.get i
      rw [hxx] at HA1
      rw [hyy] at HA2
      obtain ⟨s, hs⟩ : ∃ s : Nat, s = (x + y + c) % 4294967296 := ⟨_, rfl⟩
      obtain ⟨d, hd⟩ : ∃ d : Nat, d = (x + y + c) / 4294967296 := ⟨_, rfl⟩
      have e1 : ((x : Int) + y + c) % 4294967296 = (s : Int) := by omega
      have e2 : ((x : Int) + y + c) / 4294967296 = (d : Int) := by omega
      have hsz := HB.out.size
      obtain ⟨v', w', hap, hown, hgrow, _, _⟩ := append_word (wr.alloc (.cells #[.int .u32 (s : Nat)] 61)) w.heap.size u5 i (L.map U) (.int .u32 (s : Nat)) wr.heap.size 23 (HO.out.alloc _) (by unfold World.cell?; simp only [heap_alloc_new]; rfl) rfl (by omega) (by simp; omega)
      have HX : Aside (xs.getD i 0 = x ∧ ys.getD i 0 = y ∧ s + d * 4294967296 = x + y + c ∧ s < 4294967296 ∧ d ≤ 1) := ⟨hxx, hyy, by omega, by omega, by omega⟩
      have hbel : Below w.heap.size w w' := (HB.out.alloc hsz _).grown hgrow (by simp; omega) (fun k hk => (HO.out.lt k hk).1)
      have HI := (Aside.intro (And.intro hown hbel))
      have HAP := hid hap
      clear hap hown hgrow hbel hs hd hxx hyy hR hS hn hm hx hy hB hX hY hN hsz
      have hways : (decide (i < n) = true) ∨ (decide (i < n) = false ∧ decide (i < m) = true) ∨ (decide (i < n) = false ∧ decide (i < m) = false ∧ decide (0 < c) = true) := by
        by_cases a : i < n
        · exact .inl (decide_eq_true (by omega))
        · by_cases b : i < m
          · exact .inr (.inl ⟨decide_eq_false (by omega), decide_eq_true (by omega)⟩)
          · exact .inr (.inr ⟨decide_eq_false (by omega), decide_eq_false (by omega), decide_eq_true (by omega)⟩)
      rcases hways with h1 | ⟨h1, h2⟩ | ⟨h1, h2, h3⟩
      all_goals (
        go_wp2_with fail
        refine (Calls.mono HA1.out) ?_
        rintro r w1 ⟨rfl, rfl⟩
        go_wp2_with fail
        refine (Calls.mono HA2.out) ?_
        rintro r w1 ⟨rfl, rfl⟩
        go_wp2_with (at_builtin; refine wpList_append_run2 rfl (.tmp 34) (.tmp 37) 23 rfl _ _ rfl rfl _ _ HAP.out ?_)
        go_roundg (gk - 1)
        case measure => omega
        case rel =>
          obtain ⟨a1, a2, a3, a4, a5⟩ := HX.out
          obtain ⟨hLw, hLv⟩ := HA.out
          refine ⟨i + 1, d, L ++ [s], by omega, by first | rfl | rw [e2], a5, by first | go_num | (congr 1; omega), by rw [List.map_append]; exact HI.out.1, HI.out.2, hLw.append (Wf.cons a4 Wf.nil), ?_⟩
          have hLl : L.length = i := by have := HO.out.1; simp at this; omega
          rw [val_append, hLl, val_take_all, val_take_all, a1, a2, pw_succ]
          simpa [val] using plus_step (pw i) _ _ _ _ x y s d hLv a3)
    · have hi : N ≤ i := by have := HR.out.2.2.2.2.2.2.2.2.2; omega
      obtain rfl : c = 0 := by omega
      obtain ⟨aoo, capo, hsh, hcap, hl, hnil, hRo⟩ := HO.out.words
      subst hsh
      obtain ⟨hR, hS, hn, hm, hx, hy, hB, hX, hY, hN⟩ := HR.out
      have HNm := hid (rNorm_any L aoo i capo wr.heap.size wr hl hcap (by omega) HA.out.1 hRo hnil)
      have hLv : val L = val xs + val ys := by
        have h1 := HA.out.2
        rw [List.take_of_length_le (by omega), List.take_of_length_le (by omega)] at h1
        omega
      rw [hLv] at HNm
      have h1 : decide (i < n) = false := decide_eq_false (by omega)
      have h2 : decide (i < m) = false := decide_eq_false (by omega)
      clear hR hS hn hm hx hy hB hX hY hN hl hnil hRo hLv hgo HO
      go_wp2_with fail
      refine (Calls.mono HNm.out) ?_
      rintro r w1 ⟨v, rfl, hNt, hb⟩
      have HZ := (Aside.intro (And.intro hNt hb))
      clear hNt hb
      go_wp2
      go_ret
      have hsz := HB.out.size
      exact ⟨v, rfl, HZ.out.1.mono hsz, HB.out.trans (HZ.out.2.mono hsz)⟩
end Go.Proofs.YthilnddhehbjiaaDoor

/- The document's Minus, Cmp, Bit. -/
namespace Go.Proofs.YthilnddhehbjiaaDoor
open Go.RowKit
set_option linter.unusedVariables false
set_option maxRecDepth 20000

theorem val_take_small (ys : List Nat) (hy : Wf ys) (n : Nat) (h : val ys < pw n) : val (ys.take n) = val ys := by
  by_cases hn : n ≤ ys.length
  · have h1 := val_take_drop ys n hn
    have : val (ys.drop n) = 0 := by
      rcases Nat.eq_zero_or_pos (val (ys.drop n)) with h0 | h0
      · exact h0
      · have h2 : pw n * 1 ≤ pw n * val (ys.drop n) := Nat.mul_le_mul_left _ h0
        omega
    rw [this] at h1
    omega
  · rw [List.take_of_length_le (by omega)]

theorem minus_end (V Y X c p : Nat) (hV : V < p) (hle : Y ≤ X) (hc : c ≤ 1) (h : V + Y = X + c * p) : V = X - Y := by
  rcases (by omega : c = 0 ∨ c = 1) with rfl | rfl <;> omega

set_option maxHeartbeats 2000000 in
theorem rMinus_any (xs ys : List Nat) (ao bo : Option Addr) (n cap m capb B : Nat) (w : World) (hn : n = xs.length) (hm : m = ys.length) (hc : n ≤ cap) (hcb : m ≤ capb) (hbig : n ≤ 35184372088000) (hbig2 : m ≤ 35184372088000)
    (hx : Wf xs) (hy : Wf ys) (hR : Rd B w ao xs) (hS : Rd B w bo ys) (hB : B ≤ w.heap.size) (hle : val ys ≤ val xs) :
    Calls Tryd.prog 86 #[.slice ao n cap, .slice bo m capb] w fun r w' => ∃ v, r = .returned v ∧ Nt w.heap.size w' v (val xs - val ys) ∧ Below w.heap.size w w' := by
  have hX := val_lt xs hx
  rw [← hn] at hX
  have HR := (Aside.intro (And.intro hR (And.intro hS (And.intro hn (And.intro hm (And.intro hx (And.intro hy (And.intro hB (And.intro hX hle)))))))))
  clear hR hS hn hm hx hy hB hX hle
  go_enter Tryd.func86, Tryd.ntmps86
  go_wp2
  go_loopg [5, 6, 7] n (fun gk ov cv iv wr => ∃ (i c : Nat) (L : List Nat), gk + i = n ∧ cv = .int .u64 (c : Nat) ∧ c ≤ 1 ∧ iv = .int .i64 (i : Nat) ∧ Hid (Rw w.heap.size wr ov i (L.map U)) ∧ Hid (Below w.heap.size w wr) ∧
      Aside (Wf L ∧ val L + val (ys.take i) = val (xs.take i) + c * pw i))
  case atStart => exact ⟨0, 0, [], by omega, rfl, by omega, rfl, World.ownsRow_nil _ _ _ _, Below.refl _ _, Wf.nil, by simp [val]⟩
  case round =>
    obtain ⟨i, c, L, hgi, rfl, hc1, rfl, HO, HB, HA⟩ := hrel
    by_cases hgo : i < n
    · obtain ⟨hR, hS, hn, hm, hx, hy, hB, hX, hle⟩ := HR.out
      have HA1 := hid (at_any xs ao n cap B i wr hn (by omega) hx (hR.below (HB.out.mono hB)) (by omega))
      have HA2 := hid (at_any ys bo m capb B i wr hm (by omega) hy (hS.below (HB.out.mono hB)) (by omega))
      obtain ⟨x, hxx⟩ : ∃ x, xs.getD i 0 = x := ⟨_, rfl⟩
      obtain ⟨y, hyy⟩ : ∃ y, ys.getD i 0 = y := ⟨_, rfl⟩
      have hxl : x < 4294967296 := hxx ▸ hx.get i
      have hyl : y < 4294967296 := hyy ▸ hy.get i
      rw [hxx] at HA1
      rw [hyy] at HA2
      obtain ⟨s, hs⟩ : ∃ s : Nat, s = (x + 4294967296 - y - c) % 4294967296 := ⟨_, rfl⟩
      obtain ⟨q, hq⟩ : ∃ q : Nat, q = (x + 4294967296 - y - c) / 4294967296 := ⟨_, rfl⟩
      obtain ⟨d, hd⟩ : ∃ d : Nat, d = 1 - q := ⟨_, rfl⟩
      have e1 : ((x : Int) + 4294967296 - y - c) % 4294967296 = (s : Int) := by omega
      have e2 : ((x : Int) + 4294967296 - y - c) / 4294967296 = (q : Int) := by omega
      have e3 : (1 : Int) - (q : Int) = (d : Int) := by omega
      have hsz := HB.out.size
      obtain ⟨v', w', hap, hown, hgrow, _, _⟩ := append_word (wr.alloc (.cells #[.int .u32 (s : Nat)] 61)) w.heap.size u5 i (L.map U) (.int .u32 (s : Nat)) wr.heap.size 23 (HO.out.alloc _) (by unfold World.cell?; simp only [heap_alloc_new]; rfl) rfl (by omega) (by simp; omega)
      have HX : Aside (xs.getD i 0 = x ∧ ys.getD i 0 = y ∧ s + y + c = x + d * 4294967296 ∧ s < 4294967296 ∧ d ≤ 1) := ⟨hxx, hyy, by omega, by omega, by omega⟩
      have hbel : Below w.heap.size w w' := (HB.out.alloc hsz _).grown hgrow (by simp; omega) (fun k hk => (HO.out.lt k hk).1)
      have HI := (Aside.intro (And.intro hown hbel))
      have HAP := hid hap
      clear hap hown hgrow hbel hs hd hq hxx hyy hR hS hn hm hx hy hB hX hsz hle
      go_wp2_with fail
      refine (Calls.mono HA1.out) ?_
      rintro r w1 ⟨rfl, rfl⟩
      go_wp2_with fail
      refine (Calls.mono HA2.out) ?_
      rintro r w1 ⟨rfl, rfl⟩
      go_wp2_with (at_builtin; refine wpList_append_run2 rfl (.tmp 25) (.tmp 28) 23 rfl _ _ rfl rfl _ _ HAP.out ?_)
      go_roundg (gk - 1)
      case measure => omega
      case rel =>
        obtain ⟨a1, a2, a3, a4, a5⟩ := HX.out
        obtain ⟨hLw, hLv⟩ := HA.out
        refine ⟨i + 1, d, L ++ [s], by omega, by first | rfl | rw [e3] | rw [e2, e3], a5, by first | go_num | (congr 1; omega), by rw [List.map_append]; exact HI.out.1, HI.out.2, hLw.append (Wf.cons a4 Wf.nil), ?_⟩
        have hLl : L.length = i := by have := HO.out.1; simp at this; omega
        rw [val_append, hLl, val_take_all, val_take_all, a1, a2, pw_succ]
        simpa [val] using minus_step (pw i) _ _ _ _ x y s d hLv a3
    · obtain rfl : i = n := by omega
      obtain ⟨aoo, capo, hsh, hcap, hl, hnil, hRo⟩ := HO.out.words
      subst hsh
      obtain ⟨hR, hS, hn, hm, hx, hy, hB, hX, hle⟩ := HR.out
      have HNm := hid (rNorm_any L aoo i capo wr.heap.size wr hl hcap (by omega) HA.out.1 hRo hnil)
      have hLv : val L = val xs - val ys := by
        have h1 := HA.out.2
        rw [List.take_of_length_le (l := xs) (by omega), val_take_small ys hy i (by omega)] at h1
        have h2 := val_lt L HA.out.1
        rw [← hl] at h2
        exact minus_end _ _ _ _ _ h2 hle hc1 h1
      rw [hLv] at HNm
      clear hR hS hn hm hx hy hB hX hl hnil hRo hLv hgo HO hle
      go_wp2_with fail
      refine (Calls.mono HNm.out) ?_
      rintro r w1 ⟨v, rfl, hNt, hb⟩
      have HZ := (Aside.intro (And.intro hNt hb))
      clear hNt hb
      go_wp2
      go_ret
      have hsz := HB.out.size
      exact ⟨v, rfl, HZ.out.1.mono hsz, HB.out.trans (HZ.out.2.mono hsz)⟩

theorem Below.drewN' {B : Nat} {a w : World} (h : Below B a w) (n : Nat) : Below B a (w.drewN n) := ⟨h.os, h.tape, h.output, h.size, h.block⟩

set_option maxHeartbeats 2000000 in
theorem rCmp_any (xs ys : List Nat) (ao bo : Option Addr) (n cap m capb B : Nat) (w : World) (hn : n = xs.length) (hm : m = ys.length) (hbig : n ≤ 70368744177664) (hbig2 : m ≤ 70368744177664)
    (hx : Wf xs) (hy : Wf ys) (hR : Rd B w ao xs) (hS : Rd B w bo ys) :
    Calls Tryd.prog 85 #[.slice ao n cap, .slice bo m capb] w fun r w' => r = .returned (.int .i64 (cmpI (val xs) (val ys))) ∧ Below w.heap.size w w' := by
  have H1 := hid (size_any xs ao n cap B w hn (by omega) hR)
  have H2 := hid (size_any ys bo m capb B w hm (by omega) hS)
  have hl1 := nl_le xs
  have hl2 := nl_le ys
  have f1 := val_form xs hx
  have f2 := val_form ys hy
  rw [← sg_val_take] at f1 f2
  rcases Nat.lt_trichotomy (nl xs) (nl ys) with he | he | he
  · rw [cmpI_lt (cmp_len xs ys hx hy he)]
    obtain ⟨k1, hk1⟩ : ∃ k, nl xs = k := ⟨_, rfl⟩
    obtain ⟨k2, hk2⟩ : ∃ k, nl ys = k := ⟨_, rfl⟩
    rw [hk1] at H1 he
    rw [hk2] at H2 he
    clear hk1 hk2 hn hm hx hy hR hS f1 f2 hl1 hl2
    go_enter Tryd.func85, Tryd.ntmps85
    go_wp2_with fail
    refine (Calls.mono H1.out) ?_
    rintro r w1 ⟨rfl, rfl⟩
    go_wp2_with fail
    refine (Calls.mono H2.out) ?_
    rintro r w1 ⟨rfl, rfl⟩
    have hne : decide (k1 = k2) = false := decide_eq_false (by omega)
    have hne2 : k1 ≠ k2 := by omega
    go_wp2
    go_ret
    exact ⟨rfl, Below.refl _ _⟩
  · obtain ⟨k0, hk0⟩ : ∃ k, nl ys = k := ⟨_, rfl⟩
    rw [he] at H1 hl1 f1
    rw [hk0] at H1 H2 hl1 hl2 f1 f2
    have HR := (Aside.intro (And.intro hR (And.intro hS (And.intro hn (And.intro hm (And.intro hx (And.intro hy (And.intro hl1 (And.intro hl2 (And.intro f1 f2))))))))))
    have hkn : k0 ≤ n := by omega
    have hkm : k0 ≤ m := by omega
    clear hR hS hn hm hx hy hl1 hl2 f1 f2 he hk0
    go_enter Tryd.func85, Tryd.ntmps85
    go_wp2_with fail
    refine (Calls.mono H1.out) ?_
    rintro r w1 ⟨rfl, rfl⟩
    go_wp2_with fail
    refine (Calls.mono H2.out) ?_
    rintro r w1 ⟨rfl, rfl⟩
    go_wp2
    go_loopg [5] k0 (fun k i wr => k ≤ k0 ∧ i = .int .i64 ((k : Int) - 1) ∧ Hid (Below w1.heap.size w1 wr) ∧ Aside (sg xs k (k0 - k) = sg ys k (k0 - k)))
    case atStart => exact ⟨Nat.le_refl _, by first | rfl | go_num, Below.refl _ _, by rw [Nat.sub_self, sg_zero, sg_zero]; exact rfl⟩
    case round =>
      obtain ⟨hk, rfl, HB, HA⟩ := hrel
      by_cases hk0 : gk = 0
      · subst hk0
        go_wp2
        go_ret
        obtain ⟨hR, hS, hn, hm, hx, hy, hl1, hl2, f1, f2⟩ := HR.out
        have h := HA.out
        rw [Nat.sub_zero, f1, f2] at h
        rw [cmpI_eq h]
        exact ⟨rfl, HB.out⟩
      · obtain ⟨k, rfl⟩ : ∃ k, gk = k + 1 := ⟨gk - 1, by omega⟩
        obtain ⟨hR, hS, hn, hm, hx, hy, hl1, hl2, f1, f2⟩ := HR.out
        obtain ⟨b, off, hB1, rfl, hc1⟩ := hR (by intro e; subst e; simp at hl1; omega)
        obtain ⟨b2, off2, hB2, rfl, hc2⟩ := hS (by intro e; subst e; simp at hl2; omega)
        have g1 : wr.cell? ⟨b, off + k, none⟩ = some (.int .u32 ((xs.getD k 0 : Nat) : Int)) :=
          (HB.out.cell (p := ⟨b, off + k, none⟩) (World.block_lt_of_cell? w1 ⟨b, off + k, none⟩ (hc1 k (by omega)))).trans (hc1 k (by omega))
        have g2 : wr.cell? ⟨b2, off2 + k, none⟩ = some (.int .u32 ((ys.getD k 0 : Nat) : Int)) :=
          (HB.out.cell (p := ⟨b2, off2 + k, none⟩) (World.block_lt_of_cell? w1 ⟨b2, off2 + k, none⟩ (hc2 k (by omega)))).trans (hc2 k (by omega))
        obtain ⟨x, hxx⟩ : ∃ x : Nat, xs.getD k 0 = x := ⟨_, rfl⟩
        obtain ⟨y, hyy⟩ : ∃ y : Nat, ys.getD k 0 = y := ⟨_, rfl⟩
        rw [hxx] at g1
        rw [hyy] at g2
        have HX := (Aside.intro (And.intro hxx hyy))
        have hki : (k : Int) < (n : Int) := by omega
        have hki0 : 0 ≤ (k : Int) := by omega
        have hki2 : (k : Int) < (m : Int) := by omega
        clear hR hS hn hm hx hy hl1 hl2 f1 f2 hc1 hc2 hxx hyy hk0
        rcases Nat.lt_trichotomy x y with hxy | hxy | hxy
        · go_wp2
          go_quiet (fail)
          go_wp2
          go_ret
          obtain ⟨hR, hS, hn, hm, hx, hy, hl1, hl2, f1, f2⟩ := HR.out
          have h := HA.out
          have t1 := cmp_words xs ys hx hy k (k0 - (k + 1)) (by omega) (by omega) h (by rw [HX.out.1, HX.out.2]; exact hxy)
          rw [show k + 1 + (k0 - (k + 1)) = k0 by omega, f1, f2] at t1
          rw [cmpI_lt t1]
          exact ⟨rfl, Below.drewN' HB.out _⟩
        · subst hxy
          go_wp2
          go_quiet (fail)
          go_wp2
          go_quiet (fail)
          go_wp2
          go_roundg k
          case measure => omega
          case rel =>
            obtain ⟨hR, hS, hn, hm, hx, hy, hl1, hl2, f1, f2⟩ := HR.out
            refine ⟨by omega, by first | go_num | (congr 1; omega), hid (Below.drewN' HB.out _), ?_⟩
            have h := HA.out
            obtain ⟨r, hr⟩ : ∃ r, k0 - k = r + 1 := ⟨k0 - (k + 1), by omega⟩
            rw [show k0 - (k + 1) = r by omega] at h
            rw [Aside, hr, sg_front xs k r (by omega), sg_front ys k r (by omega), h, HX.out.1, HX.out.2]
        · have hxy2 : decide (x < y) = false := decide_eq_false (by omega)
          go_wp2
          go_quiet (fail)
          go_wp2
          go_quiet (fail)
          go_wp2
          go_ret
          obtain ⟨hR, hS, hn, hm, hx, hy, hl1, hl2, f1, f2⟩ := HR.out
          have h := HA.out
          have t1 := cmp_words ys xs hy hx k (k0 - (k + 1)) (by omega) (by omega) h.symm (by rw [HX.out.1, HX.out.2]; exact hxy)
          rw [show k + 1 + (k0 - (k + 1)) = k0 by omega, f1, f2] at t1
          rw [cmpI_gt t1]
          exact ⟨rfl, Below.drewN' (Below.drewN' HB.out _) _⟩
  · rw [cmpI_gt (cmp_len ys xs hy hx he)]
    obtain ⟨k1, hk1⟩ : ∃ k, nl xs = k := ⟨_, rfl⟩
    obtain ⟨k2, hk2⟩ : ∃ k, nl ys = k := ⟨_, rfl⟩
    rw [hk1] at H1 he
    rw [hk2] at H2 he
    clear hk1 hk2 hn hm hx hy hR hS f1 f2 hl1 hl2
    go_enter Tryd.func85, Tryd.ntmps85
    go_wp2_with fail
    refine (Calls.mono H1.out) ?_
    rintro r w1 ⟨rfl, rfl⟩
    go_wp2_with fail
    refine (Calls.mono H2.out) ?_
    rintro r w1 ⟨rfl, rfl⟩
    have hne : decide (k1 = k2) = false := decide_eq_false (by omega)
    have hlt : decide (k1 < k2) = false := decide_eq_false (by omega)
    have hne2 : k1 ≠ k2 := by omega
    go_wp2
    go_ret
    exact ⟨rfl, Below.refl _ _⟩

theorem rBit_neg (ao : Option Addr) (n cap : Nat) (i : Int) (w : World) (hi : i < 0) :
    Calls Tryd.prog 139 #[.slice ao n cap, .int .i64 i] w fun r w' => r = .returned (.bool false) ∧ w' = w := by
  go_enter Tryd.func139, Tryd.ntmps139
  go_wp2
  go_ret
  exact ⟨rfl, rfl⟩

set_option maxHeartbeats 1000000 in
theorem rBit_any (xs : List Nat) (ao : Option Addr) (n cap B i : Nat) (w : World) (hn : n = xs.length) (hx : Wf xs) (hR : Rd B w ao xs) (hi : i ≤ 9223372036854775807) :
    Calls Tryd.prog 139 #[.slice ao n cap, .int .i64 (i : Int)] w fun r w' => r = .returned (.bool (decide (val xs / 2 ^ i % 2 = 1))) ∧ w' = w := by
  obtain ⟨k, hk⟩ : ∃ k, k = i / 32 := ⟨_, rfl⟩
  obtain ⟨r, hr⟩ : ∃ r, r = i % 32 := ⟨_, rfl⟩
  have e1 : (i : Int) / 32 = (k : Int) := by omega
  have e2 : (i : Int) % 32 = (r : Int) := by omega
  by_cases hkn : k < n
  · have hb := bit_words xs hx k r (by omega) (by omega)
    rw [show 32 * k + r = i by omega] at hb
    rw [hb]
    obtain ⟨b, off, hB, rfl, hcell⟩ := hR (by intro e; subst e; simp at hn; omega)
    have hck := hcell k (by omega)
    obtain ⟨t, ht⟩ : ∃ t, xs.getD k 0 = t := ⟨_, rfl⟩
    have htl : t < 4294967296 := ht ▸ hx.get k
    rw [ht] at hck ⊢
    obtain ⟨z, hz⟩ : ∃ z, z = t / 2 ^ r := ⟨_, rfl⟩
    have hzt : z ≤ t := by rw [hz]; exact Nat.div_le_self _ _
    have e3 : (t : Int) / 2 ^ r = (z : Int) := by rw [hz]; simp
    have e4 := and_one z (by omega)
    have hr32 : r < 32 := by omega
    have hnk : decide ((n : Int) ≤ (k : Int)) = false := decide_eq_false (by omega)
    have hnk2 : decide (n ≤ k) = false := decide_eq_false (by omega)
    rw [← hz]
    clear hb hn hx hR hcell ht hz hk hr
    rcases (by omega : z % 2 = 0 ∨ z % 2 = 1) with hz2 | hz2
    · rw [hz2] at e4 ⊢
      clear hz2
      go_enter Tryd.func139, Tryd.ntmps139
      go_wp2
      go_ret
      exact ⟨rfl, rfl⟩
    · rw [hz2] at e4 ⊢
      clear hz2
      go_enter Tryd.func139, Tryd.ntmps139
      go_wp2
      go_ret
      exact ⟨rfl, rfl⟩
  · rw [bit_beyond xs hx i (by omega)]
    have hnk : decide ((n : Int) ≤ (k : Int)) = true := decide_eq_true (by omega)
    clear hn hx hR hk hr
    go_enter Tryd.func139, Tryd.ntmps139
    go_wp2
    go_ret
    exact ⟨rfl, rfl⟩
end Go.Proofs.YthilnddhehbjiaaDoor

/- The document's Times. -/
namespace Go.Proofs.YthilnddhehbjiaaDoor
open Go.RowKit
set_option linter.unusedVariables false
set_option maxRecDepth 20000

theorem times_round (M M2 xs bs : List Nat) (k n m c y : Nat) (hMl : M.length = n + m) (hk : k < n) (hn : n = xs.length) (hm : m = bs.length) (hMs : sg M 0 (k + m) = sg xs 0 k * val bs) (hy : xs.getD k 0 = y)
    (hout : Out M M2 k m) (hsum : sg M2 k m + c * pw m = sg M k m + val bs * y) : sg (M2.set (k + m) c) 0 (k + 1 + m) = sg xs 0 (k + 1) * val bs := by
  have e1 := sg_set_last M2 0 (k + m) c (by rw [hout.1]; omega)
  rw [Nat.zero_add] at e1
  have e2 := sg_add M2 0 k m (by rw [hout.1]; omega)
  have e3 := sg_add M 0 k m (by omega)
  rw [Nat.zero_add] at e2 e3
  have e4 := hout.below 0 k (by omega) (by omega)
  rw [show k + 1 + m = k + m + 1 by omega, e1, e2, e4, sg_succ xs 0 k (by omega), Nat.zero_add, hy, pw_add]
  rw [e3] at hMs
  rw [Nat.mul_comm c] at hsum
  have := mul_step (pw k) _ _ y _ _ c hMs
  rw [← hsum] at this
  rw [← this, Nat.mul_add, Nat.mul_assoc, Nat.add_assoc]

set_option maxHeartbeats 4000000 in
theorem rTimes_any (xs bs : List Nat) (ao bo : Option Addr) (n cap m capb B : Nat) (w : World) (hn : n = xs.length) (hm : m = bs.length) (hc : n ≤ cap) (hcb : m ≤ capb) (hbig : n + m ≤ 35184372088832)
    (hx : Wf xs) (hb : Wf bs) (hR : Rd B w ao xs) (hS : Rd B w bo bs) (hB : B ≤ w.heap.size) :
    Calls Tryd.prog 88 #[.slice ao n cap, .slice bo m capb] w fun r w' => ∃ v, r = .returned v ∧ Nt w.heap.size w' v (val xs * val bs) ∧ Below w.heap.size w w' := by
  obtain ⟨W1, hW1⟩ : ∃ W, W = w.alloc (.cells (madeCells #[.int .u32 0] (n + m)) 61) := ⟨_, rfl⟩
  have hO1 : Own W1 w.heap.size (List.replicate (n + m) 0) := by rw [hW1]; exact Own.made w (n + m)
  have hB1 : Below w.heap.size w W1 := by rw [hW1]; exact (Below.refl _ _).alloc (Nat.le_refl _) _
  have hmk := make_words ((n : Int) + m) (n + m) (by omega) (by omega) w
  rw [← hW1] at hmk
  have hR1 : Rd B W1 ao xs := hR.below (hB1.mono hB)
  have hS1 : Rd B W1 bo bs := hS.below (hB1.mono hB)
  obtain ⟨g, hg⟩ : ∃ g, g = w.heap.size := ⟨_, rfl⟩
  rw [← hg] at hO1 hmk hB1 hB
  have HR := (Aside.intro (And.intro hR1 (And.intro hS1 (And.intro hm (And.intro hb (And.intro hx (And.intro hn (And.intro hB1 hg))))))))
  have HO := hid hO1
  clear hn hm hx hb hR hS hO1 hB1 hW1 hR1 hS1 hg
  go_enter Tryd.func88, Tryd.ntmps88
  go_wp2
  go_loopg [6] n (fun gk i wr => ∃ (k : Nat) (M : List Nat), gk + k = n ∧ i = .int .i64 (k : Nat) ∧
      Hid (Own wr g M) ∧ Aside (Wf M ∧ M.length = n + m ∧ sg M 0 (k + m) = sg xs 0 k * val bs ∧ But g W1 wr))
  case atStart => exact ⟨0, _, by omega, rfl, HO, Wf.zeros _, by simp, by rw [sg_zeros, sg_zero]; simp, But.refl _ _⟩
  case round =>
    obtain ⟨i, L, hgk, rfl, HM, HA⟩ := hrel
    by_cases hi : i < n
    · obtain ⟨hR, hS, hm, hb, hx, hn, hB1, hg⟩ := HR.out
      obtain ⟨a, aoff, haB, rfl, hac⟩ := hR (by intro e; subst e; simp at hn; omega)
      have hW1s : g ≤ W1.heap.size := by have := hB1.size; omega
      have HAC : Aside (W1.cell? ⟨a, aoff + i, none⟩ = some (.int .u32 ((xs.getD i 0 : Nat) : Int)) ∧ a < B ∧ a < W1.heap.size) := ⟨hac i (by omega), haB, World.block_lt_of_cell? W1 ⟨a, aoff + i, none⟩ (hac i (by omega))⟩
      obtain ⟨q, hq⟩ : ∃ q : Nat, xs.getD i 0 = q := ⟨_, rfl⟩
      have hql : q < 4294967296 := hq ▸ hx.get _
      rw [hq] at HAC
      have HQ := Aside.intro hq
      clear hq hR hS hm hb hx hn hB1 hg hac
      go_wp2
      go_loopg [7, 8] m (fun gk c kv w2 => ∃ (k cv : Nat) (M : List Nat), gk + k = m ∧ c = .int .u64 (cv : Nat) ∧ cv < 4294967296 ∧ kv = .int .i64 (k : Nat) ∧
          Hid (Own w2 g M) ∧ Aside (Wf M ∧ Out L M i k ∧ sg M i k + cv * pw k = sg L i k + sg bs 0 k * q ∧ But g W1 w2))
      case atStart => exact ⟨0, 0, L, by omega, rfl, by omega, rfl, HM, HA.out.1, Out.refl _ _ _, by simp [sg_zero], HA.out.2.2.2⟩
      case round =>
        obtain ⟨k, cv, M, hgk2, rfl, hcv, rfl, HN, HC⟩ := hrel
        by_cases hk : k < m
        · obtain ⟨hR, hS, hm, hb, hx, hn, hB1, hg⟩ := HR.out
          obtain ⟨hMw, hMo, hMs, hbut⟩ := HC.out
          obtain ⟨hLw, hLl, _, _⟩ := HA.out
          obtain ⟨b, boff, hbB, rfl, hbc⟩ := hS (by intro e; subst e; simp at hm; omega)
          have hbk : wr.cell? ⟨b, boff + k, none⟩ = some (.int .u32 ((bs.getD k 0 : Nat) : Int)) := by
            have h1 := hbut.block b (World.block_lt_of_cell? W1 ⟨b, boff + k, none⟩ (hbc k (by omega))) (by omega)
            exact (World.cell?_of_block (a := ⟨b, boff + k, none⟩) h1).trans (hbc k (by omega))
          have hak : wr.cell? ⟨a, aoff + i, none⟩ = some (.int .u32 (q : Nat)) := by
            have h1 := hbut.block a HAC.out.2.2 (by have := HAC.out.2.1; omega)
            exact (World.cell?_of_block (a := ⟨a, aoff + i, none⟩) h1).trans HAC.out.1
          have hgc := HN.out.cell (i + k) (by rw [hMo.1]; omega)
          have hgf := HN.out.frozen (i + k)
          obtain ⟨x, hxx⟩ : ∃ x : Nat, M.getD (i + k) 0 = x := ⟨_, rfl⟩
          obtain ⟨y, hyy⟩ : ∃ y : Nat, bs.getD k 0 = y := ⟨_, rfl⟩
          have hxl : x < 4294967296 := hxx ▸ hMw.get _
          have hyl : y < 4294967296 := hyy ▸ hb.get _
          rw [hxx] at hgc
          rw [hyy] at hbk
          have hp0 := mul_bound q y hql hyl
          have hp2 : (q : Int) * (y : Int) ≤ 18446744065119617025 := by rw [← Int.natCast_mul]; omega
          have hp1 : 0 ≤ (q : Int) * (y : Int) := by rw [← Int.natCast_mul]; omega
          obtain ⟨s, hs⟩ : ∃ s : Nat, s = (q * y + x + cv) % 4294967296 := ⟨_, rfl⟩
          obtain ⟨d, hd⟩ : ∃ d : Nat, d = (q * y + x + cv) / 4294967296 := ⟨_, rfl⟩
          have e0 : ((q * y + x + cv : Nat) : Int) = (q : Int) * y + x + cv := by simp only [Int.natCast_add, Int.natCast_mul]
          have e1 : ((q : Int) * y + x + cv) % 4294967296 = (s : Int) := by rw [← e0]; omega
          have e2 : ((q : Int) * y + x + cv) / 4294967296 = (d : Int) := by rw [← e0]; omega
          have HX : Aside (M.getD (i + k) 0 = x ∧ bs.getD k 0 = y ∧ s + d * 4294967296 = y * q + x + cv ∧ s < 4294967296 ∧ d < 4294967296) := ⟨hxx, hyy, by rw [Nat.mul_comm y q]; omega, by omega, by omega⟩
          have hik : i + k < n + m := by omega
          clear hxx hyy hs hd hR hS hm hb hx hn hB1 hg hMw hMo hMs hbut hbc e0 hp0 hLw hLl
          go_wp2
          go_quiet (fail)
          go_wp2
          go_roundg (gk - 1)
          case measure => omega
          case rel =>
            obtain ⟨hxx, hyy, he, hs, hd⟩ := HX.out
            obtain ⟨hR, hS, hm, hb, hx, hn, hB1, hg⟩ := HR.out
            obtain ⟨hMw, hMo, hMs, hbut⟩ := HC.out
            obtain ⟨hLw, hLl, _, _⟩ := HA.out
            refine ⟨k + 1, d, M.set (i + k) s, by omega, by first | rfl | rw [e2], hd, by first | go_num | (congr 1; omega), HN.out.set _ _, hMw.set _ _ hs, (hMo.mono (by omega)).set _ _ (by omega) (by omega), ?_, (But.drewN hbut _).set _ _⟩
            rw [sg_set_last _ _ _ _ (by rw [hMo.1]; omega), sg_succ L i k (by omega), sg_succ bs 0 k (by omega), Nat.zero_add, hyy, pw_succ]
            have e : L.getD (i + k) 0 = x := by rw [← hxx]; exact (hMo.2 _ (by omega)).symm
            rw [e]
            exact times_step _ _ _ _ _ _ _ _ _ _ hMs he
        · obtain rfl : k = m := by omega
          obtain ⟨hLw, hLl, hLs, hLb⟩ := HA.out
          have hgc := HN.out.cell (i + k) (by rw [HC.out.2.1.1]; omega)
          have hgf := HN.out.frozen (i + k)
          have hik : i + k < n + k := by omega
          have hcm : (cv : Int) % 4294967296 = (cv : Int) := by omega
          clear hLw hLl hLs hLb
          go_wp2
          go_roundg (n - (i + 1))
          case measure => omega
          case rel =>
            obtain ⟨hR, hS, hm, hb, hx, hn, hB1, hg⟩ := HR.out
            obtain ⟨hMw, hMo, hMs, hbut⟩ := HC.out
            obtain ⟨hLw, hLl, hLs, hLb⟩ := HA.out
            refine ⟨i + 1, M.set (i + k) cv, by omega, by first | go_num | (congr 1; omega), HN.out.set _ _, hMw.set _ _ hcv, by simp [hMo.1, hLl], ?_, hbut.set _ _⟩
            have e2 : sg bs 0 k = val bs := by rw [hm]; exact sg_all bs
            rw [e2] at hMs
            exact times_round L M xs bs i n k cv q hLl hi hn hm hLs HQ.out hMo hMs
    · obtain rfl : i = n := by omega
      obtain ⟨hMw, hMl, hMs, hbut⟩ := HA.out
      have T := hid (rNorm_any L (some ⟨g, 0, none⟩) (i + m) (i + m) (g + 1) wr hMl.symm (Nat.le_refl _) (by omega) hMw (by simpa [hMl, List.take_of_length_le] using Rd.ofOwn HM.out 0 (i + m)) (fun e => by cases e))
      clear hMw hMl hMs hbut
      go_wp2_with fail
      refine (Calls.mono T.out) ?_
      rintro r w1 ⟨v, rfl, hNt, hbb⟩
      have HZ := (Aside.intro (And.intro hNt hbb))
      clear hNt hbb
      go_wp2
      go_ret
      obtain ⟨hR, hS, hm, hb, hx, hn, hB1, hg⟩ := HR.out
      obtain ⟨hMw, hMl, hMs, hbut⟩ := HA.out
      have e1 : sg L 0 (i + m) = val L := by rw [← hMl]; exact sg_all L
      have e2 : sg xs 0 i = val xs := by rw [hn]; exact sg_all xs
      rw [e1, e2] at hMs
      have hsz1 := hB1.size
      have hsz2 := hbut.size
      have hbel : Below g w wr := But.below hB1 hbut (by omega) (Nat.le_refl _)
      rw [← hMs, ← hg]
      exact ⟨v, rfl, HZ.out.1.mono (by omega), hbel.trans (HZ.out.2.mono (by omega))⟩
end Go.Proofs.YthilnddhehbjiaaDoor

