/- down: a number by a power of two, rounded down, in new memory. -/
import Derived.Test.YtmpakpdikkfofaaGreatDoorM1x
import Derived.Deep.RegionWith
import Derived.WalkLawsBesides
import Derived.WalkMore
namespace Go.Proofs.YtmpakpdikkfofaaGreatDoor
open Go.RowKit
set_option linter.unusedVariables false
set_option maxRecDepth 20000

theorem or64_join2 (l x : Nat) (hl : l < 4294967296) (hx : x < 4294967296) : bits BinOp.or IntKind.u64 (x : Int) ((l : Int) * 4294967296) = ((x + l * 4294967296 : Nat) : Int) := by
  have e : ((l : Int) * 4294967296) = ((l * 4294967296 : Nat) : Int) := by simp only [Int.natCast_mul]; rfl
  rw [e, bits_or_u64_nat _ _ (by omega) (by omega)]
  have := Nat.two_pow_add_eq_or_of_lt (i := 32) (b := x) (by omega) l
  have e2 : 2 ^ 32 * l = l * 4294967296 := by rw [Nat.mul_comm]
  rw [e2] at this
  rw [Nat.or_comm, ← this, Nat.add_comm]

/-- Word i of a number by a power of two. -/
theorem down_word (L : List Nat) (i rest : Nat) (hL : Wf L) (hr : rest < 32) (hi : i < L.length) :
    (val L / 2 ^ rest / pw i) % 4294967296 = ((L.getD i 0 + L.getD (i + 1) 0 * 4294967296) / 2 ^ rest) % 4294967296 := by
  have h1 : val L / 2 ^ rest / pw i = val (L.drop i) / 2 ^ rest := by
    rw [Nat.div_div_eq_div_mul, Nat.mul_comm, ← Nat.div_div_eq_div_mul, val_take_drop L i (by omega)]
    have := val_lt (L.take i) (hL.take i)
    rw [List.length_take, Nat.min_eq_left (by omega)] at this
    rw [Nat.add_mul_div_left _ _ (pw_pos i), Nat.div_eq_of_lt this, Nat.zero_add]
  rw [h1, val_drop_succ L i hi]
  obtain ⟨R, hR⟩ : ∃ R, val (L.drop (i + 1)) = L.getD (i + 1) 0 + 4294967296 * R := by
    by_cases h : i + 1 < L.length
    · exact ⟨_, val_drop_succ L (i + 1) h⟩
    · refine ⟨0, ?_⟩
      rw [List.drop_of_length_le (by omega), List.getD_eq_getElem?_getD, List.getElem?_eq_none (by omega)]
      rfl
  rw [hR]
  have e : L.getD i 0 + 4294967296 * (L.getD (i + 1) 0 + 4294967296 * R) = (L.getD i 0 + L.getD (i + 1) 0 * 4294967296) + 2 ^ rest * (4294967296 * (2 ^ (32 - rest) * R)) := by
    have := two_pow_rest rest hr
    have : 2 ^ rest * (4294967296 * (2 ^ (32 - rest) * R)) = 4294967296 * (4294967296 * R) := by rw [← this]; grind
    rw [this]; omega
  rw [e, Nat.add_mul_div_left _ _ (Nat.two_pow_pos _), Nat.add_mul_mod_self_left]

theorem low_step (V p : Nat) (hp : 0 < p) : V % p + p * (V / p % 4294967296) = V % (4294967296 * p) := by
  rw [Nat.mul_comm 4294967296, Nat.mod_mul]

set_option maxHeartbeats 2000000 in
theorem down_any (xs : List Nat) (ao : Option Addr) (n cap B by' words rest : Nat) (w : World) (hn : n = xs.length) (hc : n ≤ cap) (hby : by' = 32 * words + rest) (hrest : rest < 32) (hbig : n ≤ 70368744177663) (hby2 : by' ≤ 9223372036854775807)
    (hx : Wf xs) (hR : Rd B w ao xs) (hB : B ≤ w.heap.size) :
    Calls Tryz.prog 177 #[.slice ao n cap, .int .i64 (by' : Nat)] w fun r w' => ∃ v, r = .returned v ∧ Nt w.heap.size w' v (val xs / 2 ^ by') ∧ Below w.heap.size w w' := by
  have e1 : (by' : Int) / 32 = (words : Int) := by omega
  have e2 : (by' : Int) % 32 = (rest : Int) := by omega
  by_cases hw : n ≤ words
  · have hv : val xs / 2 ^ by' = 0 := by
      have h1 := val_lt xs hx
      rw [← hn] at h1
      have h2 : pw n ≤ 2 ^ by' := by
        rw [hby, pw_two]
        have := pw_mono hw
        have := Nat.mul_le_mul this (Nat.two_pow_pos rest)
        omega
      exact Nat.div_eq_of_lt (by omega)
    rw [hv]
    clear hv hn hx hR hby
    go_enter Tryz.func177, Tryz.ntmps177
    go_wp2
    go_ret
    exact ⟨_, rfl, Nt.nil _ _, Below.refl _ _⟩
  · have hwn : words < n := by omega
    obtain ⟨b, boff, hbB, rfl, hbc⟩ := hR (by intro e; subst e; simp at hn; omega)
    obtain ⟨k0, hk0⟩ : ∃ k0, k0 = n - words := ⟨_, rfl⟩
    obtain ⟨W1, hW1⟩ : ∃ W, W = w.alloc (.cells (madeCells #[.int .u32 0] (n - words)) 62) := ⟨_, rfl⟩
    have hO1 : Own W1 w.heap.size (List.replicate (n - words) 0) := by rw [hW1]; exact Own.made w _
    have hB1 : Below w.heap.size w W1 := by rw [hW1]; exact (Below.refl _ _).alloc (Nat.le_refl _) _
    have hmk := make_words ((n : Int) - words) (n - words) (by omega) (by omega) w
    rw [← hW1] at hmk
    obtain ⟨W2, hcp, hO2, hb2⟩ := copy_words W1 w.heap.size (n - words) (n - words) (some ⟨b, boff + words, none⟩) (n - words) (cap - words) B 3 (List.replicate (n - words) 0) (xs.drop words) hO1 (by simp) (by simp; omega) ((hR.below (hB1.mono hB)).drop words) (by omega)
    have ed : (List.replicate (n - words) 0).drop (n - words) = ([] : List Nat) := by simp
    rw [ed, List.append_nil] at hO2
    clear ed
    have hB2 : Below w.heap.size w W2 := But.below hB1 hb2 hB1.size (Nat.le_refl _)
    obtain ⟨g, hg⟩ : ∃ g, g = w.heap.size := ⟨_, rfl⟩
    rw [← hg] at hO2 hmk hB2 hB hcp
    obtain ⟨L, hL⟩ : ∃ L, L = xs.drop words := ⟨_, rfl⟩
    have hLl : L.length = n - words := by rw [hL]; simp; omega
    have hLw : Wf L := by rw [hL]; exact hx.drop words
    rw [← hL] at hO2
    have HR := (Aside.intro (And.intro hLw (And.intro hLl (And.intro hn (And.intro hB2 (And.intro hg (And.intro hby hL)))))))
    have hxw := hid hx
    have HO := hid hO2
    clear hn hx hR hO1 hB1 hW1 hg hby hO2 hB2 hL hLl hLw hb2 hbc hk0
    go_enter Tryz.func177, Tryz.ntmps177
    go_wp2
    go_loopg [30] (n - words) (fun gk i wr => ∃ (k : Nat) (M : List Nat), gk + k = n - words ∧ i = .int .i64 (k : Nat) ∧
        Hid (Own wr g M) ∧ Aside (Wf M ∧ M.length = n - words ∧ (∀ j, k ≤ j → M.getD j 0 = L.getD j 0) ∧ sg M 0 k = val L / 2 ^ rest % pw k ∧ But g W2 wr))
    case atStart => exact ⟨0, _, by omega, rfl, HO, HR.out.1, HR.out.2.1, fun _ _ => rfl, by rw [sg_zero, pw_zero, Nat.mod_one], But.refl _ _⟩
    case round =>
      obtain ⟨k, M, hgk, rfl, HM, HA⟩ := hrel
      by_cases hk : k < n - words
      · obtain ⟨hLw, hLl, hn, hB2, hg, hby, hL⟩ := HR.out
        obtain ⟨hMw, hMl, hMr, hMs, hbut⟩ := HA.out
        have hgc := HM.out.cell k (by omega)
        have hgf := HM.out.frozen k
        obtain ⟨x, hxx⟩ : ∃ x : Nat, M.getD k 0 = x := ⟨_, rfl⟩
        have hxl : x < 4294967296 := hxx ▸ hMw.get _
        rw [hxx] at hgc
        by_cases hk1 : k + 1 < n - words
        · have hgc1 := HM.out.cell (k + 1) (by omega)
          obtain ⟨y, hyy⟩ : ∃ y : Nat, M.getD (k + 1) 0 = y := ⟨_, rfl⟩
          have hyl : y < 4294967296 := hyy ▸ hMw.get _
          rw [hyy] at hgc1
          obtain ⟨t, ht⟩ : ∃ t : Nat, t = x + y * 4294967296 := ⟨_, rfl⟩
          have e3 : bits BinOp.or IntKind.u64 (x : Int) ((y : Int) * 4294967296) = (t : Int) := by rw [or64_join2 y x hyl hxl, ht]
          obtain ⟨s, hs⟩ : ∃ s : Nat, s = t / 2 ^ rest % 4294967296 := ⟨_, rfl⟩
          have e4 : (t : Int) / 2 ^ rest % 4294967296 = (s : Int) := by rw [hs]; simp
          have hs2 : s = (L.getD k 0 + L.getD (k + 1) 0 * 4294967296) / 2 ^ rest % 4294967296 := by
            rw [hs, ht, ← hxx, ← hyy, hMr k (by omega), hMr (k + 1) (by omega)]
          have hsl : s < 4294967296 := by omega
          have HX := (Aside.intro (And.intro hs2 hsl))
          clear hxx hyy hLw hLl hn hB2 hg hby hL hMw hMl hMr hMs hbut hs hs2 hsl ht
          go_wp2
          go_roundg (gk - 1)
          case measure => omega
          case rel =>
            obtain ⟨hLw, hLl, hn, hB2, hg, hby, hL⟩ := HR.out
            obtain ⟨hMw, hMl, hMr, hMs, hbut⟩ := HA.out
            obtain ⟨hs, hsl⟩ := HX.out
            refine ⟨k + 1, M.set k s, by omega, by go_num, HM.out.set _ _, hMw.set _ _ hsl, by simp [hMl], fun j hj => ?_, ?_, hbut.set _ _⟩
            · rw [getD_set_ne _ _ _ _ (by omega)]; exact hMr j (by omega)
            · have e1 := sg_set_last M 0 k s (by omega)
              rw [Nat.zero_add] at e1
              rw [e1, hMs, hs, ← down_word L k rest hLw hrest (by omega), pw_succ]
              exact low_step _ _ (pw_pos k)
        · obtain ⟨s, hs⟩ : ∃ s : Nat, s = x / 2 ^ rest := ⟨_, rfl⟩
          have e4 : (x : Int) / 2 ^ rest = (s : Int) := by rw [hs]; simp
          have hsx : s ≤ x := by rw [hs]; exact Nat.div_le_self _ _
          have hs2 : s = (L.getD k 0 + L.getD (k + 1) 0 * 4294967296) / 2 ^ rest % 4294967296 := by
            have : L.getD (k + 1) 0 = 0 := by rw [List.getD_eq_getElem?_getD, List.getElem?_eq_none (by omega)]; rfl
            rw [this, Nat.zero_mul, Nat.add_zero, ← hMr k (by omega), hxx, ← hs]
            omega
          have hsl : s < 4294967296 := by omega
          have HX := (Aside.intro (And.intro hs2 hsl))
          have e5 : (s : Int) % 4294967296 = (s : Int) := by omega
          clear hxx hLw hLl hn hB2 hg hby hL hMw hMl hMr hMs hbut hs hs2
          go_wp2
          go_roundg (gk - 1)
          case measure => omega
          case rel =>
            obtain ⟨hLw, hLl, hn, hB2, hg, hby, hL⟩ := HR.out
            obtain ⟨hMw, hMl, hMr, hMs, hbut⟩ := HA.out
            obtain ⟨hs, hsl⟩ := HX.out
            refine ⟨k + 1, M.set k s, by omega, by go_num, HM.out.set _ _, hMw.set _ _ hsl, by simp [hMl], fun j hj => ?_, ?_, hbut.set _ _⟩
            · rw [getD_set_ne _ _ _ _ (by omega)]; exact hMr j (by omega)
            · have e1 := sg_set_last M 0 k s (by omega)
              rw [Nat.zero_add] at e1
              rw [e1, hMs, hs, ← down_word L k rest hLw hrest (by omega), pw_succ]
              exact low_step _ _ (pw_pos k)
      · obtain rfl : k = n - words := by omega
        obtain ⟨hMw, hMl, hMr, hMs, hbut⟩ := HA.out
        have T := hid (trim_any M (some ⟨g, 0, none⟩) (n - words) (n - words) (g + 1) wr hMl.symm (Nat.le_refl _) (by omega) (by simpa [hMl, List.take_of_length_le] using Rd.ofOwn HM.out 0 (n - words)))
        clear hMw hMl hMr hMs hbut
        go_wp2_with fail
        refine (Calls.mono T.out) ?_
        rintro r w1 ⟨rfl, rfl⟩
        go_wp2
        go_ret
        obtain ⟨hLw, hLl, hn, hB2, hg, hby, hL⟩ := HR.out
        obtain ⟨hMw, hMl, hMr, hMs, hbut⟩ := HA.out
        have e4 : val M = val xs / 2 ^ by' := by
          have h1 : val L < pw (n - words) := by rw [← hLl]; exact val_lt L hLw
          have h2 : val L / 2 ^ rest < pw (n - words) := Nat.lt_of_le_of_lt (Nat.div_le_self _ _) h1
          rw [Nat.mod_eq_of_lt h2] at hMs
          rw [← sg_all M, hMl, hMs, hby, pw_two, ← Nat.div_div_eq_div_mul]
          congr 1
          have h3 := val_take_drop xs words (by omega)
          have h4 : val (xs.take words) < pw words := by
            have : (xs.take words).length = words := by rw [List.length_take]; omega
            have h5 : Wf xs := hxw.out
            have := val_lt _ (h5.take words)
            rwa [‹(xs.take words).length = words›] at this
          rw [h3, Nat.add_mul_div_left _ _ (pw_pos words), Nat.div_eq_of_lt h4, Nat.zero_add, hL]
        refine ⟨_, rfl, ?_, ?_⟩
        · have N := Nt.ofOwn (lo := g) HM.out (Nat.le_refl _) hMw (by rw [hMl]; unfold maxLen; omega)
          rw [← e4, ← hg]
          rw [hMl] at N
          exact N
        · rw [← hg]
          exact But.below hB2 hbut (by have := hB2.size; omega) (Nat.le_refl _)
end Go.Proofs.YtmpakpdikkfofaaGreatDoor

/- add: a sum in new memory. -/
namespace Go.Proofs.YtmpakpdikkfofaaGreatDoor
open Go.RowKit
set_option linter.unusedVariables false
set_option maxRecDepth 20000

theorem val_snoc0 (xs : List Nat) : sg (xs ++ [0]) 0 xs.length = val xs := by simp [sg]
theorem wf_snoc0 {xs : List Nat} (h : Wf xs) : Wf (xs ++ [0]) := h.append (by intro x hx; simp at hx; omega)
theorem zeros_last (n : Nat) : (List.replicate (n + 1) 0).drop n = [0] := by rw [List.drop_replicate, Nat.add_sub_cancel_left]; rfl

set_option maxHeartbeats 2000000 in
theorem add_ge (xs ys : List Nat) (ao bo : Option Addr) (n cap m capb B : Nat) (w : World) (hn : n = xs.length) (hm : m = ys.length) (hnm : m ≤ n) (hc : n ≤ cap) (hcb : m ≤ capb) (hbig : n ≤ 35184372088833)
    (hx : Wf xs) (hy : Wf ys) (hR : Rd B w ao xs) (hS : Rd B w bo ys) (hB : B ≤ w.heap.size) :
    Calls Tryz.prog 189 #[.slice ao n cap, .slice bo m capb] w fun r w' => ∃ v, r = .returned v ∧ Nt w.heap.size w' v (val xs + val ys) ∧ Below w.heap.size w w' := by
  obtain ⟨W1, hW1⟩ : ∃ W, W = w.alloc (.cells (madeCells #[.int .u32 0] (n + 1)) 62) := ⟨_, rfl⟩
  have hO1 : Own W1 w.heap.size (List.replicate (n + 1) 0) := by rw [hW1]; exact Own.made w (n + 1)
  have hB1 : Below w.heap.size w W1 := by rw [hW1]; exact (Below.refl _ _).alloc (Nat.le_refl _) _
  obtain ⟨W2, hcp, hO2, hb2⟩ := copy_words W1 w.heap.size (n + 1) (n + 1) ao n cap B 3 (List.replicate (n + 1) 0) xs hO1 (by simp) hn (hR.below (hB1.mono hB)) (by omega)
  rw [zeros_last] at hO2
  have hB2 : Below w.heap.size w W2 := But.below hB1 hb2 hB1.size (Nat.le_refl _)
  have H := hid (addTo_any (xs ++ [0]) ys w.heap.size 0 n (n + 1) bo m capb B W2 hO2 (by simp; omega) hm (by omega) (by omega) (by omega) (wf_snoc0 hx) hy (hS.below (hB2.mono hB)) hB)
  have hmk := make_words ((n : Int) + 1) (n + 1) (by omega) (by omega) w
  rw [← hW1] at hmk
  have HH := (Aside.intro (And.intro hn (And.intro hm (And.intro hx (And.intro hB2 hB)))))
  clear hn hm hx hy hR hS hO1 hB1 hO2 hb2 hB2 hB hW1
  go_enter Tryz.func189, Tryz.ntmps189
  go_wp2_with fail
  refine (Calls.mono H.out) ?_
  rintro r W3 ⟨M, c, rfl, hc1, hO3, hM, hout, hsum, hbut⟩
  obtain ⟨hn, hm, hx, hB2, hB⟩ := HH.out
  have hl : M.length = n + 1 := by rw [hout.1]; simp; omega
  have hcl := hO3.cell n (by omega)
  have hfr := hO3.frozen n
  have hO4 := hO3.set n c
  have T := hid (trim_any (M.set n c) (some ⟨w.heap.size, 0, none⟩) (n + 1) (n + 1) (w.heap.size + 1) _ (by simp [hl]) (Nat.le_refl _) (by omega) (by simpa [hl, List.take_of_length_le] using Rd.ofOwn hO4 0 (n + 1)))
  have HI := (Aside.intro (And.intro hc1 (And.intro hO4 (And.intro hM (And.intro hsum (And.intro hbut hl))))))
  clear hn hm hx hB2 hB hc1 hO3 hM hout hsum hbut hO4 H hl
  go_wp2_with fail
  refine (Calls.mono T.out) ?_
  rintro r w1 ⟨rfl, rfl⟩
  go_wp2
  go_ret
  obtain ⟨hn, hm, hx, hB2, hB⟩ := HH.out
  obtain ⟨hc1, hO4, hM, hsum, hbut, hl⟩ := HI.out
  have hv : val (M.set n c) = val xs + val ys := by
    have e : val (M.set n c) = sg (M.set n c) 0 (n + 1) := by rw [← sg_all]; simp [hl]
    have e2 := sg_set_last M 0 n c (by omega)
    rw [Nat.zero_add] at e2
    rw [e, e2]
    rw [hn, val_snoc0, ← hn] at hsum
    rw [Nat.mul_comm c] at hsum
    exact hsum
  refine ⟨_, rfl, ?_, But.below hB2 (hbut.set n _) hB2.size (Nat.le_refl _)⟩
  have N := Nt.ofOwn (lo := w.heap.size) hO4 (Nat.le_refl _) (hM.set _ _ (by omega)) (by simp [hl]; unfold maxLen; omega)
  rw [hv] at N
  simpa [hl] using N

set_option maxHeartbeats 2000000 in
theorem add_lt (xs ys : List Nat) (ao bo : Option Addr) (n cap m capb B : Nat) (w : World) (hn : n = xs.length) (hm : m = ys.length) (hnm : m < n) (hc : n ≤ cap) (hcb : m ≤ capb) (hbig : n ≤ 35184372088833)
    (hx : Wf xs) (hy : Wf ys) (hR : Rd B w ao xs) (hS : Rd B w bo ys) (hB : B ≤ w.heap.size) :
    Calls Tryz.prog 189 #[.slice bo m capb, .slice ao n cap] w fun r w' => ∃ v, r = .returned v ∧ Nt w.heap.size w' v (val xs + val ys) ∧ Below w.heap.size w w' := by
  obtain ⟨W1, hW1⟩ : ∃ W, W = w.alloc (.cells (madeCells #[.int .u32 0] (n + 1)) 62) := ⟨_, rfl⟩
  have hO1 : Own W1 w.heap.size (List.replicate (n + 1) 0) := by rw [hW1]; exact Own.made w (n + 1)
  have hB1 : Below w.heap.size w W1 := by rw [hW1]; exact (Below.refl _ _).alloc (Nat.le_refl _) _
  obtain ⟨W2, hcp, hO2, hb2⟩ := copy_words W1 w.heap.size (n + 1) (n + 1) ao n cap B 3 (List.replicate (n + 1) 0) xs hO1 (by simp) hn (hR.below (hB1.mono hB)) (by omega)
  rw [zeros_last] at hO2
  have hB2 : Below w.heap.size w W2 := But.below hB1 hb2 hB1.size (Nat.le_refl _)
  have H := hid (addTo_any (xs ++ [0]) ys w.heap.size 0 n (n + 1) bo m capb B W2 hO2 (by simp; omega) hm (by omega) (by omega) (by omega) (wf_snoc0 hx) hy (hS.below (hB2.mono hB)) hB)
  have hmk := make_words ((n : Int) + 1) (n + 1) (by omega) (by omega) w
  rw [← hW1] at hmk
  have HH := (Aside.intro (And.intro hn (And.intro hm (And.intro hx (And.intro hB2 hB)))))
  clear hn hm hx hy hR hS hO1 hB1 hO2 hb2 hB2 hB hW1
  go_enter Tryz.func189, Tryz.ntmps189
  go_wp2_with fail
  refine (Calls.mono H.out) ?_
  rintro r W3 ⟨M, c, rfl, hc1, hO3, hM, hout, hsum, hbut⟩
  obtain ⟨hn, hm, hx, hB2, hB⟩ := HH.out
  have hl : M.length = n + 1 := by rw [hout.1]; simp; omega
  have hcl := hO3.cell n (by omega)
  have hfr := hO3.frozen n
  have hO4 := hO3.set n c
  have T := hid (trim_any (M.set n c) (some ⟨w.heap.size, 0, none⟩) (n + 1) (n + 1) (w.heap.size + 1) _ (by simp [hl]) (Nat.le_refl _) (by omega) (by simpa [hl, List.take_of_length_le] using Rd.ofOwn hO4 0 (n + 1)))
  have HI := (Aside.intro (And.intro hc1 (And.intro hO4 (And.intro hM (And.intro hsum (And.intro hbut hl))))))
  clear hn hm hx hB2 hB hc1 hO3 hM hout hsum hbut hO4 H hl
  go_wp2_with fail
  refine (Calls.mono T.out) ?_
  rintro r w1 ⟨rfl, rfl⟩
  go_wp2
  go_ret
  obtain ⟨hn, hm, hx, hB2, hB⟩ := HH.out
  obtain ⟨hc1, hO4, hM, hsum, hbut, hl⟩ := HI.out
  have hv : val (M.set n c) = val xs + val ys := by
    have e : val (M.set n c) = sg (M.set n c) 0 (n + 1) := by rw [← sg_all]; simp [hl]
    have e2 := sg_set_last M 0 n c (by omega)
    rw [Nat.zero_add] at e2
    rw [e, e2]
    rw [hn, val_snoc0, ← hn] at hsum
    rw [Nat.mul_comm c] at hsum
    exact hsum
  refine ⟨_, rfl, ?_, But.below hB2 (hbut.set n _) hB2.size (Nat.le_refl _)⟩
  have N := Nt.ofOwn (lo := w.heap.size) hO4 (Nat.le_refl _) (hM.set _ _ (by omega)) (by simp [hl]; unfold maxLen; omega)
  rw [hv] at N
  simpa [hl] using N

theorem add_any (xs ys : List Nat) (ao bo : Option Addr) (n cap m capb B : Nat) (w : World) (hn : n = xs.length) (hm : m = ys.length) (hc : n ≤ cap) (hcb : m ≤ capb) (hbig : n ≤ 35184372088833) (hbig2 : m ≤ 35184372088833)
    (hx : Wf xs) (hy : Wf ys) (hR : Rd B w ao xs) (hS : Rd B w bo ys) (hB : B ≤ w.heap.size) :
    Calls Tryz.prog 189 #[.slice ao n cap, .slice bo m capb] w fun r w' => ∃ v, r = .returned v ∧ Nt w.heap.size w' v (val xs + val ys) ∧ Below w.heap.size w w' := by
  by_cases h : m ≤ n
  · exact add_ge xs ys ao bo n cap m capb B w hn hm h hc hcb hbig hx hy hR hS hB
  · have := add_lt ys xs bo ao m capb n cap B w hm hn (by omega) hcb hc hbig2 hy hx hS hR hB
    rw [Nat.add_comm] at this
    exact this
end Go.Proofs.YtmpakpdikkfofaaGreatDoor

/- nearRoot: the root, or one more. -/
namespace Go.Proofs.YtmpakpdikkfofaaGreatDoor
open Go.RowKit
set_option linter.unusedVariables false
set_option maxRecDepth 20000

theorem ws_len_mono {X Y : Nat} (h : X ≤ Y) : (ws X).length ≤ (ws Y).length := (ws_len_le X _).2 (Nat.lt_of_le_of_lt h (ws_len_lt Y))

/-- The Nat of one word 1. -/
theorem Nt.one (w : World) : Nt w.heap.size (w.alloc (.cells #[.int .u32 1] 62)) (.slice (some ⟨w.heap.size, 0, none⟩) 1 1) 1 := by
  have hO : Own (w.alloc (.cells #[.int .u32 1] 62)) w.heap.size [1] := by unfold Own; rw [heap_alloc_new]; rfl
  have := Nt.ofOwn (lo := w.heap.size) hO (Nat.le_refl _) (Wf.cons (by omega) Wf.nil) (by simp [maxLen])
  exact this
theorem ws_one : ws 1 = [1] := by rw [ws_pos 1 (by omega), show 1 / 4294967296 = 0 from rfl, ws_zero]

end Go.Proofs.YtmpakpdikkfofaaGreatDoor

/- sub: a difference in new memory. -/
namespace Go.Proofs.YtmpakpdikkfofaaGreatDoor
open Go.RowKit
set_option linter.unusedVariables false
set_option maxRecDepth 20000

set_option maxHeartbeats 2000000 in
theorem sub_any (xs bs : List Nat) (ao bo : Option Addr) (n cap m capb B : Nat) (w : World) (hn : n = xs.length) (hm : m = bs.length) (hmn : m ≤ n) (hc : n ≤ cap) (hcb : m ≤ capb) (hbig : n ≤ 35184372088833)
    (hx : Wf xs) (hb : Wf bs) (hle : val bs ≤ val xs) (hR0 : Rd B w ao xs) (hS : Rd B w bo bs) (hB : B ≤ w.heap.size) :
    Calls Tryz.prog 192 #[.slice ao n cap, .slice bo m capb] w fun r w' => ∃ v, r = .returned v ∧ Nt w.heap.size w' v (val xs - val bs) ∧ Below w.heap.size w w' := by
  obtain ⟨W1, hW1⟩ : ∃ W, W = w.alloc (.cells (madeCells #[.int .u32 0] n) 62) := ⟨_, rfl⟩
  have hO1 : Own W1 w.heap.size (List.replicate n 0) := by rw [hW1]; exact Own.made w n
  have hB1 : Below w.heap.size w W1 := by rw [hW1]; exact (Below.refl _ _).alloc (Nat.le_refl _) _
  obtain ⟨W2, hcp, hO2, hb2⟩ := copy_words W1 w.heap.size n n ao n cap B 3 (List.replicate n 0) xs hO1 (by simp) hn (hR0.below (hB1.mono hB)) (by omega)
  rw [List.drop_of_length_le (by simp), List.append_nil] at hO2
  have hB2 : Below w.heap.size w W2 := But.below hB1 hb2 hB1.size (Nat.le_refl _)
  have hmk := make_words (n : Int) n rfl (by omega) w
  rw [← hW1] at hmk
  have hR : Rd B W2 bo bs := hS.below (hB2.mono hB)
  obtain ⟨g, hg⟩ : ∃ g, g = w.heap.size := ⟨_, rfl⟩
  rw [← hg] at hO2 hcp hmk hB2 hB
  have HR := (Aside.intro (And.intro hR (And.intro hm (And.intro hb (And.intro hx (And.intro hn (And.intro hle (And.intro hB2 hg))))))))
  have HO := hid hO2
  have HA32 : Hid (∀ x y c s d w, _ → _ → _ → _ → _ → _) := sub32_nat
  clear hn hm hx hb hR0 hS hO1 hB1 hO2 hb2 hB2 hW1 hle hR hg
  go_enter Tryz.func192, Tryz.ntmps192
  go_wp2
  go_loopg [6, 18] m (fun gk c i wr => ∃ (k cv : Nat) (M : List Nat), gk + k = m ∧ c = .int .u32 (cv : Nat) ∧ cv ≤ 1 ∧ i = .int .i64 (k : Nat) ∧
      Hid (Own wr g M) ∧ Aside (Wf M ∧ Out xs M 0 k ∧ sg M 0 k + sg bs 0 k = sg xs 0 k + cv * pw k ∧ But g W2 wr))
  case atStart => exact ⟨0, 0, xs, by omega, rfl, by omega, rfl, HO, HR.out.2.2.2.1, Out.refl _ _ _, by simp [sg_zero], But.refl _ _⟩
  case round =>
    obtain ⟨k, cv, M, hgk, rfl, hcv, rfl, HM, HA⟩ := hrel
    by_cases hk : k < m
    · obtain ⟨hR, hm, hb, hx, hn, hle, hB2, hg⟩ := HR.out
      obtain ⟨hMw, hMo, hMs, hbut⟩ := HA.out
      obtain ⟨b, boff, hbB, rfl, hbc⟩ := hR (by intro e; subst e; simp at hm; omega)
      have hbk : wr.cell? ⟨b, boff + k, none⟩ = some (.int .u32 ((bs.getD k 0 : Nat) : Int)) := by
        have h1 := hbut.block b (World.block_lt_of_cell? W2 ⟨b, boff + k, none⟩ (hbc k (by omega))) (by omega)
        exact (World.cell?_of_block (a := ⟨b, boff + k, none⟩) h1).trans (hbc k (by omega))
      have hgc := HM.out.cell k (by rw [hMo.1]; omega)
      have hgf := HM.out.frozen k
      obtain ⟨x, hxx⟩ : ∃ x : Nat, M.getD k 0 = x := ⟨_, rfl⟩
      obtain ⟨y, hy⟩ : ∃ y : Nat, bs.getD k 0 = y := ⟨_, rfl⟩
      have hxl : x < 4294967296 := hxx ▸ hMw.get _
      have hyl : y < 4294967296 := hy ▸ hb.get _
      rw [hxx] at hgc
      rw [hy] at hbk
      obtain ⟨s, hs⟩ : ∃ s : Nat, (s : Int) = ((x : Int) - y - cv) % 4294967296 := ⟨(((x : Int) - y - cv) % 4294967296).toNat, by omega⟩
      obtain ⟨d, hd⟩ : ∃ d : Nat, d = if x < y + cv then 1 else 0 := ⟨_, rfl⟩
      have HX := (Aside.intro (And.intro hxx (And.intro hy (And.intro hs hd))))
      clear hxx hy hs hd hR hm hb hx hn hle hB2 hg hMw hMo hMs hbut hbc
      go_wp2_with fail
      refine (HA32.out x y cv s d _ hxl hyl hcv HX.out.2.2.1 HX.out.2.2.2).mono ?_
      rintro r w1 ⟨rfl, rfl⟩
      go_wp2
      go_roundg (gk - 1)
      case measure => omega
      case rel =>
        obtain ⟨hxx, hy, hs, hd⟩ := HX.out
        obtain ⟨hR, hm, hb, hx, hn, hle, hB2, hg⟩ := HR.out
        obtain ⟨hMw, hMo, hMs, hbut⟩ := HA.out
        have hd1 : d ≤ 1 := by rw [hd]; split <;> omega
        have hsum : s + y + cv = x + d * 4294967296 := by rw [hd]; split <;> omega
        refine ⟨k + 1, d, M.set k s, by omega, rfl, hd1, by go_num, HM.out.set _ _, hMw.set _ _ (by omega), (hMo.mono (by omega)).set _ _ (by omega) (by omega), ?_, hbut.set _ _⟩
        have e1 := sg_set_last M 0 k s (by rw [hMo.1]; omega)
        rw [Nat.zero_add] at e1
        rw [e1, sg_succ xs 0 k (by omega), sg_succ bs 0 k (by omega), Nat.zero_add, hy, pw_succ]
        have e : xs.getD k 0 = x := by rw [← hxx]; exact (hMo.2 _ (by omega)).symm
        rw [e]
        exact borrow_step _ _ _ _ _ _ _ _ _ hMs hsum
    · obtain rfl : k = m := by omega
      have HA2 : Aside (Wf M ∧ Out xs M 0 k ∧ sg M 0 k + val bs = sg xs 0 k + cv * pw k ∧ But g W2 wr) := by
        obtain ⟨hR, hm, hb, hx, hn, hle, hB2, hg⟩ := HR.out
        obtain ⟨hMw, hMo, hMs, hbut⟩ := HA.out
        refine ⟨hMw, hMo, ?_, hbut⟩
        rw [← hMs, hm, sg_all]
      clear HA hgk HO hk
      go_wp2
      go_loopg [6, 9] (n - k + 1) (fun g2 c i w2 => ∃ (j cv : Nat) (M : List Nat), g2 + j = n + 1 ∧ k ≤ j ∧ j ≤ n ∧ c = .int .u32 (cv : Nat) ∧ cv ≤ 1 ∧ i = .int .i64 (j : Nat) ∧
        Hid (Own w2 g M) ∧ Aside (Wf M ∧ Out xs M 0 j ∧ sg M 0 j + val bs = sg xs 0 j + cv * pw j ∧ But g W2 w2))
      case atStart => exact ⟨k, cv, M, by omega, Nat.le_refl _, hmn, rfl, hcv, rfl, HM, HA2.out⟩
      case round =>
        clear HM HA2 hcv
        obtain ⟨j, cv, M, hgj, hkj, hjn, rfl, hcv, rfl, HM, HA⟩ := hrel
        by_cases h0 : cv = 0
        · subst h0
          obtain ⟨hR, hm, hb, hx, hn, hle, hB2, hg⟩ := HR.out
          obtain ⟨hMw, hMo, hMs, hbut⟩ := HA.out
          have hl : M.length = n := by rw [hMo.1, hn]
          have T := hid (trim_any M (some ⟨g, 0, none⟩) n n (g + 1) wr hl.symm (Nat.le_refl _) (by omega) (by simpa [hl, List.take_of_length_le] using Rd.ofOwn HM.out 0 n))
          clear hR hm hb hx hn hle hB2 hg hMw hMo hMs hbut
          go_wp2_with fail
          refine (Calls.mono T.out) ?_
          rintro r w1 ⟨rfl, rfl⟩
          go_wp2
          go_ret
          obtain ⟨hR, hm, hb, hx, hn, hle, hB2, hg⟩ := HR.out
          obtain ⟨hMw, hMo, hMs, hbut⟩ := HA.out
          rw [Nat.zero_mul, Nat.add_zero] at hMs
          have hv := seg_rest2 (n := n) hjn (by omega) hMo hMs
          have e1 : sg M 0 n = val M := by rw [← hl]; exact sg_all M
          have e2 : sg xs 0 n = val xs := by rw [hn]; exact sg_all xs
          rw [e1, e2] at hv
          refine ⟨_, rfl, ?_, ?_⟩
          · have N := Nt.ofOwn (lo := g) HM.out (Nat.le_refl _) hMw (by rw [hl]; unfold maxLen; omega)
            rw [show val xs - val bs = val M by omega, ← hg]
            rw [hl] at N
            exact N
          · rw [← hg]
            exact But.below hB2 hbut (by have := hB2.size; omega) (Nat.le_refl _)
        · obtain rfl : cv = 1 := by omega
          obtain ⟨hR, hm, hb, hx, hn, hle, hB2, hg⟩ := HR.out
          obtain ⟨hMw, hMo, hMs, hbut⟩ := HA.out
          have hj : j < n := by
            by_cases hj : j = n
            · exfalso
              subst hj
              have h1 := sg_lt M 0 j hMw (by rw [hMo.1]; omega)
              have e2 : sg xs 0 j = val xs := by rw [hn]; exact sg_all xs
              omega
            · omega
          have hgc := HM.out.cell j (by rw [hMo.1]; omega)
          have hgf := HM.out.frozen j
          obtain ⟨x, hxx⟩ : ∃ x : Nat, M.getD j 0 = x := ⟨_, rfl⟩
          have hxl : x < 4294967296 := hxx ▸ hMw.get _
          rw [hxx] at hgc
          obtain ⟨s, hs⟩ : ∃ s : Nat, (s : Int) = ((x : Int) - (0 : Nat) - (1 : Nat)) % 4294967296 := ⟨(((x : Int) - (0 : Nat) - (1 : Nat)) % 4294967296).toNat, by omega⟩
          obtain ⟨d, hd⟩ : ∃ d : Nat, d = if x < 0 + 1 then 1 else 0 := ⟨_, rfl⟩
          have HX := (Aside.intro (And.intro hxx (And.intro hs hd)))
          clear hxx hs hd hR hm hb hx hn hle hB2 hg hMw hMo hMs hbut h0
          go_wp2_with fail
          refine (HA32.out x 0 1 s d _ hxl (by omega) (by omega) HX.out.2.1 HX.out.2.2).mono ?_
          rintro r w1 ⟨rfl, rfl⟩
          go_wp2
          go_roundg (gk - 1)
          case measure => omega
          case rel =>
            obtain ⟨hxx, hs, hd⟩ := HX.out
            obtain ⟨hR, hm, hb, hx, hn, hle, hB2, hg⟩ := HR.out
            obtain ⟨hMw, hMo, hMs, hbut⟩ := HA.out
            have hd1 : d ≤ 1 := by rw [hd]; split <;> omega
            have hsum : s + 0 + 1 = x + d * 4294967296 := by rw [hd]; split <;> omega
            refine ⟨j + 1, d, M.set j s, by omega, by omega, by omega, rfl, hd1, by go_num, HM.out.set _ _, hMw.set _ _ (by omega), (hMo.mono (by omega)).set _ _ (by omega) (by omega), ?_, hbut.set _ _⟩
            have e1 := sg_set_last M 0 j s (by rw [hMo.1]; omega)
            rw [Nat.zero_add] at e1
            rw [e1, sg_succ xs 0 j (by omega), Nat.zero_add, pw_succ]
            have e : xs.getD j 0 = x := by rw [← hxx]; exact (hMo.2 _ (by omega)).symm
            rw [e]
            have := borrow_step (pw j) _ _ _ _ x 0 s d hMs hsum
            omega
end Go.Proofs.YtmpakpdikkfofaaGreatDoor

/- addTimes: a product added in place. -/
namespace Go.Proofs.YtmpakpdikkfofaaGreatDoor
open Go.RowKit
set_option linter.unusedVariables false
set_option maxRecDepth 20000

set_option maxHeartbeats 2000000 in
theorem addTimes_any (L bs : List Nat) (g off n cap : Nat) (ao : Option Addr) (m capb B q : Nat) (w : World)
    (hO : Own w g L) (hoff : off + n ≤ L.length) (hm : m = bs.length) (hmn : m ≤ n) (hcap : n ≤ cap) (hbig : n ≤ 4611686018427387904) (hL : Wf L) (hb : Wf bs) (hR : Rd B w ao bs) (hB : B ≤ g) (hq : q < 4294967296) :
    Calls Tryz.prog 187 #[.slice (some ⟨g, off, none⟩) n cap, .slice ao m capb, .int .u32 (q : Nat)] w fun r w' =>
      ∃ M c, r = .returned (.int .u32 (c : Nat)) ∧ c < 4294967296 ∧ Own w' g M ∧ Wf M ∧ Out L M off m ∧ sg M off m + c * pw m = sg L off m + val bs * q ∧ But g w w' := by
  have HR : Aside (Rd B w ao bs ∧ m = bs.length ∧ Wf bs ∧ Wf L ∧ off + n ≤ L.length) := ⟨hR, hm, hb, hL, hoff⟩
  have HO : Hid (Own w g L) := hO
  clear hR hm hb hL hO hoff
  go_enter Tryz.func187, Tryz.ntmps187
  go_wp2
  go_loopg [7, 13] m (fun gk c i wr => ∃ (k cv : Nat) (M : List Nat), gk + k = m ∧ c = .int .u64 (cv : Nat) ∧ cv < 4294967296 ∧ i = .int .i64 (k : Nat) ∧
      Hid (Own wr g M) ∧ Aside (Wf M ∧ Out L M off k ∧ sg M off k + cv * pw k = sg L off k + sg bs 0 k * q ∧ But g w wr))
  case atStart => exact ⟨0, 0, L, by omega, rfl, by omega, rfl, HO, HR.out.2.2.2.1, Out.refl _ _ _, by simp [sg_zero], But.refl _ _⟩
  case round =>
    obtain ⟨k, cv, M, hgk, rfl, hcv, rfl, HM, HA⟩ := hrel
    by_cases hk : k < m
    · obtain ⟨hR, hm, hb, hL, hoff⟩ := HR.out
      obtain ⟨hMw, hMo, hMs, hbut⟩ := HA.out
      obtain ⟨b, boff, hbB, rfl, hbc⟩ := hR (by intro e; subst e; simp at hm; omega)
      have hbk : wr.cell? ⟨b, boff + k, none⟩ = some (.int .u32 ((bs.getD k 0 : Nat) : Int)) := by
        have h1 := hbut.block b (World.block_lt_of_cell? w ⟨b, boff + k, none⟩ (hbc k (by omega))) (by omega)
        exact (World.cell?_of_block (a := ⟨b, boff + k, none⟩) h1).trans (hbc k (by omega))
      have hgc := HM.out.cell (off + k) (by rw [hMo.1]; omega)
      have hgf := HM.out.frozen (off + k)
      obtain ⟨x, hx⟩ : ∃ x : Nat, M.getD (off + k) 0 = x := ⟨_, rfl⟩
      obtain ⟨y, hy⟩ : ∃ y : Nat, bs.getD k 0 = y := ⟨_, rfl⟩
      have hxl : x < 4294967296 := hx ▸ hMw.get _
      have hyl : y < 4294967296 := hy ▸ hb.get _
      rw [hx] at hgc
      rw [hy] at hbk
      have hp0 := mul_bound y q hyl hq
      have hp2 : (y : Int) * (q : Int) ≤ 18446744065119617025 := by rw [← Int.natCast_mul]; omega
      have hp1 : 0 ≤ (y : Int) * (q : Int) := by rw [← Int.natCast_mul]; omega
      obtain ⟨s, hs⟩ : ∃ s : Nat, s = (y * q + x + cv) % 4294967296 := ⟨_, rfl⟩
      obtain ⟨d, hd⟩ : ∃ d : Nat, d = (y * q + x + cv) / 4294967296 := ⟨_, rfl⟩
      have e0 : ((y * q + x + cv : Nat) : Int) = (y : Int) * q + x + cv := by simp only [Int.natCast_add, Int.natCast_mul]
      have e1 : ((y : Int) * q + x + cv) % 4294967296 = (s : Int) := by rw [← e0]; omega
      have e2 : ((y : Int) * q + x + cv) / 4294967296 = (d : Int) := by rw [← e0]; omega
      have HX : Aside (M.getD (off + k) 0 = x ∧ bs.getD k 0 = y ∧ s + d * 4294967296 = y * q + x + cv ∧ s < 4294967296 ∧ d < 4294967296) := ⟨hx, hy, by omega, by omega, by omega⟩
      clear hx hy hs hd hR hm hb hL hoff hMw hMo hMs hbut hbc e0 hp0
      go_wp2
      go_roundg (gk - 1)
      case measure => omega
      case rel =>
        obtain ⟨hx, hy, he, hs, hd⟩ := HX.out
        obtain ⟨hR, hm, hb, hL, hoff⟩ := HR.out
        obtain ⟨hMw, hMo, hMs, hbut⟩ := HA.out
        refine ⟨k + 1, d, M.set (off + k) s, by omega, rfl, hd, by go_num, HM.out.set _ _, hMw.set _ _ hs, (hMo.mono (by omega)).set _ _ (by omega) (by omega), ?_, hbut.set _ _⟩
        rw [sg_set_last _ _ _ _ (by rw [hMo.1]; omega), sg_succ L off k (by omega), sg_succ bs 0 k (by omega), Nat.zero_add, hy, pw_succ]
        have e : L.getD (off + k) 0 = x := by rw [← hx]; exact (hMo.2 _ (by omega)).symm
        rw [e]
        exact times_step _ _ _ _ _ _ _ _ _ _ hMs he
    · obtain rfl : k = m := by omega
      go_wp2
      go_ret
      obtain ⟨hR, hm, hb, hL, hoff⟩ := HR.out
      obtain ⟨hMw, hMo, hMs, hbut⟩ := HA.out
      refine ⟨M, cv, rfl, hcv, HM.out, hMw, hMo, ?_, hbut⟩
      rw [hMs, hm, sg_all]
end Go.Proofs.YtmpakpdikkfofaaGreatDoor

/- mul: a product in new memory. -/
namespace Go.Proofs.YtmpakpdikkfofaaGreatDoor
open Go.RowKit
set_option linter.unusedVariables false
set_option maxRecDepth 20000

theorem mul_step (p V b x r q c : Nat) (h : V + p * r = b * q) : V + p * (r + q * x) = (b + p * x) * q := by grind

set_option maxHeartbeats 2000000 in
theorem mul_any (xs bs : List Nat) (ao bo : Option Addr) (n cap m capb B : Nat) (w : World) (hn : n = xs.length) (hm : m = bs.length) (hc : n ≤ cap) (hcb : m ≤ capb) (hbig : n + m ≤ 70368744177664)
    (hx : Wf xs) (hb : Wf bs) (hR : Rd B w ao xs) (hS : Rd B w bo bs) (hB : B ≤ w.heap.size) :
    Calls Tryz.prog 170 #[.slice ao n cap, .slice bo m capb] w fun r w' => ∃ v, r = .returned v ∧ Nt w.heap.size w' v (val xs * val bs) ∧ Below w.heap.size w w' := by
  obtain ⟨W1, hW1⟩ : ∃ W, W = w.alloc (.cells (madeCells #[.int .u32 0] (n + m)) 62) := ⟨_, rfl⟩
  have hO1 : Own W1 w.heap.size (List.replicate (n + m) 0) := by rw [hW1]; exact Own.made w (n + m)
  have hB1 : Below w.heap.size w W1 := by rw [hW1]; exact (Below.refl _ _).alloc (Nat.le_refl _) _
  have hmk := make_words ((n : Int) + m) (n + m) (by omega) (by omega) w
  rw [← hW1] at hmk
  have hR1 : Rd B W1 ao xs := hR.below (hB1.mono hB)
  have hS1 : Rd B W1 bo bs := hS.below (hB1.mono hB)
  obtain ⟨g, hg⟩ : ∃ g, g = w.heap.size := ⟨_, rfl⟩
  rw [← hg] at hO1 hmk hB1 hB
  have HR := (Aside.intro (And.intro hR1 (And.intro hS1 (And.intro hm (And.intro hb (And.intro hx (And.intro hn (And.intro hB1 hg))))))))
  have HO := hid hO1
  clear hn hm hx hb hR hS hO1 hB1 hW1 hR1 hS1 hg
  go_enter Tryz.func170, Tryz.ntmps170
  go_wp2
  go_loopg [16] n (fun gk i wr => ∃ (k : Nat) (M : List Nat), gk + k = n ∧ i = .int .i64 (k : Nat) ∧
      Hid (Own wr g M) ∧ Aside (Wf M ∧ M.length = n + m ∧ sg M 0 (k + m) = sg xs 0 k * val bs ∧ But g W1 wr))
  case atStart => exact ⟨0, _, by omega, rfl, HO, Wf.zeros _, by simp, by rw [sg_zeros, sg_zero]; simp, But.refl _ _⟩
  case round =>
    obtain ⟨k, M, hgk, rfl, HM, HA⟩ := hrel
    by_cases hk : k < n
    · obtain ⟨hR, hS, hm, hb, hx, hn, hB1, hg⟩ := HR.out
      obtain ⟨hMw, hMl, hMs, hbut⟩ := HA.out
      have hW1s : g ≤ W1.heap.size := by have := hB1.size; omega
      obtain ⟨b, boff, hbB, rfl, hbc⟩ := hR (by intro e; subst e; simp at hn; omega)
      have hbk : wr.cell? ⟨b, boff + k, none⟩ = some (.int .u32 ((xs.getD k 0 : Nat) : Int)) := by
        have h1 := hbut.block b (World.block_lt_of_cell? W1 ⟨b, boff + k, none⟩ (hbc k (by omega))) (by omega)
        exact (World.cell?_of_block (a := ⟨b, boff + k, none⟩) h1).trans (hbc k (by omega))
      obtain ⟨y, hy⟩ : ∃ y : Nat, xs.getD k 0 = y := ⟨_, rfl⟩
      have hyl : y < 4294967296 := hy ▸ hx.get _
      rw [hy] at hbk
      have H := hid (addTimes_any M bs g k m (n + m - k) bo m capb B y wr HM.out (by omega) hm (Nat.le_refl _) (by omega) (by omega) hMw hb (hS.but hbut (by omega) hB) hB hyl)
      have HX := (Aside.intro (And.intro hy hn))
      clear hy hR hS hm hb hx hn hB1 hg hMw hMl hMs hbut hbc hW1s
      go_wp2_with fail
      refine (Calls.mono H.out) ?_
      rintro r W3 ⟨M2, c, rfl, hc1, hO3, hM2, hout, hsum, hbut2⟩
      obtain ⟨hMw, hMl, hMs, hbut⟩ := HA.out
      have hgc := hO3.cell (k + m) (by rw [hout.1]; omega)
      have hgf := hO3.frozen (k + m)
      have HI := (Aside.intro (And.intro hc1 (And.intro hO3 (And.intro hM2 (And.intro hout (And.intro hsum hbut2))))))
      clear hc1 hO3 hM2 hout hsum hbut2 hMw hMl hMs hbut H
      go_wp2
      go_roundg (gk - 1)
      case measure => omega
      case rel =>
        obtain ⟨hy, hn⟩ := HX.out
        obtain ⟨hMw, hMl, hMs, hbut⟩ := HA.out
        obtain ⟨hc1, hO3, hM2, hout, hsum, hbut2⟩ := HI.out
        refine ⟨k + 1, M2.set (k + m) c, by omega, by go_num, hO3.set _ _, hM2.set _ _ hc1, by simp [hout.1, hMl], ?_, (hbut.trans hbut2).set _ _⟩
        have e1 := sg_set_last M2 0 (k + m) c (by rw [hout.1]; omega)
        rw [Nat.zero_add] at e1
        have e2 := sg_add M2 0 k m (by rw [hout.1]; omega)
        have e3 := sg_add M 0 k m (by omega)
        rw [Nat.zero_add] at e2 e3
        have e4 := hout.below 0 k (by omega) (by omega)
        rw [show k + 1 + m = k + m + 1 by omega, e1, e2, e4, sg_succ xs 0 k (by omega), Nat.zero_add, hy, pw_add]
        rw [e3] at hMs
        rw [Nat.mul_comm c] at hsum
        have := mul_step (pw k) _ _ y _ _ c hMs
        rw [← hsum] at this
        rw [← this, Nat.mul_add, Nat.mul_assoc, Nat.add_assoc]
    · obtain rfl : k = n := by omega
      obtain ⟨hMw, hMl, hMs, hbut⟩ := HA.out
      have T := hid (trim_any M (some ⟨g, 0, none⟩) (k + m) (k + m) (g + 1) wr hMl.symm (Nat.le_refl _) (by omega) (by simpa [hMl, List.take_of_length_le] using Rd.ofOwn HM.out 0 (k + m)))
      clear hMw hMl hMs hbut
      go_wp2_with fail
      refine (Calls.mono T.out) ?_
      rintro r w1 ⟨rfl, rfl⟩
      go_wp2
      go_ret
      obtain ⟨hR, hS, hm, hb, hx, hn, hB1, hg⟩ := HR.out
      obtain ⟨hMw, hMl, hMs, hbut⟩ := HA.out
      have e1 : sg M 0 (k + m) = val M := by rw [← hMl]; exact sg_all M
      have e2 : sg xs 0 k = val xs := by rw [hn]; exact sg_all xs
      rw [e1, e2] at hMs
      refine ⟨_, rfl, ?_, ?_⟩
      · have N := Nt.ofOwn (lo := g) HM.out (Nat.le_refl _) hMw (by rw [hMl]; unfold maxLen; omega)
        rw [← hMs, ← hg]
        rw [hMl] at N
        exact N
      · rw [← hg]
        exact But.below hB1 hbut (by have := hB1.size; omega) (Nat.le_refl _)
end Go.Proofs.YtmpakpdikkfofaaGreatDoor

/- Cmp, same. -/
namespace Go.Proofs.YtmpakpdikkfofaaGreatDoor
open Go.RowKit
set_option linter.unusedVariables false
set_option maxRecDepth 20000

/-- Which of two is greater, by their highest words that differ. -/
theorem cmp_words (xs ys : List Nat) (hx : Wf xs) (hy : Wf ys) (j d : Nat) (h1 : j + 1 + d ≤ xs.length) (h2 : j + 1 + d ≤ ys.length) (ht : sg xs (j + 1) d = sg ys (j + 1) d) (hlt : xs.getD j 0 < ys.getD j 0) :
    sg xs 0 (j + 1 + d) < sg ys 0 (j + 1 + d) := by
  rw [sg_add xs 0 (j + 1) d (by omega), sg_add ys 0 (j + 1) d (by omega), Nat.zero_add, ht, sg_succ xs 0 j (by omega), sg_succ ys 0 j (by omega), Nat.zero_add]
  have h3 := sg_lt xs 0 j hx (by omega)
  have h4 : pw j * (xs.getD j 0 + 1) ≤ pw j * ys.getD j 0 := Nat.mul_le_mul_left _ hlt
  rw [Nat.mul_add] at h4
  omega

theorem cmp_len (xs ys : List Nat) (hx : Wf xs) (hy : Wf ys) (h : nl xs < nl ys) : val xs < val ys := by
  rw [nl_eq_length xs hx, nl_eq_length ys hy] at h
  have h1 := ws_len_lt (val xs)
  have h2 : val ys ≠ 0 := by intro e; rw [e, ws_zero] at h; simp at h
  have h3 := ws_len_ge (val ys) h2
  have h4 := pw_mono (show (ws (val xs)).length ≤ (ws (val ys)).length - 1 by omega)
  omega

theorem cmpI_lt {x y : Nat} (h : x < y) : cmpI x y = -1 := by simp [cmpI, h]
theorem cmpI_gt {x y : Nat} (h : y < x) : cmpI x y = 1 := by simp [cmpI, h]; omega
theorem cmpI_eq {x y : Nat} (h : x = y) : cmpI x y = 0 := by simp [cmpI, h]
theorem cmpI_congr {a b x y : Nat} (h1 : a < b ↔ x < y) (h2 : b < a ↔ y < x) : cmpI a b = cmpI x y := by simp [cmpI, h1, h2]

set_option maxHeartbeats 2000000 in
theorem cmp_any (xs ys : List Nat) (ao bo : Option Addr) (n cap m capb B : Nat) (w : World) (hn : n = xs.length) (hm : m = ys.length) (hc : n ≤ cap) (hcb : m ≤ capb) (hbig : n ≤ 70368744177664) (hbig2 : m ≤ 70368744177664)
    (hx : Wf xs) (hy : Wf ys) (hR : Rd B w ao xs) (hS : Rd B w bo ys) :
    Calls Tryz.prog 181 #[.slice ao n cap, .slice bo m capb] w fun r w' => r = .returned (.int .i64 (cmpI (val xs) (val ys))) ∧ Below w.heap.size w w' := by
  have H1 := hid (trim_any xs ao n cap B w hn hc (by omega) hR)
  have H2 := hid (trim_any ys bo m capb B w hm hcb (by omega) hS)
  have hl1 := nl_le xs
  have hl2 := nl_le ys
  have f1 := val_form xs hx
  have f2 := val_form ys hy
  rw [← sg_val_take] at f1 f2
  by_cases he : nl xs = nl ys
  · obtain ⟨k0, hk0⟩ : ∃ k, nl ys = k := ⟨_, rfl⟩
    rw [he] at H1 hl1 f1
    rw [hk0] at H1 H2 hl1 hl2 f1 f2
    have HR := (Aside.intro (And.intro hR (And.intro hS (And.intro hn (And.intro hm (And.intro hx (And.intro hy (And.intro hl1 (And.intro hl2 (And.intro f1 f2))))))))))
    have HC : Hid (∀ x y w, _) := compare_u
    have hkn : k0 ≤ n := by omega
    have hkm : k0 ≤ m := by omega
    clear hR hS hn hm hx hy hl1 hl2 f1 f2 he hk0
    go_enter Tryz.func181, Tryz.ntmps181
    go_wp2_with fail
    refine (Calls.mono H1.out) ?_
    rintro r w1 ⟨rfl, rfl⟩
    go_wp2_with fail
    refine (Calls.mono H2.out) ?_
    rintro r w1 ⟨rfl, rfl⟩
    go_wp2
    go_loopg [5] k0 (fun k i wr => k ≤ k0 ∧ i = .int .i64 ((k : Int) - 1) ∧ Hid (Below w1.heap.size w1 wr) ∧ Aside (sg xs k (k0 - k) = sg ys k (k0 - k)))
    case atStart => exact ⟨Nat.le_refl _, rfl, Below.refl _ _, by rw [Nat.sub_self, sg_zero, sg_zero]; exact rfl⟩
    case round =>
      obtain ⟨hk, rfl, HB, HA⟩ := hrel
      by_cases hk0 : gk = 0
      · subst hk0
        go_wp2
        go_ret
        obtain ⟨hR, hS, hn, hm, hx, hy, hl1, hl2, f1, f2⟩ := HR.out
        have h := HA.out
        rw [Nat.sub_zero, f1, f2] at h
        rw [cmpI_eq h]
        exact ⟨rfl, HB.out⟩
      · obtain ⟨k, rfl⟩ : ∃ k, gk = k + 1 := ⟨gk - 1, by omega⟩
        obtain ⟨hR, hS, hn, hm, hx, hy, hl1, hl2, f1, f2⟩ := HR.out
        obtain ⟨b, off, hB1, rfl, hc1⟩ := hR (by intro e; subst e; simp at hl1; omega)
        obtain ⟨b2, off2, hB2, rfl, hc2⟩ := hS (by intro e; subst e; simp at hl2; omega)
        have g1 : wr.cell? ⟨b, off + k, none⟩ = some (.int .u32 ((xs.getD k 0 : Nat) : Int)) :=
          (HB.out.cell (p := ⟨b, off + k, none⟩) (World.block_lt_of_cell? w1 ⟨b, off + k, none⟩ (hc1 k (by omega)))).trans (hc1 k (by omega))
        have g2 : wr.cell? ⟨b2, off2 + k, none⟩ = some (.int .u32 ((ys.getD k 0 : Nat) : Int)) :=
          (HB.out.cell (p := ⟨b2, off2 + k, none⟩) (World.block_lt_of_cell? w1 ⟨b2, off2 + k, none⟩ (hc2 k (by omega)))).trans (hc2 k (by omega))
        obtain ⟨x, hxx⟩ : ∃ x : Nat, xs.getD k 0 = x := ⟨_, rfl⟩
        obtain ⟨y, hyy⟩ : ∃ y : Nat, ys.getD k 0 = y := ⟨_, rfl⟩
        rw [hxx] at g1
        rw [hyy] at g2
        have HX := (Aside.intro (And.intro hxx hyy))
        clear hR hS hn hm hx hy hl1 hl2 f1 f2 hc1 hc2 hxx hyy hk0
        by_cases hxy : x = y
        · subst hxy
          go_wp2
          go_region
          all_goals (
            go_wp2
            go_roundg k
            case measure => omega
            case rel =>
              obtain ⟨hR, hS, hn, hm, hx, hy, hl1, hl2, f1, f2⟩ := HR.out
              refine ⟨by omega, by first | go_num | (congr 1; omega), HB.out.drew, ?_⟩
              have h := HA.out
              obtain ⟨r, hr⟩ : ∃ r, k0 - k = r + 1 := ⟨k0 - (k + 1), by omega⟩
              rw [show k0 - (k + 1) = r by omega] at h
              rw [Aside, hr, sg_front xs k r (by omega), sg_front ys k r (by omega), h, HX.out.1, HX.out.2])
        · have hne : ((x : Int) == (y : Int)) = false := by simp; omega
          have hki : (k : Int) < (k0 : Int) := by omega
          have hki0 : 0 ≤ (k : Int) := by omega
          have hki2 : k < k0 := by omega
          go_wp2
          go_region
          all_goals (
            go_wp2
            go_region_with (go_at_call 191; refine (compare_u x y _).mono ?_; rintro r w2 ⟨rfl, rfl⟩))
          all_goals (
            go_wp2
            go_ret
            obtain ⟨hR, hS, hn, hm, hx, hy, hl1, hl2, f1, f2⟩ := HR.out
            have h := HA.out
            have e : cmpI (val xs) (val ys) = cmpI x y := by
              rw [← f1, ← f2]
              have hk2 : k + 1 + (k0 - (k + 1)) = k0 := by omega
              have t1 := cmp_words xs ys hx hy k (k0 - (k + 1)) (by omega) (by omega) h
              have t2 := cmp_words ys xs hy hx k (k0 - (k + 1)) (by omega) (by omega) h.symm
              rw [hk2, HX.out.1, HX.out.2] at t1 t2
              apply cmpI_congr <;> omega
            rw [e]
            exact ⟨rfl, by first | exact HB.out.drew.drew | exact HB.out.drew | skip⟩)
  · have e : cmpI (val xs) (val ys) = cmpI (nl xs) (nl ys) := by
      rcases Nat.lt_or_gt_of_ne he with h | h
      · rw [cmpI_lt h, cmpI_lt (cmp_len xs ys hx hy h)]
      · rw [cmpI_gt h, cmpI_gt (cmp_len ys xs hy hx h)]
    rw [e]
    obtain ⟨k1, hk1⟩ : ∃ k, nl xs = k := ⟨_, rfl⟩
    obtain ⟨k2, hk2⟩ : ∃ k, nl ys = k := ⟨_, rfl⟩
    rw [hk1] at H1 he ⊢
    rw [hk2] at H2 he ⊢
    have hne : ((k1 : Int) == (k2 : Int)) = false := by simp; omega
    have hne2 : ¬ (k1 : Int) = (k2 : Int) := by omega
    have H3 := hid (compare_i k1 k2 w)
    clear hR hS hn hm hx hy hl1 hl2 f1 f2 hk1 hk2 e he
    go_enter Tryz.func181, Tryz.ntmps181
    go_wp2_with fail
    refine (Calls.mono H1.out) ?_
    rintro r w1 ⟨rfl, rfl⟩
    go_wp2_with fail
    refine (Calls.mono H2.out) ?_
    rintro r w1 ⟨rfl, rfl⟩
    go_wp2_with fail
    refine (Calls.mono H3.out) ?_
    rintro r w1 ⟨rfl, rfl⟩
    go_wp2
    go_ret
    exact ⟨rfl, Below.refl _ _⟩

end Go.Proofs.YtmpakpdikkfofaaGreatDoor

/- Add, Sub. -/
namespace Go.Proofs.YtmpakpdikkfofaaGreatDoor
open Go.RowKit
set_option linter.unusedVariables false
set_option maxRecDepth 20000

/-- Is a number long? -/
abbrev LG (X : Nat) : Prop := 8192 < (ws X).length
/-- What is answered: a number, an error. -/
def addS (X Y : Nat) : Nat × Int := if LG (X + Y) then (0, 2) else (X + Y, 0)
def subS (X Y : Nat) : Nat × Int := if LG X ∨ LG Y then (0, 2) else if X < Y then (0, 20) else (X - Y, 0)
def mulS (X Y : Nat) : Nat × Int := if LG X ∨ LG Y then (0, 2) else if LG (X * Y) then (0, 2) else (X * Y, 0)
def shiftS (X : Nat) (by' : Int) : Nat × Int := if LG X then (0, 2) else if X = 0 then (0, 0) else if by' < 0 then (X / 2 ^ (-by').toNat, 0) else if 262144 - (bl X : Int) < by' then (0, 2) else (X * 2 ^ by'.toNat, 0)

/-- A Nat in new memory, and an error. -/
def One (lo : Nat) (w : World) (r : Ending) (a : Nat × Int) : Prop := ∃ v, r = .returned (.tuple #[v, .int .i64 a.2]) ∧ Nt lo w v a.1

theorem trimX (xs : List Nat) (ao : Option Addr) (n cap B : Nat) (w : World) (hn : n = xs.length) (hc : n ≤ cap) (hm : n ≤ 70368744177664) (hx : Wf xs) (hR : Rd B w ao xs) :
    (Calls Tryz.prog 167 #[.slice ao n cap] w fun r w' => r = .returned (.slice ao (ws (val xs)).length cap) ∧ w' = w) ∧ Rd B w ao (ws (val xs)) ∧ (ws (val xs)).length ≤ n := by
  have T := trim_any xs ao n cap B w hn hc (by omega) hR
  have hl := nl_le xs
  have hf := form_eq xs hx
  have hlen := nl_eq_length xs hx
  rw [hlen] at T hl hf
  exact ⟨T, by rw [← hf]; exact hR.take _, by omega⟩

set_option maxHeartbeats 2000000 in
theorem Add_any (xs ys : List Nat) (ao bo : Option Addr) (n cap m capb B : Nat) (w : World) (hn : n = xs.length) (hm : m = ys.length) (hc : n ≤ cap) (hcb : m ≤ capb) (hbig : n ≤ 35184372088833) (hbig2 : m ≤ 35184372088833)
    (hx : Wf xs) (hy : Wf ys) (hR : Rd B w ao xs) (hS : Rd B w bo ys) (hB : B ≤ w.heap.size) :
    Calls Tryz.prog 180 #[.slice ao n cap, .slice bo m capb] w fun r w' => One w.heap.size w' r (addS (val xs) (val ys)) ∧ Below w.heap.size w w' := by
  obtain ⟨T1, hRX, hl1⟩ := trimX xs ao n cap B w hn hc (by omega) hx hR
  obtain ⟨T2, hRY, hl2⟩ := trimX ys bo m capb B w hm hcb (by omega) hy hS
  generalize val xs = X at *
  generalize val ys = Y at *
  have A0 := add_any (ws X) (ws Y) ao bo _ cap _ capb B w rfl rfl (by omega) (by omega) (by omega) (by omega) (wf_ws X) (wf_ws Y) hRX hRY hB
  rw [val_ws, val_ws] at A0
  have H1 := (hid T1)
  have H2 := (hid T2)
  have H3 := (hid A0)
  clear T1 T2 A0 hRX hRY hn hm hx hy hR hS hl1 hl2
  go_enter Tryz.func180, Tryz.ntmps180
  go_wp2_with fail
  refine (Calls.mono H1.out) ?_
  rintro r w1 ⟨rfl, rfl⟩
  go_wp2_with fail
  refine (Calls.mono H2.out) ?_
  rintro r w1 ⟨rfl, rfl⟩
  go_wp2_with fail
  refine (Calls.mono H3.out) ?_
  rintro r w2 ⟨v, rfl, hN, hb⟩
  obtain ⟨av, cv, rfl, hcv, hcm, hRv⟩ := hN.shape
  have U0 := unlessLong_any (ws (X + Y)).length av cv w2
  have HN := (Aside.intro (And.intro hN hb))
  clear H1 H2 H3 hN hb hRv
  by_cases hL : LG (X + Y)
  · rw [if_pos (show 8192 < (ws (X + Y)).length from hL)] at U0
    have U := (hid U0)
    clear U0
    go_wp2_with fail
    refine (Calls.mono U.out) ?_
    rintro r w3 ⟨rfl, rfl⟩
    go_wp2
    go_ret2
    rw [show addS X Y = (0, 2) by simp [addS, hL]]
    exact ⟨⟨_, rfl, Nt.nil _ _⟩, HN.out.2⟩
  · rw [if_neg (show ¬ 8192 < (ws (X + Y)).length from hL)] at U0
    have U := (hid U0)
    clear U0
    go_wp2_with fail
    refine (Calls.mono U.out) ?_
    rintro r w3 ⟨rfl, rfl⟩
    go_wp2
    go_ret2
    rw [show addS X Y = (X + Y, 0) by simp [addS, hL]]
    exact ⟨⟨_, rfl, HN.out.1⟩, HN.out.2⟩

theorem longb (n : Nat) (ao : Option Addr) (cap : Nat) (w : World) (b : Bool) (hb : decide (8192 < n) = b) :
    Calls Tryz.prog 168 #[.slice ao n cap] w fun r w' => r = .returned (.bool b) ∧ w' = w := by
  have h := long_any n ao cap w
  have e : decide ((8192 : Int) < (n : Int)) = b := by rw [← hb]; simp only [decide_eq_decide]; omega
  rw [e] at h
  exact h

set_option maxHeartbeats 2000000 in
theorem Sub_any (xs ys : List Nat) (ao bo : Option Addr) (n cap m capb B : Nat) (w : World) (hn : n = xs.length) (hm : m = ys.length) (hc : n ≤ cap) (hcb : m ≤ capb) (hbig : n ≤ 35184372088833) (hbig2 : m ≤ 35184372088833)
    (hx : Wf xs) (hy : Wf ys) (hR : Rd B w ao xs) (hS : Rd B w bo ys) (hB : B ≤ w.heap.size) :
    Calls Tryz.prog 182 #[.slice ao n cap, .slice bo m capb] w fun r w' => One w.heap.size w' r (subS (val xs) (val ys)) ∧ Below w.heap.size w w' := by
  obtain ⟨T1, hRX, hl1⟩ := trimX xs ao n cap B w hn hc (by omega) hx hR
  obtain ⟨T2, hRY, hl2⟩ := trimX ys bo m capb B w hm hcb (by omega) hy hS
  generalize val xs = X at *
  generalize val ys = Y at *
  have H1 := (hid T1)
  have H2 := (hid T2)
  have HR := (Aside.intro (And.intro hRX (And.intro hRY (And.intro hl1 hl2))))
  clear T1 T2 hRX hRY hn hm hx hy hR hS hl1 hl2
  by_cases hLX : LG X
  · have L := hid (longb (ws X).length ao cap w true (by simpa [LG] using hLX))
    have e : subS X Y = (0, 2) := by simp [subS, hLX]
    rw [e]
    clear e hLX HR
    go_enter Tryz.func182, Tryz.ntmps182
    go_wp2_with fail
    refine (Calls.mono H1.out) ?_
    rintro r w1 ⟨rfl, rfl⟩
    go_wp2_with fail
    refine (Calls.mono H2.out) ?_
    rintro r w1 ⟨rfl, rfl⟩
    go_wp2_with fail
    refine (Calls.mono L.out) ?_
    rintro r w1 ⟨rfl, rfl⟩
    go_wp2
    go_ret2
    exact ⟨⟨_, rfl, Nt.nil _ _⟩, Below.refl _ _⟩
  · have L := hid (longb (ws X).length ao cap w false (by simpa [LG] using hLX))
    by_cases hLY : LG Y
    · have L2 := hid (longb (ws Y).length bo capb w true (by simpa [LG] using hLY))
      have e : subS X Y = (0, 2) := by simp [subS, hLY]
      rw [e]
      clear e hLX hLY HR
      go_enter Tryz.func182, Tryz.ntmps182
      go_wp2_with fail
      refine (Calls.mono H1.out) ?_
      rintro r w1 ⟨rfl, rfl⟩
      go_wp2_with fail
      refine (Calls.mono H2.out) ?_
      rintro r w1 ⟨rfl, rfl⟩
      go_wp2_with fail
      refine (Calls.mono L.out) ?_
      rintro r w1 ⟨rfl, rfl⟩
      go_wp2_with fail
      refine (Calls.mono L2.out) ?_
      rintro r w1 ⟨rfl, rfl⟩
      go_wp2
      go_ret2
      exact ⟨⟨_, rfl, Nt.nil _ _⟩, Below.refl _ _⟩
    · have L2 := hid (longb (ws Y).length bo capb w false (by simpa [LG] using hLY))
      obtain ⟨hRX, hRY, hl1, hl2⟩ := HR.out
      have C0 := cmp_any (ws X) (ws Y) ao bo _ cap _ capb B w rfl rfl (by omega) (by omega) (by omega) (by omega) (wf_ws X) (wf_ws Y) hRX hRY
      rw [val_ws, val_ws] at C0
      by_cases hlt : X < Y
      · rw [cmpI_lt hlt] at C0
        have C := hid C0
        have e : subS X Y = (0, 20) := by simp [subS, hLX, hLY, hlt]
        rw [e]
        clear e hLX hLY HR C0 hlt hRX hRY hl1 hl2
        go_enter Tryz.func182, Tryz.ntmps182
        go_wp2_with fail
        refine (Calls.mono H1.out) ?_
        rintro r w1 ⟨rfl, rfl⟩
        go_wp2_with fail
        refine (Calls.mono H2.out) ?_
        rintro r w1 ⟨rfl, rfl⟩
        go_wp2_with fail
        refine (Calls.mono L.out) ?_
        rintro r w1 ⟨rfl, rfl⟩
        go_wp2_with fail
        refine (Calls.mono L2.out) ?_
        rintro r w1 ⟨rfl, rfl⟩
        go_wp2_with fail
        refine (Calls.mono C.out) ?_
        rintro r w2 ⟨rfl, hb⟩
        have HB := (Aside.intro hb)
        clear hb
        go_wp2
        go_ret2
        exact ⟨⟨_, rfl, Nt.nil _ _⟩, HB.out⟩
      · have hc1 : 0 ≤ cmpI X Y := by unfold cmpI; rw [if_neg hlt]; split <;> omega
        obtain ⟨cc, hcc⟩ : ∃ cc, cmpI X Y = cc := ⟨_, rfl⟩
        rw [hcc] at C0 hc1
        have C := hid C0
        have e : subS X Y = (X - Y, 0) := by simp [subS, hLX, hLY, hlt]
        rw [e]
        have HL := (Aside.intro hlt)
        clear e hLX hLY C0 hlt hRX hRY hl1 hl2 hcc
        go_enter Tryz.func182, Tryz.ntmps182
        go_wp2_with fail
        refine (Calls.mono H1.out) ?_
        rintro r w1 ⟨rfl, rfl⟩
        go_wp2_with fail
        refine (Calls.mono H2.out) ?_
        rintro r w1 ⟨rfl, rfl⟩
        go_wp2_with fail
        refine (Calls.mono L.out) ?_
        rintro r w1 ⟨rfl, rfl⟩
        go_wp2_with fail
        refine (Calls.mono L2.out) ?_
        rintro r w1 ⟨rfl, rfl⟩
        go_wp2_with fail
        refine (Calls.mono C.out) ?_
        rintro r w2 ⟨rfl, hb⟩
        obtain ⟨hRX, hRY, hl1, hl2⟩ := HR.out
        have hs := hb.size
        have S0 := sub_any (ws X) (ws Y) ao bo _ cap _ capb B w2 rfl rfl (ws_len_mono (by have := HL.out; omega)) (by omega) (by omega) (by omega) (wf_ws X) (wf_ws Y) (by rw [val_ws, val_ws]; have := HL.out; omega) (hRX.below (hb.mono hB)) (hRY.below (hb.mono hB)) (by omega)
        rw [val_ws, val_ws] at S0
        have S := hid S0
        have HB := (Aside.intro (And.intro hb hs))
        clear hb hRX hRY hl1 hl2 S0 hs C
        go_wp2_with fail
        refine (Calls.mono S.out) ?_
        rintro r w3 ⟨v, rfl, hN, hb2⟩
        have HN := (Aside.intro (And.intro hN hb2))
        clear hN hb2 S
        go_wp2
        go_ret2
        obtain ⟨hb, hs⟩ := HB.out
        exact ⟨⟨_, rfl, HN.out.1.mono hs⟩, hb.trans (HN.out.2.mono hs)⟩
end Go.Proofs.YtmpakpdikkfofaaGreatDoor

/- Mul, Div. -/
namespace Go.Proofs.YtmpakpdikkfofaaGreatDoor
open Go.RowKit
set_option linter.unusedVariables false
set_option maxRecDepth 20000

set_option maxHeartbeats 2000000 in
theorem Mul_any (xs ys : List Nat) (ao bo : Option Addr) (n cap m capb B : Nat) (w : World) (hn : n = xs.length) (hm : m = ys.length) (hc : n ≤ cap) (hcb : m ≤ capb) (hbig : n ≤ 35184372088833) (hbig2 : m ≤ 35184372088833)
    (hx : Wf xs) (hy : Wf ys) (hR : Rd B w ao xs) (hS : Rd B w bo ys) (hB : B ≤ w.heap.size) :
    Calls Tryz.prog 135 #[.slice ao n cap, .slice bo m capb] w fun r w' => One w.heap.size w' r (mulS (val xs) (val ys)) ∧ Below w.heap.size w w' := by
  obtain ⟨T1, hRX, hl1⟩ := trimX xs ao n cap B w hn hc (by omega) hx hR
  obtain ⟨T2, hRY, hl2⟩ := trimX ys bo m capb B w hm hcb (by omega) hy hS
  generalize val xs = X at *
  generalize val ys = Y at *
  have H1 := (hid T1)
  have H2 := (hid T2)
  have HR := (Aside.intro (And.intro hRX (And.intro hRY (And.intro hl1 hl2))))
  clear T1 T2 hRX hRY hn hm hx hy hR hS hl1 hl2
  by_cases hLX : LG X
  · have L := hid (longb (ws X).length ao cap w true (by simpa [LG] using hLX))
    have e : mulS X Y = (0, 2) := by simp [mulS, hLX]
    rw [e]
    clear e hLX HR
    go_enter Tryz.func135, Tryz.ntmps135
    go_wp2_with fail
    refine (Calls.mono H1.out) ?_
    rintro r w1 ⟨rfl, rfl⟩
    go_wp2_with fail
    refine (Calls.mono H2.out) ?_
    rintro r w1 ⟨rfl, rfl⟩
    go_wp2_with fail
    refine (Calls.mono L.out) ?_
    rintro r w1 ⟨rfl, rfl⟩
    go_wp2
    go_ret2
    exact ⟨⟨_, rfl, Nt.nil _ _⟩, Below.refl _ _⟩
  · have L := hid (longb (ws X).length ao cap w false (by simpa [LG] using hLX))
    by_cases hLY : LG Y
    · have L2 := hid (longb (ws Y).length bo capb w true (by simpa [LG] using hLY))
      have e : mulS X Y = (0, 2) := by simp [mulS, hLY]
      rw [e]
      clear e hLX hLY HR
      go_enter Tryz.func135, Tryz.ntmps135
      go_wp2_with fail
      refine (Calls.mono H1.out) ?_
      rintro r w1 ⟨rfl, rfl⟩
      go_wp2_with fail
      refine (Calls.mono H2.out) ?_
      rintro r w1 ⟨rfl, rfl⟩
      go_wp2_with fail
      refine (Calls.mono L.out) ?_
      rintro r w1 ⟨rfl, rfl⟩
      go_wp2_with fail
      refine (Calls.mono L2.out) ?_
      rintro r w1 ⟨rfl, rfl⟩
      go_wp2
      go_ret2
      exact ⟨⟨_, rfl, Nt.nil _ _⟩, Below.refl _ _⟩
    · have L2 := hid (longb (ws Y).length bo capb w false (by simpa [LG] using hLY))
      have hz1 : (ws X).length = 0 → X = 0 := (ws_len_zero X).1
      have hz2 : (ws Y).length = 0 → Y = 0 := (ws_len_zero Y).1
      by_cases h1 : (ws X).length = 0
      · have e : mulS X Y = (0, 0) := by
          have := hz1 h1; subst this
          unfold mulS
          rw [if_neg (by simp [hLX, hLY]), Nat.zero_mul, if_neg hLX]
        rw [e]
        have hh := hid h1
        rw [h1] at H1 L
        have h1b : ((ws X).length : Int) = 0 := by omega
        clear e hLX hLY HR hz1 hz2 h1 h1b hh
        go_enter Tryz.func135, Tryz.ntmps135
        go_wp2_with fail
        refine (Calls.mono H1.out) ?_
        rintro r w1 ⟨rfl, rfl⟩
        go_wp2_with fail
        refine (Calls.mono H2.out) ?_
        rintro r w1 ⟨rfl, rfl⟩
        go_wp2_with fail
        refine (Calls.mono L.out) ?_
        rintro r w1 ⟨rfl, rfl⟩
        go_wp2_with fail
        refine (Calls.mono L2.out) ?_
        rintro r w1 ⟨rfl, rfl⟩
        go_wp2
        go_ret2
        exact ⟨⟨_, rfl, Nt.nil _ _⟩, Below.refl _ _⟩
      · by_cases h2 : (ws Y).length = 0
        · have e : mulS X Y = (0, 0) := by
            have := hz2 h2; subst this
            unfold mulS
            rw [if_neg (by simp [hLX, hLY]), Nat.mul_zero, if_neg hLY]
          rw [e]
          rw [h2] at H2 L2
          obtain ⟨k1, hk1⟩ : ∃ k, (ws X).length = k := ⟨_, rfl⟩
          rw [hk1] at H1 L h1
          have h1b : ((k1 : Int) == 0) = false := by simp; omega
          clear e hLX hLY HR hz1 hz2 h2 hk1
          go_enter Tryz.func135, Tryz.ntmps135
          go_wp2_with fail
          refine (Calls.mono H1.out) ?_
          rintro r w1 ⟨rfl, rfl⟩
          go_wp2_with fail
          refine (Calls.mono H2.out) ?_
          rintro r w1 ⟨rfl, rfl⟩
          go_wp2_with fail
          refine (Calls.mono L.out) ?_
          rintro r w1 ⟨rfl, rfl⟩
          go_wp2_with fail
          refine (Calls.mono L2.out) ?_
          rintro r w1 ⟨rfl, rfl⟩
          go_wp2
          go_ret2
          exact ⟨⟨_, rfl, Nt.nil _ _⟩, Below.refl _ _⟩
        · have hX0 : X ≠ 0 := fun e => h1 ((ws_len_zero X).2 e)
          have hY0 : Y ≠ 0 := fun e => h2 ((ws_len_zero Y).2 e)
          have hlow : pw ((ws X).length + (ws Y).length - 2) ≤ X * Y := by
            have a := Nat.mul_le_mul (ws_len_ge X hX0) (ws_len_ge Y hY0)
            rw [← pw_add] at a
            rw [show (ws X).length + (ws Y).length - 2 = (ws X).length - 1 + ((ws Y).length - 1) by omega]; exact a
          obtain ⟨hRX, hRY, hl1, hl2⟩ := HR.out
          have M0 := mul_any (ws X) (ws Y) ao bo _ cap _ capb B w rfl rfl (by omega) (by omega) (by unfold LG at hLX hLY; omega) (wf_ws X) (wf_ws Y) hRX hRY hB
          rw [val_ws, val_ws] at M0
          have hsmall1 : (ws X).length ≤ 8192 := by unfold LG at hLX; omega
          have hsmall2 : (ws Y).length ≤ 8192 := by unfold LG at hLY; omega
          obtain ⟨k1, hk1⟩ : ∃ k, (ws X).length = k := ⟨_, rfl⟩
          obtain ⟨k2, hk2⟩ : ∃ k, (ws Y).length = k := ⟨_, rfl⟩
          rw [hk1] at H1 L h1 M0 hlow hsmall1
          rw [hk2] at H2 L2 h2 M0 hlow hsmall2
          have h1b : ((k1 : Int) == 0) = false := by simp; omega
          have h2b : ((k2 : Int) == 0) = false := by simp; omega
          by_cases h3 : 8192 < k1 + k2 - 1
          · have hLG : LG (X * Y) := by
              unfold LG
              by_cases h4 : (ws (X * Y)).length ≤ 8192
              · have := (ws_len_le _ _).1 h4
                have := pw_mono (show 8192 ≤ k1 + k2 - 2 by omega)
                omega
              · omega
            have e : mulS X Y = (0, 2) := by simp [mulS, hLG]
            rw [e]
            have h3i : (8192 : Int) < (k1 : Int) + (k2 : Int) - 1 := by omega
            clear e hLX hLY HR hz1 hz2 hk1 hk2 hRX hRY hl1 hl2 M0 hX0 hY0 hlow hLG h3
            go_enter Tryz.func135, Tryz.ntmps135
            go_wp2_with fail
            refine (Calls.mono H1.out) ?_
            rintro r w1 ⟨rfl, rfl⟩
            go_wp2_with fail
            refine (Calls.mono H2.out) ?_
            rintro r w1 ⟨rfl, rfl⟩
            go_wp2_with fail
            refine (Calls.mono L.out) ?_
            rintro r w1 ⟨rfl, rfl⟩
            go_wp2_with fail
            refine (Calls.mono L2.out) ?_
            rintro r w1 ⟨rfl, rfl⟩
            go_wp2
            go_ret2
            exact ⟨⟨_, rfl, Nt.nil _ _⟩, Below.refl _ _⟩
          · have h3i : (k1 : Int) + (k2 : Int) - 1 ≤ 8192 := by omega
            have h3b : decide ((8192 : Int) < (k1 : Int) + (k2 : Int) - 1) = false := decide_eq_false (by omega)
            have M := hid M0
            have HL := (Aside.intro (And.intro hLX hLY))
            clear hLX hLY HR hz1 hz2 hk1 hk2 hRX hRY hl1 hl2 M0 hX0 hY0 hlow h3
            go_enter Tryz.func135, Tryz.ntmps135
            go_wp2_with fail
            refine (Calls.mono H1.out) ?_
            rintro r w1 ⟨rfl, rfl⟩
            go_wp2_with fail
            refine (Calls.mono H2.out) ?_
            rintro r w1 ⟨rfl, rfl⟩
            go_wp2_with fail
            refine (Calls.mono L.out) ?_
            rintro r w1 ⟨rfl, rfl⟩
            go_wp2_with fail
            refine (Calls.mono L2.out) ?_
            rintro r w1 ⟨rfl, rfl⟩
            go_wp2_with fail
            refine (Calls.mono M.out) ?_
            rintro r w2 ⟨v, rfl, hN, hb⟩
            obtain ⟨av, cv, rfl, hcv, hcm, hRv⟩ := hN.shape
            have U0 := unlessLong_any (ws (X * Y)).length av cv w2
            have HN := (Aside.intro (And.intro hN hb))
            clear M hN hb hRv
            by_cases hL : LG (X * Y)
            · rw [if_pos (show 8192 < (ws (X * Y)).length from hL)] at U0
              have U := (hid U0)
              clear U0
              go_wp2_with fail
              refine (Calls.mono U.out) ?_
              rintro r w3 ⟨rfl, rfl⟩
              go_wp2
              go_ret2
              rw [show mulS X Y = (0, 2) by simp [mulS, hL]]
              exact ⟨⟨_, rfl, Nt.nil _ _⟩, HN.out.2⟩
            · rw [if_neg (show ¬ 8192 < (ws (X * Y)).length from hL)] at U0
              have U := (hid U0)
              clear U0
              go_wp2_with fail
              refine (Calls.mono U.out) ?_
              rintro r w3 ⟨rfl, rfl⟩
              go_wp2
              go_ret2
              rw [show mulS X Y = (X * Y, 0) by simp [mulS, HL.out.1, HL.out.2, hL]]
              exact ⟨⟨_, rfl, HN.out.1⟩, HN.out.2⟩

end Go.Proofs.YtmpakpdikkfofaaGreatDoor

/- Shift. -/
namespace Go.Proofs.YtmpakpdikkfofaaGreatDoor
open Go.RowKit
set_option linter.unusedVariables false
set_option maxRecDepth 20000

theorem bl_le_words (X k : Nat) (h : X < pw k) : bl X ≤ 32 * k := by
  by_cases h0 : X = 0
  · subst h0; rw [bl_zero]; omega
  · have h1 := bl_ge X h0
    have h3 : pw k = 2 ^ (32 * k) := by rw [← Nat.add_zero (32 * k), pw_two]; simp
    rw [h3] at h
    have := (Nat.pow_lt_pow_iff_right (a := 2) (by decide)).1 (Nat.lt_of_le_of_lt h1 h)
    omega

theorem bl_small (X : Nat) (h : ¬ LG X) : bl X ≤ 262144 :=
  bl_le_words X 8192 ((ws_len_le X 8192).1 (by unfold LG at h; omega))

set_option maxHeartbeats 2000000 in
theorem Shift_any (xs : List Nat) (ao : Option Addr) (n cap B : Nat) (by' : Int) (w : World) (hn : n = xs.length) (hc : n ≤ cap) (hbig : n ≤ 35184372088833)
    (hx : Wf xs) (hR : Rd B w ao xs) (hB : B ≤ w.heap.size) (hb0 : -9223372036854775808 ≤ by') (hb1 : by' ≤ 9223372036854775807) :
    Calls Tryz.prog 147 #[.slice ao n cap, .int .i64 by'] w fun r w' => One w.heap.size w' r (shiftS (val xs) by') ∧ Below w.heap.size w w' := by
  obtain ⟨T1, hRX, hl1⟩ := trimX xs ao n cap B w hn hc (by omega) hx hR
  generalize val xs = X at *
  have N0 := len_any (ws X) ao _ cap B w rfl (by omega) (by omega) (wf_ws X) hRX
  rw [val_ws] at N0
  have H1 := (hid T1)
  have H2 := (hid N0)
  have HR := (Aside.intro (And.intro hRX hl1))
  clear T1 N0 hRX hn hx hR hl1
  by_cases hLX : LG X
  · have L := hid (longb (ws X).length ao cap w true (by simpa [LG] using hLX))
    have e : shiftS X by' = (0, 2) := by simp [shiftS, hLX]
    rw [e]
    clear e hLX HR
    generalize bl X = c at *
    go_enter Tryz.func147, Tryz.ntmps147
    go_wp2_with fail
    refine (Calls.mono H1.out) ?_
    rintro r w1 ⟨rfl, rfl⟩
    go_wp2_with fail
    refine (Calls.mono H2.out) ?_
    rintro r w1 ⟨rfl, rfl⟩
    go_wp2_with fail
    refine (Calls.mono L.out) ?_
    rintro r w1 ⟨rfl, rfl⟩
    go_wp2
    go_ret2
    exact ⟨⟨_, rfl, Nt.nil _ _⟩, Below.refl _ _⟩
  · have L := hid (longb (ws X).length ao cap w false (by simpa [LG] using hLX))
    have hbs := bl_small X hLX
    obtain ⟨c, hcc⟩ : ∃ c, bl X = c := ⟨_, rfl⟩
    by_cases h0 : X = 0
    · have e : shiftS X by' = (0, 0) := by unfold shiftS; rw [if_neg hLX, if_pos h0]
      rw [e]
      subst h0
      rw [ws_zero] at H1 H2 L
      rw [bl_zero] at H2
      clear e hLX HR hbs hcc
      go_enter Tryz.func147, Tryz.ntmps147
      go_wp2_with fail
      refine (Calls.mono H1.out) ?_
      rintro r w1 ⟨rfl, rfl⟩
      go_wp2_with fail
      refine (Calls.mono H2.out) ?_
      rintro r w1 ⟨rfl, rfl⟩
      go_wp2_with fail
      refine (Calls.mono L.out) ?_
      rintro r w1 ⟨rfl, rfl⟩
      go_wp2
      go_ret2
      exact ⟨⟨_, rfl, Nt.nil _ _⟩, Below.refl _ _⟩
    · have hcp := bl_pos X h0
      have hlt := bl_lt X
      rw [hcc] at hcp hbs H2 hlt
      have hcne : ((c : Int) == 0) = false := by simp; omega
      by_cases hneg : by' < 0
      · obtain ⟨d, hd⟩ : ∃ d : Nat, (d : Int) = -by' := ⟨(-by').toNat, by omega⟩
        have e : shiftS X by' = (X / 2 ^ d, 0) := by
          unfold shiftS; rw [if_neg hLX, if_neg h0, if_pos hneg, ← hd, Int.toNat_natCast]
        rw [e]
        by_cases hbig2 : by' ≤ -(c : Int)
        · have e2 : X / 2 ^ d = 0 := Nat.div_eq_of_lt (Nat.lt_of_lt_of_le hlt (Nat.pow_le_pow_right (by decide) (by omega)))
          rw [e2]
          clear e e2 hLX HR hcc hlt hd h0
          go_enter Tryz.func147, Tryz.ntmps147
          go_wp2_with fail
          refine (Calls.mono H1.out) ?_
          rintro r w1 ⟨rfl, rfl⟩
          go_wp2_with fail
          refine (Calls.mono H2.out) ?_
          rintro r w1 ⟨rfl, rfl⟩
          go_wp2_with fail
          refine (Calls.mono L.out) ?_
          rintro r w1 ⟨rfl, rfl⟩
          go_wp2
          go_ret2
          exact ⟨⟨_, rfl, Nt.nil _ _⟩, Below.refl _ _⟩
        · obtain ⟨hRX, hl1⟩ := HR.out
          have D0 := down_any (ws X) ao _ cap B d (d / 32) (d % 32) w rfl (by omega) (by omega) (by omega) (by omega) (by omega) (wf_ws X) hRX hB
          rw [val_ws] at D0
          have D := hid D0
          have hgt : -(c : Int) < by' := by omega
          have hd' : -by' = (d : Int) := hd.symm
          clear e hLX HR hcc hlt h0 hRX hl1 D0 hbig2 hd
          go_enter Tryz.func147, Tryz.ntmps147
          go_wp2_with fail
          refine (Calls.mono H1.out) ?_
          rintro r w1 ⟨rfl, rfl⟩
          go_wp2_with fail
          refine (Calls.mono H2.out) ?_
          rintro r w1 ⟨rfl, rfl⟩
          go_wp2_with fail
          refine (Calls.mono L.out) ?_
          rintro r w1 ⟨rfl, rfl⟩
          go_wp2_with fail
          try rw [hd']
          refine (Calls.mono D.out) ?_
          rintro r w2 ⟨v, rfl, hN, hb⟩
          have HN := (Aside.intro (And.intro hN hb))
          clear hN hb D
          go_wp2
          go_ret2
          exact ⟨⟨_, rfl, HN.out.1⟩, HN.out.2⟩
      · obtain ⟨d, rfl⟩ : ∃ d : Nat, by' = (d : Int) := ⟨by'.toNat, by omega⟩
        by_cases hover : 262144 - (c : Int) < (d : Int)
        · have e : shiftS X (d : Int) = (0, 2) := by unfold shiftS; rw [if_neg hLX, if_neg h0, if_neg hneg, hcc, if_pos hover]
          rw [e]
          clear e hLX HR hcc hlt h0 hneg
          go_enter Tryz.func147, Tryz.ntmps147
          go_wp2_with fail
          refine (Calls.mono H1.out) ?_
          rintro r w1 ⟨rfl, rfl⟩
          go_wp2_with fail
          refine (Calls.mono H2.out) ?_
          rintro r w1 ⟨rfl, rfl⟩
          go_wp2_with fail
          refine (Calls.mono L.out) ?_
          rintro r w1 ⟨rfl, rfl⟩
          go_wp2
          go_ret2
          exact ⟨⟨_, rfl, Nt.nil _ _⟩, Below.refl _ _⟩
        · have e : shiftS X (d : Int) = (X * 2 ^ d, 0) := by unfold shiftS; rw [if_neg hLX, if_neg h0, if_neg hneg, hcc, if_neg hover, Int.toNat_natCast]
          rw [e]
          obtain ⟨hRX, hl1⟩ := HR.out
          have D0 := up_any (ws X) ao _ cap B d (d / 32) (d % 32) w rfl (by omega) (by omega) (by omega) (by unfold LG at hLX; omega) (wf_ws X) hRX hB
          rw [val_ws] at D0
          have D := hid D0
          have hle : (d : Int) ≤ 262144 - (c : Int) := by omega
          have hleb : decide (262144 - (c : Int) < (d : Int)) = false := decide_eq_false (by omega)
          clear e hLX HR hcc hlt h0 hRX hl1 D0 hover hneg
          go_enter Tryz.func147, Tryz.ntmps147
          go_wp2_with fail
          refine (Calls.mono H1.out) ?_
          rintro r w1 ⟨rfl, rfl⟩
          go_wp2_with fail
          refine (Calls.mono H2.out) ?_
          rintro r w1 ⟨rfl, rfl⟩
          go_wp2_with fail
          refine (Calls.mono L.out) ?_
          rintro r w1 ⟨rfl, rfl⟩
          go_wp2_with fail
          refine (Calls.mono D.out) ?_
          rintro r w2 ⟨v, rfl, hN, hb⟩
          have HN := (Aside.intro (And.intro hN hb))
          clear hN hb D
          go_wp2
          go_ret2
          exact ⟨⟨_, rfl, HN.out.1⟩, HN.out.2⟩
end Go.Proofs.YtmpakpdikkfofaaGreatDoor

/- grow: a Nat times a word and more, in its own memory as far as it goes. -/
namespace Go.Proofs.YtmpakpdikkfofaaGreatDoor
open Go.RowKit
set_option linter.unusedVariables false
set_option maxRecDepth 20000

/-- The first k cells of a row of one's own are these words. -/
def Pre (lo : Nat) (w : World) (g k cap : Nat) (M : List Nat) : Prop := w.ownsRow lo 62 1 (.slice (some ⟨g, 0, none⟩) k cap) k (M.map U)

theorem Pre.len {lo : Nat} {w : World} {g k cap : Nat} {M : List Nat} (h : Pre lo w g k cap M) : M.length = k := by have := h.1; simpa using this
theorem Pre.cell {lo : Nat} {w : World} {g k cap : Nat} {M : List Nat} (h : Pre lo w g k cap M) (i : Nat) (hi : i < k) : w.cell? ⟨g, i, none⟩ = some (.int .u32 ((M.getD i 0 : Nat) : Int)) := by
  rw [World.ownsRow.cellAt h i (by omega)]
  have := h.len
  simp [U, show i < M.length by omega]
theorem Pre.frozen {lo : Nat} {w : World} {g k cap : Nat} {M : List Nat} (h : Pre lo w g k cap M) (i : Nat) : w.frozen? ⟨g, i, none⟩ = false := World.ownsRow.frozenAt h i
theorem Pre.set {lo : Nat} {w : World} {g k cap : Nat} {M : List Nat} (h : Pre lo w g k cap M) (i x : Nat) : Pre lo (w.setCell ⟨g, i, none⟩ (.int .u32 (x : Int))) g k cap (M.set i x) := by
  have := (World.ownsRow.stored h i (.int .u32 (x : Int))).1
  unfold Pre
  rw [List.map_set]
  exact this
theorem Pre.lo {lo : Nat} {w : World} {g k cap : Nat} {M : List Nat} (h : Pre lo w g k cap M) : lo ≤ g ∧ g < w.heap.size := World.ownsRow.lt h g (by simp [Value.ownBlock])

end Go.Proofs.YtmpakpdikkfofaaGreatDoor

/- Decimal digits. -/
namespace Go.Proofs.YtmpakpdikkfofaaGreatDoor
set_option linter.unusedVariables false
set_option maxRecDepth 20000

/-- Each is a digit. -/
def Dg (D : List Nat) : Prop := ∀ d ∈ D, d < 10

theorem Dg.reverse {D : List Nat} (h : Dg D) : Dg D.reverse := fun d hd => h d (by simpa using hd)
theorem Dg.cons {d : Nat} {D : List Nat} (h : d < 10) (k : Dg D) : Dg (d :: D) := by
  intro x hx; rcases List.mem_cons.1 hx with rfl | hx
  · exact h
  · exact k x hx
theorem Dg.nil : Dg [] := fun d hd => by cases hd
theorem Dg.tail {d : Nat} {D : List Nat} (h : Dg (d :: D)) : Dg D := fun x hx => h x (by simp [hx])
theorem Dg.head {d : Nat} {D : List Nat} (h : Dg (d :: D)) : d < 10 := h d (by simp)

/-- A number's digits, the lowest first; none of nought. -/
def ld (n : Nat) : List Nat := if h : n = 0 then [] else n % 10 :: ld (n / 10)
termination_by n
decreasing_by omega
/-- A number's digits, the highest first. -/
def hd (n : Nat) : List Nat := if n = 0 then [0] else (ld n).reverse
end Go.Proofs.YtmpakpdikkfofaaGreatDoor

/- What is handed from call to call: Nats, wherever they lie. -/
namespace Go.Proofs.YtmpakpdikkfofaaGreatDoor
open Go.RowKit
set_option linter.unusedVariables false
set_option maxRecDepth 20000

/-- A Nat that is handed on: its words, where they lie. -/
structure Arg (w : World) (a : Option Addr) (n c : Nat) (xs : List Nat) : Prop where
  len : n = xs.length
  cap : n ≤ c
  big : n ≤ 35184372088832
  wf : Wf xs
  rd : Rd w.heap.size w a xs
  nil : a = none → c = 0

theorem Arg.below {w w' : World} {a : Option Addr} {n c : Nat} {xs : List Nat} (h : Arg w a n c xs) (hb : Below w.heap.size w w') : Arg w' a n c xs :=
  ⟨h.len, h.cap, h.big, h.wf, (h.rd.below hb).mono hb.size, h.nil⟩

theorem Nt.arg {lo : Nat} {w : World} {v : Value} {X : Nat} (h : Nt lo w v X) (hs : (ws X).length ≤ 35184372088832) : ∃ a c, v = .slice a (ws X).length c ∧ Arg w a (ws X).length c (ws X) := by
  have h' := h
  obtain ⟨a, c, rfl, h1, h2, h3⟩ := h.shape
  refine ⟨a, c, rfl, rfl, h1, hs, wf_ws X, h3, fun e => ?_⟩
  rcases h'.2 with ⟨e1, _⟩ | ⟨g, cap, cur, e1, _⟩
  · simp only [Value.slice.injEq] at e1; exact e1.2.2
  · simp only [Value.slice.injEq] at e1; rw [e1.1] at e; cases e

/-- One answer: a Nat and OK. -/
theorem one_ok {lo : Nat} {w : World} {r : Ending} {a : Nat × Int} {V : Nat} (h : One lo w r a) (e : a = (V, 0)) : ∃ v, r = .returned (.tuple #[v, .int .i64 0]) ∧ Nt lo w v V := by
  subst e; exact h

theorem Mul_arg {w : World} {a b : Option Addr} {n c m d : Nat} {xs ys : List Nat} {V : Nat} (h1 : Arg w a n c xs) (h2 : Arg w b m d ys) (e : mulS (val xs) (val ys) = (V, 0)) :
    Calls Tryz.prog 135 #[.slice a n c, .slice b m d] w fun r w' => ∃ v, r = .returned (.tuple #[v, .int .i64 0]) ∧ Nt w.heap.size w' v V ∧ Below w.heap.size w w' :=
  (Mul_any xs ys a b n c m d w.heap.size w h1.len h2.len h1.cap h2.cap (by have := h1.big; omega) (by have := h2.big; omega) h1.wf h2.wf h1.rd h2.rd (Nat.le_refl _)).mono
    fun r w' ⟨ho, hb⟩ => by obtain ⟨v, h3, h4⟩ := one_ok ho e; exact ⟨v, h3, h4, hb⟩
theorem Add_arg {w : World} {a b : Option Addr} {n c m d : Nat} {xs ys : List Nat} {V : Nat} (h1 : Arg w a n c xs) (h2 : Arg w b m d ys) (e : addS (val xs) (val ys) = (V, 0)) :
    Calls Tryz.prog 180 #[.slice a n c, .slice b m d] w fun r w' => ∃ v, r = .returned (.tuple #[v, .int .i64 0]) ∧ Nt w.heap.size w' v V ∧ Below w.heap.size w w' :=
  (Add_any xs ys a b n c m d w.heap.size w h1.len h2.len h1.cap h2.cap (by have := h1.big; omega) (by have := h2.big; omega) h1.wf h2.wf h1.rd h2.rd (Nat.le_refl _)).mono
    fun r w' ⟨ho, hb⟩ => by obtain ⟨v, h3, h4⟩ := one_ok ho e; exact ⟨v, h3, h4, hb⟩
theorem Sub_arg {w : World} {a b : Option Addr} {n c m d : Nat} {xs ys : List Nat} {V : Nat} (h1 : Arg w a n c xs) (h2 : Arg w b m d ys) (e : subS (val xs) (val ys) = (V, 0)) :
    Calls Tryz.prog 182 #[.slice a n c, .slice b m d] w fun r w' => ∃ v, r = .returned (.tuple #[v, .int .i64 0]) ∧ Nt w.heap.size w' v V ∧ Below w.heap.size w w' :=
  (Sub_any xs ys a b n c m d w.heap.size w h1.len h2.len h1.cap h2.cap (by have := h1.big; omega) (by have := h2.big; omega) h1.wf h2.wf h1.rd h2.rd (Nat.le_refl _)).mono
    fun r w' ⟨ho, hb⟩ => by obtain ⟨v, h3, h4⟩ := one_ok ho e; exact ⟨v, h3, h4, hb⟩
theorem Shift_arg {w : World} {a : Option Addr} {n c : Nat} {xs : List Nat} {V : Nat} (by' : Int) (h1 : Arg w a n c xs) (e : shiftS (val xs) by' = (V, 0)) (hb0 : -9223372036854775808 ≤ by') (hb1 : by' ≤ 9223372036854775807) :
    Calls Tryz.prog 147 #[.slice a n c, .int .i64 by'] w fun r w' => ∃ v, r = .returned (.tuple #[v, .int .i64 0]) ∧ Nt w.heap.size w' v V ∧ Below w.heap.size w w' :=
  (Shift_any xs a n c w.heap.size by' w h1.len h1.cap (by have := h1.big; omega) h1.wf h1.rd (Nat.le_refl _) hb0 hb1).mono
    fun r w' ⟨ho, hb⟩ => by obtain ⟨v, h3, h4⟩ := one_ok ho e; exact ⟨v, h3, h4, hb⟩
theorem Cmp_arg {w : World} {a b : Option Addr} {n c m d : Nat} {xs ys : List Nat} (h1 : Arg w a n c xs) (h2 : Arg w b m d ys) (z : Int) (e : cmpI (val xs) (val ys) = z) :
    Calls Tryz.prog 181 #[.slice a n c, .slice b m d] w fun r w' => r = .returned (.int .i64 z) ∧ Below w.heap.size w w' := by
  have := cmp_any xs ys a b n c m d w.heap.size w h1.len h2.len h1.cap h2.cap (by have := h1.big; omega) (by have := h2.big; omega) h1.wf h2.wf h1.rd h2.rd
  rw [e] at this
  exact this
theorem addS_ok {X Y V : Nat} (h3 : ¬ LG V) (e : X + Y = V) : addS X Y = (V, 0) := by subst e; unfold addS; rw [if_neg h3]
theorem subS_ok {X Y V : Nat} (h1 : ¬ LG X) (h2 : ¬ LG Y) (e : V + Y = X) : subS X Y = (V, 0) := by unfold subS; rw [if_neg (by simp [h1, h2]), if_neg (by omega)]; congr 1; omega
end Go.Proofs.YtmpakpdikkfofaaGreatDoor

