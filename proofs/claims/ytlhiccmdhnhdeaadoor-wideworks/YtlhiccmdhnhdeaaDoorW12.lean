/- down: a number by a power of two, rounded down, in new memory. -/
import Derived.Test.YtlhiccmdhnhdeaaDoorW7
import Derived.Test.YtlhiccmdhnhdeaaDoorM6
namespace Go.Proofs.YtlhiccmdhnhdeaaDoor
open Go.RowKit
set_option linter.unusedVariables false
set_option maxRecDepth 20000

theorem or64_join2 (l x : Nat) (hl : l < 4294967296) (hx : x < 4294967296) : bits BinOp.or IntKind.u64 (x : Int) ((l : Int) * 4294967296) = ((x + l * 4294967296 : Nat) : Int) := by
  have e : ((l : Int) * 4294967296) = ((l * 4294967296 : Nat) : Int) := by simp only [Int.natCast_mul]; rfl
  rw [e, bits_or_u64_nat _ _ (by omega) (by omega)]
  have := Nat.two_pow_add_eq_or_of_lt (i := 32) (b := x) (by omega) l
  have e2 : 2 ^ 32 * l = l * 4294967296 := by rw [Nat.mul_comm]
  rw [e2] at this
  rw [Nat.or_comm, ← this, Nat.add_comm]

/-- Word i of a number by a power of two. -/
theorem down_word (L : List Nat) (i rest : Nat) (hL : Wf L) (hr : rest < 32) (hi : i < L.length) :
    (val L / 2 ^ rest / pw i) % 4294967296 = ((L.getD i 0 + L.getD (i + 1) 0 * 4294967296) / 2 ^ rest) % 4294967296 := by
  have h1 : val L / 2 ^ rest / pw i = val (L.drop i) / 2 ^ rest := by
    rw [Nat.div_div_eq_div_mul, Nat.mul_comm, ← Nat.div_div_eq_div_mul, val_take_drop L i (by omega)]
    have := val_lt (L.take i) (hL.take i)
    rw [List.length_take, Nat.min_eq_left (by omega)] at this
    rw [Nat.add_mul_div_left _ _ (pw_pos i), Nat.div_eq_of_lt this, Nat.zero_add]
  rw [h1, val_drop_succ L i hi]
  obtain ⟨R, hR⟩ : ∃ R, val (L.drop (i + 1)) = L.getD (i + 1) 0 + 4294967296 * R := by
    by_cases h : i + 1 < L.length
    · exact ⟨_, val_drop_succ L (i + 1) h⟩
    · refine ⟨0, ?_⟩
      rw [List.drop_of_length_le (by omega), List.getD_eq_getElem?_getD, List.getElem?_eq_none (by omega)]
      rfl
  rw [hR]
  have e : L.getD i 0 + 4294967296 * (L.getD (i + 1) 0 + 4294967296 * R) = (L.getD i 0 + L.getD (i + 1) 0 * 4294967296) + 2 ^ rest * (4294967296 * (2 ^ (32 - rest) * R)) := by
    have := two_pow_rest rest hr
    have : 2 ^ rest * (4294967296 * (2 ^ (32 - rest) * R)) = 4294967296 * (4294967296 * R) := by rw [← this]; grind
    rw [this]; omega
  rw [e, Nat.add_mul_div_left _ _ (Nat.two_pow_pos _), Nat.add_mul_mod_self_left]

theorem low_step (V p : Nat) (hp : 0 < p) : V % p + p * (V / p % 4294967296) = V % (4294967296 * p) := by
  rw [Nat.mul_comm 4294967296, Nat.mod_mul]

set_option maxHeartbeats 2000000 in
theorem down_any (xs : List Nat) (ao : Option Addr) (n cap B by' words rest : Nat) (w : World) (hn : n = xs.length) (hc : n ≤ cap) (hby : by' = 32 * words + rest) (hrest : rest < 32) (hbig : n ≤ 70368744177663) (hby2 : by' ≤ 9223372036854775807)
    (hx : Wf xs) (hR : Rd B w ao xs) (hB : B ≤ w.heap.size) :
    Calls Tryd.prog 100 #[.slice ao n cap, .int .i64 (by' : Nat)] w fun r w' => ∃ v, r = .returned v ∧ Nt w.heap.size w' v (val xs / 2 ^ by') ∧ Below w.heap.size w w' := by
  have e1 : (by' : Int) / 32 = (words : Int) := by omega
  have e2 : (by' : Int) % 32 = (rest : Int) := by omega
  by_cases hw : n ≤ words
  · have hv : val xs / 2 ^ by' = 0 := by
      have h1 := val_lt xs hx
      rw [← hn] at h1
      have h2 : pw n ≤ 2 ^ by' := by
        rw [hby, pw_two]
        have := pw_mono hw
        have := Nat.mul_le_mul this (Nat.two_pow_pos rest)
        omega
      exact Nat.div_eq_of_lt (by omega)
    rw [hv]
    clear hv hn hx hR hby
    go_enter Tryd.func100, Tryd.ntmps100
    go_wp2
    go_ret
    exact ⟨_, rfl, Nt.nil _ _, Below.refl _ _⟩
  · have hwn : words < n := by omega
    obtain ⟨b, boff, hbB, rfl, hbc⟩ := hR (by intro e; subst e; simp at hn; omega)
    obtain ⟨k0, hk0⟩ : ∃ k0, k0 = n - words := ⟨_, rfl⟩
    obtain ⟨W1, hW1⟩ : ∃ W, W = w.alloc (.cells (madeCells #[.int .u32 0] (n - words)) 57) := ⟨_, rfl⟩
    have hO1 : Own W1 w.heap.size (List.replicate (n - words) 0) := by rw [hW1]; exact Own.made w _
    have hB1 : Below w.heap.size w W1 := by rw [hW1]; exact (Below.refl _ _).alloc (Nat.le_refl _) _
    have hmk := make_words ((n : Int) - words) (n - words) (by omega) (by omega) w
    rw [← hW1] at hmk
    obtain ⟨W2, hcp, hO2, hb2⟩ := copy_words W1 w.heap.size (n - words) (n - words) (some ⟨b, boff + words, none⟩) (n - words) (cap - words) B 3 (List.replicate (n - words) 0) (xs.drop words) hO1 (by simp) (by simp; omega) ((hR.below (hB1.mono hB)).drop words) (by omega)
    have ed : (List.replicate (n - words) 0).drop (n - words) = ([] : List Nat) := by simp
    rw [ed, List.append_nil] at hO2
    clear ed
    have hB2 : Below w.heap.size w W2 := But.below hB1 hb2 hB1.size (Nat.le_refl _)
    obtain ⟨g, hg⟩ : ∃ g, g = w.heap.size := ⟨_, rfl⟩
    rw [← hg] at hO2 hmk hB2 hB hcp
    obtain ⟨L, hL⟩ : ∃ L, L = xs.drop words := ⟨_, rfl⟩
    have hLl : L.length = n - words := by rw [hL]; simp; omega
    have hLw : Wf L := by rw [hL]; exact hx.drop words
    rw [← hL] at hO2
    have HR := (Aside.intro (And.intro hLw (And.intro hLl (And.intro hn (And.intro hB2 (And.intro hg (And.intro hby hL)))))))
    have hxw := hid hx
    have HO := hid hO2
    clear hn hx hR hO1 hB1 hW1 hg hby hO2 hB2 hL hLl hLw hb2 hbc hk0
    go_enter Tryd.func100, Tryd.ntmps100
    go_wp2
    go_loopg [30] (n - words) (fun gk i wr => ∃ (k : Nat) (M : List Nat), gk + k = n - words ∧ i = .int .i64 (k : Nat) ∧
        Hid (Own wr g M) ∧ Aside (Wf M ∧ M.length = n - words ∧ (∀ j, k ≤ j → M.getD j 0 = L.getD j 0) ∧ sg M 0 k = val L / 2 ^ rest % pw k ∧ But g W2 wr))
    case atStart => exact ⟨0, _, by omega, rfl, HO, HR.out.1, HR.out.2.1, fun _ _ => rfl, by rw [sg_zero, pw_zero, Nat.mod_one], But.refl _ _⟩
    case round =>
      obtain ⟨k, M, hgk, rfl, HM, HA⟩ := hrel
      by_cases hk : k < n - words
      · obtain ⟨hLw, hLl, hn, hB2, hg, hby, hL⟩ := HR.out
        obtain ⟨hMw, hMl, hMr, hMs, hbut⟩ := HA.out
        have hgc := HM.out.cell k (by omega)
        have hgf := HM.out.frozen k
        obtain ⟨x, hxx⟩ : ∃ x : Nat, M.getD k 0 = x := ⟨_, rfl⟩
        have hxl : x < 4294967296 := hxx ▸ hMw.get _
        rw [hxx] at hgc
        by_cases hk1 : k + 1 < n - words
        · have hgc1 := HM.out.cell (k + 1) (by omega)
          obtain ⟨y, hyy⟩ : ∃ y : Nat, M.getD (k + 1) 0 = y := ⟨_, rfl⟩
          have hyl : y < 4294967296 := hyy ▸ hMw.get _
          rw [hyy] at hgc1
          obtain ⟨t, ht⟩ : ∃ t : Nat, t = x + y * 4294967296 := ⟨_, rfl⟩
          have e3 : bits BinOp.or IntKind.u64 (x : Int) ((y : Int) * 4294967296) = (t : Int) := by rw [or64_join2 y x hyl hxl, ht]
          obtain ⟨s, hs⟩ : ∃ s : Nat, s = t / 2 ^ rest % 4294967296 := ⟨_, rfl⟩
          have e4 : (t : Int) / 2 ^ rest % 4294967296 = (s : Int) := by rw [hs]; simp
          have hs2 : s = (L.getD k 0 + L.getD (k + 1) 0 * 4294967296) / 2 ^ rest % 4294967296 := by
            rw [hs, ht, ← hxx, ← hyy, hMr k (by omega), hMr (k + 1) (by omega)]
          have hsl : s < 4294967296 := by omega
          have HX := (Aside.intro (And.intro hs2 hsl))
          clear hxx hyy hLw hLl hn hB2 hg hby hL hMw hMl hMr hMs hbut hs hs2 hsl ht
          go_wp2
          go_roundg (gk - 1)
          case measure => omega
          case rel =>
            obtain ⟨hLw, hLl, hn, hB2, hg, hby, hL⟩ := HR.out
            obtain ⟨hMw, hMl, hMr, hMs, hbut⟩ := HA.out
            obtain ⟨hs, hsl⟩ := HX.out
            refine ⟨k + 1, M.set k s, by omega, by go_num, HM.out.set _ _, hMw.set _ _ hsl, by simp [hMl], fun j hj => ?_, ?_, hbut.set _ _⟩
            · rw [getD_set_ne _ _ _ _ (by omega)]; exact hMr j (by omega)
            · have e1 := sg_set_last M 0 k s (by omega)
              rw [Nat.zero_add] at e1
              rw [e1, hMs, hs, ← down_word L k rest hLw hrest (by omega), pw_succ]
              exact low_step _ _ (pw_pos k)
        · obtain ⟨s, hs⟩ : ∃ s : Nat, s = x / 2 ^ rest := ⟨_, rfl⟩
          have e4 : (x : Int) / 2 ^ rest = (s : Int) := by rw [hs]; simp
          have hsx : s ≤ x := by rw [hs]; exact Nat.div_le_self _ _
          have hs2 : s = (L.getD k 0 + L.getD (k + 1) 0 * 4294967296) / 2 ^ rest % 4294967296 := by
            have : L.getD (k + 1) 0 = 0 := by rw [List.getD_eq_getElem?_getD, List.getElem?_eq_none (by omega)]; rfl
            rw [this, Nat.zero_mul, Nat.add_zero, ← hMr k (by omega), hxx, ← hs]
            omega
          have hsl : s < 4294967296 := by omega
          have HX := (Aside.intro (And.intro hs2 hsl))
          have e5 : (s : Int) % 4294967296 = (s : Int) := by omega
          clear hxx hLw hLl hn hB2 hg hby hL hMw hMl hMr hMs hbut hs hs2
          go_wp2
          go_roundg (gk - 1)
          case measure => omega
          case rel =>
            obtain ⟨hLw, hLl, hn, hB2, hg, hby, hL⟩ := HR.out
            obtain ⟨hMw, hMl, hMr, hMs, hbut⟩ := HA.out
            obtain ⟨hs, hsl⟩ := HX.out
            refine ⟨k + 1, M.set k s, by omega, by go_num, HM.out.set _ _, hMw.set _ _ hsl, by simp [hMl], fun j hj => ?_, ?_, hbut.set _ _⟩
            · rw [getD_set_ne _ _ _ _ (by omega)]; exact hMr j (by omega)
            · have e1 := sg_set_last M 0 k s (by omega)
              rw [Nat.zero_add] at e1
              rw [e1, hMs, hs, ← down_word L k rest hLw hrest (by omega), pw_succ]
              exact low_step _ _ (pw_pos k)
      · obtain rfl : k = n - words := by omega
        obtain ⟨hMw, hMl, hMr, hMs, hbut⟩ := HA.out
        have T := hid (trim_any M (some ⟨g, 0, none⟩) (n - words) (n - words) (g + 1) wr hMl.symm (Nat.le_refl _) (by omega) (by simpa [hMl, List.take_of_length_le] using Rd.ofOwn HM.out 0 (n - words)))
        clear hMw hMl hMr hMs hbut
        go_wp2_with fail
        refine (Calls.mono T.out) ?_
        rintro r w1 ⟨rfl, rfl⟩
        go_wp2
        go_ret
        obtain ⟨hLw, hLl, hn, hB2, hg, hby, hL⟩ := HR.out
        obtain ⟨hMw, hMl, hMr, hMs, hbut⟩ := HA.out
        have e4 : val M = val xs / 2 ^ by' := by
          have h1 : val L < pw (n - words) := by rw [← hLl]; exact val_lt L hLw
          have h2 : val L / 2 ^ rest < pw (n - words) := Nat.lt_of_le_of_lt (Nat.div_le_self _ _) h1
          rw [Nat.mod_eq_of_lt h2] at hMs
          rw [← sg_all M, hMl, hMs, hby, pw_two, ← Nat.div_div_eq_div_mul]
          congr 1
          have h3 := val_take_drop xs words (by omega)
          have h4 : val (xs.take words) < pw words := by
            have : (xs.take words).length = words := by rw [List.length_take]; omega
            have h5 : Wf xs := hxw.out
            have := val_lt _ (h5.take words)
            rwa [‹(xs.take words).length = words›] at this
          rw [h3, Nat.add_mul_div_left _ _ (pw_pos words), Nat.div_eq_of_lt h4, Nat.zero_add, hL]
        refine ⟨_, rfl, ?_, ?_⟩
        · have N := Nt.ofOwn (lo := g) HM.out (Nat.le_refl _) hMw (by rw [hMl]; unfold maxLen; omega)
          rw [← e4, ← hg]
          rw [hMl] at N
          exact N
        · rw [← hg]
          exact But.below hB2 hbut (by have := hB2.size; omega) (Nat.le_refl _)
end Go.Proofs.YtlhiccmdhnhdeaaDoor
