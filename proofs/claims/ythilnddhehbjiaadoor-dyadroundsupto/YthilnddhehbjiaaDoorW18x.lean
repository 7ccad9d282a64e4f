import Derived.Test.YthilnddhehbjiaaDoorM3x
import Derived.Deep.RegionWith
/- guess: a quotient's word, or one more. -/
namespace Go.Proofs.YthilnddhehbjiaaDoor
open Go.RowKit
set_option linter.unusedVariables false
set_option maxRecDepth 20000

set_option maxHeartbeats 4000000 in
set_option maxRecDepth 20000 in
theorem guess_any (L bs : List Nat) (g off cap : Nat) (ao : Option Addr) (n capb B : Nat) (w : World) (k : Nat) (hnk : n = k + 2)
    (hO : Own w g L) (hoff : off + (k + 3) ≤ L.length) (hm : k + 2 = bs.length) (hcap : n + 1 ≤ cap) (hbig : n ≤ 4611686018427387904) (hL : Wf L) (hb : Wf bs) (hR : Rd B w ao bs)
    (htop : 2147483648 ≤ bs.getD (k + 1) 0) (hlt : sg L off (k + 3) < val bs * 4294967296) :
    Calls Tryd.prog 146 #[.slice (some ⟨g, off, none⟩) (n + 1) cap, .slice ao n capb] w fun r w' =>
      ∃ o : Nat, r = .returned (.int .u32 (o : Nat)) ∧ o < 4294967296 ∧ sg L off (k + 3) < (o + 1) * val bs ∧ o * val bs ≤ sg L off (k + 3) + val bs ∧ Below w.heap.size w w' := by
  obtain ⟨b, boff, hbB, rfl, hbc⟩ := hR (by intro e; subst e; simp at hm)
  have c1 := hbc (k + 1) (by omega)
  have c2 := hbc k (by omega)
  have d0 := hO.cell (off + (k + 2)) (by omega)
  have d1 := hO.cell (off + (k + 1)) (by omega)
  have d2 := hO.cell (off + k) (by omega)
  have en1 : k + 1 = n - 1 := by omega
  have en2 : boff + k = boff + (n - 2) := by omega
  have en3 : off + k = off + (n - 2) := by omega
  have en4 : off + (k + 2) = off + n := by omega
  have en5 : off + (k + 1) = off + (n - 1) := by omega
  have en6 : boff + (k + 1) = boff + (n - 1) := by omega
  have hn2 : 2 ≤ n := by omega
  have b1 := hb.get (k + 1)
  have b2 := hb.get k
  have l0 := hL.get (off + (k + 2))
  have l1 := hL.get (off + (k + 1))
  have l2 := hL.get (off + k)
  obtain ⟨eU, hu⟩ := top_three L off k hL hoff
  obtain ⟨eV, hv⟩ := top_two bs 0 k hb (by omega)
  rw [Nat.zero_add, Nat.zero_add, show k + 2 = bs.length from hm, sg_all] at eV
  have HN := (Aside.intro hnk)
  clear en1
  generalize bs.getD (k + 1) 0 = t1 at *
  generalize bs.getD k 0 = t2 at *
  generalize L.getD (off + (k + 2)) 0 = u0 at *
  generalize L.getD (off + (k + 1)) 0 = u1 at *
  generalize L.getD (off + k) 0 = u2 at *
  generalize sg L off (k + 3) = U at *
  generalize val bs = V at *
  generalize sg L off k = u at *
  generalize sg bs 0 k = v at *
  rw [en6] at c1
  rw [en2] at c2
  rw [en4] at d0
  rw [en5] at d1
  rw [en3] at d2
  have hu0 : u0 ≤ t1 := guess_top 4294967296 (pw k) t1 t2 u0 u1 u2 u v U V eU eV hv b2 hlt
  have hlt1 : 0 < t1 := by omega
  obtain ⟨T, hT⟩ : ∃ T, T = u0 * 4294967296 + u1 := ⟨_, rfl⟩
  have eT : bits BinOp.or IntKind.u64 ((u0 : Int) * 4294967296) (u1 : Int) = (T : Int) := by rw [or64_join u0 u1 l0 l1, hT]
  obtain ⟨o0, ho0⟩ : ∃ o, o = T / t1 := ⟨_, rfl⟩
  obtain ⟨r0, hr0⟩ : ∃ r, r = T % t1 := ⟨_, rfl⟩
  have eo : (T : Int) / (t1 : Int) = (o0 : Int) := by rw [ho0]; simp
  have er : (T : Int) % (t1 : Int) = (r0 : Int) := by rw [hr0]; simp
  have hTl : (T : Int) < 18446744073709551616 := by omega
  have hr0l : r0 < t1 := by rw [hr0]; exact Nat.mod_lt _ hlt1
  have hsum0 : o0 * t1 + r0 = T := by rw [ho0, hr0, Nat.mul_comm]; exact Nat.div_add_mod T t1
  have hmax0 : T * 4294967296 + u2 < (o0 + 1) * (t1 * 4294967296 + t2) := by rw [ho0]; exact guess_first 4294967296 t1 t2 u2 T hlt1 l2
  have ho0l : (o0 : Int) < 18446744073709551616 := by have : o0 ≤ T := by rw [ho0]; exact Nat.div_le_self _ _
                                                      omega
  have HH := (Aside.intro (And.intro hu0 (And.intro hT (And.intro eU (And.intro hu (And.intro eV (And.intro hv (And.intro hsum0 (And.intro hmax0 (And.intro hlt htop))))))))))
  clear en2 en3 en4 en5 en6 hnk
  clear hT ho0 hr0 eU hu eV hv hsum0 hmax0 hlt hR hbc hm hb hL hO hoff htop
  go_enter Tryd.func146, Tryd.ntmps146
  go_wp2
  go_big_region
  go_wp2
  go_big_region
  go_wp2
  have hbw := World.block_lt_of_cell? w _ c2
  have hgw := World.block_lt_of_cell? w _ d2
  go_loopg [8, 9] o0 (fun gk o l wr => ∃ lv : Nat, o = .int .u64 (gk : Nat) ∧ l = .int .u64 (lv : Nat) ∧ lv < 4294967296 ∧ Hid (Below w.heap.size w wr) ∧
      Aside (gk * t1 + lv = T ∧ (4294967296 ≤ gk + 1 ∨ T * 4294967296 + u2 < (gk + 1) * (t1 * 4294967296 + t2))))
  case atStart => exact ⟨r0, by first | rfl | rw [eo], by first | rfl | rw [er], by omega, by first | exact (Below.refl _ _).drew.drew | exact (Below.refl _ _).drew | exact Below.refl _ _, HH.out.2.2.2.2.2.2.1, .inr HH.out.2.2.2.2.2.2.2.1⟩
  case round =>
    obtain ⟨lv, rfl, rfl, hlv, HB, HA⟩ := hrel
    have c2' : wr.cell? ⟨b, boff + (n - 2), none⟩ = some (.int .u32 (t2 : Int)) := (HB.out.cell (p := ⟨b, boff + (n - 2), none⟩) hbw).trans c2
    have d2' : wr.cell? ⟨g, off + (n - 2), none⟩ = some (.int .u32 (u2 : Int)) := (HB.out.cell (p := ⟨g, off + (n - 2), none⟩) hgw).trans d2
    clear c2 d2 c1 d0 d1 hTl eo er
    obtain ⟨hu0, hT, eU, hu, eV, hv, hsum0, hmax0, hlt, htop⟩ := HH.out
    obtain ⟨hsum, hmax⟩ := HA.out
    have hTb : T < t1 * 4294967296 + 4294967296 := by omega
    have hgb : gk ≤ 4294967297 := by
      by_cases h : gk ≤ 4294967297
      · exact h
      · exfalso
        have : 4294967298 * t1 ≤ gk * t1 := Nat.mul_le_mul_right _ (by omega)
        omega
    have HE : Aside (∀ o l, o * t1 + l = T → o * t2 ≤ l * 4294967296 + u2 → o < 4294967296 → (4294967296 ≤ o + 1 ∨ T * 4294967296 + u2 < (o + 1) * (t1 * 4294967296 + t2)) → U < (o + 1) * V ∧ o * V ≤ U + V) := by
      intro o l h1 h2 h3 h4
      rw [← hT] at eU
      exact guess_good 4294967296 o _ _ (pw k) u v U V (pw_pos k) eU hu eV hv (guess_end 4294967296 o t1 t2 l u2 T h1 h2) h4 hlt h3 (by omega)
    have HT := (Aside.intro hTb)
    clear hu0 hT eU hu eV hv hsum0 hmax0 hlt htop hsum hmax hTb
    have hgbi : (gk : Int) ≤ 4294967297 := by omega
    by_cases hbig2 : 4294967295 < gk
    · have hg1 : (4294967295 : Int) < (gk : Int) := by omega
      by_cases hl2 : lv + t1 ≤ 4294967295
      · have hl3 : (lv : Int) + (t1 : Int) ≤ 4294967295 := by omega
        have hl4 : decide ((4294967295 : Int) < (lv : Int) + (t1 : Int)) = false := decide_eq_false (by omega)
        have HG := (Aside.intro (And.intro hbig2 (And.intro hl2 (And.intro hgb hlv))))
        clear hbig2 hl2 hgb
        go_wp2
        go_big_region
        all_goals (
          go_wp2
          go_roundg (gk - 1)
          case measure => have := HG.out.1; omega
          case rel =>
            obtain ⟨hsum, hmax⟩ := HA.out
            obtain ⟨hbig2, hl2, hgb, hlv⟩ := HG.out
            refine ⟨lv + t1, by first | go_num | (congr 1; omega), by first | rfl | go_num, by omega, HB.out.drew, ?_, .inl (by omega)⟩
            obtain ⟨o, rfl⟩ : ∃ o, gk = o + 1 := ⟨gk - 1, by omega⟩
            rw [Nat.add_sub_cancel]
            rw [Nat.add_mul] at hsum
            omega)
      · have hl3 : (4294967295 : Int) < (lv : Int) + (t1 : Int) := by omega
        go_wp2
        go_big_region
        all_goals (
          go_wp2
          go_ret
          obtain ⟨hsum, hmax⟩ := HA.out
          obtain ⟨o, rfl⟩ : ∃ o, gk = o + 1 := ⟨gk - 1, by omega⟩
          have hs2 : o * t1 + (lv + t1) = T := by rw [Nat.add_mul] at hsum; omega
          obtain ⟨hb1, hb2⟩ := guess_break 4294967296 o t1 t2 (lv + t1) u2 T hs2 (by omega) HT.out b2 hlt1
          obtain ⟨h1, h2⟩ := HE.out o (lv + t1) hs2 hb2 hb1 (.inl (by omega))
          refine ⟨o, ?_, hb1, h1, h2, HB.out.drew⟩
          exact congrArg (fun z => Ending.returned (Value.int IntKind.u32 z)) (by omega))
    · have hg1 : (gk : Int) ≤ 4294967295 := by omega
      have hg2 : decide ((4294967295 : Int) < (gk : Int)) = false := by simp; omega
      have hp0 : gk * t2 ≤ 4294967295 * 4294967295 := Nat.mul_le_mul (by omega) (by omega)
      have hp2 : (gk : Int) * (t2 : Int) ≤ 18446744065119617025 := by rw [← Int.natCast_mul]; omega
      have hp1 : 0 ≤ (gk : Int) * (t2 : Int) := by rw [← Int.natCast_mul]; omega
      obtain ⟨lu, hlu⟩ : ∃ lu, lu = lv * 4294967296 + u2 := ⟨_, rfl⟩
      have eL : bits BinOp.or IntKind.u64 ((lv : Int) * 4294967296) (u2 : Int) = (lu : Int) := by rw [or64_join lv u2 hlv l2, hlu]
      have HL := (Aside.intro hlu)
      by_cases hmore : lu < gk * t2
      · have hm1 : (lu : Int) < (gk : Int) * (t2 : Int) := by rw [← Int.natCast_mul]; omega
        have hgk0 : 0 < gk := by
          rcases Nat.eq_zero_or_pos gk with h | h
          · subst h; rw [Nat.zero_mul] at hmore; omega
          · exact h
        by_cases hl2 : lv + t1 ≤ 4294967295
        · have hl3 : (lv : Int) + (t1 : Int) ≤ 4294967295 := by omega
          have hl4 : decide ((4294967295 : Int) < (lv : Int) + (t1 : Int)) = false := decide_eq_false (by omega)
          have HG := (Aside.intro (And.intro hbig2 (And.intro hl2 (And.intro hgb (And.intro hlv hmore)))))
          clear hlu hp0 hbig2 hl2 hgb hmore
          go_wp2
          go_big_region
          all_goals (
            go_wp2
            go_roundg (gk - 1)
            case measure => omega
            case rel =>
              obtain ⟨hsum, hmax⟩ := HA.out
              obtain ⟨hbig2, hl2, hgb, hlv, hmore⟩ := HG.out
              have hno := guess_no 4294967296 gk t1 t2 lv u2 T hsum (by rw [← HL.out]; exact hmore)
              refine ⟨lv + t1, by first | go_num | (congr 1; omega), by first | rfl | go_num, by omega, HB.out.drew, ?_, .inr ?_⟩
              · obtain ⟨o, rfl⟩ : ∃ o, gk = o + 1 := ⟨gk - 1, by omega⟩
                rw [Nat.add_sub_cancel]
                rw [Nat.add_mul] at hsum
                omega
              · rw [show gk - 1 + 1 = gk by omega]; exact hno)
        · have hl3 : (4294967295 : Int) < (lv : Int) + (t1 : Int) := by omega
          clear hlu hp0
          go_wp2
          go_big_region
          all_goals (
            go_wp2
            go_ret
            obtain ⟨hsum, hmax⟩ := HA.out
            have hno := guess_no 4294967296 gk t1 t2 lv u2 T hsum (by rw [← HL.out]; exact hmore)
            obtain ⟨o, rfl⟩ : ∃ o, gk = o + 1 := ⟨gk - 1, by omega⟩
            have hs2 : o * t1 + (lv + t1) = T := by rw [Nat.add_mul] at hsum; omega
            obtain ⟨hb1, hb2⟩ := guess_break 4294967296 o t1 t2 (lv + t1) u2 T hs2 (by omega) HT.out b2 hlt1
            obtain ⟨h1, h2⟩ := HE.out o (lv + t1) hs2 hb2 hb1 (.inr hno)
            refine ⟨o, ?_, hb1, h1, h2, HB.out.drew⟩
            exact congrArg (fun z => Ending.returned (Value.int IntKind.u32 z)) (by omega))
      · have hm1 : (gk : Int) * (t2 : Int) ≤ (lu : Int) := by rw [← Int.natCast_mul]; omega
        have hm2 : decide ((lu : Int) < (gk : Int) * (t2 : Int)) = false := decide_eq_false (by omega)
        have HG := (Aside.intro (And.intro hbig2 (And.intro hgb (And.intro hlv hmore))))
        clear hlu hp0 hbig2 hgb hmore
        go_wp2
        go_big_region
        all_goals (
          go_wp2
          go_ret
          obtain ⟨hsum, hmax⟩ := HA.out
          obtain ⟨hbig2, hgb, hlv, hmore⟩ := HG.out
          obtain ⟨h1, h2⟩ := HE.out gk lv hsum (by rw [← HL.out]; omega) (by omega) hmax
          refine ⟨gk, ?_, by omega, h1, h2, HB.out.drew⟩
          first | rfl | exact congrArg (fun z => Ending.returned (Value.int IntKind.u32 z)) (by omega))
end Go.Proofs.YthilnddhehbjiaaDoor

/- addTo: a sum in place. -/
namespace Go.Proofs.YthilnddhehbjiaaDoor
open Go.RowKit
set_option linter.unusedVariables false
set_option maxRecDepth 20000

set_option maxHeartbeats 2000000 in
theorem addTo_any (L bs : List Nat) (g off n cap : Nat) (ao : Option Addr) (m capb B : Nat) (w : World)
    (hO : Own w g L) (hoff : off + n ≤ L.length) (hm : m = bs.length) (hmn : m ≤ n) (hcap : n ≤ cap) (hbig : n ≤ 4611686018427387904) (hL : Wf L) (hb : Wf bs) (hR : Rd B w ao bs) (hB : B ≤ g) :
    Calls Tryd.prog 131 #[.slice (some ⟨g, off, none⟩) n cap, .slice ao m capb] w fun r w' =>
      ∃ M c, r = .returned (.int .u32 (c : Nat)) ∧ c ≤ 1 ∧ Own w' g M ∧ Wf M ∧ Out L M off n ∧ sg M off n + c * pw n = sg L off n + val bs ∧ But g w w' := by
  have HR : Aside (Rd B w ao bs ∧ m = bs.length ∧ Wf bs ∧ Wf L ∧ off + n ≤ L.length) := ⟨hR, hm, hb, hL, hoff⟩
  have HO : Hid (Own w g L) := hO
  have HA32 : Hid (∀ x y c s d w, _ → _ → _ → _ → _ → _) := add32_nat
  clear hR hm hb hL hO hoff
  go_enter Tryd.func131, Tryd.ntmps131
  go_wp2
  go_loopg [5, 11] m (fun gk c i wr => ∃ (k cv : Nat) (M : List Nat), gk + k = m ∧ c = .int .u32 (cv : Nat) ∧ cv ≤ 1 ∧ i = .int .i64 (k : Nat) ∧
      Hid (Own wr g M) ∧ Aside (Wf M ∧ Out L M off k ∧ sg M off k + cv * pw k = sg L off k + sg bs 0 k ∧ But g w wr))
  case atStart => exact ⟨0, 0, L, by omega, rfl, by omega, rfl, HO, HR.out.2.2.2.1, Out.refl _ _ _, by simp [sg_zero], But.refl _ _⟩
  case round =>
    obtain ⟨k, cv, M, hgk, rfl, hcv, rfl, HM, HA⟩ := hrel
    by_cases hk : k < m
    · obtain ⟨hR, hm, hb, hL, hoff⟩ := HR.out
      obtain ⟨hMw, hMo, hMs, hbut⟩ := HA.out
      obtain ⟨b, boff, hbB, rfl, hbc⟩ := hR (by intro e; subst e; simp at hm; omega)
      have hbk : wr.cell? ⟨b, boff + k, none⟩ = some (.int .u32 ((bs.getD k 0 : Nat) : Int)) := by
        have h1 := hbut.block b (World.block_lt_of_cell? w ⟨b, boff + k, none⟩ (hbc k (by omega))) (by omega)
        exact (World.cell?_of_block (a := ⟨b, boff + k, none⟩) h1).trans (hbc k (by omega))
      have hgc := HM.out.cell (off + k) (by rw [hMo.1]; omega)
      have hgf := HM.out.frozen (off + k)
      obtain ⟨x, hx⟩ : ∃ x : Nat, M.getD (off + k) 0 = x := ⟨_, rfl⟩
      obtain ⟨y, hy⟩ : ∃ y : Nat, bs.getD k 0 = y := ⟨_, rfl⟩
      have hxl : x < 4294967296 := hx ▸ hMw.get _
      have hyl : y < 4294967296 := hy ▸ hb.get _
      rw [hx] at hgc
      rw [hy] at hbk
      obtain ⟨s, hs⟩ : ∃ s : Nat, s = (x + y + cv) % 4294967296 := ⟨_, rfl⟩
      obtain ⟨d, hd⟩ : ∃ d : Nat, d = (x + y + cv) / 4294967296 := ⟨_, rfl⟩
      have HX : Aside (M.getD (off + k) 0 = x ∧ bs.getD k 0 = y ∧ s = (x + y + cv) % 4294967296 ∧ d = (x + y + cv) / 4294967296) := ⟨hx, hy, hs, hd⟩
      clear hx hy hs hd hR hm hb hL hoff hMw hMo hMs hbut hbc
      go_wp2_with fail
      refine (HA32.out x y cv s d _ hxl hyl hcv HX.out.2.2.1 HX.out.2.2.2).mono ?_
      rintro r w1 ⟨rfl, rfl⟩
      go_wp2
      go_roundg (gk - 1)
      case measure => omega
      case rel =>
        obtain ⟨hx, hy, hs, hd⟩ := HX.out
        obtain ⟨hR, hm, hb, hL, hoff⟩ := HR.out
        obtain ⟨hMw, hMo, hMs, hbut⟩ := HA.out
        refine ⟨k + 1, d, M.set (off + k) s, by omega, rfl, by omega, by go_num, HM.out.set _ _, hMw.set _ _ (by omega), (hMo.mono (by omega)).set _ _ (by omega) (by omega), ?_, hbut.set _ _⟩
        rw [sg_set_last _ _ _ _ (by rw [hMo.1]; omega), sg_succ L off k (by omega), sg_succ bs 0 k (by omega), Nat.zero_add, hy, pw_succ]
        have e : L.getD (off + k) 0 = x := by rw [← hx]; exact (hMo.2 _ (by omega)).symm
        rw [e]
        exact carry_step _ _ _ _ _ _ _ _ _ hMs (by omega)
    · obtain rfl : k = m := by omega
      have HA2 : Aside (Wf M ∧ Out L M off k ∧ sg M off k + cv * pw k = sg L off k + val bs ∧ But g w wr) := by
        obtain ⟨hR, hm, hb, hL, hoff⟩ := HR.out
        obtain ⟨hMw, hMo, hMs, hbut⟩ := HA.out
        refine ⟨hMw, hMo, ?_, hbut⟩
        rw [hMs, hm, sg_all]
      clear HA hgk HO hk
      go_wp2
      go_loopg [5, 8] (n - k) (fun g2 c i w2 => ∃ (j cv : Nat) (M : List Nat), g2 + j = n ∧ k ≤ j ∧ c = .int .u32 (cv : Nat) ∧ cv ≤ 1 ∧ i = .int .i64 (j : Nat) ∧
        Hid (Own w2 g M) ∧ Aside (Wf M ∧ Out L M off j ∧ sg M off j + cv * pw j = sg L off j + val bs ∧ But g w w2))
      case atStart => exact ⟨k, cv, M, by omega, Nat.le_refl _, rfl, hcv, rfl, HM, HA2.out⟩
      case round =>
        clear HM HA2 hcv
        obtain ⟨j, cv, M, hgj, hkj, rfl, hcv, rfl, HM, HA⟩ := hrel
        by_cases hj : j < n
        · by_cases h0 : cv = 0
          · subst h0
            go_wp2
            go_ret
            obtain ⟨hR, hm, hb, hL, hoff⟩ := HR.out
            obtain ⟨hMw, hMo, hMs, hbut⟩ := HA.out
            refine ⟨M, 0, rfl, by omega, HM.out, hMw, hMo.mono (by omega), ?_, hbut⟩
            rw [Nat.zero_mul, Nat.add_zero] at hMs ⊢
            exact seg_rest (by omega) (by omega) hMo hMs
          · obtain rfl : cv = 1 := by omega
            obtain ⟨hR, hm, hb, hL, hoff⟩ := HR.out
            obtain ⟨hMw, hMo, hMs, hbut⟩ := HA.out
            have hgc := HM.out.cell (off + j) (by rw [hMo.1]; omega)
            have hgf := HM.out.frozen (off + j)
            obtain ⟨x, hx⟩ : ∃ x : Nat, M.getD (off + j) 0 = x := ⟨_, rfl⟩
            have hxl : x < 4294967296 := hx ▸ hMw.get _
            rw [hx] at hgc
            obtain ⟨s, hs⟩ : ∃ s : Nat, s = (x + 0 + 1) % 4294967296 := ⟨_, rfl⟩
            obtain ⟨d, hd⟩ : ∃ d : Nat, d = (x + 0 + 1) / 4294967296 := ⟨_, rfl⟩
            have HX : Aside (M.getD (off + j) 0 = x ∧ s = (x + 0 + 1) % 4294967296 ∧ d = (x + 0 + 1) / 4294967296) := ⟨hx, hs, hd⟩
            clear hx hs hd hR hm hb hL hoff hMw hMo hMs hbut h0
            go_wp2_with fail
            refine (HA32.out x 0 1 s d _ hxl (by omega) (by omega) HX.out.2.1 HX.out.2.2).mono ?_
            rintro r w1 ⟨rfl, rfl⟩
            go_wp2
            go_roundg (gk - 1)
            case measure => omega
            case rel =>
              obtain ⟨hx, hs, hd⟩ := HX.out
              obtain ⟨hR, hm, hb, hL, hoff⟩ := HR.out
              obtain ⟨hMw, hMo, hMs, hbut⟩ := HA.out
              refine ⟨j + 1, d, M.set (off + j) s, by omega, by omega, rfl, by omega, by go_num, HM.out.set _ _, hMw.set _ _ (by omega), (hMo.mono (by omega)).set _ _ (by omega) (by omega), ?_, hbut.set _ _⟩
              rw [sg_set_last _ _ _ _ (by rw [hMo.1]; omega), sg_succ L off j (by omega), pw_succ]
              have e : L.getD (off + j) 0 = x := by rw [← hx]; exact (hMo.2 _ (by omega)).symm
              rw [e]
              have := carry_step (pw j) _ _ _ _ x 0 s d hMs (by omega)
              omega
        · obtain rfl : j = n := by omega
          go_wp2
          go_ret
          obtain ⟨hMw, hMo, hMs, hbut⟩ := HA.out
          exact ⟨M, cv, rfl, hcv, HM.out, hMw, hMo, hMs, hbut⟩
end Go.Proofs.YthilnddhehbjiaaDoor

/- takeTimes: a product taken away in place. -/
namespace Go.Proofs.YthilnddhehbjiaaDoor
open Go.RowKit
set_option linter.unusedVariables false
set_option maxRecDepth 20000

set_option maxHeartbeats 2000000 in
theorem takeTimes_any (L bs : List Nat) (g off n cap : Nat) (ao : Option Addr) (m capb B q : Nat) (w : World)
    (hO : Own w g L) (hoff : off + n ≤ L.length) (hm : m = bs.length) (hmn : n = m + 1) (hcap : n ≤ cap) (hbig : n ≤ 4611686018427387904) (hL : Wf L) (hb : Wf bs) (hR : Rd B w ao bs) (hB : B ≤ g) (hq : q < 4294967296) :
    Calls Tryd.prog 147 #[.slice (some ⟨g, off, none⟩) n cap, .slice ao m capb, .int .u32 (q : Nat)] w fun r w' =>
      ∃ M, ∃ c : Nat, r = .returned (.bool (decide (0 < c))) ∧ c ≤ 1 ∧ Own w' g M ∧ Wf M ∧ Out L M off n ∧ sg M off n + val bs * q = sg L off n + c * pw n ∧ But g w w' := by
  have HR : Aside (Rd B w ao bs ∧ m = bs.length ∧ Wf bs ∧ Wf L ∧ off + n ≤ L.length ∧ n = m + 1) := ⟨hR, hm, hb, hL, hoff, hmn⟩
  have HO : Hid (Own w g L) := hO
  have HA32 : Hid (∀ x y c s d w, _ → _ → _ → _ → _ → _) := sub32_nat
  have hmn1 : m < n := by omega
  clear hR hm hb hL hO hoff hmn
  go_enter Tryd.func147, Tryd.ntmps147
  go_wp2
  go_loopg [7, 8, 14] m (fun gk c bo i wr => ∃ (k cv bv : Nat) (M : List Nat), gk + k = m ∧ c = .int .u64 (cv : Nat) ∧ cv < 4294967296 ∧ bo = .int .u32 (bv : Nat) ∧ bv ≤ 1 ∧ i = .int .i64 (k : Nat) ∧
      Hid (Own wr g M) ∧ Aside (Wf M ∧ Out L M off k ∧ sg M off k + sg bs 0 k * q = sg L off k + (cv + bv) * pw k ∧ But g w wr))
  case atStart => exact ⟨0, 0, 0, L, by omega, rfl, by omega, rfl, by omega, rfl, HO, HR.out.2.2.2.1, Out.refl _ _ _, by simp [sg_zero], But.refl _ _⟩
  case round =>
    obtain ⟨k, cv, bv, M, hgk, rfl, hcv, rfl, hbv, rfl, HM, HA⟩ := hrel
    by_cases hk : k < m
    · obtain ⟨hR, hm, hb, hL, hoff, hmn⟩ := HR.out
      obtain ⟨hMw, hMo, hMs, hbut⟩ := HA.out
      obtain ⟨b, boff, hbB, rfl, hbc⟩ := hR (by intro e; subst e; simp at hm; omega)
      have hbk : wr.cell? ⟨b, boff + k, none⟩ = some (.int .u32 ((bs.getD k 0 : Nat) : Int)) := by
        have h1 := hbut.block b (World.block_lt_of_cell? w ⟨b, boff + k, none⟩ (hbc k (by omega))) (by omega)
        exact (World.cell?_of_block (a := ⟨b, boff + k, none⟩) h1).trans (hbc k (by omega))
      have hgc := HM.out.cell (off + k) (by rw [hMo.1]; omega)
      have hgf := HM.out.frozen (off + k)
      obtain ⟨x, hx⟩ : ∃ x : Nat, M.getD (off + k) 0 = x := ⟨_, rfl⟩
      obtain ⟨y, hy⟩ : ∃ y : Nat, bs.getD k 0 = y := ⟨_, rfl⟩
      have hxl : x < 4294967296 := hx ▸ hMw.get _
      have hyl : y < 4294967296 := hy ▸ hb.get _
      rw [hx] at hgc
      rw [hy] at hbk
      have hp0 := mul_bound y q hyl hq
      have hp2 : (y : Int) * (q : Int) ≤ 18446744065119617025 := by rw [← Int.natCast_mul]; omega
      have hp1 : 0 ≤ (y : Int) * (q : Int) := by rw [← Int.natCast_mul]; omega
      obtain ⟨tl, htl⟩ : ∃ s : Nat, s = (y * q + cv) % 4294967296 := ⟨_, rfl⟩
      obtain ⟨d, hd⟩ : ∃ d : Nat, d = (y * q + cv) / 4294967296 := ⟨_, rfl⟩
      have e0 : ((y * q + cv : Nat) : Int) = (y : Int) * q + cv := by simp only [Int.natCast_add, Int.natCast_mul]
      have e1 : ((y : Int) * q + cv) % 4294967296 = (tl : Int) := by rw [← e0]; omega
      have e2 : ((y : Int) * q + cv) / 4294967296 = (d : Int) := by rw [← e0]; omega
      obtain ⟨s, hs⟩ : ∃ s : Nat, (s : Int) = ((x : Int) - tl - bv) % 4294967296 := ⟨(((x : Int) - tl - bv) % 4294967296).toNat, by omega⟩
      obtain ⟨bn, hbn⟩ : ∃ bn : Nat, bn = if x < tl + bv then 1 else 0 := ⟨_, rfl⟩
      have htl2 : tl < 4294967296 := by omega
      have HX : Aside (M.getD (off + k) 0 = x ∧ bs.getD k 0 = y ∧ tl + d * 4294967296 = y * q + cv ∧ d < 4294967296 ∧ (s : Int) = ((x : Int) - tl - bv) % 4294967296 ∧ bn = if x < tl + bv then 1 else 0) := ⟨hx, hy, by omega, by omega, hs, hbn⟩
      clear hx hy hs hd hR hm hb hL hoff hMw hMo hMs hbut hbc e0 hp0 hbn htl hmn
      go_wp2_with fail
      refine (HA32.out x tl bv s bn _ hxl htl2 hbv HX.out.2.2.2.2.1 HX.out.2.2.2.2.2).mono ?_
      rintro r w1 ⟨rfl, rfl⟩
      go_wp2
      go_roundg (gk - 1)
      case measure => omega
      case rel =>
        obtain ⟨hx, hy, he, hd, hs, hbn⟩ := HX.out
        obtain ⟨hR, hm, hb, hL, hoff, hmn⟩ := HR.out
        obtain ⟨hMw, hMo, hMs, hbut⟩ := HA.out
        have hbn1 : bn ≤ 1 := by rw [hbn]; split <;> omega
        have hsum : s + tl + bv = x + bn * 4294967296 := by rw [hbn]; split <;> omega
        refine ⟨k + 1, d, bn, M.set (off + k) s, by omega, rfl, hd, rfl, hbn1, by go_num, HM.out.set _ _, hMw.set _ _ (by omega), (hMo.mono (by omega)).set _ _ (by omega) (by omega), ?_, hbut.set _ _⟩
        rw [sg_set_last _ _ _ _ (by rw [hMo.1]; omega), sg_succ L off k (by omega), sg_succ bs 0 k (by omega), Nat.zero_add, hy, pw_succ]
        have e : L.getD (off + k) 0 = x := by rw [← hx]; exact (hMo.2 _ (by omega)).symm
        rw [e]
        exact takes_step _ _ _ _ _ _ _ _ _ _ hMs (by rw [Nat.add_mul]; omega)
    · obtain rfl : k = m := by omega
      obtain ⟨hR, hm, hb, hL, hoff, hmn⟩ := HR.out
      obtain ⟨hMw, hMo, hMs, hbut⟩ := HA.out
      have hgc := HM.out.cell (off + k) (by rw [hMo.1]; omega)
      have hgf := HM.out.frozen (off + k)
      obtain ⟨x, hx⟩ : ∃ x : Nat, M.getD (off + k) 0 = x := ⟨_, rfl⟩
      have hxl : x < 4294967296 := hx ▸ hMw.get _
      rw [hx] at hgc
      obtain ⟨s, hs⟩ : ∃ s : Nat, (s : Int) = ((x : Int) - cv - bv) % 4294967296 := ⟨(((x : Int) - cv - bv) % 4294967296).toNat, by omega⟩
      obtain ⟨bn, hbn⟩ : ∃ bn : Nat, bn = if x < cv + bv then 1 else 0 := ⟨_, rfl⟩
      have HX : Aside (M.getD (off + k) 0 = x ∧ (s : Int) = ((x : Int) - cv - bv) % 4294967296 ∧ bn = if x < cv + bv then 1 else 0) := ⟨hx, hs, hbn⟩
      clear hx hs hR hm hb hL hoff hMw hMo hMs hbut hbn hmn
      go_wp2_with fail
      refine (HA32.out x cv bv s bn _ hxl hcv hbv HX.out.2.1 HX.out.2.2).mono ?_
      rintro r w1 ⟨rfl, rfl⟩
      go_wp2
      go_ret
      obtain ⟨hx, hs, hbn⟩ := HX.out
      obtain ⟨hR, hm, hb, hL, hoff, hmn⟩ := HR.out
      obtain ⟨hMw, hMo, hMs, hbut⟩ := HA.out
      have hbn1 : bn ≤ 1 := by rw [hbn]; split <;> omega
      have hsum : s + cv + bv = x + bn * 4294967296 := by rw [hbn]; split <;> omega
      refine ⟨M.set (off + k) s, bn, rfl, hbn1, HM.out.set _ _, hMw.set _ _ (by omega), (hMo.mono (by omega)).set _ _ (by omega) (by omega), ?_, hbut.set _ _⟩
      subst hmn
      rw [sg_set_last _ _ _ _ (by rw [hMo.1]; omega), sg_succ L off k (by omega), pw_succ]
      have e : L.getD (off + k) 0 = x := by rw [← hx]; exact (hMo.2 _ (by omega)).symm
      rw [e]
      have h2 := takes_step (pw k) _ _ _ _ x 0 q s bn hMs (by omega)
      rw [Nat.mul_zero, Nat.add_zero, hm, sg_all] at h2
      exact hm ▸ h2
end Go.Proofs.YthilnddhehbjiaaDoor

/- takeOut: how often a divisor goes into what is left, taken out in place. -/
namespace Go.Proofs.YthilnddhehbjiaaDoor
open Go.RowKit
set_option linter.unusedVariables false
set_option maxRecDepth 20000

theorem take_low (U V P o c m : Nat) (h1 : m + V * o = U + c * P) (hc : c ≤ 1) (h2 : U < (o + 1) * V) (h3 : o * V ≤ U + V) (hm : m < P) (hV : V ≤ P) (h0 : c = 0) : m = U - o * V ∧ m < V ∧ U = o * V + m := by
  subst h0
  rw [Nat.mul_comm V] at h1
  rw [Nat.add_mul, Nat.one_mul] at h2
  refine ⟨by omega, by omega, by omega⟩

theorem take_back (U V P o c m M d : Nat) (h1 : m + V * (o + 1) = U + 1 * P) (h2 : U < (o + 1 + 1) * V) (h3 : (o + 1) * V ≤ U + V) (hm : m < P) (hM : M < P) (hb : M + d * P = m + V) (hd : d ≤ 1) (hU : U < V * 4294967296) (hVP : V * 4294967296 ≤ P * 4294967296) (hV : V ≤ P) :
    U = o * V + M ∧ M < V := by
  rw [Nat.one_mul] at h1
  have e : V * (o + 1) = o * V + V := by grind
  rw [e] at h1
  rw [Nat.add_mul, Nat.one_mul] at h3
  rcases (by omega : d = 0 ∨ d = 1) with rfl | rfl
  · exfalso
    rw [Nat.zero_mul] at hb
    omega
  · rw [Nat.one_mul] at hb
    constructor
    · omega
    · omega

set_option maxHeartbeats 2000000 in
theorem takeOut_any (L bs : List Nat) (g off cap : Nat) (ao : Option Addr) (n capb B : Nat) (w : World) (k : Nat) (hnk : n = k + 2)
    (hO : Own w g L) (hoff : off + (k + 3) ≤ L.length) (hm : k + 2 = bs.length) (hcap : n + 1 ≤ cap) (hbig : n + 1 ≤ 4611686018427387904) (hL : Wf L) (hb : Wf bs) (hR : Rd B w ao bs) (hB : B ≤ g)
    (htop : 2147483648 ≤ bs.getD (k + 1) 0) (hlt : sg L off (k + 3) < val bs * 4294967296) :
    Calls Tryd.prog 135 #[.slice (some ⟨g, off, none⟩) (n + 1) cap, .slice ao n capb] w fun r w' =>
      ∃ o : Nat, ∃ M, r = .returned (.int .u32 (o : Nat)) ∧ o < 4294967296 ∧ Own w' g M ∧ Wf M ∧ Out L M off (n + 1) ∧ sg L off (n + 1) = o * val bs + sg M off (n + 1) ∧ sg M off (n + 1) < val bs ∧ But g w w' := by
  have G := hid (guess_any L bs g off cap ao n capb B w k hnk hO hoff hm hcap (by omega) hL hb hR htop hlt)
  have HH := (Aside.intro (And.intro hO (And.intro hoff (And.intro hm (And.intro hL (And.intro hb (And.intro hR (And.intro hlt hnk))))))))
  clear hO hoff hm hL hb hR hlt hnk htop
  go_enter Tryd.func135, Tryd.ntmps135
  go_wp2_with fail
  refine (Calls.mono G.out) ?_
  rintro r w1 ⟨o, rfl, ho, h2, h3, hbel⟩
  obtain ⟨hO, hoff, hm, hL, hb, hR, hlt, hnk⟩ := HH.out
  have hg := hO.lt
  have hO1 := hO.below hbel hg
  have hR1 : Rd B w1 ao bs := hR.below (hbel.mono (by omega))
  have T := hid (takeTimes_any L bs g off (n + 1) cap ao n capb B o w1 hO1 (by omega) (by omega) rfl hcap hbig hL hb hR1 hB ho)
  have HI := (Aside.intro (And.intro h2 (And.intro h3 hbel)))
  clear hO hoff hm hL hb hR hlt hnk hg hO1 hR1 h2 h3 hbel G
  go_wp2_with fail
  refine (Calls.mono T.out) ?_
  rintro r w2 ⟨M, c, rfl, hc, hO2, hM, hout, hsum, hbut⟩
  obtain ⟨hO, hoff, hm, hL, hb, hR, hlt, hnk⟩ := HH.out
  obtain ⟨h2, h3, hbel⟩ := HI.out
  have e3 : k + 3 = n + 1 := by omega
  rw [e3] at h2 h3 hlt
  have hml := sg_lt M off (n + 1) hM (by rw [hout.1]; omega)
  have hVl := val_lt bs hb
  have hVP : val bs ≤ pw (n + 1) := by
    have := pw_mono (show bs.length ≤ n + 1 by omega)
    omega
  by_cases h0 : c = 0
  · obtain ⟨e, hlt2, hU⟩ := take_low _ _ _ _ _ _ hsum hc h2 h3 hml hVP h0
    have HJ := (Aside.intro (And.intro hO2 (And.intro hM (And.intro hout (And.intro hU (And.intro hlt2 (And.intro hbut hbel)))))))
    subst h0
    clear hO hoff hm hL hb hR hlt hnk h2 h3 hbel hO2 hM hout hsum hbut hml hVl hVP e hlt2 hU T HI e3 hc
    go_wp2
    go_ret
    obtain ⟨hO2, hM, hout, hU, hlt2, hbut, hbel⟩ := HJ.out
    exact ⟨o, M, rfl, ho, hO2, hM, hout, hU, hlt2, (But.refl _ _).of_below hbel |>.trans hbut⟩
  · obtain rfl : c = 1 := by omega
    have ho1 : 1 ≤ o := by
      rcases Nat.eq_zero_or_pos o with h | h
      · subst h; rw [Nat.mul_zero] at hsum; have := sg_lt L off (n + 1) hL (by omega); omega
      · exact h
    obtain ⟨p, hp⟩ : ∃ p, o = p + 1 := ⟨o - 1, by omega⟩
    have hR2 : Rd B w2 ao bs := (hR.below (hbel.mono (by have := hO.lt; omega))).but hbut (by have := hbel.size; have := hO.lt; omega) hB
    have A := hid (addTo_any M bs g off (n + 1) cap ao n capb B w2 hO2 (by rw [hout.1]; omega) (by omega) (by omega) hcap hbig hM hb hR2 hB)
    have HJ := (Aside.intro (And.intro hM (And.intro hout (And.intro hsum (And.intro hbut (And.intro hbel (And.intro h2 (And.intro h3 (And.intro hml (And.intro hVP (And.intro hlt hp)))))))))))
    clear hO hoff hm hL hb hR hlt hnk h2 h3 hbel hO2 hM hout hsum hbut hml hVl hVP T HI hR2 h0 hp e3 hc
    go_wp2_with fail
    refine (Calls.mono A.out) ?_
    rintro r w3 ⟨M2, d, rfl, hd, hO3, hM2, hout2, hsum2, hbut2⟩
    have HK := (Aside.intro (And.intro hd (And.intro hO3 (And.intro hM2 (And.intro hout2 (And.intro hsum2 hbut2))))))
    clear hd hO3 hM2 hout2 hsum2 hbut2 A
    go_wp2
    go_ret
    obtain ⟨hM, hout, hsum, hbut, hbel, h2, h3, hml, hVP, hlt, hp⟩ := HJ.out
    obtain ⟨hd, hO3, hM2, hout2, hsum2, hbut2⟩ := HK.out
    obtain ⟨hO, hoff, hm, hL, hb, hR, hlt', hnk⟩ := HH.out
    have hm2 := sg_lt M2 off (n + 1) hM2 (by rw [hout2.1, hout.1]; omega)
    subst hp
    obtain ⟨hU, hlt2⟩ := take_back _ _ _ p 1 _ _ d hsum h2 h3 hml hm2 hsum2 hd hlt (Nat.mul_le_mul_right _ hVP) hVP
    refine ⟨p, M2, ?_, by omega, hO3, hM2, hout.trans hout2, hU, hlt2, (((But.refl _ _).of_below hbel).trans hbut).trans hbut2⟩
    exact congrArg (fun z => Ending.returned (Value.int IntKind.u32 z)) (by omega)
end Go.Proofs.YthilnddhehbjiaaDoor

