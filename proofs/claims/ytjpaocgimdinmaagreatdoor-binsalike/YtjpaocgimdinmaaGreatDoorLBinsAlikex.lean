/- BinsAlike: the walk. -/
import Derived.Test.YtjpaocgimdinmaaGreatDoorG18x
namespace Go.Proofs.YtjpaocgimdinmaaGreatDoor
open Go Go.RowKit
set_option linter.unusedVariables false
set_option maxRecDepth 20000
set_option linter.unusedSimpArgs false

set_option maxHeartbeats 8000000 in
theorem alike_main (f s : Nat) (xs : List Nat) (ao : Option Addr) (n cap : Nat) (shares : Int) (w : World) (hT : Tab w) (hf0 : 1 ≤ f) (hf : f ≤ 8) (hn : n = xs.length) (hn4 : n ≤ 4000) (hrd : Fs w.heap.size w ao xs) (hW : W64 xs)
    (hsh : (1 ≤ shares ∧ shares ≤ 64 ∧ shares = s) ∨ ((shares < 1 ∨ 64 < shares) ∧ s = 1 + n % 7)) (hs1 : 1 ≤ s) (hs2 : s ≤ 64) :
    Calls Tryz.prog 6 #[.int .i64 f, .slice ao n cap, .int .i64 shares] w fun r w' => r = .returned (.bool true) ∧ Below w.heap.size w w' := by
  have HA := Aside.intro (And.intro hn (And.intro hrd (And.intro hW (And.intro hT hsh))))
  have HAW := hid (awake9 w hT)
  have HN := hid (fun u => New9 f u hf0 hf)
  have d4 : decide (4000 < (n : Int)) = false := by simp; omega
  clear hn hrd hW hT hsh
  go_enter Tryz.func6, Tryz.ntmps6
  go_wp2_with fail
  with_reducible refine HAW.out.mono ?_
  rintro r w1 ⟨rfl, hb1⟩
  have HB1 := Aside.intro hb1
  clear hb1 HAW
  go_wp2_with fail
  with_reducible refine (HN.out _).mono ?_
  rintro r w2 ⟨rfl, _, hb2⟩
  have HB2 := Aside.intro (HB1.out.trans (hb2.mono HB1.out.size))
  clear hb2 HN HB1
  go_wp2_with fail
  go_loopg [9, 10] n (fun gk bv iv wr => ∃ (k : Nat) (i : Int), gk + k = n ∧ i = (n : Int) - 1 - k ∧ iv = .int .i64 i ∧ Aside (Fr w.heap.size wr bv (bk xs n k) ∧ Below w.heap.size w wr))
  case atStart => exact ⟨0, (n : Int) - 1, by omega, by omega, rfl, ⟨Fr.nil _ _, HB2.out⟩⟩
  case round =>
    clear HB2
    obtain ⟨k, i, hgk, hi, rfl, HL⟩ := hrel
    by_cases hk : k < n
    · obtain ⟨j, hj⟩ : ∃ j : Nat, j = n - 1 - k := ⟨_, rfl⟩
      obtain rfl : i = (j : Int) := by omega
      have hj0 : decide (0 ≤ (j : Int)) = true := by simp
      have hjn : j < n := by omega
      have HJ := Aside.intro hj
      clear hj hi
      obtain ⟨b, off, hao, hc⟩ := HA.out.2.1.at HL.out.2 j (by have := HA.out.1; omega)
      cases hao
      obtain ⟨x, hx⟩ : ∃ x, x = xs.getD j 0 := ⟨_, rfl⟩
      rw [← hx] at hc
      obtain ⟨W4, hW4⟩ : ∃ W, W = wr.alloc (.cells #[.float .f64 x] 38) := ⟨_, rfl⟩
      have HW4 := Aside.intro hW4
      have hfr : Fr w.heap.size W4 u9 (bk xs n k) := by subst hW4; exact HL.out.1.below (below_alloc _ _)
      have hbw : Below wr.heap.size wr W4 := by subst hW4; exact below_alloc _ _
      have hcx : W4.cell? ⟨wr.heap.size, 0, none⟩ = some (.float .f64 x) := by subst hW4; unfold World.cell?; simp only [heap_alloc_new]; rfl
      have hsz : w.heap.size ≤ W4.heap.size := Nat.le_trans HL.out.2.size hbw.size
      obtain ⟨v5, w5, hap, hf5, hg5⟩ := append_f8 W4 w.heap.size u9 (bk xs n k) x wr.heap.size hfr hcx (by rw [bk_len]; omega) hsz
      have HAP := hid hap
      have H5 : Aside (Fr w.heap.size w5 v5 (bk xs n (k + 1)) ∧ Below w.heap.size w w5) := by
        refine ⟨?_, (HL.out.2.trans (hbw.mono HL.out.2.size)).grown hg5 hsz (fun k hk => (hfr.lt hk).1)⟩
        rw [bk_succ, ← HJ.out, ← hx]; exact hf5
      clear hap hf5 hg5 hfr hbw hcx hsz hx HL hW4
      go_wp2_with (at_builtin; rw [← HW4.out]; refine wpList_append8 rfl (.tmp 53) (.tmp 58) 83 rfl _ _ rfl rfl _ _ HAP.out ?_)
      clear HAP HW4 hc
      go_roundg (gk - 1)
      case measure => omega
      case rel => exact ⟨k + 1, (j : Int) - 1, by omega, by have := HJ.out; omega, rfl, H5⟩
    · have hj0 : decide (0 ≤ i) = false := by simp; omega
      have HBk : Aside (Fr w.heap.size wr u9 (bk xs n n) ∧ Below w.heap.size w wr) := by rw [show k = n by omega] at HL; exact HL
      clear HL hgk hi
      obtain ⟨bq, hbq⟩ : ∃ b : Bool, b = (decide (shares < 1) || decide (64 < shares)) := ⟨_, rfl⟩
      have HSQ : Aside ((bq = false → shares = s) ∧ (bq = true → (1 : Int) + (n : Int) % 7 = (s : Nat))) := by
        constructor
        · intro q
          rw [hbq, Bool.or_eq_false_iff, decide_eq_false_iff_not, decide_eq_false_iff_not] at q
          rcases HA.out.2.2.2.2 with ⟨q1, q2, q3⟩ | ⟨q1, q2⟩ <;> omega
        · intro q
          rw [hbq, Bool.or_eq_true, decide_eq_true_iff, decide_eq_true_iff] at q
          rcases HA.out.2.2.2.2 with ⟨q1, q2, q3⟩ | ⟨q1, q2⟩ <;> omega
      have HBQ := Aside.intro hbq
      clear hbq
      go_upto_region 10 with fail
      go_cut [65] from 60 to 65 (fun v wx => v = .bool bq ∧ wx = wr)
      case first =>
        by_cases e1 : decide (shares < 1) = true
        · go_wp2_with fail
          go_meet
          case rel => exact ⟨by rw [HBQ.out, e1]; rfl, rfl⟩
        · have e1 : decide (shares < 1) = false := by simpa using e1
          by_cases e2 : decide (64 < shares) = true
          · go_wp2_with fail
            go_meet
            case rel => exact ⟨by rw [HBQ.out, e1, e2]; rfl, rfl⟩
          · have e2 : decide (64 < shares) = false := by simpa using e2
            go_wp2_with fail
            go_meet
            case rel => exact ⟨by rw [HBQ.out, e1, e2]; rfl, rfl⟩
      obtain ⟨rfl, hwc⟩ := hcut
      rw [hwc]
      clear hwc wc
      go_upto_if 65 with fail
      go_cut [2] from 66 to 69 (fun sv wx => sv = .int .i64 (s : Nat) ∧ wx = wr)
      case first =>
        cases bq
        · have e3 := HSQ.out.1 rfl
          go_wp2_with fail
          go_meet
          case rel => exact ⟨by first | rfl | rw [e3], rfl⟩
        · have e3 := HSQ.out.2 rfl
          go_wp2_with fail
          go_meet
          case rel => exact ⟨by first | rfl | rw [e3] | (simp; omega), rfl⟩
      case rest =>
        obtain ⟨rfl, rfl⟩ := hcut
        clear HSQ HBQ
        obtain ⟨WB, hWB⟩ : ∃ W, W = wc := ⟨_, rfl⟩
        rw [← hWB] at HBk ⊢
        clear hWB
        go_wp2_with fail
        go_loopg [11, 12] s (fun gk pv iv wq => ∃ i : Nat, gk + i = s ∧ iv = .int .i64 (i : Nat) ∧ Aside (∃ P : List (Nat × List Nat), P.length = i ∧ Ml WB.heap.size f wq pv P ∧ P.flatMap (·.2) = alls (fx xs) s n i ∧ Below WB.heap.size WB wq))
        case atStart => exact ⟨0, by omega, rfl, ⟨[], rfl, ⟨.inl ⟨rfl, rfl⟩, (fun q hq => by cases hq), List.nodup_nil⟩, rfl, Below.refl _ _⟩⟩
        case round =>
          obtain ⟨i, hgi, rfl, HL⟩ := hrel
          by_cases hi : i < s
          · obtain ⟨P, p1, p2, p3, p4⟩ := HL.out
            have hbw0 : Below w.heap.size w wr := HBk.out.2.trans (p4.mono HBk.out.2.size)
            have HFl := hid (filled9 f xs ao n cap i s wr hf0 hf HA.out.1 hn4 (HA.out.2.1.move hbw0 hbw0.size) HA.out.2.2.1 hs1 hs2 hi)
            have HP := Aside.intro (And.intro p1 (And.intro p2 (And.intro p3 p4)))
            have hi1 : decide ((i : Int) < (s : Int)) = true := by simp; omega
            clear p1 p2 p3 p4 HL hbw0
            go_wp2_with fail
            with_reducible refine HFl.out.mono ?_
            rintro r u ⟨rfl, hBu, hbu⟩
            obtain ⟨W4, hW4⟩ : ∃ W, W = u.alloc (.cells #[.pointer (some ⟨wr.heap.size, 0, none⟩)] 76) := ⟨_, rfl⟩
            have HW4 := Aside.intro hW4
            have hbw : Below wr.heap.size wr W4 := by subst hW4; exact hbu.trans ((below_alloc _ _).mono hbu.size)
            have hB4 : Bz W4 wr.heap.size f (pkc (fx xs) s i n) := by subst hW4; exact hBu.below (below_alloc _ _) hBu.lt
            have hcx : W4.cell? ⟨u.heap.size, 0, none⟩ = some (Pv wr.heap.size) := by subst hW4; unfold World.cell?; simp only [heap_alloc_new]; rfl
            have hsz : WB.heap.size ≤ W4.heap.size := Nat.le_trans HP.out.2.2.2.size hbw.size
            have hml := HP.out.2.1.below hbw
            obtain ⟨v5, w5, hap, hp5, hg5⟩ := append_p9 W4 WB.heap.size u11 (P.map (·.1)) wr.heap.size u.heap.size hml.pp hcx (by rw [List.length_map, HP.out.1]; omega) hsz
            have HAP := hid hap
            have H5 : Aside (∃ P : List (Nat × List Nat), P.length = i + 1 ∧ Ml WB.heap.size f w5 v5 P ∧ P.flatMap (·.2) = alls (fx xs) s n (i + 1) ∧ Below WB.heap.size WB w5) := by
              refine ⟨P ++ [(wr.heap.size, pkc (fx xs) s i n)], by simp [HP.out.1], hml.more hg5 hp5 hB4 (fz_fin xs HA.out.2.2.1 s i n) HP.out.2.2.2.size ?_, ?_, (HP.out.2.2.2.trans (hbw.mono HP.out.2.2.2.size)).grown hg5 hsz (fun k hk => hml.pp.lo hk)⟩
              · intro hm
                obtain ⟨q, hq, he⟩ := List.mem_map.1 hm
                have := (HP.out.2.1.bz q hq).1.lt
                omega
              · rw [List.flatMap_append, HP.out.2.2.1]; simp [alls]
            clear hap hp5 hg5 hbw hB4 hcx hsz hml hBu hbu HP hW4
            go_wp2_with (at_builtin; rw [← HW4.out]; refine wpList_append8 rfl (.tmp 75) (.tmp 81) 85 rfl _ _ rfl rfl _ _ HAP.out ?_)
            clear HAP HW4
            go_roundg (gk - 1)
            case measure => omega
            case rel => exact ⟨i + 1, by omega, by simp, H5⟩
          · have hi1 : decide ((i : Int) < (s : Int)) = false := by simp; omega
            have HM : Aside (∃ P : List (Nat × List Nat), 1 ≤ P.length ∧ P.length ≤ 64 + 1 ∧ Ml WB.heap.size f wr u11 P ∧ (P.flatMap (·.2)).Perm (pkc (fx xs) 1 0 n) ∧ Below WB.heap.size WB wr) := by
              obtain ⟨P, p1, p2, p3, p4⟩ := HL.out
              rw [show i = s by omega] at p1 p3
              exact ⟨P, by omega, by omega, p2, by rw [p3]; exact alls_perm (fx xs) s n (by omega), p4⟩
            clear HL
            go_wp2_with fail
            go_loopg [11] 64 (fun gk pv wq => gk ≤ 64 ∧ Aside (∃ P : List (Nat × List Nat), 1 ≤ P.length ∧ P.length ≤ gk + 1 ∧ Ml WB.heap.size f wq pv P ∧ (P.flatMap (·.2)).Perm (pkc (fx xs) 1 0 n) ∧ Below WB.heap.size WB wq))
            case atStart => exact ⟨Nat.le_refl _, HM⟩
            case round =>
              clear HM
              obtain ⟨hgk64, HL⟩ := hrel
              obtain ⟨P, c1, c2, c3, c4, c5⟩ := HL.out
              rcases c3.pp with ⟨_, q⟩ | ⟨b, off, cp, C, hv, e1, e2, e3, e4, e5⟩
              · exfalso
                have := List.map_eq_nil_iff.1 q
                rw [this] at c1
                simp at c1
              · obtain ⟨m, hm⟩ : ∃ m, m = (P.map (·.1)).length := ⟨_, rfl⟩
                rw [← hm] at hv e3 e5
                have hmP : m = P.length := by rw [hm, List.length_map]
                subst hv
                by_cases hm1 : 1 < m
                · obtain ⟨⟨g0, L0⟩, ⟨g1, L1⟩, R, hPR⟩ : ∃ q0 q1 R, P = q0 :: q1 :: R := by
                    match P, hmP with
                    | [], h => exact absurd h (by simp; omega)
                    | [_], h => exact absurd h (by simp; omega)
                    | q0 :: q1 :: R, _ => exact ⟨q0, q1, R, rfl⟩
                  subst hPR
                  have hbl : Bl wr b 76 C.toList := by unfold Bl; rw [e2]
                  have k0 := c3.bz (g0, L0) (by simp)
                  have k1 := c3.bz (g1, L1) (by simp)
                  have hnd := c3.nd
                  simp only [List.map_cons, List.nodup_cons, List.mem_cons, not_or] at hnd
                  have hne : g0 ≠ g1 := hnd.1.1
                  have hc0 : C.toList[off]? = some (.pointer (some ⟨g0, 0, none⟩)) := by have := e5 0 (by omega); rw [Array.getElem?_toList]; exact this
                  have hc1 : C.toList[off + 1]? = some (.pointer (some ⟨g1, 0, none⟩)) := by have := e5 1 (by omega); rw [Array.getElem?_toList]; exact this
                  have hlen : L1.length + L0.length ≤ 4000 := by
                    have h1 := c4.length_eq
                    have h2 := fz_len xs 1 0 n
                    simp only [List.flatMap_cons, List.length_append] at h1
                    omega
                  have HBL := Aside.intro (And.intro hbl (And.intro hc0 hc1))
                  have HMg := hid (fun (u : World) (h1 : Bz u g1 f L1) (h0 : Bz u g0 f L0) => Merge9 g1 g0 f L1 L0 u h1 h0 hne k1.2.1 k0.2.1 (by omega) hf)
                  have HPK := Aside.intro (And.intro c1 (And.intro c2 (And.intro c3 (And.intro c4 (And.intro c5 (And.intro k0 (And.intro k1 (And.intro e3 (And.intro e4 (And.intro e5 (And.intro e1 (And.intro hmP (And.intro e2 hnd)))))))))))))
                  have hd1 : decide (1 < (m : Int)) = true := by simp; omega
                  have kS : Aside (wr.drew.cell? ⟨b, off, none⟩ = some (.pointer (some ⟨g0, 0, none⟩)) ∧ wr.drew.cell? ⟨b, off + 1, none⟩ = some (.pointer (some ⟨g1, 0, none⟩))) := ⟨hbl.drew.cell off _ hc0, hbl.drew.cell (off + 1) _ hc1⟩
                  have hng : g1 ≠ b := k1.1.ne e2
                  have hm2 : 2 ≤ m := by omega
                  clear HL c1 c2 c3 c4 c5 e1 e2 e3 e4 e5 hm hmP hbl k0 k1 hnd hc0 hc1 hlen
                  go_upto_region 18 with fail
                  go_cut [13] from 83 to 101 (fun v wx => v = .int .i64 0 ∧ Aside (Bz wx g1 f (L1 ++ L0) ∧ But g1 wr.drew wx))
                  case first =>
                    go_region_held (fun v => v.cell? ⟨b, off, none⟩ = some (.pointer (some ⟨g0, 0, none⟩)) ∧ v.cell? ⟨b, off + 1, none⟩ = some (.pointer (some ⟨g1, 0, none⟩))) (first | with_reducible exact kT.out | with_reducible exact kS.out) (first
                      | (go_at_call 27
                         with_reducible refine (HMg.out _ (Bz.drew HPK.out.2.2.2.2.2.2.1.1) (Bz.drew HPK.out.2.2.2.2.2.1.1)).mono ?_
                         rintro r u ⟨rfl, hBu, hbt⟩
                         have HU := Aside.intro (And.intro hBu hbt)
                         have hblu := HBL.out.1.drew.but hbt (Ne.symm hng)
                         have kT := Aside.intro (And.intro (hblu.cell off _ HBL.out.2.1) (hblu.cell (off + 1) _ HBL.out.2.2))
                         clear hblu hBu hbt))
                    all_goals (
                      go_wp2_with fail
                      go_meet)
                    all_goals exact ⟨rfl, HU⟩
                  case rest =>
                    obtain ⟨rfl, HU⟩ := hcut
                    clear kS HMg
                    go_wp2_with fail
                    have hbc := (HBL.out.1.drew).but HU.out.2 (Ne.symm hng)
                    have HBC := Aside.intro hbc
                    have kS : Aside (wc.drew.cell? ⟨b, off + 1, none⟩ = some (.pointer (some ⟨g1, 0, none⟩))) := hbc.drew.cell (off + 1) _ HBL.out.2.2
                    have hmc : m ≤ cp := HPK.out.2.2.2.2.2.2.2.1
                    have hmc' : (m : Int) ≤ (cp : Int) := by omega
                    have hm2' : (2 : Int) ≤ (m : Int) := by omega
                    have hm1' : (1 : Int) < (m : Int) := by omega
                    have hm2c : (2 : Int) ≤ (cp : Int) := by omega
                    clear hbc
                    refine until_region (fun v => v.cell? ⟨b, off + 1, none⟩ = some (.pointer (some ⟨g1, 0, none⟩))) 6 (by kernel_rfl) ?_
                    refine until_take (i := 0) [1] (v := ?_) rfl (by kernel_rfl) (by kernel_rfl) (by kernel_rfl) (by kernel_rfl) (by kernel_rfl) (fun _ _ _ h => h) (Or.inl ⟨by rfl, ?_⟩) kS.out ?_
                    rotate_left
                    · intro u hSu
                      try dsimp only at hSu
                      first | (go_simp; done) | (go_simp; with_reducible rfl)
                    try simp only [Act.put, List.setIfInBounds_toArray, List.set_cons_zero, List.set_cons_succ]
                    refine until_take (i := 1) [] (v := ?_) rfl (by kernel_rfl) (by kernel_rfl) (by kernel_rfl) (by kernel_rfl) (by kernel_rfl) (fun _ _ _ h => h) (Or.inl ⟨by rfl, ?_⟩) kS.out ?_
                    rotate_left
                    · intro u hSu
                      try dsimp only at hSu
                      first | (go_simp; done) | (go_simp; with_reducible rfl)
                    try simp only [Act.put, List.setIfInBounds_toArray, List.set_cons_zero, List.set_cons_succ]
                    refine until_take (i := 2) [3, 4, 5] (v := ?_) rfl (by kernel_rfl) (by kernel_rfl) (by kernel_rfl) (by kernel_rfl) (by kernel_rfl) (fun _ _ _ h => h) (Or.inl ⟨by rfl, ?_⟩) kS.out ?_
                    rotate_left
                    · intro u hSu
                      try dsimp only at hSu
                      first | (go_simp; done) | (go_simp; with_reducible rfl)
                    try simp only [Act.put, List.setIfInBounds_toArray, List.set_cons_zero, List.set_cons_succ]
                    refine until_take (i := 3) [4, 5] (v := ?_) rfl (by kernel_rfl) (by kernel_rfl) (by kernel_rfl) (by kernel_rfl) (by kernel_rfl) (fun _ _ _ h => h) (Or.inl ⟨by rfl, ?_⟩) kS.out ?_
                    rotate_left
                    · intro u hSu
                      try dsimp only at hSu
                      first | (go_simp; done) | (go_simp; with_reducible rfl)
                    try simp only [Act.put, List.setIfInBounds_toArray, List.set_cons_zero, List.set_cons_succ]
                    refine until_take (i := 4) [5] (v := ?_) rfl (by kernel_rfl) (by kernel_rfl) (by kernel_rfl) (by kernel_rfl) (by kernel_rfl) (fun _ _ _ h => h) (Or.inl ⟨by rfl, ?_⟩) kS.out ?_
                    rotate_left
                    · intro u hSu
                      try dsimp only at hSu
                      first | (go_simp; done) | (go_simp; with_reducible rfl)
                    try simp only [Act.put, List.setIfInBounds_toArray, List.set_cons_zero, List.set_cons_succ]
                    obtain ⟨U, hU⟩ : ∃ U, U = (wc.alloc (.cells #[.pointer (some ⟨g1, 0, none⟩)] 76)).drew := ⟨_, rfl⟩
                    have HUU := Aside.intro hU
                    have hbU : Below wc.heap.size wc U := by subst hU; exact (below_alloc _ _).drew
                    have hcx : U.cell? ⟨wc.heap.size, 0, none⟩ = some (Pv g1) := by subst hU; exact (Bl.new wc 76 [Pv g1]).drew.cell 0 _ rfl
                    obtain ⟨o2, ho2⟩ : ∃ o2, o2 = if cp = 2 then off else off + 2 := ⟨_, rfl⟩
                    have hov : (if cp = 2 then some (⟨b, off, none⟩ : Addr) else some ⟨b, off + 2, none⟩) = some ⟨b, o2, none⟩ := by rw [ho2]; split <;> rfl
                    have hRl : (R.map (·.1)).length = m - 2 := by have := HPK.out.2.2.2.2.2.2.2.2.2.2.2.1; simp at this ⊢; omega
                    obtain ⟨z1, z2, z3, z4, z5, z6, z7, z8, z9, z10, z11, z12, z13, z14⟩ := HPK.out
                    have hPU : Pp WB.heap.size U (.slice (some ⟨b, o2, none⟩) (m - 2) (cp - 2)) (R.map (·.1)) := by
                      refine .inr ⟨b, o2, cp - 2, C, by rw [hRl], z11, ?_, by rw [hRl]; omega, by rw [ho2]; split <;> omega, fun i hi => ?_⟩
                      · have := HBC.out.below hbU HBC.out.lt
                        unfold Bl at this; rw [this]
                      · rw [hRl] at hi
                        have := z10 (i + 2) (by omega)
                        rw [ho2, if_neg (by omega), show off + 2 + i = off + (i + 2) by omega, this]
                        rfl
                    have hMR : Ml WB.heap.size f U (.slice (some ⟨b, o2, none⟩) (m - 2) (cp - 2)) R := by
                      refine ⟨hPU, fun q hq => ?_, z14.2.2⟩
                      have h1 := z3.bz q (by simp [hq])
                      have h2 := (h1.1.drew).but HU.out.2 (fun e => z14.2.1 (by rw [← e]; exact List.mem_map_of_mem hq))
                      exact ⟨h2.below hbU h2.lt, h1.2⟩
                    have hszU : WB.heap.size ≤ U.heap.size := by have := z5.size; have := HU.out.2.size; have := hbU.size; simp at *; omega
                    obtain ⟨v5, w5, hap, hp5, hg5⟩ := append_p9 U WB.heap.size _ (R.map (·.1)) g1 wc.heap.size hPU hcx (by simp at z2 hRl; simp; omega) hszU
                    have H5 : Aside (∃ P : List (Nat × List Nat), 1 ≤ P.length ∧ P.length ≤ gk - 1 + 1 ∧ Ml WB.heap.size f w5 v5 P ∧ (P.flatMap (·.2)).Perm (pkc (fx xs) 1 0 n) ∧ Below WB.heap.size WB w5) := by
                      refine ⟨R ++ [(g1, L1 ++ L0)], by simp, by simp at z2 ⊢; omega, hMR.more hg5 hp5 (HU.out.1.below hbU HU.out.1.lt) (z7.2.1.app z6.2.1) z7.2.2 z14.2.1, ?_, ?_⟩
                      · refine List.Perm.trans ?_ z4
                        rw [List.flatMap_append]
                        simp only [List.flatMap_cons, List.flatMap_nil, List.append_nil]
                        refine List.perm_append_comm.trans ?_
                        rw [List.append_assoc]
                        refine List.Perm.trans ?_ (List.perm_append_comm_assoc L1 L0 _)
                        exact List.Perm.refl _
                      · have h1 := But.below (z5.trans (((Below.refl wr.heap.size wr).drew).mono z5.size)) HU.out.2 (by have := z5.size; simpa using this) z7.2.2
                        exact (h1.trans (hbU.mono h1.size)).grown hg5 hszU (fun k hk => hPU.lo hk)
                    have HAP := hid hap
                    clear ho2
                    have kU : Aside (U.cell? ⟨b, off + 1, none⟩ = some (.pointer (some ⟨g1, 0, none⟩))) := (HBC.out.below hbU HBC.out.lt).cell (off + 1) _ HBL.out.2.2
                    have hgk1 : 1 ≤ gk := by simp at z2; omega
                    clear z1 z2 z3 z4 z5 z6 z7 z8 z9 z10 z11 z12 z13 z14 hap hp5 hg5 hPU hMR hszU hcx hbU hU hRl
                    refine until_one (i := 5) (by kernel_rfl) rfl (fun K' hK => ?_)
                    go_simp
                    rw [← HUU.out]
                    refine hK.out _ _ (fun _ => kU.out) ?_
                    clear hK K'
                    try simp only [Act.put, List.setIfInBounds_toArray, List.set_cons_zero, List.set_cons_succ]
                    refine until_one (i := 6) (by kernel_rfl) rfl (fun K' hK => ?_)
                    refine ite_mp9 (by rfl) ?_
                    refine wp_append9 (.tmp 96) (.tmp 100) 85 rfl (.slice (some ⟨b, o2, none⟩) (m - 2) (cp - 2)) (.slice (some ⟨wc.heap.size, 0, none⟩) 1 1) rfl rfl v5 w5 HAP.out ?_
                    refine hK.out _ _ (fun h => absurd h (by decide)) ?_
                    clear hK K'
                    try simp only [Act.put, List.setIfInBounds_toArray, List.set_cons_zero, List.set_cons_succ]
                    refine until_one (i := 7) (by kernel_rfl) rfl (fun K' hK => ?_)
                    go_simp
                    refine hK.out _ _ (fun h => absurd h (by decide)) ?_
                    clear hK K'
                    refine until_done (by kernel_rfl) ?_ _
                    clear kS kU HAP HUU HU HBC HPK HBL
                    go_wp2
                    go_roundg (gk - 1)
                    case measure => omega
                    case rel => exact ⟨by omega, H5⟩
                · have hm0 : m = 1 := by omega
                  obtain ⟨⟨g0, L0⟩, hP1⟩ : ∃ q, P = [q] := by
                    match P, hmP with
                    | [], h => exact absurd h (by simp; omega)
                    | [q], _ => exact ⟨q, rfl⟩
                    | _ :: _ :: _, h => exact absurd h (by simp; omega)
                  subst hP1
                  have k0 := c3.bz (g0, L0) (by simp)
                  have hbl : Bl wr b 76 C.toList := by unfold Bl; rw [e2]
                  have hc0 : C.toList[off]? = some (.pointer (some ⟨g0, 0, none⟩)) := by have := e5 0 (by omega); rw [Array.getElem?_toList]; exact this
                  obtain ⟨A, hAA⟩ : ∃ A, A = pkc (fx xs) 1 0 n := ⟨_, rfl⟩
                  have hpL : L0.Perm A := by rw [hAA]; simpa using c4
                  have hFA : Fin9 A := by rw [hAA]; exact fz_fin xs HA.out.2.2.1 1 0 n
                  have hlA : A.length ≤ 4000 := by rw [hAA]; have := fz_len xs 1 0 n; omega
                  obtain ⟨aob, capb, hu9, hfsb⟩ := HBk.out.1.fs
                  rw [bk_len] at hu9
                  rw [bk_all xs n HA.out.1] at hfsb
                  subst hu9
                  have e5' : EB ≤ 200000 := Nat.le_trans EB5 (by decide)
                  obtain ⟨l1, l2, l3, _⟩ := fo8_len (kvz f A) EB e5' (kvz_EB f A hFA (by omega))
                  have HTold : Hid (∀ u g M, Below w.heap.size w u → Bz u g f M → M.Perm A → Calls Tryz.prog 28 #[.pointer (some ⟨g, 0, none⟩)] u fun r w' => (∃ v, r = .returned (.tuple #[.agg #[.bool (dN (fo8 (kvz f A))), v, .int .i64 (dE (fo8 (kvz f A)))], .float .f64 (bdW f A), .int .i64 (A.length : Nat)]) ∧ Nt u.heap.size w' v (dX (fo8 (kvz f A)))) ∧ Below u.heap.size u w') := hid (fun u g M hu hB hp => by
                    have := told9 g f M u hB (fun y hy => hFA y (hp.mem_iff.1 hy)) (by rw [hp.length_eq]; omega) hf (HA.out.2.2.2.1.belows hu)
                    rw [kvz_perm f hp, bdW_perm f hp, hp.length_eq] at this
                    exact this)
                  have HFil : Hid (∀ (u : World) (ys : List Nat) (aoy : Option Addr) (capy : Nat), Fs u.heap.size u aoy ys → W64 ys → n = ys.length → Calls Tryz.prog 26 #[.int .i64 f, .slice aoy n capy, .int .i64 0, .int .i64 1] u fun rr w' => rr = .returned (.pointer (some ⟨u.heap.size, 0, none⟩)) ∧ Bz w' u.heap.size f (pkc (fx ys) 1 0 n) ∧ Below u.heap.size u w') := hid (fun u ys aoy capy h1 h2 h3 => filled9 f ys aoy n capy 0 1 u hf0 hf h3 hn4 h1 h2 (by decide) (by decide) (by decide))
                  have HSame : Hid (∀ u a c b d, Arg u a (ws (dX (fo8 (kvz f A)))).length c (ws (dX (fo8 (kvz f A)))) → Arg u b (ws (dX (fo8 (kvz f A)))).length d (ws (dX (fo8 (kvz f A)))) → Calls Tryz.prog 22 #[.agg #[.bool (dN (fo8 (kvz f A))), .slice a (ws (dX (fo8 (kvz f A)))).length c, .int .i64 (dE (fo8 (kvz f A)))], .agg #[.bool (dN (fo8 (kvz f A))), .slice b (ws (dX (fo8 (kvz f A)))).length d, .int .i64 (dE (fo8 (kvz f A)))]] u fun r w' => r = .returned (.bool true) ∧ Below u.heap.size u w') := hid (fun u a c b d A1 A2 => same9 A1 A2 l1)
                  obtain ⟨nV, hnV⟩ : ∃ z, z = dN (fo8 (kvz f A)) := ⟨_, rfl⟩
                  obtain ⟨eV, heV⟩ : ∃ z, z = dE (fo8 (kvz f A)) := ⟨_, rfl⟩
                  obtain ⟨XV, hXV⟩ : ∃ z, z = dX (fo8 (kvz f A)) := ⟨_, rfl⟩
                  obtain ⟨x, hx⟩ : ∃ z, z = bdW f A := ⟨_, rfl⟩
                  rw [← hnV, ← heV, ← hXV, ← hx] at HTold
                  rw [← hnV, ← heV, ← hXV] at HSame
                  rw [← hXV] at l1
                  have HAL := hid (alike_any x)
                  have HVN := Aside.intro (And.intro hnV (And.intro heV (And.intro hXV (And.intro hx (And.intro hAA (And.intro hFA hlA))))))
                  have HST : Aside (Below w.heap.size w wr ∧ Below WB.heap.size WB wr ∧ Bz wr g0 f L0 ∧ Bl wr b 76 C.toList ∧ C.toList[off]? = some (.pointer (some ⟨g0, 0, none⟩)) ∧ L0.Perm A ∧ Fs WB.heap.size WB aob xs.reverse) := ⟨HBk.out.2.trans (c5.mono HBk.out.2.size), c5, k0.1, hbl, hc0, hpL, hfsb⟩
                  subst hm0
                  clear HL c1 c2 c3 c4 c5 e1 e2 e3 e4 e5 hm hmP hbl k0 hc0 hpL hFA hlA hfsb hnV heV hXV hx hAA l2 l3
                  go_wp2_with fail
                  with_reducible refine (HFil.out wr xs ao cap (HA.out.2.1.move HST.out.1 HST.out.1.size) HA.out.2.2.1 HA.out.1).mono ?_
                  rintro r a1 ⟨rfl, hB1, hb1⟩
                  have H1 : Aside (Bz a1 wr.heap.size f A ∧ Below wr.heap.size wr a1) := ⟨by rw [HVN.out.2.2.2.2.1]; exact hB1, hb1⟩
                  clear hB1 hb1
                  go_wp2_with fail
                  with_reducible refine (HTold.out a1 wr.heap.size A (HST.out.1.trans (H1.out.2.mono HST.out.1.size)) H1.out.1 (List.Perm.refl _)).mono ?_
                  rintro r a2 ⟨⟨v1, rfl, hN1⟩, hb2⟩
                  obtain ⟨p1, q1, rfl, _⟩ := hN1.arg (Nat.le_trans l1 (by decide))
                  obtain ⟨D1, hD1⟩ : ∃ D, D = a2.alloc (.cells #[.bool nV, .slice p1 (ws XV).length q1, .int .i64 eV] 33) := ⟨_, rfl⟩
                  have HD1 : Aside (Dk D1 a2.heap.size nV (.slice p1 (ws XV).length q1) eV ∧ Nt w.heap.size D1 (.slice p1 (ws XV).length q1) XV ∧ Below wr.heap.size wr D1) := by
                    subst hD1
                    have hx1 := H1.out.2.trans (hb2.mono H1.out.2.size)
                    exact ⟨Dk.new _ _ _ _, (hN1.mono (Nat.le_trans HST.out.1.size H1.out.2.size)).below (below_alloc _ _), hx1.trans ((below_alloc _ _).mono hx1.size)⟩
                  clear hN1 hb2 H1
                  go_wp2_with fail
                  rw [← hD1]
                  clear hD1
                  have hbWB : Below WB.heap.size WB D1 := HST.out.2.1.trans (HD1.out.2.2.mono HST.out.2.1.size)
                  with_reducible refine (HFil.out D1 xs.reverse aob capb (HST.out.2.2.2.2.2.2.move hbWB hbWB.size) HA.out.2.2.1.rev (len_rev9 HA.out.1)).mono ?_
                  rintro r a3 ⟨rfl, hB3, hb3⟩
                  have H3 : Aside (Bz a3 D1.heap.size f (pkc (fx xs.reverse) 1 0 n) ∧ Below D1.heap.size D1 a3) := ⟨hB3, hb3⟩
                  clear hB3 hb3 hbWB
                  go_wp2_with fail
                  have hw3 : Below w.heap.size w a3 := (HST.out.1.trans (HD1.out.2.2.mono HST.out.1.size)).trans (H3.out.2.mono (Nat.le_trans HST.out.1.size HD1.out.2.2.size))
                  with_reducible refine (HTold.out a3 D1.heap.size _ hw3 H3.out.1 (by rw [HVN.out.2.2.2.2.1]; exact back_perm xs n HA.out.1)).mono ?_
                  rintro r a4 ⟨⟨v2, rfl, hN2⟩, hb4⟩
                  obtain ⟨p2, q2, rfl, _⟩ := hN2.arg (Nat.le_trans l1 (by decide))
                  obtain ⟨D2, hD2⟩ : ∃ D, D = a4.alloc (.cells #[.bool nV, .slice p2 (ws XV).length q2, .int .i64 eV] 33) := ⟨_, rfl⟩
                  have HD2 : Aside (Dk D2 a4.heap.size nV (.slice p2 (ws XV).length q2) eV ∧ Nt w.heap.size D2 (.slice p2 (ws XV).length q2) XV ∧ Dk D2 a2.heap.size nV (.slice p1 (ws XV).length q1) eV ∧ Nt w.heap.size D2 (.slice p1 (ws XV).length q1) XV ∧ Below wr.heap.size wr D2) := by
                    subst hD2
                    have hx1 := H3.out.2.trans (hb4.mono H3.out.2.size)
                    have hx2 := hx1.trans ((below_alloc a4 (.cells #[.bool nV, .slice p2 (ws XV).length q2, .int .i64 eV] 33)).mono hx1.size)
                    exact ⟨Dk.new _ _ _ _, (hN2.mono hw3.size).below (below_alloc _ _), HD1.out.1.below hx2, HD1.out.2.1.below hx2, HD1.out.2.2.trans (hx2.mono HD1.out.2.2.size)⟩
                  clear hN2 hb4 H3 HD1 hw3
                  have kp : D2.cell? ⟨b, off, none⟩ = some (.pointer (some ⟨g0, 0, none⟩)) := (HST.out.2.2.2.1.below HD2.out.2.2.2.2 HST.out.2.2.2.1.lt).cell off _ HST.out.2.2.2.2.1
                  have kp' : (a4.alloc (.cells #[.bool nV, .slice p2 (ws XV).length q2, .int .i64 eV] 33)).cell? ⟨b, off, none⟩ = some (.pointer (some ⟨g0, 0, none⟩)) := by rw [← hD2]; exact kp
                  have HHD := Aside.intro hD2
                  clear hD2
                  go_wp2_with fail
                  rw [← HHD.out]
                  clear HHD kp kp'
                  have hw5 : Below w.heap.size w D2 := HST.out.1.trans (HD2.out.2.2.2.2.mono HST.out.1.size)
                  with_reducible refine (HTold.out D2 g0 L0 hw5 (HST.out.2.2.1.below HD2.out.2.2.2.2 HST.out.2.2.1.lt) HST.out.2.2.2.2.2.1).mono ?_
                  rintro r a5 ⟨⟨v3, rfl, hN3⟩, hb5⟩
                  obtain ⟨p3, q3, rfl, _⟩ := hN3.arg (Nat.le_trans l1 (by decide))
                  obtain ⟨D3, hD3⟩ : ∃ D, D = a5.alloc (.cells #[.bool nV, .slice p3 (ws XV).length q3, .int .i64 eV] 33) := ⟨_, rfl⟩
                  have HD3 : Aside (Dk D3 a5.heap.size nV (.slice p3 (ws XV).length q3) eV ∧ Nt w.heap.size D3 (.slice p3 (ws XV).length q3) XV ∧ Dk D3 a4.heap.size nV (.slice p2 (ws XV).length q2) eV ∧ Nt w.heap.size D3 (.slice p2 (ws XV).length q2) XV ∧ Dk D3 a2.heap.size nV (.slice p1 (ws XV).length q1) eV ∧ Nt w.heap.size D3 (.slice p1 (ws XV).length q1) XV ∧ Below w.heap.size w D3) := by
                    subst hD3
                    have hx2 := hb5.trans ((below_alloc a5 (.cells #[.bool nV, .slice p3 (ws XV).length q3, .int .i64 eV] 33)).mono hb5.size)
                    exact ⟨Dk.new _ _ _ _, (hN3.mono hw5.size).below (below_alloc _ _), HD2.out.1.below hx2, HD2.out.2.1.below hx2, HD2.out.2.2.1.below hx2, HD2.out.2.2.2.1.below hx2, hw5.trans (hx2.mono hw5.size)⟩
                  have HHD3 := Aside.intro hD3
                  clear hD3 hN3 hb5 HD2 hw5 HTold HFil
                  go_upto_region 25 with fail
                  rw [← HHD3.out]
                  clear HHD3
                  obtain ⟨x0, x1, x2, _, _, _⟩ := HD3.out.2.2.2.2.1.facts
                  obtain ⟨y0, y1, y2, _, _, _⟩ := HD3.out.2.2.1.facts
                  go_wp2_with fail
                  with_reducible refine (HSame.out D3 p1 q1 p2 q2 (HD3.out.2.2.2.2.2.1.arg' (Nat.le_trans l1 (by decide))).2 (HD3.out.2.2.2.1.arg' (Nat.le_trans l1 (by decide))).2).mono ?_
                  rintro r b1 ⟨rfl, hb6⟩
                  have HD4 : Aside (Dk b1 a5.heap.size nV (.slice p3 (ws XV).length q3) eV ∧ Nt w.heap.size b1 (.slice p3 (ws XV).length q3) XV ∧ Dk b1 a2.heap.size nV (.slice p1 (ws XV).length q1) eV ∧ Nt w.heap.size b1 (.slice p1 (ws XV).length q1) XV ∧ Below w.heap.size w b1) := ⟨HD3.out.1.below hb6, HD3.out.2.1.below hb6, HD3.out.2.2.2.2.1.below hb6, HD3.out.2.2.2.2.2.1.below hb6, HD3.out.2.2.2.2.2.2.trans (hb6.mono HD3.out.2.2.2.2.2.2.size)⟩
                  clear hb6 HD3 x0 x1 x2 y0 y1 y2
                  obtain ⟨x0, x1, x2, _, _, _⟩ := HD4.out.2.2.1.facts
                  obtain ⟨y0, y1, y2, _, _, _⟩ := HD4.out.1.facts
                  go_wp2_with fail
                  with_reducible refine (HSame.out b1 p1 q1 p3 q3 (HD4.out.2.2.2.1.arg' (Nat.le_trans l1 (by decide))).2 (HD4.out.2.1.arg' (Nat.le_trans l1 (by decide))).2).mono ?_
                  rintro r b2 ⟨rfl, hb7⟩
                  have HD5 : Aside (Dk b2 a2.heap.size nV (.slice p1 (ws XV).length q1) eV ∧ Nt w.heap.size b2 (.slice p1 (ws XV).length q1) XV ∧ Below w.heap.size w b2) := ⟨HD4.out.2.2.1.below hb7, HD4.out.2.2.2.1.below hb7, HD4.out.2.2.2.2.trans (hb7.mono HD4.out.2.2.2.2.size)⟩
                  clear hb7 HD4 x0 x1 x2 y0 y1 y2 HSame
                  go_wp2_with fail
                  with_reducible refine (HAL.out _).mono ?_
                  rintro r b3 ⟨rfl, rfl⟩
                  go_wp2_with fail
                  with_reducible refine (HAL.out _).mono ?_
                  rintro r b4 ⟨rfl, rfl⟩
                  clear HAL
                  obtain ⟨G, hG⟩ : ∃ G, G = b4.heap.size := ⟨_, rfl⟩
                  obtain ⟨W5, hW5⟩ : ∃ W, W = b4.alloc (.cells #[.bool false, .slice none 0 0, .int .i64 0] 33) := ⟨_, rfl⟩
                  have HS0 : Aside (Sm w (pkc (fx xs) 1 0 0) G a2.heap.size nV (.slice p1 (ws XV).length q1) eV XV W5) := by
                    subst hW5
                    subst hG
                    have z0 : fo8 (fvL (pkc (fx xs) 1 0 0)) = some (false, 0, 0) := mkS_zero _ _
                    refine ⟨⟨.slice none 0 0, ?_, ?_⟩, HD5.out.1.below (below_alloc _ _), HD5.out.2.1.below (below_alloc _ _), HD5.out.2.2.trans ((below_alloc _ _).mono HD5.out.2.2.size), Nat.ne_of_lt HD5.out.1.lt, HD5.out.2.2.size⟩
                    · rw [z0]; exact Dk.new _ _ _ _
                    · rw [z0]; exact Nt.nil _ _
                  have HHW := Aside.intro hW5
                  have HHG := Aside.intro hG
                  clear hW5 hG HD5
                  go_wp2_with fail
                  rw [← HHW.out, ← HHG.out]
                  clear HHW HHG
                  have hEB := EB5
                  go_loopg [24] n (fun gk iv wq => ∃ i : Nat, gk + i = n ∧ iv = .int .i64 (i : Nat) ∧ Aside (Sm w (pkc (fx xs) 1 0 i) G a2.heap.size nV (.slice p1 (ws XV).length q1) eV XV wq))
                  case atStart => exact ⟨0, by omega, rfl, HS0⟩
                  case round =>
                    clear HS0 W5
                    obtain ⟨i, hgi, rfl, HL⟩ := hrel
                    by_cases hi : i < n
                    · have hi1 : decide ((i : Int) < (n : Int)) = true := by simp; omega
                      obtain ⟨b, off, hao, hc⟩ := HA.out.2.1.at HL.out.bel i (by have := HA.out.1; omega)
                      cases hao
                      obtain ⟨y, hy⟩ : ∃ y, y = xs.getD i 0 := ⟨_, rfl⟩
                      rw [← hy] at hc
                      have hyw : y < 18446744073709551616 := by rw [hy]; exact HA.out.2.2.1.get i
                      have hnx : pkc (fx xs) 1 0 (i + 1) = pkc (fx xs) 1 0 i ++ fz y := by rw [pkc_at _ 1 0 i (Nat.mod_one _), hy]; rfl
                      have HNX := Aside.intro hnx
                      have hFi := fz_fin xs HA.out.2.2.1 1 0 i
                      have hli := fz_len xs 1 0 i
                      have hvi : (fvL (pkc (fx xs) 1 0 i)).natAbs < 2 ^ EB := fvL_EB _ hFi (by omega)
                      have HVI := Aside.intro hvi
                      have HFN := Aside.intro (fz_fin xs HA.out.2.2.1 1 0 (i + 1))
                      clear hnx hFi hli hvi hy
                      by_cases hfy : magW y < 9218868437227405312
                      · have hfy2 : Wd y ∧ finW y := ⟨hyw, hfy⟩
                        have HO := hid (rof8 y hfy2 wr)
                        have hvy := fv_EB hfy2
                        have HVY := Aside.intro hvy
                        have hdl := (fo8_len (fvW y) EB (Nat.le_trans EB5 (by decide)) hvy).1
                        have HES : Aside (fvL (pkc (fx xs) 1 0 (i + 1)) = fvL (pkc (fx xs) 1 0 i) + fvW y) := by
                          rw [HNX.out]; unfold fz; rw [if_pos hfy]; exact Aside.intro (fvL_one _ _)
                        have HAD : Hid (∀ u a b c d, Arg u a (ws (dX (fo8 (fvL (pkc (fx xs) 1 0 i))))).length c (ws (dX (fo8 (fvL (pkc (fx xs) 1 0 i))))) → Arg u b (ws (dX (fo8 (fvW y)))).length d (ws (dX (fo8 (fvW y)))) → Calls Tryz.prog 31 #[.agg #[.bool (dN (fo8 (fvL (pkc (fx xs) 1 0 i)))), .slice a (ws (dX (fo8 (fvL (pkc (fx xs) 1 0 i))))).length c, .int .i64 (dE (fo8 (fvL (pkc (fx xs) 1 0 i))))], .agg #[.bool (dN (fo8 (fvW y))), .slice b (ws (dX (fo8 (fvW y)))).length d, .int .i64 (dE (fo8 (fvW y)))]] u fun r w' => (∃ v, r = .returned (.tuple #[.agg #[.bool (dN (fo8 (fvL (pkc (fx xs) 1 0 (i + 1))))), v, .int .i64 (dE (fo8 (fvL (pkc (fx xs) 1 0 (i + 1)))))], .int .i64 0]) ∧ Nt u.heap.size w' v (dX (fo8 (fvL (pkc (fx xs) 1 0 (i + 1)))))) ∧ Below u.heap.size u w') := hid (fun u a b c d A1 A2 => by
                          rw [HES.out]
                          exact radd8 (fvL (pkc (fx xs) 1 0 i)) (fvW y) EB EB5 HVI.out HVY.out u a b c d A1 A2)
                        have hsl := (fo8_len (fvL (pkc (fx xs) 1 0 i)) EB (Nat.le_trans EB5 (by decide)) HVI.out).1
                        have hsl2 := (fo8_len (fvL (pkc (fx xs) 1 0 (i + 1))) EB (Nat.le_trans EB5 (by decide)) (fvL_EB _ HFN.out (by have := fz_len xs 1 0 (i + 1); omega))).1
                        obtain ⟨sv, S1, S2⟩ := HL.out.sum
                        obtain ⟨nS, hnS⟩ : ∃ z, z = dN (fo8 (fvL (pkc (fx xs) 1 0 i))) := ⟨_, rfl⟩
                        obtain ⟨eS, heS⟩ : ∃ z, z = dE (fo8 (fvL (pkc (fx xs) 1 0 i))) := ⟨_, rfl⟩
                        obtain ⟨XS, hXS⟩ : ∃ z, z = dX (fo8 (fvL (pkc (fx xs) 1 0 i))) := ⟨_, rfl⟩
                        obtain ⟨nY, hnY⟩ : ∃ z, z = dN (fo8 (fvW y)) := ⟨_, rfl⟩
                        obtain ⟨eY, heY⟩ : ∃ z, z = dE (fo8 (fvW y)) := ⟨_, rfl⟩
                        obtain ⟨XY, hXY⟩ : ∃ z, z = dX (fo8 (fvW y)) := ⟨_, rfl⟩
                        obtain ⟨nZ, hnZ⟩ : ∃ z, z = dN (fo8 (fvL (pkc (fx xs) 1 0 (i + 1)))) := ⟨_, rfl⟩
                        obtain ⟨eZ, heZ⟩ : ∃ z, z = dE (fo8 (fvL (pkc (fx xs) 1 0 (i + 1)))) := ⟨_, rfl⟩
                        obtain ⟨XZ, hXZ⟩ : ∃ z, z = dX (fo8 (fvL (pkc (fx xs) 1 0 (i + 1)))) := ⟨_, rfl⟩
                        rw [← hnS, ← heS, ← hXS, ← hnY, ← heY, ← hXY, ← hnZ, ← heZ, ← hXZ] at HAD
                        rw [← hnY, ← heY, ← hXY] at HO
                        rw [← hXY] at hdl
                        rw [← hXS] at hsl S2
                        rw [← hXZ] at hsl2
                        rw [← hnS, ← heS] at S1
                        have HZN := Aside.intro (And.intro hnZ (And.intro heZ hXZ))
                        clear hnS heS hXS hnY heY hXY hnZ heZ hXZ hvy
                        obtain ⟨aS, cS, rfl, _⟩ := S2.arg (Nat.le_trans hsl (by decide))
                        have HSS := Aside.intro (And.intro S1 S2)
                        clear S1 S2
                        go_wp2_with fail
                        with_reducible refine HO.out.mono ?_
                        rintro r u1 ⟨⟨v6, rfl, hN6⟩, hb6⟩
                        obtain ⟨p6, q6, rfl, _⟩ := hN6.arg (Nat.le_trans hdl (by decide))
                        obtain ⟨U, hU⟩ : ∃ U, U = u1.alloc (.cells #[.bool nY, .slice p6 (ws XY).length q6, .int .i64 eY] 33) := ⟨_, rfl⟩
                        have HU : Aside (Dk U u1.heap.size nY (.slice p6 (ws XY).length q6) eY ∧ Arg U p6 (ws XY).length q6 (ws XY) ∧ Sm w (pkc (fx xs) 1 0 i) G a2.heap.size nV (.slice p1 (ws XV).length q1) eV XV U ∧ Dk U G nS (.slice aS (ws XS).length cS) eS ∧ Arg U aS (ws XS).length cS (ws XS)) := by
                          subst hU
                          have hbx := hb6.trans ((below_alloc u1 (.cells #[.bool nY, .slice p6 (ws XY).length q6, .int .i64 eY] 33)).mono hb6.size)
                          exact ⟨Dk.new _ _ _ _, ((hN6.below (below_alloc _ _)).arg' (Nat.le_trans hdl (by decide))).2, HL.out.below hbx, HSS.out.1.below hbx, ((HSS.out.2.below hbx).arg' (Nat.le_trans hsl (by decide))).2⟩
                        have HHU := Aside.intro hU
                        clear hU hN6 hb6 HO HL HSS hc
                        go_upto_region 33 with fail
                        rw [← HHU.out]
                        clear HHU
                        obtain ⟨x0, x1, x2, _, _, _⟩ := HU.out.1.facts
                        obtain ⟨y0, y1, y2, yf0, yf1, yf2⟩ := HU.out.2.2.2.1.facts
                        go_wp2_with fail
                        with_reducible refine (HAD.out U aS p6 cS q6 HU.out.2.2.2.2 HU.out.2.1).mono ?_
                        rintro r u2 ⟨⟨v7, rfl, hN7⟩, hb7⟩
                        obtain ⟨p7, q7, rfl, _⟩ := hN7.arg (Nat.le_trans hsl2 (by decide))
                        have DG := HU.out.2.2.2.1.below hb7
                        obtain ⟨z0, z1, z2, zf0, zf1, zf2⟩ := DG.facts
                        have HX : Aside (Sm w (pkc (fx xs) 1 0 (i + 1)) G a2.heap.size nV (.slice p1 (ws XV).length q1) eV XV (st3 u2 G (.bool nZ) (.slice p7 (ws XZ).length q7) (.int .i64 eZ))) := by
                          have := (HU.out.2.2.1.below hb7).set (M := pkc (fx xs) 1 0 (i + 1)) (v := .slice p7 (ws XZ).length q7) (by rw [← HZN.out.2.2]; exact hN7.mono HU.out.2.2.1.bel.size)
                          rw [← HZN.out.1, ← HZN.out.2.1] at this
                          exact this
                        unfold st3 at HX
                        clear HU HZN HAD hN7 hb7 DG x0 x1 x2 y0 y1 y2 yf0 yf1 yf2 HES HFN HVI HVY HNX
                        go_wp2
                        go_roundg (gk - 1)
                        case measure => omega
                        case rel => exact ⟨i + 1, by omega, by simp, HX⟩
                      · have HO := hid (rof9_odd y ⟨hyw, hfy⟩ wr)
                        have HES : Aside (pkc (fx xs) 1 0 (i + 1) = pkc (fx xs) 1 0 i) := by
                          rw [HNX.out]; unfold fz; rw [if_neg hfy, List.append_nil]; exact Aside.intro rfl
                        go_wp2_with fail
                        with_reducible refine HO.out.mono ?_
                        rintro r u1 ⟨⟨v6, nY, XY, eY, rfl, hN6, hdl⟩, hb6⟩
                        obtain ⟨p6, q6, rfl, _⟩ := hN6.arg (Nat.le_trans hdl (by decide))
                        have HX : Aside (Sm w (pkc (fx xs) 1 0 (i + 1)) G a2.heap.size nV (.slice p1 (ws XV).length q1) eV XV (u1.alloc (.cells #[.bool nY, .slice p6 (ws XY).length q6, .int .i64 eY] 33))) := by
                          rw [HES.out]
                          exact HL.out.below (hb6.trans ((below_alloc _ _).mono hb6.size))
                        clear hN6 hb6 HO HL HES HNX HFN HVI hc
                        go_wp2
                        go_roundg (gk - 1)
                        case measure => omega
                        case rel => exact ⟨i + 1, by omega, by simp, HX⟩
                    · have hi1 : decide ((i : Int) < (n : Int)) = false := by simp; omega
                      have HE : Aside (Sm w A G a2.heap.size nV (.slice p1 (ws XV).length q1) eV XV wr) := by
                        rw [HVN.out.2.2.2.2.1]; rw [show i = n by omega] at HL; exact HL
                      clear HL
                      have hzA : (fvL A).natAbs < 2 ^ EB := fvL_EB A HVN.out.2.2.2.2.2.1 HVN.out.2.2.2.2.2.2
                      have hkA : (kvz f A).natAbs < 2 ^ EB := kvz_EB f A HVN.out.2.2.2.2.2.1 (by have := HVN.out.2.2.2.2.2.2; omega)
                      obtain ⟨O, hO⟩ : ∃ O, O = fvL A - kvz f A := ⟨_, rfl⟩
                      have hOE : O.natAbs < 2 ^ (EB + 1) := by rw [hO, Nat.pow_succ]; omega
                      have hE1 : EB + 1 ≤ 100000 := by unfold EB; decide
                      have HSub : Hid (∀ u a b c d, Arg u a (ws (dX (fo8 (fvL A)))).length c (ws (dX (fo8 (fvL A)))) → Arg u b (ws (dX (fo8 (kvz f A)))).length d (ws (dX (fo8 (kvz f A)))) → Calls Tryz.prog 32 #[.agg #[.bool (dN (fo8 (fvL A))), .slice a (ws (dX (fo8 (fvL A)))).length c, .int .i64 (dE (fo8 (fvL A)))], .agg #[.bool (dN (fo8 (kvz f A))), .slice b (ws (dX (fo8 (kvz f A)))).length d, .int .i64 (dE (fo8 (kvz f A)))]] u fun r w' => (∃ v, r = .returned (.tuple #[.agg #[.bool (decide (O < 0)), v, .int .i64 (dE (fo8 O))], .int .i64 0]) ∧ Nt u.heap.size w' v (dX (fo8 O))) ∧ Below u.heap.size u w') := hid (fun u a b c d A1 A2 => by
                        have := rsub8 (fvL A) (kvz f A) EB EB5 hzA hkA u a b c d A1 A2
                        rw [← hO, dN_fo8 O (EB + 1) (by omega) hOE] at this
                        exact this)
                      have HNeg : Hid (∀ u a c, O < 0 → Arg u a (ws (dX (fo8 O))).length c (ws (dX (fo8 O))) → Calls Tryz.prog 33 #[.agg #[.bool true, .slice a (ws (dX (fo8 O))).length c, .int .i64 (dE (fo8 O))]] u fun r w' => (∃ v, r = .returned (.agg #[.bool (dN (fo8 (O.natAbs : Int))), v, .int .i64 (dE (fo8 (O.natAbs : Int)))]) ∧ Nt u.heap.size w' v (dX (fo8 (O.natAbs : Int)))) ∧ Below u.heap.size u w') := hid (fun u a c hneg A1 => by
                        have := rneg9 O (EB + 1) hE1 hOE u a c A1
                        rw [dN_fo8 O (EB + 1) (by omega) hOE, decide_eq_true hneg, show -O = (O.natAbs : Int) by omega] at this
                        exact this)
                      obtain ⟨lS, _, _, _⟩ := fo8_len (fvL A) EB (Nat.le_trans EB5 (by decide)) hzA
                      obtain ⟨lO, _, _, _⟩ := fo8_len O (EB + 1) (by omega) hOE
                      obtain ⟨lP, _, _, _⟩ := fo8_len (O.natAbs : Int) (EB + 1) (by omega) (by rw [Int.natAbs_natCast]; exact hOE)
                      have HSgS := hid (fun u a c A1 => rsign9 (fvL A) EB EB5 hzA u a c A1)
                      have HSgK := hid (fun u a c A1 => rsign9 (kvz f A) EB EB5 hkA u a c A1)
                      have HOO := Aside.intro (And.intro hO (And.intro hOE (And.intro hzA hkA)))
                      obtain ⟨sv, S1, S2⟩ := HE.out.sum
                      obtain ⟨aS, cS, rfl, _⟩ := S2.arg (Nat.le_trans lS (by decide))
                      rw [← HVN.out.1, ← HVN.out.2.1, ← HVN.out.2.2.1] at HSub HSgK
                      obtain ⟨nS, hnS⟩ : ∃ z, z = dN (fo8 (fvL A)) := ⟨_, rfl⟩
                      obtain ⟨eS, heS⟩ : ∃ z, z = dE (fo8 (fvL A)) := ⟨_, rfl⟩
                      obtain ⟨XS, hXS⟩ : ∃ z, z = dX (fo8 (fvL A)) := ⟨_, rfl⟩
                      obtain ⟨eO, heO⟩ : ∃ z, z = dE (fo8 O) := ⟨_, rfl⟩
                      obtain ⟨XO, hXO⟩ : ∃ z, z = dX (fo8 O) := ⟨_, rfl⟩
                      obtain ⟨nP, hnP⟩ : ∃ z, z = dN (fo8 (O.natAbs : Int)) := ⟨_, rfl⟩
                      obtain ⟨eP, heP⟩ : ∃ z, z = dE (fo8 (O.natAbs : Int)) := ⟨_, rfl⟩
                      obtain ⟨XP, hXP⟩ : ∃ z, z = dX (fo8 (O.natAbs : Int)) := ⟨_, rfl⟩
                      rw [← hnS, ← heS, ← hXS, ← heO, ← hXO] at HSub
                      rw [← heO, ← hXO, ← hnP, ← heP, ← hXP] at HNeg
                      rw [← hnS, ← heS, ← hXS] at HSgS
                      rw [← hXS] at lS S2
                      rw [← hXO] at lO
                      rw [← hXP] at lP
                      rw [← hnS, ← heS] at S1
                      rw [← hXS] at S1
                      have HSS := Aside.intro (And.intro S1 S2)
                      have HPN := Aside.intro (And.intro hnP (And.intro heP (And.intro hXP (And.intro heO hXO))))
                      obtain ⟨bO, hbO⟩ : ∃ z, z = decide (O < 0) := ⟨_, rfl⟩
                      rw [← hbO] at HSub
                      have HBO := Aside.intro hbO
                      clear S1 S2 hnS heS hXS heO hXO hnP heP hXP hO hOE hzA hkA hbO hE1
                      obtain ⟨x0, x1, x2, _, _, _⟩ := HSS.out.1.facts
                      obtain ⟨y0, y1, y2, _, _, _⟩ := HE.out.kd.facts
                      go_wp2_with fail
                      with_reducible refine (HSub.out wr aS p1 cS q1 (HSS.out.2.arg' (Nat.le_trans lS (by decide))).2 (HE.out.kn.arg' (Nat.le_trans l1 (by decide))).2).mono ?_
                      rintro r u1 ⟨⟨v6, rfl, hN6⟩, hb6⟩
                      obtain ⟨p6, q6, rfl, _⟩ := hN6.arg (Nat.le_trans lO (by decide))
                      obtain ⟨U, hU⟩ : ∃ U, U = u1.alloc (.cells #[.bool bO, .slice p6 (ws XO).length q6, .int .i64 eO] 33) := ⟨_, rfl⟩
                      have HU : Aside (Dk U u1.heap.size bO (.slice p6 (ws XO).length q6) eO ∧ Nt w.heap.size U (.slice p6 (ws XO).length q6) XO ∧ Sm w A G a2.heap.size nV (.slice p1 (ws XV).length q1) eV XV U ∧ Dk U G nS (.slice aS (ws XS).length cS) eS ∧ Nt w.heap.size U (.slice aS (ws XS).length cS) XS ∧ u1.heap.size ≠ G ∧ u1.heap.size ≠ a2.heap.size ∧ w.heap.size ≤ u1.heap.size) := by
                        subst hU
                        have hbx := hb6.trans ((below_alloc u1 (.cells #[.bool bO, .slice p6 (ws XO).length q6, .int .i64 eO] 33)).mono hb6.size)
                        exact ⟨Dk.new _ _ _ _, (hN6.mono HE.out.bel.size).below (below_alloc _ _), HE.out.below hbx, HSS.out.1.below hbx, HSS.out.2.below hbx, by have := HSS.out.1.lt; have := hb6.size; omega, by have := HE.out.kd.lt; have := hb6.size; omega, Nat.le_trans HE.out.bel.size hb6.size⟩
                      have HHU := Aside.intro hU
                      clear hU hN6 hb6 HE HSS x0 x1 x2 y0 y1 y2 HSub
                      go_upto_region 35 with fail
                      rw [← HHU.out]
                      clear HHU
                      obtain ⟨z0, z1, z2, zf0, zf1, zf2⟩ := HU.out.1.facts
                      go_upto_if 187 with fail
                      go_cut [27] from 188 to 189 (fun v wx => v = .pointer (some ⟨u1.heap.size, 0, none⟩) ∧ Aside (∃ p q, Dk wx u1.heap.size nP (.slice p (ws XP).length q) eP ∧ Nt w.heap.size wx (.slice p (ws XP).length q) XP ∧ Dk wx G nS (.slice aS (ws XS).length cS) eS ∧ Nt w.heap.size wx (.slice aS (ws XS).length cS) XS ∧ Dk wx a2.heap.size nV (.slice p1 (ws XV).length q1) eV ∧ Nt w.heap.size wx (.slice p1 (ws XV).length q1) XV ∧ Below w.heap.size w wx))
                      case first =>
                        cases bO
                        · have hpos : (O.natAbs : Int) = O := by have := of_decide_eq_false HBO.out.symm; omega
                          have HR : Aside (∃ p q, Dk U u1.heap.size nP (.slice p (ws XP).length q) eP ∧ Nt w.heap.size U (.slice p (ws XP).length q) XP ∧ Dk U G nS (.slice aS (ws XS).length cS) eS ∧ Nt w.heap.size U (.slice aS (ws XS).length cS) XS ∧ Dk U a2.heap.size nV (.slice p1 (ws XV).length q1) eV ∧ Nt w.heap.size U (.slice p1 (ws XV).length q1) XV ∧ Below w.heap.size w U) := by
                            have e1 : nP = false := by rw [HPN.out.1, hpos, dN_fo8 O (EB + 1) (by unfold EB; decide) HOO.out.2.1]; exact HBO.out.symm
                            have e2 : eP = eO := by rw [HPN.out.2.1, hpos, ← HPN.out.2.2.2.1]
                            have e3 : XP = XO := by rw [HPN.out.2.2.1, hpos, ← HPN.out.2.2.2.2]
                            rw [e1, e2, e3]
                            exact ⟨p6, q6, HU.out.1, HU.out.2.1, HU.out.2.2.2.1, HU.out.2.2.2.2.1, HU.out.2.2.1.kd, HU.out.2.2.1.kn, HU.out.2.2.1.bel⟩
                          clear HU
                          go_wp2_with fail
                          go_meet
                          case rel => exact ⟨rfl, HR⟩
                        · have hneg : O < 0 := of_decide_eq_true HBO.out.symm
                          go_wp2_with fail
                          with_reducible refine (HNeg.out U p6 q6 hneg (HU.out.2.1.arg' (Nat.le_trans lO (by decide))).2).mono ?_
                          rintro r u2 ⟨⟨v7, rfl, hN7⟩, hb7⟩
                          obtain ⟨p7, q7, rfl, _⟩ := hN7.arg (Nat.le_trans lP (by decide))
                          have DZ := HU.out.1.below hb7
                          have hbt := st3_but8 u1.heap.size u2 (.bool nP) (.slice p7 (ws XP).length q7) (.int .i64 eP)
                          have SmZ := HU.out.2.2.1.below hb7
                          have HR : Aside (∃ p q, Dk (st3 u2 u1.heap.size (.bool nP) (.slice p7 (ws XP).length q7) (.int .i64 eP)) u1.heap.size nP (.slice p (ws XP).length q) eP ∧ Nt w.heap.size (st3 u2 u1.heap.size (.bool nP) (.slice p7 (ws XP).length q7) (.int .i64 eP)) (.slice p (ws XP).length q) XP ∧ Dk (st3 u2 u1.heap.size (.bool nP) (.slice p7 (ws XP).length q7) (.int .i64 eP)) G nS (.slice aS (ws XS).length cS) eS ∧ Nt w.heap.size (st3 u2 u1.heap.size (.bool nP) (.slice p7 (ws XP).length q7) (.int .i64 eP)) (.slice aS (ws XS).length cS) XS ∧ Dk (st3 u2 u1.heap.size (.bool nP) (.slice p7 (ws XP).length q7) (.int .i64 eP)) a2.heap.size nV (.slice p1 (ws XV).length q1) eV ∧ Nt w.heap.size (st3 u2 u1.heap.size (.bool nP) (.slice p7 (ws XP).length q7) (.int .i64 eP)) (.slice p1 (ws XV).length q1) XV ∧ Below w.heap.size w (st3 u2 u1.heap.size (.bool nP) (.slice p7 (ws XP).length q7) (.int .i64 eP))) :=
                            ⟨p7, q7, DZ.set _ _ _, (hN7.mono HU.out.2.2.1.bel.size).dk8 DZ hbt, (HU.out.2.2.2.1.below hb7).but8 hbt (Ne.symm HU.out.2.2.2.2.2.1), (HU.out.2.2.2.2.1.below hb7).dk8 DZ hbt, SmZ.kd.but8 hbt (Ne.symm HU.out.2.2.2.2.2.2.1), SmZ.kn.dk8 DZ hbt, But.below SmZ.bel hbt SmZ.bel.size HU.out.2.2.2.2.2.2.2⟩
                          unfold st3 at HR
                          obtain ⟨t0, t1, t2, tf0, tf1, tf2⟩ := DZ.facts
                          clear HU DZ hbt SmZ hN7 hb7
                          go_wp2_with fail
                          go_meet
                          case rel => exact ⟨rfl, HR⟩
                      case rest =>
                        obtain ⟨rfl, HR⟩ := hcut
                        clear HU z0 z1 z2 zf0 zf1 zf2 HNeg
                        obtain ⟨pP, qP, r1, r2, r3, r4, r5, r6, r7⟩ := HR.out
                        have HRR := Aside.intro (And.intro r1 (And.intro r2 (And.intro r3 (And.intro r4 (And.intro r5 (And.intro r6 r7))))))
                        clear r1 r2 r3 r4 r5 r6 r7 HR
                        have hcase : (Wd x ∧ finW x ∧ ((fvW x = 0 ∧ fvL A = 0 ∧ kvz f A = 0) ∨ (0 < fvW x ∧ (O.natAbs : Int) < fvW x))) ∨ x = 9218868437227405312 := by
                          have hxx := HVN.out.2.2.2.1
                          by_cases hT : tL (ZL A) = -1
                          · obtain ⟨n1, n2, n3⟩ := alike_none f A hT
                            rw [n1] at hxx
                            subst hxx
                            exact .inl ⟨by unfold Wd; decide, by unfold finW magW; decide, .inl ⟨by kernel_rfl, n2, n3⟩⟩
                          · obtain ⟨n1, n2⟩ := alike_bound f A hf0 hf HVN.out.2.2.2.2.2.1 (by have := HVN.out.2.2.2.2.2.2; omega) (by have := tL_ge (ZL A); omega)
                            rw [← hxx] at n1 n2
                            by_cases q : x < 9218868437227405312
                            · obtain ⟨m1, m2⟩ := n2 q
                              obtain ⟨_, _, q3, _⟩ := pos_word q
                              exact .inl ⟨q3.1, q3.2, .inr ⟨m1, by rw [HOO.out.1]; exact m2⟩⟩
                            · exact .inr (by omega)
                        rcases hcase with ⟨hw1, hw2, hor⟩ | rfl
                        · have hwx : Wd x ∧ finW x := ⟨hw1, hw2⟩
                          have HOR := Aside.intro hor
                          have hvx := fv_EB hwx
                          have HO := hid (rof8 x hwx)
                          have HSgB := hid (fun u a c A1 => rsign9 (fvW x) EB EB5 hvx u a c A1)
                          have hE2 : 2 ^ EB ≤ 2 ^ (EB + 1) := Nat.pow_le_pow_right (by decide) (by omega)
                          have HCmp := hid (fun u a b c d A1 A2 => rcmp9 (O.natAbs : Int) (fvW x) (EB + 1) (by unfold EB; decide) (by rw [Int.natAbs_natCast]; exact HOO.out.2.1) (by omega) u a b c d A1 A2)
                          have lB := (fo8_len (fvW x) EB (Nat.le_trans EB5 (by decide)) hvx).1
                          rw [← HPN.out.1, ← HPN.out.2.1, ← HPN.out.2.2.1] at HCmp
                          obtain ⟨nB, hnB⟩ : ∃ z, z = dN (fo8 (fvW x)) := ⟨_, rfl⟩
                          obtain ⟨eB, heB⟩ : ∃ z, z = dE (fo8 (fvW x)) := ⟨_, rfl⟩
                          obtain ⟨XB, hXB⟩ : ∃ z, z = dX (fo8 (fvW x)) := ⟨_, rfl⟩
                          rw [← hnB, ← heB, ← hXB] at HO HSgB HCmp
                          rw [← hXB] at lB
                          clear hnB heB hXB hor hvx hE2 hw1 hw2 hwx
                          go_wp2_with fail
                          with_reducible refine (HO.out _).mono ?_
                          rintro r c1 ⟨⟨vb, rfl, hNb⟩, hbb⟩
                          obtain ⟨pb, qb, rfl, _⟩ := hNb.arg (Nat.le_trans lB (by decide))
                          obtain ⟨UB, hUB⟩ : ∃ U, U = c1.alloc (.cells #[.bool nB, .slice pb (ws XB).length qb, .int .i64 eB] 33) := ⟨_, rfl⟩
                          have HUB : Aside (Dk UB c1.heap.size nB (.slice pb (ws XB).length qb) eB ∧ Nt w.heap.size UB (.slice pb (ws XB).length qb) XB ∧ Below wc.heap.size wc UB) := by
                            subst hUB
                            exact ⟨Dk.new _ _ _ _, (hNb.mono HRR.out.2.2.2.2.2.2.size).below (below_alloc _ _), hbb.trans ((below_alloc _ _).mono hbb.size)⟩
                          have HHB := Aside.intro hUB
                          clear hUB hNb hbb HO
                          go_upto_region 40 with fail
                          rw [← HHB.out]
                          clear HHB
                          obtain ⟨x0, x1, x2, _, _, _⟩ := HUB.out.1.facts
                          go_wp2_with fail
                          with_reducible refine (HSgB.out UB pb qb (HUB.out.2.1.arg' (Nat.le_trans lB (by decide))).2).mono ?_
                          rintro r c2 ⟨⟨z, rfl, hz⟩, hbz⟩
                          have hbc : Below wc.heap.size wc c2 := HUB.out.2.2.trans (hbz.mono HUB.out.2.2.size)
                          have HC2 : Aside (Dk c2 c1.heap.size nB (.slice pb (ws XB).length qb) eB ∧ Nt w.heap.size c2 (.slice pb (ws XB).length qb) XB ∧ Dk c2 u1.heap.size nP (.slice pP (ws XP).length qP) eP ∧ Nt w.heap.size c2 (.slice pP (ws XP).length qP) XP ∧ Dk c2 G nS (.slice aS (ws XS).length cS) eS ∧ Nt w.heap.size c2 (.slice aS (ws XS).length cS) XS ∧ Dk c2 a2.heap.size nV (.slice p1 (ws XV).length q1) eV ∧ Nt w.heap.size c2 (.slice p1 (ws XV).length q1) XV ∧ Below w.heap.size w c2) := ⟨HUB.out.1.below hbz, HUB.out.2.1.below hbz, HRR.out.1.below hbc, HRR.out.2.1.below hbc, HRR.out.2.2.1.below hbc, HRR.out.2.2.2.1.below hbc, HRR.out.2.2.2.2.1.below hbc, HRR.out.2.2.2.2.2.1.below hbc, HRR.out.2.2.2.2.2.2.trans (hbc.mono HRR.out.2.2.2.2.2.2.size)⟩
                          clear hbc hbz HUB HRR HSgB x0 x1 x2
                          rcases HOR.out with ⟨o1, o2, o3⟩ | ⟨o1, o2⟩
                          · obtain rfl : z = 0 := by rw [o1] at hz; simpa using hz
                            obtain ⟨y0, y1, y2, _, _, _⟩ := HC2.out.2.2.2.2.1.facts
                            have HS1 : Hid (∀ u a c, Arg u a (ws XS).length c (ws XS) → Calls Tryz.prog 34 #[.agg #[.bool nS, .slice a (ws XS).length c, .int .i64 eS]] u fun r w' => r = .returned (.int .i64 0) ∧ Below u.heap.size u w') := hid (fun u a c A1 => by
                              refine (HSgS.out u a c A1).mono ?_
                              rintro r w' ⟨⟨z, rfl, hz⟩, hb⟩
                              rw [o2] at hz
                              exact ⟨by rw [show z = 0 by simpa using hz], hb⟩)
                            have HS2 : Hid (∀ u a c, Arg u a (ws XV).length c (ws XV) → Calls Tryz.prog 34 #[.agg #[.bool nV, .slice a (ws XV).length c, .int .i64 eV]] u fun r w' => r = .returned (.int .i64 0) ∧ Below u.heap.size u w') := hid (fun u a c A1 => by
                              refine (HSgK.out u a c A1).mono ?_
                              rintro r w' ⟨⟨z, rfl, hz⟩, hb⟩
                              rw [o3] at hz
                              exact ⟨by rw [show z = 0 by simpa using hz], hb⟩)
                            clear hz o1 o2 o3 HSgS HSgK HCmp
                            go_wp2_with fail
                            with_reducible refine (HS1.out c2 aS cS (HC2.out.2.2.2.2.2.1.arg' (Nat.le_trans lS (by decide))).2).mono ?_
                            rintro r c3 ⟨rfl, hb3⟩
                            obtain ⟨k0, k1, k2, _, _, _⟩ := (HC2.out.2.2.2.2.2.2.1.below hb3).facts
                            have HC3 : Aside (Nt w.heap.size c3 (.slice p1 (ws XV).length q1) XV ∧ Below w.heap.size w c3) := ⟨HC2.out.2.2.2.2.2.2.2.1.below hb3, HC2.out.2.2.2.2.2.2.2.2.trans (hb3.mono HC2.out.2.2.2.2.2.2.2.2.size)⟩
                            clear hb3 HC2 y0 y1 y2
                            go_wp2_with fail
                            with_reducible refine (HS2.out c3 p1 q1 (HC3.out.1.arg' (Nat.le_trans l1 (by decide))).2).mono ?_
                            rintro r c4 ⟨rfl, hb4⟩
                            have HC4 := Aside.intro (HC3.out.2.trans (hb4.mono HC3.out.2.size))
                            clear hb4 HC3
                            go_wp2
                            go_ret
                            exact ⟨rfl, HC4.out⟩
                          · have hz2 : (z == 0) = false := by rw [hz]; simp; omega
                            have hzn : ¬ z = 0 := by simpa using hz2
                            obtain ⟨y0, y1, y2, _, _, _⟩ := HC2.out.2.2.1.facts
                            obtain ⟨k0, k1, k2, _, _, _⟩ := HC2.out.1.facts
                            have hcz : cmpZ (O.natAbs : Int) (fvW x) = -1 := by unfold cmpZ; rw [if_pos o2]
                            rw [hcz] at HCmp
                            clear hz o1 o2 HSgS HSgK hcz
                            go_wp2_with fail
                            with_reducible refine (HCmp.out c2 pP pb qP qb (HC2.out.2.2.2.1.arg' (Nat.le_trans lP (by decide))).2 (HC2.out.2.1.arg' (Nat.le_trans lB (by decide))).2).mono ?_
                            rintro r c3 ⟨rfl, hb3⟩
                            have HC3 := Aside.intro (HC2.out.2.2.2.2.2.2.2.2.trans (hb3.mono HC2.out.2.2.2.2.2.2.2.2.size))
                            clear hb3 HC2 y0 y1 y2 k0 k1 k2
                            go_wp2
                            go_ret
                            exact ⟨rfl, HC3.out⟩
                        · have HO := hid (rof9_odd 9218868437227405312 ⟨by unfold Wd; decide, by unfold finW magW; decide⟩)
                          have hgt := size_pos9
                          go_wp2_with fail
                          with_reducible refine (HO.out _).mono ?_
                          rintro r c1 ⟨⟨vb, nB, XB, eB, rfl, hNb, hdl⟩, hbb⟩
                          obtain ⟨pb, qb, rfl, _⟩ := hNb.arg (Nat.le_trans hdl (by decide))
                          have HC := Aside.intro ((HRR.out.2.2.2.2.2.2.trans (hbb.mono HRR.out.2.2.2.2.2.2.size)).trans ((below_alloc c1 (.cells #[.bool nB, .slice pb (ws XB).length qb, .int .i64 eB] 33)).mono (Nat.le_trans HRR.out.2.2.2.2.2.2.size hbb.size)))
                          clear hNb hbb HO HRR
                          go_wp2
                          go_ret
                          exact ⟨rfl, HC.out⟩
end Go.Proofs.YtjpaocgimdinmaaGreatDoor

/- BinsAlike: the early ways; what came in. -/
namespace Go.Proofs.YtjpaocgimdinmaaGreatDoor
open Go Go.RowKit
set_option linter.unusedVariables false
set_option maxRecDepth 20000
set_option linter.unusedSimpArgs false

set_option maxHeartbeats 1000000 in
theorem alike_fold (fold : Int) (ao : Option Addr) (n cap : Nat) (shares : Int) (w : World) (hT : Tab w) (hf : fold < 1 ∨ 8 < fold) :
    Calls Tryz.prog 6 #[.int .i64 fold, .slice ao n cap, .int .i64 shares] w fun r w' => r = .returned (.bool true) ∧ Below w.heap.size w w' := by
  have HAW := hid (awake9 w hT)
  have HN := hid (fun u => New9_no fold u hf)
  clear hT hf
  go_enter Tryz.func6, Tryz.ntmps6
  go_wp2_with fail
  with_reducible refine HAW.out.mono ?_
  rintro r w1 ⟨rfl, hb1⟩
  have HB1 := Aside.intro hb1
  clear hb1 HAW
  go_wp2_with fail
  with_reducible refine (HN.out _).mono ?_
  rintro r w2 ⟨rfl, rfl⟩
  go_wp2
  go_ret
  exact ⟨rfl, HB1.out⟩
set_option maxHeartbeats 1000000 in
theorem alike_long (f : Nat) (ao : Option Addr) (n cap : Nat) (shares : Int) (w : World) (hT : Tab w) (hf0 : 1 ≤ f) (hf : f ≤ 8) (hn : 4000 < n) :
    Calls Tryz.prog 6 #[.int .i64 f, .slice ao n cap, .int .i64 shares] w fun r w' => r = .returned (.bool true) ∧ Below w.heap.size w w' := by
  have HAW := hid (awake9 w hT)
  have HN := hid (fun u => New9 f u hf0 hf)
  have d4 : decide (4000 < (n : Int)) = true := by simp; omega
  clear hT hf hf0
  go_enter Tryz.func6, Tryz.ntmps6
  go_wp2_with fail
  with_reducible refine HAW.out.mono ?_
  rintro r w1 ⟨rfl, hb1⟩
  have HB1 := Aside.intro hb1
  clear hb1 HAW
  go_wp2_with fail
  with_reducible refine (HN.out _).mono ?_
  rintro r w2 ⟨rfl, _, hb2⟩
  have HB2 := Aside.intro (HB1.out.trans (hb2.mono HB1.out.size))
  clear hb2
  go_wp2
  go_ret
  exact ⟨rfl, HB2.out⟩
theorem walk2_BinsAlike (fold : Int) (o1 : Option Addr) (n1 c1 : Nat) (x1 : List Nat) (shares : Int) (w : World) (hT : Tab w) (w0 : (Lit.int .i64 fold).wf = true) (w1 : CameF w o1 n1 c1 x1) (w2 : (Lit.int .i64 shares).wf = true)
    (b1 : n1 ≤ 17592186043904) :
    Calls Tryz.prog 6 #[.int .i64 fold, .slice o1 n1 c1, .int .i64 shares] w fun r w' => r = .returned (.bool true) ∧ Below w.heap.size w w' := by
  by_cases hf : fold < 1 ∨ 8 < fold
  · exact alike_fold fold o1 n1 c1 shares w hT hf
  · obtain ⟨f, rfl⟩ : ∃ f : Nat, fold = f := ⟨fold.toNat, by omega⟩
    by_cases hn : 4000 < n1
    · exact alike_long f o1 n1 c1 shares w hT (by omega) (by omega) hn
    · by_cases hs : 1 ≤ shares ∧ shares ≤ 64
      · exact alike_main f shares.toNat x1 o1 n1 c1 shares w hT (by omega) (by omega) w1.len (by omega) w1.rd w1.wf (.inl ⟨hs.1, hs.2, by omega⟩) (by omega) (by omega)
      · exact alike_main f (1 + n1 % 7) x1 o1 n1 c1 shares w hT (by omega) (by omega) w1.len (by omega) w1.rd w1.wf (.inr ⟨by omega, rfl⟩) (by omega) (by omega)
end Go.Proofs.YtjpaocgimdinmaaGreatDoor

