/- nearRoot: the root, or one more. -/
import Derived.Test.YtlhiccmdhnhdeaaDoorW21
import Derived.Test.YtlhiccmdhnhdeaaDoorW8
import Derived.Test.YtlhiccmdhnhdeaaDoorM9
namespace Go.Proofs.YtlhiccmdhnhdeaaDoor
open Go.RowKit
set_option linter.unusedVariables false
set_option maxRecDepth 20000

theorem div_any (xs ys : List Nat) (ao bo : Option Addr) (n cap m capb B : Nat) (w : World) (hn : n = xs.length) (hm : m = ys.length) (hm0 : 0 < m) (hc : n ≤ cap) (hcb : m ≤ capb) (hbig : n ≤ 35184372088833)
    (hx : Wf xs) (hy : Wf ys) (htop : ys.getD (m - 1) 0 ≠ 0) (hR : Rd B w ao xs) (hS : Rd B w bo ys) (hB : B ≤ w.heap.size) :
    Calls Tryd.prog 99 #[.slice ao n cap, .slice bo m capb] w fun r w' => Two w.heap.size w' r (val xs / val ys) (val xs % val ys) ∧ Below w.heap.size w w' := by
  by_cases h1 : n < m
  · exact div_less xs ys ao bo n cap m capb B w hn hm h1 hc hbig hx hy htop hR hB
  · by_cases h2 : m = 1
    · subst h2
      exact div_one xs ys ao bo n cap capb B w hn hm (by omega) hc hcb hbig hx hy htop hR hS hB
    · exact div_long xs ys ao bo n cap m capb B w hn hm (by omega) (by omega) hc hcb hbig hx hy htop hR hS hB

theorem ws_top (X : Nat) (h : X ≠ 0) : (ws X).getD ((ws X).length - 1) 0 ≠ 0 := by
  have h1 : nl (ws X) ≠ 0 := by rw [nl_ws]; intro e; exact h ((ws_len_zero X).1 e)
  have := nl_last (ws X) h1
  rwa [nl_ws] at this

theorem ws_len_mono {X Y : Nat} (h : X ≤ Y) : (ws X).length ≤ (ws Y).length := (ws_len_le X _).2 (Nat.lt_of_le_of_lt h (ws_len_lt Y))

/-- The Nat of one word 1. -/
theorem Nt.one (w : World) : Nt w.heap.size (w.alloc (.cells #[.int .u32 1] 57)) (.slice (some ⟨w.heap.size, 0, none⟩) 1 1) 1 := by
  have hO : Own (w.alloc (.cells #[.int .u32 1] 57)) w.heap.size [1] := by unfold Own; rw [heap_alloc_new]; rfl
  have := Nt.ofOwn (lo := w.heap.size) hO (Nat.le_refl _) (Wf.cons (by omega) Wf.nil) (by simp [maxLen])
  exact this
theorem ws_one : ws 1 = [1] := by rw [ws_pos 1 (by omega), show 1 / 4294967296 = 0 from rfl, ws_zero]

set_option maxHeartbeats 4000000 in
theorem nearRoot_any (xs : List Nat) (ao : Option Addr) (n cap B : Nat) (w : World) (hn : n = xs.length) (hc : n ≤ cap) (hbig : n ≤ 35184372088832) (hx : Wf xs) (hX0 : val xs ≠ 0) (hR : Rd B w ao xs) (hB : B ≤ w.heap.size) :
    Calls Tryd.prog 102 #[.slice ao n cap] w fun r w' => ∃ v A, r = .returned v ∧ Nt w.heap.size w' v A ∧ (A - 1) * (A - 1) < val xs ∧ val xs < (A + 1) * (A + 1) ∧ 0 < A ∧ A ≤ val xs ∧ Below w.heap.size w w' := by
  obtain ⟨c, hc'⟩ : ∃ c, c = (bl (val xs) - 1) / 2 := ⟨_, rfl⟩
  have hb0 := bl_pos _ hX0
  have hb1 := bl_ge _ hX0
  have hb2 := bl_lt (val xs)
  have hbn : bl (val xs) ≤ 32 * n := by
    have h1 := val_lt xs hx
    rw [← hn] at h1
    have h2 : pw n = 2 ^ (32 * n) := by rw [← Nat.add_zero (32 * n), pw_two]; simp
    rw [h2] at h1
    have := (Nat.pow_lt_pow_iff_right (a := 2) (by decide)).1 (Nat.lt_of_le_of_lt hb1 h1)
    omega
  have hcX : 4 ^ c ≤ val xs := by
    have : (4 : Nat) = 2 ^ 2 := rfl
    rw [this, ← Nat.pow_mul]
    exact Nat.le_trans (Nat.pow_le_pow_right (by decide) (by omega)) hb1
  have hcX2 : val xs < 4 ^ (c + 1) := by
    have : (4 : Nat) = 2 ^ 2 := rfl
    rw [this, ← Nat.pow_mul]
    exact Nat.lt_of_lt_of_le hb2 (Nat.pow_le_pow_right (by decide) (by omega))
  have L1 := hid (len_any xs ao n cap B w hn hc (by omega) hx hR)
  have hbb : bl (val xs) ≤ 1125899906842624 := by omega
  have eL : ((bl (val xs) : Nat) : Int) - 1 = ((bl (val xs) - 1 : Nat) : Int) := by omega
  obtain ⟨bb, hbbe⟩ : ∃ bb, bl (val xs) = bb := ⟨_, rfl⟩
  rw [hbbe] at L1 hc' hb0 hbb hbn
  have e1 : ((bb : Int) - 1) / 2 = (c : Int) := by omega
  have hcb : c ≤ 562949953421312 := by omega
  have L2 := hid (fun w => blen_any c w (by omega))
  have hsp := near_start (val xs) c hcX hcX2
  have HH := (Aside.intro (And.intro hn (And.intro hx (And.intro hX0 (And.intro hR (And.intro hcX hsp))))))
  obtain ⟨X, hXe⟩ : ∃ X, val xs = X := ⟨_, rfl⟩
  rw [hXe] at HH ⊢
  have HX := (Aside.intro (And.intro hXe hbn))
  have hbc : bl c ≤ 64 := by
    by_cases h0 : c = 0
    · rw [h0]; decide
    · have h1 := bl_ge c h0
      have : 2 ^ (bl c - 1) < 2 ^ 63 := by omega
      have := (Nat.pow_lt_pow_iff_right (a := 2) (by decide)).1 this
      omega
  have hbl1 := bl_lt c
  have hbl2 := bl_ge c
  have HC := (Aside.intro (And.intro hbl1 hbl2))
  obtain ⟨t0, ht0⟩ : ∃ t, bl c = t := ⟨_, rfl⟩
  rw [ht0] at L2 hbc HC
  have HC0 : Aside (0 < t0 → c ≠ 0) := by intro h1 h2; rw [← ht0, h2] at h1; exact absurd h1 (by decide)
  clear hn hx hX0 hR hcX hcX2 hb0 hb1 hb2 hbn eL hbbe hc' hsp hXe ht0 hbl1 hbl2
  go_enter Tryd.func102, Tryd.ntmps102
  go_wp2_with fail
  refine (Calls.mono L1.out) ?_
  rintro r w0 ⟨rfl, rfl⟩
  go_wp2_with fail
  refine (Calls.mono (L2.out _)) ?_
  rintro r w1 ⟨rfl, rfl⟩
  clear L1 L2
  go_wp2
  go_loopg [4, 5, 6] t0 (fun gk rv ev sv wr => ∃ (A e : Nat) (ra : Option Addr) (rc : Nat), rv = .slice ra (ws A).length rc ∧ ev = .int .i64 (e : Nat) ∧ sv = .int .i64 ((gk : Int) - 1) ∧ gk ≤ t0 ∧
      Aside (e = c / 2 ^ gk ∧ Near X c e A ∧ Nt w0.heap.size wr (.slice ra (ws A).length rc) A ∧ Below w0.heap.size w0 wr))
  case atStart =>
    obtain ⟨hn, hx, hX0, hR, hcX, hsp⟩ := HH.out
    refine ⟨1, 0, some ⟨w0.heap.size, 0, none⟩, 1, by rw [ws_one]; rfl, rfl, rfl, Nat.le_refl _, ?_, hsp, ?_, (Below.refl _ _).alloc (Nat.le_refl _) _⟩
    · rw [Nat.div_eq_of_lt HC.out.1]
    · rw [ws_one]; exact Nt.one w0
  case round =>
    obtain ⟨A, e, ra, rc, rfl, rfl, rfl, hk, HA⟩ := hrel
    by_cases hk0 : gk = 0
    · subst hk0
      go_wp2
      go_ret
      obtain ⟨he, hN, hNt, hbel⟩ := HA.out
      rw [Nat.pow_zero, Nat.div_one] at he
      subst he
      obtain ⟨h1, h2⟩ := near_end X e A hN
      exact ⟨_, A, rfl, hNt, h1, h2, hN.2.2.2, near_le _ _ _ _ hN, hbel⟩
    · obtain ⟨s, rfl⟩ : ∃ s, gk = s + 1 := ⟨gk - 1, by omega⟩
      obtain ⟨d, hd⟩ : ∃ d, d = c / 2 ^ s := ⟨_, rfl⟩
      have ed : (c : Int) / 2 ^ s = (d : Int) := by rw [hd]; simp
      obtain ⟨he, hN, hNt, hbel⟩ := HA.out
      have he2 : e = d / 2 := by rw [he, hd, Nat.pow_succ, Nat.div_div_eq_div_mul]
      have hd1 : 1 ≤ d := by
        have hc0 : c ≠ 0 := HC0.out (by omega)
        have := HC.out.2 hc0
        rw [hd, Nat.le_div_iff_mul_le (Nat.two_pow_pos s), Nat.one_mul]
        exact Nat.le_trans (Nat.pow_le_pow_right (by decide) (by omega)) this
      have hdc : d ≤ c := by rw [hd]; exact Nat.div_le_self _ _
      have hed : e < d := by omega
      have hd2 : d ≤ 2 * e + 1 := by omega
      obtain ⟨hn, hx, hX0, hR, hcX, hsp⟩ := HH.out
      obtain ⟨hXe, hbn⟩ := HX.out
      obtain ⟨D, hD⟩ : ∃ D, D = 2 * c - e - d + 1 := ⟨_, rfl⟩
      obtain ⟨sh, hsh⟩ : ∃ sh, sh = d - e - 1 := ⟨_, rfl⟩
      have eD : 2 * (c : Int) - e - d + 1 = (D : Int) := by omega
      have eS : (d : Int) - e - 1 = (sh : Int) := by omega
      have hstep := near_step X c e d A _ hcX hed hd2 hdc hN rfl
      rw [← hD, ← hsh] at hstep
      have hs0 := hbel.size
      have D1 := hid (down_any xs ao n cap B D (D / 32) (D % 32) wr hn hc (by omega) (by omega) (by omega) (by omega) hx (hR.below (hbel.mono hB)) (by omega))
      rw [hXe] at D1
      have hcn : c ≤ 16 * n := by omega
      have hnX : X < pw n := by rw [← hXe, hn]; exact val_lt xs hx
      have hAX := near_le _ _ _ _ hN
      have hA0 := hN.2.2.2
      have HI := (Aside.intro (And.intro hd (And.intro he2 (And.intro hstep (And.intro hs0 (And.intro hnX (And.intro hAX hA0)))))))
      have hedi : (e : Int) < (d : Int) := by omega
      have hdci : (d : Int) ≤ (c : Int) := by omega
      clear hd he hN hNt hbel he2 hd1 hdc hed hd2 hn hx hX0 hR hcX hsp hXe hbn hD hsh hstep hs0 hnX hAX hA0 hk0
      go_wp2_with fail
      try rw [eD]
      refine (Calls.mono D1.out) ?_
      rintro r w2 ⟨v2, rfl, hN2, hb2⟩
      obtain ⟨a2, c2, rfl, hc2, hc2m, hR2⟩ := hN2.shape
      obtain ⟨he, hN, hNt, hbel⟩ := HA.out
      obtain ⟨hd, he2, hstep, hs0, hnX, hAX, hA0⟩ := HI.out
      have hNt2 := hNt.below hb2
      obtain ⟨ra2, rc2, hsl, hrc, hrcm, hRr⟩ := hNt2.shape
      cases hsl
      have hT := Nat.div_le_self X (2 ^ D)
      have hlT : (ws (X / 2 ^ D)).length ≤ n := (ws_len_le _ _).2 (Nat.lt_of_le_of_lt hT hnX)
      have hlA : (ws A).length ≤ n := (ws_len_le _ _).2 (Nat.lt_of_le_of_lt hAX hnX)
      have V2 := div_any (ws (X / 2 ^ D)) (ws A) a2 ra _ c2 _ rc w2.heap.size w2 rfl rfl (by have := (ws_len_zero A); omega) hc2 hrc (by omega) (wf_ws _) (wf_ws _) (ws_top A (by omega)) hR2 hRr (Nat.le_refl _)
      rw [val_ws, val_ws] at V2
      have V := hid V2
      have hs2 := hb2.size
      have HJ := (Aside.intro (And.intro hb2 (And.intro hNt2 (And.intro hlA (And.intro hlT (And.intro hrc hs2))))))
      clear V2 he hN hNt hbel hd he2 hstep hs0 hnX hAX hA0 hN2 hb2 hR2 hNt2 hRr hT hlT hlA D1 hs2
      go_wp2_with fail
      refine (Calls.mono V.out) ?_
      rintro r w3 ⟨⟨vq, vr, rfl, hNq, hNr, hap⟩, hb3⟩
      obtain ⟨aq, cq, rfl, hcq, hcqm, hRq⟩ := hNq.shape
      obtain ⟨hb2, hNt2, hlA, hlT, hrc', hs2⟩ := HJ.out
      have hNt3 := hNt2.below hb3
      obtain ⟨ra3, rc3, hsl, hrc3, hrcm3, hRr⟩ := hNt3.shape
      cases hsl
      obtain ⟨hd, he2, hstep, hs0, hnX, hAX, hA0⟩ := HI.out
      have hle := near_le _ _ _ _ hstep
      have U2 := up_any (ws A) ra _ rc w3.heap.size sh (sh / 32) (sh % 32) w3 rfl hrc (by omega) (by omega) (by omega) (wf_ws _) hRr (Nat.le_refl _)
      rw [val_ws] at U2
      have U := hid U2
      have hs3 := hb3.size
      have HK := (Aside.intro (And.intro hb3 (And.intro hNq (And.intro hcq (And.intro hle hs3)))))
      clear U2 hNq hNr hap hb3 hRq hb2 hNt2 hlA hlT hrc' hs2 hNt3 hRr hd he2 hstep hs0 hnX hAX hA0 hle V hs3
      go_wp2_with fail
      try rw [eS]
      refine (Calls.mono U.out) ?_
      rintro r w4 ⟨v4, rfl, hN4, hb4⟩
      obtain ⟨a4, c4, rfl, hc4, hc4m, hR4⟩ := hN4.shape
      obtain ⟨hb3, hNq, hcq', hle, hs3⟩ := HK.out
      obtain ⟨hd, he2, hstep, hs0, hnX, hAX, hA0⟩ := HI.out
      have hNq4 := hNq.below hb4
      obtain ⟨aq4, cq4, hsl, hcq4, hcqm4, hRq⟩ := hNq4.shape
      cases hsl
      have hl1 : (ws (A * 2 ^ sh)).length ≤ n := (ws_len_le _ _).2 (Nat.lt_of_le_of_lt (Nat.le_trans (Nat.le_add_right _ _) hle) hnX)
      have hl2 : (ws (X / 2 ^ D / A)).length ≤ n := (ws_len_le _ _).2 (Nat.lt_of_le_of_lt (Nat.le_trans (Nat.le_add_left _ _) hle) hnX)
      have S2 := add_any (ws (A * 2 ^ sh)) (ws (X / 2 ^ D / A)) a4 aq _ c4 _ cq w4.heap.size w4 rfl rfl hc4 hcq (by omega) (by omega) (wf_ws _) (wf_ws _) hR4 hRq (Nat.le_refl _)
      rw [val_ws, val_ws] at S2
      have S := hid S2
      have HL := (Aside.intro hb4)
      clear S2 hN4 hb4 hR4 hb3 hNq hle hs3 hd he2 hstep hs0 hnX hAX hA0 hNq4 hRq hl1 hl2 U hcq'
      go_wp2_with fail
      refine (Calls.mono S.out) ?_
      rintro r w5 ⟨v5, rfl, hN5, hb5⟩
      obtain ⟨a5, c5, rfl, hc5, hc5m, hR5⟩ := hN5.shape
      have HM := (Aside.intro (And.intro hN5 hb5))
      clear hN5 hb5 hR5 S
      go_wp2
      go_roundg s
      case measure => omega
      case rel =>
        obtain ⟨he, hN, hNt, hbel⟩ := HA.out
        obtain ⟨hd, he2, hstep, hs0, hnX, hAX, hA0⟩ := HI.out
        obtain ⟨hb2, hNt2, hlA, hlT, hrc', hs2⟩ := HJ.out
        obtain ⟨hb3, hNq, hcq', hle, hs3⟩ := HK.out
        obtain ⟨hN5, hb5⟩ := HM.out
        have hb4 := HL.out
        have hs4 := hb4.size
        refine ⟨_, d, a5, c5, rfl, by first | rfl | rw [ed], by first | go_num | (congr 1; omega), by omega, hd, hstep, hN5.mono (by omega), ?_⟩
        exact (((hbel.trans (hb2.mono hs0)).trans (hb3.mono (by omega))).trans (hb4.mono (by omega))).trans (hb5.mono (by omega))
end Go.Proofs.YtlhiccmdhnhdeaaDoor
