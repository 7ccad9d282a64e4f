/- Root: the whole root, and what is left. -/
import Derived.Test.YtonhahbmdekkdaaDoorM8x
import Derived.Test.YtonhahbmdekkdaaDoorW17
namespace Go.Proofs.YtonhahbmdekkdaaDoor
open Go.RowKit
set_option linter.unusedVariables false
set_option maxRecDepth 20000

set_option maxHeartbeats 4000000 in
theorem root_any (xs : List Nat) (ao : Option Addr) (n cap B : Nat) (w : World) (hn : n = xs.length) (hc : n ≤ cap) (hbig : n ≤ 35184372088832) (hx : Wf xs) (hR : Rd B w ao xs) (hB : B ≤ w.heap.size) :
    Calls Tryd.prog 50 #[.slice ao n cap] w fun r w' => ∃ q, IsRoot (val xs) q ∧ Two w.heap.size w' r q (val xs - q * q) ∧ Below w.heap.size w w' := by
  have T0 := trim_any xs ao n cap B w hn hc (by omega) hR
  have hl := nl_le xs
  have hform := form_eq xs hx
  have hlen := nl_eq_length xs hx
  rw [hlen] at T0 hl hform
  obtain ⟨X, hX⟩ : ∃ X, val xs = X := ⟨_, rfl⟩
  rw [hX] at T0 hl hform ⊢
  have T := hid T0
  have hRX : Rd B w ao (ws X) := by rw [← hform]; exact hR.take _
  by_cases h0 : X = 0
  · subst h0
    rw [ws_zero] at T
    clear hX hlen hform hl hx hn hR T0 hRX
    go_enter Tryd.func50, Tryd.ntmps50
    go_wp2_with fail
    refine (Calls.mono T.out) ?_
    rintro r w1 ⟨rfl, rfl⟩
    go_wp2
    go_ret2
    exact ⟨0, ⟨by omega, by omega⟩, ⟨_, _, rfl, Nt.nil _ _, Nt.nil _ _, apart_nil _⟩, Below.refl _ _⟩
  · have hk0 : (ws X).length ≠ 0 := fun e => h0 ((ws_len_zero X).1 e)
    obtain ⟨k, hk⟩ : ∃ k, (ws X).length = k := ⟨_, rfl⟩
    have NR := nearRoot_any (ws X) ao k cap B w hk.symm (by omega) (by omega) (wf_ws X) (by rw [val_ws]; exact h0) hRX hB
    rw [val_ws] at NR
    have N := hid NR
    rw [hk] at T hl hk0
    have hkn : k ≤ n := by omega
    have hkne : ((k : Int) == 0) = false := by simp; omega
    have HH := (Aside.intro (And.intro hRX (And.intro hk h0)))
    clear hX hlen hform hl hx hn hR T0 hRX NR hk h0 hk0
    go_enter Tryd.func50, Tryd.ntmps50
    go_wp2_with fail
    refine (Calls.mono T.out) ?_
    rintro r w1 ⟨rfl, rfl⟩
    go_wp2_with fail
    refine (Calls.mono N.out) ?_
    rintro r w2 ⟨v2, A, rfl, hN2, hA1, hA2, hA0, hAX, hb2⟩
    obtain ⟨ra, rc, rfl, hrc, hrcm, hRr⟩ := hN2.shape
    obtain ⟨hRX, hk, h0⟩ := HH.out
    have hlA : (ws A).length ≤ k := by rw [← hk]; exact ws_len_mono hAX
    have M0 := mul_any (ws A) (ws A) ra ra _ rc _ rc w2.heap.size w2 rfl rfl hrc hrc (by omega) (wf_ws _) (wf_ws _) hRr hRr (Nat.le_refl _)
    rw [val_ws] at M0
    have M := hid M0
    have H1 := (Aside.intro (And.intro hN2 (And.intro hA1 (And.intro hA2 (And.intro hA0 (And.intro hAX (And.intro hb2 (And.intro hRr hlA))))))))
    clear M0 hN2 hA1 hA2 hA0 hAX hb2 hRr hRX hk h0 hlA T N
    go_wp2_with fail
    refine (Calls.mono M.out) ?_
    rintro r w3 ⟨v3, rfl, hN3, hb3⟩
    obtain ⟨sa, sc, rfl, hsc, hscm, hRs⟩ := hN3.shape
    obtain ⟨hRX, hk, h0⟩ := HH.out
    obtain ⟨hN2, hA1, hA2, hA0, hAX, hb2, hRr, hlA⟩ := H1.out
    have hs2 := hb2.size
    have hs3 := hb3.size
    have hRX3 : Rd w3.heap.size w3 ao (ws X) := ((hRX.below (hb2.mono hB)).below (hb3.mono (by omega))).mono (by omega)
    have hsq : A * A < pw (k + k) := by
      have := ws_len_lt A
      have h2 := Nat.mul_lt_mul'' this this
      rw [← pw_add] at h2
      exact Nat.lt_of_lt_of_le h2 (pw_mono (by omega))
    have hlS : (ws (A * A)).length ≤ k + k := (ws_len_le _ _).2 hsq
    have C0 := cmp_any (ws (A * A)) (ws X) sa ao _ sc k cap w3.heap.size w3 rfl hk.symm hsc (by omega) (by omega) (by omega) (wf_ws _) (wf_ws _) hRs hRX3
    rw [val_ws, val_ws] at C0
    have H2 := (Aside.intro (And.intro hN3 (And.intro hb3 (And.intro hRs (And.intro hRX3 hlS)))))
    by_cases hgt : X < A * A
    · rw [cmpI_gt hgt] at C0
      have C := hid C0
      have H3 := (Aside.intro hgt)
      clear C0 hN2 hA1 hA2 hA0 hAX hb2 hRr hlA hN3 hb3 hRs hRX hk h0 hs2 hs3 hRX3 hsq hlS M hgt
      go_wp2_with fail
      refine (Calls.mono C.out) ?_
      rintro r w4 ⟨rfl, hb4⟩
      -- the root less one
      obtain ⟨hRX, hk, h0⟩ := HH.out
      obtain ⟨hN2, hA1, hA2, hA0, hAX, hb2, hRr, hlA⟩ := H1.out
      obtain ⟨hN3, hb3, hRs, hRX3, hlS⟩ := H2.out
      have hs2 := hb2.size
      have hs3 := hb3.size
      have hs4 := hb4.size
      obtain ⟨W5, hW5⟩ : ∃ W, W = w4.alloc (.cells #[.int .u32 1] 63) := ⟨_, rfl⟩
      have hb5 : Below w4.heap.size w4 W5 := by rw [hW5]; exact (Below.refl _ _).alloc (Nat.le_refl _) _
      have hs5 := hb5.size
      have hO5 : Own W5 w4.heap.size [1] := by rw [hW5]; unfold Own; rw [heap_alloc_new]; rfl
      have hg5 := hO5.lt
      have hR1 : Rd W5.heap.size W5 (some ⟨w4.heap.size, 0, none⟩) [1] := by
        have := Rd.ofOwn hO5 0 1
        exact (by simpa using this : Rd (w4.heap.size + 1) W5 (some ⟨w4.heap.size, 0, none⟩) [1]).mono (by omega)
      have hRr5 : Rd W5.heap.size W5 ra (ws A) := (((hRr.below hb3).below (hb4.mono hs3)).below (hb5.mono (by omega))).mono (by omega)
      have hlA1 : 1 ≤ (ws A).length := by have := ws_len_zero A; omega
      have S0 := sub_any (ws A) [1] ra (some ⟨w4.heap.size, 0, none⟩) _ rc 1 1 W5.heap.size W5 rfl rfl hlA1 hrc (by omega) (by omega) (wf_ws _) (Wf.cons (by omega) Wf.nil) (by rw [val_ws]; simp [val]; omega) hRr5 hR1 (Nat.le_refl _)
      rw [val_ws, show val [1] = 1 from rfl] at S0
      rw [hW5] at S0
      have S := hid S0
      have H4 := (Aside.intro (And.intro hb4 (And.intro hW5 hb5)))
      clear S0 hN2 hA1 hA2 hA0 hAX hb2 hRr hlA hN3 hb3 hRs hRX hk h0 hs2 hs3 hRX3 hlS hb4 hs4 hW5 hb5 hs5 hO5 hg5 hR1 hRr5 hlA1 C
      go_wp2_with fail
      refine (Calls.mono S.out) ?_
      rintro r w6 ⟨v6, rfl, hN6, hb6⟩
      obtain ⟨ra6, rc6, rfl, hrc6, hrcm6, hRr6⟩ := hN6.shape
      obtain ⟨hN2, hA1, hA2, hA0, hAX, hb2, hRr, hlA⟩ := H1.out
      have hlA6 : (ws (A - 1)).length ≤ (ws A).length := ws_len_mono (by omega)
      have M0 := mul_any (ws (A - 1)) (ws (A - 1)) ra6 ra6 _ rc6 _ rc6 w6.heap.size w6 rfl rfl hrc6 hrc6 (by omega) (wf_ws _) (wf_ws _) hRr6 hRr6 (Nat.le_refl _)
      rw [val_ws] at M0
      have M := hid M0
      have H5 := (Aside.intro (And.intro hN6 hb6))
      clear M0 hN2 hA1 hA2 hA0 hAX hb2 hRr hlA hN6 hb6 hRr6 hlA6 S
      go_wp2_with fail
      refine (Calls.mono M.out) ?_
      rintro r w7 ⟨v7, rfl, hN7, hb7⟩
      obtain ⟨sa7, sc7, rfl, hsc7, hscm7, hRs7⟩ := hN7.shape
      obtain ⟨hRX, hk, h0⟩ := HH.out
      obtain ⟨hN2, hA1, hA2, hA0, hAX, hb2, hRr, hlA⟩ := H1.out
      obtain ⟨hN3, hb3, hRs, hRX3, hlS⟩ := H2.out
      obtain ⟨hb4, hW5, hb5⟩ := H4.out
      obtain ⟨hN6, hb6⟩ := H5.out
      rw [← hW5] at hN6 hb6
      have hs2 := hb2.size
      have hs3 := hb3.size
      have hs4 := hb4.size
      have hs5 := hb5.size
      have hs6 := hb6.size
      have hs7 := hb7.size
      have hb17 : Below w1.heap.size w1 w7 := (((((hb2.trans (hb3.mono hs2)).trans (hb4.mono (by omega))).trans (hb5.mono (by omega))).trans (hb6.mono (by omega)))).trans (hb7.mono (by omega))
      have hRX7 : Rd w7.heap.size w7 ao (ws X) := (hRX.below (hb17.mono hB)).mono (by omega)
      have hle7 : (A - 1) * (A - 1) ≤ X := by omega
      have hl7 : (ws ((A - 1) * (A - 1))).length ≤ k := by rw [← hk]; exact ws_len_mono hle7
      have S0 := sub_any (ws X) (ws ((A - 1) * (A - 1))) ao sa7 k cap _ sc7 w7.heap.size w7 hk.symm rfl hl7 (by omega) hsc7 (by omega) (wf_ws _) (wf_ws _) (by rw [val_ws, val_ws]; exact hle7) hRX7 hRs7 (Nat.le_refl _)
      rw [val_ws, val_ws] at S0
      have S := hid S0
      have hN67 := hN6.below hb7
      have H6 := (Aside.intro (And.intro hb17 hN67))
      clear S0 hN2 hA1 hA2 hA0 hAX hb2 hRr hlA hN3 hb3 hRs hRX hk h0 hRX3 hlS hb4 hW5 hb5 hN6 hb6 hN7 hb7 hRs7 hs2 hs3 hs4 hs5 hs6 hs7 hb17 hRX7 hle7 hl7 hN67 M
      go_wp2_with fail
      refine (Calls.mono S.out) ?_
      rintro r w8 ⟨v8, rfl, hN8, hb8⟩
      have H7 := (Aside.intro (And.intro hN8 hb8))
      clear hN8 hb8 S
      go_wp2
      go_ret2
      obtain ⟨hN8, hb8⟩ := H7.out
      obtain ⟨hb17, hN67⟩ := H6.out
      obtain ⟨hN2, hA1, hA2, hA0, hAX, hb2, hRr, hlA⟩ := H1.out
      obtain ⟨hb4, hW5, hb5⟩ := H4.out
      obtain ⟨hN3, hb3, hRs, hRX3, hlS⟩ := H2.out
      have hs2 := hb2.size
      have hs3 := hb3.size
      have hs4 := hb4.size
      have hs5 := hb5.size
      have hs7 := hb17.size
      have hlow : w1.heap.size ≤ W5.heap.size := by omega
      refine ⟨A - 1, ⟨by omega, ?_⟩, ⟨_, _, rfl, (hN67.below hb8).mono hlow, hN8.mono hs7, apart_of (hi := 0) hN67 hN8 (Nat.le_refl _)⟩, hb17.trans (hb8.mono hs7)⟩
      rw [show A - 1 + 1 = A by omega]; exact H3.out
    · have hle : A * A ≤ X := by omega
      have hC1 : cmpI (A * A) X ≤ 0 := by unfold cmpI; split <;> (try split) <;> omega
      obtain ⟨cc, hcc⟩ : ∃ cc, cmpI (A * A) X = cc := ⟨_, rfl⟩
      rw [hcc] at C0 hC1
      have C := hid C0
      have H3 := (Aside.intro hle)
      clear C0 hN2 hA1 hA2 hA0 hAX hb2 hRr hlA hN3 hb3 hRs hRX hk h0 hs2 hs3 hRX3 hsq hlS M hle hgt hcc
      go_wp2_with fail
      refine (Calls.mono C.out) ?_
      rintro r w4 ⟨rfl, hb4⟩
      obtain ⟨hRX, hk, h0⟩ := HH.out
      obtain ⟨hN2, hA1, hA2, hA0, hAX, hb2, hRr, hlA⟩ := H1.out
      obtain ⟨hN3, hb3, hRs, hRX3, hlS⟩ := H2.out
      have hs2 := hb2.size
      have hs3 := hb3.size
      have hs4 := hb4.size
      have hb14 : Below w1.heap.size w1 w4 := (hb2.trans (hb3.mono hs2)).trans (hb4.mono (by omega))
      have hRX4 : Rd w4.heap.size w4 ao (ws X) := (hRX3.below hb4).mono hs4
      have hRs4 : Rd w4.heap.size w4 sa (ws (A * A)) := (hRs.below hb4).mono hs4
      have hl4 : (ws (A * A)).length ≤ k := by rw [← hk]; exact ws_len_mono H3.out
      have S0 := sub_any (ws X) (ws (A * A)) ao sa k cap _ sc w4.heap.size w4 hk.symm rfl hl4 (by omega) hsc (by omega) (wf_ws _) (wf_ws _) (by rw [val_ws, val_ws]; exact H3.out) hRX4 hRs4 (Nat.le_refl _)
      rw [val_ws, val_ws] at S0
      have S := hid S0
      have hN24 := (hN2.below hb3).below hb4
      have H6 := (Aside.intro (And.intro hb14 hN24))
      clear S0 hN2 hA1 hA2 hA0 hAX hb2 hRr hlA hN3 hb3 hRs hRX hk h0 hRX3 hlS hb4 hs2 hs3 hs4 hb14 hRX4 hRs4 hl4 hN24 C
      go_wp2_with fail
      refine (Calls.mono S.out) ?_
      rintro r w8 ⟨v8, rfl, hN8, hb8⟩
      have H7 := (Aside.intro (And.intro hN8 hb8))
      clear hN8 hb8 S
      go_wp2
      go_ret2
      obtain ⟨hN8, hb8⟩ := H7.out
      obtain ⟨hb14, hN24⟩ := H6.out
      obtain ⟨hN2, hA1, hA2, hA0, hAX, hb2, hRr, hlA⟩ := H1.out
      have hs4 := hb14.size
      exact ⟨A, ⟨H3.out, hA2⟩, ⟨_, _, rfl, hN24.below hb8, hN8.mono hs4, apart_of (hi := 0) hN24 hN8 (Nat.le_refl _)⟩, hb14.trans (hb8.mono hs4)⟩
end Go.Proofs.YtonhahbmdekkdaaDoor
