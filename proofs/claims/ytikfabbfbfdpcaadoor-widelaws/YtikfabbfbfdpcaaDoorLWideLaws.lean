/- WideLaws: the walk. -/
import Derived.Test.YtikfabbfbfdpcaaDoorW35
import Derived.Test.YtikfabbfbfdpcaaDoorW37
import Derived.Test.YtikfabbfbfdpcaaDoorW38
namespace Go.Proofs.YtikfabbfbfdpcaaDoor
open Go.RowKit
set_option linter.unusedVariables false

theorem root_exists (X : Nat) : ∃ q, IsRoot X q := by
  induction X with
  | zero => exact ⟨0, by decide, by decide⟩
  | succ X ih =>
    obtain ⟨q, h1, h2⟩ := ih
    by_cases h : (q + 1) * (q + 1) ≤ X + 1
    · refine ⟨q + 1, h, ?_⟩
      have : (q + 1 + 1) * (q + 1 + 1) = (q + 1) * (q + 1) + 2 * (q + 1) + 1 := by grind
      omega
    · exact ⟨q, by omega, by omega⟩

theorem bl_few {X : Nat} (h : bl X ≤ 64000) : X < pw 2000 := by
  have h1 := bl_lt X
  have h2 := two_le_pw (bl X) 2000 (by omega)
  omega

/-- What Parse tells, told again, is the text. -/
theorem text_parse (s : ByteArray) (V : Nat) (h : parseS (ltr s) = (V, 0)) : txs V = s := by
  unfold parseS at h
  split at h
  · simp at h
  · next hc =>
    have h1 : ¬ ltr s = [] := fun e => hc (.inl e)
    have h2 : ¬ ((ltr s).getD 0 0 = 48 ∧ 1 < (ltr s).length) := fun e => hc (.inr (.inl e))
    have h3 : ∀ b ∈ ltr s, 48 ≤ b ∧ b ≤ 57 := by
      by_cases hh : ∀ b ∈ ltr s, 48 ≤ b ∧ b ≤ 57
      · exact hh
      · exact absurd (.inr (.inr hh)) hc
    split at h
    · simp at h
    · have hV : pn (ltr s) (ltr s).length = V := by simpa using h
      have hmap : (ltr s).map (fun x => 48 + (x - 48)) = ltr s := by
        conv => rhs; rw [← List.map_id (ltr s)]
        apply List.map_congr_left
        intro b hb
        have := h3 b hb
        simp; omega
      have hdg : Dg ((ltr s).map (· - 48)) := by
        intro d hd
        obtain ⟨b, hb, rfl⟩ := List.mem_map.1 hd
        have := h3 b hb
        omega
      have hn : num ((ltr s).map (· - 48)) = V := by rw [← hV]; unfold pn; rw [List.take_length]
      have hhd : (ltr s).map (· - 48) = hd V := by
        rcases hl : ltr s with _ | ⟨b, B⟩
        · exact absurd hl h1
        · rw [hl] at hn hdg h2
          by_cases hb : b = 48
          · subst hb
            have hB : B = [] := by
              rcases B with _ | ⟨c, B⟩
              · rfl
              · exfalso; apply h2; simp
            subst hB
            simp [num, nlow] at hn
            subst hn
            simp [hd]
          · have hb2 := h3 b (by rw [hl]; simp)
            rw [List.map_cons] at hn hdg ⊢
            rw [← hn]
            exact hd_unique (b - 48) _ hdg (by omega)
      have ht : (tx V).map (·.toNat) = ltr s := by
        unfold tx
        rw [← hhd, List.map_map, List.map_map, ← hmap]
        rw [List.map_map]
        apply List.map_congr_left
        intro b hb
        have hb' : 48 ≤ b ∧ b ≤ 57 := h3 b (by simpa using hb)
        simp only [Function.comp]
        rw [UInt8.toNat_ofNat_of_lt' (by show 48 + _ < 256; omega)]
        omega
      have hd : tx V = s.data.toList := by
        unfold ltr at ht
        exact (List.map_inj_right (fun a b h => UInt8.toNat_inj.1 h)).1 ht
      unfold txs
      rw [hd]

theorem few_arg {w : World} {a : Option Addr} {n c : Nat} {xs : List Nat} (h1 : Arg w a n c xs) :
    Calls Tryd.prog 38 #[.slice a n c, .int .i64 2000] w fun r w' => r = .returned (.bool (decide (bl (val xs) ≤ 64000))) ∧ Below w.heap.size w w' :=
  (few_any xs a n c w.heap.size w h1.len (by have := h1.big; omega) h1.wf h1.rd).mono fun r w' ⟨h, e⟩ => ⟨h, by rw [e]; exact Below.refl _ _⟩

set_option maxHeartbeats 8000000 in
set_option maxRecDepth 100000 in
theorem walk_WideLaws (aX : Option Addr) (nX cX : Nat) (xa : List Nat) (aY : Option Addr) (nY cY : Nat) (xb : List Nat) (aZ : Option Addr) (nZ cZ : Nat) (xc : List Nat) (by' : Int) (s : ByteArray) (w : World) (hT : Tab w)
    (w0 : Came w aX nX cX xa) (w1 : Came w aY nY cY xb) (w2 : Came w aZ nZ cZ xc) (w3 : (Lit.int .i64 by').wf = true) (w4 : s.size ≤ maxLen) (bX : nX ≤ 35184372087808) (bY : nY ≤ 35184372087808) (bZ : nZ ≤ 35184372087808) :
    Calls Tryd.prog 8 #[.slice aX nX cX, .slice aY nY cY, .slice aZ nZ cZ, .int .i64 by', .string s] w fun r w' => r = .returned (.bool true) ∧ Below w.heap.size w w' := by
  have h09 : -9223372036854775808 ≤ by' ∧ by' ≤ 9223372036854775807 := by
    simp [Lit.wf, IntKind.min, IntKind.max, IntKind.signed, IntKind.bits] at w3
    omega
  have h0 := h09.1
  have h9 := h09.2
  have hs : s.size ≤ 9223372036854775807 := by unfold maxLen at w4; omega
  have AW := hid (awake_any w hT)
  have AX := w0.arg (by omega)
  have AY := w1.arg (by omega)
  have AZ := w2.arg (by omega)
  have hbel := Below.refl w.heap.size w
  have S0 := (Aside.intro (And.intro hbel (And.intro AX (And.intro AY AZ))))
  clear hT w0 w1 w2 w3 w4 h09 hbel AX AY AZ
  go_enter Tryd.func8, Tryd.ntmps8
  go_wp2_with fail
  refine (Calls.mono AW.out) ?_
  rintro r u1 ⟨rfl, hb⟩
  obtain ⟨hbel, AX, AY, AZ⟩ := S0.out
  have hbn := hbel.trans (hb.mono hbel.size)
  have PX := AX.below hb
  have PY := AY.below hb
  have PZ := AZ.below hb
  have S1 := (Aside.intro (And.intro hbn (And.intro PX (And.intro PY PZ))))
  have P0 := Parse_any s u1 hs
  clear hb hbel AX AY AZ hbn PX PY PZ S0 AW
  obtain ⟨V, z, hVz⟩ : ∃ V z, parseS (ltr s) = (V, z) := ⟨_, _, rfl⟩
  rw [hVz] at P0
  have HP := hid P0
  clear P0
  by_cases hz : z = 0
  · subst hz
    have hLV : ¬ LG V := by
      intro hL
      unfold parseS at hVz
      split at hVz
      · simp at hVz
      · split at hVz
        · simp at hVz
        · next h => simp at hVz; rw [hVz] at h; exact h hL
    have htx := text_parse s V hVz
    have HV := (Aside.intro (And.intro hLV htx))
    clear hVz hLV htx
    go_wp2_with fail
    refine (Calls.mono HP.out) ?_
    rintro r u2 ⟨⟨v, rfl, hN⟩, hb⟩
    obtain ⟨hbel, AX, AY, AZ⟩ := S1.out
    have hbn := hbel.trans (hb.mono hbel.size)
    have PX := AX.below hb
    have PY := AY.below hb
    have PZ := AZ.below hb
    have hVl : (ws V).length ≤ 8192 := by have := HV.out.1; unfold LG at this; omega
    obtain ⟨av, cv, rfl, AV⟩ := hN.arg (show (ws V).length ≤ 35184372088832 by omega)
    have TX := Text_arg AV (val_ws V) (show (ws V).length ≤ 17592186044416 by omega)
    rw [HV.out.2] at TX
    have TT := hid TX
    have S2 := (Aside.intro (And.intro hbn (And.intro PX (And.intro PY PZ))))
    clear TX hN hb hbel AX AY AZ hbn PX PY PZ S1 AV hVl HP HV
    go_wp2_with fail
    refine (Calls.mono TT.out) ?_
    rintro r u3 ⟨rfl, hb⟩
    obtain ⟨hbel, AX, AY, AZ⟩ := S2.out
    have hbn := hbel.trans (hb.mono hbel.size)
    have PX := AX.below hb
    have PY := AY.below hb
    have PZ := AZ.below hb
    have SP := (Aside.intro (And.intro hbn (And.intro PX (And.intro PY PZ))))
    clear hb hbel AX AY AZ hbn PX PY PZ S2 TT
    obtain ⟨hbel, AX, AY, AZ⟩ := SP.out
    have F1 := hid (few_arg AX)
    clear hbel AX AY AZ
    go_wp2_with fail
    refine (Calls.mono F1.out) ?_
    rintro r f1 ⟨rfl, hb⟩
    obtain ⟨hbel, AX, AY, AZ⟩ := SP.out
    have hbn := hbel.trans (hb.mono hbel.size)
    have PX := AX.below hb
    have PY := AY.below hb
    have PZ := AZ.below hb
    have F2 := hid (few_arg PY)
    have S1 := (Aside.intro (And.intro hbn (And.intro PX (And.intro PY PZ))))
    clear hb hbel AX AY AZ hbn PX PY PZ SP F1
    go_wp2_with fail
    refine (Calls.mono F2.out) ?_
    rintro r f2 ⟨rfl, hb⟩
    obtain ⟨hbel, AX, AY, AZ⟩ := S1.out
    have hbn := hbel.trans (hb.mono hbel.size)
    have PX := AX.below hb
    have PY := AY.below hb
    have PZ := AZ.below hb
    have F3 := hid (few_arg PZ)
    have S2 := (Aside.intro (And.intro hbn (And.intro PX (And.intro PY PZ))))
    clear hb hbel AX AY AZ hbn PX PY PZ S1 F2
    go_wp2_with fail
    refine (Calls.mono F3.out) ?_
    rintro r f3 ⟨rfl, hb⟩
    obtain ⟨hbel, AX, AY, AZ⟩ := S2.out
    have hbn := hbel.trans (hb.mono hbel.size)
    have PX := AX.below hb
    have PY := AY.below hb
    have PZ := AZ.below hb
    have S3 := (Aside.intro (And.intro hbn (And.intro PX (And.intro PY PZ))))
    clear hb hbel AX AY AZ hbn PX PY PZ S2 F3
    by_cases h1 : bl (val xa) ≤ 64000
    · by_cases h2 : bl (val xb) ≤ 64000
      · by_cases h3 : bl (val xc) ≤ 64000
        · obtain ⟨hbel, AX, AY, AZ⟩ := S3.out
          have L1 := hid (laws_any xa xb xc aX aY aZ nX cX nY cY nZ cZ f3 AX AY AZ (bl_few h1) (bl_few h2) (bl_few h3))
          have HL := (Aside.intro (And.intro h1 (And.intro h2 h3)))
          rw [decide_eq_true h1, decide_eq_true h2, decide_eq_true h3]
          clear hbel AX AY AZ h1 h2 h3
          go_wp2_with fail
          refine (Calls.mono L1.out) ?_
          rintro r g1 ⟨rfl, hb⟩
          obtain ⟨hbel, AX, AY, AZ⟩ := S3.out
          have hbn := hbel.trans (hb.mono hbel.size)
          have PX := AX.below hb
          have PY := AY.below hb
          have L2 := hid (divided_any xa xb aX aY nX cX nY cY g1 PX PY (bl_few HL.out.1) (bl_few HL.out.2.1))
          have S4 := (Aside.intro (And.intro hbn PX))
          clear hb hbel AX AY AZ hbn PX PY S3 L1
          go_wp2_with fail
          refine (Calls.mono L2.out) ?_
          rintro r g2 ⟨rfl, hb⟩
          obtain ⟨hbel, AX⟩ := S4.out
          have hbn := hbel.trans (hb.mono hbel.size)
          have PX := AX.below hb
          obtain ⟨q, hq⟩ := root_exists (val xa)
          have L3 := hid (rooted_any xa aX nX cX by' q g2 PX (bl_few HL.out.1) hq h0 h9)
          have S5 := (Aside.intro (And.intro hbn hbn))
          clear hb hbel AX hbn PX S4 L2 hq
          go_wp2_with fail
          refine (Calls.mono L3.out) ?_
          rintro r g3 ⟨rfl, hb⟩
          have hbel := S5.out.1
          have hbn := hbel.trans (hb.mono hbel.size)
          have S6 := (Aside.intro (And.intro hbn hbn))
          clear hb hbel hbn S5 L3
          go_wp2
          go_ret
          exact ⟨rfl, S6.out.1⟩
        · rw [decide_eq_true h1, decide_eq_true h2, decide_eq_false h3]
          have hbW := hid S3.out.1
          clear h1 h2 h3 S3
          go_wp2
          go_ret
          exact ⟨rfl, hbW.out⟩
      · rw [decide_eq_true h1, decide_eq_false h2]
        have hbW := hid S3.out.1
        clear h1 h2 S3
        generalize decide (bl (val xc) ≤ 64000) = bb
        cases bb <;> (go_wp2; go_ret; exact ⟨rfl, hbW.out⟩)
    · rw [decide_eq_false h1]
      have hbW := hid S3.out.1
      clear h1 S3
      generalize decide (bl (val xc) ≤ 64000) = bb
      generalize decide (bl (val xb) ≤ 64000) = bc
      cases bb <;> cases bc <;> (go_wp2; go_ret; exact ⟨rfl, hbW.out⟩)
  · have hV0 : V = 0 := by
      unfold parseS at hVz
      split at hVz
      · simp at hVz; exact hVz.1.symm
      · split at hVz
        · simp at hVz; exact hVz.1.symm
        · simp at hVz; exact absurd hVz.2.symm hz
    subst hV0
    have hzne : ((z : Int) == 0) = false := by simpa using hz
    have hzne2 : ((z : Int) != 0) = true := by simpa using hz
    clear hVz
    go_wp2_with fail
    refine (Calls.mono HP.out) ?_
    rintro r u2 ⟨⟨v, rfl, hN⟩, hb⟩
    obtain ⟨av, cv, rfl, _⟩ := hN.arg (show (ws 0).length ≤ 35184372088832 by rw [ws_zero]; simp)
    rw [ws_zero]
    obtain ⟨hbel, AX, AY, AZ⟩ := S1.out
    have hbn := hbel.trans (hb.mono hbel.size)
    have PX := AX.below hb
    have PY := AY.below hb
    have PZ := AZ.below hb
    have SP := (Aside.intro (And.intro hbn (And.intro PX (And.intro PY PZ))))
    clear hN hb hbel AX AY AZ hbn PX PY PZ S1 HP
    obtain ⟨hbel, AX, AY, AZ⟩ := SP.out
    have F1 := hid (few_arg AX)
    clear hbel AX AY AZ
    go_wp2_with fail
    refine (Calls.mono F1.out) ?_
    rintro r f1 ⟨rfl, hb⟩
    obtain ⟨hbel, AX, AY, AZ⟩ := SP.out
    have hbn := hbel.trans (hb.mono hbel.size)
    have PX := AX.below hb
    have PY := AY.below hb
    have PZ := AZ.below hb
    have F2 := hid (few_arg PY)
    have S1 := (Aside.intro (And.intro hbn (And.intro PX (And.intro PY PZ))))
    clear hb hbel AX AY AZ hbn PX PY PZ SP F1
    go_wp2_with fail
    refine (Calls.mono F2.out) ?_
    rintro r f2 ⟨rfl, hb⟩
    obtain ⟨hbel, AX, AY, AZ⟩ := S1.out
    have hbn := hbel.trans (hb.mono hbel.size)
    have PX := AX.below hb
    have PY := AY.below hb
    have PZ := AZ.below hb
    have F3 := hid (few_arg PZ)
    have S2 := (Aside.intro (And.intro hbn (And.intro PX (And.intro PY PZ))))
    clear hb hbel AX AY AZ hbn PX PY PZ S1 F2
    go_wp2_with fail
    refine (Calls.mono F3.out) ?_
    rintro r f3 ⟨rfl, hb⟩
    obtain ⟨hbel, AX, AY, AZ⟩ := S2.out
    have hbn := hbel.trans (hb.mono hbel.size)
    have PX := AX.below hb
    have PY := AY.below hb
    have PZ := AZ.below hb
    have S3 := (Aside.intro (And.intro hbn (And.intro PX (And.intro PY PZ))))
    clear hb hbel AX AY AZ hbn PX PY PZ S2 F3
    by_cases h1 : bl (val xa) ≤ 64000
    · by_cases h2 : bl (val xb) ≤ 64000
      · by_cases h3 : bl (val xc) ≤ 64000
        · obtain ⟨hbel, AX, AY, AZ⟩ := S3.out
          have L1 := hid (laws_any xa xb xc aX aY aZ nX cX nY cY nZ cZ f3 AX AY AZ (bl_few h1) (bl_few h2) (bl_few h3))
          have HL := (Aside.intro (And.intro h1 (And.intro h2 h3)))
          rw [decide_eq_true h1, decide_eq_true h2, decide_eq_true h3]
          clear hbel AX AY AZ h1 h2 h3
          go_wp2_with fail
          refine (Calls.mono L1.out) ?_
          rintro r g1 ⟨rfl, hb⟩
          obtain ⟨hbel, AX, AY, AZ⟩ := S3.out
          have hbn := hbel.trans (hb.mono hbel.size)
          have PX := AX.below hb
          have PY := AY.below hb
          have L2 := hid (divided_any xa xb aX aY nX cX nY cY g1 PX PY (bl_few HL.out.1) (bl_few HL.out.2.1))
          have S4 := (Aside.intro (And.intro hbn PX))
          clear hb hbel AX AY AZ hbn PX PY S3 L1
          go_wp2_with fail
          refine (Calls.mono L2.out) ?_
          rintro r g2 ⟨rfl, hb⟩
          obtain ⟨hbel, AX⟩ := S4.out
          have hbn := hbel.trans (hb.mono hbel.size)
          have PX := AX.below hb
          obtain ⟨q, hq⟩ := root_exists (val xa)
          have L3 := hid (rooted_any xa aX nX cX by' q g2 PX (bl_few HL.out.1) hq h0 h9)
          have S5 := (Aside.intro (And.intro hbn hbn))
          clear hb hbel AX hbn PX S4 L2 hq
          go_wp2_with fail
          refine (Calls.mono L3.out) ?_
          rintro r g3 ⟨rfl, hb⟩
          have hbel := S5.out.1
          have hbn := hbel.trans (hb.mono hbel.size)
          have S6 := (Aside.intro (And.intro hbn hbn))
          clear hb hbel hbn S5 L3
          go_wp2
          go_ret
          exact ⟨rfl, S6.out.1⟩
        · rw [decide_eq_true h1, decide_eq_true h2, decide_eq_false h3]
          have hbW := hid S3.out.1
          clear h1 h2 h3 S3
          go_wp2
          go_ret
          exact ⟨rfl, hbW.out⟩
      · rw [decide_eq_true h1, decide_eq_false h2]
        have hbW := hid S3.out.1
        clear h1 h2 S3
        generalize decide (bl (val xc) ≤ 64000) = bb
        cases bb <;> (go_wp2; go_ret; exact ⟨rfl, hbW.out⟩)
    · rw [decide_eq_false h1]
      have hbW := hid S3.out.1
      clear h1 S3
      generalize decide (bl (val xc) ≤ 64000) = bb
      generalize decide (bl (val xb) ≤ 64000) = bc
      cases bb <;> cases bc <;> (go_wp2; go_ret; exact ⟨rfl, hbW.out⟩)
end Go.Proofs.YtikfabbfbfdpcaaDoor
