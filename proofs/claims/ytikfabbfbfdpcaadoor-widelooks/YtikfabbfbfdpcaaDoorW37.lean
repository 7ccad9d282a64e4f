/- rooted: the root, and back; shifted up and down; as a text, and back. -/
import Derived.Test.YtikfabbfbfdpcaaDoorW36
namespace Go.Proofs.YtikfabbfbfdpcaaDoor
open Go.RowKit
set_option linter.unusedVariables false

theorem Root_arg {w : World} {a : Option Addr} {n c : Nat} {xs : List Nat} {q l : Nat} (h1 : Arg w a n c xs) (hq : IsRoot (val xs) q) (hl : val xs - q * q = l) :
    Calls Tryd.prog 32 #[.slice a n c] w fun r w' => ∃ v u, r = .returned (.tuple #[v, u]) ∧ Nt w.heap.size w' v q ∧ Nt w.heap.size w' u l ∧ Below w.heap.size w w' :=
  (root_any xs a n c w.heap.size w h1.len h1.cap h1.big h1.wf h1.rd (Nat.le_refl _)).mono
    fun r w' ⟨q', hq', ⟨v, u, h3, h4, h5, h6⟩, hb⟩ => by
      have := hq'.unique hq
      subst this
      rw [hl] at h5
      exact ⟨v, u, h3, h4, h5, hb⟩
theorem Text_arg {w : World} {a : Option Addr} {n c : Nat} {xs : List Nat} {X : Nat} (h1 : Arg w a n c xs) (e : val xs = X) (hn : (ws X).length ≤ 17592186044416) :
    Calls Tryd.prog 34 #[.slice a n c] w fun r w' => r = .returned (.string (txs X)) ∧ Below w.heap.size w w' := by
  subst e
  exact text_any xs a n c w.heap.size w h1.len h1.cap (by have := h1.big; omega) h1.wf h1.rd (Nat.le_refl _) hn
theorem Parse_arg {w : World} (s : ByteArray) {V : Nat} (e : parseS (ltr s) = (V, 0)) (hs : s.size ≤ 9223372036854775807) :
    Calls Tryd.prog 35 #[.string s] w fun r w' => ∃ v, r = .returned (.tuple #[v, .int .i64 0]) ∧ Nt w.heap.size w' v V ∧ Below w.heap.size w w' :=
  (Parse_any s w hs).mono fun r w' ⟨ho, hb⟩ => by obtain ⟨v, h3, h4⟩ := one_ok ho e; exact ⟨v, h3, h4, hb⟩
theorem pick_arg {w : World} (c : Int) (h0 : -9223372036854775808 ≤ c) (h1 : c ≤ 9223372036854775807) {p : Nat} (hp : p = ((if c < 0 then -(c + 1) else c) % 3000).toNat) :
    Calls Tryd.prog 71 #[.int .i64 c, .int .i64 3000] w fun r w' => r = .returned (.int .i64 (p : Nat)) ∧ Below w.heap.size w w' :=
  (pick_any c w h0 h1).mono fun r w' ⟨q, h2, _, h3, e⟩ => by
    have : q = p := by omega
    subst this
    exact ⟨h2, by rw [e]; exact Below.refl _ _⟩

theorem two_le_pw (p k : Nat) (h : p ≤ 32 * k) : 2 ^ p ≤ pw k := by
  have : pw k = 2 ^ (32 * k) := by rw [← Nat.add_zero (32 * k), pw_two]; simp
  rw [this]
  exact Nat.pow_le_pow_right (by decide) h

theorem ltr_txs (X : Nat) : ltr (txs X) = (hd X).map (fun d => 48 + d) := by
  unfold ltr txs tx
  simp only [List.map_map]
  apply List.map_congr_left
  intro d hd
  have := hd_dg X d hd
  simp only [Function.comp]
  exact UInt8.toNat_ofNat_of_lt' (by show 48 + d < 256; omega)
theorem hd_pos (X : Nat) : hd X ≠ [] := by
  intro h
  have h1 := num_hd X
  rw [h, num_nil] at h1
  subst h1
  simp [hd] at h
theorem hd_head (X : Nat) (h : X ≠ 0) : (hd X).getD 0 0 ≠ 0 := by
  unfold hd
  rw [if_neg h]
  rcases hl : (ld X).reverse with _ | ⟨d, D⟩
  · exfalso
    have : ld X = [] := by simpa using hl
    rw [ld_pos X h] at this
    cases this
  · intro h0
    simp at h0
    subst h0
    have h1 := nlow_ld X
    have h2 : ld X = D.reverse ++ [0] := by rw [← List.reverse_reverse (ld X), hl]; simp
    -- the highest digit is not nought: the digits without it would tell the same number
    have h3 : nlow (ld X) = nlow D.reverse := by rw [h2, nlow_append]; simp [nlow]
    have hD : Dg D.reverse := fun d hd => ld_dg X d (by rw [h2]; simp at hd ⊢; exact .inl hd)
    have h5 : (ld X).length = D.length + 1 := by rw [h2]; simp
    have h6 : X < 10 ^ D.length := by rw [← h1, h3]; have := nlow_lt _ hD; rwa [List.length_reverse] at this
    have h7 : ∀ n k, n < 10 ^ k → (ld n).length ≤ k := by
      intro n
      induction n using Nat.strongRecOn with
      | _ n ih =>
        intro k hk
        by_cases h0 : n = 0
        · subst h0; rw [ld_zero]; simp
        · rw [ld_pos n h0, List.length_cons]
          rcases k with _ | k
          · simp at hk; omega
          · have := ih (n / 10) (by omega) k (by rw [Nat.pow_succ] at hk; omega)
            omega
    have := h7 X _ h6
    omega
theorem parse_text (X : Nat) (h : ¬ LG X) : parseS (ltr (txs X)) = (X, 0) := by
  rw [ltr_txs]
  have hp : pn ((hd X).map (fun d => 48 + d)) ((hd X).map (fun d => 48 + d)).length = X := by
    unfold pn
    rw [List.take_length, List.map_map, show ((fun x => x - 48) ∘ fun d => 48 + d) = (id : Nat → Nat) by funext d; simp, List.map_id, num_hd]
  unfold parseS
  rw [if_neg, hp, if_neg h]
  rintro (h1 | h1 | h1)
  · have := hd_pos X; simp at h1; exact this h1
  · by_cases h0 : X = 0
    · subst h0; simp [hd] at h1
    · have h2 := hd_head X h0
      apply h2
      have h3 : 0 < (hd X).length := by have := h1.2; simp at this; omega
      have h4 := h1.1
      rw [List.getD_eq_getElem?_getD, List.getElem?_eq_getElem (by simpa using h3)] at h4
      simp at h4
      rw [List.getD_eq_getElem?_getD, List.getElem?_eq_getElem h3]
      simpa using h4
  · apply h1
    intro b hb
    obtain ⟨d, hd', rfl⟩ := List.mem_map.1 hb
    have := hd_dg X d hd'
    omega
theorem txs_size (X k : Nat) (h : X < pw k) (hk : k ≤ 8192) : (txs X).size ≤ 9223372036854775807 := by
  have h1 : (hd X).length ≤ 10 * k + 1 := by
    unfold hd
    split
    · simp
    · rw [List.length_reverse]
      have h7 : ∀ n k, n < 10 ^ k → (ld n).length ≤ k := by
        intro n
        induction n using Nat.strongRecOn with
        | _ n ih =>
          intro k hk
          by_cases h0 : n = 0
          · subst h0; rw [ld_zero]; simp
          · rw [ld_pos n h0, List.length_cons]
            rcases k with _ | k
            · simp at hk; omega
            · have := ih (n / 10) (by omega) k (by rw [Nat.pow_succ] at hk; omega)
              omega
      have := h7 X (10 * k) (Nat.lt_of_lt_of_le h (words_ten k))
      omega
  have h2 : (txs X).size = (hd X).length := by show (tx X).toArray.size = _; unfold tx; simp
  rw [h2]; omega

set_option maxHeartbeats 8000000 in
set_option maxRecDepth 100000 in
theorem rooted_any (xa : List Nat) (aX : Option Addr) (nX cX : Nat) (by' : Int) (q : Nat) (w : World) (AX : Arg w aX nX cX xa) (hX : val xa < pw 2000) (hq : IsRoot (val xa) q) (h0 : -9223372036854775808 ≤ by') (h1 : by' ≤ 9223372036854775807) :
    Calls Tryd.prog 41 #[.slice aX nX cX, .int .i64 by'] w fun r w' => r = .returned (.bool true) ∧ Below w.heap.size w w' := by
  obtain ⟨X, eX⟩ : ∃ X, val xa = X := ⟨_, rfl⟩
  rw [eX] at hX
  have hq' : IsRoot X q := by rw [← eX]; exact hq
  obtain ⟨l, hl⟩ : ∃ l, X - q * q = l := ⟨_, rfl⟩
  obtain ⟨sq, esq⟩ : ∃ s, q * q = s := ⟨_, rfl⟩
  have hsq : sq ≤ X := by rw [← esq]; exact hq'.1
  have hlX : sq + l = X := by rw [← hl, esq]; omega
  have hqq : q ≤ sq := by
    rw [← esq]
    rcases q with _ | q
    · omega
    · exact Nat.le_mul_of_pos_left _ (by omega)
  have bnd : ∀ n, n ≤ X → n < pw 2000 := fun n hn => by omega
  have lX := LG_small hX (by omega)
  have lq := LG_small (bnd q (by omega)) (by omega)
  have lsq := LG_small (bnd sq hsq) (by omega)
  have ll := LG_small (bnd l (by omega)) (by omega)
  have m1 : mulS (val (ws q)) (val (ws q)) = (sq, 0) := by rw [val_ws]; exact mulS_ok lq lq lsq esq
  have m2 : addS (val (ws sq)) (val (ws l)) = (X, 0) := by rw [val_ws, val_ws]; exact addS_ok lX hlX
  obtain ⟨tw, etw⟩ : ∃ t, 2 * q = t := ⟨_, rfl⟩
  have htw : tw < pw 2001 := by have := bnd q (by omega); rw [show 2001 = 2000 + 1 from rfl, pw_succ]; omega
  have hblq := bl_le_words q 2000 (bnd q (by omega))
  have hblX := bl_le_words X 2000 hX
  have m3 : shiftS (val (ws q)) 1 = (tw, 0) := by
    rw [val_ws]
    unfold shiftS
    rw [if_neg lq]
    by_cases h : q = 0
    · rw [if_pos h]; subst h; rw [← etw]
    · rw [if_neg h, if_neg (by omega), if_neg (by omega), ← etw]
      congr 1
      show q * 2 ^ (1 : Int).toNat = 2 * q
      rw [show (1 : Int).toNat = 1 from rfl, Nat.pow_one, Nat.mul_comm]
  obtain ⟨p, hp⟩ : ∃ p, p = ((if by' < 0 then -(by' + 1) else by') % 3000).toNat := ⟨_, rfl⟩
  have hp3 : p < 3000 := by
    rw [hp]
    have := Int.emod_lt_of_pos (if by' < 0 then -(by' + 1) else by') (show (0 : Int) < 3000 by omega)
    have := Int.emod_nonneg (if by' < 0 then -(by' + 1) else by') (show (3000 : Int) ≠ 0 by omega)
    omega
  obtain ⟨u, eu⟩ : ∃ u, X * 2 ^ p = u := ⟨_, rfl⟩
  have hu : u < pw 2100 := by
    have h2 : 2 ^ p ≤ pw 94 := two_le_pw p 94 (by omega)
    have h3 : X * 2 ^ p ≤ X * pw 94 := Nat.mul_le_mul_left _ h2
    have h4 : X * pw 94 < pw 2000 * pw 94 := Nat.mul_lt_mul_of_pos_right hX (pw_pos 94)
    have h5 := pw_mono (show 2000 + 94 ≤ 2100 by omega)
    rw [pw_add] at h5
    omega
  have lu := LG_small hu (by omega)
  have m4 : shiftS (val xa) (p : Int) = (u, 0) := by
    rw [eX]
    unfold shiftS
    rw [if_neg lX]
    by_cases h : X = 0
    · rw [if_pos h]; subst h; rw [← eu, Nat.zero_mul]
    · rw [if_neg h, if_neg (by omega), if_neg (by omega), Int.toNat_natCast, eu]
  have m5 : shiftS (val (ws u)) (-(p : Int)) = (X, 0) := by
    rw [val_ws]
    unfold shiftS
    rw [if_neg lu]
    by_cases h : u = 0
    · rw [if_pos h]
      have : X = 0 := by
        rcases Nat.eq_zero_or_pos X with h2 | h2
        · exact h2
        · exfalso; have := Nat.mul_pos h2 (Nat.two_pow_pos p); omega
      rw [this]
    · rw [if_neg h]
      by_cases hp0 : p = 0
      · subst hp0
        rw [if_neg (by omega), if_neg (by have := bl_le_words u 2100 hu; omega), ← eu]
        simp
      · rw [if_pos (by omega), ← eu, show (-(-(p : Int))).toNat = p by omega, Nat.mul_div_cancel _ (Nat.two_pow_pos p)]
  have m6 := parse_text X lX
  have hts := txs_size X 2000 hX (by omega)
  have m7 : cmpI (val (ws l)) (val (ws tw)) ≤ 0 := by
    rw [val_ws, val_ws]
    have hle : l ≤ tw := by
      have := hq'.2
      have e : (q + 1) * (q + 1) = q * q + 2 * q + 1 := by grind
      omega
    unfold cmpI
    split
    · omega
    · rw [if_neg (by omega)]; omega
  obtain ⟨cc, hcc⟩ : ∃ c, cmpI (val (ws l)) (val (ws tw)) = c := ⟨_, rfl⟩
  rw [hcc] at m7
  have hbel := Below.refl w.heap.size w
  have S0 := (Aside.intro (And.intro hbel AX))
  have hl2 : val xa - q * q = l := by rw [eX]; exact hl
  have M := (Aside.intro (And.intro hq (And.intro hl2 (And.intro m1 (And.intro m2 (And.intro m3 (And.intro m4 (And.intro m5 (And.intro m6 (And.intro hts (And.intro hcc (And.intro eX hp))))))))))))
  have bq := ws_small (bnd q (by omega)) (by omega)
  have bl' := ws_small (bnd l (by omega)) (by omega)
  have bs := ws_small (bnd sq hsq) (by omega)
  have bX := ws_small hX (by omega)
  have bt := ws_small htw (by omega)
  have bu := ws_small hu (by omega)
  have hnX : (ws X).length ≤ 17592186044416 := by have := (ws_len_le X 2000).2 hX; omega
  have BB := (Aside.intro (And.intro bq (And.intro bl' (And.intro bs (And.intro bX (And.intro bt bu))))))
  have hp3i : (p : Int) < 3000 := by omega
  clear hbel AX m1 m2 m3 m4 m5 m6 hts hcc bq bl' bs bX bt bu hX eX hq hq' hl esq hsq hlX hqq bnd lX lq lsq ll etw htw hblq hblX hp3 eu hu lu hl2 hp
  go_enter Tryd.func41, Tryd.ntmps41
  obtain ⟨hbel, AX⟩ := S0.out
  have HC := hid (Root_arg AX (M.out.1) (M.out.2.1))
  clear hbel AX
  go_wp2_with fail
  refine (Calls.mono HC.out) ?_
  rintro r W1 ⟨vq, vl, rfl, hN, hR, hb⟩
  clear HC
  obtain ⟨hbel, AX⟩ := S0.out
  have hbn := hbel.trans (hb.mono hbel.size)
  have PX := AX.below hb
  obtain ⟨aq, cq, rfl, Pq⟩ := hN.arg (BB.out.1)
  obtain ⟨al, cl, rfl, Pl⟩ := hR.arg (BB.out.2.1)
  have S1 := (Aside.intro (And.intro hbn (And.intro PX (And.intro Pq Pl))))
  clear hb hbel AX hbn PX Pq Pl hN hR S0
  obtain ⟨hbel, AX, Aq, Al⟩ := S1.out
  have HC := hid (Mul_arg Aq Aq (M.out.2.2.1))
  clear hbel AX Aq Al
  go_wp2_with fail
  refine (Calls.mono HC.out) ?_
  rintro r W2 ⟨vsq, rfl, hN, hb⟩
  clear HC
  obtain ⟨hbel, AX, Aq, Al⟩ := S1.out
  have hbn := hbel.trans (hb.mono hbel.size)
  have PX := AX.below hb
  have Pq := Aq.below hb
  have Pl := Al.below hb
  obtain ⟨asq, csq, rfl, Psq⟩ := hN.arg (BB.out.2.2.1)
  have S2 := (Aside.intro (And.intro hbn (And.intro PX (And.intro Pq (And.intro Pl Psq)))))
  clear hb hbel AX Aq Al hbn PX Pq Pl Psq hN S1
  obtain ⟨hbel, AX, Aq, Al, Asq⟩ := S2.out
  have HC := hid (Add_arg Asq Al (M.out.2.2.2.1))
  clear hbel AX Aq Al Asq
  go_wp2_with fail
  refine (Calls.mono HC.out) ?_
  rintro r W3 ⟨vb, rfl, hN, hb⟩
  clear HC
  obtain ⟨hbel, AX, Aq, Al, Asq⟩ := S2.out
  have hbn := hbel.trans (hb.mono hbel.size)
  have PX := AX.below hb
  have Pq := Aq.below hb
  have Pl := Al.below hb
  have Psq := Asq.below hb
  obtain ⟨ab, cb, rfl, Pb⟩ := hN.arg (BB.out.2.2.2.1)
  have S3 := (Aside.intro (And.intro hbn (And.intro PX (And.intro Pq (And.intro Pl (And.intro Psq Pb))))))
  clear hb hbel AX Aq Al Asq hbn PX Pq Pl Psq Pb hN S2
  obtain ⟨hbel, AX, Aq, Al, Asq, Ab⟩ := S3.out
  have HC := hid (Shift_arg 1 Aq (M.out.2.2.2.2.1) (by omega) (by omega))
  clear hbel AX Aq Al Asq Ab
  go_wp2_with fail
  refine (Calls.mono HC.out) ?_
  rintro r W4 ⟨vtw, rfl, hN, hb⟩
  clear HC
  obtain ⟨hbel, AX, Aq, Al, Asq, Ab⟩ := S3.out
  have hbn := hbel.trans (hb.mono hbel.size)
  have PX := AX.below hb
  have Pq := Aq.below hb
  have Pl := Al.below hb
  have Psq := Asq.below hb
  have Pb := Ab.below hb
  obtain ⟨atw, ctw, rfl, Ptw⟩ := hN.arg (BB.out.2.2.2.2.1)
  have S4 := (Aside.intro (And.intro hbn (And.intro PX (And.intro Pq (And.intro Pl (And.intro Psq (And.intro Pb Ptw)))))))
  clear hb hbel AX Aq Al Asq Ab hbn PX Pq Pl Psq Pb Ptw hN S3
  obtain ⟨hbel, AX, Aq, Al, Asq, Ab, Atw⟩ := S4.out
  have HC := hid (Norm_arg AX (M.out.2.2.2.2.2.2.2.2.2.2.1))
  clear hbel AX Aq Al Asq Ab Atw
  go_wp2_with fail
  refine (Calls.mono HC.out) ?_
  rintro r W5 ⟨vn, rfl, hN, hb⟩
  clear HC
  obtain ⟨hbel, AX, Aq, Al, Asq, Ab, Atw⟩ := S4.out
  have hbn := hbel.trans (hb.mono hbel.size)
  have PX := AX.below hb
  have Pq := Aq.below hb
  have Pl := Al.below hb
  have Psq := Asq.below hb
  have Pb := Ab.below hb
  have Ptw := Atw.below hb
  obtain ⟨an, cn, rfl, Pn⟩ := hN.arg (BB.out.2.2.2.1)
  have S5 := (Aside.intro (And.intro hbn (And.intro PX (And.intro Pq (And.intro Pl (And.intro Psq (And.intro Pb (And.intro Ptw Pn))))))))
  clear hb hbel AX Aq Al Asq Ab Atw hbn PX Pq Pl Psq Pb Ptw Pn hN S4
  obtain ⟨hbel, AX, Aq, Al, Asq, Ab, Atw, An⟩ := S5.out
  have HC := hid (same_arg Ab An)
  clear hbel AX Aq Al Asq Ab Atw An
  go_wp2_with fail
  refine (Calls.mono HC.out) ?_
  rintro r W6 ⟨rfl, hb⟩
  clear HC
  obtain ⟨hbel, AX, Aq, Al, Asq, Ab, Atw, An⟩ := S5.out
  have hbn := hbel.trans (hb.mono hbel.size)
  have PX := AX.below hb
  have Pq := Aq.below hb
  have Pl := Al.below hb
  have Psq := Asq.below hb
  have Pb := Ab.below hb
  have Ptw := Atw.below hb
  have Pn := An.below hb
  have S6 := (Aside.intro (And.intro hbn (And.intro PX (And.intro Pq (And.intro Pl (And.intro Psq (And.intro Pb (And.intro Ptw Pn))))))))
  clear hb hbel AX Aq Al Asq Ab Atw An hbn PX Pq Pl Psq Pb Ptw Pn  S5
  obtain ⟨hbel, AX, Aq, Al, Asq, Ab, Atw, An⟩ := S6.out
  have HC := hid (pick_arg (w := W6) by' h0 h1 (M.out.2.2.2.2.2.2.2.2.2.2.2))
  clear hbel AX Aq Al Asq Ab Atw An
  go_wp2_with fail
  refine (Calls.mono HC.out) ?_
  rintro r W7 ⟨rfl, hb⟩
  clear HC
  obtain ⟨hbel, AX, Aq, Al, Asq, Ab, Atw, An⟩ := S6.out
  have hbn := hbel.trans (hb.mono hbel.size)
  have PX := AX.below hb
  have Pq := Aq.below hb
  have Pl := Al.below hb
  have Psq := Asq.below hb
  have Pb := Ab.below hb
  have Ptw := Atw.below hb
  have Pn := An.below hb
  have S7 := (Aside.intro (And.intro hbn (And.intro PX (And.intro Pq (And.intro Pl (And.intro Psq (And.intro Pb (And.intro Ptw Pn))))))))
  clear hb hbel AX Aq Al Asq Ab Atw An hbn PX Pq Pl Psq Pb Ptw Pn  S6
  obtain ⟨hbel, AX, Aq, Al, Asq, Ab, Atw, An⟩ := S7.out
  have HC := hid (Shift_arg (p : Int) AX (M.out.2.2.2.2.2.1) (by omega) (by omega))
  clear hbel AX Aq Al Asq Ab Atw An
  go_wp2_with fail
  refine (Calls.mono HC.out) ?_
  rintro r W8 ⟨vu, rfl, hN, hb⟩
  clear HC
  obtain ⟨hbel, AX, Aq, Al, Asq, Ab, Atw, An⟩ := S7.out
  have hbn := hbel.trans (hb.mono hbel.size)
  have PX := AX.below hb
  have Pq := Aq.below hb
  have Pl := Al.below hb
  have Psq := Asq.below hb
  have Pb := Ab.below hb
  have Ptw := Atw.below hb
  have Pn := An.below hb
  obtain ⟨au, cu, rfl, Pu⟩ := hN.arg (BB.out.2.2.2.2.2)
  have S8 := (Aside.intro (And.intro hbn (And.intro PX (And.intro Pq (And.intro Pl (And.intro Psq (And.intro Pb (And.intro Ptw (And.intro Pn Pu)))))))))
  clear hb hbel AX Aq Al Asq Ab Atw An hbn PX Pq Pl Psq Pb Ptw Pn Pu hN S7
  obtain ⟨hbel, AX, Aq, Al, Asq, Ab, Atw, An, Au⟩ := S8.out
  have HC := hid (pick_arg (w := W8) by' h0 h1 (M.out.2.2.2.2.2.2.2.2.2.2.2))
  clear hbel AX Aq Al Asq Ab Atw An Au
  go_wp2_with fail
  refine (Calls.mono HC.out) ?_
  rintro r W9 ⟨rfl, hb⟩
  clear HC
  obtain ⟨hbel, AX, Aq, Al, Asq, Ab, Atw, An, Au⟩ := S8.out
  have hbn := hbel.trans (hb.mono hbel.size)
  have PX := AX.below hb
  have Pq := Aq.below hb
  have Pl := Al.below hb
  have Psq := Asq.below hb
  have Pb := Ab.below hb
  have Ptw := Atw.below hb
  have Pn := An.below hb
  have Pu := Au.below hb
  have S9 := (Aside.intro (And.intro hbn (And.intro PX (And.intro Pq (And.intro Pl (And.intro Psq (And.intro Pb (And.intro Ptw (And.intro Pn Pu)))))))))
  clear hb hbel AX Aq Al Asq Ab Atw An Au hbn PX Pq Pl Psq Pb Ptw Pn Pu  S8
  obtain ⟨hbel, AX, Aq, Al, Asq, Ab, Atw, An, Au⟩ := S9.out
  have HC := hid (Shift_arg (-(p : Int)) Au (M.out.2.2.2.2.2.2.1) (by omega) (by omega))
  clear hbel AX Aq Al Asq Ab Atw An Au
  go_wp2_with fail
  refine (Calls.mono HC.out) ?_
  rintro r W10 ⟨vd, rfl, hN, hb⟩
  clear HC
  obtain ⟨hbel, AX, Aq, Al, Asq, Ab, Atw, An, Au⟩ := S9.out
  have hbn := hbel.trans (hb.mono hbel.size)
  have PX := AX.below hb
  have Pq := Aq.below hb
  have Pl := Al.below hb
  have Psq := Asq.below hb
  have Pb := Ab.below hb
  have Ptw := Atw.below hb
  have Pn := An.below hb
  have Pu := Au.below hb
  obtain ⟨ad, cd, rfl, Pd⟩ := hN.arg (BB.out.2.2.2.1)
  have S10 := (Aside.intro (And.intro hbn (And.intro PX (And.intro Pq (And.intro Pl (And.intro Psq (And.intro Pb (And.intro Ptw (And.intro Pn (And.intro Pu Pd))))))))))
  clear hb hbel AX Aq Al Asq Ab Atw An Au hbn PX Pq Pl Psq Pb Ptw Pn Pu Pd hN S9
  obtain ⟨hbel, AX, Aq, Al, Asq, Ab, Atw, An, Au, Ad⟩ := S10.out
  have HC := hid (Norm_arg AX (M.out.2.2.2.2.2.2.2.2.2.2.1))
  clear hbel AX Aq Al Asq Ab Atw An Au Ad
  go_wp2_with fail
  refine (Calls.mono HC.out) ?_
  rintro r W11 ⟨vm, rfl, hN, hb⟩
  clear HC
  obtain ⟨hbel, AX, Aq, Al, Asq, Ab, Atw, An, Au, Ad⟩ := S10.out
  have hbn := hbel.trans (hb.mono hbel.size)
  have PX := AX.below hb
  have Pq := Aq.below hb
  have Pl := Al.below hb
  have Psq := Asq.below hb
  have Pb := Ab.below hb
  have Ptw := Atw.below hb
  have Pn := An.below hb
  have Pu := Au.below hb
  have Pd := Ad.below hb
  obtain ⟨am, cm, rfl, Pm⟩ := hN.arg (BB.out.2.2.2.1)
  have S11 := (Aside.intro (And.intro hbn (And.intro PX (And.intro Pq (And.intro Pl (And.intro Psq (And.intro Pb (And.intro Ptw (And.intro Pn (And.intro Pu (And.intro Pd Pm)))))))))))
  clear hb hbel AX Aq Al Asq Ab Atw An Au Ad hbn PX Pq Pl Psq Pb Ptw Pn Pu Pd Pm hN S10
  obtain ⟨hbel, AX, Aq, Al, Asq, Ab, Atw, An, Au, Ad, Am⟩ := S11.out
  have HC := hid (same_arg Ad Am)
  clear hbel AX Aq Al Asq Ab Atw An Au Ad Am
  go_wp2_with fail
  refine (Calls.mono HC.out) ?_
  rintro r W12 ⟨rfl, hb⟩
  clear HC
  obtain ⟨hbel, AX, Aq, Al, Asq, Ab, Atw, An, Au, Ad, Am⟩ := S11.out
  have hbn := hbel.trans (hb.mono hbel.size)
  have PX := AX.below hb
  have Pq := Aq.below hb
  have Pl := Al.below hb
  have Psq := Asq.below hb
  have Pb := Ab.below hb
  have Ptw := Atw.below hb
  have Pn := An.below hb
  have Pu := Au.below hb
  have Pd := Ad.below hb
  have Pm := Am.below hb
  have S12 := (Aside.intro (And.intro hbn (And.intro PX (And.intro Pq (And.intro Pl (And.intro Psq (And.intro Pb (And.intro Ptw (And.intro Pn (And.intro Pu (And.intro Pd Pm)))))))))))
  clear hb hbel AX Aq Al Asq Ab Atw An Au Ad Am hbn PX Pq Pl Psq Pb Ptw Pn Pu Pd Pm  S11
  obtain ⟨hbel, AX, Aq, Al, Asq, Ab, Atw, An, Au, Ad, Am⟩ := S12.out
  have HC := hid (Text_arg AX (M.out.2.2.2.2.2.2.2.2.2.2.1) hnX)
  clear hbel AX Aq Al Asq Ab Atw An Au Ad Am
  go_wp2_with fail
  refine (Calls.mono HC.out) ?_
  rintro r W13 ⟨rfl, hb⟩
  clear HC
  obtain ⟨hbel, AX, Aq, Al, Asq, Ab, Atw, An, Au, Ad, Am⟩ := S12.out
  have hbn := hbel.trans (hb.mono hbel.size)
  have PX := AX.below hb
  have Pq := Aq.below hb
  have Pl := Al.below hb
  have Psq := Asq.below hb
  have Pb := Ab.below hb
  have Ptw := Atw.below hb
  have Pn := An.below hb
  have Pu := Au.below hb
  have Pd := Ad.below hb
  have Pm := Am.below hb
  have S13 := (Aside.intro (And.intro hbn (And.intro PX (And.intro Pq (And.intro Pl (And.intro Psq (And.intro Pb (And.intro Ptw (And.intro Pn (And.intro Pu (And.intro Pd Pm)))))))))))
  clear hb hbel AX Aq Al Asq Ab Atw An Au Ad Am hbn PX Pq Pl Psq Pb Ptw Pn Pu Pd Pm  S12
  obtain ⟨hbel, AX, Aq, Al, Asq, Ab, Atw, An, Au, Ad, Am⟩ := S13.out
  have HC := hid (Parse_arg (w := W13) (txs X) (M.out.2.2.2.2.2.2.2.1) (M.out.2.2.2.2.2.2.2.2.1))
  clear hbel AX Aq Al Asq Ab Atw An Au Ad Am
  go_wp2_with fail
  refine (Calls.mono HC.out) ?_
  rintro r W14 ⟨vj, rfl, hN, hb⟩
  clear HC
  obtain ⟨hbel, AX, Aq, Al, Asq, Ab, Atw, An, Au, Ad, Am⟩ := S13.out
  have hbn := hbel.trans (hb.mono hbel.size)
  have PX := AX.below hb
  have Pq := Aq.below hb
  have Pl := Al.below hb
  have Psq := Asq.below hb
  have Pb := Ab.below hb
  have Ptw := Atw.below hb
  have Pn := An.below hb
  have Pu := Au.below hb
  have Pd := Ad.below hb
  have Pm := Am.below hb
  obtain ⟨aj, cj, rfl, Pj⟩ := hN.arg (BB.out.2.2.2.1)
  have S14 := (Aside.intro (And.intro hbn (And.intro PX (And.intro Pq (And.intro Pl (And.intro Psq (And.intro Pb (And.intro Ptw (And.intro Pn (And.intro Pu (And.intro Pd (And.intro Pm Pj))))))))))))
  clear hb hbel AX Aq Al Asq Ab Atw An Au Ad Am hbn PX Pq Pl Psq Pb Ptw Pn Pu Pd Pm Pj hN S13
  obtain ⟨hbel, AX, Aq, Al, Asq, Ab, Atw, An, Au, Ad, Am, Aj⟩ := S14.out
  have HC := hid (Norm_arg AX (M.out.2.2.2.2.2.2.2.2.2.2.1))
  clear hbel AX Aq Al Asq Ab Atw An Au Ad Am Aj
  go_wp2_with fail
  refine (Calls.mono HC.out) ?_
  rintro r W15 ⟨vk, rfl, hN, hb⟩
  clear HC
  obtain ⟨hbel, AX, Aq, Al, Asq, Ab, Atw, An, Au, Ad, Am, Aj⟩ := S14.out
  have hbn := hbel.trans (hb.mono hbel.size)
  have PX := AX.below hb
  have Pq := Aq.below hb
  have Pl := Al.below hb
  have Psq := Asq.below hb
  have Pb := Ab.below hb
  have Ptw := Atw.below hb
  have Pn := An.below hb
  have Pu := Au.below hb
  have Pd := Ad.below hb
  have Pm := Am.below hb
  have Pj := Aj.below hb
  obtain ⟨ak, ck, rfl, Pk⟩ := hN.arg (BB.out.2.2.2.1)
  have S15 := (Aside.intro (And.intro hbn (And.intro PX (And.intro Pq (And.intro Pl (And.intro Psq (And.intro Pb (And.intro Ptw (And.intro Pn (And.intro Pu (And.intro Pd (And.intro Pm (And.intro Pj Pk)))))))))))))
  clear hb hbel AX Aq Al Asq Ab Atw An Au Ad Am Aj hbn PX Pq Pl Psq Pb Ptw Pn Pu Pd Pm Pj Pk hN S14
  obtain ⟨hbel, AX, Aq, Al, Asq, Ab, Atw, An, Au, Ad, Am, Aj, Ak⟩ := S15.out
  have HC := hid (same_arg Aj Ak)
  clear hbel AX Aq Al Asq Ab Atw An Au Ad Am Aj Ak
  go_wp2_with fail
  refine (Calls.mono HC.out) ?_
  rintro r W16 ⟨rfl, hb⟩
  clear HC
  obtain ⟨hbel, AX, Aq, Al, Asq, Ab, Atw, An, Au, Ad, Am, Aj, Ak⟩ := S15.out
  have hbn := hbel.trans (hb.mono hbel.size)
  have PX := AX.below hb
  have Pq := Aq.below hb
  have Pl := Al.below hb
  have Psq := Asq.below hb
  have Pb := Ab.below hb
  have Ptw := Atw.below hb
  have Pn := An.below hb
  have Pu := Au.below hb
  have Pd := Ad.below hb
  have Pm := Am.below hb
  have Pj := Aj.below hb
  have Pk := Ak.below hb
  have S16 := (Aside.intro (And.intro hbn (And.intro PX (And.intro Pq (And.intro Pl (And.intro Psq (And.intro Pb (And.intro Ptw (And.intro Pn (And.intro Pu (And.intro Pd (And.intro Pm (And.intro Pj Pk)))))))))))))
  clear hb hbel AX Aq Al Asq Ab Atw An Au Ad Am Aj Ak hbn PX Pq Pl Psq Pb Ptw Pn Pu Pd Pm Pj Pk  S15
  obtain ⟨hbel, AX, Aq, Al, Asq, Ab, Atw, An, Au, Ad, Am, Aj, Ak⟩ := S16.out
  have HC := hid (Cmp_arg Al Atw _ (M.out.2.2.2.2.2.2.2.2.2.1))
  clear hbel AX Aq Al Asq Ab Atw An Au Ad Am Aj Ak
  go_wp2_with fail
  refine (Calls.mono HC.out) ?_
  rintro r W17 ⟨rfl, hb⟩
  clear HC
  obtain ⟨hbel, AX, Aq, Al, Asq, Ab, Atw, An, Au, Ad, Am, Aj, Ak⟩ := S16.out
  have hbn := hbel.trans (hb.mono hbel.size)
  have PX := AX.below hb
  have Pq := Aq.below hb
  have Pl := Al.below hb
  have Psq := Asq.below hb
  have Pb := Ab.below hb
  have Ptw := Atw.below hb
  have Pn := An.below hb
  have Pu := Au.below hb
  have Pd := Ad.below hb
  have Pm := Am.below hb
  have Pj := Aj.below hb
  have Pk := Ak.below hb
  have S17 := (Aside.intro (And.intro hbn (And.intro PX (And.intro Pq (And.intro Pl (And.intro Psq (And.intro Pb (And.intro Ptw (And.intro Pn (And.intro Pu (And.intro Pd (And.intro Pm (And.intro Pj Pk)))))))))))))
  clear hb hbel AX Aq Al Asq Ab Atw An Au Ad Am Aj Ak hbn PX Pq Pl Psq Pb Ptw Pn Pu Pd Pm Pj Pk  S16
  have hbW := hid S17.out.1
  clear S17 M BB
  go_wp2
  go_ret
  exact ⟨by first | rfl | simp [m7], hbW.out⟩
end Go.Proofs.YtikfabbfbfdpcaaDoor
