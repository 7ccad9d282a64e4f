/- The document's Text. -/
import Derived.Test.YtonhahbmdekkdaaDoorR3
import Derived.Test.YtonhahbmdekkdaaDoorW28
import Derived.Test.YtonhahbmdekkdaaDoorW40
namespace Go.Proofs.YtonhahbmdekkdaaDoor
open Go.RowKit
set_option linter.unusedVariables false
set_option maxRecDepth 20000
set_option linter.unusedSimpArgs false

/-- A letter as a value. -/
def UB (x : Nat) : Value := .int .u8 (x : Int)
theorem append_byte (w : World) (lo : Nat) (v : Value) (n : Nat) (ys : List Value) (x : Value) (s : Nat) (ty : TypeId) (hown : w.ownsRow lo 5 1 v n ys) (hx : w.cell? ⟨s, 0, none⟩ = some x) (h1 : x.oneCell' = true)
    (hbig : n + 1 ≤ 35184372088832) (hlo : lo ≤ w.heap.size) :
    ∃ v' w', (Builtin.append_ #[76, 76] ty #[v, .slice (some ⟨s, 0, none⟩) 1 1]).run Tryd.prog w = .ok v' w' ∧ w'.ownsRow lo 5 1 v' (n + 1) (ys ++ [x]) ∧ w.grownBy w' v.ownBlock := by
  obtain ⟨i0, hi, hz0, hz1, hz2⟩ := info_parts Tryd.info5
  have hnews : ∀ j u, [x][j]? = some u → w.cell? ((⟨s, 0, none⟩ : Addr).add j) = some u := by
    intro j u hj
    match j, hj with
    | 0, hj => simp at hj; subst hj; simpa [Addr.add] using hx
  have h1' : ∀ u ∈ [x], u.oneCell' = true := by intro u hu; simp at hu; subst hu; exact h1
  obtain ⟨v', w', r1, r2, r3, _, _⟩ := run_append_own_at (P := Tryd.prog) w lo 76 ty 5 i0 (.int .u8 0) 1 1 Tryd.underlying76 hi hz0 hz1 hz2 rfl (by decide) v n ys hown ⟨s, 0, none⟩ 1 1 [x] rfl hnews h1' (by unfold maxLen; omega) (by omega) hlo
  exact ⟨v', w', r1, r2, r3⟩

theorem rowB_below {w w' : World} {lo n : Nat} {v : Value} {ys : List Value} (h : w.ownsRow lo 5 1 v n ys) (hb : Below w.heap.size w w') : w'.ownsRow lo 5 1 v n ys :=
  row_other h fun b hb2 => hb.block b (World.ownsRow.lt h b hb2).2
theorem Nt.grownB {lo lo' : Nat} {w w' : World} {v bv : Value} {X n : Nat} {ys : List Value} (h : Nt lo w v X) (hr : w.ownsRow lo' 5 1 bv n ys) (hg : w.grownBy w' bv.ownBlock) : Nt lo w' v X := by
  refine row_other h fun b hb => hg.block b (h.lt b hb).2 ?_
  intro e
  rcases h.2 with ⟨rfl, _⟩ | ⟨k, cap, cur, rfl, _, hk, _⟩
  · simp [Value.ownBlock] at hb
  · rcases hr.2 with ⟨rfl, _⟩ | ⟨k2, cap2, cur2, rfl, _, hk2, _⟩
    · simp [Value.ownBlock] at e
    · simp [Value.ownBlock] at hb e
      subst hb
      subst e
      rw [hk] at hk2
      injection hk2 with hk2
      injection hk2 with _ hk2
      exact absurd hk2 (by decide)

theorem Nt.argR {lo : Nat} {w : World} {a : Option Addr} {c X : Nat} (h : Nt lo w (.slice a (ws X).length c) X) (hs : (ws X).length ≤ 35184372088832) : Arg w a (ws X).length c (ws X) := by
  obtain ⟨a', c', e, A⟩ := h.arg hs
  cases e
  exact A

theorem ld_step (D : List Nat) (X R : Nat) (h : ld X = D ++ ld R) (hR : R ≠ 0) : ld X = (D ++ [R % 10]) ++ ld (R / 10) := by
  rw [h, ld_pos R hR, List.append_assoc]; rfl
theorem rest_step (rest V i : Nat) (hi : i < 9) : (rest + 10 ^ (9 - i) * V) % 10 = rest % 10 ∧ (rest + 10 ^ (9 - i) * V) / 10 = rest / 10 + 10 ^ (9 - (i + 1)) * V := by
  have e : 10 ^ (9 - i) = 10 * 10 ^ (9 - (i + 1)) := by rw [show 9 - i = 9 - (i + 1) + 1 by omega, Nat.pow_succ, Nat.mul_comm]
  rw [e, Nat.mul_assoc]
  generalize 10 ^ (9 - (i + 1)) * V = P
  omega
theorem ld_len (X K : Nat) (h : X < pw K) : (ld X).length ≤ 10 * K := by
  by_cases h0 : X = 0
  · subst h0; rw [ld_zero]; exact Nat.zero_le _
  · have h1 : (ld X) ≠ [] := by rw [ld_pos X h0]; exact List.cons_ne_nil _ _
    have h2 : 10 ^ ((ld X).length - 1) * 1 ≤ X := by
      have key : ∀ n, n ≠ 0 → 10 ^ ((ld n).length - 1) ≤ n := by
        intro n
        induction n using Nat.strongRecOn with
        | _ n ih =>
          intro hn
          rw [ld_pos n hn, List.length_cons, Nat.add_sub_cancel]
          by_cases hd : n / 10 = 0
          · rw [hd, ld_zero]; simp; omega
          · have := ih (n / 10) (by omega) hd
            have hl : (ld (n / 10)).length = (ld (n / 10)).length - 1 + 1 := by
              have : (ld (n / 10)).length ≠ 0 := by rw [ld_pos _ hd]; simp
              omega
            rw [hl, Nat.pow_succ]
            omega
      rw [Nat.mul_one]; exact key X h0
    have := digits_room X ((ld X).length - 1) 1 K h (by omega) h2
    omega

/-- The letters turned round. -/
theorem turn_getD (D : List Nat) (i : Nat) (hi : i < D.length) : D.reverse.getD (D.length - 1 - i) 0 = D.getD i 0 := by
  rw [List.getD_eq_getElem?_getD, List.getElem?_reverse (by omega), List.getD_eq_getElem?_getD, show D.length - 1 - (D.length - 1 - i) = i by omega]

set_option maxHeartbeats 8000000 in
theorem rText_any {w : World} {a : Option Addr} {n c : Nat} {xs : List Nat} (h1 : Arg w a n c xs) (hn : n ≤ 2000000) :
    Calls Tryd.prog 16 #[.slice a n c] w fun r w' => r = .returned (.string (txs (val xs))) ∧ Below w.heap.size w w' := by
  obtain ⟨X, hX⟩ : ∃ X, val xs = X := ⟨_, rfl⟩
  have N := hid (rNorm_arg h1 hX)
  have hXK : X < pw n := by rw [← hX, h1.len]; exact val_lt xs h1.wf
  rw [hX]
  by_cases h0 : X = 0
  · subst h0
    have l0 : (ws 0).length = 0 := by rw [ws_zero]; rfl
    clear h1 hX hXK
    go_enter Tryd.func16, Tryd.ntmps16
    go_wp2_with fail
    refine (Calls.mono N.out) ?_
    rintro r w1 ⟨v, rfl, hN, hb⟩
    obtain ⟨a1, c1, rfl, _⟩ := hN.arg (by omega)
    have HB := (Aside.intro hb)
    rw [l0]
    clear hN hb N
    go_wp2
    go_ret
    exact ⟨rfl, HB.out⟩
  · have hl0 : ((((ws X).length : Nat) : Int) == 0) = false := by
      have : (ws X).length ≠ 0 := fun e => h0 ((ws_len_zero X).1 e)
      exact beq_eq_false_iff_ne.2 (by omega)
    have hwl : (ws X).length ≤ 2000000 := by have := (ws_len_le X n).2 hXK; omega
    have hld := ld_len X n hXK
    have HH := (Aside.intro (And.intro h0 hld))
    clear h1 hX hXK h0 hld
    go_enter Tryd.func16, Tryd.ntmps16
    go_wp2_with fail
    refine (Calls.mono N.out) ?_
    rintro r w1 ⟨v, rfl, hN, hb⟩
    obtain ⟨a1, c1, rfl, _⟩ := hN.arg (by omega)
    have hs1 := hb.size
    have S1 := (Aside.intro (And.intro hN hb))
    clear hN hb N
    go_wp2
    go_loopg [3, 4] X (fun gk xv bv wr => ∃ (V : Nat) (D : List Nat) (ax ab : Option Addr) (cx cb : Nat), xv = .slice ax (ws V).length cx ∧ bv = .slice ab D.length cb ∧ gk = V ∧ (ws V).length ≤ 2000000 ∧
        Aside (Nt w.heap.size wr (.slice ax (ws V).length cx) V ∧ wr.ownsRow w.heap.size 5 1 (.slice ab D.length cb) D.length (D.map fun d => UB (48 + d)) ∧ ld X = D ++ ld V ∧ Below w.heap.size w wr))
    case atStart =>
      exact ⟨X, [], a1, none, c1, 0, rfl, rfl, rfl, hwl, S1.out.1, World.ownsRow_nil _ _ _ _, by simp, S1.out.2⟩
    case round =>
      clear hl0 hwl S1 hs1
      obtain ⟨V, D, ax, ab, cx, cb, rfl, rfl, hgk, hVl, HA⟩ := hrel
      subst hgk
      by_cases hV : gk = 0
      · -- all is written: turned round
        have hl0 : (ws gk).length = 0 := by rw [hV, ws_zero]; rfl
        obtain ⟨hNx, hrow, hldX, hbel⟩ := HA.out
        have hD : ld X = D := by rw [hldX, hV, ld_zero, List.append_nil]
        have hDl : D.length ≤ 20000000 := by have := HH.out.2; rw [hD] at this; omega
        have hX0 := HH.out.1
        have hDne : D ≠ [] := by rw [← hD, ld_pos X hX0]; exact List.cons_ne_nil _ _
        obtain ⟨g, hab⟩ : ∃ g, ab = some ⟨g, 0, none⟩ := by
          rcases hrow.2 with ⟨e, h0⟩ | ⟨g, cp, cur, e, _⟩
          · exact absurd (List.length_eq_zero_iff.1 h0) hDne
          · cases e; exact ⟨g, rfl⟩
        subst hab
        have hgl := World.ownsRow.lt hrow g (by simp [Value.ownBlock])
        obtain ⟨L, hL⟩ : ∃ L, D.length = L := ⟨_, rfl⟩
        rw [hL] at hDl hrow ⊢
        obtain ⟨W2, hW2⟩ : ∃ W, W = wr.alloc (.cells (madeCells #[.int .u8 0] L) 5) := ⟨_, rfl⟩
        have hT2 : OwnB W2 wr.heap.size (List.replicate L 0) := by rw [hW2]; exact OwnB.made wr L
        have hmk := make_bytes (L : Int) L rfl (by omega) wr
        rw [← hW2] at hmk
        have hbW : Below wr.heap.size wr W2 := by rw [hW2]; exact below_alloc _ _
        have hrow2 := rowB_below hrow hbW
        have hB2 : Below w.heap.size w W2 := hbel.trans (hbW.mono hbel.size)
        obtain ⟨gt, hgt⟩ : ∃ g, g = wr.heap.size := ⟨_, rfl⟩
        rw [← hgt] at hT2 hmk
        have hgg : g < gt := by omega
        have hsw : w.heap.size ≤ gt := by have := hbel.size; omega
        have H2 := (Aside.intro (And.intro hT2 (And.intro hrow2 (And.intro hB2 (And.intro hD (And.intro hL hX0))))))
        rw [hl0]
        clear hNx hrow hldX hbel hD hX0 hDne hgl hT2 hrow2 hB2 hbW hW2 hgt HA hL hV hVl hl0
        go_wp2
        go_loopg [8] L (fun g2 iv w2 => ∃ (i : Nat) (T : List Nat), g2 + i = L ∧ iv = .int .i64 (i : Nat) ∧ Aside (OwnB w2 gt T ∧ T.length = L ∧ But gt W2 w2 ∧ ∀ j, j < i → T.getD (L - 1 - j) 0 = 48 + D.getD j 0))
        case atStart => exact ⟨0, List.replicate L 0, by omega, rfl, H2.out.1, by simp, But.refl _ _, fun j hj => by omega⟩
        case round =>
          obtain ⟨i, T, hgi, rfl, HB⟩ := hrel
          by_cases hi : i < L
          · obtain ⟨hT, hTl, hbut, hTd⟩ := HB.out
            obtain ⟨hT2, hrow2, hB2, hD, hL, hX0⟩ := H2.out
            have hrow3 : wr.ownsRow w.heap.size 5 1 (.slice (some ⟨g, 0, none⟩) L cb) L (D.map fun d => UB (48 + d)) := row_other hrow2 fun b hb => hbut.block b (World.ownsRow.lt hrow2 b hb).2 (by simp [Value.ownBlock] at hb; omega)
            have hrd := hrow3.cells (g := g) (by simp [Value.ownBlock]) i (UB (48 + D.getD i 0)) (by rw [List.getElem?_map, List.getElem?_eq_getElem (by omega), List.getD_eq_getElem?_getD, List.getElem?_eq_getElem (by omega)]; rfl)
            obtain ⟨y, hy⟩ : ∃ y : Nat, 48 + D.getD i 0 = y := ⟨_, rfl⟩
            rw [hy] at hrd
            have hgc : wr.cell? ⟨g, i, none⟩ = some (.int .u8 (y : Int)) := by
              by_cases hi0 : i = 0
              · subst hi0; simpa [UB, Addr.add] using hrd
              · simpa [UB, Addr.add, hi0] using hrd
            have hgo := hT.cell (L - 1 - i) (by omega)
            have hgf := hT.frozen (L - 1 - i)
            obtain ⟨p, hp⟩ : ∃ p : Nat, p = L - 1 - i := ⟨_, rfl⟩
            rw [← hp] at hgo hgf
            obtain ⟨old, hold⟩ : ∃ y : Nat, T.getD p 0 = y := ⟨_, rfl⟩
            rw [hold] at hgo
            have ep : (L : Int) - 1 - (i : Int) = (p : Int) := by omega
            have hpL : p < L := by omega
            have HX := (Aside.intro (And.intro hy hp))
            clear hT hTl hbut hTd hT2 hrow2 hB2 hD hL hX0 hrow3 hrd hy hp hold
            go_wp2
            go_roundg (gk - 1)
            case measure => omega
            case rel =>
              obtain ⟨hT, hTl, hbut, hTd⟩ := HB.out
              obtain ⟨hy, hp⟩ := HX.out
              refine ⟨i + 1, T.set p y, by omega, by first | go_num | (congr 1; omega), hT.set p y, by simpa using hTl, hbut.set p _, fun j hj => ?_⟩
              by_cases hji : j = i
              · subst hji
                rw [← hp, getD_set_same _ _ _ (by omega), hy]
              · rw [getD_set_ne _ _ _ _ (by omega)]
                exact hTd j (by omega)
          · obtain rfl : i = L := by omega
            obtain ⟨hT, hTl, hbut, hTd⟩ := HB.out
            obtain ⟨hT2, hrow2, hB2, hD, hL, hX0⟩ := H2.out
            have hhd : hd X = D.reverse := by unfold hd; rw [if_neg hX0, hD]
            have hdg : Dg D := by rw [← hD]; exact ld_dg X
            have hlen2 : (tx X).length = i := by unfold tx; rw [List.length_map, hhd, List.length_reverse, hL]
            have hcv := run_convert_bytes_back (P := Tryd.prog) wr 76 9 5 ⟨gt, 0, none⟩ i (tx X) Tryd.underlying76 Tryd.underlying5 Tryd.underlying9 (by
              intro j hj
              have hadd : (⟨gt, 0, none⟩ : Addr).add j = ⟨gt, j, none⟩ := by unfold Addr.add; split <;> simp_all
              have hjl : j < i := by rw [hlen2] at hj; exact hj
              have hval : T.getD j 0 = 48 + D.reverse.getD j 0 := by
                have e1 := hTd (i - 1 - j) (by omega)
                rw [show i - 1 - (i - 1 - j) = j by omega] at e1
                have e2 := turn_getD D (i - 1 - j) (by omega)
                rw [hL, show i - 1 - (i - 1 - j) = j by omega] at e2
                rw [e1, e2]
              rw [hadd, hT.cell j (by omega), hval]
              have hdj : D.reverse.getD j 0 < 10 := by
                rw [List.getD_eq_getElem?_getD, List.getElem?_eq_getElem (by rw [List.length_reverse]; omega)]; exact hdg.reverse _ (List.getElem_mem _)
              have e1 : (tx X)[j] = UInt8.ofNat (48 + D.reverse.getD j 0) := by
                simp only [tx, List.getElem_map, hhd]
                rw [List.getD_eq_getElem?_getD, List.getElem?_eq_getElem (by rw [List.length_reverse]; omega)]; rfl
              rw [e1]
              congr 2
              rw [UInt8.toNat_ofNat_of_lt' (by show 48 + D.reverse.getD j 0 < 256; omega)])
            rw [hlen2] at hcv
            have hbF : Below w.heap.size w wr := But.below hB2 hbut hB2.size (by omega)
            have HF := Aside.intro hbF
            clear hT hTl hbut hTd hT2 hrow2 hB2 hD hL hX0 hhd hdg hlen2 hbF
            go_wp2
            go_ret
            exact ⟨rfl, HF.out⟩
      · -- a piece of nine digits
        have hlp : (0 : Int) < (((ws gk).length : Nat) : Int) := by
          have : (ws gk).length ≠ 0 := fun e => hV ((ws_len_zero gk).1 e)
          omega
        obtain ⟨hNx, hrow, hldX, hbel⟩ := HA.out
        have T := rTenth_any (hNx.argR (by omega)) 1000000000 (by omega) (by omega)
        rw [val_ws] at T
        have TH := hid T
        have hs := hbel.size
        clear T hNx hrow hldX hbel
        go_wp2_with fail
        refine (Calls.mono TH.out) ?_
        rintro r u1 ⟨v, rfl, hN1, hb1⟩
        obtain ⟨V1, hV1⟩ : ∃ V, gk / 1000000000 = V := ⟨_, rfl⟩
        obtain ⟨r1, hr1⟩ : ∃ r, gk % 1000000000 = r := ⟨_, rfl⟩
        rw [hV1] at hN1
        rw [hr1]
        have hwl1 : (ws V1).length ≤ 2000000 := by
          have h1 := ws_len_lt gk
          have h2 : V1 < pw (ws gk).length := by rw [← hV1]; omega
          have := (ws_len_le V1 _).2 h2
          omega
        obtain ⟨a3, c3, rfl, _⟩ := hN1.arg (by omega)
        obtain ⟨hNx, hrow, hldX, hbel⟩ := HA.out
        have hr9 : r1 < 1000000000 := by omega
        have hld1 : ld X = D ++ ld (r1 + 10 ^ (9 - 0) * V1) := by
          rw [hldX]; congr 2
          show gk = r1 + 10 ^ 9 * V1
          rw [← hV1, ← hr1]; omega
        have hV1lt : V1 < gk := by omega
        have hN1w := hN1.mono (lo' := w.heap.size) hs
        have hrowu := rowB_below hrow hb1
        have hbelu := hbel.trans (hb1.mono hs)
        obtain ⟨m1, hm1⟩ : ∃ m, (ws V1).length = m := ⟨_, rfl⟩
        rw [hm1] at hN1w hwl1 ⊢
        have HM := Aside.intro hm1
        have S3 := (Aside.intro (And.intro hN1w (And.intro hrowu (And.intro hld1 hbelu))))
        clear hm1 hN1 hb1 hNx hrow hldX hbel hld1 hV1 hr1 TH HA hN1w hrowu hbelu hlp hs
        go_wp2
        go_loopg [4, 5, 6] 9 (fun g2 bv rv iv w2 => ∃ (i rest : Nat) (D2 : List Nat) (ab2 : Option Addr) (cb2 : Nat), g2 + i = 9 ∧ bv = .slice ab2 D2.length cb2 ∧ rv = .int .u64 (rest : Nat) ∧ iv = .int .i64 (i : Nat) ∧ rest < 1000000000 ∧
            Aside (rest < 10 ^ (9 - i) ∧ Nt w.heap.size w2 (.slice a3 m1 c3) V1 ∧ w2.ownsRow w.heap.size 5 1 (.slice ab2 D2.length cb2) D2.length (D2.map fun d => UB (48 + d)) ∧ ld X = D2 ++ ld (rest + 10 ^ (9 - i) * V1) ∧ Below w.heap.size w w2))
        case atStart => exact ⟨0, r1, D, ab, cb, rfl, rfl, rfl, rfl, hr9, hr9, S3.out.1, S3.out.2.1, S3.out.2.2.1, S3.out.2.2.2⟩
        case round =>
          clear S3
          obtain ⟨i, rest, D2, ab2, cb2, hgi, rfl, rfl, rfl, hr10, HB⟩ := hrel
          by_cases hgo : i < 9 ∧ rest + 10 ^ (9 - i) * V1 ≠ 0
          · obtain ⟨hi, hR⟩ := hgo
            obtain ⟨hrest, hNx, hrow, hldX, hbel⟩ := HB.out
            have hDl : D2.length + 1 ≤ 20000001 := by
              have h1 := HH.out.2
              rw [hldX, List.length_append] at h1
              omega
            obtain ⟨d, hd⟩ : ∃ d : Nat, rest % 10 = d := ⟨_, rfl⟩
            obtain ⟨q, hq⟩ : ∃ q : Nat, rest / 10 = q := ⟨_, rfl⟩
            have hd10 : d < 10 := by omega
            have ed : (rest : Int) % 10 = (d : Int) := by omega
            have eq' : (rest : Int) / 10 = (q : Int) := by omega
            obtain ⟨y, hy⟩ : ∃ y : Nat, 48 + d = y := ⟨_, rfl⟩
            have ey : (48 : Int) + (d : Int) = (y : Int) := by omega
            have hy58 : y < 58 := by omega
            obtain ⟨v', w', hap, hrow', hgrow⟩ := append_byte (wr.alloc (.cells #[.int .u8 (y : Int)] 5)) w.heap.size (.slice ab2 D2.length cb2) D2.length (D2.map fun d => UB (48 + d)) (.int .u8 (y : Int)) wr.heap.size 76 (rowB_below hrow (below_alloc wr _)) (by go_simp) rfl (by omega) (by have := hbel.size; simp; omega)
            have hNg := (hNx.below (below_alloc wr (.cells #[.int .u8 (y : Int)] 5))).grownB (rowB_below hrow (below_alloc wr _)) hgrow
            have hBn : Below w.heap.size w w' := (hbel.alloc hbel.size _).grown hgrow (by have := hbel.size; simp; omega) (fun b hb => (World.ownsRow.lt hrow b hb).1)
            have hst := rest_step rest V1 i hi
            have hldn := ld_step D2 X _ hldX hR
            rw [hst.1, hst.2, hd, hq] at hldn
            have hrown : w'.ownsRow w.heap.size 5 1 v' (D2 ++ [d]).length ((D2 ++ [d]).map fun d => UB (48 + d)) := by
              rw [List.length_append, List.map_append]
              simp only [List.map_cons, List.map_nil, UB, hy]
              exact hrow'
            obtain ⟨a7, c7, rfl⟩ : ∃ a7 c7, v' = .slice a7 (D2 ++ [d]).length c7 := by
              rcases hrown.2 with ⟨e, h0⟩ | ⟨g, cp, cur, e, _⟩
              · simp at h0
              · exact ⟨_, _, e⟩
            have hrestn : q < 10 ^ (9 - (i + 1)) := by
              rw [← hq]
              have e : 10 ^ (9 - i) = 10 * 10 ^ (9 - (i + 1)) := by rw [show 9 - i = 9 - (i + 1) + 1 by omega, Nat.pow_succ, Nat.mul_comm]
              rw [e] at hrest
              omega
            have hpos : V1 ≠ 0 ∨ (V1 = 0 ∧ 0 < rest) := by
              by_cases hv : V1 = 0
              · right; rw [hv, Nat.mul_zero] at hR; omega
              · left; exact hv
            have hlv : V1 ≠ 0 → (0 : Int) < (m1 : Int) := fun h => by
              have : (ws V1).length ≠ 0 := fun e => h ((ws_len_zero V1).1 e)
              rw [HM.out] at this
              omega
            have hlz : V1 = 0 → m1 = 0 := fun h => by rw [← HM.out, h, ws_zero]; rfl
            have HAP := hid hap
            have H4 := (Aside.intro (And.intro hrestn (And.intro hNg (And.intro hrown (And.intro hldn hBn)))))
            have hlen7 : (D2 ++ [d]).length = D2.length + 1 := by simp
            clear hrest hNx hrow hldX hbel hap hrow' hgrow hNg hBn hst hldn hrown hrestn hR hd hq hy
            have hi1 : (i : Int) < 9 := by omega
            rcases hpos with hv | ⟨hv, hrp⟩
            · have hlv1 := hlv hv
              clear hlv hlz
              go_wp2_with (at_builtin; refine wpList_append_run2 rfl (.tmp 35) (.tmp 40) 76 rfl _ _ rfl rfl _ _ HAP.out ?_)
              go_roundg (gk - 1)
              case measure => omega
              case rel =>
                obtain ⟨hrestn, hNg, hrown, hldn, hBn⟩ := H4.out
                exact ⟨i + 1, q, D2 ++ [d], a7, c7, by omega, by first | rfl | rw [hlen7], by first | rfl | go_num, by first | go_num | (congr 1; omega), by omega, hrestn, hNg, hrown, hldn, hBn⟩
            · have hlz1 : decide ((0 : Int) < (m1 : Int)) = false := decide_eq_false (by have := hlz hv; omega)
              have hlz2 : decide (0 < m1) = false := decide_eq_false (by have := hlz hv; omega)
              have hrp1 : (0 : Int) < (rest : Int) := by omega
              clear hlv hlz
              go_wp2_with (at_builtin; refine wpList_append_run2 rfl (.tmp 35) (.tmp 40) 76 rfl _ _ rfl rfl _ _ HAP.out ?_)
              go_roundg (gk - 1)
              case measure => omega
              case rel =>
                obtain ⟨hrestn, hNg, hrown, hldn, hBn⟩ := H4.out
                exact ⟨i + 1, q, D2 ++ [d], a7, c7, by omega, by first | rfl | rw [hlen7], by first | rfl | go_num, by first | go_num | (congr 1; omega), by omega, hrestn, hNg, hrown, hldn, hBn⟩
          · have HB2 : Aside (Nt w.heap.size wr (.slice a3 m1 c3) V1 ∧ wr.ownsRow w.heap.size 5 1 (.slice ab2 D2.length cb2) D2.length (D2.map fun d => UB (48 + d)) ∧ ld X = D2 ++ ld V1 ∧ Below w.heap.size w wr) := by
              obtain ⟨hrest, hNx, hrow, hldX, hbel⟩ := HB.out
              refine ⟨hNx, hrow, ?_, hbel⟩
              by_cases hi : i < 9
              · have hR : rest + 10 ^ (9 - i) * V1 = 0 := by
                  by_cases h : rest + 10 ^ (9 - i) * V1 = 0
                  · exact h
                  · exact absurd ⟨hi, h⟩ hgo
                have hv : V1 = 0 := by
                  rcases Nat.eq_zero_or_pos V1 with h | h
                  · exact h
                  · exfalso; have := Nat.mul_pos (Nat.pow_pos (n := 9 - i) (by decide : 0 < 10)) h; omega
                rw [hldX, hR, hv]
              · have h9 : 9 - i = 0 := by omega
                rw [h9] at hldX hrest
                have : rest = 0 := by simpa using hrest
                rw [hldX, this, Nat.pow_zero, Nat.one_mul, Nat.zero_add]
            by_cases hi : i < 9
            · have hR : rest + 10 ^ (9 - i) * V1 = 0 := by
                by_cases h : rest + 10 ^ (9 - i) * V1 = 0
                · exact h
                · exact absurd ⟨hi, h⟩ hgo
              have hv : V1 = 0 := by
                rcases Nat.eq_zero_or_pos V1 with h | h
                · exact h
                · exfalso; have := Nat.mul_pos (Nat.pow_pos (n := 9 - i) (by decide : 0 < 10)) h; omega
              have hr0 : rest = 0 := by omega
              have hlz0 : m1 = 0 := by rw [← HM.out, hv, ws_zero]; rfl
              have hlz1 : decide ((0 : Int) < (m1 : Int)) = false := decide_eq_false (by omega)
              have hlz2 : decide (0 < m1) = false := decide_eq_false (by omega)
              clear HB hgo hR hlz0
              subst hr0
              have hi1 : (i : Int) < 9 := by omega
              go_wp2
              go_roundg V1
              case measure => omega
              case rel =>
                obtain ⟨h1, h2, h3, h4⟩ := HB2.out
                exact ⟨V1, D2, a3, ab2, c3, cb2, by rw [HM.out], rfl, rfl, by rw [HM.out]; exact hwl1, by rw [HM.out]; exact h1, h2, h3, h4⟩
            · have hi1 : decide ((i : Int) < 9) = false := decide_eq_false (by omega)
              have hi2 : decide (i < 9) = false := decide_eq_false hi
              clear HB hgo
              go_wp2
              go_roundg V1
              case measure => omega
              case rel =>
                obtain ⟨h1, h2, h3, h4⟩ := HB2.out
                exact ⟨V1, D2, a3, ab2, c3, cb2, by rw [HM.out], rfl, rfl, by rw [HM.out]; exact hwl1, by rw [HM.out]; exact h1, h2, h3, h4⟩
end Go.Proofs.YtonhahbmdekkdaaDoor
