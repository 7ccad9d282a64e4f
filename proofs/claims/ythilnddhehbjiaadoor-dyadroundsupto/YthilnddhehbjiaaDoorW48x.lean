import Derived.Test.YthilnddhehbjiaaDoorW29x
import Derived.Test.YthilnddhehbjiaaDoorW38
/- Books of what came out: what the statements with a book share. -/
namespace Go.Proofs.YthilnddhehbjiaaDoor
open Go.RowKit
set_option linter.unusedVariables false
set_option maxRecDepth 20000

theorem Nt.but {lo g : Nat} {w w' : World} {v : Value} {X : Nat} (h : Nt lo w v X) (hb : But g w w') (hg : g < lo) : Nt lo w' v X := by
  have h1 : Rw lo w v (ws X).length ((ws X).map U) := h
  exact row_other h1 fun b hb2 => by
    obtain ⟨h2, h3⟩ := h.lt b hb2
    exact hb.block b h3 (by omega)

theorem Nice.nil (lo : Nat) (w : World) : Nice lo w [] := ⟨fun i hi => absurd hi (by simp), fun i hi => absurd hi (by simp), fun i j hi => absurd hi (by simp)⟩

theorem Nice.snoc {lo : Nat} {w : World} {vs : List Value} {v : Value} {X : Nat} (h : Nice lo w vs) (hN : Nt lo w v X) (hs : (ws X).length ≤ 35184372088000) (ha : ∀ u ∈ vs, ∀ b, u.ownBlock = some b → v.ownBlock ≠ some b) : Nice lo w (vs ++ [v]) := by
  have h1 : Rw lo w v (ws X).length ((ws X).map U) := hN
  have hl := h1.len
  refine ⟨fun i hi => ?_, fun i hi => ?_, fun i j hi hj hij b hb => ?_⟩
  · by_cases e : i = vs.length
    · subst e; rw [nth_append_eq, hl]; exact ⟨_, h1⟩
    · simp at hi
      rw [nth_append_lt _ _ _ (by omega)]; exact h.rows i (by omega)
  · by_cases e : i = vs.length
    · subst e; rw [nth_append_eq, hl]; exact hs
    · simp at hi
      rw [nth_append_lt _ _ _ (by omega)]; exact h.small i (by omega)
  · simp at hi hj
    have mem : ∀ k, k < vs.length → nth vs k ∈ vs := by
      intro k hk
      simp [nth, hk]
    by_cases e : i = vs.length
    · subst e
      rw [nth_append_eq] at hb
      rw [nth_append_lt _ _ _ (by omega)]
      intro e2
      exact ha _ (mem j (by omega)) b e2 hb
    · rw [nth_append_lt _ _ _ (by omega)] at hb
      by_cases e2 : j = vs.length
      · subst e2
        rw [nth_append_eq]
        exact ha _ (mem i (by omega)) b hb
      · rw [nth_append_lt _ _ _ (by omega)]
        exact h.apart i j (by omega) (by omega) hij b hb

theorem Nice.keep {lo : Nat} {w w' : World} {vs : List Value} (h : Nice lo w vs) (k : Keep w w') : Nice lo w' vs :=
  ⟨fun i hi => by obtain ⟨ys, hy⟩ := h.rows i hi; exact ⟨ys, Keep.row hy k⟩, h.small, h.apart⟩

theorem lent_rd {w : World} {g n : Nat} {xs : List Nat} (hn : n = xs.length) (h : Own w g (xs ++ [71, 72])) : Rd (g + 1) w (some ⟨g, 0, none⟩) xs := by
  have h1 := Rd.ofOwn h 0 n
  rw [List.drop_zero, List.take_append_of_le_length (by omega), List.take_of_length_le (by omega)] at h1
  exact h1

theorem lent_arg {w : World} {g n : Nat} {xs : List Nat} (hn : n = xs.length) (hb : n ≤ 35184372088832) (hx : Wf xs) (h : Own w g (xs ++ [71, 72])) : Arg w (some ⟨g, 0, none⟩) n (n + 2) xs :=
  ⟨hn, by omega, hb, hx, (lent_rd hn h).mono h.lt, fun e => by cases e⟩

theorem root_words {N q n : Nat} (h : N < pw n) (hq : IsRoot N q) : (ws q).length ≤ n ∧ (ws (N - q * q)).length ≤ n := by
  have h1 := hq.1
  have h2 := le_sq q
  exact ⟨(ws_len_le q n).2 (by omega), (ws_len_le _ n).2 (by omega)⟩
end Go.Proofs.YthilnddhehbjiaaDoor

/- The document's digit. -/
namespace Go.Proofs.YthilnddhehbjiaaDoor
open Go.RowKit
set_option linter.unusedVariables false
set_option maxRecDepth 20000

theorem rNorm_arg {w : World} {a : Option Addr} {n c : Nat} {xs : List Nat} {V : Nat} (h1 : Arg w a n c xs) (e : val xs = V) :
    Calls Tryd.prog 65 #[.slice a n c] w fun r w' => ∃ v, r = .returned v ∧ Nt w.heap.size w' v V ∧ Below w.heap.size w w' := by
  subst e
  exact rNorm_any xs a n c w.heap.size w h1.len h1.cap h1.big h1.wf h1.rd h1.nil

theorem cmpI_ge {x y : Nat} (h : y ≤ x) : 0 ≤ cmpI x y := by unfold cmpI; split <;> (try split) <;> omega
theorem cmpI_le {x y : Nat} (h : x ≤ y) : cmpI x y ≤ 0 := by unfold cmpI; split <;> (try split) <;> omega

theorem digit_end (X Y f t : Nat) (h1 : Y * f ≤ X) (h2 : X < Y * t) (h3 : f < t) (h4 : t - f ≤ 1) : X / Y = f := by
  obtain rfl : t = f + 1 := by omega
  exact Nat.div_eq_of_lt_le (by rw [Nat.mul_comm]; exact h1) (by rw [Nat.mul_comm]; exact h2)

set_option maxHeartbeats 4000000 in
theorem digit_any {w : World} {a b : Option Addr} {n c m d : Nat} {xs ys : List Nat} (h1 : Arg w a n c xs) (h2 : Arg w b m d ys) (hm : m ≤ 35184372088000) (hlt : val xs < val ys * 4294967296) :
    Calls Tryd.prog 140 #[.slice a n c, .slice b m d] w fun r w' => ∃ v, r = .returned (.tuple #[.int .u32 ((val xs / val ys : Nat) : Int), v]) ∧ Nt w.heap.size w' v (val ys * (val xs / val ys)) ∧ Below w.heap.size w w' := by
  have hlo := Nat.le_refl w.heap.size
  obtain ⟨X, hX⟩ : ∃ X, val xs = X := ⟨_, rfl⟩
  obtain ⟨Y, hY⟩ : ∃ Y, val ys = Y := ⟨_, rfl⟩
  have hYp := val_lt ys h2.wf
  rw [← h2.len, hY] at hYp
  rw [hX, hY] at hlt ⊢
  have HX := (Aside.intro (And.intro h1 (And.intro h2 (And.intro hX (And.intro hY (And.intro hlt hYp))))))
  clear h1 h2 hX hY hlt hYp
  go_enter Tryd.func140, Tryd.ntmps140
  go_wp2
  go_loopg [6, 7, 8] 4294967296 (fun gk fv tv bv wr => ∃ (f t : Nat), gk + f = t ∧ fv = .int .u64 (f : Nat) ∧ tv = .int .u64 (t : Nat) ∧ f < t ∧ t ≤ 4294967296 ∧ Aside (Y * f ≤ X ∧ X < Y * t ∧ Below w.heap.size w wr ∧ Nt w.heap.size wr bv (Y * f)))
  case atStart => exact ⟨0, 4294967296, by omega, rfl, rfl, by omega, by omega, by omega, HX.out.2.2.2.2.1, Below.refl _ _, by rw [Nat.mul_zero]; exact Nt.nil _ _⟩
  case round =>
    obtain ⟨f, t, hgt, rfl, rfl, hft, ht, HA⟩ := hrel
    by_cases hend : t - f ≤ 1
    · obtain ⟨p1, p2, p3, p4⟩ := HA.out
      have HQ := Aside.intro (digit_end X Y f t p1 p2 hft hend)
      obtain rfl : t = f + 1 := by omega
      clear p1 p2 p3 p4
      have hff : f < 4294967296 := by omega
      go_wp2
      go_ret2
      rw [HQ.out]
      exact ⟨_, by first | rfl | (congr 1), HA.out.2.2.2, HA.out.2.2.1⟩
    · obtain ⟨mid, hmid⟩ : ∃ mid, mid = (f + t) / 2 := ⟨_, rfl⟩
      have em : ((f : Int) + (t : Int)) / 2 = (mid : Int) := by omega
      have hm1 : f < mid := by omega
      have hm2 : mid < t := by omega
      have hm3 : mid < 4294967296 := by omega
      have em2 : (mid : Int) % 4294967296 = (mid : Int) := by omega
      have hgo : (1 : Int) < (t : Int) - (f : Int) := by omega
      obtain ⟨h1, h2, hX, hY, hlt, hYp⟩ := HX.out
      obtain ⟨p1, p2, p3, p4⟩ := HA.out
      have hsz := p3.size
      have T1 := hid (rTimes_arg (V := Y * mid) ((h2.below p3).below (below_alloc wr _)) (lit_arg wr mid hm3) (by omega) (by rw [hY]; simp [val]))
      have hYm : Y * mid < pw (m + 1) := by rw [pw_succ, Nat.mul_comm 4294967296]; exact Nat.mul_lt_mul'' hYp hm3
      have hwl : (ws (Y * mid)).length ≤ m + 1 := (ws_len_le _ _).2 hYm
      clear h1 h2 hX hY hlt hYp p1 p2 p3 p4 hYm hmid
      go_wp2_with fail
      refine (Calls.mono T1.out) ?_
      rintro r u1 ⟨v, rfl, hN, hb⟩
      obtain ⟨a1, c1, rfl, A1⟩ := hN.arg (by omega)
      obtain ⟨h1, h2, hX, hY, hlt, hYp⟩ := HX.out
      obtain ⟨p1, p2, p3, p4⟩ := HA.out
      have hb2 : Below wr.heap.size wr u1 := (below_alloc wr _).trans (hb.mono (by simp))
      have q3 : Below w.heap.size w u1 := p3.trans (hb2.mono hsz)
      have q4 := p4.below hb2
      have q5 := hN.mono (lo' := w.heap.size) (by simp; omega)
      have hs1 := hb2.size
      by_cases hle : Y * mid ≤ X
      · obtain ⟨z, hz⟩ : ∃ z, cmpI (Y * mid) X = z := ⟨_, rfl⟩
        have hz0 : z ≤ 0 := hz ▸ cmpI_le hle
        have C1 := hid (rCmp_arg A1 (h1.below q3) z (by rw [val_ws, hX]; exact hz))
        have S1 := (Aside.intro (And.intro p2 (And.intro q3 (And.intro q5 hle))))
        clear h1 h2 hX hY hlt hYp p1 p2 p3 p4 q3 q4 q5 hN hb hb2 A1 hz hle T1 HA
        go_wp2_with fail
        refine (Calls.mono C1.out) ?_
        rintro r u2 ⟨rfl, hb⟩
        have S2 := (Aside.intro (And.intro (S1.out.2.1.trans (hb.mono (by omega))) (S1.out.2.2.1.below hb)))
        clear hb C1
        go_wp2
        go_roundg (t - mid)
        case measure => omega
        case rel => exact ⟨mid, t, by omega, rfl, rfl, hm2, ht, S1.out.2.2.2, S1.out.1, S2.out.1, S2.out.2⟩
      · have hz : cmpI (Y * mid) X = 1 := cmpI_gt (by omega)
        have C1 := hid (rCmp_arg A1 (h1.below q3) 1 (by rw [val_ws, hX]; exact hz))
        have S1 := (Aside.intro (And.intro p1 (And.intro q3 (And.intro q4 hle))))
        clear h1 h2 hX hY hlt hYp p1 p2 p3 p4 q3 q4 q5 hN hb hb2 A1 hz hle T1 HA
        go_wp2_with fail
        refine (Calls.mono C1.out) ?_
        rintro r u2 ⟨rfl, hb⟩
        have S2 := (Aside.intro (And.intro (S1.out.2.1.trans (hb.mono (by omega))) (S1.out.2.2.1.below hb)))
        clear hb C1
        go_wp2
        go_roundg (mid - f)
        case measure => omega
        case rel => exact ⟨f, mid, by omega, rfl, rfl, hm1, by omega, S1.out.1, by have := S1.out.2.2.2; omega, S2.out.1, S2.out.2⟩
end Go.Proofs.YthilnddhehbjiaaDoor

/- The document's Parts. -/
namespace Go.Proofs.YthilnddhehbjiaaDoor
open Go.RowKit
set_option linter.unusedVariables false
set_option maxRecDepth 20000

theorem parts_step (P x Y B : Nat) (hY : 0 < Y) : (x + B * P) / Y = (x + B * (P % Y)) / Y + B * (P / Y) ∧ (x + B * P) % Y = (x + B * (P % Y)) % Y := by
  have h := Nat.div_add_mod P Y
  have e : x + B * P = (x + B * (P % Y)) + Y * (B * (P / Y)) := by
    conv => lhs; rw [← h]
    rw [Nat.mul_add, ← Nat.mul_assoc, Nat.mul_comm B Y, Nat.mul_assoc]
    omega
  rw [e]
  exact ⟨Nat.add_mul_div_left _ _ hY, Nat.add_mul_mod_self_left _ _ _⟩

theorem parts_digit (P x Y B : Nat) (hY : 0 < Y) (hx : x < B) : x + B * (P % Y) < Y * B := by
  have h := Nat.mod_lt P hY
  have h1 : B * (P % Y + 1) ≤ B * Y := Nat.mul_le_mul_left _ h
  rw [Nat.mul_add] at h1
  rw [Nat.mul_comm Y]
  omega

theorem val_drop_set (M : List Nat) (k d : Nat) (hk : k < M.length) : val ((M.set k d).drop k) = d + 4294967296 * val (M.drop (k + 1)) := by
  rw [val_drop_succ _ k (by simpa using hk), getD_set_same _ _ _ hk]
  rw [List.drop_set_of_lt (by omega)]

theorem own_row {w : World} {g : Nat} {x : Nat} (h : Own w g [x]) : w.ownsRow g 61 1 (.slice (some ⟨g, 0, none⟩) 1 1) 1 ([x].map U) :=
  ⟨by simp, .inr ⟨g, 1, _, rfl, Nat.le_refl _, h, Nat.le_refl _, by unfold maxLen; omega, by simp, by simp⟩⟩

theorem lit_own1 (w : World) (x : Nat) : Own (w.alloc (.cells #[.int .u32 (x : Int)] 61)) w.heap.size [x] := by
  unfold Own
  rw [heap_alloc_new]
  rfl

set_option maxHeartbeats 8000000 in
set_option maxRecDepth 100000 in
theorem parts_any {w : World} {a b : Option Addr} {n c m d : Nat} {xs ys : List Nat} (h1 : Arg w a n c xs) (h2 : Arg w b m d ys) (hn : n ≤ 35184372088000) (hm : m + 1 ≤ 35184372088000) (hY : 0 < val ys) :
    Calls Tryd.prog 117 #[.slice a n c, .slice b m d] w fun r w' => ∃ v u, r = .returned (.tuple #[v, u]) ∧ Nt w.heap.size w' v (val xs / val ys) ∧ Nt w.heap.size w' u (val xs % val ys) ∧ Below w.heap.size w w' := by
  obtain ⟨W1, hW1⟩ : ∃ W, W = w.alloc (.cells (madeCells #[.int .u32 0] n) 61) := ⟨_, rfl⟩
  have hO1 : Own W1 w.heap.size (List.replicate n 0) := by rw [hW1]; exact Own.made w n
  have hB1 : Below w.heap.size w W1 := by rw [hW1]; exact (Below.refl _ _).alloc (Nat.le_refl _) _
  have hmk := make_words (n : Int) n rfl (by omega) w
  rw [← hW1] at hmk
  obtain ⟨g, hg⟩ : ∃ g, g = w.heap.size := ⟨_, rfl⟩
  rw [← hg] at hO1 hmk hB1
  obtain ⟨Y, hYe⟩ : ∃ Y, val ys = Y := ⟨_, rfl⟩
  have hYp := val_lt ys h2.wf
  rw [← h2.len, hYe] at hYp
  rw [hYe] at hY ⊢
  have hlen := h1.len
  have HX := (Aside.intro (And.intro h1 (And.intro h2 (And.intro hYe (And.intro hYp (And.intro hB1 (And.intro hg hlen)))))))
  have HO := hid hO1
  clear h1 h2 hYe hYp hB1 hO1 hW1 hg hlen
  go_enter Tryd.func117, Tryd.ntmps117
  go_wp2
  go_loopg [7, 8] n (fun k rv iv wr => ∃ (M : List Nat), k ≤ n ∧ iv = .int .i64 ((k : Int) - 1) ∧ Hid (Own wr g M) ∧
      Aside (Wf M ∧ M.length = n ∧ (∀ j, j < k → M.getD j 0 = 0) ∧ val (M.drop k) = val (xs.drop k) / Y ∧ Below g w wr ∧ Nt (g + 1) wr rv (val (xs.drop k) % Y)))
  case atStart =>
    obtain ⟨h1, h2, hYe, hYp, hB1, hg, hlen⟩ := HX.out
    refine ⟨List.replicate n 0, Nat.le_refl _, by first | rfl | go_num, HO, Wf.zeros _, by simp, fun j _ => getD_zeros _ _, ?_, hB1, ?_⟩
    · rw [List.drop_of_length_le (by simp), List.drop_of_length_le (by omega)]; simp [val]
    · rw [List.drop_of_length_le (by omega)]
      simp only [val, Nat.zero_mod]
      exact Nt.nil _ _
  case round =>
    obtain ⟨M, hk, rfl, HM, HA⟩ := hrel
    by_cases hk0 : gk = 0
    · subst hk0
      obtain ⟨hMw, hMl, hMz, hMv, hbel, hNr⟩ := HA.out
      rw [List.drop_zero, List.drop_zero] at hMv
      rw [List.drop_zero] at hNr
      have T := hid (rNorm_any M (some ⟨g, 0, none⟩) n n (g + 1) wr hMl.symm (Nat.le_refl _) (by omega) hMw (by simpa [hMl, List.take_of_length_le] using Rd.ofOwn HM.out 0 n) (fun e => by cases e))
      rw [hMv] at T
      have S := (Aside.intro (And.intro hbel hNr))
      have hgl := HM.out.lt
      clear hMw hMl hMz hMv hbel hNr
      go_wp2_with fail
      refine (Calls.mono T.out) ?_
      rintro r u1 ⟨v, rfl, hN, hb⟩
      have S2 := (Aside.intro (And.intro hN hb))
      clear hN hb
      go_wp2
      go_ret2
      obtain ⟨hN, hb⟩ := S2.out
      obtain ⟨hbel, hNr⟩ := S.out
      obtain ⟨h1, h2, hYe, hYp, hB1, hg, hlen⟩ := HX.out
      rw [← hg]
      exact ⟨v, _, rfl, hN.mono (by omega), (hNr.below hb).mono (by omega), hbel.trans (hb.mono (by omega))⟩
    · obtain ⟨k, rfl⟩ : ∃ k, gk = k + 1 := ⟨gk - 1, by omega⟩
      obtain ⟨h1, h2, hYe, hYp, hB1, hg, hlen⟩ := HX.out
      obtain ⟨hMw, hMl, hMz, hMv, hbel, hNr⟩ := HA.out
      have hgl := HM.out.lt
      obtain ⟨ba, off, hBa, rfl, hcell⟩ := h1.rd (by intro e; subst e; simp at hlen; omega)
      have hxc : wr.cell? ⟨ba, off + k, none⟩ = some (.int .u32 ((xs.getD k 0 : Nat) : Int)) := (hbel.cell (p := ⟨ba, off + k, none⟩) (by simp; omega)).trans (hcell k (by omega))
      obtain ⟨x, hx⟩ : ∃ x, xs.getD k 0 = x := ⟨_, rfl⟩
      have hxl : x < 4294967296 := hx ▸ h1.wf.get k
      rw [hx] at hxc
      obtain ⟨P, hP⟩ : ∃ P, val (xs.drop (k + 1)) = P := ⟨_, rfl⟩
      have hds := val_drop_succ xs k (by omega)
      rw [hx, hP] at hds
      rw [hP] at hMv hNr
      obtain ⟨st1, st2⟩ := parts_step P x Y 4294967296 hY
      rw [← hds] at st1 st2
      have hdl := parts_digit P x Y 4294967296 hY hxl
      obtain ⟨R, hR⟩ : ∃ R, P % Y = R := ⟨_, rfl⟩
      have hRY : R < Y := hR ▸ Nat.mod_lt _ hY
      rw [hR] at st1 st2 hdl hNr
      obtain ⟨Z, hZ⟩ : ∃ Z, x + 4294967296 * R = Z := ⟨_, rfl⟩
      rw [hZ] at st1 st2 hdl
      have hwR : (ws R).length ≤ m := (ws_len_le R m).2 (by omega)
      have hZp : Z < pw (m + 1) := by rw [pw_succ]; rw [Nat.mul_comm Y] at hdl; omega
      have hwZ : (ws Z).length ≤ m + 1 := (ws_len_le Z (m + 1)).2 hZp
      obtain ⟨ar, cr, rfl, AR⟩ := hNr.arg (by omega)
      have hLO := lit_own1 wr x
      obtain ⟨v', w2, hap, hown, hgrow⟩ := append_words (wr.alloc (.cells #[.int .u32 (x : Int)] 61)) wr.heap.size (.slice (some ⟨wr.heap.size, 0, none⟩) 1 1) 1 [x] (ws R) ar (ws R).length cr wr.heap.size 23 (own_row hLO) rfl (AR.rd.below (below_alloc wr _)) AR.nil (by omega) (by simp)
      have hb2 : Below wr.heap.size wr w2 := (below_alloc wr _).grown hgrow (by simp) (fun k hk => by simp [Value.ownBlock] at hk; omega)
      obtain ⟨a2, c2, rfl, hc2, hl2, hnil2, hRd2⟩ := Rw.words hown
      have hval : val ([x] ++ ws R) = Z := by rw [← hZ]; simp [val, val_ws]
      have N1 := hid (rNorm_any ([x] ++ ws R) a2 (1 + (ws R).length) c2 w2.heap.size w2 hl2 hc2 (by omega) (Wf.append (Wf.cons hxl Wf.nil) (wf_ws R)) hRd2 hnil2)
      rw [hval] at N1
      have HAP := hid hap
      have hs2 := hb2.size
      have S1 := (Aside.intro (And.intro hMw (And.intro hMl (And.intro hMz (And.intro hMv (And.intro (hbel.trans (hb2.mono (by omega))) (And.intro (HM.out.below hb2 hgl) (And.intro st1 (And.intro st2 (And.intro hdl hx))))))))))
      clear h1 h2 hYe hYp hB1 hg hlen hMw hMl hMz hMv hbel hNr hcell hx hP hds st1 st2 hdl hR hRY hZ hZp AR hLO hap hown hgrow hb2 hl2 hnil2 hRd2 hval HM HA
      go_wp2_with (at_builtin; refine wpList_append_run2 rfl (.tmp 27) (.tmp 28) 23 rfl _ _ rfl rfl _ _ HAP.out ?_)
      refine (Calls.mono N1.out) ?_
      rintro r u3 ⟨v3, rfl, hN3, hb3⟩
      obtain ⟨a3, c3, rfl, A3⟩ := hN3.arg (by omega)
      obtain ⟨hMw, hMl, hMz, hMv, hbel, hOw, st1, st2, hdl, hx⟩ := S1.out
      obtain ⟨h1, h2, hYe, hYp, hB1, hg, hlen⟩ := HX.out
      have hs3 := hb3.size
      have hbel3 : Below g w u3 := hbel.trans (hb3.mono (by omega))
      have hO3 := hOw.below hb3 (by omega)
      have hbw3 : Below w.heap.size w u3 := hg ▸ hbel3
      by_cases hge : Y ≤ Z
      · obtain ⟨z, hz⟩ : ∃ z, cmpI Z Y = z := ⟨_, rfl⟩
        have hz0 : 0 ≤ z := hz ▸ cmpI_ge hge
        have C1 := hid (rCmp_arg A3 (h2.below hbw3) z (by rw [val_ws, hYe]; exact hz))
        have S2 := (Aside.intro (And.intro hMw (And.intro hMl (And.intro hMz (And.intro hMv (And.intro hbel3 (And.intro hO3 (And.intro st1 (And.intro st2 (And.intro hdl hN3))))))))))
        clear hMw hMl hMz hMv hbel hOw st1 st2 hdl hx h1 h2 hYe hYp hB1 hg hlen hbel3 hO3 hbw3 hb3 hN3 A3 hz S1 N1
        go_wp2_with fail
        refine (Calls.mono C1.out) ?_
        rintro r u4 ⟨rfl, hb4⟩
        obtain ⟨hMw, hMl, hMz, hMv, hbel, hOw, st1, st2, hdl, hN3⟩ := S2.out
        obtain ⟨h1, h2, hYe, hYp, hB1, hg, hlen⟩ := HX.out
        have hs4 := hb4.size
        have hbel4 : Below g w u4 := hbel.trans (hb4.mono (by omega))
        have hO4 := hOw.below hb4 (by omega)
        have hbw4 : Below w.heap.size w u4 := hg ▸ hbel4
        have hN4 := hN3.below hb4
        obtain ⟨_, _, e4, A4⟩ := hN4.arg (by omega)
        cases e4
        have D0 := digit_any A4 (h2.below hbw4) (by omega) (by rw [val_ws, hYe]; exact hdl)
        rw [val_ws, hYe] at D0
        have hDl : Z / Y < 4294967296 := Nat.div_lt_of_lt_mul hdl
        have hmd := Nat.mod_add_div Z Y
        have hYD : Y * (Z / Y) ≤ Z := by omega
        have hwD : (ws (Y * (Z / Y))).length ≤ m + 1 := by
          have h5 := (ws_len_le Z (m + 1)).1 hwZ
          exact (ws_len_le _ (m + 1)).2 (by omega)
        obtain ⟨D, hD⟩ : ∃ D, Z / Y = D := ⟨_, rfl⟩
        rw [hD] at D0 hDl hmd hYD hwD st1
        have D1 := hid D0
        have S3 := (Aside.intro (And.intro hMw (And.intro hMl (And.intro hMz (And.intro hMv (And.intro hbel4 (And.intro hO4 (And.intro st1 (And.intro st2 (And.intro hN4 hmd))))))))))
        clear hMw hMl hMz hMv hbel hOw st1 st2 hdl h1 h2 hYe hYp hB1 hg hlen hbel4 hO4 hbw4 hb4 hN3 hN4 A4 hmd hYD hD D0 S2 C1
        go_wp2_with fail
        refine (Calls.mono D1.out) ?_
        rintro r u5 ⟨v5, rfl, hN5, hb5⟩
        obtain ⟨hMw, hMl, hMz, hMv, hbel, hOw, st1, st2, hN4, hmd⟩ := S3.out
        have hs5 := hb5.size
        have hbel5 : Below g w u5 := hbel.trans (hb5.mono (by omega))
        have hO5 := hOw.below hb5 (by omega)
        have hgc := hO5.cell k (by omega)
        have hgf := hO5.frozen k
        have hbt : But g u5 (u5.setCell ⟨g, k, none⟩ (.int .u32 (D : Nat))) := (But.refl g u5).set k _
        have hN6 := (hN4.below hb5).but hbt (by omega)
        have hN7 := hN5.but hbt (by omega)
        obtain ⟨_, _, e6, A6⟩ := hN6.arg (by omega)
        cases e6
        obtain ⟨a7, c7, rfl, A7⟩ := hN7.arg (by omega)
        have M1 := hid (rMinus_arg (V := Z % Y) A6 A7 (by omega) (by omega) (by rw [val_ws, val_ws]; exact hmd))
        have S4 := (Aside.intro (And.intro hMw (And.intro hMl (And.intro hMz (And.intro hMv (And.intro hbel5 (And.intro hO5 (And.intro st1 (And.intro st2 hbt)))))))))
        clear hMw hMl hMz hMv hbel hOw st1 st2 hN4 hmd hbel5 hO5 hbt hN6 hN7 A6 A7 hN5 hb5 S3 D1
        go_wp2_with fail
        refine (Calls.mono M1.out) ?_
        rintro r u8 ⟨v8, rfl, hN8, hb8⟩
        have S5 := (Aside.intro (And.intro hN8 hb8))
        clear hN8 hb8 M1
        go_wp2
        go_roundg k
        case measure => omega
        case rel =>
          obtain ⟨hMw, hMl, hMz, hMv, hbel, hOw, st1, st2, hbt⟩ := S4.out
          obtain ⟨hN8, hb8⟩ := S5.out
          have hs8 := hb8.size
          have hss : (u5.setCell ⟨g, k, none⟩ (.int .u32 (D : Nat))).heap.size = u5.heap.size := by simp [World.setCell]
          refine ⟨M.set k D, by omega, by first | go_num | (congr 1; omega), (hOw.set k D).below hb8 (by omega), hMw.set _ _ hDl, by simp [hMl], ?_, ?_, ?_, ?_⟩
          · intro j hj
            rw [getD_set_ne _ _ _ _ (by omega)]
            exact hMz j (by omega)
          · rw [val_drop_set M k D (by omega), hMv, st1]
          · exact (But.below hbel hbt (by omega) (Nat.le_refl _)).trans (hb8.mono (by omega))
          · rw [st2]
            exact hN8.mono (by omega)
      · have hz : cmpI Z Y = -1 := cmpI_lt (by omega)
        have C1 := hid (rCmp_arg A3 (h2.below hbw3) (-1) (by rw [val_ws, hYe]; exact hz))
        have S2 := (Aside.intro (And.intro hMw (And.intro hMl (And.intro hMz (And.intro hMv (And.intro hbel3 (And.intro hO3 (And.intro st1 (And.intro st2 (And.intro hdl (And.intro hN3 hlen)))))))))))
        clear hMw hMl hMz hMv hbel hOw st1 st2 hdl hx h1 h2 hYe hYp hB1 hg hlen hbel3 hO3 hbw3 hb3 hN3 A3 hz S1 N1
        go_wp2_with fail
        refine (Calls.mono C1.out) ?_
        rintro r u4 ⟨rfl, hb4⟩
        have S3 := Aside.intro hb4
        clear hb4 C1
        go_wp2
        go_roundg k
        case measure => omega
        case rel =>
          obtain ⟨hMw, hMl, hMz, hMv, hbel, hOw, st1, st2, hdl, hN3, hlen⟩ := S2.out
          have hb4 := S3.out
          refine ⟨M, by omega, by first | go_num | (congr 1; omega), hOw.below hb4 (by omega), hMw, hMl, fun j hj => hMz j (by omega), ?_, hbel.trans (hb4.mono (by omega)), ?_⟩
          · rw [val_drop_succ M k (by omega), hMz k (by omega), hMv, st1, Nat.div_eq_of_lt (show Z < Y by omega)]
          · rw [st2, Nat.mod_eq_of_lt (show Z < Y by omega)]
            exact (hN3.below hb4).mono (by omega)
end Go.Proofs.YthilnddhehbjiaaDoor

/- The document's Of, Small, Low. -/
namespace Go.Proofs.YthilnddhehbjiaaDoor
open Go.RowKit
set_option linter.unusedVariables false
set_option maxRecDepth 20000

theorem lit_arg2 (w : World) (a b : Nat) (ha : a < 4294967296) (hb : b < 4294967296) : Arg (w.alloc (.cells #[.int .u32 (a : Int), .int .u32 (b : Int)] 61)) (some ⟨w.heap.size, 0, none⟩) 2 2 [a, b] := by
  refine ⟨rfl, Nat.le_refl _, by omega, Wf.cons ha (Wf.cons hb Wf.nil), fun _ => ⟨w.heap.size, 0, by simp, rfl, fun i hi => ?_⟩, fun e => by cases e⟩
  have hi2 : i = 0 ∨ i = 1 := by simp at hi; omega
  unfold World.cell?
  simp only [heap_alloc_new]
  rcases hi2 with rfl | rfl <;> rfl

theorem rOf_any (x : Nat) (w : World) (hx : x < 18446744073709551616) :
    Calls Tryd.prog 76 #[.int .u64 (x : Nat)] w fun r w' => ∃ v, r = .returned v ∧ Nt w.heap.size w' v x ∧ Below w.heap.size w w' := by
  obtain ⟨a, ha⟩ : ∃ a, a = x % 4294967296 := ⟨_, rfl⟩
  obtain ⟨b, hb⟩ : ∃ b, b = x / 4294967296 := ⟨_, rfl⟩
  have e1 : (x : Int) % 4294967296 = (a : Int) := by omega
  have e2 : (x : Int) / 4294967296 = (b : Int) := by omega
  have e3 : (b : Int) % 4294967296 = (b : Int) := by omega
  have N1 := hid (rNorm_arg (V := x) (lit_arg2 w a b (by omega) (by omega)) (by simp [val]; omega))
  have hb3 : b < 4294967296 := by omega
  clear ha hb
  go_enter Tryd.func76, Tryd.ntmps76
  go_wp2_with fail
  refine (Calls.mono N1.out) ?_
  rintro r u1 ⟨v, rfl, hN, hbl⟩
  have S := (Aside.intro (And.intro hN hbl))
  clear hN hbl
  go_wp2
  go_ret
  exact ⟨v, rfl, S.out.1.mono (by simp), (below_alloc w _).trans (S.out.2.mono (by simp))⟩

theorem lo_form (X : Nat) (h : X ≠ 0) : ∃ m, X = 2 ^ lo X * (2 * m + 1) := by
  have key : ∀ Y : Nat, Y ≠ 0 → ∃ i m, Y = 2 ^ i * (2 * m + 1) := by
    intro Y
    induction Y using Nat.strongRecOn with
    | ind Y ih =>
      intro hY
      rcases Nat.mod_two_eq_zero_or_one Y with h0 | h1
      · obtain ⟨i, m, e⟩ := ih (Y / 2) (by omega) (by omega)
        refine ⟨i + 1, m, ?_⟩
        rw [Nat.pow_succ, Nat.mul_comm (2 ^ i) 2, Nat.mul_assoc, ← e]
        omega
      · exact ⟨0, Y / 2, by omega⟩
  obtain ⟨i, m, e⟩ := key X h
  refine ⟨m, ?_⟩
  rw [e, lo_eq]

theorem lo_bit (X : Nat) (h : X ≠ 0) : X / 2 ^ lo X % 2 = 1 := by
  obtain ⟨m, e⟩ := lo_form X h
  generalize lo X = i at e
  rw [e, Nat.mul_div_cancel_left _ (Nat.pow_pos (by omega))]
  omega

theorem lo_bits (X j : Nat) (h : X ≠ 0) (hj : j < lo X) : X / 2 ^ j % 2 = 0 := by
  obtain ⟨m, e⟩ := lo_form X h
  generalize lo X = i at e hj
  obtain ⟨d, rfl⟩ : ∃ d, i = j + (d + 1) := ⟨i - j - 1, by omega⟩
  rw [e, Nat.pow_add, Nat.mul_assoc, Nat.mul_div_cancel_left _ (Nat.pow_pos (by omega)), Nat.pow_succ, Nat.mul_comm (2 ^ d) 2, Nat.mul_assoc]
  omega

theorem lo_lt (X : Nat) (h : X ≠ 0) (n : Nat) (hp : X < pw n) : lo X < 32 * n := by
  obtain ⟨m, e⟩ := lo_form X h
  rcases Nat.lt_or_ge (lo X) (32 * n) with h1 | h1
  · exact h1
  · exfalso
    have h2 : 2 ^ (32 * n) ≤ 2 ^ lo X := Nat.pow_le_pow_right (by omega) h1
    have h3 : pw n = 2 ^ (32 * n) := by unfold pw; rw [Nat.pow_mul]
    have h4 : 2 ^ lo X * 1 ≤ 2 ^ lo X * (2 * m + 1) := Nat.mul_le_mul_left _ (by omega)
    omega

set_option maxHeartbeats 1000000 in
theorem rLow_any (xs : List Nat) (ao : Option Addr) (n cap B : Nat) (w : World) (hn : n = xs.length) (hm : n ≤ 70368744177664) (hx : Wf xs) (hR : Rd B w ao xs) :
    Calls Tryd.prog 115 #[.slice ao n cap] w fun r w' => r = .returned (.int .i64 (lo (val xs) : Nat)) ∧ w' = w := by
  have H := hid (size_any xs ao n cap B w hn (by omega) hR)
  by_cases h0 : val xs = 0
  · rw [h0, lo_zero]
    rw [(nl_zero_iff xs).2 h0] at H
    clear hn hx hR h0
    go_enter Tryd.func115, Tryd.ntmps115
    go_wp2_with fail
    refine (Calls.mono H.out) ?_
    rintro r w1 ⟨rfl, rfl⟩
    go_wp2
    go_ret
    exact ⟨rfl, rfl⟩
  · have hnl : nl xs ≠ 0 := fun e => h0 ((nl_zero_iff xs).1 e)
    have hv := val_lt xs hx
    rw [← hn] at hv
    have hlt := lo_lt _ h0 n hv
    obtain ⟨k, hk⟩ : ∃ k, nl xs = k := ⟨_, rfl⟩
    rw [hk] at H hnl
    obtain ⟨L, hL⟩ : ∃ L, lo (val xs) = L := ⟨_, rfl⟩
    have hb1 := lo_bit _ h0
    have hb0 := lo_bits (val xs) (h := h0)
    rw [hL] at hb1 hb0 hlt ⊢
    have BT : Hid (∀ i : Nat, i ≤ 9223372036854775807 → ∀ w1, w1 = w → Calls Tryd.prog 139 #[.slice ao n cap, .int .i64 (i : Int)] w1 fun r w' => r = .returned (.bool (decide (val xs / 2 ^ i % 2 = 1))) ∧ w' = w1) := by
      intro i hi w1 hw
      subst hw
      exact rBit_any xs ao n cap B i w1 hn hx hR hi
    have HB := (Aside.intro (And.intro hb1 hb0))
    clear hb1 hb0 hn hx hR h0 hv hk hL
    go_enter Tryd.func115, Tryd.ntmps115
    go_wp2_with fail
    refine (Calls.mono H.out) ?_
    rintro r w1 ⟨rfl, rfl⟩
    have hkf : ((k : Int) == 0) = false := by simp; omega
    go_wp2
    go_loopg [3] L (fun gk iv wr => ∃ (i : Nat), gk + i = L ∧ iv = .int .i64 (i : Nat) ∧ wr = w1)
    case atStart => exact ⟨0, by omega, rfl, rfl⟩
    case round =>
      obtain ⟨i, hi, rfl, rfl⟩ := hrel
      have B1 := BT.out i (by omega) _ rfl
      by_cases hiL : i = L
      · subst hiL
        obtain rfl : gk = 0 := by omega
        rw [HB.out.1] at B1
        have B2 := hid (show Calls Tryd.prog 139 #[.slice ao n cap, .int .i64 (i : Int)] wr fun r w' => r = .returned (.bool true) ∧ w' = wr from B1)
        clear B1
        go_wp2_with fail
        refine (Calls.mono B2.out) ?_
        rintro r w2 ⟨rfl, rfl⟩
        go_wp2
        go_ret
        exact ⟨rfl, rfl⟩
      · rw [HB.out.2 i (by omega)] at B1
        have B2 := hid (show Calls Tryd.prog 139 #[.slice ao n cap, .int .i64 (i : Int)] wr fun r w' => r = .returned (.bool false) ∧ w' = wr from B1)
        clear B1
        go_wp2_with fail
        refine (Calls.mono B2.out) ?_
        rintro r w2 ⟨rfl, rfl⟩
        go_wp2
        go_roundg (gk - 1)
        case measure => omega
        case rel => exact ⟨i + 1, by omega, by first | go_num | (congr 1; omega), rfl⟩
end Go.Proofs.YthilnddhehbjiaaDoor

/- The document's Moved. -/
namespace Go.Proofs.YthilnddhehbjiaaDoor
open Go.RowKit
set_option linter.unusedVariables false
set_option maxRecDepth 20000

theorem own_row_made {w : World} {g : Nat} {L : List Nat} (h : Own w g L) (hm : L.length ≤ 35184372088832) : w.ownsRow g 61 1 (.slice (some ⟨g, 0, none⟩) L.length L.length) L.length (L.map U) :=
  ⟨by simp, .inr ⟨g, L.length, _, rfl, Nat.le_refl _, h, Nat.le_refl _, by unfold maxLen; omega, by simp, by simp [List.take_of_length_le]⟩⟩

theorem Arg.drew' {w : World} {a : Option Addr} {n c : Nat} {xs : List Nat} (h : Arg w a n c xs) : Arg w.drew a n c xs := ⟨h.len, h.cap, h.big, h.wf, h.rd, h.nil⟩

theorem pow_small (r : Nat) (hr : r < 32) : 2 ^ r < 4294967296 := by
  have : 2 ^ r ≤ 2 ^ 31 := Nat.pow_le_pow_right (by omega) (by omega)
  omega

set_option maxHeartbeats 4000000 in
theorem moved_up {w : World} {a : Option Addr} {l c : Nat} {X : Nat} (k : Nat) (h1 : Arg w a l c (ws X)) (hl : l ≤ 2000000) (hk : k ≤ 64000000) :
    Calls Tryd.prog 83 #[.slice a l c, .int .i64 (k : Nat)] w fun r w' => ∃ v, r = .returned v ∧ Nt w.heap.size w' v (X * 2 ^ k) ∧ Below w.heap.size w w' := by
  obtain ⟨q, hq⟩ : ∃ q, q = k / 32 := ⟨_, rfl⟩
  obtain ⟨s, hs⟩ : ∃ s, s = k % 32 := ⟨_, rfl⟩
  have e1 : (k : Int) / 32 = (q : Int) := by omega
  have e2 : (k : Int) % 32 = (s : Int) := by omega
  have hqb : q ≤ 2000000 := by omega
  have hs32 : s < 32 := by omega
  obtain ⟨W1, hW1⟩ : ∃ W, W = w.alloc (.cells (madeCells #[.int .u32 0] q) 61) := ⟨_, rfl⟩
  have hO1 : Own W1 w.heap.size (List.replicate q 0) := by rw [hW1]; exact Own.made w q
  have hB1 : Below w.heap.size w W1 := by rw [hW1]; exact (Below.refl _ _).alloc (Nat.le_refl _) _
  have hmk := make_words (q : Int) q rfl (by omega) w
  rw [← hW1] at hmk
  have hR := own_row_made hO1 (by simp; omega)
  simp only [List.length_replicate] at hR
  have A1 := h1.below hB1
  obtain ⟨v', w2, hap, hown, hgrow⟩ := append_words W1 w.heap.size _ q (List.replicate q 0) (ws X) a l c W1.heap.size 23 hR A1.len A1.rd A1.nil (by omega) hB1.size
  have hB2 : Below w.heap.size w w2 := hB1.grown hgrow hB1.size (fun k hk => by simp [Value.ownBlock] at hk; omega)
  obtain ⟨a2, c2, rfl, hc2, hl2, hnil2, hRd2⟩ := Rw.words hown
  have AO : Arg w2 a2 (q + l) c2 (List.replicate q 0 ++ ws X) := ⟨hl2, hc2, by omega, (Wf.zeros q).append (wf_ws X), hRd2, hnil2⟩
  have hval : val (List.replicate q 0 ++ ws X) = X * pw q := by
    rw [val_append, val_zeros, val_ws, List.length_replicate, Nat.zero_add, Nat.mul_comm]
  have hpw : pw q * 2 ^ s = 2 ^ k := by
    have : pw q = 2 ^ (32 * q) := by unfold pw; rw [Nat.pow_mul]
    rw [this, ← Nat.pow_add]
    congr 1
    omega
  have hps := pow_small s hs32
  obtain ⟨p, hp⟩ : ∃ p, p = 2 ^ s := ⟨_, rfl⟩
  have e3 : (2 : Int) ^ s = (p : Int) := by
    have h5 : ((2 ^ s : Nat) : Int) = (2 : Int) ^ s := by simp
    rw [← h5, ← hp]
  have hpl : p < 4294967296 := by omega
  have T1 := hid (rTimes_arg (V := X * 2 ^ k) (AO.below (below_alloc w2 _)) (lit_arg w2 p (by omega)) (by omega) (by rw [hval]; simp only [val]; rw [← hpw, hp, Nat.mul_assoc]; simp))
  have HAP := hid hap
  have hs2 := hB2.size
  have S1 := Aside.intro hB2
  clear hap hown hgrow hB2 hl2 hnil2 hRd2 AO hval hpw A1 hR hO1 hB1 h1 hW1 hq hs hps hp
  go_enter Tryd.func83, Tryd.ntmps83
  go_wp2_with (at_builtin; refine wpList_append_run2 rfl (.tmp 39) (.tmp 40) 23 rfl _ _ rfl rfl _ _ HAP.out ?_)
  refine (Calls.mono T1.out) ?_
  rintro r u3 ⟨v3, rfl, hN3, hb3⟩
  have S2 := (Aside.intro (And.intro hN3 hb3))
  clear hN3 hb3
  go_wp2
  go_ret
  obtain ⟨hN3, hb3⟩ := S2.out
  exact ⟨v3, rfl, hN3.mono (by simp; omega), S1.out.trans (((below_alloc w2 _).trans (hb3.mono (by simp))).mono hs2)⟩

set_option maxHeartbeats 4000000 in
theorem moved_down {w : World} {b off : Nat} {l c : Nat} {X : Nat} (k : Nat) (h1 : Arg w (some ⟨b, off, none⟩) l c (ws X)) (hl : l ≤ 2000000) (hk0 : 0 < k) (hk : k ≤ 64000000) (hkl : k / 32 < l) :
    Calls Tryd.prog 83 #[.slice (some ⟨b, off, none⟩) l c, .int .i64 (-(k : Int))] w fun r w' => ∃ v, r = .returned v ∧ Nt w.heap.size w' v (X / 2 ^ k) ∧ Below w.heap.size w w' := by
  obtain ⟨q, hq⟩ : ∃ q, q = k / 32 := ⟨_, rfl⟩
  obtain ⟨s, hs⟩ : ∃ s, s = k % 32 := ⟨_, rfl⟩
  have e1 : (k : Int) / 32 = (q : Int) := by omega
  have e2 : (k : Int) % 32 = (s : Int) := by omega
  have hql : q < l := by omega
  have hs32 : s < 32 := by omega
  have hcl := h1.cap
  have hqc : ¬ c = q := by omega
  obtain ⟨p, hp⟩ : ∃ p, p = 2 ^ s := ⟨_, rfl⟩
  have hps := pow_small s hs32
  have e3 : (2 : Int) ^ s = (p : Int) := by
    have h5 : ((2 ^ s : Nat) : Int) = (2 : Int) ^ s := by simp
    rw [← h5, ← hp]
  have hpl : p < 4294967296 := by omega
  have hd1 : decide (l ≤ q) = false := decide_eq_false (by omega)
  have hd2 : decide ((-(k : Int)) < -1099511627776) = false := decide_eq_false (by omega)
  have hd3 : decide ((l : Int) ≤ (q : Int)) = false := decide_eq_false (by omega)
  have hvd : val ((ws X).drop q) = X / pw q := by
    have h5 := val_take_drop (ws X) q (by rw [← h1.len]; omega)
    have h6 := val_lt ((ws X).take q) ((wf_ws X).take q)
    rw [val_ws] at h5
    rw [List.length_take, Nat.min_eq_left (by rw [← h1.len]; omega)] at h6
    generalize val ((ws X).drop q) = Bv at h5 ⊢
    generalize val ((ws X).take q) = Av at h5 h6
    rw [h5, Nat.add_mul_div_left _ _ (pw_pos q), Nat.div_eq_of_lt h6, Nat.zero_add]
  have hpw : X / pw q / p = X / 2 ^ k := by
    have h5 : pw q = 2 ^ (32 * q) := by unfold pw; rw [Nat.pow_mul]
    rw [Nat.div_div_eq_div_mul, h5, hp, ← Nat.pow_add]
    congr 2
    omega
  have hXl : (ws (X / pw q)).length ≤ 2000000 := by
    have h5 : X < pw l := by rw [h1.len]; exact ws_len_lt X
    have h6 : X / pw q ≤ X := Nat.div_le_self _ _
    have h7 := (ws_len_le (X / pw q) l).2 (by omega)
    omega
  have hp0 : 0 < p := by rw [hp]; exact Nat.pow_pos (by omega)
  have HNm : Hid (∀ u, Below w.heap.size w u → Calls Tryd.prog 65 #[.slice (some ⟨b, off + q, none⟩) (l - q) (c - q)] u fun r w' => ∃ v, r = .returned v ∧ Nt u.heap.size w' v (X / pw q) ∧ Below u.heap.size u w') := by
    intro u hu
    have h5 := rNorm_any ((ws X).drop q) (some ⟨b, off + q, none⟩) (l - q) (c - q) w.heap.size u (by rw [List.length_drop, ← h1.len]) (by omega) (by omega) ((wf_ws X).drop q) ((h1.rd.drop q).below hu) (fun e => by cases e)
    rw [hvd] at h5
    exact h5
  have HP := (Aside.intro (And.intro hpw hXl))
  have e7 : IntKind.i64.wrap (k : Int) = (k : Int) := by simp [IntKind.wrap, IntKind.bits, IntKind.signed] <;> omega
  have e8 : (k : Int).tmod 32 = (s : Int) := by rw [Int.tmod_eq_emod_of_nonneg (by omega)]; exact e2
  have e6 : IntKind.u32.wrap (p : Int) = (p : Int) := by simp [IntKind.wrap, IntKind.bits, IntKind.signed] <;> omega
  clear h1 hq hs hp hvd hpw hXl hps
  go_enter Tryd.func83, Tryd.ntmps83
  go_wp2
  go_region_with (first
    | (go_at_call 65
       refine (HNm.out _ ((Below.refl _ _).drew)).mono ?_
       rintro r u1 ⟨v1, rfl, hN1, hb1⟩
       obtain ⟨a1, c1, rfl, A1⟩ := hN1.arg (by have := HP.out.2; omega)
       have hbw : Below w.heap.size w u1 := ((Below.refl w.heap.size w).drew).trans (hb1.mono (Nat.le_refl _))
       have S1 := (Aside.intro (And.intro hbw A1))
       clear hN1 hb1 A1 hbw)
    | (go_at_call 65
       refine (HNm.out _ ((below_alloc w _).drew)).mono ?_
       rintro r u1 ⟨v1, rfl, hN1, hb1⟩
       obtain ⟨a1, c1, rfl, A1⟩ := hN1.arg (by have := HP.out.2; omega)
       have hbw : Below w.heap.size w u1 := ((below_alloc w _).drew).trans (hb1.mono (by simp))
       have L1 := Aside.intro ((Arg.drew' (lit_arg w p hpl)).below hb1)
       have S1 := (Aside.intro (And.intro hbw A1))
       clear hN1 hb1 A1 hbw)
    | (go_at_call 117
       refine (parts_any S1.out.2 L1.out (by have := HP.out.2; omega) (by omega) (by simp [val]; exact hp0)).mono ?_
       rintro r u2 ⟨v2, v3, rfl, hN2, hN3, hb2⟩
       have hbw : Below w.heap.size w u2 := S1.out.1.trans (hb2.mono S1.out.1.size)
       have hNw := hN2.mono (lo' := w.heap.size) S1.out.1.size
       have S2 := (Aside.intro (And.intro hNw hbw))
       clear hN2 hN3 hb2 hbw hNw)
    | (go_at_call 117
       refine (parts_any (S1.out.2.below (below_alloc u1 _)) (lit_arg u1 p hpl) (by have := HP.out.2; omega) (by omega) (by simp [val]; exact hp0)).mono ?_
       rintro r u2 ⟨v2, v3, rfl, hN2, hN3, hb2⟩
       have hbw : Below w.heap.size w u2 := S1.out.1.trans (((below_alloc u1 _).trans (hb2.mono (by simp))).mono S1.out.1.size)
       have hNw := hN2.mono (lo' := w.heap.size) (by have := S1.out.1.size; simp; omega)
       have S2 := (Aside.intro (And.intro hNw hbw))
       clear hN2 hN3 hb2 hbw hNw))
  all_goals (
    go_wp2
    go_ret
    obtain ⟨hN2, hb2⟩ := S2.out
    have e5 : val [p] = p := by simp [val]
    rw [val_ws, e5, HP.out.1] at hN2
    exact ⟨v2, rfl, hN2, hb2⟩)
end Go.Proofs.YthilnddhehbjiaaDoor

/- The document's Shift. -/
namespace Go.Proofs.YthilnddhehbjiaaDoor
open Go.RowKit
set_option linter.unusedVariables false
set_option maxRecDepth 20000

set_option maxHeartbeats 1000000 in
theorem moved_far (a : Option Addr) (l c k : Nat) (w : World) (hl : l ≤ 2000000) (hk : k ≤ 9223372036854775807) (hk0 : 0 < k) (hkl : l ≤ k / 32) :
    Calls Tryd.prog 83 #[.slice a l c, .int .i64 (-(k : Int))] w fun r w' => r = .returned (.slice none 0 0) ∧ w' = w := by
  obtain ⟨q, hq⟩ : ∃ q, q = k / 32 := ⟨_, rfl⟩
  have e1 : (k : Int) / 32 = (q : Int) := by omega
  have e7 : IntKind.i64.wrap (k : Int) = (k : Int) := by simp [IntKind.wrap, IntKind.bits, IntKind.signed] <;> omega
  have hql : l ≤ q := by omega
  clear hq hkl
  go_enter Tryd.func83, Tryd.ntmps83
  go_wp2
  go_ret
  exact ⟨rfl, rfl⟩

set_option maxHeartbeats 1000000 in
theorem moved_least (a : Option Addr) (l c : Nat) (w : World) (hl : l ≤ 2000000) :
    Calls Tryd.prog 83 #[.slice a l c, .int .i64 (-9223372036854775808)] w fun r w' => r = .returned (.slice none 0 0) ∧ w' = w := by
  go_enter Tryd.func83, Tryd.ntmps83
  go_wp2
  all_goals (
    go_ret
    exact ⟨rfl, rfl⟩)

theorem shift_gone (X k l : Nat) (h : X < pw l) (hk : 32 * l ≤ k) : X / 2 ^ k = 0 := by
  apply Nat.div_eq_of_lt
  have h1 : pw l = 2 ^ (32 * l) := by unfold pw; rw [Nat.pow_mul]
  have h2 : 2 ^ (32 * l) ≤ 2 ^ k := Nat.pow_le_pow_right (by omega) hk
  omega

theorem Nt.some {lo : Nat} {w : World} {v : Value} {X : Nat} (h : Nt lo w v X) (hX : X ≠ 0) : ∃ g c, v = .slice (some ⟨g, 0, none⟩) (ws X).length c := by
  rcases h.2 with ⟨_, h0⟩ | ⟨g, cap, cur, rfl, _⟩
  · exact absurd ((ws_len_zero X).1 h0) hX
  · exact ⟨g, cap, rfl⟩

/-- Whatever Moved is asked for. -/
theorem moved_any {w : World} {v : Value} {X lo : Nat} (hN : Nt lo w v X) (by' : Int) (hb0 : -9223372036854775808 ≤ by') (hb1 : by' ≤ 64000000) (hX : X ≠ 0) (hl : (ws X).length ≤ 2000000) :
    Calls Tryd.prog 83 #[v, .int .i64 by'] w fun r w' => ∃ v, r = .returned v ∧ Nt w.heap.size w' v (if by' < 0 then X / 2 ^ (-by').toNat else X * 2 ^ by'.toNat) ∧ Below w.heap.size w w' := by
  obtain ⟨g, c, rfl⟩ := hN.some hX
  obtain ⟨_, _, e, A⟩ := hN.arg (by omega)
  cases e
  by_cases h : by' < 0
  · rw [if_pos h]
    by_cases hmin : by' = -9223372036854775808
    · subst hmin
      rw [shift_gone X _ (ws X).length (ws_len_lt X) (by omega)]
      exact (moved_least _ _ _ w hl).mono fun r w' ⟨h1, h2⟩ => ⟨_, h1, Nt.nil _ _, by rw [h2]; exact Below.refl _ _⟩
    · obtain ⟨k, hk⟩ : ∃ k : Nat, by' = -(k : Int) := ⟨(-by').toNat, by omega⟩
      subst hk
      rw [show (- -(k : Int)).toNat = k by omega]
      by_cases hkl : k / 32 < (ws X).length
      · exact moved_down k A hl (by omega) (by omega) hkl
      · rw [shift_gone X k (ws X).length (ws_len_lt X) (by omega)]
        exact (moved_far _ _ _ k w hl (by omega) (by omega) (by omega)).mono fun r w' ⟨h1, h2⟩ => ⟨_, h1, Nt.nil _ _, by rw [h2]; exact Below.refl _ _⟩
  · rw [if_neg h]
    obtain ⟨k, hk⟩ : ∃ k : Nat, by' = (k : Int) := ⟨by'.toNat, by omega⟩
    subst hk
    rw [show ((k : Int)).toNat = k by omega]
    exact moved_up k A hl (by omega)

end Go.Proofs.YthilnddhehbjiaaDoor

/- The document's long, fits, Add, Sub, Mul, Div. -/
namespace Go.Proofs.YthilnddhehbjiaaDoor
open Go.RowKit
set_option linter.unusedVariables false
set_option maxRecDepth 20000

theorem size_arg {w : World} {a : Option Addr} {n c : Nat} {xs : List Nat} (h1 : Arg w a n c xs) :
    Calls Tryd.prog 111 #[.slice a n c] w fun r w' => r = .returned (.int .i64 ((ws (val xs)).length : Nat)) ∧ w' = w := by
  have h := size_any xs a n c w.heap.size w h1.len (by have := h1.big; omega) h1.rd
  rw [nl_eq_length xs h1.wf] at h
  exact h

theorem LG_le {X Y : Nat} (h : X ≤ Y) (hL : LG X) : LG Y := by
  unfold LG at *
  have h1 := (ws_len_le X (ws Y).length).2 (by have := ws_len_lt Y; omega)
  omega

theorem LG_pw {X : Nat} (h : ¬ LG X) : X < pw 8192 := (ws_len_le X 8192).1 (by unfold LG at h; omega)

end Go.Proofs.YthilnddhehbjiaaDoor

