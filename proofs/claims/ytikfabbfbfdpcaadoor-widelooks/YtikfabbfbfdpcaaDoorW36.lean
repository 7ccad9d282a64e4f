/- divided: a by b, and back. -/
import Derived.Test.YtikfabbfbfdpcaaDoorW34
namespace Go.Proofs.YtikfabbfbfdpcaaDoor
open Go.RowKit
set_option linter.unusedVariables false

theorem Div_arg {w : World} {a b : Option Addr} {n c m d : Nat} {xs ys : List Nat} {V U : Nat} {z : Int} (h1 : Arg w a n c xs) (h2 : Arg w b m d ys) (e : divS (val xs) (val ys) = (V, U, z)) :
    Calls Tryd.prog 45 #[.slice a n c, .slice b m d] w fun r w' => ∃ v u, r = .returned (.tuple #[v, u, .int .i64 z]) ∧ Nt w.heap.size w' v V ∧ Nt w.heap.size w' u U ∧ Below w.heap.size w w' :=
  (Div_any xs ys a b n c m d w.heap.size w h1.len h2.len h1.cap h2.cap (by have := h1.big; omega) (by have := h2.big; omega) h1.wf h2.wf h1.rd h2.rd (Nat.le_refl _)).mono
    fun r w' ⟨⟨v, u, h3, h4, h5, h6⟩, hb⟩ => by rw [e] at h3 h4 h5; exact ⟨v, u, h3, h4, h5, hb⟩
theorem rLen_arg {w : World} {a : Option Addr} {n c : Nat} {xs : List Nat} {k : Nat} (h1 : Arg w a n c xs) (e : bl (val xs) = k) :
    Calls Tryd.prog 29 #[.slice a n c] w fun r w' => r = .returned (.int .i64 (k : Nat)) ∧ Below w.heap.size w w' := by
  subst e
  exact (rLen_any xs a n c w.heap.size w h1.len (by have := h1.big; omega) h1.wf h1.rd).mono fun r w' ⟨h, e⟩ => ⟨h, by rw [e]; exact Below.refl _ _⟩
theorem Formed_arg {w : World} {a : Option Addr} {c V : Nat} (h1 : Arg w a (ws V).length c (ws V)) :
    Calls Tryd.prog 70 #[.slice a (ws V).length c] w fun r w' => r = .returned (.bool true) ∧ Below w.heap.size w w' :=
  (rFormed_any V a c w.heap.size w (by have := h1.big; omega) h1.rd).mono fun r w' ⟨h, e⟩ => ⟨h, by rw [e]; exact Below.refl _ _⟩

set_option maxHeartbeats 8000000 in
set_option maxRecDepth 100000 in
theorem divided_nought (xa xb : List Nat) (aX aY : Option Addr) (nX cX nY cY : Nat) (w : World) (AX : Arg w aX nX cX xa) (AY : Arg w aY nY cY xb) (hX : val xa < pw 2000) (hY : val xb = 0) :
    Calls Tryd.prog 40 #[.slice aX nX cX, .slice aY nY cY] w fun r w' => r = .returned (.bool true) ∧ Below w.heap.size w w' := by
  have m1 : divS (val xa) (val xb) = (0, 0, 21) := by
    rw [hY]; unfold divS; rw [if_neg (by intro h; rcases h with h | h; exact LG_small hX (by omega) h; exact LG_small (show 0 < pw 1 from pw_pos 1) (by omega) h), if_pos rfl]
  have m2 : bl (val xb) = 0 := by rw [hY, bl_zero]
  have hbel := Below.refl w.heap.size w
  have S0 := (Aside.intro (And.intro hbel (And.intro AX AY)))
  have M := (Aside.intro (And.intro m1 m2))
  have z0 : (ws 0).length ≤ 35184372088832 := by rw [ws_zero]; simp
  have BB := (Aside.intro (And.intro z0 z0))
  clear hbel AX AY m1 m2 z0 hX hY
  go_enter Tryd.func40, Tryd.ntmps40
  obtain ⟨hbel, AX, AY⟩ := S0.out
  have HC := hid (Div_arg AX AY M.out.1)
  clear hbel AX AY
  go_wp2_with fail
  refine (Calls.mono HC.out) ?_
  rintro r W1 ⟨vq, vr, rfl, hN, hR, hb⟩
  clear HC
  obtain ⟨hbel, AX, AY⟩ := S0.out
  have hbn := hbel.trans (hb.mono hbel.size)
  have PX := AX.below hb
  have PY := AY.below hb
  obtain ⟨aq, cq, rfl, Pq⟩ := hN.arg BB.out.1
  obtain ⟨ar, cr, rfl, Pr⟩ := hR.arg BB.out.1
  have S1 := (Aside.intro (And.intro hbn (And.intro PX (And.intro PY (And.intro Pq Pr)))))
  clear hb hbel AX AY hbn PX PY Pq Pr hN hR S0
  obtain ⟨hbel, AX, AY, Aq, Ar⟩ := S1.out
  have HC := hid (rLen_arg AY M.out.2)
  clear hbel AX AY Aq Ar
  go_wp2_with fail
  refine (Calls.mono HC.out) ?_
  rintro r W2 ⟨rfl, hb⟩
  clear HC
  obtain ⟨hbel, AX, AY, Aq, Ar⟩ := S1.out
  have hbn := hbel.trans (hb.mono hbel.size)
  have PX := AX.below hb
  have PY := AY.below hb
  have Pq := Aq.below hb
  have Pr := Ar.below hb
  have S2 := (Aside.intro (And.intro hbn (And.intro PX (And.intro PY (And.intro Pq Pr)))))
  clear hb hbel AX AY Aq Ar hbn PX PY Pq Pr  S1
  have hbW := hid S2.out.1
  clear S2 M BB
  have hz : (ws 0).length = 0 := by rw [ws_zero]; rfl
  go_wp2
  go_ret
  exact ⟨by first | rfl | simp [hz], hbW.out⟩

set_option maxHeartbeats 8000000 in
set_option maxRecDepth 100000 in
theorem divided_plain (xa xb : List Nat) (aX aY : Option Addr) (nX cX nY cY : Nat) (w : World) (AX : Arg w aX nX cX xa) (AY : Arg w aY nY cY xb) (hX : val xa < pw 2000) (hY2 : val xb < pw 2000) (hY : val xb ≠ 0) :
    Calls Tryd.prog 40 #[.slice aX nX cX, .slice aY nY cY] w fun r w' => r = .returned (.bool true) ∧ Below w.heap.size w w' := by
  obtain ⟨X, eX⟩ : ∃ X, val xa = X := ⟨_, rfl⟩
  obtain ⟨Y, eY⟩ : ∃ Y, val xb = Y := ⟨_, rfl⟩
  rw [eX] at hX
  rw [eY] at hY hY2
  obtain ⟨Q, eQ⟩ : ∃ Q, X / Y = Q := ⟨_, rfl⟩
  obtain ⟨R, eR⟩ : ∃ R, X % Y = R := ⟨_, rfl⟩
  have hsum : Q * Y + R = X := by rw [← eQ, ← eR, Nat.mul_comm]; exact Nat.div_add_mod X Y
  have hR : R < Y := by rw [← eR]; exact Nat.mod_lt _ (by omega)
  obtain ⟨P, eP⟩ : ∃ P, Q * Y = P := ⟨_, rfl⟩
  have hQ : Q < pw 2000 := by
    have : Q ≤ X := by rw [← eQ]; exact Nat.div_le_self _ _
    omega
  have hR2 : R < pw 2000 := by omega
  have hP : P < pw 2000 := by omega
  have lX := LG_small hX (by omega)
  have lY := LG_small hY2 (by omega)
  have m1 : divS (val xa) (val xb) = (Q, R, 0) := by rw [eX, eY]; unfold divS; rw [if_neg (by simp [lX, lY]), if_neg hY, eQ, eR]
  obtain ⟨k, ek⟩ : ∃ k, bl Y = k := ⟨_, rfl⟩
  have hk : 0 < k := by rw [← ek]; exact bl_pos Y hY
  have m2 : bl (val xb) = k := by rw [eY]; exact ek
  have m3 : mulS (val (ws Q)) (val xb) = (P, 0) := by rw [val_ws, eY]; exact mulS_ok (LG_small hQ (by omega)) lY (LG_small hP (by omega)) eP
  have m4 : addS (val (ws P)) (val (ws R)) = (X, 0) := by rw [val_ws, val_ws]; exact addS_ok lX (by rw [← eP]; exact hsum)
  have m6 : cmpI (val (ws R)) (val xb) = -1 := by rw [val_ws, eY]; exact cmpI_lt hR
  have m7 : cmpI (val xb) (val (ws R)) = 1 := by rw [val_ws, eY]; exact cmpI_gt hR
  have hbel := Below.refl w.heap.size w
  have S0 := (Aside.intro (And.intro hbel (And.intro AX AY)))
  have M := (Aside.intro (And.intro m1 (And.intro m2 (And.intro m3 (And.intro m4 (And.intro eX (And.intro m6 m7)))))))
  have bQ := ws_small hQ (by omega)
  have bR := ws_small hR2 (by omega)
  have bP := ws_small hP (by omega)
  have bX := ws_small hX (by omega)
  have BB := (Aside.intro (And.intro bQ (And.intro bR (And.intro bP bX))))
  have hkne : ((k : Int) == 0) = false := by simp; omega
  clear hbel AX AY m1 m2 m3 m4 m6 m7 bQ bR bP bX hX hY hY2 eX eY eQ eR hsum hR eP hQ hR2 hP lX lY ek hk
  go_enter Tryd.func40, Tryd.ntmps40
  obtain ⟨hbel, AX, AY⟩ := S0.out
  have HC := hid (Div_arg AX AY (M.out.1))
  clear hbel AX AY
  go_wp2_with fail
  refine (Calls.mono HC.out) ?_
  rintro r W1 ⟨vq, vr, rfl, hN, hR, hb⟩
  clear HC
  obtain ⟨hbel, AX, AY⟩ := S0.out
  have hbn := hbel.trans (hb.mono hbel.size)
  have PX := AX.below hb
  have PY := AY.below hb
  obtain ⟨aq, cq, rfl, Pq⟩ := hN.arg (BB.out.1)
  obtain ⟨ar, cr, rfl, Pr⟩ := hR.arg (BB.out.2.1)
  have S1 := (Aside.intro (And.intro hbn (And.intro PX (And.intro PY (And.intro Pq Pr)))))
  clear hb hbel AX AY hbn PX PY Pq Pr hN hR S0
  obtain ⟨hbel, AX, AY, Aq, Ar⟩ := S1.out
  have HC := hid (rLen_arg AY (M.out.2.1))
  clear hbel AX AY Aq Ar
  go_wp2_with fail
  refine (Calls.mono HC.out) ?_
  rintro r W2 ⟨rfl, hb⟩
  clear HC
  obtain ⟨hbel, AX, AY, Aq, Ar⟩ := S1.out
  have hbn := hbel.trans (hb.mono hbel.size)
  have PX := AX.below hb
  have PY := AY.below hb
  have Pq := Aq.below hb
  have Pr := Ar.below hb
  have S2 := (Aside.intro (And.intro hbn (And.intro PX (And.intro PY (And.intro Pq Pr)))))
  clear hb hbel AX AY Aq Ar hbn PX PY Pq Pr  S1
  obtain ⟨hbel, AX, AY, Aq, Ar⟩ := S2.out
  have HC := hid (Mul_arg Aq AY (M.out.2.2.1))
  clear hbel AX AY Aq Ar
  go_wp2_with fail
  refine (Calls.mono HC.out) ?_
  rintro r W3 ⟨vp, rfl, hN, hb⟩
  clear HC
  obtain ⟨hbel, AX, AY, Aq, Ar⟩ := S2.out
  have hbn := hbel.trans (hb.mono hbel.size)
  have PX := AX.below hb
  have PY := AY.below hb
  have Pq := Aq.below hb
  have Pr := Ar.below hb
  obtain ⟨ap, cp, rfl, Pp⟩ := hN.arg (BB.out.2.2.1)
  have S3 := (Aside.intro (And.intro hbn (And.intro PX (And.intro PY (And.intro Pq (And.intro Pr Pp))))))
  clear hb hbel AX AY Aq Ar hbn PX PY Pq Pr Pp hN S2
  obtain ⟨hbel, AX, AY, Aq, Ar, Ap⟩ := S3.out
  have HC := hid (Add_arg Ap Ar (M.out.2.2.2.1))
  clear hbel AX AY Aq Ar Ap
  go_wp2_with fail
  refine (Calls.mono HC.out) ?_
  rintro r W4 ⟨vk, rfl, hN, hb⟩
  clear HC
  obtain ⟨hbel, AX, AY, Aq, Ar, Ap⟩ := S3.out
  have hbn := hbel.trans (hb.mono hbel.size)
  have PX := AX.below hb
  have PY := AY.below hb
  have Pq := Aq.below hb
  have Pr := Ar.below hb
  have Pp := Ap.below hb
  obtain ⟨ak, ck, rfl, Pk⟩ := hN.arg (BB.out.2.2.2)
  have S4 := (Aside.intro (And.intro hbn (And.intro PX (And.intro PY (And.intro Pq (And.intro Pr (And.intro Pp Pk)))))))
  clear hb hbel AX AY Aq Ar Ap hbn PX PY Pq Pr Pp Pk hN S3
  obtain ⟨hbel, AX, AY, Aq, Ar, Ap, Ak⟩ := S4.out
  have HC := hid (Norm_arg AX (M.out.2.2.2.2.1))
  clear hbel AX AY Aq Ar Ap Ak
  go_wp2_with fail
  refine (Calls.mono HC.out) ?_
  rintro r W5 ⟨vn, rfl, hN, hb⟩
  clear HC
  obtain ⟨hbel, AX, AY, Aq, Ar, Ap, Ak⟩ := S4.out
  have hbn := hbel.trans (hb.mono hbel.size)
  have PX := AX.below hb
  have PY := AY.below hb
  have Pq := Aq.below hb
  have Pr := Ar.below hb
  have Pp := Ap.below hb
  have Pk := Ak.below hb
  obtain ⟨an, cn, rfl, Pn⟩ := hN.arg (BB.out.2.2.2)
  have S5 := (Aside.intro (And.intro hbn (And.intro PX (And.intro PY (And.intro Pq (And.intro Pr (And.intro Pp (And.intro Pk Pn))))))))
  clear hb hbel AX AY Aq Ar Ap Ak hbn PX PY Pq Pr Pp Pk Pn hN S4
  obtain ⟨hbel, AX, AY, Aq, Ar, Ap, Ak, An⟩ := S5.out
  have HC := hid (same_arg Ak An)
  clear hbel AX AY Aq Ar Ap Ak An
  go_wp2_with fail
  refine (Calls.mono HC.out) ?_
  rintro r W6 ⟨rfl, hb⟩
  clear HC
  obtain ⟨hbel, AX, AY, Aq, Ar, Ap, Ak, An⟩ := S5.out
  have hbn := hbel.trans (hb.mono hbel.size)
  have PX := AX.below hb
  have PY := AY.below hb
  have Pq := Aq.below hb
  have Pr := Ar.below hb
  have Pp := Ap.below hb
  have Pk := Ak.below hb
  have Pn := An.below hb
  have S6 := (Aside.intro (And.intro hbn (And.intro PX (And.intro PY (And.intro Pq (And.intro Pr (And.intro Pp (And.intro Pk Pn))))))))
  clear hb hbel AX AY Aq Ar Ap Ak An hbn PX PY Pq Pr Pp Pk Pn  S5
  obtain ⟨hbel, AX, AY, Aq, Ar, Ap, Ak, An⟩ := S6.out
  have HC := hid (Formed_arg Aq)
  clear hbel AX AY Aq Ar Ap Ak An
  go_wp2_with fail
  refine (Calls.mono HC.out) ?_
  rintro r W7 ⟨rfl, hb⟩
  clear HC
  obtain ⟨hbel, AX, AY, Aq, Ar, Ap, Ak, An⟩ := S6.out
  have hbn := hbel.trans (hb.mono hbel.size)
  have PX := AX.below hb
  have PY := AY.below hb
  have Pq := Aq.below hb
  have Pr := Ar.below hb
  have Pp := Ap.below hb
  have Pk := Ak.below hb
  have Pn := An.below hb
  have S7 := (Aside.intro (And.intro hbn (And.intro PX (And.intro PY (And.intro Pq (And.intro Pr (And.intro Pp (And.intro Pk Pn))))))))
  clear hb hbel AX AY Aq Ar Ap Ak An hbn PX PY Pq Pr Pp Pk Pn  S6
  obtain ⟨hbel, AX, AY, Aq, Ar, Ap, Ak, An⟩ := S7.out
  have HC := hid (Formed_arg Ar)
  clear hbel AX AY Aq Ar Ap Ak An
  go_wp2_with fail
  refine (Calls.mono HC.out) ?_
  rintro r W8 ⟨rfl, hb⟩
  clear HC
  obtain ⟨hbel, AX, AY, Aq, Ar, Ap, Ak, An⟩ := S7.out
  have hbn := hbel.trans (hb.mono hbel.size)
  have PX := AX.below hb
  have PY := AY.below hb
  have Pq := Aq.below hb
  have Pr := Ar.below hb
  have Pp := Ap.below hb
  have Pk := Ak.below hb
  have Pn := An.below hb
  have S8 := (Aside.intro (And.intro hbn (And.intro PX (And.intro PY (And.intro Pq (And.intro Pr (And.intro Pp (And.intro Pk Pn))))))))
  clear hb hbel AX AY Aq Ar Ap Ak An hbn PX PY Pq Pr Pp Pk Pn  S7
  obtain ⟨hbel, AX, AY, Aq, Ar, Ap, Ak, An⟩ := S8.out
  have HC := hid (Cmp_arg Ar AY _ (M.out.2.2.2.2.2.1))
  clear hbel AX AY Aq Ar Ap Ak An
  go_wp2_with fail
  refine (Calls.mono HC.out) ?_
  rintro r W9 ⟨rfl, hb⟩
  clear HC
  obtain ⟨hbel, AX, AY, Aq, Ar, Ap, Ak, An⟩ := S8.out
  have hbn := hbel.trans (hb.mono hbel.size)
  have PX := AX.below hb
  have PY := AY.below hb
  have Pq := Aq.below hb
  have Pr := Ar.below hb
  have Pp := Ap.below hb
  have Pk := Ak.below hb
  have Pn := An.below hb
  have S9 := (Aside.intro (And.intro hbn (And.intro PX (And.intro PY (And.intro Pq (And.intro Pr (And.intro Pp (And.intro Pk Pn))))))))
  clear hb hbel AX AY Aq Ar Ap Ak An hbn PX PY Pq Pr Pp Pk Pn  S8
  obtain ⟨hbel, AX, AY, Aq, Ar, Ap, Ak, An⟩ := S9.out
  have HC := hid (Cmp_arg AY Ar _ (M.out.2.2.2.2.2.2))
  clear hbel AX AY Aq Ar Ap Ak An
  go_wp2_with fail
  refine (Calls.mono HC.out) ?_
  rintro r W10 ⟨rfl, hb⟩
  clear HC
  obtain ⟨hbel, AX, AY, Aq, Ar, Ap, Ak, An⟩ := S9.out
  have hbn := hbel.trans (hb.mono hbel.size)
  have PX := AX.below hb
  have PY := AY.below hb
  have Pq := Aq.below hb
  have Pr := Ar.below hb
  have Pp := Ap.below hb
  have Pk := Ak.below hb
  have Pn := An.below hb
  have S10 := (Aside.intro (And.intro hbn (And.intro PX (And.intro PY (And.intro Pq (And.intro Pr (And.intro Pp (And.intro Pk Pn))))))))
  clear hb hbel AX AY Aq Ar Ap Ak An hbn PX PY Pq Pr Pp Pk Pn  S9
  have hbW := hid S10.out.1
  clear S10 M BB
  go_wp2
  go_ret
  exact ⟨rfl, hbW.out⟩

theorem divided_any (xa xb : List Nat) (aX aY : Option Addr) (nX cX nY cY : Nat) (w : World) (AX : Arg w aX nX cX xa) (AY : Arg w aY nY cY xb) (hX : val xa < pw 2000) (hY2 : val xb < pw 2000) :
    Calls Tryd.prog 40 #[.slice aX nX cX, .slice aY nY cY] w fun r w' => r = .returned (.bool true) ∧ Below w.heap.size w w' := by
  by_cases h : val xb = 0
  · exact divided_nought xa xb aX aY nX cX nY cY w AX AY hX h
  · exact divided_plain xa xb aX aY nX cX nY cY w AX AY hX hY2 h
end Go.Proofs.YtikfabbfbfdpcaaDoor
