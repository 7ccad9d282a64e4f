/- laws: no order, no brackets, sums times a number. -/
import Derived.Test.YtikfabbfbfdpcaaDoorW34
namespace Go.Proofs.YtikfabbfbfdpcaaDoor
open Go.RowKit
set_option linter.unusedVariables false

theorem alloc_cell (w : World) (cs : Array Value) (t : TypeId) (k : Nat) : (w.alloc (.cells cs t)).cell? ⟨w.heap.size, k, none⟩ = cs[k]? := by
  unfold World.cell?
  rw [heap_alloc_new]
  rfl

set_option maxHeartbeats 8000000 in
set_option maxRecDepth 100000 in
theorem laws_any (xa xb xc : List Nat) (aX aY aZ : Option Addr) (nX cX nY cY nZ cZ : Nat) (w : World) (AX : Arg w aX nX cX xa) (AY : Arg w aY nY cY xb) (AZ : Arg w aZ nZ cZ xc) (hX : val xa < pw 2000) (hY : val xb < pw 2000) (hZ : val xc < pw 2000) :
    Calls Tryd.prog 39 #[.slice aX nX cX, .slice aY nY cY, .slice aZ nZ cZ] w fun r w' => r = .returned (.bool true) ∧ Below w.heap.size w w' := by
  obtain ⟨X, eX⟩ : ∃ X, val xa = X := ⟨_, rfl⟩
  obtain ⟨Y, eY⟩ : ∃ Y, val xb = Y := ⟨_, rfl⟩
  obtain ⟨Z, eZ⟩ : ∃ Z, val xc = Z := ⟨_, rfl⟩
  rw [eX] at hX
  rw [eY] at hY
  rw [eZ] at hZ
  have lX := LG_small hX (by omega)
  have lY := LG_small hY (by omega)
  have lZ := LG_small hZ (by omega)
  have q1 := pw_mul_lt hX hY
  obtain ⟨V1, e1⟩ : ∃ V, X * Y = V := ⟨_, rfl⟩
  rw [e1] at q1
  have l1 := LG_small q1 (by omega)
  have b1 := ws_small q1 (by omega)
  have q2 := pw_mul_lt hX hZ
  obtain ⟨V2, e2⟩ : ∃ V, X * Z = V := ⟨_, rfl⟩
  rw [e2] at q2
  have l2 := LG_small q2 (by omega)
  have b2 := ws_small q2 (by omega)
  have q3 := pw_mul_lt hY hZ
  obtain ⟨V3, e3⟩ : ∃ V, Y * Z = V := ⟨_, rfl⟩
  rw [e3] at q3
  have l3 := LG_small q3 (by omega)
  have b3 := ws_small q3 (by omega)
  have q4 := pw_mul_lt (pw_mul_lt hX hY) hZ
  obtain ⟨V4, e4⟩ : ∃ V, X * Y * Z = V := ⟨_, rfl⟩
  rw [e4] at q4
  have l4 := LG_small q4 (by omega)
  have b4 := ws_small q4 (by omega)
  have q5 := pw_add_lt hY hZ
  obtain ⟨V5, e5⟩ : ∃ V, Y + Z = V := ⟨_, rfl⟩
  rw [e5] at q5
  have l5 := LG_small q5 (by omega)
  have b5 := ws_small q5 (by omega)
  have q6 := pw_add_lt (pw_mul_lt hX hY) (pw_mul_lt hX hZ)
  obtain ⟨V6, e6⟩ : ∃ V, X * Y + X * Z = V := ⟨_, rfl⟩
  rw [e6] at q6
  have l6 := LG_small q6 (by omega)
  have b6 := ws_small q6 (by omega)
  have bY := ws_small hY (by omega)
  have m1 : mulS (val xa) (val xb) = (V1, 0) := by rw [eX, eY]; exact mulS_ok lX lY l1 e1
  have m2 : mulS (val xb) (val xa) = (V1, 0) := by rw [eX, eY]; exact mulS_ok lY lX l1 (by rw [Nat.mul_comm]; exact e1)
  have m3 : mulS (val xa) (val xc) = (V2, 0) := by rw [eX, eZ]; exact mulS_ok lX lZ l2 e2
  have m4 : mulS (val xb) (val xc) = (V3, 0) := by rw [eY, eZ]; exact mulS_ok lY lZ l3 e3
  have m5 : mulS (val (ws V1)) (val xc) = (V4, 0) := by rw [val_ws, eZ]; exact mulS_ok l1 lZ l4 (by rw [← e1]; exact e4)
  have m6 : mulS (val xa) (val (ws V3)) = (V4, 0) := by rw [val_ws, eX]; exact mulS_ok lX l3 l4 (by rw [← e3, ← Nat.mul_assoc]; exact e4)
  have m7 : addS (val xb) (val xc) = (V5, 0) := by rw [eY, eZ]; exact addS_ok l5 e5
  have m8 : addS (val xc) (val xb) = (V5, 0) := by rw [eY, eZ]; exact addS_ok l5 (by rw [Nat.add_comm]; exact e5)
  have m9 : mulS (val xa) (val (ws V5)) = (V6, 0) := by rw [val_ws, eX]; exact mulS_ok lX l5 l6 (by rw [← e5, Nat.mul_add]; exact e6)
  have m10 : addS (val (ws V1)) (val (ws V2)) = (V6, 0) := by rw [val_ws, val_ws]; exact addS_ok l6 (by rw [← e1, ← e2]; exact e6)
  have m11 : subS (val (ws V5)) (val xc) = (Y, 0) := by rw [val_ws, eZ]; exact subS_ok l5 lZ e5
  have hbel := Below.refl w.heap.size w
  have S0 := (Aside.intro (And.intro hbel (And.intro AX (And.intro AY AZ))))
  have M := (Aside.intro (And.intro m1 (And.intro m2 (And.intro m3 (And.intro m4 (And.intro m5 (And.intro m6 (And.intro m7 (And.intro m8 (And.intro m9 (And.intro m10 (And.intro m11 eY))))))))))))
  have BB := (Aside.intro (And.intro b1 (And.intro b2 (And.intro b3 (And.intro b4 (And.intro b5 (And.intro b6 bY)))))))
  clear hbel AX AY AZ m1 m2 m3 m4 m5 m6 m7 m8 m9 m10 m11 b1 b2 b3 b4 b5 b6 bY l1 l2 l3 l4 l5 l6 lX lY lZ q1 q2 q3 q4 q5 q6 e1 e2 e3 e4 e5 e6 eX eY eZ hX hY hZ
  go_enter Tryd.func39, Tryd.ntmps39
  obtain ⟨hbel, AX, AY, AZ⟩ := S0.out
  have HC := hid (Mul_arg AX AY (M.out.1))
  clear hbel AX AY AZ
  go_wp2_with fail
  refine (Calls.mono HC.out) ?_
  rintro r W1 ⟨vab, rfl, hN, hb⟩
  clear HC
  obtain ⟨hbel, AX, AY, AZ⟩ := S0.out
  have hbn := hbel.trans (hb.mono hbel.size)
  have PX := AX.below hb
  have PY := AY.below hb
  have PZ := AZ.below hb
  obtain ⟨aab, cab, rfl, Pab⟩ := hN.arg (BB.out.1)
  have S1 := (Aside.intro (And.intro hbn (And.intro PX (And.intro PY (And.intro PZ Pab)))))
  clear hb hbel AX AY AZ hbn PX PY PZ Pab hN S0
  obtain ⟨hbel, AX, AY, AZ, Aab⟩ := S1.out
  have HC := hid (Mul_arg AY AX (M.out.2.1))
  clear hbel AX AY AZ Aab
  go_wp2_with fail
  refine (Calls.mono HC.out) ?_
  rintro r W2 ⟨vba, rfl, hN, hb⟩
  clear HC
  obtain ⟨hbel, AX, AY, AZ, Aab⟩ := S1.out
  have hbn := hbel.trans (hb.mono hbel.size)
  have PX := AX.below hb
  have PY := AY.below hb
  have PZ := AZ.below hb
  have Pab := Aab.below hb
  obtain ⟨aba, cba, rfl, Pba⟩ := hN.arg (BB.out.1)
  have S2 := (Aside.intro (And.intro hbn (And.intro PX (And.intro PY (And.intro PZ (And.intro Pab Pba))))))
  clear hb hbel AX AY AZ Aab hbn PX PY PZ Pab Pba hN S1
  obtain ⟨hbel, AX, AY, AZ, Aab, Aba⟩ := S2.out
  have HC := hid (Mul_arg AX AZ (M.out.2.2.1))
  clear hbel AX AY AZ Aab Aba
  go_wp2_with fail
  refine (Calls.mono HC.out) ?_
  rintro r W3 ⟨vac, rfl, hN, hb⟩
  clear HC
  obtain ⟨hbel, AX, AY, AZ, Aab, Aba⟩ := S2.out
  have hbn := hbel.trans (hb.mono hbel.size)
  have PX := AX.below hb
  have PY := AY.below hb
  have PZ := AZ.below hb
  have Pab := Aab.below hb
  have Pba := Aba.below hb
  obtain ⟨aac, cac, rfl, Pac⟩ := hN.arg (BB.out.2.1)
  have S3 := (Aside.intro (And.intro hbn (And.intro PX (And.intro PY (And.intro PZ (And.intro Pab (And.intro Pba Pac)))))))
  clear hb hbel AX AY AZ Aab Aba hbn PX PY PZ Pab Pba Pac hN S2
  obtain ⟨hbel, AX, AY, AZ, Aab, Aba, Aac⟩ := S3.out
  have HC := hid (Mul_arg AY AZ (M.out.2.2.2.1))
  clear hbel AX AY AZ Aab Aba Aac
  go_wp2_with fail
  refine (Calls.mono HC.out) ?_
  rintro r W4 ⟨vbc, rfl, hN, hb⟩
  clear HC
  obtain ⟨hbel, AX, AY, AZ, Aab, Aba, Aac⟩ := S3.out
  have hbn := hbel.trans (hb.mono hbel.size)
  have PX := AX.below hb
  have PY := AY.below hb
  have PZ := AZ.below hb
  have Pab := Aab.below hb
  have Pba := Aba.below hb
  have Pac := Aac.below hb
  obtain ⟨abc, cbc, rfl, Pbc⟩ := hN.arg (BB.out.2.2.1)
  have S4 := (Aside.intro (And.intro hbn (And.intro PX (And.intro PY (And.intro PZ (And.intro Pab (And.intro Pba (And.intro Pac Pbc))))))))
  clear hb hbel AX AY AZ Aab Aba Aac hbn PX PY PZ Pab Pba Pac Pbc hN S3
  obtain ⟨hbel, AX, AY, AZ, Aab, Aba, Aac, Abc⟩ := S4.out
  have HC := hid (Mul_arg Aab AZ (M.out.2.2.2.2.1))
  clear hbel AX AY AZ Aab Aba Aac Abc
  go_wp2_with fail
  refine (Calls.mono HC.out) ?_
  rintro r W5 ⟨vle, rfl, hN, hb⟩
  clear HC
  obtain ⟨hbel, AX, AY, AZ, Aab, Aba, Aac, Abc⟩ := S4.out
  have hbn := hbel.trans (hb.mono hbel.size)
  have PX := AX.below hb
  have PY := AY.below hb
  have PZ := AZ.below hb
  have Pab := Aab.below hb
  have Pba := Aba.below hb
  have Pac := Aac.below hb
  have Pbc := Abc.below hb
  obtain ⟨ale, cle, rfl, Ple⟩ := hN.arg (BB.out.2.2.2.1)
  have S5 := (Aside.intro (And.intro hbn (And.intro PX (And.intro PY (And.intro PZ (And.intro Pab (And.intro Pba (And.intro Pac (And.intro Pbc Ple)))))))))
  clear hb hbel AX AY AZ Aab Aba Aac Abc hbn PX PY PZ Pab Pba Pac Pbc Ple hN S4
  obtain ⟨hbel, AX, AY, AZ, Aab, Aba, Aac, Abc, Ale⟩ := S5.out
  have HC := hid (Mul_arg AX Abc (M.out.2.2.2.2.2.1))
  clear hbel AX AY AZ Aab Aba Aac Abc Ale
  go_wp2_with fail
  refine (Calls.mono HC.out) ?_
  rintro r W6 ⟨vri, rfl, hN, hb⟩
  clear HC
  obtain ⟨hbel, AX, AY, AZ, Aab, Aba, Aac, Abc, Ale⟩ := S5.out
  have hbn := hbel.trans (hb.mono hbel.size)
  have PX := AX.below hb
  have PY := AY.below hb
  have PZ := AZ.below hb
  have Pab := Aab.below hb
  have Pba := Aba.below hb
  have Pac := Aac.below hb
  have Pbc := Abc.below hb
  have Ple := Ale.below hb
  obtain ⟨ari, cri, rfl, Pri⟩ := hN.arg (BB.out.2.2.2.1)
  have S6 := (Aside.intro (And.intro hbn (And.intro PX (And.intro PY (And.intro PZ (And.intro Pab (And.intro Pba (And.intro Pac (And.intro Pbc (And.intro Ple Pri))))))))))
  clear hb hbel AX AY AZ Aab Aba Aac Abc Ale hbn PX PY PZ Pab Pba Pac Pbc Ple Pri hN S5
  obtain ⟨hbel, AX, AY, AZ, Aab, Aba, Aac, Abc, Ale, Ari⟩ := S6.out
  have HC := hid (Add_arg AY AZ (M.out.2.2.2.2.2.2.1))
  clear hbel AX AY AZ Aab Aba Aac Abc Ale Ari
  go_wp2_with fail
  refine (Calls.mono HC.out) ?_
  rintro r W7 ⟨vsu, rfl, hN, hb⟩
  clear HC
  obtain ⟨hbel, AX, AY, AZ, Aab, Aba, Aac, Abc, Ale, Ari⟩ := S6.out
  have hbn := hbel.trans (hb.mono hbel.size)
  have PX := AX.below hb
  have PY := AY.below hb
  have PZ := AZ.below hb
  have Pab := Aab.below hb
  have Pba := Aba.below hb
  have Pac := Aac.below hb
  have Pbc := Abc.below hb
  have Ple := Ale.below hb
  have Pri := Ari.below hb
  obtain ⟨asu, csu, rfl, Psu⟩ := hN.arg (BB.out.2.2.2.2.1)
  have S7 := (Aside.intro (And.intro hbn (And.intro PX (And.intro PY (And.intro PZ (And.intro Pab (And.intro Pba (And.intro Pac (And.intro Pbc (And.intro Ple (And.intro Pri Psu)))))))))))
  clear hb hbel AX AY AZ Aab Aba Aac Abc Ale Ari hbn PX PY PZ Pab Pba Pac Pbc Ple Pri Psu hN S6
  obtain ⟨hbel, AX, AY, AZ, Aab, Aba, Aac, Abc, Ale, Ari, Asu⟩ := S7.out
  have HC := hid (Add_arg AZ AY (M.out.2.2.2.2.2.2.2.1))
  clear hbel AX AY AZ Aab Aba Aac Abc Ale Ari Asu
  go_wp2_with fail
  refine (Calls.mono HC.out) ?_
  rintro r W8 ⟨vtu, rfl, hN, hb⟩
  clear HC
  obtain ⟨hbel, AX, AY, AZ, Aab, Aba, Aac, Abc, Ale, Ari, Asu⟩ := S7.out
  have hbn := hbel.trans (hb.mono hbel.size)
  have PX := AX.below hb
  have PY := AY.below hb
  have PZ := AZ.below hb
  have Pab := Aab.below hb
  have Pba := Aba.below hb
  have Pac := Aac.below hb
  have Pbc := Abc.below hb
  have Ple := Ale.below hb
  have Pri := Ari.below hb
  have Psu := Asu.below hb
  obtain ⟨atu, ctu, rfl, Ptu⟩ := hN.arg (BB.out.2.2.2.2.1)
  have S8 := (Aside.intro (And.intro hbn (And.intro PX (And.intro PY (And.intro PZ (And.intro Pab (And.intro Pba (And.intro Pac (And.intro Pbc (And.intro Ple (And.intro Pri (And.intro Psu Ptu))))))))))))
  clear hb hbel AX AY AZ Aab Aba Aac Abc Ale Ari Asu hbn PX PY PZ Pab Pba Pac Pbc Ple Pri Psu Ptu hN S7
  obtain ⟨hbel, AX, AY, AZ, Aab, Aba, Aac, Abc, Ale, Ari, Asu, Atu⟩ := S8.out
  have HC := hid (Mul_arg AX Asu (M.out.2.2.2.2.2.2.2.2.1))
  clear hbel AX AY AZ Aab Aba Aac Abc Ale Ari Asu Atu
  go_wp2_with fail
  refine (Calls.mono HC.out) ?_
  rintro r W9 ⟨val, rfl, hN, hb⟩
  clear HC
  obtain ⟨hbel, AX, AY, AZ, Aab, Aba, Aac, Abc, Ale, Ari, Asu, Atu⟩ := S8.out
  have hbn := hbel.trans (hb.mono hbel.size)
  have PX := AX.below hb
  have PY := AY.below hb
  have PZ := AZ.below hb
  have Pab := Aab.below hb
  have Pba := Aba.below hb
  have Pac := Aac.below hb
  have Pbc := Abc.below hb
  have Ple := Ale.below hb
  have Pri := Ari.below hb
  have Psu := Asu.below hb
  have Ptu := Atu.below hb
  obtain ⟨aal, cal, rfl, Pal⟩ := hN.arg (BB.out.2.2.2.2.2.1)
  have S9 := (Aside.intro (And.intro hbn (And.intro PX (And.intro PY (And.intro PZ (And.intro Pab (And.intro Pba (And.intro Pac (And.intro Pbc (And.intro Ple (And.intro Pri (And.intro Psu (And.intro Ptu Pal)))))))))))))
  clear hb hbel AX AY AZ Aab Aba Aac Abc Ale Ari Asu Atu hbn PX PY PZ Pab Pba Pac Pbc Ple Pri Psu Ptu Pal hN S8
  obtain ⟨hbel, AX, AY, AZ, Aab, Aba, Aac, Abc, Ale, Ari, Asu, Atu, Aal⟩ := S9.out
  have HC := hid (Add_arg Aab Aac (M.out.2.2.2.2.2.2.2.2.2.1))
  clear hbel AX AY AZ Aab Aba Aac Abc Ale Ari Asu Atu Aal
  go_wp2_with fail
  refine (Calls.mono HC.out) ?_
  rintro r W10 ⟨vpa, rfl, hN, hb⟩
  clear HC
  obtain ⟨hbel, AX, AY, AZ, Aab, Aba, Aac, Abc, Ale, Ari, Asu, Atu, Aal⟩ := S9.out
  have hbn := hbel.trans (hb.mono hbel.size)
  have PX := AX.below hb
  have PY := AY.below hb
  have PZ := AZ.below hb
  have Pab := Aab.below hb
  have Pba := Aba.below hb
  have Pac := Aac.below hb
  have Pbc := Abc.below hb
  have Ple := Ale.below hb
  have Pri := Ari.below hb
  have Psu := Asu.below hb
  have Ptu := Atu.below hb
  have Pal := Aal.below hb
  obtain ⟨apa, cpa, rfl, Ppa⟩ := hN.arg (BB.out.2.2.2.2.2.1)
  have S10 := (Aside.intro (And.intro hbn (And.intro PX (And.intro PY (And.intro PZ (And.intro Pab (And.intro Pba (And.intro Pac (And.intro Pbc (And.intro Ple (And.intro Pri (And.intro Psu (And.intro Ptu (And.intro Pal Ppa))))))))))))))
  clear hb hbel AX AY AZ Aab Aba Aac Abc Ale Ari Asu Atu Aal hbn PX PY PZ Pab Pba Pac Pbc Ple Pri Psu Ptu Pal Ppa hN S9
  obtain ⟨hbel, AX, AY, AZ, Aab, Aba, Aac, Abc, Ale, Ari, Asu, Atu, Aal, Apa⟩ := S10.out
  have HC := hid (Sub_arg Asu AZ (M.out.2.2.2.2.2.2.2.2.2.2.1))
  clear hbel AX AY AZ Aab Aba Aac Abc Ale Ari Asu Atu Aal Apa
  go_wp2_with fail
  refine (Calls.mono HC.out) ?_
  rintro r W11 ⟨vbk, rfl, hN, hb⟩
  clear HC
  obtain ⟨hbel, AX, AY, AZ, Aab, Aba, Aac, Abc, Ale, Ari, Asu, Atu, Aal, Apa⟩ := S10.out
  have hbn := hbel.trans (hb.mono hbel.size)
  have PX := AX.below hb
  have PY := AY.below hb
  have PZ := AZ.below hb
  have Pab := Aab.below hb
  have Pba := Aba.below hb
  have Pac := Aac.below hb
  have Pbc := Abc.below hb
  have Ple := Ale.below hb
  have Pri := Ari.below hb
  have Psu := Asu.below hb
  have Ptu := Atu.below hb
  have Pal := Aal.below hb
  have Ppa := Apa.below hb
  obtain ⟨abk, cbk, rfl, Pbk⟩ := hN.arg (BB.out.2.2.2.2.2.2)
  have S11 := (Aside.intro (And.intro hbn (And.intro PX (And.intro PY (And.intro PZ (And.intro Pab (And.intro Pba (And.intro Pac (And.intro Pbc (And.intro Ple (And.intro Pri (And.intro Psu (And.intro Ptu (And.intro Pal (And.intro Ppa Pbk)))))))))))))))
  clear hb hbel AX AY AZ Aab Aba Aac Abc Ale Ari Asu Atu Aal Apa hbn PX PY PZ Pab Pba Pac Pbc Ple Pri Psu Ptu Pal Ppa Pbk hN S10
  obtain ⟨hbel, AX, AY, AZ, Aab, Aba, Aac, Abc, Ale, Ari, Asu, Atu, Aal, Apa, Abk⟩ := S11.out
  have HC := hid (same_arg Aab Aba)
  clear hbel AX AY AZ Aab Aba Aac Abc Ale Ari Asu Atu Aal Apa Abk
  go_wp2_with fail
  refine (Calls.mono HC.out) ?_
  rintro r W12 ⟨rfl, hb⟩
  clear HC
  obtain ⟨hbel, AX, AY, AZ, Aab, Aba, Aac, Abc, Ale, Ari, Asu, Atu, Aal, Apa, Abk⟩ := S11.out
  have hbn := hbel.trans (hb.mono hbel.size)
  have PX := AX.below hb
  have PY := AY.below hb
  have PZ := AZ.below hb
  have Pab := Aab.below hb
  have Pba := Aba.below hb
  have Pac := Aac.below hb
  have Pbc := Abc.below hb
  have Ple := Ale.below hb
  have Pri := Ari.below hb
  have Psu := Asu.below hb
  have Ptu := Atu.below hb
  have Pal := Aal.below hb
  have Ppa := Apa.below hb
  have Pbk := Abk.below hb
  have S12 := (Aside.intro (And.intro hbn (And.intro PX (And.intro PY (And.intro PZ (And.intro Pab (And.intro Pba (And.intro Pac (And.intro Pbc (And.intro Ple (And.intro Pri (And.intro Psu (And.intro Ptu (And.intro Pal (And.intro Ppa Pbk)))))))))))))))
  clear hb hbel AX AY AZ Aab Aba Aac Abc Ale Ari Asu Atu Aal Apa Abk hbn PX PY PZ Pab Pba Pac Pbc Ple Pri Psu Ptu Pal Ppa Pbk  S11
  obtain ⟨hbel, AX, AY, AZ, Aab, Aba, Aac, Abc, Ale, Ari, Asu, Atu, Aal, Apa, Abk⟩ := S12.out
  have HC := hid (same_arg Ale Ari)
  clear hbel AX AY AZ Aab Aba Aac Abc Ale Ari Asu Atu Aal Apa Abk
  go_wp2_with fail
  refine (Calls.mono HC.out) ?_
  rintro r W13 ⟨rfl, hb⟩
  clear HC
  obtain ⟨hbel, AX, AY, AZ, Aab, Aba, Aac, Abc, Ale, Ari, Asu, Atu, Aal, Apa, Abk⟩ := S12.out
  have hbn := hbel.trans (hb.mono hbel.size)
  have PX := AX.below hb
  have PY := AY.below hb
  have PZ := AZ.below hb
  have Pab := Aab.below hb
  have Pba := Aba.below hb
  have Pac := Aac.below hb
  have Pbc := Abc.below hb
  have Ple := Ale.below hb
  have Pri := Ari.below hb
  have Psu := Asu.below hb
  have Ptu := Atu.below hb
  have Pal := Aal.below hb
  have Ppa := Apa.below hb
  have Pbk := Abk.below hb
  have S13 := (Aside.intro (And.intro hbn (And.intro PX (And.intro PY (And.intro PZ (And.intro Pab (And.intro Pba (And.intro Pac (And.intro Pbc (And.intro Ple (And.intro Pri (And.intro Psu (And.intro Ptu (And.intro Pal (And.intro Ppa Pbk)))))))))))))))
  clear hb hbel AX AY AZ Aab Aba Aac Abc Ale Ari Asu Atu Aal Apa Abk hbn PX PY PZ Pab Pba Pac Pbc Ple Pri Psu Ptu Pal Ppa Pbk  S12
  obtain ⟨hbel, AX, AY, AZ, Aab, Aba, Aac, Abc, Ale, Ari, Asu, Atu, Aal, Apa, Abk⟩ := S13.out
  have HC := hid (same_arg Asu Atu)
  clear hbel AX AY AZ Aab Aba Aac Abc Ale Ari Asu Atu Aal Apa Abk
  go_wp2_with fail
  refine (Calls.mono HC.out) ?_
  rintro r W14 ⟨rfl, hb⟩
  clear HC
  obtain ⟨hbel, AX, AY, AZ, Aab, Aba, Aac, Abc, Ale, Ari, Asu, Atu, Aal, Apa, Abk⟩ := S13.out
  have hbn := hbel.trans (hb.mono hbel.size)
  have PX := AX.below hb
  have PY := AY.below hb
  have PZ := AZ.below hb
  have Pab := Aab.below hb
  have Pba := Aba.below hb
  have Pac := Aac.below hb
  have Pbc := Abc.below hb
  have Ple := Ale.below hb
  have Pri := Ari.below hb
  have Psu := Asu.below hb
  have Ptu := Atu.below hb
  have Pal := Aal.below hb
  have Ppa := Apa.below hb
  have Pbk := Abk.below hb
  have S14 := (Aside.intro (And.intro hbn (And.intro PX (And.intro PY (And.intro PZ (And.intro Pab (And.intro Pba (And.intro Pac (And.intro Pbc (And.intro Ple (And.intro Pri (And.intro Psu (And.intro Ptu (And.intro Pal (And.intro Ppa Pbk)))))))))))))))
  clear hb hbel AX AY AZ Aab Aba Aac Abc Ale Ari Asu Atu Aal Apa Abk hbn PX PY PZ Pab Pba Pac Pbc Ple Pri Psu Ptu Pal Ppa Pbk  S13
  obtain ⟨hbel, AX, AY, AZ, Aab, Aba, Aac, Abc, Ale, Ari, Asu, Atu, Aal, Apa, Abk⟩ := S14.out
  have HC := hid (same_arg Aal Apa)
  clear hbel AX AY AZ Aab Aba Aac Abc Ale Ari Asu Atu Aal Apa Abk
  go_wp2_with fail
  refine (Calls.mono HC.out) ?_
  rintro r W15 ⟨rfl, hb⟩
  clear HC
  obtain ⟨hbel, AX, AY, AZ, Aab, Aba, Aac, Abc, Ale, Ari, Asu, Atu, Aal, Apa, Abk⟩ := S14.out
  have hbn := hbel.trans (hb.mono hbel.size)
  have PX := AX.below hb
  have PY := AY.below hb
  have PZ := AZ.below hb
  have Pab := Aab.below hb
  have Pba := Aba.below hb
  have Pac := Aac.below hb
  have Pbc := Abc.below hb
  have Ple := Ale.below hb
  have Pri := Ari.below hb
  have Psu := Asu.below hb
  have Ptu := Atu.below hb
  have Pal := Aal.below hb
  have Ppa := Apa.below hb
  have Pbk := Abk.below hb
  have S15 := (Aside.intro (And.intro hbn (And.intro PX (And.intro PY (And.intro PZ (And.intro Pab (And.intro Pba (And.intro Pac (And.intro Pbc (And.intro Ple (And.intro Pri (And.intro Psu (And.intro Ptu (And.intro Pal (And.intro Ppa Pbk)))))))))))))))
  clear hb hbel AX AY AZ Aab Aba Aac Abc Ale Ari Asu Atu Aal Apa Abk hbn PX PY PZ Pab Pba Pac Pbc Ple Pri Psu Ptu Pal Ppa Pbk  S14
  obtain ⟨hbel, AX, AY, AZ, Aab, Aba, Aac, Abc, Ale, Ari, Asu, Atu, Aal, Apa, Abk⟩ := S15.out
  have HC := hid (Norm_arg AY (M.out.2.2.2.2.2.2.2.2.2.2.2))
  clear hbel AX AY AZ Aab Aba Aac Abc Ale Ari Asu Atu Aal Apa Abk
  go_wp2_with fail
  refine (Calls.mono HC.out) ?_
  rintro r W16 ⟨vnb, rfl, hN, hb⟩
  clear HC
  obtain ⟨hbel, AX, AY, AZ, Aab, Aba, Aac, Abc, Ale, Ari, Asu, Atu, Aal, Apa, Abk⟩ := S15.out
  have hbn := hbel.trans (hb.mono hbel.size)
  have PX := AX.below hb
  have PY := AY.below hb
  have PZ := AZ.below hb
  have Pab := Aab.below hb
  have Pba := Aba.below hb
  have Pac := Aac.below hb
  have Pbc := Abc.below hb
  have Ple := Ale.below hb
  have Pri := Ari.below hb
  have Psu := Asu.below hb
  have Ptu := Atu.below hb
  have Pal := Aal.below hb
  have Ppa := Apa.below hb
  have Pbk := Abk.below hb
  obtain ⟨anb, cnb, rfl, Pnb⟩ := hN.arg (BB.out.2.2.2.2.2.2)
  have S16 := (Aside.intro (And.intro hbn (And.intro PX (And.intro PY (And.intro PZ (And.intro Pab (And.intro Pba (And.intro Pac (And.intro Pbc (And.intro Ple (And.intro Pri (And.intro Psu (And.intro Ptu (And.intro Pal (And.intro Ppa (And.intro Pbk Pnb))))))))))))))))
  clear hb hbel AX AY AZ Aab Aba Aac Abc Ale Ari Asu Atu Aal Apa Abk hbn PX PY PZ Pab Pba Pac Pbc Ple Pri Psu Ptu Pal Ppa Pbk Pnb hN S15
  obtain ⟨hbel, AX, AY, AZ, Aab, Aba, Aac, Abc, Ale, Ari, Asu, Atu, Aal, Apa, Abk, Anb⟩ := S16.out
  have HC := hid (same_arg Abk Anb)
  clear hbel AX AY AZ Aab Aba Aac Abc Ale Ari Asu Atu Aal Apa Abk Anb
  go_wp2_with fail
  refine (Calls.mono HC.out) ?_
  rintro r W17 ⟨rfl, hb⟩
  clear HC
  obtain ⟨hbel, AX, AY, AZ, Aab, Aba, Aac, Abc, Ale, Ari, Asu, Atu, Aal, Apa, Abk, Anb⟩ := S16.out
  have hbn := hbel.trans (hb.mono hbel.size)
  have PX := AX.below hb
  have PY := AY.below hb
  have PZ := AZ.below hb
  have Pab := Aab.below hb
  have Pba := Aba.below hb
  have Pac := Aac.below hb
  have Pbc := Abc.below hb
  have Ple := Ale.below hb
  have Pri := Ari.below hb
  have Psu := Asu.below hb
  have Ptu := Atu.below hb
  have Pal := Aal.below hb
  have Ppa := Apa.below hb
  have Pbk := Abk.below hb
  have Pnb := Anb.below hb
  have S17 := (Aside.intro (And.intro hbn (And.intro PX (And.intro PY (And.intro PZ (And.intro Pab (And.intro Pba (And.intro Pac (And.intro Pbc (And.intro Ple (And.intro Pri (And.intro Psu (And.intro Ptu (And.intro Pal (And.intro Ppa (And.intro Pbk Pnb))))))))))))))))
  clear hb hbel AX AY AZ Aab Aba Aac Abc Ale Ari Asu Atu Aal Apa Abk Anb hbn PX PY PZ Pab Pba Pac Pbc Ple Pri Psu Ptu Pal Ppa Pbk Pnb  S16
  have hbW := hid S17.out.1
  clear S17 M BB
  go_wp2
  go_loopg [35] 11 (fun gk i wr => ∃ k : Nat, gk + k = 11 ∧ i = .int .i64 (k : Nat) ∧ wr = W17.alloc (.cells #[.int .i64 0, .int .i64 0, .int .i64 0, .int .i64 0, .int .i64 0, .int .i64 0, .int .i64 0, .int .i64 0, .int .i64 0, .int .i64 0, .int .i64 0] 30))
  case atStart => exact ⟨0, rfl, rfl, rfl⟩
  case round =>
    obtain ⟨k, hgk, rfl, rfl⟩ := hrel
    by_cases hk : k < 11
    · have hc : (W17.alloc (.cells #[.int .i64 0, .int .i64 0, .int .i64 0, .int .i64 0, .int .i64 0, .int .i64 0, .int .i64 0, .int .i64 0, .int .i64 0, .int .i64 0, .int .i64 0] 30)).cell? ⟨W17.heap.size, k, none⟩ = some (.int .i64 0) := by
        have : k = 0 ∨ k = 1 ∨ k = 2 ∨ k = 3 ∨ k = 4 ∨ k = 5 ∨ k = 6 ∨ k = 7 ∨ k = 8 ∨ k = 9 ∨ k = 10 := by omega
        rw [alloc_cell]
        rcases this with rfl | rfl | rfl | rfl | rfl | rfl | rfl | rfl | rfl | rfl | rfl <;> rfl
      go_wp2
      go_roundg (gk - 1)
      case measure => omega
      case rel => exact ⟨k + 1, by omega, by go_num, rfl⟩
    · obtain rfl : k = 11 := by omega
      go_wp2
      go_ret
      exact ⟨rfl, hbW.out.alloc hbW.out.size _⟩
end Go.Proofs.YtikfabbfbfdpcaaDoor
