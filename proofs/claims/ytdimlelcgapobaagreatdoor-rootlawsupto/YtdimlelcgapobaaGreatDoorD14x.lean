/- dyad's evenSum, sum, difference. -/
import Derived.Test.YtdimlelcgapobaaGreatDoorBIeeex
import Derived.BigQuiet
import Derived.Deep.Cut
import Derived.Test.YtdimlelcgapobaaGreatDoorW49x
import Derived.Deep.RegionHeld3
namespace Go.Proofs.YtdimlelcgapobaaGreatDoor
open Go.RowKit
set_option linter.unusedVariables false
set_option maxRecDepth 20000
set_option linter.unusedSimpArgs false

theorem len8 {X : Nat} (h : bl X ≤ 262144) : (ws X).length ≤ 8192 := by rw [ws_len_bl]; omega
theorem notLG {X : Nat} (h : bl X ≤ 262144) : ¬ LG X := by rw [LG_bl]; omega
theorem bl_mono {X Y : Nat} (h : X ≤ Y) : bl X ≤ bl Y := by
  by_cases h0 : bl X = 0
  · omega
  · have h1 := (bl_gt X (bl X - 1)).1 (by omega)
    have := (bl_gt Y (bl X - 1)).2 (Nat.le_trans h1 h)
    omega
theorem bl_le {X k : Nat} (h : X < 2 ^ k) : bl X ≤ k := by
  by_cases h0 : k < bl X
  · have := (bl_gt X k).1 h0; omega
  · omega
theorem shift_half {X : Nat} (h : bl X ≤ 262144) : shiftS X (-1) = (X / 2, 0) := by
  unfold shiftS
  rw [if_neg (notLG h)]
  by_cases h0 : X = 0
  · rw [if_pos h0, h0]
  · rw [if_neg h0, if_pos (by omega)]; rfl
theorem half_bl {X k : Nat} (h : bl X ≤ k + 1) : X / 2 < 2 ^ k := by
  have h1 := bl_lt X
  have h2 : 2 ^ bl X ≤ 2 ^ (k + 1) := Nat.pow_le_pow_right (by omega) h
  rw [Nat.pow_succ] at h2
  omega
theorem even_half {P Q : Nat} (hP : P % 2 = 1) (hQ : Q % 2 = 1) (bP : bl P ≤ 262144) (bQ : bl Q ≤ 262144) : bl (P / 2 + Q / 2) ≤ 262144 ∧ bl (P / 2 + Q / 2 + 1) ≤ 262144 ∧ 2 * (P / 2 + Q / 2 + 1) = P + Q := by
  have h1 := half_bl (X := P) (k := 262143) bP
  have h2 := half_bl (X := Q) (k := 262143) bQ
  have key : ∀ k : Nat, P / 2 < 2 ^ k → Q / 2 < 2 ^ k → P / 2 + Q / 2 + 1 < 2 ^ (k + 1) := by intro k; rw [Nat.pow_succ]; omega
  have h3 := key _ h1 h2
  have h4 := bl_le h3
  exact ⟨Nat.le_trans (bl_mono (by omega)) h4, h4, by omega⟩

set_option maxHeartbeats 4000000 in
theorem evenSum_any {w : World} {a b : Option Addr} {l c k d : Nat} {xs ys : List Nat} (h1 : Arg w a l c xs) (h2 : Arg w b k d ys) (hT : Tab w) (neg : Bool) (e : Int) (he0 : -1048576 ≤ e) (he1 : e ≤ 1048576)
    (P Q : Nat) (hP : val xs = P) (hQ : val ys = Q) (oP : P % 2 = 1) (oQ : Q % 2 = 1) (bP : bl P ≤ 262144) (bQ : bl Q ≤ 262144) :
    Calls Tryz.prog 137 #[.bool neg, .slice a l c, .slice b k d, .int .i64 e] w fun r w' => DAns w.heap.size w' r (mkS neg (P + Q) e) ∧ Below w.heap.size w w' := by
  obtain ⟨b3, b4, e5⟩ := even_half oP oQ bP bQ
  rw [← e5, mkS_double]
  obtain ⟨P2, hP2⟩ : ∃ x, P / 2 = x := ⟨_, rfl⟩
  obtain ⟨Q2, hQ2⟩ : ∃ x, Q / 2 = x := ⟨_, rfl⟩
  have l1 : (ws P2).length ≤ 8192 := by rw [← hP2]; exact len8 (Nat.le_trans (bl_mono (Nat.div_le_self _ _)) bP)
  have l2 : (ws Q2).length ≤ 8192 := by rw [← hQ2]; exact len8 (Nat.le_trans (bl_mono (Nat.div_le_self _ _)) bQ)
  have s1 := shift_half bP
  have s2 := shift_half bQ
  rw [hP2] at s1 b3 b4 ⊢
  rw [hQ2] at s2 b3 b4 ⊢
  obtain ⟨V, hV⟩ : ∃ x, P2 + Q2 = x := ⟨_, rfl⟩
  rw [hV] at b3 b4 ⊢
  obtain ⟨H1, hH1⟩ : ∃ x, V + 1 = x := ⟨_, rfl⟩
  rw [hH1] at b4 ⊢
  have l3 : (ws V).length ≤ 8192 := len8 b3
  have l4 : (ws H1).length ≤ 8192 := len8 b4
  have l5 : (ws 1).length ≤ 8192 := by rw [ws_one]; simp
  have HX := (Aside.intro (And.intro h1 (And.intro h2 (And.intro hT (And.intro hP (And.intro hQ (And.intro s1 (And.intro s2 (And.intro hV (And.intro hH1 (And.intro b3 b4)))))))))))
  clear h1 h2 hT hP hQ oP oQ bP bQ e5 hP2 hQ2 s1 s2 hV hH1 b3 b4
  unfold DAns
  have hl := mkS_len neg H1 (e + 1)
  obtain ⟨o, ho⟩ : ∃ o, mkS neg H1 (e + 1) = o := ⟨_, rfl⟩
  rw [ho] at hl ⊢
  obtain ⟨dn, hdn⟩ : ∃ d, dN o = d := ⟨_, rfl⟩
  obtain ⟨X, hX⟩ : ∃ d, dX o = d := ⟨_, rfl⟩
  obtain ⟨de, hde⟩ : ∃ d, dE o = d := ⟨_, rfl⟩
  obtain ⟨er, her⟩ : ∃ d, erS o = d := ⟨_, rfl⟩
  rw [hdn, hX, hde, her]
  rw [hX] at hl
  have HS := (Aside.intro (And.intro ho (And.intro hdn (And.intro hX (And.intro hde her)))))
  clear ho hdn hX hde her
  have S0 := Aside.intro (show Below (w.alloc (.cells #[.bool false, .slice none 0 0, .int .i64 0] 27)).heap.size (w.alloc (.cells #[.bool false, .slice none 0 0, .int .i64 0] 27)) (w.alloc (.cells #[.bool false, .slice none 0 0, .int .i64 0] 27)) from Below.refl _ _)
  have B0 := Aside.intro (show Below w.heap.size w (w.alloc (.cells #[.bool false, .slice none 0 0, .int .i64 0] 27)) from below_alloc w _)
  go_enter Tryz.func137, Tryz.ntmps137
  obtain C := S0.out
  have BW : Below w.heap.size w (w.alloc (.cells #[.bool false, .slice none 0 0, .int .i64 0] 27)) := B0.out.trans (C.mono (by simp))
  have H := hid (Shift_arg (V := P2) (-1) (HX.out.1.below BW) (by rw [HX.out.2.2.2.1]; exact HX.out.2.2.2.2.2.1) (by omega) (by omega))
  clear C BW 
  go_wp2_with fail
  refine (Calls.mono H.out) ?_
  rintro r u1 ⟨v, rfl, hN, hb⟩
  obtain ⟨a1, c1, rfl, _⟩ := hN.arg (by omega)
  obtain C := S0.out
  have hz1 := C.size
  have S1 := (Aside.intro (And.intro (C.trans (hb.mono C.size)) (hN.mono C.size)))
  clear C hb H hN 
  obtain ⟨C, N1⟩ := S1.out
  have BW : Below w.heap.size w u1 := B0.out.trans (C.mono (by simp))
  have H := hid (Shift_arg (V := Q2) (-1) (HX.out.2.1.below BW) (by rw [HX.out.2.2.2.2.1]; exact HX.out.2.2.2.2.2.2.1) (by omega) (by omega))
  clear C BW N1
  go_wp2_with fail
  refine (Calls.mono H.out) ?_
  rintro r u2 ⟨v, rfl, hN, hb⟩
  obtain ⟨a2, c2, rfl, _⟩ := hN.arg (by omega)
  obtain ⟨C, N1⟩ := S1.out
  have hz2 := C.size
  have S2 := (Aside.intro (And.intro (C.trans (hb.mono C.size)) (And.intro (N1.below hb) (hN.mono C.size))))
  clear C hb H hN N1
  obtain ⟨C, N1, N2⟩ := S2.out
  have BW : Below w.heap.size w u2 := B0.out.trans (C.mono (by simp))
  have H := hid (Add_arg (V := V) (N1.arg' (by omega)).2 (N2.arg' (by omega)).2 (by rw [val_ws, val_ws]; exact addS_ok (notLG HX.out.2.2.2.2.2.2.2.2.2.1) HX.out.2.2.2.2.2.2.2.1))
  clear C BW N1 N2
  go_wp2_with fail
  refine (Calls.mono H.out) ?_
  rintro r u3 ⟨v, rfl, hN, hb⟩
  obtain ⟨a3, c3, rfl, _⟩ := hN.arg (by omega)
  obtain ⟨C, N1, N2⟩ := S2.out
  have hz3 := C.size
  have S3 := (Aside.intro (And.intro (C.trans (hb.mono C.size)) (And.intro (N1.below hb) (And.intro (N2.below hb) (hN.mono C.size)))))
  clear C hb H hN N1 N2
  obtain ⟨C, N1, N2, N3⟩ := S3.out
  have BW : Below w.heap.size w u3 := B0.out.trans (C.mono (by simp))
  have H := hid (of_any 1 u3 (by omega))
  clear C BW N1 N2 N3
  go_wp2_with fail
  refine (Calls.mono H.out) ?_
  rintro r u4 ⟨v, rfl, hN, hb⟩
  obtain ⟨a4, c4, rfl, _⟩ := hN.arg (by omega)
  obtain ⟨C, N1, N2, N3⟩ := S3.out
  have hz4 := C.size
  have S4 := (Aside.intro (And.intro (C.trans (hb.mono C.size)) (And.intro (N1.below hb) (And.intro (N2.below hb) (And.intro (N3.below hb) (hN.mono C.size))))))
  clear C hb H hN N1 N2 N3
  obtain ⟨C, N1, N2, N3, N4⟩ := S4.out
  have BW : Below w.heap.size w u4 := B0.out.trans (C.mono (by simp))
  have H := hid (Add_arg (V := H1) (N3.arg' (by omega)).2 (N4.arg' (by omega)).2 (by rw [val_ws, val_ws]; exact addS_ok (notLG HX.out.2.2.2.2.2.2.2.2.2.2) HX.out.2.2.2.2.2.2.2.2.1))
  clear C BW N1 N2 N3 N4
  go_wp2_with fail
  refine (Calls.mono H.out) ?_
  rintro r u5 ⟨v, rfl, hN, hb⟩
  obtain ⟨a5, c5, rfl, _⟩ := hN.arg (by omega)
  obtain ⟨C, N1, N2, N3, N4⟩ := S4.out
  have hz5 := C.size
  have S5 := (Aside.intro (And.intro (C.trans (hb.mono C.size)) (And.intro (N1.below hb) (And.intro (N2.below hb) (And.intro (N3.below hb) (And.intro (N4.below hb) (hN.mono C.size)))))))
  clear C hb H hN N1 N2 N3 N4
  obtain ⟨C, N1, N2, N3, N4, N5⟩ := S5.out
  have BW : Below w.heap.size w u5 := B0.out.trans (C.mono (by simp))
  have H0 := show Calls Tryz.prog 110 #[.bool neg, .slice a5 (ws H1).length c5, .int .i64 (e + 1)] u5 fun r w' => DAns u5.heap.size w' r (mkS neg H1 (e + 1)) ∧ Below u5.heap.size u5 w' from by have := Make_any (N5.arg' (by omega)).2 (HX.out.2.2.1.belows BW) neg (e + 1) (by omega) (by omega); rw [val_ws] at this; exact this
  unfold DAns at H0
  rw [HS.out.1, HS.out.2.1, HS.out.2.2.1, HS.out.2.2.2.1, HS.out.2.2.2.2] at H0
  have H := hid H0
  clear C BW H0 N1 N2 N3 N4 N5
  go_wp2_with fail
  refine (Calls.mono H.out) ?_
  rintro r uu ⟨⟨v, rfl, hN⟩, hb⟩
  obtain ⟨aa, cc, rfl, _⟩ := hN.arg (by omega)
  obtain ⟨C, N1, N2, N3, N4, N5⟩ := S5.out
  have hbb := C.trans (hb.mono C.size)
  obtain ⟨hc, hf⟩ := bcell hbb
  have HF := Aside.intro (Fin.of 1 B0.out (by simp) (hN.mono C.size) hbb)
  have hz : w.heap.size < uu.heap.size := by have := hbb.size; simp at this; omega
  clear C hb hN hbb H N1 N2 N3 N4 N5
  go_wp2
  exact bodyPost_ret (v := .tuple #[.agg #[.bool dn, .slice aa (ws X).length cc, .int .i64 de], .int .i64 er]) (by simp [results, Tryz.results137, go_sem, hc]) rfl (Fin.dans (m := w.heap.size + 1) (by repeat (first | exact HF.out | refine Fin.alloc ?_ _ | refine Fin.set ?_ _ _ _ (by omega) (by omega))) (by omega))

set_option maxHeartbeats 4000000 in
theorem sum_odd {w : World} {a b : Option Addr} {l c k d : Nat} {xs ys : List Nat} (h1 : Arg w a l c xs) (h2 : Arg w b k d ys) (hT : Tab w) (neg : Bool) (e : Int) (he0 : -1048576 ≤ e) (he1 : e ≤ 1048576)
    (P Q : Nat) (hP : val xs = P) (hQ : val ys = Q) (oP : P % 2 = 1) (oQ : Q % 2 = 1) (bP : bl P ≤ 262144) (bQ : bl Q ≤ 262144) :
    Calls Tryz.prog 90 #[.bool neg, .slice a l c, .slice b k d, .int .i64 e] w fun r w' => DAns w.heap.size w' r (mkS neg (P + Q) e) ∧ Below w.heap.size w w' := by
  have HX := (Aside.intro (And.intro h1 (And.intro h2 (And.intro hT (And.intro hP (And.intro hQ (And.intro oP (And.intro oQ (And.intro bP bQ)))))))))
  clear h1 h2 hT hP hQ oP oQ bP bQ
  unfold DAns
  have hl := mkS_len neg (P + Q) e
  obtain ⟨o, ho⟩ : ∃ o, mkS neg (P + Q) e = o := ⟨_, rfl⟩
  rw [ho] at hl ⊢
  obtain ⟨dn, hdn⟩ : ∃ d, dN o = d := ⟨_, rfl⟩
  obtain ⟨X, hX⟩ : ∃ d, dX o = d := ⟨_, rfl⟩
  obtain ⟨de, hde⟩ : ∃ d, dE o = d := ⟨_, rfl⟩
  obtain ⟨er, her⟩ : ∃ d, erS o = d := ⟨_, rfl⟩
  rw [hdn, hX, hde, her]
  rw [hX] at hl
  have HS := (Aside.intro (And.intro ho (And.intro hdn (And.intro hX (And.intro hde her)))))
  clear ho hdn hX hde her
  have S0 := Aside.intro (show Below (w.alloc (.cells #[.bool false, .slice none 0 0, .int .i64 0] 27)).heap.size (w.alloc (.cells #[.bool false, .slice none 0 0, .int .i64 0] 27)) (w.alloc (.cells #[.bool false, .slice none 0 0, .int .i64 0] 27)) from Below.refl _ _)
  have B0 := Aside.intro (show Below w.heap.size w (w.alloc (.cells #[.bool false, .slice none 0 0, .int .i64 0] 27)) from below_alloc w _)
  go_enter Tryz.func90, Tryz.ntmps90
  obtain C := S0.out
  have BW : Below w.heap.size w (w.alloc (.cells #[.bool false, .slice none 0 0, .int .i64 0] 27)) := B0.out.trans (C.mono (by simp))
  have H := hid (show Calls Tryz.prog 118 #[.slice a l c, .int .i64 0] (w.alloc (.cells #[.bool false, .slice none 0 0, .int .i64 0] 27)) fun r w' => r = .returned (.bool true) ∧ w' = (w.alloc (.cells #[.bool false, .slice none 0 0, .int .i64 0] 27)) from by have A := HX.out.1.below BW; have := bit_any xs a l c _ 0 _ A.len A.wf A.rd (by omega); rw [Nat.pow_zero, Nat.div_one, HX.out.2.2.2.1, HX.out.2.2.2.2.2.1] at this; exact this)
  clear C BW 
  go_wp2_with fail
  refine (Calls.mono H.out) ?_
  rintro r ww ⟨rfl, hw⟩
  rw [hw]
  clear H hw ww
  obtain C := S0.out
  have BW : Below w.heap.size w (w.alloc (.cells #[.bool false, .slice none 0 0, .int .i64 0] 27)) := B0.out.trans (C.mono (by simp))
  have H0 := evenSum_any (HX.out.1.below BW) (HX.out.2.1.below BW) (HX.out.2.2.1.belows BW) neg e he0 he1 P Q HX.out.2.2.2.1 HX.out.2.2.2.2.1 HX.out.2.2.2.2.2.1 HX.out.2.2.2.2.2.2.1 HX.out.2.2.2.2.2.2.2.1 HX.out.2.2.2.2.2.2.2.2
  unfold DAns at H0
  rw [HS.out.1, HS.out.2.1, HS.out.2.2.1, HS.out.2.2.2.1, HS.out.2.2.2.2] at H0
  have H := hid H0
  clear C BW H0 
  go_wp2_with fail
  refine (Calls.mono H.out) ?_
  rintro r uu ⟨⟨v, rfl, hN⟩, hb⟩
  obtain ⟨aa, cc, rfl, _⟩ := hN.arg (by omega)
  obtain C := S0.out
  have hbb := C.trans (hb.mono C.size)
  obtain ⟨hc, hf⟩ := bcell hbb
  have HF := Aside.intro (Fin.of 1 B0.out (by simp) (hN.mono C.size) hbb)
  have hz : w.heap.size < uu.heap.size := by have := hbb.size; simp at this; omega
  clear C hb hN hbb H 
  go_wp2
  exact bodyPost_ret (v := .tuple #[.agg #[.bool dn, .slice aa (ws X).length cc, .int .i64 de], .int .i64 er]) (by simp [results, Tryz.results90, go_sem, hc]) rfl (Fin.dans (m := w.heap.size + 1) (by repeat (first | exact HF.out | refine Fin.alloc ?_ _ | refine Fin.set ?_ _ _ _ (by omega) (by omega))) (by omega))

set_option maxHeartbeats 4000000 in
theorem sum_even {w : World} {a b : Option Addr} {l c k d : Nat} {xs ys : List Nat} (h1 : Arg w a l c xs) (h2 : Arg w b k d ys) (hT : Tab w) (neg : Bool) (e : Int) (he0 : -1048576 ≤ e) (he1 : e ≤ 1048576)
    (P Q : Nat) (hP : val xs = P) (hQ : val ys = Q) (oP : P % 2 = 0) (hs : bl (P + Q) ≤ 262144) :
    Calls Tryz.prog 90 #[.bool neg, .slice a l c, .slice b k d, .int .i64 e] w fun r w' => DAns w.heap.size w' r (mkS neg (P + Q) e) ∧ Below w.heap.size w w' := by
  obtain ⟨V, hV⟩ : ∃ x, P + Q = x := ⟨_, rfl⟩
  rw [hV] at hs ⊢
  have l1 := len8 hs
  have HX := (Aside.intro (And.intro h1 (And.intro h2 (And.intro hT (And.intro hP (And.intro hQ (And.intro oP (And.intro hs hV))))))))
  clear h1 h2 hT hP hQ oP hs hV
  unfold DAns
  have hl := mkS_len neg V e
  obtain ⟨o, ho⟩ : ∃ o, mkS neg V e = o := ⟨_, rfl⟩
  rw [ho] at hl ⊢
  obtain ⟨dn, hdn⟩ : ∃ d, dN o = d := ⟨_, rfl⟩
  obtain ⟨X, hX⟩ : ∃ d, dX o = d := ⟨_, rfl⟩
  obtain ⟨de, hde⟩ : ∃ d, dE o = d := ⟨_, rfl⟩
  obtain ⟨er, her⟩ : ∃ d, erS o = d := ⟨_, rfl⟩
  rw [hdn, hX, hde, her]
  rw [hX] at hl
  have HS := (Aside.intro (And.intro ho (And.intro hdn (And.intro hX (And.intro hde her)))))
  clear ho hdn hX hde her
  have S0 := Aside.intro (show Below (w.alloc (.cells #[.bool false, .slice none 0 0, .int .i64 0] 27)).heap.size (w.alloc (.cells #[.bool false, .slice none 0 0, .int .i64 0] 27)) (w.alloc (.cells #[.bool false, .slice none 0 0, .int .i64 0] 27)) from Below.refl _ _)
  have B0 := Aside.intro (show Below w.heap.size w (w.alloc (.cells #[.bool false, .slice none 0 0, .int .i64 0] 27)) from below_alloc w _)
  go_enter Tryz.func90, Tryz.ntmps90
  obtain C := S0.out
  have BW : Below w.heap.size w (w.alloc (.cells #[.bool false, .slice none 0 0, .int .i64 0] 27)) := B0.out.trans (C.mono (by simp))
  have H := hid (show Calls Tryz.prog 118 #[.slice a l c, .int .i64 0] (w.alloc (.cells #[.bool false, .slice none 0 0, .int .i64 0] 27)) fun r w' => r = .returned (.bool false) ∧ w' = (w.alloc (.cells #[.bool false, .slice none 0 0, .int .i64 0] 27)) from by have A := HX.out.1.below BW; have := bit_any xs a l c _ 0 _ A.len A.wf A.rd (by omega); rw [Nat.pow_zero, Nat.div_one, HX.out.2.2.2.1, HX.out.2.2.2.2.2.1] at this; exact this)
  clear C BW 
  go_wp2_with fail
  refine (Calls.mono H.out) ?_
  rintro r ww ⟨rfl, hw⟩
  rw [hw]
  clear H hw ww
  obtain C := S0.out
  have BW : Below w.heap.size w (w.alloc (.cells #[.bool false, .slice none 0 0, .int .i64 0] 27)) := B0.out.trans (C.mono (by simp))
  have H := hid (Add_arg (V := V) (HX.out.1.below BW) (HX.out.2.1.below BW) (by rw [HX.out.2.2.2.1, HX.out.2.2.2.2.1]; exact addS_ok (notLG HX.out.2.2.2.2.2.2.1) HX.out.2.2.2.2.2.2.2))
  clear C BW 
  go_wp2_with fail
  refine (Calls.mono H.out) ?_
  rintro r u1 ⟨v, rfl, hN, hb⟩
  obtain ⟨a1, c1, rfl, _⟩ := hN.arg (by omega)
  obtain C := S0.out
  have hz1 := C.size
  have S1 := (Aside.intro (And.intro (C.trans (hb.mono C.size)) (hN.mono C.size)))
  clear C hb H hN 
  obtain ⟨C, N1⟩ := S1.out
  have BW : Below w.heap.size w u1 := B0.out.trans (C.mono (by simp))
  have H0 := show Calls Tryz.prog 110 #[.bool neg, .slice a1 (ws V).length c1, .int .i64 e] u1 fun r w' => DAns u1.heap.size w' r (mkS neg V e) ∧ Below u1.heap.size u1 w' from by have := Make_any (N1.arg' (by omega)).2 (HX.out.2.2.1.belows BW) neg e (by omega) (by omega); rw [val_ws] at this; exact this
  unfold DAns at H0
  rw [HS.out.1, HS.out.2.1, HS.out.2.2.1, HS.out.2.2.2.1, HS.out.2.2.2.2] at H0
  have H := hid H0
  clear C BW H0 N1
  go_wp2_with fail
  refine (Calls.mono H.out) ?_
  rintro r uu ⟨⟨v, rfl, hN⟩, hb⟩
  obtain ⟨aa, cc, rfl, _⟩ := hN.arg (by omega)
  obtain ⟨C, N1⟩ := S1.out
  have hbb := C.trans (hb.mono C.size)
  obtain ⟨hc, hf⟩ := bcell hbb
  have HF := Aside.intro (Fin.of 1 B0.out (by simp) (hN.mono C.size) hbb)
  have hz : w.heap.size < uu.heap.size := by have := hbb.size; simp at this; omega
  clear C hb hN hbb H N1
  go_wp2
  exact bodyPost_ret (v := .tuple #[.agg #[.bool dn, .slice aa (ws X).length cc, .int .i64 de], .int .i64 er]) (by simp [results, Tryz.results90, go_sem, hc]) rfl (Fin.dans (m := w.heap.size + 1) (by repeat (first | exact HF.out | refine Fin.alloc ?_ _ | refine Fin.set ?_ _ _ _ (by omega) (by omega))) (by omega))

theorem wAdd_long {w : World} {a b : Option Addr} {n c m d : Nat} {xs ys : List Nat} (h1 : Arg w a n c xs) (h2 : Arg w b m d ys) (h : LG (val xs + val ys)) :
    Calls Tryz.prog 108 #[.slice a n c, .slice b m d] w fun r w' => ∃ v, r = .returned (.tuple #[v, .int .i64 2]) ∧ Nt w.heap.size w' v 0 ∧ Below w.heap.size w w' :=
  (Add_any xs ys a b n c m d w.heap.size w h1.len h2.len h1.cap h2.cap (by have := h1.big; omega) (by have := h2.big; omega) h1.wf h2.wf h1.rd h2.rd (Nat.le_refl _)).mono fun r w' ⟨⟨v, h3, h4⟩, h5⟩ => by
    have e : addS (val xs) (val ys) = (0, 2) := by unfold addS; rw [if_pos h]
    rw [e] at h3 h4
    exact ⟨v, h3, h4, h5⟩

set_option maxHeartbeats 4000000 in
theorem sum_long {w : World} {a b : Option Addr} {l c k d : Nat} {xs ys : List Nat} (h1 : Arg w a l c xs) (h2 : Arg w b k d ys) (hT : Tab w) (neg : Bool) (e : Int) (he0 : -1048576 ≤ e) (he1 : e ≤ 1048576)
    (P Q : Nat) (hP : val xs = P) (hQ : val ys = Q) (oP : P % 2 = 0) (hs : 262144 < bl (P + Q)) :
    Calls Tryz.prog 90 #[.bool neg, .slice a l c, .slice b k d, .int .i64 e] w fun r w' => DAns w.heap.size w' r none ∧ Below w.heap.size w w' := by
  have l0 : (ws 0).length = 0 := by rw [ws_zero]; rfl
  have HX := (Aside.intro (And.intro h1 (And.intro h2 (And.intro hT (And.intro hP (And.intro hQ (And.intro oP hs)))))))
  clear h1 h2 hT hP hQ oP hs
  have S0 := Aside.intro (show Below (w.alloc (.cells #[.bool false, .slice none 0 0, .int .i64 0] 27)).heap.size (w.alloc (.cells #[.bool false, .slice none 0 0, .int .i64 0] 27)) (w.alloc (.cells #[.bool false, .slice none 0 0, .int .i64 0] 27)) from Below.refl _ _)
  have B0 := Aside.intro (show Below w.heap.size w (w.alloc (.cells #[.bool false, .slice none 0 0, .int .i64 0] 27)) from below_alloc w _)
  go_enter Tryz.func90, Tryz.ntmps90
  obtain C := S0.out
  have BW : Below w.heap.size w (w.alloc (.cells #[.bool false, .slice none 0 0, .int .i64 0] 27)) := B0.out.trans (C.mono (by simp))
  have H := hid (show Calls Tryz.prog 118 #[.slice a l c, .int .i64 0] (w.alloc (.cells #[.bool false, .slice none 0 0, .int .i64 0] 27)) fun r w' => r = .returned (.bool false) ∧ w' = (w.alloc (.cells #[.bool false, .slice none 0 0, .int .i64 0] 27)) from by have A := HX.out.1.below BW; have := bit_any xs a l c _ 0 _ A.len A.wf A.rd (by omega); rw [Nat.pow_zero, Nat.div_one, HX.out.2.2.2.1, HX.out.2.2.2.2.2.1] at this; exact this)
  clear C BW 
  go_wp2_with fail
  refine (Calls.mono H.out) ?_
  rintro r ww ⟨rfl, hw⟩
  rw [hw]
  clear H hw ww
  obtain C := S0.out
  have BW : Below w.heap.size w (w.alloc (.cells #[.bool false, .slice none 0 0, .int .i64 0] 27)) := B0.out.trans (C.mono (by simp))
  have H := hid (wAdd_long (HX.out.1.below BW) (HX.out.2.1.below BW) (by rw [HX.out.2.2.2.1, HX.out.2.2.2.2.1, LG_bl]; exact HX.out.2.2.2.2.2.2))
  clear C BW 
  go_wp2_with fail
  refine (Calls.mono H.out) ?_
  rintro r u1 ⟨v, rfl, hN, hb⟩
  obtain ⟨a1, c1, rfl, _⟩ := hN.arg (by omega)
  obtain C := S0.out
  have hz1 := C.size
  have S1 := (Aside.intro (And.intro (C.trans (hb.mono C.size)) (hN.mono C.size)))
  clear C hb H hN 
  obtain ⟨C, N1⟩ := S1.out
  obtain ⟨hc, hf⟩ := bcell C
  have HF := Aside.intro (show Fin w.heap.size (w.heap.size + 1) w u1 (.slice none 0 0) 0 from ⟨Nt.nil _ _, B0.out.trans (C.mono (by simp)), by have := C.size; simp at this; omega⟩)
  have hz : w.heap.size < u1.heap.size := by have := C.size; simp at this; omega
  clear C N1
  go_wp2
  exact bodyPost_ret (v := .tuple #[.agg #[.bool false, .slice none 0 0, .int .i64 0], .int .i64 2]) (by simp [results, Tryz.results90, go_sem, hc]) rfl (Fin.dans (m := w.heap.size + 1) (by repeat (first | exact HF.out | refine Fin.alloc ?_ _ | refine Fin.set ?_ _ _ _ (by omega) (by omega))) (by omega))

theorem sum_any {w : World} {a b : Option Addr} {l c k d : Nat} {xs ys : List Nat} (h1 : Arg w a l c xs) (h2 : Arg w b k d ys) (hT : Tab w) (neg : Bool) (e : Int) (he0 : -1048576 ≤ e) (he1 : e ≤ 1048576)
    (P Q : Nat) (hP : val xs = P) (hQ : val ys = Q) (oQ : Q % 2 = 1) (bP : bl P ≤ 262144) (bQ : bl Q ≤ 262144) :
    Calls Tryz.prog 90 #[.bool neg, .slice a l c, .slice b k d, .int .i64 e] w fun r w' => DAns w.heap.size w' r (mkS neg (P + Q) e) ∧ Below w.heap.size w w' := by
  rcases Nat.mod_two_eq_zero_or_one P with oP | oP
  · by_cases hs : bl (P + Q) ≤ 262144
    · exact sum_even h1 h2 hT neg e he0 he1 P Q hP hQ oP hs
    · have e1 : mkS neg (P + Q) e = none := by rw [mkS_odd _ _ _ (by omega), if_pos (.inl (by omega))]
      rw [e1]
      exact sum_long h1 h2 hT neg e he0 he1 P Q hP hQ oP (by omega)
  · exact sum_odd h1 h2 hT neg e he0 he1 P Q hP hQ oP oQ bP bQ

set_option maxHeartbeats 4000000 in
theorem diff_low {w : World} {a b : Option Addr} {l c k d : Nat} {xs ys : List Nat} (h1 : Arg w a l c xs) (h2 : Arg w b k d ys) (hT : Tab w) (neg : Bool) (e : Int) (he0 : -1048576 ≤ e) (he1 : e ≤ 1048576)
    (P Q : Nat) (hP : val xs = P) (hQ : val ys = Q) (bP : bl P ≤ 262144) (bQ : bl Q ≤ 262144) (hlt : P < Q) :
    Calls Tryz.prog 91 #[.bool neg, .slice a l c, .slice b k d, .int .i64 e] w fun r w' => DAns w.heap.size w' r (mkS (!neg) (Q - P) e) ∧ Below w.heap.size w w' := by
  obtain ⟨z, hz0⟩ : ∃ z, cmpI P Q = z := ⟨_, rfl⟩
  have hzz : z = -1 := by rw [← hz0]; exact cmpI_lt hlt
  obtain ⟨V, hV⟩ : ∃ x, Q - P = x := ⟨_, rfl⟩
  have bV : bl V ≤ 262144 := by rw [← hV]; exact Nat.le_trans (bl_mono (Nat.sub_le _ _)) bQ
  rw [hV]
  have l1 := len8 bV
  have hsub : V + P = Q := by omega
  have HX := (Aside.intro (And.intro h1 (And.intro h2 (And.intro hT (And.intro hP (And.intro hQ (And.intro hz0 (And.intro hsub (And.intro bP bQ)))))))))
  subst hzz
  clear h1 h2 hT hP hQ hz0 hsub bP bQ hlt hV bV
  unfold DAns
  have hl := mkS_len (!neg) V e
  obtain ⟨o, ho⟩ : ∃ o, mkS (!neg) V e = o := ⟨_, rfl⟩
  rw [ho] at hl ⊢
  obtain ⟨dn, hdn⟩ : ∃ d, dN o = d := ⟨_, rfl⟩
  obtain ⟨X, hX⟩ : ∃ d, dX o = d := ⟨_, rfl⟩
  obtain ⟨de, hde⟩ : ∃ d, dE o = d := ⟨_, rfl⟩
  obtain ⟨er, her⟩ : ∃ d, erS o = d := ⟨_, rfl⟩
  rw [hdn, hX, hde, her]
  rw [hX] at hl
  have HS := (Aside.intro (And.intro ho (And.intro hdn (And.intro hX (And.intro hde her)))))
  clear ho hdn hX hde her
  have S0 := Aside.intro (show Below (w.alloc (.cells #[.bool false, .slice none 0 0, .int .i64 0] 27)).heap.size (w.alloc (.cells #[.bool false, .slice none 0 0, .int .i64 0] 27)) (w.alloc (.cells #[.bool false, .slice none 0 0, .int .i64 0] 27)) from Below.refl _ _)
  have B0 := Aside.intro (show Below w.heap.size w (w.alloc (.cells #[.bool false, .slice none 0 0, .int .i64 0] 27)) from below_alloc w _)
  go_enter Tryz.func91, Tryz.ntmps91
  obtain C := S0.out
  have BW : Below w.heap.size w (w.alloc (.cells #[.bool false, .slice none 0 0, .int .i64 0] 27)) := B0.out.trans (C.mono (by simp))
  have H := hid (show Calls Tryz.prog 122 #[.slice a l c, .slice b k d] (w.alloc (.cells #[.bool false, .slice none 0 0, .int .i64 0] 27)) fun r w' => r = .returned (.int .i64 (-1)) ∧ Below (w.alloc (.cells #[.bool false, .slice none 0 0, .int .i64 0] 27)).heap.size (w.alloc (.cells #[.bool false, .slice none 0 0, .int .i64 0] 27)) w' from Cmp_arg (HX.out.1.below BW) (HX.out.2.1.below BW) (-1) (by rw [HX.out.2.2.2.1, HX.out.2.2.2.2.1]; exact HX.out.2.2.2.2.2.1))
  clear C BW 
  go_wp2_with fail
  refine (Calls.mono H.out) ?_
  rintro r u1 ⟨rfl, hb⟩
  obtain C := S0.out
  have hz1 := C.size
  have S1 := Aside.intro (C.trans (hb.mono C.size))
  clear C hb H  
  obtain C := S1.out
  have BW : Below w.heap.size w u1 := B0.out.trans (C.mono (by simp))
  have H := hid (Sub_arg (V := V) (HX.out.2.1.below BW) (HX.out.1.below BW) (by rw [HX.out.2.2.2.2.1, HX.out.2.2.2.1]; exact subS_ok (notLG HX.out.2.2.2.2.2.2.2.2) (notLG HX.out.2.2.2.2.2.2.2.1) HX.out.2.2.2.2.2.2.1))
  clear C BW 
  go_wp2_with fail
  refine (Calls.mono H.out) ?_
  rintro r u2 ⟨v, rfl, hN, hb⟩
  obtain ⟨a2, c2, rfl, _⟩ := hN.arg (by omega)
  obtain C := S1.out
  have hz2 := C.size
  have S2 := (Aside.intro (And.intro (C.trans (hb.mono C.size)) (hN.mono C.size)))
  clear C hb H hN 
  obtain ⟨C, N2⟩ := S2.out
  have BW : Below w.heap.size w u2 := B0.out.trans (C.mono (by simp))
  have H0 := show Calls Tryz.prog 110 #[.bool (!neg), .slice a2 (ws V).length c2, .int .i64 e] u2 fun r w' => DAns u2.heap.size w' r (mkS (!neg) V e) ∧ Below u2.heap.size u2 w' from by have := Make_any (N2.arg' (by omega)).2 (HX.out.2.2.1.belows BW) (!neg) e (by omega) (by omega); rw [val_ws] at this; exact this
  unfold DAns at H0
  rw [HS.out.1, HS.out.2.1, HS.out.2.2.1, HS.out.2.2.2.1, HS.out.2.2.2.2] at H0
  have H := hid H0
  clear C BW H0 N2
  go_wp2_with fail
  refine (Calls.mono H.out) ?_
  rintro r uu ⟨⟨v, rfl, hN⟩, hb⟩
  obtain ⟨aa, cc, rfl, _⟩ := hN.arg (by omega)
  obtain ⟨C, N2⟩ := S2.out
  have hbb := C.trans (hb.mono C.size)
  obtain ⟨hc, hf⟩ := bcell hbb
  have HF := Aside.intro (Fin.of 1 B0.out (by simp) (hN.mono C.size) hbb)
  have hz : w.heap.size < uu.heap.size := by have := hbb.size; simp at this; omega
  clear C hb hN hbb H N2
  go_wp2
  exact bodyPost_ret (v := .tuple #[.agg #[.bool dn, .slice aa (ws X).length cc, .int .i64 de], .int .i64 er]) (by simp [results, Tryz.results91, go_sem, hc]) rfl (Fin.dans (m := w.heap.size + 1) (by repeat (first | exact HF.out | refine Fin.alloc ?_ _ | refine Fin.set ?_ _ _ _ (by omega) (by omega))) (by omega))

set_option maxHeartbeats 4000000 in
theorem diff_high {w : World} {a b : Option Addr} {l c k d : Nat} {xs ys : List Nat} (h1 : Arg w a l c xs) (h2 : Arg w b k d ys) (hT : Tab w) (neg : Bool) (e : Int) (he0 : -1048576 ≤ e) (he1 : e ≤ 1048576)
    (P Q : Nat) (hP : val xs = P) (hQ : val ys = Q) (bP : bl P ≤ 262144) (bQ : bl Q ≤ 262144) (hlt : Q ≤ P) :
    Calls Tryz.prog 91 #[.bool neg, .slice a l c, .slice b k d, .int .i64 e] w fun r w' => DAns w.heap.size w' r (mkS neg (P - Q) e) ∧ Below w.heap.size w w' := by
  obtain ⟨z, hz0⟩ : ∃ z, cmpI P Q = z := ⟨_, rfl⟩
  have hzz : 0 ≤ z := by rw [← hz0]; exact cmpI_ge hlt
  obtain ⟨V, hV⟩ : ∃ x, P - Q = x := ⟨_, rfl⟩
  have bV : bl V ≤ 262144 := by rw [← hV]; exact Nat.le_trans (bl_mono (Nat.sub_le _ _)) bP
  rw [hV]
  have l1 := len8 bV
  have hsub : V + Q = P := by omega
  have HX := (Aside.intro (And.intro h1 (And.intro h2 (And.intro hT (And.intro hP (And.intro hQ (And.intro hz0 (And.intro hsub (And.intro bP bQ)))))))))
  have hzf : decide (z < 0) = false := decide_eq_false (by omega)
  clear h1 h2 hT hP hQ hz0 hsub bP bQ hlt hV bV
  unfold DAns
  have hl := mkS_len neg V e
  obtain ⟨o, ho⟩ : ∃ o, mkS neg V e = o := ⟨_, rfl⟩
  rw [ho] at hl ⊢
  obtain ⟨dn, hdn⟩ : ∃ d, dN o = d := ⟨_, rfl⟩
  obtain ⟨X, hX⟩ : ∃ d, dX o = d := ⟨_, rfl⟩
  obtain ⟨de, hde⟩ : ∃ d, dE o = d := ⟨_, rfl⟩
  obtain ⟨er, her⟩ : ∃ d, erS o = d := ⟨_, rfl⟩
  rw [hdn, hX, hde, her]
  rw [hX] at hl
  have HS := (Aside.intro (And.intro ho (And.intro hdn (And.intro hX (And.intro hde her)))))
  clear ho hdn hX hde her
  have S0 := Aside.intro (show Below (w.alloc (.cells #[.bool false, .slice none 0 0, .int .i64 0] 27)).heap.size (w.alloc (.cells #[.bool false, .slice none 0 0, .int .i64 0] 27)) (w.alloc (.cells #[.bool false, .slice none 0 0, .int .i64 0] 27)) from Below.refl _ _)
  have B0 := Aside.intro (show Below w.heap.size w (w.alloc (.cells #[.bool false, .slice none 0 0, .int .i64 0] 27)) from below_alloc w _)
  go_enter Tryz.func91, Tryz.ntmps91
  obtain C := S0.out
  have BW : Below w.heap.size w (w.alloc (.cells #[.bool false, .slice none 0 0, .int .i64 0] 27)) := B0.out.trans (C.mono (by simp))
  have H := hid (show Calls Tryz.prog 122 #[.slice a l c, .slice b k d] (w.alloc (.cells #[.bool false, .slice none 0 0, .int .i64 0] 27)) fun r w' => r = .returned (.int .i64 z) ∧ Below (w.alloc (.cells #[.bool false, .slice none 0 0, .int .i64 0] 27)).heap.size (w.alloc (.cells #[.bool false, .slice none 0 0, .int .i64 0] 27)) w' from Cmp_arg (HX.out.1.below BW) (HX.out.2.1.below BW) z (by rw [HX.out.2.2.2.1, HX.out.2.2.2.2.1]; exact HX.out.2.2.2.2.2.1))
  clear C BW 
  go_wp2_with fail
  refine (Calls.mono H.out) ?_
  rintro r u1 ⟨rfl, hb⟩
  obtain C := S0.out
  have hz1 := C.size
  have S1 := Aside.intro (C.trans (hb.mono C.size))
  clear C hb H  
  obtain C := S1.out
  have BW : Below w.heap.size w u1 := B0.out.trans (C.mono (by simp))
  have H := hid (Sub_arg (V := V) (HX.out.1.below BW) (HX.out.2.1.below BW) (by rw [HX.out.2.2.2.1, HX.out.2.2.2.2.1]; exact subS_ok (notLG HX.out.2.2.2.2.2.2.2.1) (notLG HX.out.2.2.2.2.2.2.2.2) HX.out.2.2.2.2.2.2.1))
  clear C BW 
  go_wp2_with fail
  refine (Calls.mono H.out) ?_
  rintro r u2 ⟨v, rfl, hN, hb⟩
  obtain ⟨a2, c2, rfl, _⟩ := hN.arg (by omega)
  obtain C := S1.out
  have hz2 := C.size
  have S2 := (Aside.intro (And.intro (C.trans (hb.mono C.size)) (hN.mono C.size)))
  clear C hb H hN 
  obtain ⟨C, N2⟩ := S2.out
  have BW : Below w.heap.size w u2 := B0.out.trans (C.mono (by simp))
  have H0 := show Calls Tryz.prog 110 #[.bool neg, .slice a2 (ws V).length c2, .int .i64 e] u2 fun r w' => DAns u2.heap.size w' r (mkS neg V e) ∧ Below u2.heap.size u2 w' from by have := Make_any (N2.arg' (by omega)).2 (HX.out.2.2.1.belows BW) neg e (by omega) (by omega); rw [val_ws] at this; exact this
  unfold DAns at H0
  rw [HS.out.1, HS.out.2.1, HS.out.2.2.1, HS.out.2.2.2.1, HS.out.2.2.2.2] at H0
  have H := hid H0
  clear C BW H0 N2
  go_wp2_with fail
  refine (Calls.mono H.out) ?_
  rintro r uu ⟨⟨v, rfl, hN⟩, hb⟩
  obtain ⟨aa, cc, rfl, _⟩ := hN.arg (by omega)
  obtain ⟨C, N2⟩ := S2.out
  have hbb := C.trans (hb.mono C.size)
  obtain ⟨hc, hf⟩ := bcell hbb
  have HF := Aside.intro (Fin.of 1 B0.out (by simp) (hN.mono C.size) hbb)
  have hz : w.heap.size < uu.heap.size := by have := hbb.size; simp at this; omega
  clear C hb hN hbb H N2
  go_wp2
  exact bodyPost_ret (v := .tuple #[.agg #[.bool dn, .slice aa (ws X).length cc, .int .i64 de], .int .i64 er]) (by simp [results, Tryz.results91, go_sem, hc]) rfl (Fin.dans (m := w.heap.size + 1) (by repeat (first | exact HF.out | refine Fin.alloc ?_ _ | refine Fin.set ?_ _ _ _ (by omega) (by omega))) (by omega))
end Go.Proofs.YtdimlelcgapobaaGreatDoor

/- Dyads in blocks; dyad's forms. -/
namespace Go.Proofs.YtdimlelcgapobaaGreatDoor
open Go.RowKit
set_option linter.unusedVariables false
set_option maxRecDepth 20000
set_option linter.unusedSimpArgs false

def Dk (w : World) (g : Nat) (n : Bool) (v : Value) (e : Int) : Prop := w.heap[g]? = some (.cells #[.bool n, v, .int .i64 e] 27 (0, 0))
theorem Dk.lt {w : World} {g : Nat} {n : Bool} {v : Value} {e : Int} (h : Dk w g n v e) : g < w.heap.size := (Array.getElem?_eq_some_iff.1 h).1
theorem Dk.below {w w' : World} {g : Nat} {n : Bool} {v : Value} {e : Int} (h : Dk w g n v e) (hb : Below w.heap.size w w') : Dk w' g n v e := by
  unfold Dk; rw [hb.block g h.lt]; exact h
theorem Dk.alloc {w : World} {g : Nat} {n : Bool} {v : Value} {e : Int} (h : Dk w g n v e) (o : Obj) : Dk (w.alloc o) g n v e := h.below (below_alloc w o)
theorem Dk.new (w : World) (n : Bool) (v : Value) (e : Int) : Dk (w.alloc (.cells #[.bool n, v, .int .i64 e] 27)) w.heap.size n v e := heap_alloc_new _ _
theorem Dk.facts {w : World} {g : Nat} {n : Bool} {v : Value} {e : Int} (h : Dk w g n v e) :
    w.cell? ⟨g, 0, none⟩ = some (.bool n) ∧ w.cell? ⟨g, 1, none⟩ = some v ∧ w.cell? ⟨g, 2, none⟩ = some (.int .i64 e) ∧ w.frozen? ⟨g, 0, none⟩ = false ∧ w.frozen? ⟨g, 1, none⟩ = false ∧ w.frozen? ⟨g, 2, none⟩ = false := by
  unfold Dk at h
  simp [World.cell?, World.frozen?, h]
abbrev st3 (w : World) (g : Nat) (x y z : Value) : World := ((w.setCell ⟨g, 0, none⟩ x).setCell ⟨g, 1, none⟩ y).setCell ⟨g, 2, none⟩ z
theorem st3_size (w : World) (g : Nat) (x y z : Value) : (st3 w g x y z).heap.size = w.heap.size := by simp [st3, World.setCell]
theorem Dk.set {w : World} {g : Nat} {n : Bool} {v : Value} {e : Int} (h : Dk w g n v e) (m : Bool) (u : Value) (f : Int) : Dk (st3 w g (.bool m) u (.int .i64 f)) g m u f := by
  unfold Dk at h ⊢
  simp [st3, World.setCell, Array.getElem?_modify, h]
theorem Dk.other {w : World} {g : Nat} {n : Bool} {v : Value} {e : Int} (h : Dk w g n v e) (g' : Nat) (hg : g ≠ g') (x y z : Value) : Dk (st3 w g' x y z) g n v e := by
  unfold Dk
  rw [(set3_but g' w x y z).block g h.lt hg]; exact h
theorem Fin.st3 {lo m : Nat} {w0 w : World} {v : Value} {X : Nat} (H : Fin lo m w0 w v X) (g : Nat) (x y z : Value) (h1 : lo ≤ g) (h2 : g < m) : Fin lo m w0 (st3 w g x y z) v X := ((H.set g 0 x h1 h2).set g 1 y h1 h2).set g 2 z h1 h2
theorem Fin.below {lo m : Nat} {w0 w w' : World} {v : Value} {X : Nat} (H : Fin lo m w0 w v X) (hb : Below w.heap.size w w') : Fin lo m w0 w' v X := ⟨H.nt.below hb, H.bel.trans (hb.mono H.size), Nat.le_trans H.size hb.size⟩

theorem Fin.drew {lo m : Nat} {w0 w : World} {v : Value} {X : Nat} (H : Fin lo m w0 w v X) : Fin lo m w0 w.drew v X := ⟨H.nt, H.bel.drew, H.size⟩
theorem Fin.pair {lo m : Nat} {w0 w : World} {v v' : Value} {X X' : Nat} {n n' : Bool} {e e' : Int} {k : Value} (H : Fin lo m w0 w v X) (H' : Fin lo m w0 w v' X') (h : lo ≤ m) :
    ∃ p q, Ending.returned (.tuple #[.agg #[.bool n, v, .int .i64 e], .agg #[.bool n', v', .int .i64 e'], k]) = .returned (.tuple #[.agg #[.bool n, p, .int .i64 e], .agg #[.bool n', q, .int .i64 e'], k]) ∧ Nt lo w p X ∧ Nt lo w q X' ∧ Below lo w0 w := ⟨v, v', rfl, H.nt.mono h, H'.nt.mono h, H.bel⟩

theorem forms_res (W : World) (g h : Nat) (n m : Bool) (v u : Value) (e f k : Int) (tmps : Array Value) (ht : tmps[4]?.getD undef = .pointer (some ⟨g, 0, none⟩)) (hs : tmps[5]?.getD undef = .pointer (some ⟨h, 0, none⟩)) (hk : tmps[6]?.getD undef = .int .i64 k) (D : Dk W g n v e) (E : Dk W h m u f) :
    (results Tryz.f88 tmps).run Tryz.prog W = .ok (.tuple #[.agg #[.bool n, v, .int .i64 e], .agg #[.bool m, u, .int .i64 f], .int .i64 k]) W := by
  obtain ⟨x0, x1, x2, xf0, xf1, xf2⟩ := D.facts
  obtain ⟨y0, y1, y2, yf0, yf1, yf2⟩ := E.facts
  simp [results, Tryz.results88, ht, hs, hk, go_sem, x0, x1, x2, y0, y1, y2]

set_option maxHeartbeats 4000000 in
theorem forms_ok {w : World} {a b : Option Addr} {l c k d : Nat} {xs ys : List Nat} (h1 : Arg w a l c xs) (h2 : Arg w b k d ys) (hT : Tab w) (n m : Bool) (e f : Int) (he0 : -9223372036854775808 ≤ e) (he1 : e ≤ 9223372036854775807) (hf0 : -9223372036854775808 ≤ f) (hf1 : f ≤ 9223372036854775807)
    (n1 m1 : Bool) (X Y : Nat) (e1 f1 : Int) (hx : mkS n (val xs) e = some (n1, X, e1)) (hy : mkS m (val ys) f = some (m1, Y, f1)) :
    Calls Tryz.prog 88 #[.agg #[.bool n, .slice a l c, .int .i64 e], .agg #[.bool m, .slice b k d, .int .i64 f]] w fun r w' =>
      ∃ v u, r = .returned (.tuple #[.agg #[.bool n1, v, .int .i64 e1], .agg #[.bool m1, u, .int .i64 f1], .int .i64 0]) ∧ Nt w.heap.size w' v X ∧ Nt w.heap.size w' u Y ∧ Below w.heap.size w w' := by
  obtain ⟨W1, hW1⟩ : ∃ W, W = (((w.alloc (.cells #[.bool n, .slice a l c, .int .i64 e] 27)).alloc (.cells #[.bool m, .slice b k d, .int .i64 f] 27)).alloc (.cells #[.bool false, .slice none 0 0, .int .i64 0] 27)).alloc (.cells #[.bool false, .slice none 0 0, .int .i64 0] 27) := ⟨_, rfl⟩
  have hB : Below w.heap.size w W1 := by rw [hW1]; exact (((below_alloc w _).alloc (by simp) _).alloc (by simp; omega) _).alloc (by simp; omega) _
  have hz1 : W1.heap.size = w.heap.size + 4 := by rw [hW1]; simp
  have D1 : Dk W1 (w.heap.size + 1) m (.slice b k d) f := by rw [hW1]; have := ((Dk.new (w.alloc (.cells #[.bool n, .slice a l c, .int .i64 e] 27)) m (.slice b k d) f).alloc (.cells #[.bool false, .slice none 0 0, .int .i64 0] 27)).alloc (.cells #[.bool false, .slice none 0 0, .int .i64 0] 27); simpa using this
  have D2 : Dk W1 (w.heap.size + 1 + 1) false (.slice none 0 0) 0 := by rw [hW1]; have := (Dk.new ((w.alloc (.cells #[.bool n, .slice a l c, .int .i64 e] 27)).alloc (.cells #[.bool m, .slice b k d, .int .i64 f] 27)) false (.slice none 0 0) 0).alloc (.cells #[.bool false, .slice none 0 0, .int .i64 0] 27); simpa using this
  have D3 : Dk W1 (w.heap.size + 1 + 1 + 1) false (.slice none 0 0) 0 := by rw [hW1]; have := Dk.new (((w.alloc (.cells #[.bool n, .slice a l c, .int .i64 e] 27)).alloc (.cells #[.bool m, .slice b k d, .int .i64 f] 27)).alloc (.cells #[.bool false, .slice none 0 0, .int .i64 0] 27)) false (.slice none 0 0) 0; simpa using this
  have HF1 := form_any (h1.below hB) (hT.belows hB) n e he0 he1
  have HF2 : Hid (∀ u, Below w.heap.size w u → Calls Tryz.prog 94 #[.agg #[.bool m, .slice b k d, .int .i64 f]] u fun r w' => DAns u.heap.size w' r (mkS m (val ys) f) ∧ Below u.heap.size u w') := fun u hu => form_any (h2.below hu) (hT.belows hu) m f hf0 hf1
  have lX : (ws X).length ≤ 8192 := by have := mkS_len n (val xs) e; rw [hx] at this; exact this
  have lY : (ws Y).length ≤ 8192 := by have := mkS_len m (val ys) f; rw [hy] at this; exact this
  rw [hx] at HF1
  rw [hy] at HF2
  simp only [DAns, dN, dX, dE, erS, Option.isSome, Option.getD, if_true, Bool.false_eq_true, if_false] at HF1 HF2
  have H1 := hid HF1
  have SB := (Aside.intro (And.intro hB (And.intro hz1 (And.intro D1 (And.intro D2 D3)))))
  clear HF1 h1 h2 hT hx hy he0 he1 hf0 hf1 hB hz1 D1 D2 D3
  go_enter Tryz.func88, Tryz.ntmps88
  go_wp2_with fail
  rw [← hW1]
  clear hW1
  refine (Calls.mono H1.out) ?_
  rintro r u1 ⟨⟨v, rfl, hN⟩, hb⟩
  obtain ⟨a1, c1, rfl, _⟩ := hN.arg (by omega)
  obtain ⟨hB, hz1, D1, D2, D3⟩ := SB.out
  have E1 := D1.below hb
  have E2 := D2.below hb
  have E3 := D3.below hb
  obtain ⟨p0, p1, p2, pf0, pf1, pf2⟩ := E1.facts
  obtain ⟨q0, q1, q2, qf0, qf1, qf2⟩ := E2.facts
  have F1 : Fin w.heap.size (w.heap.size + 4) w u1 (.slice a1 (ws X).length c1) X := ⟨by rw [← hz1]; exact hN, hB.trans (hb.mono (by omega)), by have := hb.size; omega⟩
  obtain ⟨U1, hU1⟩ : ∃ U, U = st3 u1 (w.heap.size + 1 + 1) (.bool n1) (.slice a1 (ws X).length c1) (.int .i64 e1) := ⟨_, rfl⟩
  have G1 : Fin w.heap.size (w.heap.size + 4) w U1 (.slice a1 (ws X).length c1) X := by rw [hU1]; exact F1.st3 _ _ _ _ (by omega) (by omega)
  have I2 : Dk U1 (w.heap.size + 1 + 1) n1 (.slice a1 (ws X).length c1) e1 := by rw [hU1]; exact E2.set _ _ _
  have I3 : Dk U1 (w.heap.size + 1 + 1 + 1) false (.slice none 0 0) 0 := by rw [hU1]; exact E3.other _ (by omega) _ _ _
  have I1 : Dk U1 (w.heap.size + 1) m (.slice b k d) f := by rw [hU1]; exact E1.other _ (by omega) _ _ _
  have hsz1 : U1.heap.size = u1.heap.size := by rw [hU1]; exact st3_size _ _ _ _ _
  have H2 := hid (HF2.out _ G1.bel)
  have S1 := (Aside.intro (And.intro G1 (And.intro I2 I3)))
  obtain ⟨i0, i1, i2, if0, if1, if2⟩ := I1.facts
  have hz4 : w.heap.size + 4 ≤ U1.heap.size := by rw [hsz1]; have := hb.size; omega
  clear hN hb F1 G1 H1 hB hz1 D1 D2 D3 E1 E2 E3 I2 I3 I1 SB hsz1
  unfold st3 at hU1
  go_wp2_with fail
  rw [← hU1]
  clear hU1
  refine (Calls.mono H2.out) ?_
  rintro r u2 ⟨⟨v, rfl, hN⟩, hb⟩
  obtain ⟨a2, c2, rfl, _⟩ := hN.arg (by omega)
  obtain ⟨G1, I2, I3⟩ := S1.out
  have J2 := I2.below hb
  have J3 := I3.below hb
  obtain ⟨U2, hU2⟩ : ∃ U, U = st3 u2 (w.heap.size + 1 + 1 + 1) (.bool m1) (.slice a2 (ws Y).length c2) (.int .i64 f1) := ⟨_, rfl⟩
  have K2 : Dk U2 (w.heap.size + 1 + 1) n1 (.slice a1 (ws X).length c1) e1 := by rw [hU2]; exact J2.other _ (by omega) _ _ _
  have K3 : Dk U2 (w.heap.size + 1 + 1 + 1) m1 (.slice a2 (ws Y).length c2) f1 := by rw [hU2]; exact J3.set _ _ _
  have Q1 := Aside.intro (show Fin w.heap.size (w.heap.size + 4) w U2 (.slice a1 (ws X).length c1) X by rw [hU2]; exact (G1.below hb).st3 _ _ _ _ (by omega) (by omega))
  have Q2 := Aside.intro (show Fin w.heap.size (w.heap.size + 4) w U2 (.slice a2 (ws Y).length c2) Y by rw [hU2]; exact Fin.st3 ⟨hN.mono hz4, (G1.below hb).bel, (G1.below hb).size⟩ _ _ _ _ (by omega) (by omega))
  obtain ⟨s0, s1, s2, sf0, sf1, sf2⟩ := J3.facts
  obtain ⟨x0, x1, x2, xf0, xf1, xf2⟩ := K2.facts
  obtain ⟨y0, y1, y2, yf0, yf1, yf2⟩ := K3.facts
  clear hN hb H2 S1 G1 I2 I3 J2 J3 K2 K3
  unfold st3 at hU2
  go_wp2
  rw [← hU2]
  clear hU2 HF2
  go_region
  all_goals (
    go_wp2
    refine bodyPost_ret (v := .tuple #[.agg #[.bool n1, .slice a1 (ws X).length c1, .int .i64 e1], .agg #[.bool m1, .slice a2 (ws Y).length c2, .int .i64 f1], .int .i64 0]) (by simp [results, Tryz.results88, go_sem, x0, x1, x2, y0, y1, y2]) rfl ?_
    refine Fin.pair (m := w.heap.size + 4) ?_ ?_ (by omega)
    · repeat (with_reducible first | exact Q1.out | refine Fin.drew ?_ | refine Fin.alloc ?_ _ | refine Fin.set ?_ _ _ _ (by omega) (by omega))
    · repeat (with_reducible first | exact Q2.out | refine Fin.drew ?_ | refine Fin.alloc ?_ _ | refine Fin.set ?_ _ _ _ (by omega) (by omega)))
set_option maxHeartbeats 4000000 in
theorem forms_bad1 {w : World} {a b : Option Addr} {l c k d : Nat} {xs ys : List Nat} (h1 : Arg w a l c xs) (h2 : Arg w b k d ys) (hT : Tab w) (n m : Bool) (e f : Int) (he0 : -9223372036854775808 ≤ e) (he1 : e ≤ 9223372036854775807) (hf0 : -9223372036854775808 ≤ f) (hf1 : f ≤ 9223372036854775807)
    (hx : mkS n (val xs) e = none) :
    Calls Tryz.prog 88 #[.agg #[.bool n, .slice a l c, .int .i64 e], .agg #[.bool m, .slice b k d, .int .i64 f]] w fun r w' =>
      r = .returned (.tuple #[.agg #[.bool false, .slice none 0 0, .int .i64 0], .agg #[.bool false, .slice none 0 0, .int .i64 0], .int .i64 2]) ∧ Below w.heap.size w w' := by
  obtain ⟨W1, hW1⟩ : ∃ W, W = (((w.alloc (.cells #[.bool n, .slice a l c, .int .i64 e] 27)).alloc (.cells #[.bool m, .slice b k d, .int .i64 f] 27)).alloc (.cells #[.bool false, .slice none 0 0, .int .i64 0] 27)).alloc (.cells #[.bool false, .slice none 0 0, .int .i64 0] 27) := ⟨_, rfl⟩
  have hB : Below w.heap.size w W1 := by rw [hW1]; exact (((below_alloc w _).alloc (by simp) _).alloc (by simp; omega) _).alloc (by simp; omega) _
  have hz1 : W1.heap.size = w.heap.size + 4 := by rw [hW1]; simp
  have D1 : Dk W1 (w.heap.size + 1) m (.slice b k d) f := by rw [hW1]; have := ((Dk.new (w.alloc (.cells #[.bool n, .slice a l c, .int .i64 e] 27)) m (.slice b k d) f).alloc (.cells #[.bool false, .slice none 0 0, .int .i64 0] 27)).alloc (.cells #[.bool false, .slice none 0 0, .int .i64 0] 27); simpa using this
  have D2 : Dk W1 (w.heap.size + 1 + 1) false (.slice none 0 0) 0 := by rw [hW1]; have := (Dk.new ((w.alloc (.cells #[.bool n, .slice a l c, .int .i64 e] 27)).alloc (.cells #[.bool m, .slice b k d, .int .i64 f] 27)) false (.slice none 0 0) 0).alloc (.cells #[.bool false, .slice none 0 0, .int .i64 0] 27); simpa using this
  have D3 : Dk W1 (w.heap.size + 1 + 1 + 1) false (.slice none 0 0) 0 := by rw [hW1]; have := Dk.new (((w.alloc (.cells #[.bool n, .slice a l c, .int .i64 e] 27)).alloc (.cells #[.bool m, .slice b k d, .int .i64 f] 27)).alloc (.cells #[.bool false, .slice none 0 0, .int .i64 0] 27)) false (.slice none 0 0) 0; simpa using this
  have HF1 := form_any (h1.below hB) (hT.belows hB) n e he0 he1
  have l0 : (ws 0).length = 0 := by rw [ws_zero]; rfl
  rw [hx] at HF1
  simp only [DAns, dN, dX, dE, erS, Option.isSome, Option.getD, if_true, Bool.false_eq_true, if_false] at HF1
  have H1 := hid HF1
  have SB := (Aside.intro (And.intro hB (And.intro hz1 (And.intro D1 (And.intro D2 D3)))))
  clear HF1 h1 h2 hT hx he0 he1 hf0 hf1 hB hz1 D1 D2 D3
  go_enter Tryz.func88, Tryz.ntmps88
  go_wp2_with fail
  rw [← hW1]
  clear hW1
  refine (Calls.mono H1.out) ?_
  rintro r u1 ⟨⟨v, rfl, hN⟩, hb⟩
  obtain ⟨a1, c1, rfl, _⟩ := hN.arg (by omega)
  obtain ⟨hB, hz1, D1, D2, D3⟩ := SB.out
  have E2 := D2.below hb
  have E3 := D3.below hb
  obtain ⟨q0, q1, q2, qf0, qf1, qf2⟩ := E2.facts
  obtain ⟨y0, y1, y2, yf0, yf1, yf2⟩ := E3.facts
  have F1 := Aside.intro (show Fin w.heap.size (w.heap.size + 4) w u1 (.slice none 0 0) 0 from ⟨Nt.nil _ _, hB.trans (hb.mono (by omega)), by have := hb.size; omega⟩)
  have SE := (Aside.intro (And.intro E2 E3))
  clear hN hb H1 hB hz1 D1 D2 D3 E2 E3 SB
  go_wp2
  obtain ⟨E2, E3⟩ := SE.out
  refine bodyPost_ret (forms_res _ (w.heap.size + 1 + 1) (w.heap.size + 1 + 1 + 1) false false (.slice none 0 0) (.slice none 0 0) 0 0 2 _ rfl rfl rfl (((E2.set _ _ _).set _ _ _).other _ (by omega) _ _ _) (((E3.other _ (by omega) _ _ _).other _ (by omega) _ _ _).set _ _ _)) rfl ⟨rfl, ?_⟩
  refine Fin.bel (m := w.heap.size + 4) (v := .slice none 0 0) (X := 0) ?_
  repeat (with_reducible first | exact F1.out | refine Fin.drew ?_ | refine Fin.alloc ?_ _ | refine Fin.set ?_ _ _ _ (by omega) (by omega))

set_option maxHeartbeats 4000000 in
theorem forms_bad2 {w : World} {a b : Option Addr} {l c k d : Nat} {xs ys : List Nat} (h1 : Arg w a l c xs) (h2 : Arg w b k d ys) (hT : Tab w) (n m : Bool) (e f : Int) (he0 : -9223372036854775808 ≤ e) (he1 : e ≤ 9223372036854775807) (hf0 : -9223372036854775808 ≤ f) (hf1 : f ≤ 9223372036854775807)
    (n1 : Bool) (X : Nat) (e1 : Int) (hx : mkS n (val xs) e = some (n1, X, e1)) (hy : mkS m (val ys) f = none) :
    Calls Tryz.prog 88 #[.agg #[.bool n, .slice a l c, .int .i64 e], .agg #[.bool m, .slice b k d, .int .i64 f]] w fun r w' =>
      r = .returned (.tuple #[.agg #[.bool false, .slice none 0 0, .int .i64 0], .agg #[.bool false, .slice none 0 0, .int .i64 0], .int .i64 2]) ∧ Below w.heap.size w w' := by
  obtain ⟨W1, hW1⟩ : ∃ W, W = (((w.alloc (.cells #[.bool n, .slice a l c, .int .i64 e] 27)).alloc (.cells #[.bool m, .slice b k d, .int .i64 f] 27)).alloc (.cells #[.bool false, .slice none 0 0, .int .i64 0] 27)).alloc (.cells #[.bool false, .slice none 0 0, .int .i64 0] 27) := ⟨_, rfl⟩
  have hB : Below w.heap.size w W1 := by rw [hW1]; exact (((below_alloc w _).alloc (by simp) _).alloc (by simp; omega) _).alloc (by simp; omega) _
  have hz1 : W1.heap.size = w.heap.size + 4 := by rw [hW1]; simp
  have D1 : Dk W1 (w.heap.size + 1) m (.slice b k d) f := by rw [hW1]; have := ((Dk.new (w.alloc (.cells #[.bool n, .slice a l c, .int .i64 e] 27)) m (.slice b k d) f).alloc (.cells #[.bool false, .slice none 0 0, .int .i64 0] 27)).alloc (.cells #[.bool false, .slice none 0 0, .int .i64 0] 27); simpa using this
  have D2 : Dk W1 (w.heap.size + 1 + 1) false (.slice none 0 0) 0 := by rw [hW1]; have := (Dk.new ((w.alloc (.cells #[.bool n, .slice a l c, .int .i64 e] 27)).alloc (.cells #[.bool m, .slice b k d, .int .i64 f] 27)) false (.slice none 0 0) 0).alloc (.cells #[.bool false, .slice none 0 0, .int .i64 0] 27); simpa using this
  have D3 : Dk W1 (w.heap.size + 1 + 1 + 1) false (.slice none 0 0) 0 := by rw [hW1]; have := Dk.new (((w.alloc (.cells #[.bool n, .slice a l c, .int .i64 e] 27)).alloc (.cells #[.bool m, .slice b k d, .int .i64 f] 27)).alloc (.cells #[.bool false, .slice none 0 0, .int .i64 0] 27)) false (.slice none 0 0) 0; simpa using this
  have HF1 := form_any (h1.below hB) (hT.belows hB) n e he0 he1
  have HF2 : Hid (∀ u, Below w.heap.size w u → Calls Tryz.prog 94 #[.agg #[.bool m, .slice b k d, .int .i64 f]] u fun r w' => DAns u.heap.size w' r (mkS m (val ys) f) ∧ Below u.heap.size u w') := fun u hu => form_any (h2.below hu) (hT.belows hu) m f hf0 hf1
  have lX : (ws X).length ≤ 8192 := by have := mkS_len n (val xs) e; rw [hx] at this; exact this
  have l0 : (ws 0).length = 0 := by rw [ws_zero]; rfl
  rw [hx] at HF1
  rw [hy] at HF2
  simp only [DAns, dN, dX, dE, erS, Option.isSome, Option.getD, if_true, Bool.false_eq_true, if_false] at HF1 HF2
  have H1 := hid HF1
  have SB := (Aside.intro (And.intro hB (And.intro hz1 (And.intro D1 (And.intro D2 D3)))))
  clear HF1 h1 h2 hT hx hy he0 he1 hf0 hf1 hB hz1 D1 D2 D3
  go_enter Tryz.func88, Tryz.ntmps88
  go_wp2_with fail
  rw [← hW1]
  clear hW1
  refine (Calls.mono H1.out) ?_
  rintro r u1 ⟨⟨v, rfl, hN⟩, hb⟩
  obtain ⟨a1, c1, rfl, _⟩ := hN.arg (by omega)
  obtain ⟨hB, hz1, D1, D2, D3⟩ := SB.out
  have E1 := D1.below hb
  have E2 := D2.below hb
  have E3 := D3.below hb
  obtain ⟨p0, p1, p2, pf0, pf1, pf2⟩ := E1.facts
  obtain ⟨q0, q1, q2, qf0, qf1, qf2⟩ := E2.facts
  have F1 : Fin w.heap.size (w.heap.size + 4) w u1 (.slice a1 (ws X).length c1) X := ⟨by rw [← hz1]; exact hN, hB.trans (hb.mono (by omega)), by have := hb.size; omega⟩
  obtain ⟨U1, hU1⟩ : ∃ U, U = st3 u1 (w.heap.size + 1 + 1) (.bool n1) (.slice a1 (ws X).length c1) (.int .i64 e1) := ⟨_, rfl⟩
  have G1 : Fin w.heap.size (w.heap.size + 4) w U1 (.slice a1 (ws X).length c1) X := by rw [hU1]; exact F1.st3 _ _ _ _ (by omega) (by omega)
  have I2 : Dk U1 (w.heap.size + 1 + 1) n1 (.slice a1 (ws X).length c1) e1 := by rw [hU1]; exact E2.set _ _ _
  have I3 : Dk U1 (w.heap.size + 1 + 1 + 1) false (.slice none 0 0) 0 := by rw [hU1]; exact E3.other _ (by omega) _ _ _
  have I1 : Dk U1 (w.heap.size + 1) m (.slice b k d) f := by rw [hU1]; exact E1.other _ (by omega) _ _ _
  have hsz1 : U1.heap.size = u1.heap.size := by rw [hU1]; exact st3_size _ _ _ _ _
  have H2 := hid (HF2.out _ G1.bel)
  have S1 := (Aside.intro (And.intro G1 (And.intro I2 I3)))
  obtain ⟨i0, i1, i2, if0, if1, if2⟩ := I1.facts
  have hz4 : w.heap.size + 4 ≤ U1.heap.size := by rw [hsz1]; have := hb.size; omega
  clear hN hb F1 G1 H1 hB hz1 D1 D2 D3 E1 E2 E3 I2 I3 I1 SB hsz1
  unfold st3 at hU1
  go_wp2_with fail
  rw [← hU1]
  clear hU1
  refine (Calls.mono H2.out) ?_
  rintro r u2 ⟨⟨v, rfl, hN⟩, hb⟩
  obtain ⟨a2, c2, rfl, _⟩ := hN.arg (by omega)
  obtain ⟨G1, I2, I3⟩ := S1.out
  have J2 := I2.below hb
  have J3 := I3.below hb
  have Q1 := Aside.intro (G1.below hb)
  obtain ⟨s0, s1, s2, sf0, sf1, sf2⟩ := J3.facts
  obtain ⟨x0, x1, x2, xf0, xf1, xf2⟩ := J2.facts
  have SE := (Aside.intro (And.intro J2 J3))
  clear hN hb H2 S1 G1 I2 I3 J2 J3
  go_wp2
  obtain ⟨E2, E3⟩ := SE.out
  refine bodyPost_ret (forms_res _ (w.heap.size + 1 + 1) (w.heap.size + 1 + 1 + 1) false false (.slice none 0 0) (.slice none 0 0) 0 0 2 _ rfl rfl rfl (((E2.other _ (by omega) _ _ _).set _ _ _).other _ (by omega) _ _ _) (((E3.set _ _ _).other _ (by omega) _ _ _).set _ _ _)) rfl ⟨rfl, ?_⟩
  refine Fin.bel (m := w.heap.size + 4) (v := .slice a1 (ws X).length c1) (X := X) ?_
  repeat (with_reducible first | exact Q1.out | refine Fin.drew ?_ | refine Fin.alloc ?_ _ | refine Fin.set ?_ _ _ _ (by omega) (by omega))

end Go.Proofs.YtdimlelcgapobaaGreatDoor

/- Ratios, spans, dyads in blocks. -/
namespace Go.Proofs.YtdimlelcgapobaaGreatDoor
open Go.RowKit
set_option linter.unusedVariables false
set_option maxRecDepth 20000
set_option linter.unusedSimpArgs false

def Tk (w : World) (g T : Nat) (x y z : Value) : Prop := w.heap[g]? = some (.cells #[x, y, z] T (0, 0))
theorem Tk.lt {w : World} {g T : Nat} {x y z : Value} (h : Tk w g T x y z) : g < w.heap.size := (Array.getElem?_eq_some_iff.1 h).1
theorem Tk.below {w w' : World} {g T : Nat} {x y z : Value} (h : Tk w g T x y z) (hb : Below w.heap.size w w') : Tk w' g T x y z := by
  unfold Tk; rw [hb.block g h.lt]; exact h
theorem Tk.alloc {w : World} {g T : Nat} {x y z : Value} (h : Tk w g T x y z) (o : Obj) : Tk (w.alloc o) g T x y z := h.below (below_alloc w o)
theorem Tk.new (w : World) (T : Nat) (x y z : Value) : Tk (w.alloc (.cells #[x, y, z] T)) w.heap.size T x y z := heap_alloc_new _ _
theorem Tk.facts {w : World} {g T : Nat} {x y z : Value} (h : Tk w g T x y z) :
    w.cell? ⟨g, 0, none⟩ = some x ∧ w.cell? ⟨g, 1, none⟩ = some y ∧ w.cell? ⟨g, 2, none⟩ = some z ∧ w.frozen? ⟨g, 0, none⟩ = false ∧ w.frozen? ⟨g, 1, none⟩ = false ∧ w.frozen? ⟨g, 2, none⟩ = false := by
  unfold Tk at h
  simp [World.cell?, World.frozen?, h]
theorem Tk.set {w : World} {g T : Nat} {x y z : Value} (h : Tk w g T x y z) (a b c : Value) : Tk (st3 w g a b c) g T a b c := by
  unfold Tk at h ⊢
  simp [st3, World.setCell, Array.getElem?_modify, h]
theorem Tk.but {w w' : World} {g g' T : Nat} {x y z : Value} (h : Tk w g T x y z) (hb : But g' w w') (hg : g ≠ g') : Tk w' g T x y z := by
  unfold Tk; rw [hb.block g h.lt hg]; exact h
theorem Dk.tk {w : World} {g : Nat} {n : Bool} {v : Value} {e : Int} (h : Dk w g n v e) : Tk w g 27 (.bool n) v (.int .i64 e) := h

def Rq (w : World) (g : Nat) (n : Bool) (v : Value) (e : Int) (m : Bool) (u : Value) (f : Int) : Prop := w.heap[g]? = some (.cells #[.bool n, v, .int .i64 e, .bool m, u, .int .i64 f] 30 (0, 0))
theorem Rq.lt {w : World} {g : Nat} {n : Bool} {v : Value} {e : Int} {m : Bool} {u : Value} {f : Int} (h : Rq w g n v e m u f) : g < w.heap.size := (Array.getElem?_eq_some_iff.1 h).1
theorem Rq.below {w w' : World} {g : Nat} {n : Bool} {v : Value} {e : Int} {m : Bool} {u : Value} {f : Int} (h : Rq w g n v e m u f) (hb : Below w.heap.size w w') : Rq w' g n v e m u f := by
  unfold Rq; rw [hb.block g h.lt]; exact h
theorem Rq.alloc {w : World} {g : Nat} {n : Bool} {v : Value} {e : Int} {m : Bool} {u : Value} {f : Int} (h : Rq w g n v e m u f) (o : Obj) : Rq (w.alloc o) g n v e m u f := h.below (below_alloc w o)
theorem Rq.new (w : World) (n : Bool) (v : Value) (e : Int) (m : Bool) (u : Value) (f : Int) : Rq (w.alloc (.cells #[.bool n, v, .int .i64 e, .bool m, u, .int .i64 f] 30)) w.heap.size n v e m u f := heap_alloc_new _ _
theorem Rq.facts {w : World} {g : Nat} {n : Bool} {v : Value} {e : Int} {m : Bool} {u : Value} {f : Int} (h : Rq w g n v e m u f) :
    w.cell? ⟨g, 0, none⟩ = some (.bool n) ∧ w.cell? ⟨g, 1, none⟩ = some v ∧ w.cell? ⟨g, 2, none⟩ = some (.int .i64 e) ∧ w.cell? ⟨g, 3, none⟩ = some (.bool m) ∧ w.cell? ⟨g, 4, none⟩ = some u ∧ w.cell? ⟨g, 5, none⟩ = some (.int .i64 f) := by
  unfold Rq at h
  simp [World.cell?, h]
theorem Rq.frz {w : World} {g : Nat} {n : Bool} {v : Value} {e : Int} {m : Bool} {u : Value} {f : Int} (h : Rq w g n v e m u f) :
    w.frozen? ⟨g, 0, none⟩ = false ∧ w.frozen? ⟨g, 1, none⟩ = false ∧ w.frozen? ⟨g, 2, none⟩ = false ∧ w.frozen? ⟨g, 3, none⟩ = false ∧ w.frozen? ⟨g, 4, none⟩ = false ∧ w.frozen? ⟨g, 5, none⟩ = false := by
  unfold Rq at h
  simp [World.frozen?, h]
abbrev st6 (w : World) (g : Nat) (a b c d e f : Value) : World := (((((w.setCell ⟨g, 0, none⟩ a).setCell ⟨g, 1, none⟩ b).setCell ⟨g, 2, none⟩ c).setCell ⟨g, 3, none⟩ d).setCell ⟨g, 4, none⟩ e).setCell ⟨g, 5, none⟩ f
theorem st6_but (g : Nat) (w : World) (a b c d e f : Value) : But g w (st6 w g a b c d e f) := ((((((But.refl g w).set _ _).set _ _).set _ _).set _ _).set _ _).set _ _
theorem st6_size (w : World) (g : Nat) (a b c d e f : Value) : (st6 w g a b c d e f).heap.size = w.heap.size := by simp [st6, World.setCell]
theorem Rq.set {w : World} {g : Nat} {n : Bool} {v : Value} {e : Int} {m : Bool} {u : Value} {f : Int} (h : Rq w g n v e m u f) (n' : Bool) (v' : Value) (e' : Int) (m' : Bool) (u' : Value) (f' : Int) :
    Rq (st6 w g (.bool n') v' (.int .i64 e') (.bool m') u' (.int .i64 f')) g n' v' e' m' u' f' := by
  unfold Rq at h ⊢
  simp [st6, World.setCell, Array.getElem?_modify, h]
theorem Rq.but {w w' : World} {g g' : Nat} {n : Bool} {v : Value} {e : Int} {m : Bool} {u : Value} {f : Int} (h : Rq w g n v e m u f) (hb : But g' w w') (hg : g ≠ g') : Rq w' g n v e m u f := by
  unfold Rq; rw [hb.block g h.lt hg]; exact h
theorem Fin.st6 {lo m : Nat} {w0 w : World} {v : Value} {X : Nat} (H : Fin lo m w0 w v X) (g : Nat) (a b c d e f : Value) (h1 : lo ≤ g) (h2 : g < m) : Fin lo m w0 (st6 w g a b c d e f) v X :=
  (((((H.set g 0 a h1 h2).set g 1 b h1 h2).set g 2 c h1 h2).set g 3 d h1 h2).set g 4 e h1 h2).set g 5 f h1 h2

theorem Nt.off {lo : Nat} {w w' : World} {v : Value} {X g : Nat} (h : Nt lo w v X) (hb : But g w w') (hg : v.ownBlock ≠ Option.some g) : Nt lo w' v X := by
  refine ⟨h.1, ?_⟩
  rcases h.2 with hn | ⟨g', cap, cur, rfl, hlo, hg', rest⟩
  · exact .inl hn
  · refine .inr ⟨g', cap, cur, rfl, hlo, ?_, rest⟩
    rw [hb.block g' (Array.getElem?_eq_some_iff.1 hg').1 (by intro e; subst e; exact hg (by simp [Value.ownBlock]))]; exact hg'
theorem Nt.notin {lo : Nat} {w : World} {v : Value} {X g T : Nat} {C : Array Value} {fz : Nat × Nat} (h : Nt lo w v X) (hT : T ≠ 23) (hg : w.heap[g]? = Option.some (.cells C T fz)) : v.ownBlock ≠ Option.some g := by
  intro e
  rcases h.2 with ⟨rfl, _⟩ | ⟨g', cap, cur, rfl, _, h2, _⟩
  · simp [Value.ownBlock] at e
  · simp [Value.ownBlock] at e
    subst e
    rw [hg] at h2
    simp at h2
    exact hT h2.2.1
theorem Nt.st3k {lo : Nat} {w : World} {v : Value} {X g T : Nat} {x y z : Value} (h : Nt lo w v X) (D : Tk w g T x y z) (hT : T ≠ 23) (a b c : Value) : Nt lo (st3 w g a b c) v X := h.off (set3_but g w a b c) (h.notin hT D)
theorem Nt.st6k {lo : Nat} {w : World} {v : Value} {X g : Nat} {n : Bool} {p : Value} {e : Int} {m : Bool} {u : Value} {f : Int} (h : Nt lo w v X) (D : Rq w g n p e m u f) (a b c d q r : Value) : Nt lo (st6 w g a b c d q r) v X := h.off (st6_but g w a b c d q r) (h.notin (by decide) D)
theorem below_st3 {B g : Nat} {a w : World} (h : Below B a w) (hB : B ≤ w.heap.size) (hg : B ≤ g) (x y z : Value) : Below B a (st3 w g x y z) := But.below h (set3_but g w x y z) hB hg
theorem below_st6 {B g : Nat} {a w : World} (h : Below B a w) (hB : B ≤ w.heap.size) (hg : B ≤ g) (x y z p q r : Value) : Below B a (st6 w g x y z p q r) := But.below h (st6_but g w x y z p q r) hB hg

def Ap (v u : Value) : Prop := ∀ g, v.ownBlock = some g → u.ownBlock ≠ some g
theorem Nt.blk {lo : Nat} {w : World} {v : Value} {X g : Nat} (h : Nt lo w v X) (hg : v.ownBlock = Option.some g) : lo ≤ g ∧ g < w.heap.size := by
  rcases h.2 with ⟨rfl, _⟩ | ⟨g', cap, cur, rfl, h1, h2, _⟩
  · simp [Value.ownBlock] at hg
  · simp [Value.ownBlock] at hg
    subst hg
    exact ⟨h1, (Array.getElem?_eq_some_iff.1 h2).1⟩
theorem Nt.ap {lo : Nat} {w w' : World} {v u : Value} {X Y : Nat} (h : Nt lo w v X) (k : Nt w.heap.size w' u Y) : Ap v u := by
  intro g hg hu
  have := (h.blk hg).2
  have := (k.blk hu).1
  omega
theorem Ap.nil (u : Value) (l c : Nat) : Ap (.slice none l c) u := by intro g hg; simp [Value.ownBlock] at hg

def RAns (lo : Nat) (w : World) (r : Ending) (o p : Option (Bool × Nat × Int)) (er : Int) : Prop :=
  ∃ v u, r = .returned (.tuple #[.agg #[.bool (dN o), v, .int .i64 (dE o), .bool (dN p), u, .int .i64 (dE p)], .int .i64 er]) ∧ Nt lo w v (dX o) ∧ Nt lo w u (dX p) ∧ Ap v u
theorem ws0 : (ws 0).length = 0 := by rw [ws_zero]; rfl
end Go.Proofs.YtdimlelcgapobaaGreatDoor

/- root's divided, halved. -/
namespace Go.Proofs.YtdimlelcgapobaaGreatDoor
open Go.RowKit
set_option linter.unusedVariables false
set_option maxRecDepth 20000
set_option linter.unusedSimpArgs false

theorem divided_res (W : World) (g : Nat) (v : Value) (x : Int) (t : Bool) (tmps : Array Value) (ht : tmps[4]?.getD undef = .pointer (some ⟨g, 0, none⟩)) (D : Tk W g 102 v (.int .i64 x) (.bool t)) :
    (results Tryz.f78 tmps).run Tryz.prog W = .ok (.agg #[v, .int .i64 x, .bool t]) W := by
  obtain ⟨x0, x1, x2, _, _, _⟩ := D.facts
  simp [results, Tryz.results78, ht, go_sem, x0, x1, x2]

theorem div_begin (w : World) (n : Bool) (v : Value) (e : Int) (m : Bool) (u : Value) (f : Int) (W : World) (hW : W = (w.alloc (.cells #[.bool n, v, .int .i64 e, .bool m, u, .int .i64 f] 30)).alloc (.cells #[.slice none 0 0, .int .i64 0, .bool false] 102)) :
    Below w.heap.size w W ∧ W.heap.size = w.heap.size + 2 ∧ Rq W w.heap.size n v e m u f ∧ Tk W (w.heap.size + 1) 102 (.slice none 0 0) (.int .i64 0) (.bool false) := by
  rw [hW]
  refine ⟨(below_alloc w _).alloc (by simp) _, by simp, (Rq.new _ _ _ _ _ _ _).alloc _, ?_⟩
  have := Tk.new (w.alloc (.cells #[.bool n, v, .int .i64 e, .bool m, u, .int .i64 f] 30)) 102 (.slice none 0 0) (.int .i64 0) (.bool false)
  simpa using this

set_option maxHeartbeats 4000000 in
theorem divided_pos {w : World} {a b : Option Addr} {ca cb : Nat} (n m : Bool) (X Y : Nat) (e f : Int) (size lX lY lH cut H lev W0 Lf WH : Nat) (t bb z x y1 y2 : Int) (tt : Bool)
    (AX : Arg w a (ws X).length ca (ws X)) (AY : Arg w b (ws Y).length cb (ws Y))
    (he0 : -1048576 ≤ e) (he1 : e ≤ 1048576) (hf0 : -1048576 ≤ f) (hf1 : f ≤ 1048576) (hs : size ≤ 1000) (hlY : bl Y = lY) (hlX : bl X = lX) (hlH : bl H = lH) (bX : lX ≤ 262144) (bY : lY ≤ 262144) (bH : lH ≤ 262144)
    (ht : (lY : Int) + (size : Int) - 262144 = t) (hcut : max t 0 = (cut : Int)) (bcut : cut ≤ 2000)
    (e1 : shiftS Y (-(cut : Int)) = (H, 0)) (hbb : (lH : Int) + (size : Int) - (lX : Int) = bb) (e2 : shiftS X bb = (lev, 0)) (e3 : divS lev H = (W0, Lf, 0))
    (HL : Hid (∀ (u : World) (p q r s : Option Addr) (cp cq cr cs : Nat), Arg u p (ws W0).length cp (ws W0) → Arg u q (ws Lf).length cq (ws Lf) → Arg u r (ws Y).length cr (ws Y) → Arg u s (ws H).length cs (ws H) → Calls Tryz.prog 112 #[.slice p (ws W0).length cp, .slice q (ws Lf).length cq, .slice r (ws Y).length cr, .slice s (ws H).length cs, .int .i64 (cut : Nat)] u fun r w' => r = .returned (.int .i64 z) ∧ Below u.heap.size u w'))
    (hz : decide (z < 0) = false)
    (h1 : e - f = y1) (h2 : y1 - bb = y2) (h3 : y2 - (cut : Int) = x) (htt : (decide (z = 0) && decide (0 ≤ bb)) = tt)
    (l1 : (ws H).length ≤ 8192) (l2 : (ws lev).length ≤ 8192) (l3 : (ws W0).length ≤ 8192) (l4 : (ws Lf).length ≤ 8192) :
    Calls Tryz.prog 78 #[.agg #[.bool n, .slice a (ws X).length ca, .int .i64 e, .bool m, .slice b (ws Y).length cb, .int .i64 f], .int .i64 (size : Nat)] w fun r w' => (∃ v, r = .returned (.agg #[v, .int .i64 x, .bool tt]) ∧ Nt w.heap.size w' v W0) ∧ Below w.heap.size w w' := by
  obtain ⟨W1, hW1⟩ : ∃ W, W = (w.alloc (.cells #[.bool n, .slice a (ws X).length ca, .int .i64 e, .bool m, .slice b (ws Y).length cb, .int .i64 f] 30)).alloc (.cells #[.slice none 0 0, .int .i64 0, .bool false] 102) := ⟨_, rfl⟩
  obtain ⟨hB, hz1, RQ, SK⟩ := div_begin w n _ e m _ f W1 hW1
  have e1' : shiftS (val (ws Y)) (-(cut : Int)) = (H, 0) := by rw [val_ws]; exact e1
  have e2' : shiftS (val (ws X)) bb = (lev, 0) := by rw [val_ws]; exact e2
  have e3' : divS (val (ws lev)) (val (ws H)) = (W0, Lf, 0) := by rw [val_ws, val_ws]; exact e3
  have lY' : bl (val (ws Y)) = lY := by rw [val_ws]; exact hlY
  have lX' : bl (val (ws X)) = lX := by rw [val_ws]; exact hlX
  have lH' : bl (val (ws H)) = lH := by rw [val_ws]; exact hlH
  have E := (Aside.intro (And.intro e1' (And.intro e2' (And.intro e3' (And.intro lY' (And.intro lX' lH'))))))
  have SZ := (Aside.intro (And.intro hz1 hB))
  have hs2 : w.heap.size + 2 ≤ W1.heap.size := by omega
  have hbel := hB
  have S0 := (Aside.intro (And.intro hbel (And.intro (AX.below hB) (And.intro (AY.below hB) (And.intro RQ SK)))))
  clear hbel
  clear e1 e2 e3 e1' e2' e3' lY' lX' lH' hlY hlX hlH AX AY hB RQ SK hz1
  go_enter Tryz.func78, Tryz.ntmps78
  go_upto_region 1 with fail
  rw [← hW1]
  clear hW1
  obtain ⟨x0, x1, x2, x3, x4, x5⟩ := S0.out.2.2.2.1.facts
  go_quiet (fail)
  clear x0 x1 x2 x3 x4 x5
  generalize hV : World.drewN W1 _ = V1
  have hb : Below W1.heap.size W1 V1 := by rw [← hV]; exact Below.drewN' (Below.refl _ _) _
  clear hV
  obtain ⟨bel, AX, AY, RQ, SK⟩ := S0.out
  have hbn := bel.trans (hb.mono bel.size)
  have S1 := Aside.intro (And.intro hbn (And.intro (AX.below hb) (And.intro (AY.below hb) (And.intro (RQ.below hb) (SK.below hb)))))
  clear bel AX AY RQ SK
  clear hb hbn S0
  obtain ⟨bel, AX, AY, RQ, SK⟩ := S1.out
  have HC := hid (Len_arg AY E.out.2.2.2.1)
  clear bel AX AY RQ SK
  go_wp2_with fail
  refine (Calls.mono HC.out) ?_
  rintro r u2 ⟨rfl, hb⟩
  clear HC
  obtain ⟨bel, AX, AY, RQ, SK⟩ := S1.out
  have hbn := bel.trans (hb.mono bel.size)
  have S2 := Aside.intro (And.intro hbn (And.intro (AX.below hb) (And.intro (AY.below hb) (And.intro (RQ.below hb) (SK.below hb)))))
  clear bel AX AY RQ SK
  clear hb hbn S1
  obtain ⟨bel, AX, AY, RQ, SK⟩ := S2.out
  have HC := hid (Shift_arg (-(cut : Int)) AY E.out.1 (by omega) (by omega))
  clear bel AX AY RQ SK
  go_wp2_with fail
  refine (Calls.mono HC.out) ?_
  rintro r u3 ⟨v, rfl, hN, hb⟩
  obtain ⟨a1, c1, rfl, _⟩ := hN.arg (by omega)
  clear HC
  obtain ⟨bel, AX, AY, RQ, SK⟩ := S2.out
  have hbn := bel.trans (hb.mono bel.size)
  have S3 := Aside.intro (And.intro hbn (And.intro (AX.below hb) (And.intro (AY.below hb) (And.intro (RQ.below hb) (And.intro (SK.below hb) (hN.mono bel.size))))))
  clear bel AX AY RQ SK
  clear hb hbn S2
  clear hN
  obtain ⟨bel, AX, AY, RQ, SK, NH⟩ := S3.out
  have HC := hid (Len_arg (NH.arg' (by omega)).2 E.out.2.2.2.2.2)
  clear bel AX AY RQ SK NH
  go_wp2_with fail
  refine (Calls.mono HC.out) ?_
  rintro r u4 ⟨rfl, hb⟩
  clear HC
  obtain ⟨bel, AX, AY, RQ, SK, NH⟩ := S3.out
  have hbn := bel.trans (hb.mono bel.size)
  have S4 := Aside.intro (And.intro hbn (And.intro (AX.below hb) (And.intro (AY.below hb) (And.intro (RQ.below hb) (And.intro (SK.below hb) (NH.below hb))))))
  clear bel AX AY RQ SK NH
  clear hb hbn S3
  obtain ⟨bel, AX, AY, RQ, SK, NH⟩ := S4.out
  have HC := hid (Len_arg AX E.out.2.2.2.2.1)
  clear bel AX AY RQ SK NH
  go_wp2_with fail
  refine (Calls.mono HC.out) ?_
  rintro r u5 ⟨rfl, hb⟩
  clear HC
  obtain ⟨bel, AX, AY, RQ, SK, NH⟩ := S4.out
  have hbn := bel.trans (hb.mono bel.size)
  have S5 := Aside.intro (And.intro hbn (And.intro (AX.below hb) (And.intro (AY.below hb) (And.intro (RQ.below hb) (And.intro (SK.below hb) (NH.below hb))))))
  clear bel AX AY RQ SK NH
  clear hb hbn S4
  obtain ⟨bel, AX, AY, RQ, SK, NH⟩ := S5.out
  have HC := hid (Shift_arg bb AX E.out.2.1 (by omega) (by omega))
  clear bel AX AY RQ SK NH
  go_wp2_with fail
  refine (Calls.mono HC.out) ?_
  rintro r u6 ⟨v, rfl, hN, hb⟩
  obtain ⟨a2, c2, rfl, _⟩ := hN.arg (by omega)
  clear HC
  obtain ⟨bel, AX, AY, RQ, SK, NH⟩ := S5.out
  have hbn := bel.trans (hb.mono bel.size)
  have S6 := Aside.intro (And.intro hbn (And.intro (AX.below hb) (And.intro (AY.below hb) (And.intro (RQ.below hb) (And.intro (SK.below hb) (And.intro (NH.below hb) (hN.mono bel.size)))))))
  clear bel AX AY RQ SK NH
  clear hb hbn S5
  clear hN
  obtain ⟨bel, AX, AY, RQ, SK, NH, NV⟩ := S6.out
  have HC := hid (Div_arg (NV.arg' (by omega)).2 (NH.arg' (by omega)).2 E.out.2.2.1)
  clear bel AX AY RQ SK NH NV
  go_wp2_with fail
  refine (Calls.mono HC.out) ?_
  rintro r u7 ⟨v, v2, rfl, hN, hM, hb⟩
  obtain ⟨a3, c3, rfl, _⟩ := hN.arg (by omega)
  obtain ⟨a4, c4, rfl, _⟩ := hM.arg (by omega)
  clear HC
  obtain ⟨bel, AX, AY, RQ, SK, NH, NV⟩ := S6.out
  have hbn := bel.trans (hb.mono bel.size)
  have S7 := Aside.intro (And.intro hbn (And.intro (AX.below hb) (And.intro (AY.below hb) (And.intro (RQ.below hb) (And.intro (SK.below hb) (And.intro (NH.below hb) (And.intro (hN.mono bel.size) (hM.mono bel.size))))))))
  clear bel AX AY RQ SK NH NV
  clear hb hbn S6
  clear hN hM
  obtain ⟨bel, AX, AY, RQ, SK, NH, NW, NL⟩ := S7.out
  have HC := hid (HL.out u7 _ _ _ _ _ _ _ _ (NW.arg' (by omega)).2 (NL.arg' (by omega)).2 AY (NH.arg' (by omega)).2)
  clear bel AX AY RQ SK NH NW NL
  go_wp2_with fail
  refine (Calls.mono HC.out) ?_
  rintro r u8 ⟨rfl, hb⟩
  clear HC
  obtain ⟨bel, AX, AY, RQ, SK, NH, NW, NL⟩ := S7.out
  have hbn := bel.trans (hb.mono bel.size)
  have S8 := Aside.intro (And.intro hbn (And.intro (AX.below hb) (And.intro (AY.below hb) (And.intro (RQ.below hb) (And.intro (SK.below hb) (And.intro (NH.below hb) (And.intro (NW.below hb) (NL.below hb))))))))
  clear bel AX AY RQ SK NH NW NL
  clear hb hbn S7
  obtain ⟨bel, AX, AY, RQ, SK, NH, NW, NL⟩ := S8.out
  have hlast := Aside.intro (And.intro bel (And.intro NW SK))
  obtain ⟨x0, x1, x2, x3, x4, x5⟩ := RQ.facts
  obtain ⟨s0, s1, s2, sf0, sf1, sf2⟩ := SK.facts
  have hsz := Aside.intro (SK.lt)
  clear bel AX AY RQ SK NH NW NL
  clear S8 E HL
  have htA := Aside.intro htt
  clear htt
  go_wp2
  all_goals (
    obtain ⟨bel, NZ, SK⟩ := hlast.out
    have hsz := bel.size
    refine bodyPost_ret (divided_res _ (w.heap.size + 1) (.slice a3 (ws W0).length c3) x _ _ rfl (SK.set _ _ _)) rfl ⟨⟨.slice a3 (ws W0).length c3, ?_, NZ.st3k SK (by decide) _ _ _⟩, below_st3 bel hsz (by omega) _ _ _⟩
    rw [← htA.out]
    first | rfl | simp [*])

set_option maxHeartbeats 4000000 in
theorem divided_neg {w : World} {a b : Option Addr} {ca cb : Nat} (n m : Bool) (X Y : Nat) (e f : Int) (size lX lY lH cut H lev W0 Lf WH : Nat) (t bb z x y1 y2 : Int) (tt : Bool)
    (AX : Arg w a (ws X).length ca (ws X)) (AY : Arg w b (ws Y).length cb (ws Y))
    (he0 : -1048576 ≤ e) (he1 : e ≤ 1048576) (hf0 : -1048576 ≤ f) (hf1 : f ≤ 1048576) (hs : size ≤ 1000) (hlY : bl Y = lY) (hlX : bl X = lX) (hlH : bl H = lH) (bX : lX ≤ 262144) (bY : lY ≤ 262144) (bH : lH ≤ 262144)
    (ht : (lY : Int) + (size : Int) - 262144 = t) (hcut : max t 0 = (cut : Int)) (bcut : cut ≤ 2000)
    (e1 : shiftS Y (-(cut : Int)) = (H, 0)) (hbb : (lH : Int) + (size : Int) - (lX : Int) = bb) (e2 : shiftS X bb = (lev, 0)) (e3 : divS lev H = (W0, Lf, 0))
    (HL : Hid (∀ (u : World) (p q r s : Option Addr) (cp cq cr cs : Nat), Arg u p (ws W0).length cp (ws W0) → Arg u q (ws Lf).length cq (ws Lf) → Arg u r (ws Y).length cr (ws Y) → Arg u s (ws H).length cs (ws H) → Calls Tryz.prog 112 #[.slice p (ws W0).length cp, .slice q (ws Lf).length cq, .slice r (ws Y).length cr, .slice s (ws H).length cs, .int .i64 (cut : Nat)] u fun r w' => r = .returned (.int .i64 z) ∧ Below u.heap.size u w'))
    (hz : decide (z < 0) = true) (e4 : subS W0 1 = (WH, 0))
    (h1 : e - f = y1) (h2 : y1 - bb = y2) (h3 : y2 - (cut : Int) = x) (htt : (decide (z = 0) && decide (0 ≤ bb)) = tt)
    (l1 : (ws H).length ≤ 8192) (l2 : (ws lev).length ≤ 8192) (l3 : (ws W0).length ≤ 8192) (l4 : (ws Lf).length ≤ 8192) (l5 : (ws WH).length ≤ 8192) :
    Calls Tryz.prog 78 #[.agg #[.bool n, .slice a (ws X).length ca, .int .i64 e, .bool m, .slice b (ws Y).length cb, .int .i64 f], .int .i64 (size : Nat)] w fun r w' => (∃ v, r = .returned (.agg #[v, .int .i64 x, .bool tt]) ∧ Nt w.heap.size w' v WH) ∧ Below w.heap.size w w' := by
  obtain ⟨W1, hW1⟩ : ∃ W, W = (w.alloc (.cells #[.bool n, .slice a (ws X).length ca, .int .i64 e, .bool m, .slice b (ws Y).length cb, .int .i64 f] 30)).alloc (.cells #[.slice none 0 0, .int .i64 0, .bool false] 102) := ⟨_, rfl⟩
  obtain ⟨hB, hz1, RQ, SK⟩ := div_begin w n _ e m _ f W1 hW1
  have e1' : shiftS (val (ws Y)) (-(cut : Int)) = (H, 0) := by rw [val_ws]; exact e1
  have e2' : shiftS (val (ws X)) bb = (lev, 0) := by rw [val_ws]; exact e2
  have e3' : divS (val (ws lev)) (val (ws H)) = (W0, Lf, 0) := by rw [val_ws, val_ws]; exact e3
  have lY' : bl (val (ws Y)) = lY := by rw [val_ws]; exact hlY
  have lX' : bl (val (ws X)) = lX := by rw [val_ws]; exact hlX
  have lH' : bl (val (ws H)) = lH := by rw [val_ws]; exact hlH
  have E := (Aside.intro (And.intro e1' (And.intro e2' (And.intro e3' (And.intro lY' (And.intro lX' lH'))))))
  have SZ := (Aside.intro (And.intro hz1 hB))
  have hs2 : w.heap.size + 2 ≤ W1.heap.size := by omega
  have e4' : subS (val (ws W0)) (val (ws 1)) = (WH, 0) := by rw [val_ws, val_ws]; exact e4
  have E4 := Aside.intro e4'
  have l1s : (ws 1).length ≤ 8192 := by rw [ws_one]; simp
  clear e4 e4'
  have hbel := hB
  have S0 := (Aside.intro (And.intro hbel (And.intro (AX.below hB) (And.intro (AY.below hB) (And.intro RQ SK)))))
  clear hbel
  clear e1 e2 e3 e1' e2' e3' lY' lX' lH' hlY hlX hlH AX AY hB RQ SK hz1
  go_enter Tryz.func78, Tryz.ntmps78
  go_upto_region 1 with fail
  rw [← hW1]
  clear hW1
  obtain ⟨x0, x1, x2, x3, x4, x5⟩ := S0.out.2.2.2.1.facts
  go_quiet (fail)
  clear x0 x1 x2 x3 x4 x5
  generalize hV : World.drewN W1 _ = V1
  have hb : Below W1.heap.size W1 V1 := by rw [← hV]; exact Below.drewN' (Below.refl _ _) _
  clear hV
  obtain ⟨bel, AX, AY, RQ, SK⟩ := S0.out
  have hbn := bel.trans (hb.mono bel.size)
  have S1 := Aside.intro (And.intro hbn (And.intro (AX.below hb) (And.intro (AY.below hb) (And.intro (RQ.below hb) (SK.below hb)))))
  clear bel AX AY RQ SK
  clear hb hbn S0
  obtain ⟨bel, AX, AY, RQ, SK⟩ := S1.out
  have HC := hid (Len_arg AY E.out.2.2.2.1)
  clear bel AX AY RQ SK
  go_wp2_with fail
  refine (Calls.mono HC.out) ?_
  rintro r u2 ⟨rfl, hb⟩
  clear HC
  obtain ⟨bel, AX, AY, RQ, SK⟩ := S1.out
  have hbn := bel.trans (hb.mono bel.size)
  have S2 := Aside.intro (And.intro hbn (And.intro (AX.below hb) (And.intro (AY.below hb) (And.intro (RQ.below hb) (SK.below hb)))))
  clear bel AX AY RQ SK
  clear hb hbn S1
  obtain ⟨bel, AX, AY, RQ, SK⟩ := S2.out
  have HC := hid (Shift_arg (-(cut : Int)) AY E.out.1 (by omega) (by omega))
  clear bel AX AY RQ SK
  go_wp2_with fail
  refine (Calls.mono HC.out) ?_
  rintro r u3 ⟨v, rfl, hN, hb⟩
  obtain ⟨a1, c1, rfl, _⟩ := hN.arg (by omega)
  clear HC
  obtain ⟨bel, AX, AY, RQ, SK⟩ := S2.out
  have hbn := bel.trans (hb.mono bel.size)
  have S3 := Aside.intro (And.intro hbn (And.intro (AX.below hb) (And.intro (AY.below hb) (And.intro (RQ.below hb) (And.intro (SK.below hb) (hN.mono bel.size))))))
  clear bel AX AY RQ SK
  clear hb hbn S2
  clear hN
  obtain ⟨bel, AX, AY, RQ, SK, NH⟩ := S3.out
  have HC := hid (Len_arg (NH.arg' (by omega)).2 E.out.2.2.2.2.2)
  clear bel AX AY RQ SK NH
  go_wp2_with fail
  refine (Calls.mono HC.out) ?_
  rintro r u4 ⟨rfl, hb⟩
  clear HC
  obtain ⟨bel, AX, AY, RQ, SK, NH⟩ := S3.out
  have hbn := bel.trans (hb.mono bel.size)
  have S4 := Aside.intro (And.intro hbn (And.intro (AX.below hb) (And.intro (AY.below hb) (And.intro (RQ.below hb) (And.intro (SK.below hb) (NH.below hb))))))
  clear bel AX AY RQ SK NH
  clear hb hbn S3
  obtain ⟨bel, AX, AY, RQ, SK, NH⟩ := S4.out
  have HC := hid (Len_arg AX E.out.2.2.2.2.1)
  clear bel AX AY RQ SK NH
  go_wp2_with fail
  refine (Calls.mono HC.out) ?_
  rintro r u5 ⟨rfl, hb⟩
  clear HC
  obtain ⟨bel, AX, AY, RQ, SK, NH⟩ := S4.out
  have hbn := bel.trans (hb.mono bel.size)
  have S5 := Aside.intro (And.intro hbn (And.intro (AX.below hb) (And.intro (AY.below hb) (And.intro (RQ.below hb) (And.intro (SK.below hb) (NH.below hb))))))
  clear bel AX AY RQ SK NH
  clear hb hbn S4
  obtain ⟨bel, AX, AY, RQ, SK, NH⟩ := S5.out
  have HC := hid (Shift_arg bb AX E.out.2.1 (by omega) (by omega))
  clear bel AX AY RQ SK NH
  go_wp2_with fail
  refine (Calls.mono HC.out) ?_
  rintro r u6 ⟨v, rfl, hN, hb⟩
  obtain ⟨a2, c2, rfl, _⟩ := hN.arg (by omega)
  clear HC
  obtain ⟨bel, AX, AY, RQ, SK, NH⟩ := S5.out
  have hbn := bel.trans (hb.mono bel.size)
  have S6 := Aside.intro (And.intro hbn (And.intro (AX.below hb) (And.intro (AY.below hb) (And.intro (RQ.below hb) (And.intro (SK.below hb) (And.intro (NH.below hb) (hN.mono bel.size)))))))
  clear bel AX AY RQ SK NH
  clear hb hbn S5
  clear hN
  obtain ⟨bel, AX, AY, RQ, SK, NH, NV⟩ := S6.out
  have HC := hid (Div_arg (NV.arg' (by omega)).2 (NH.arg' (by omega)).2 E.out.2.2.1)
  clear bel AX AY RQ SK NH NV
  go_wp2_with fail
  refine (Calls.mono HC.out) ?_
  rintro r u7 ⟨v, v2, rfl, hN, hM, hb⟩
  obtain ⟨a3, c3, rfl, _⟩ := hN.arg (by omega)
  obtain ⟨a4, c4, rfl, _⟩ := hM.arg (by omega)
  clear HC
  obtain ⟨bel, AX, AY, RQ, SK, NH, NV⟩ := S6.out
  have hbn := bel.trans (hb.mono bel.size)
  have S7 := Aside.intro (And.intro hbn (And.intro (AX.below hb) (And.intro (AY.below hb) (And.intro (RQ.below hb) (And.intro (SK.below hb) (And.intro (NH.below hb) (And.intro (hN.mono bel.size) (hM.mono bel.size))))))))
  clear bel AX AY RQ SK NH NV
  clear hb hbn S6
  clear hN hM
  obtain ⟨bel, AX, AY, RQ, SK, NH, NW, NL⟩ := S7.out
  have HC := hid (HL.out u7 _ _ _ _ _ _ _ _ (NW.arg' (by omega)).2 (NL.arg' (by omega)).2 AY (NH.arg' (by omega)).2)
  clear bel AX AY RQ SK NH NW NL
  go_wp2_with fail
  refine (Calls.mono HC.out) ?_
  rintro r u8 ⟨rfl, hb⟩
  clear HC
  obtain ⟨bel, AX, AY, RQ, SK, NH, NW, NL⟩ := S7.out
  have hbn := bel.trans (hb.mono bel.size)
  have S8 := Aside.intro (And.intro hbn (And.intro (AX.below hb) (And.intro (AY.below hb) (And.intro (RQ.below hb) (And.intro (SK.below hb) (And.intro (NH.below hb) (And.intro (NW.below hb) (NL.below hb))))))))
  clear bel AX AY RQ SK NH NW NL
  clear hb hbn S7
  obtain ⟨bel, AX, AY, RQ, SK, NH, NW, NL⟩ := S8.out
  have HC := hid (of_any 1 u8 (by omega))
  clear bel AX AY RQ SK NH NW NL
  go_wp2_with fail
  refine (Calls.mono HC.out) ?_
  rintro r u9 ⟨v, rfl, hN, hb⟩
  obtain ⟨a5, c5, rfl, _⟩ := hN.arg (by omega)
  clear HC
  obtain ⟨bel, AX, AY, RQ, SK, NH, NW, NL⟩ := S8.out
  have hbn := bel.trans (hb.mono bel.size)
  have S9 := Aside.intro (And.intro hbn (And.intro (AX.below hb) (And.intro (AY.below hb) (And.intro (RQ.below hb) (And.intro (SK.below hb) (And.intro (NH.below hb) (And.intro (NW.below hb) (And.intro (NL.below hb) (hN.mono bel.size)))))))))
  clear bel AX AY RQ SK NH NW NL
  clear hb hbn S8
  clear hN
  obtain ⟨bel, AX, AY, RQ, SK, NH, NW, NL, NO⟩ := S9.out
  have HC := hid (Sub_arg (NW.arg' (by omega)).2 (NO.arg' (by omega)).2 E4.out)
  clear bel AX AY RQ SK NH NW NL NO
  go_wp2_with fail
  refine (Calls.mono HC.out) ?_
  rintro r u10 ⟨v, rfl, hN, hb⟩
  obtain ⟨a6, c6, rfl, _⟩ := hN.arg (by omega)
  clear HC
  obtain ⟨bel, AX, AY, RQ, SK, NH, NW, NL, NO⟩ := S9.out
  have hbn := bel.trans (hb.mono bel.size)
  have S10 := Aside.intro (And.intro hbn (And.intro (AX.below hb) (And.intro (AY.below hb) (And.intro (RQ.below hb) (And.intro (SK.below hb) (And.intro (NH.below hb) (And.intro (NW.below hb) (And.intro (NL.below hb) (And.intro (NO.below hb) (hN.mono bel.size))))))))))
  clear bel AX AY RQ SK NH NW NL NO
  clear hb hbn S9
  clear hN
  obtain ⟨bel, AX, AY, RQ, SK, NH, NW, NL, NO, NR⟩ := S10.out
  have hlast := Aside.intro (And.intro bel (And.intro NR SK))
  obtain ⟨x0, x1, x2, x3, x4, x5⟩ := RQ.facts
  obtain ⟨s0, s1, s2, sf0, sf1, sf2⟩ := SK.facts
  have hsz := Aside.intro (SK.lt)
  clear bel AX AY RQ SK NH NW NL NO NR
  clear S10 E HL
  have htA := Aside.intro htt
  clear htt
  go_wp2
  all_goals (
    obtain ⟨bel, NZ, SK⟩ := hlast.out
    have hsz := bel.size
    refine bodyPost_ret (divided_res _ (w.heap.size + 1) (.slice a6 (ws WH).length c6) x _ _ rfl (SK.set _ _ _)) rfl ⟨⟨.slice a6 (ws WH).length c6, ?_, NZ.st3k SK (by decide) _ _ _⟩, below_st3 bel hsz (by omega) _ _ _⟩
    rw [← htA.out]
    first | rfl | simp [*])

end Go.Proofs.YtdimlelcgapobaaGreatDoor

/- root's divided, whole; halved, inside. -/
namespace Go.Proofs.YtdimlelcgapobaaGreatDoor
open Go.RowKit
set_option linter.unusedVariables false
set_option maxRecDepth 20000
set_option linter.unusedSimpArgs false

theorem notLG11 {X : Nat} (h : bl X ≤ 262144) : ¬ LG X := fun k => by have := (LG_bl X).1 k; omega
theorem mulS_ok11 {X Y V : Nat} (h1 : ¬ LG X) (h2 : ¬ LG Y) (h3 : ¬ LG V) (e : X * Y = V) : mulS X Y = (V, 0) := by subst e; unfold mulS; rw [if_neg (by simp [h1, h2]), if_neg h3]
theorem len_bl8 {X : Nat} (h : bl X ≤ 262144) : (ws X).length ≤ 8192 := by have := notLG11 h; unfold LG at this; omega
theorem bl_lt_pow {X k : Nat} (h : X < 2 ^ k) : bl X ≤ k := by
  by_cases h0 : X = 0
  · subst h0; rw [bl_zero]; omega
  · have := (Nat.pow_lt_pow_iff_right (a := 2) (by decide)).1 (Nat.lt_of_le_of_lt (bl_ge X h0) h)
    have := bl_pos X h0
    omega
theorem bl_le_of {X Y : Nat} (h : X ≤ Y) (k : bl Y ≤ 262144) : bl X ≤ 262144 := by
  have := bl_lt_pow (Nat.lt_of_le_of_lt h (bl_lt Y)); omega
theorem cmpI_lt0 (x y : Nat) : decide (cmpI x y < 0) = decide (x < y) := by
  unfold cmpI
  by_cases h : x < y
  · simp [h]
  · by_cases h2 : y < x <;> simp [h, h2]
theorem cmpI_eq0 (x y : Nat) : decide (cmpI x y = 0) = decide (x = y) := by
  unfold cmpI
  by_cases h : x < y
  · have : x ≠ y := by omega
    simp [h, this]
  · by_cases h2 : y < x
    · have : x ≠ y := by omega
      simp [h, h2, this]
    · have : x = y := by omega
      simp [this]

theorem divided_any {w : World} {a b : Option Addr} {ca cb : Nat} (n m : Bool) (X Y : Nat) (e f : Int) (size : Nat)
    (AX : Arg w a (ws X).length ca (ws X)) (AY : Arg w b (ws Y).length cb (ws Y)) (hX : X = 0 ∨ X % 2 = 1) (hY : Y ≠ 0)
    (he0 : -1048576 ≤ e) (he1 : e ≤ 1048576) (hf0 : -1048576 ≤ f) (hf1 : f ≤ 1048576) (hs0 : 1 ≤ size) (hs : size ≤ 1000) (bX : bl X ≤ 262144) (bY : bl Y ≤ 262144) :
    Calls Tryz.prog 78 #[.agg #[.bool n, .slice a (ws X).length ca, .int .i64 e, .bool m, .slice b (ws Y).length cb, .int .i64 f], .int .i64 (size : Nat)] w fun r w' => (∃ v, r = .returned (.agg #[v, .int .i64 (e - f - byS X Y size - cutS Y size), .bool (atS X Y size)]) ∧ Nt w.heap.size w' v (whoS X Y size)) ∧ Below w.heap.size w w' := by
  have D := divS_facts X Y size hX hY hs0 hs bX bY
  have hYp := bl_pos Y hY
  have cutb : cutS Y size ≤ 1000 ∧ cutS Y size < bl Y := by unfold cutS; omega
  have bH : bl (higS Y size) ≤ 262144 := by have := D.blh; omega
  have hHc : bl (higS Y size) + size ≤ 262144 ∨ cutS Y size = 0 := by have := D.blh; unfold cutS at *; omega
  have hbyb : -262144 ≤ byS X Y size ∧ byS X Y size ≤ 264000 := by unfold byS; omega
  have bLev : bl (levS X Y size) ≤ 262144 := by
    have := bl_lt_pow D.lev
    have h2 : bl (higS Y size) + size ≤ 262144 := by have := D.blh; unfold cutS at this; omega
    omega
  have bW0 : bl (who0 X Y size) ≤ 262144 := by have := bl_lt_pow D.w0; omega
  have bLf : bl (lefS X Y size) ≤ 262144 := bl_le_of (Nat.le_of_lt D.lef) bH
  have e1 : shiftS Y (-((cutS Y size : Nat) : Int)) = (higS Y size, 0) := shiftS_dn (notLG11 bY) rfl
  have e2 : shiftS X (byS X Y size) = (levS X Y size, 0) := by
    by_cases hb : byS X Y size < 0
    · have := shiftS_dn (X := X) (k := (-byS X Y size).toNat) (V := levS X Y size) (notLG11 bX) (by unfold levS; rw [if_pos hb])
      rw [show -(((-byS X Y size).toNat : Nat) : Int) = byS X Y size by omega] at this
      exact this
    · have := shiftS_up (X := X) (k := (byS X Y size).toNat) (V := levS X Y size) (notLG11 bX) (by
        by_cases h0 : X = 0
        · exact .inl h0
        · right
          have h2 : bl (higS Y size) + size ≤ 262144 := by have := D.blh; unfold cutS at this; omega
          unfold byS at *; omega) (by unfold levS; rw [if_neg hb])
      rw [show (((byS X Y size).toNat : Nat) : Int) = byS X Y size by omega] at this
      exact this
  have e3 : divS (levS X Y size) (higS Y size) = (who0 X Y size, lefS X Y size, 0) := divS_ok (notLG11 bLev) (notLG11 bH) D.hig rfl rfl
  -- what cmpLow is asked
  have hYHb : higS Y size * 2 ^ cutS Y size ≤ Y := D.low'
  have bBk : bl (higS Y size * 2 ^ cutS Y size) ≤ 262144 := bl_le_of hYHb bY
  have bLo : bl (lowS Y size) ≤ 262144 := bl_le_of (Nat.sub_le _ _) bY
  have bTk : bl (takS X Y size) ≤ 262144 := by
    have h1 : takS X Y size < 2 ^ (size + 1 + cutS Y size) := by
      unfold takS
      rw [Nat.pow_add]
      exact Nat.mul_lt_mul'' D.w0 D.lowlt
    have := bl_lt_pow h1
    omega
  have bHs : bl (hasS X Y size) ≤ 262144 := by
    refine bl_le_of (Y := Y) (Nat.le_trans ?_ hYHb) bY
    exact Nat.mul_le_mul_right _ (Nat.le_of_lt D.lef)
  have c1 : shiftS (higS Y size) ((cutS Y size : Nat) : Int) = (higS Y size * 2 ^ cutS Y size, 0) := shiftS_up (notLG11 bH) (.inr (by have := D.blh; omega)) rfl
  have c2 : subS Y (higS Y size * 2 ^ cutS Y size) = (lowS Y size, 0) := subS_ok (notLG11 bY) (notLG11 bBk) (by unfold lowS; omega)
  have c3 : mulS (who0 X Y size) (lowS Y size) = (takS X Y size, 0) := mulS_ok11 (notLG11 bW0) (notLG11 bLo) (notLG11 bTk) rfl
  have c4 : shiftS (lefS X Y size) ((cutS Y size : Nat) : Int) = (hasS X Y size, 0) := shiftS_up (notLG11 bLf) (by
    by_cases h0 : lefS X Y size = 0
    · exact .inl h0
    · right
      have hlt : lefS X Y size ≤ higS Y size := Nat.le_of_lt D.lef
      have := bl_lt_pow (Nat.lt_of_le_of_lt hlt (bl_lt (higS Y size)))
      have := D.blh
      omega) rfl
  have HC : Hid (∀ (u : World) (p q r s : Option Addr) (cp cq cr cs : Nat), Arg u p (ws (who0 X Y size)).length cp (ws (who0 X Y size)) → Arg u q (ws (lefS X Y size)).length cq (ws (lefS X Y size)) → Arg u r (ws Y).length cr (ws Y) → Arg u s (ws (higS Y size)).length cs (ws (higS Y size)) → Calls Tryz.prog 112 #[.slice p (ws (who0 X Y size)).length cp, .slice q (ws (lefS X Y size)).length cq, .slice r (ws Y).length cr, .slice s (ws (higS Y size)).length cs, .int .i64 ((cutS Y size : Nat) : Int)] u fun r w' => r = .returned (.int .i64 (cmpI (hasS X Y size) (takS X Y size))) ∧ Below u.heap.size u w') :=
    fun u p q r s cp cq cr cs A1 A2 A3 A4 => cmpLow_any _ _ _ _ (cutS Y size) _ _ _ _ _ A1 A2 A3 A4 (by omega) c1 c2 c3 c4 rfl (len_bl8 bBk) (len_bl8 bLo) (len_bl8 bTk) (len_bl8 bHs)
  have htt : (decide (cmpI (hasS X Y size) (takS X Y size) = 0) && decide (0 ≤ byS X Y size)) = atS X Y size := by rw [cmpI_eq0]; rfl
  have hcut : max ((bl Y : Int) + (size : Int) - 262144) 0 = ((cutS Y size : Nat) : Int) := by unfold cutS; omega
  by_cases hlt : hasS X Y size < takS X Y size
  · have hz : decide (cmpI (hasS X Y size) (takS X Y size) < 0) = true := by rw [cmpI_lt0]; exact decide_eq_true hlt
    have e4 : subS (who0 X Y size) 1 = (whoS X Y size, 0) := by
      refine subS_ok (notLG11 bW0) (notLG11 (by decide)) ?_
      have := D.less hlt
      unfold whoS; rw [if_pos hlt]; omega
    exact divided_neg n m X Y e f size (bl X) (bl Y) (bl (higS Y size)) (cutS Y size) (higS Y size) (levS X Y size) (who0 X Y size) (lefS X Y size) (whoS X Y size) _ (byS X Y size) _ _ _ _ (atS X Y size) AX AY he0 he1 hf0 hf1 hs rfl rfl rfl bX bY bH rfl hcut (by omega) e1 rfl e2 e3 HC hz e4 rfl rfl rfl htt (len_bl8 bH) (len_bl8 bLev) (len_bl8 bW0) (len_bl8 bLf) (len_bl8 (bl_le_of (Y := who0 X Y size) (by unfold whoS; rw [if_pos hlt]; omega) bW0))
  · have hz : decide (cmpI (hasS X Y size) (takS X Y size) < 0) = false := by rw [cmpI_lt0]; exact decide_eq_false hlt
    have eW : whoS X Y size = who0 X Y size := by unfold whoS; rw [if_neg hlt]
    rw [eW]
    exact divided_pos n m X Y e f size (bl X) (bl Y) (bl (higS Y size)) (cutS Y size) (higS Y size) (levS X Y size) (who0 X Y size) (lefS X Y size) 0 _ (byS X Y size) _ _ _ _ (atS X Y size) AX AY he0 he1 hf0 hf1 hs rfl rfl rfl bX bY bH rfl hcut (by omega) e1 rfl e2 e3 HC hz rfl rfl rfl htt (len_bl8 bH) (len_bl8 bLev) (len_bl8 bW0) (len_bl8 bLf)

end Go.Proofs.YtdimlelcgapobaaGreatDoor

