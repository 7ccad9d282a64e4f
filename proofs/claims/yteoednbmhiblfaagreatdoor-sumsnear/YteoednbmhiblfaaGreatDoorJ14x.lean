/- The document's Plus, Minus, Times: whole. -/
import Derived.Test.YteoednbmhiblfaaGreatDoorJ10zx
import Derived.Test.YteoednbmhiblfaaGreatDoorM1x
import Derived.Test.YteoednbmhiblfaaGreatDoorS13x
import Derived.Test.YteoednbmhiblfaaGreatDoorM10x
import Derived.Test.YteoednbmhiblfaaGreatDoorH6x
import Derived.Test.YteoednbmhiblfaaGreatDoorD16x
import Derived.BigQuiet
import Derived.OwnWalk
import Derived.ArgAppend
import Derived.Maps.AppendAt
import Derived.WalkMore
import Derived.Deep.RegionHeld
namespace Go.Proofs.YteoednbmhiblfaaGreatDoor
open Go.RowKit J
set_option linter.unusedVariables false
set_option maxRecDepth 20000
set_option linter.unusedSimpArgs false

theorem arW_add (x y : Nat) : arW .add x y = (((Ieee.double.read x).sum (Ieee.double.read y)).map Ieee.double.write).getD oddW := rfl
theorem arW_sub (x y : Nat) : arW .sub x y = (((Ieee.double.read x).sum (Ieee.double.read y).opposite).map Ieee.double.write).getD oddW := rfl
theorem sPlus_any (x y : Nat) (hx : x < 18446744073709551616) (hy : y < 18446744073709551616) (w : World) :
    Calls Tryz.prog 42 #[.float .f64 x, .float .f64 y] w fun r w' => r = .returned (.float .f64 (arW .add x y)) ∧ Below w.heap.size w w' := by
  have P1 := fun u => rIsOdd_any x hx u
  have P2 := fun u => rIsOdd_any y hy u
  have P3 := fun u => rIsEndless_any x hx u
  have P4 := fun u => rIsEndless_any y hy u
  have P5 := fun u => rNegW_any x hx u
  have P6 := fun u => rNegW_any y hy u
  rcases kinds x hx with ⟨a1, a2, a3, a4⟩ | ⟨a1, a2, a3, a4⟩ | ⟨a1, a2, a4⟩
  · obtain ⟨s, t, hr⟩ := read_nanW x a4
    have e : arW .add x y = oddW := by rw [arW_add, hr]; rfl
    rw [e]
    rcases kinds y hy with ⟨b1, b2, b3, b4⟩ | ⟨b1, b2, b3, b4⟩ | ⟨b1, b2, b4⟩ <;> simp only [a1, a2, b1, b2] at P1 P2 P3 P4
    · exact rPlus_ttff x y w (hid P1) (hid P2) (hid P3) (hid P4)
    · exact rPlus_tfft x y w (hid P1) (hid P2) (hid P3) (hid P4)
    · exact rPlus_tfff x y w (hid P1) (hid P2) (hid P3) (hid P4)
  · have hr := read_infW x hx a4
    rcases kinds y hy with ⟨b1, b2, b3, b4⟩ | ⟨b1, b2, b3, b4⟩ | ⟨b1, b2, b4⟩ <;> simp only [a1, a2, b1, b2] at P1 P2 P3 P4
    · obtain ⟨s, t, hr2⟩ := read_nanW y b4
      have e : arW .add x y = oddW := by rw [arW_add, hr, hr2]; rfl
      rw [e]
      exact rPlus_fttf x y w (hid P1) (hid P2) (hid P3) (hid P4)
    · have hr2 := read_infW y hy b4
      have e : arW .add x y = if negW x = negW y then x else oddW := by
        rw [arW_add, hr, hr2]
        unfold Ieee.Datum.sum
        simp only
        split
        · rw [Option.map_some, write_infW, ← a4, ← wd_of x hx]; rfl
        · rfl
      rw [e]
      cases hn : negW x <;> cases hm : negW y <;> simp only [hn, hm] at P5 P6
      · rw [if_pos rfl]; exact rPlus_fftt_ff x y w (hid P1) (hid P2) (hid P3) (hid P4) (hid P5) (hid P6)
      · rw [if_neg (by simp)]; exact rPlus_fftt_ft x y w (hid P1) (hid P2) (hid P3) (hid P4) (hid P5) (hid P6)
      · rw [if_neg (by simp)]; exact rPlus_fftt_tf x y w (hid P1) (hid P2) (hid P3) (hid P4) (hid P5) (hid P6)
      · rw [if_pos rfl]; exact rPlus_fftt_tt x y w (hid P1) (hid P2) (hid P3) (hid P4) (hid P5) (hid P6)
    · obtain ⟨m, k, hr2, _⟩ := read_finW y hy b4
      have e : arW .add x y = x := by
        rw [arW_add, hr, hr2]
        show Ieee.double.write (.infinity (negW x)) = x
        rw [write_infW, ← a4, ← wd_of x hx]
      rw [e]
      exact rPlus_fftf x y w (hid P1) (hid P2) (hid P3) (hid P4)
  · rcases kinds y hy with ⟨b1, b2, b3, b4⟩ | ⟨b1, b2, b3, b4⟩ | ⟨b1, b2, b4⟩ <;> simp only [a1, a2, b1, b2] at P1 P2 P3 P4
    · obtain ⟨s, t, hr2⟩ := read_nanW y b4
      obtain ⟨m, k, hr, _⟩ := read_finW x hx a4
      have e : arW .add x y = oddW := by rw [arW_add, hr, hr2]; rfl
      rw [e]
      exact rPlus_ftff x y w (hid P1) (hid P2) (hid P3) (hid P4)
    · obtain ⟨m, k, hr, _⟩ := read_finW x hx a4
      have hr2 := read_infW y hy b4
      have e : arW .add x y = y := by
        rw [arW_add, hr, hr2]
        show Ieee.double.write (.infinity (negW y)) = y
        rw [write_infW, ← b4, ← wd_of y hy]
      rw [e]
      exact rPlus_ffft x y w (hid P1) (hid P2) (hid P3) (hid P4)
    · have ex := wd_of x hx
      have ey := wd_of y hy
      obtain ⟨nX, X, eX, o1, F1, _⟩ := of_fo (negW x) (magW x) a4
      obtain ⟨nY, Y, eY, o2, F2, _⟩ := of_fo (negW y) (magW y) b4
      have FA := F1.add F2 (by omega) (by omega) (by omega)
      obtain ⟨R, hR, hA⟩ := add_wd (negW x) (negW y) (magW x) (magW y) a4 b4
      rw [← ex, ← ey] at hA
      obtain ⟨T, hT⟩ : ∃ T, B.sg (negW x) (vK (magW x)) + B.sg (negW y) (vK (magW y)) = T := ⟨_, rfl⟩
      rw [← Int.add_mul, hT] at FA
      rw [hT] at hR hA
      obtain ⟨nS, S, eS, hS, _⟩ := FA.ex
      have HA := hid fun u a b c d A C => add_fm F1.frm.1 F2.frm.1 hS rfl u a b c d A C
      have HX := hid fun u => of_wd (negW x) (magW x) a4 o1 u
      have HY := hid fun u => of_wd (negW y) (magW y) b4 o2 u
      rw [hS] at FA
      rw [← ex] at HX
      rw [← ey] at HY
      have e : arW .add x y = wd64 (if T = 0 then negW x && negW y else decide (T < 0)) (min R 9218868437227405312) := by
        show (Ieee.double.add x y).getD oddW = _
        rw [hA]; rfl
      rw [e]
      by_cases h0 : T = 0
      · have hR0 : R = 0 := by
          have : NE 0 T.natAbs 1 := NEf.own (by decide) (by rw [h0, B.val_zero]; rfl)
          exact hR.one this (by decide)
        have hS0 : S = 0 := by
          have hv := FA.frm.2.1
          rw [h0, Int.zero_mul, Int.zero_mul] at hv
          unfold zv at hv
          simp only at hv
          rcases Int.mul_eq_zero.1 hv with h | h
          · unfold sg1 at h; cases nS <;> exact absurd h (by decide)
          · have h2 : S * 2 ^ (eS - -2097152).toNat = 0 := Int.ofNat_eq_zero.1 h
            rcases Nat.mul_eq_zero.1 h2 with h3 | h3
            · exact h3
            · have := Nat.two_pow_pos (eS - -2097152).toNat; omega
        rw [if_pos h0, hR0, Nat.zero_min]
        exact rPlus_zero x y _ (negW x) (negW y) nX nY nS X Y S eX eY eS w (frmLen F1.frm.1) (frmLen F2.frm.1) (frmLen FA.frm.1) (by rw [hS0, ws_zero]; rfl) (hid P1) (hid P2) (hid P3) (hid P4) HX HY HA (hid P5) (hid P6) (hid fun u => rsigned_any 0 (by decide) (negW x && negW y) u)
      · have hTU : T * (UU : Int) ≠ 0 := by
          intro h
          have := U_pos
          rcases Int.mul_eq_zero.1 h with h | h <;> omega
        obtain ⟨k1, k2, k3⟩ := round_fo FA hTU
        have hUp := U_pos
        have k4 := k3 R (by
          have := hR.scale UU U_pos
          rw [Nat.one_mul] at this
          rw [Int.natAbs_mul, Int.natAbs_natCast]; exact this)
        have k5 : decide (T * (UU : Int) < 0) = decide (T < 0) := by
          rw [decide_eq_decide]
          constructor
          · intro h; apply Int.lt_of_not_ge; intro h2; have := Int.mul_nonneg h2 (show (0 : Int) ≤ UU by omega); omega
          · intro h; exact Int.mul_neg_of_neg_of_pos h (by omega)
        have hz : wd64 (rS nS S) (rW 0 nS S eS) = wd64 (decide (T < 0)) (min R 9218868437227405312) := by
          unfold rS
          rw [if_neg k1, k4, k2, k5]
        rw [if_neg h0]
        exact rPlus_num x y _ (negW x) (negW y) nX nY nS X Y S eX eY eS w (frmLen F1.frm.1) (frmLen F2.frm.1) (frmLen FA.frm.1) (len_ne k1) (hid P1) (hid P2) (hid P3) (hid P4) HX HY HA (hid fun u a c A => round_fm FA.frm.1 hz u a c A)

theorem turn_wd (s : Bool) (K : Nat) (h : K < 9223372036854775808) : turnW (wd64 s K) = wd64 (!s) K := by
  unfold turnW wd64
  cases s <;> simp <;> omega
theorem turn_lt (y : Nat) (hy : y < 18446744073709551616) : turnW y < 18446744073709551616 := by unfold turnW; split <;> omega
theorem readOpp (f : Ieee.Format) (hs : f.infRung < f.signWeight) (t : Bool) (u : Nat) (hu : u < f.infRung) : (f.read (f.word t u)).opposite = f.read (f.word (!t) u) := by
  have key : ∀ b : Bool, (f.word b u / f.signWeight % 2 == 1) = b ∧ f.word b u % f.signWeight = u := by
    intro b
    unfold Ieee.Format.word
    cases b
    · simp only [Bool.false_eq_true, if_false]
      rw [Nat.div_eq_of_lt (by omega)]; exact ⟨rfl, Nat.mod_eq_of_lt (by omega)⟩
    · simp only [if_true]
      rw [Nat.add_div_left _ (by omega), Nat.div_eq_of_lt (by omega), Nat.add_mod_left]; exact ⟨rfl, Nat.mod_eq_of_lt (by omega)⟩
  unfold Ieee.Format.read
  simp only [(key t).1, (key t).2, (key (!t)).1, (key (!t)).2]
  by_cases h : u < f.binade
  · rw [if_pos h, if_pos h]; rfl
  · rw [if_neg h, if_neg h, if_pos hu, if_pos hu]; rfl

theorem sub_turn (x y : Nat) (hy : y < 18446744073709551616) : arW .sub x y = arW .add x (turnW y) := by
  rw [arW_sub, arW_add]
  have ey := wd_of y hy
  have hm : magW y < 9223372036854775808 := Nat.mod_lt _ (by decide)
  have et : turnW y = wd64 (!negW y) (magW y) := by rw [← turn_wd _ _ hm, ← ey]
  obtain ⟨m1, m2, m3⟩ := magW_wd (!negW y) (magW y) hm
  rcases kinds y hy with ⟨b1, b2, b3, b4⟩ | ⟨b1, b2, b3, b4⟩ | ⟨b1, b2, b4⟩
  · obtain ⟨s, t, hr⟩ := read_nanW y b4
    obtain ⟨s2, t2, hr2⟩ := read_nanW (turnW y) (by rw [et, m1]; exact b4)
    rw [hr, hr2]
    cases Ieee.double.read x <;> rfl
  · have hr := read_infW y hy b4
    have hr2 := read_infW (turnW y) (turn_lt y hy) (by rw [et, m1]; exact b4)
    rw [hr, hr2, et, m2]
    rfl
  · have hr := readOpp Ieee.double hInf (negW y) (magW y) (by rw [B.dInf]; exact b4)
    rw [← wd_word, ← ey, ← wd_word, ← et] at hr
    rw [hr]
set_option maxHeartbeats 1000000 in
theorem sMinus_core (x y t z : Nat) (w : World) (H1 : Hid (∀ u, Calls Tryz.prog 80 #[.float .f64 y] u fun r w' => r = .returned (.float .f64 t) ∧ w' = u)) (H2 : Hid (∀ u, Calls Tryz.prog 42 #[.float .f64 x, .float .f64 t] u fun r w' => r = .returned (.float .f64 z) ∧ Below u.heap.size u w')) :
    Calls Tryz.prog 43 #[.float .f64 x, .float .f64 y] w fun r w' => r = .returned (.float .f64 z) ∧ Below w.heap.size w w' := by
  go_enter Tryz.func43, Tryz.ntmps43
  go_wp2_with fail
  refine (Calls.mono (H1.out _)) ?_
  rintro r wx ⟨rfl, hw⟩
  rw [hw]
  clear hw wx H1
  go_wp2_with fail
  refine (Calls.mono (H2.out _)) ?_
  rintro r w1 ⟨rfl, hb⟩
  clear H2
  go_wp2
  exact bodyPost_ret (v := .float .f64 z) (by simp [results, Tryz.results43, go_sem]) rfl ⟨rfl, hb⟩
theorem sMinus_any (x y : Nat) (hx : x < 18446744073709551616) (hy : y < 18446744073709551616) (w : World) :
    Calls Tryz.prog 43 #[.float .f64 x, .float .f64 y] w fun r w' => r = .returned (.float .f64 (arW .sub x y)) ∧ Below w.heap.size w w' := by
  rw [sub_turn x y hy]
  exact sMinus_core x y (turnW y) _ w (hid fun u => rTurned_any y hy u) (hid fun u => sPlus_any x (turnW y) hx (turn_lt y hy) u)
end Go.Proofs.YteoednbmhiblfaaGreatDoor

/- Sums of lists, plainly: steps of words, with every NaN as the one that is answered; running sums, halves, what is kept beside. -/
namespace Go.Proofs.YteoednbmhiblfaaGreatDoor
open Go.RowKit J
set_option linter.unusedVariables false
set_option maxRecDepth 20000
set_option linter.unusedSimpArgs false

/-- A word, as it is answered. -/
def nrm (z : Nat) : Nat := if nanW z then oddW else z
theorem nan_odd : nanW oddW = true := by decide
theorem nrm_idem (z : Nat) : nrm (nrm z) = nrm z := by
  unfold nrm
  cases h : nanW z
  · simp [h]
  · simp [nan_odd]
theorem nrm_lt {z : Nat} (h : z < 18446744073709551616) : nrm z < 18446744073709551616 := by
  unfold nrm
  split
  · decide
  · exact h
theorem nan_nrm (z : Nat) : nanW (nrm z) = nanW z := by
  unfold nrm
  cases h : nanW z
  · simp [h]
  · simp [nan_odd]
theorem nrm_zero : nrm 0 = 0 := by decide
theorem nan_mag {x : Nat} (h : nanW x = true) : 9218868437227405312 < magW x := of_decide_eq_true h
theorem nan_turn (y : Nat) (hy : y < 18446744073709551616) : nanW (turnW y) = nanW y := by
  unfold nanW turnW
  rw [decide_eq_decide]
  split <;> omega
theorem add_nan_l {x : Nat} (y : Nat) (h : nanW x = true) : arW .add x y = oddW := by
  obtain ⟨s, t, hr⟩ := read_nanW x (nan_mag h)
  rw [arW_add, hr]; rfl
theorem add_nan_r {x y : Nat} (hx : x < 18446744073709551616) (h : nanW y = true) : arW .add x y = oddW := by
  obtain ⟨s, t, hr2⟩ := read_nanW y (nan_mag h)
  rcases kinds x hx with ⟨a1, a2, a3, a4⟩ | ⟨a1, a2, a3, a4⟩ | ⟨a1, a2, a4⟩
  · exact add_nan_l y a1
  · rw [arW_add, read_infW x hx a4, hr2]; rfl
  · obtain ⟨m, k, hr, _⟩ := read_finW x hx a4
    rw [arW_add, hr, hr2]; rfl
theorem sub_nan_l {x y : Nat} (hy : y < 18446744073709551616) (h : nanW x = true) : arW .sub x y = oddW := by rw [sub_turn x y hy]; exact add_nan_l _ h
theorem sub_nan_r {x y : Nat} (hx : x < 18446744073709551616) (hy : y < 18446744073709551616) (h : nanW y = true) : arW .sub x y = oddW := by
  rw [sub_turn x y hy]
  exact add_nan_r hx (by rw [nan_turn y hy]; exact h)
theorem add_nrm {x y : Nat} (hx : x < 18446744073709551616) (hy : y < 18446744073709551616) : arW .add (nrm x) (nrm y) = arW .add x y := by
  cases h1 : nanW x
  · have e1 : nrm x = x := by unfold nrm; rw [h1]; rfl
    rw [e1]
    cases h2 : nanW y
    · have e2 : nrm y = y := by unfold nrm; rw [h2]; rfl
      rw [e2]
    · rw [add_nan_r hx h2, add_nan_r hx (by rw [nan_nrm]; exact h2)]
  · rw [add_nan_l _ h1, add_nan_l _ (by rw [nan_nrm]; exact h1)]
theorem sub_nrm {x y : Nat} (hx : x < 18446744073709551616) (hy : y < 18446744073709551616) : arW .sub (nrm x) (nrm y) = arW .sub x y := by
  cases h1 : nanW x
  · have e1 : nrm x = x := by unfold nrm; rw [h1]; rfl
    rw [e1]
    cases h2 : nanW y
    · have e2 : nrm y = y := by unfold nrm; rw [h2]; rfl
      rw [e2]
    · rw [sub_nan_r hx hy h2, sub_nan_r hx (nrm_lt hy) (by rw [nan_nrm]; exact h2)]
  · rw [sub_nan_l hy h1, sub_nan_l (nrm_lt hy) (by rw [nan_nrm]; exact h1)]
/-- What a step's operation gives: the answer, or some NaN where there is none. -/
def Gives (op : BinOp) (x y z : Nat) : Prop := floatBits op .f64 x y = some z ∨ floatBits op .f64 x y = none ∧ 9218868437227405312 < z % 9223372036854775808 ∧ z < 18446744073709551616
theorem gives_nrm {op : BinOp} {x y z : Nat} (ho : op = .add ∨ op = .sub ∨ op = .mul) (h : Gives op x y z) : nrm z = arW op x y ∧ z < 18446744073709551616 := by
  rcases h with h | ⟨h, h2, h3⟩
  · have hb := bits_fin ho h
    refine ⟨?_, hb.2⟩
    unfold nrm nanW arW
    rw [h, if_neg (by simp; omega)]; rfl
  · refine ⟨?_, h3⟩
    unfold nrm nanW arW
    rw [h, if_pos (by simpa using h2)]; rfl
theorem arW_nrm {op : BinOp} (ho : op = .add ∨ op = .sub ∨ op = .mul) (x y : Nat) : nrm (arW op x y) = arW op x y ∧ arW op x y < 18446744073709551616 := by
  unfold arW
  cases h : floatBits op .f64 x y with
  | none => exact ⟨by decide, by decide⟩
  | some z =>
    have hb := bits_fin ho h
    refine ⟨?_, hb.2⟩
    show nrm z = z
    unfold nrm nanW
    rw [if_neg (by simp; omega)]

/-- A sum, a difference. -/
abbrev plF (x y : Nat) : Nat := arW .add x y
abbrev miF (x y : Nat) : Nat := arW .sub x y
theorem plF_lt (x y : Nat) : plF x y < 18446744073709551616 := (arW_nrm (.inl rfl) x y).2
theorem miF_lt (x y : Nat) : miF x y < 18446744073709551616 := (arW_nrm (.inr (.inl rfl)) x y).2
theorem plF_nrm (x y : Nat) : nrm (plF x y) = plF x y := (arW_nrm (.inl rfl) x y).1
theorem miF_nrm (x y : Nat) : nrm (miF x y) = miF x y := (arW_nrm (.inr (.inl rfl)) x y).1
/-- One after the other. -/
def runF : List Nat → Nat
  | [] => 0
  | x :: l => l.foldl plF (nrm x)
theorem runF_snoc (l : List Nat) (y : Nat) (h : l ≠ []) : runF (l ++ [y]) = plF (runF l) y := by
  cases l with
  | nil => exact absurd rfl h
  | cons x l => simp [runF, List.foldl_append]
theorem runF_take (l : List Nat) (k : Nat) (h0 : 0 < k) (h : k < l.length) : runF (l.take (k + 1)) = plF (runF (l.take k)) (l.getD k 0) := by
  have e : l.take (k + 1) = l.take k ++ [l.getD k 0] := by
    rw [List.take_succ_eq_append_getElem h, List.getD_eq_getElem?_getD, List.getElem?_eq_getElem h]; rfl
  rw [e, runF_snoc]
  intro h2
  have := congrArg List.length h2
  rw [List.length_take, List.length_nil] at this
  omega
theorem runF_one (l : List Nat) (h : 0 < l.length) : runF (l.take 1) = nrm (l.getD 0 0) := by
  cases l with
  | nil => simp at h
  | cons x l => simp [runF]
theorem foldl_lt (l : List Nat) (s : Nat) (hs : s < 18446744073709551616 ∧ nrm s = s) : l.foldl plF s < 18446744073709551616 ∧ nrm (l.foldl plF s) = l.foldl plF s := by
  induction l generalizing s with
  | nil => exact hs
  | cons x l ih => exact ih _ ⟨plF_lt _ _, plF_nrm _ _⟩
theorem runF_ok (l : List Nat) (h : ∀ x ∈ l, x < 18446744073709551616) : runF l < 18446744073709551616 ∧ nrm (runF l) = runF l := by
  cases l with
  | nil => exact ⟨by decide, by decide⟩
  | cons x l => exact foldl_lt l _ ⟨nrm_lt (h x (List.mem_cons_self ..)), nrm_idem x⟩

/-- A row, neighbours added in twos. -/
def two : List Nat → List Nat
  | a :: b :: l => plF a b :: two l
  | [a] => [a]
  | [] => []
def twos : Nat → List Nat → List Nat
  | 0, l => l
  | r + 1, l => twos r (two l)
theorem two_len : ∀ l : List Nat, (two l).length = l.length - l.length / 2
  | [] => rfl
  | [a] => by simp [two]
  | a :: b :: l => by
    have := two_len l
    simp only [two, List.length_cons, this]
    omega
theorem two_app : ∀ (l m : List Nat), l.length % 2 = 0 → two (l ++ m) = two l ++ two m
  | [], m, _ => rfl
  | [a], m, h => by simp at h
  | a :: b :: l, m, h => by
    have h2 : l.length % 2 = 0 := by simp at h; omega
    simp only [List.cons_append, two, two_app l m h2]
theorem twos_out : ∀ (r : Nat) (l : List Nat), twos (r + 1) l = two (twos r l)
  | 0, l => rfl
  | r + 1, l => twos_out r (two l)
theorem two_short (l : List Nat) (h : l.length ≤ 1) : two l = l := by
  match l, h with
  | [], _ => rfl
  | [a], _ => rfl
  | a :: b :: l, h => simp at h
theorem twos_short (r : Nat) (l : List Nat) (h : l.length ≤ 1) : twos r l = l := by
  induction r with
  | zero => rfl
  | succ r ih => rw [twos, two_short l h, ih]
theorem twos_add : ∀ (r s : Nat) (l : List Nat), twos (r + s) l = twos s (twos r l)
  | 0, s, l => by rw [Nat.zero_add]; rfl
  | r + 1, s, l => by rw [show r + 1 + s = (r + s) + 1 by omega, twos, twos_add r s, twos]
theorem twos_app : ∀ (r : Nat) (l m : List Nat), l.length = 2 ^ r → twos r (l ++ m) = twos r l ++ twos r m
  | 0, l, m, _ => rfl
  | r + 1, l, m, h => by
    rw [Nat.pow_succ] at h
    rw [twos, twos, twos, two_app l m (by omega), twos_app r (two l) (two m) (by rw [two_len]; omega)]
theorem twos_len : ∀ (r : Nat) (l : List Nat), l.length ≤ 2 ^ r → (twos r l).length ≤ 1 ∧ (0 < l.length → 0 < (twos r l).length)
  | 0, l, h => ⟨by simpa [twos] using h, fun h => h⟩
  | r + 1, l, h => by
    rw [Nat.pow_succ] at h
    obtain ⟨h1, h2⟩ := twos_len r (two l) (by rw [two_len]; omega)
    exact ⟨h1, fun h3 => h2 (by rw [two_len]; omega)⟩
/-- By halves. -/
def hvF (l : List Nat) : Nat := nrm ((twos l.length l).getD 0 0)
theorem hv_any (r : Nat) (l : List Nat) (h : (twos r l).length ≤ 1) : hvF l = nrm ((twos r l).getD 0 0) := by
  unfold hvF
  have hn : (twos l.length l).length ≤ 1 := (twos_len l.length l (Nat.le_of_lt Nat.lt_two_pow_self)).1
  rcases Nat.le_total r l.length with h1 | h1
  · obtain ⟨d, hd⟩ : ∃ d, l.length = r + d := ⟨l.length - r, by omega⟩
    rw [hd, twos_add, twos_short d _ h]
  · obtain ⟨d, hd⟩ : ∃ d, r = l.length + d := ⟨r - l.length, by omega⟩
    rw [hd, twos_add, twos_short d _ hn]
theorem hv_short (l : List Nat) (h : l.length ≤ 1) : hvF l = nrm (l.getD 0 0) := hv_any 0 l h
theorem W64_two : ∀ (l : List Nat), (∀ x ∈ l, x < 18446744073709551616) → ∀ x ∈ two l, x < 18446744073709551616
  | [], h => h
  | [a], h => h
  | a :: b :: l, h => fun x hx => by
    simp only [two, List.mem_cons] at hx
    rcases hx with rfl | hx
    · exact plF_lt _ _
    · exact W64_two l (fun y hy => h y (by simp [hy])) x hx
theorem W64_twos : ∀ (r : Nat) (l : List Nat), (∀ x ∈ l, x < 18446744073709551616) → ∀ x ∈ twos r l, x < 18446744073709551616
  | 0, l, h => h
  | r + 1, l, h => W64_twos r (two l) (W64_two l h)
theorem getD_lt {l : List Nat} (h : ∀ x ∈ l, x < 18446744073709551616) (i : Nat) : l.getD i 0 < 18446744073709551616 := by
  by_cases hi : i < l.length
  · rw [List.getD_eq_getElem?_getD, List.getElem?_eq_getElem hi]; exact h _ (List.getElem_mem hi)
  · rw [List.getD_eq_getElem?_getD, List.getElem?_eq_none (by omega)]; simp
theorem hv_lt (l : List Nat) (h : ∀ x ∈ l, x < 18446744073709551616) : hvF l < 18446744073709551616 := nrm_lt (getD_lt (W64_twos _ l h) 0)
theorem hv_halves (l : List Nat) (j : Nat) (h1 : 2 ^ j < l.length) (h2 : l.length ≤ 2 ^ (j + 1)) (hw : ∀ x ∈ l, x < 18446744073709551616) : hvF l = plF (hvF (l.take (2 ^ j))) (hvF (l.drop (2 ^ j))) := by
  rw [Nat.pow_succ] at h2
  have ht : (l.take (2 ^ j)).length = 2 ^ j := by rw [List.length_take]; omega
  have hd : (l.drop (2 ^ j)).length ≤ 2 ^ j ∧ 0 < (l.drop (2 ^ j)).length := by rw [List.length_drop]; omega
  obtain ⟨a1, a2⟩ := twos_len j (l.take (2 ^ j)) (by omega)
  obtain ⟨b1, b2⟩ := twos_len j (l.drop (2 ^ j)) hd.1
  have a3 := a2 (by have := Nat.two_pow_pos j; omega)
  have b3 := b2 hd.2
  rw [hv_any j _ a1, hv_any j _ b1]
  have wa := W64_twos j (l.take (2 ^ j)) (fun x hx => hw x (List.mem_of_mem_take hx))
  have wb := W64_twos j (l.drop (2 ^ j)) (fun x hx => hw x (List.mem_of_mem_drop hx))
  have e : twos (j + 1) l = two (twos j (l.take (2 ^ j)) ++ twos j (l.drop (2 ^ j))) := by
    rw [twos_out, ← twos_app j _ _ ht, List.take_append_drop]
  rw [hv_any (j + 1) l (twos_len (j + 1) l (by rw [Nat.pow_succ]; omega)).1, e]
  generalize twos j (l.take (2 ^ j)) = A at *
  generalize twos j (l.drop (2 ^ j)) = C at *
  match A, C, a1, a3, b1, b3, wa, wb with
  | [a], [b], _, _, _, _, wa, wb =>
    simp only [List.cons_append, List.nil_append, two, List.getD_cons_zero]
    have e2 := add_nrm (wa a (by simp)) (wb b (by simp))
    show nrm (plF a b) = arW .add (nrm a) (nrm b)
    rw [e2, plF_nrm]

/-- Blocks of s numbers; their running sums' running sum. -/
def pc (s : Nat) (l : List Nat) (i : Nat) : List Nat := (l.drop (i * s)).take s
def blF (s : Nat) (l : List Nat) : Nat := runF ((List.range ((l.length + s - 1) / s)).map fun i => runF (pc s l i))
/-- Kahan's step. -/
def kaS (q : Nat × Nat) (x : Nat) : Nat × Nat := (plF q.1 (miF x q.2), miF (miF (plF q.1 (miF x q.2)) q.1) (miF x q.2))
def kaF (l : List Nat) : Nat × Nat := l.foldl kaS (0, 0)
/-- Is |s| not below |x|? -/
def nbW (s x : Nat) : Bool := !nanW s && !nanW x && decide (magW x ≤ magW s)
/-- Neumaier's step. -/
def neV (s x : Nat) : Nat := if nbW s x then plF (miF s (plF s x)) x else plF (miF x (plF s x)) s
def neS (q : Nat × Nat) (x : Nat) : Nat × Nat := (plF q.1 x, plF q.2 (neV q.1 x))
def neF (l : List Nat) : Nat × Nat := l.foldl neS (0, 0)
theorem foldl_take {α : Type} (f : α → Nat → α) (a : α) (l : List Nat) (k : Nat) (h : k < l.length) : (l.take (k + 1)).foldl f a = f ((l.take k).foldl f a) (l.getD k 0) := by
  have e : l.take (k + 1) = l.take k ++ [l.getD k 0] := by
    rw [List.take_succ_eq_append_getElem h, List.getD_eq_getElem?_getD, List.getElem?_eq_getElem h]; rfl
  rw [e, List.foldl_append]; rfl
theorem nbW_nrm (s x : Nat) : nbW (nrm s) (nrm x) = nbW s x := by
  unfold nbW
  rw [nan_nrm, nan_nrm]
  cases h1 : nanW s <;> cases h2 : nanW x <;> simp [nrm, h1, h2]
theorem kaS_ok (q : Nat × Nat) (x : Nat) : (kaS q x).1 < 18446744073709551616 ∧ (kaS q x).2 < 18446744073709551616 ∧ nrm (kaS q x).1 = (kaS q x).1 ∧ nrm (kaS q x).2 = (kaS q x).2 := ⟨plF_lt _ _, miF_lt _ _, plF_nrm _ _, miF_nrm _ _⟩
theorem neS_ok (q : Nat × Nat) (x : Nat) : (neS q x).1 < 18446744073709551616 ∧ (neS q x).2 < 18446744073709551616 ∧ nrm (neS q x).1 = (neS q x).1 ∧ nrm (neS q x).2 = (neS q x).2 := ⟨plF_lt _ _, plF_lt _ _, plF_nrm _ _, plF_nrm _ _⟩
theorem fold_ok (f : Nat × Nat → Nat → Nat × Nat) (hf : ∀ q x, (f q x).1 < 18446744073709551616 ∧ (f q x).2 < 18446744073709551616 ∧ nrm (f q x).1 = (f q x).1 ∧ nrm (f q x).2 = (f q x).2) (l : List Nat) : (l.foldl f (0, 0)).1 < 18446744073709551616 ∧ (l.foldl f (0, 0)).2 < 18446744073709551616 ∧ nrm (l.foldl f (0, 0)).1 = (l.foldl f (0, 0)).1 ∧ nrm (l.foldl f (0, 0)).2 = (l.foldl f (0, 0)).2 := by
  have h : ∀ (l : List Nat) (q : Nat × Nat), (q.1 < 18446744073709551616 ∧ q.2 < 18446744073709551616 ∧ nrm q.1 = q.1 ∧ nrm q.2 = q.2) → ((l.foldl f q).1 < 18446744073709551616 ∧ (l.foldl f q).2 < 18446744073709551616 ∧ nrm (l.foldl f q).1 = (l.foldl f q).1 ∧ nrm (l.foldl f q).2 = (l.foldl f q).2) := by
    intro l
    induction l with
    | nil => intro q h; exact h
    | cons x l ih => intro q _; exact ih _ (hf q x)
  exact h l (0, 0) ⟨by decide, by decide, by decide, by decide⟩
end Go.Proofs.YteoednbmhiblfaaGreatDoor

/- The program's steps; its running sum. -/
namespace Go.Proofs.YteoednbmhiblfaaGreatDoor
open Go.RowKit J
set_option linter.unusedVariables false
set_option maxRecDepth 20000
set_option linter.unusedSimpArgs false
attribute [local go_sem] st_float

/-- A word that is answered so. -/
def Is (z v : Nat) : Prop := z < 18446744073709551616 ∧ nrm z = v
theorem Is.self {x : Nat} (h : x < 18446744073709551616) : Is x (nrm x) := ⟨h, rfl⟩
theorem Is.pl {x y a b z : Nat} (hx : Is x a) (hy : Is y b) (hz : Gives .add x y z) : Is z (plF a b) := by
  obtain ⟨h1, rfl⟩ := hx
  obtain ⟨h2, rfl⟩ := hy
  obtain ⟨h3, h4⟩ := gives_nrm (.inl rfl) hz
  exact ⟨h4, h3.trans (add_nrm h1 h2).symm⟩
theorem Is.mi {x y a b z : Nat} (hx : Is x a) (hy : Is y b) (hz : Gives .sub x y z) : Is z (miF a b) := by
  obtain ⟨h1, rfl⟩ := hx
  obtain ⟨h2, rfl⟩ := hy
  obtain ⟨h3, h4⟩ := gives_nrm (.inr (.inl rfl)) hz
  exact ⟨h4, h3.trans (sub_nrm h1 h2).symm⟩

theorem plus10 {x y a b : Nat} (hx : Is x a) (hy : Is y b) (w : World) : Calls Tryz.prog 33 #[.float .f64 x, .float .f64 y] w fun r w' => ∃ z, r = .returned (.float .f64 z) ∧ Is z (plF a b) ∧ Below w.heap.size w w' := by
  have HZ : Aside (∀ z, Gives .add x y z → Is z (plF a b)) := fun z hz => hx.pl hy hz
  clear hx hy
  go_enter Tryz.func33, Tryz.ntmps33
  cases h : floatBits .add .f64 x y with
  | some z =>
    have d := run_float_arith (P := Tryz.prog) w .add 25 .f64 x y z h
    go_wp2_with (simp only [d])
    exact bodyPost_ret (v := .float .f64 z) (by simp [results, Tryz.results33, go_sem]) rfl ⟨z, rfl, HZ.out z (.inl h), Below.refl _ _⟩
  | none =>
    obtain ⟨z, hz, d⟩ := run_float_none (P := Tryz.prog) w .add 25 x y (.inl rfl) h
    go_wp2_with (simp only [d])
    exact bodyPost_ret (v := .float .f64 z) (by simp [results, Tryz.results33, go_sem]) rfl ⟨z, rfl, HZ.out z (.inr ⟨h, hz⟩), (Below.refl _ _).drew⟩
theorem minus10 {x y a b : Nat} (hx : Is x a) (hy : Is y b) (w : World) : Calls Tryz.prog 70 #[.float .f64 x, .float .f64 y] w fun r w' => ∃ z, r = .returned (.float .f64 z) ∧ Is z (miF a b) ∧ Below w.heap.size w w' := by
  have HZ : Aside (∀ z, Gives .sub x y z → Is z (miF a b)) := fun z hz => hx.mi hy hz
  clear hx hy
  go_enter Tryz.func70, Tryz.ntmps70
  cases h : floatBits .sub .f64 x y with
  | some z =>
    have d := run_float_arith (P := Tryz.prog) w .sub 25 .f64 x y z h
    go_wp2_with (simp only [d])
    exact bodyPost_ret (v := .float .f64 z) (by simp [results, Tryz.results70, go_sem]) rfl ⟨z, rfl, HZ.out z (.inl h), Below.refl _ _⟩
  | none =>
    obtain ⟨z, hz, d⟩ := run_float_none (P := Tryz.prog) w .sub 25 x y (.inr (.inl rfl)) h
    go_wp2_with (simp only [d])
    exact bodyPost_ret (v := .float .f64 z) (by simp [results, Tryz.results70, go_sem]) rfl ⟨z, rfl, HZ.out z (.inr ⟨h, hz⟩), (Below.refl _ _).drew⟩
theorem told10 {x a : Nat} (hx : Is x a) (w : World) : Calls Tryz.prog 30 #[.float .f64 x] w fun r w' => r = .returned (.float .f64 a) ∧ w' = w := by
  obtain ⟨s, e, f, he, hf, h1, h2⟩ := bwz x hx.1
  have h3 := B.order_self s e f he hf
  rw [← h1, h2] at h3
  have h4 := hx.2
  unfold nrm at h4
  have HN := hid (fun u : World => B.nan_any u)
  clear h1 h2 he hf hx
  cases hn : nanW x
  · rw [hn] at h3 h4
    rw [if_neg (by decide)] at h4
    subst h4
    go_enter Tryz.func30, Tryz.ntmps30
    go_wp2
    go_ret
    exact ⟨rfl, rfl⟩
  · rw [hn] at h3 h4
    rw [if_pos rfl] at h4
    subst h4
    go_enter Tryz.func30, Tryz.ntmps30
    go_wp2_with fail
    refine (HN.out _).mono ?_
    rintro r w1 ⟨rfl, rfl⟩
    go_wp2
    exact bodyPost_ret (v := .float .f64 oddW) (by simp [results, Tryz.results30, go_sem, oddW]) rfl ⟨rfl, rfl⟩


set_option maxHeartbeats 2000000 in
theorem running10 (xs : List Nat) (a : Option Addr) (n c : Nat) (w : World) (hn : n = xs.length) (hF : Fs w.heap.size w a xs) (hW : W64 xs) (hc : n ≤ c) (hm : n ≤ 4611686018427387904) :
    Calls Tryz.prog 31 #[.slice a n c] w fun r w' => ∃ z, r = .returned (.float .f64 z) ∧ Is z (runF xs) ∧ Below w.heap.size w w' := by
  by_cases h0 : n = 0
  · have e : xs = [] := List.eq_nil_of_length_eq_zero (by omega)
    subst h0 e
    clear hF hW hn
    go_enter Tryz.func31, Tryz.ntmps31
    go_wp2
    exact bodyPost_ret (v := .float .f64 0) (by simp [results, Tryz.results31, go_sem]) rfl ⟨0, rfl, ⟨by decide, by decide⟩, Below.refl _ _⟩
  · have hne : xs ≠ [] := by intro e; subst e; simp at hn; omega
    obtain ⟨b, off, hlt, rfl, hcl⟩ := hF hne
    have hc0 := hcl 0 (by omega)
    rw [Nat.add_zero] at hc0
    have HR : Aside (Fs w.heap.size w (some ⟨b, off, none⟩) xs ∧ W64 xs ∧ n = xs.length) := ⟨hF, hW, hn⟩
    have hz0 : ((n : Int) == 0) = false := by simp; omega
    have hz1 : decide ((0 : Int) < n) = true := by simp; omega
    obtain ⟨x0, hx0⟩ : ∃ x0, x0 = xs.getD 0 0 := ⟨_, rfl⟩
    rw [← hx0] at hc0
    have HX := Aside.intro (show Is x0 (runF (xs.take 1)) by rw [runF_one xs (by omega), ← hx0]; exact Is.self (by rw [hx0]; exact hW.get 0))
    have hnc : c = 1 ∨ c ≠ 1 := by omega
    clear hF hW hn hcl hne hlt hx0
    have hcc : (c = 1 ∧ n = 1) ∨ c ≠ 1 := by omega
    clear hnc
    rcases hcc with ⟨hc1, hn1⟩ | hc1
    · subst hc1 hn1
      have HK := Aside.intro (show xs.take 1 = xs by rw [List.take_of_length_le]; rw [← HR.out.2.2]; omega)
      go_enter Tryz.func31, Tryz.ntmps31
      go_wp2
      go_loopg [15, 3] 1 (fun gk i s wr => i = .int .i64 0 ∧ s = .float .f64 x0 ∧ wr = w)
      case atStart => exact ⟨by simp, rfl, rfl⟩
      case round =>
        obtain ⟨rfl, rfl, rfl⟩ := hrel
        go_wp2
        refine bodyPost_ret (v := .float .f64 x0) (by simp [results, Tryz.results31, go_sem]) rfl ?_
        have e := HX.out
        rw [HK.out] at e
        exact ⟨x0, rfl, e, Below.refl _ _⟩
    · go_enter Tryz.func31, Tryz.ntmps31
      go_wp2
      go_loopg [15, 3] n (fun gk i s wr => ∃ (k z : Nat), gk + k = n ∧ i = .int .i64 (k : Nat) ∧ s = .float .f64 z ∧ Aside (Is z (runF (xs.take (k + 1))) ∧ Below w.heap.size w wr))
      case atStart => exact ⟨0, x0, by omega, by simp, rfl, HX.out, Below.refl _ _⟩
      case round =>
        obtain ⟨k, z, hgk, rfl, rfl, HA⟩ := hrel
        by_cases hk : k + 1 < n
        · have hcell := HR.out.1.cell HA.out.2 (k + 1) (by rw [← HR.out.2.2]; exact hk)
          rw [show off + (k + 1) = off + 1 + k by omega] at hcell
          obtain ⟨x, hx⟩ : ∃ x, x = xs.getD (k + 1) 0 := ⟨_, rfl⟩
          rw [← hx] at hcell
          have HP : Hid (∀ u : World, Calls Tryz.prog 33 #[.float .f64 z, .float .f64 x] u fun r w' => ∃ z', r = .returned (.float .f64 z') ∧ Is z' (runF (xs.take (k + 1 + 1))) ∧ Below u.heap.size u w') := fun u => by
            have hx64 : x < 18446744073709551616 := by rw [hx]; exact HR.out.2.1.get (k + 1)
            have h := plus10 HA.out.1 (Is.self hx64) u
            have hw := runF_ok (xs.take (k + 1)) (fun y hy => HR.out.2.1 y (List.mem_of_mem_take hy))
            have e := add_nrm hw.1 hx64
            rw [hw.2] at e
            rw [runF_take xs (k + 1) (by omega) (by rw [← HR.out.2.2]; exact hk), ← hx]
            rw [show plF (runF (xs.take (k + 1))) (nrm x) = plF (runF (xs.take (k + 1))) x from e] at h
            exact h
          have hd : decide ((k : Int) < (n : Int) - 1) = true := by simp; omega
          clear hx
          go_wp2_with fail
          refine (HP.out _).mono ?_
          rintro r w2 ⟨z', rfl, hz', hb2⟩
          have HB := Aside.intro (And.intro hz' hb2)
          clear hz' hb2 HP
          go_wp2
          go_roundg (gk - 1)
          case measure => omega
          case rel => exact ⟨k + 1, z', by omega, by first | rfl | simp, rfl, HB.out.1, HA.out.2.trans (HB.out.2.mono HA.out.2.size)⟩
        · have hd : decide ((k : Int) < (n : Int) - 1) = false := by simp; omega
          have HK := Aside.intro (show xs.take (k + 1) = xs by rw [List.take_of_length_le]; rw [← HR.out.2.2]; omega)
          go_wp2
          refine bodyPost_ret (v := .float .f64 z) (by simp [results, Tryz.results31, go_sem]) rfl ?_
          have e := HA.out.1
          rw [HK.out] at e
          exact ⟨z, rfl, e, HA.out.2⟩

theorem Running10 (xs : List Nat) (a : Option Addr) (n c : Nat) (w : World) (hn : n = xs.length) (hF : Fs w.heap.size w a xs) (hW : W64 xs) (hc : n ≤ c) (hm : n ≤ 4611686018427387904) :
    Calls Tryz.prog 9 #[.slice a n c] w fun r w' => r = .returned (.float .f64 (runF xs)) ∧ Below w.heap.size w w' := by
  have H1 := hid (running10 xs a n c w hn hF hW hc hm)
  obtain ⟨y, hy⟩ : ∃ y, y = runF xs := ⟨_, rfl⟩
  rw [← hy] at H1 ⊢
  clear hn hF hW hc hm hy
  go_enter Tryz.func9, Tryz.ntmps9
  go_wp2_with fail
  refine (H1.out).mono ?_
  rintro r w1 ⟨z, rfl, hz, hb⟩
  have H2 := hid (fun u : World => told10 hz u)
  have HB := Aside.intro hb
  clear hz hb H1
  go_wp2_with fail
  refine (H2.out _).mono ?_
  rintro r w2 ⟨rfl, rfl⟩
  go_wp2
  exact bodyPost_ret (v := .float .f64 y) (by simp [results, Tryz.results9, go_sem]) rfl ⟨rfl, HB.out⟩
end Go.Proofs.YteoednbmhiblfaaGreatDoor

/- The program's Kahan, Neumaier. -/
namespace Go.Proofs.YteoednbmhiblfaaGreatDoor
open Go.RowKit J
set_option linter.unusedVariables false
set_option maxRecDepth 20000
set_option linter.unusedSimpArgs false
attribute [local go_sem] st_float

theorem kaS_nrm {q : Nat × Nat} {x : Nat} (hx : x < 18446744073709551616) (h2 : q.2 < 18446744073709551616) (n2 : nrm q.2 = q.2) : kaS q (nrm x) = kaS q x := by
  have e : miF (nrm x) q.2 = miF x q.2 := by
    have := sub_nrm hx h2
    rw [n2] at this
    exact this
  unfold kaS
  rw [e]
theorem neS_nrm {q : Nat × Nat} {x : Nat} (hx : x < 18446744073709551616) (h1 : q.1 < 18446744073709551616) (n1 : nrm q.1 = q.1) : neS q (nrm x) = neS q x := by
  have e : plF q.1 (nrm x) = plF q.1 x := by
    have := add_nrm h1 hx
    rw [n1] at this
    exact this
  have e2 : nbW q.1 (nrm x) = nbW q.1 x := by have := nbW_nrm q.1 x; rw [n1] at this; exact this
  have e3 : miF (nrm x) (plF q.1 x) = miF x (plF q.1 x) := by
    have := sub_nrm hx (plF_lt q.1 x)
    rw [plF_nrm] at this
    exact this
  have e4 : ∀ y, y < 18446744073709551616 → nrm y = y → plF y (nrm x) = plF y x := fun y hy ny => by
    have := add_nrm hy hx
    rw [ny] at this
    exact this
  unfold neS neV
  rw [e, e2, e3, e4 _ (miF_lt _ _) (miF_nrm _ _)]

set_option maxHeartbeats 1000000 in
theorem repaid10 {s c x a b d : Nat} (hs : Is s a) (hc : Is c b) (hx : Is x d) (w : World) : Calls Tryz.prog 34 #[.float .f64 s, .float .f64 c, .float .f64 x] w fun r w' => ∃ t u, r = .returned (.tuple #[.float .f64 t, .float .f64 u]) ∧ Is t (kaS (a, b) d).1 ∧ Is u (kaS (a, b) d).2 ∧ Below w.heap.size w w' := by
  have H1 := hid (fun u : World => minus10 hx hc u)
  have HS := Aside.intro hs
  clear hs hc hx
  go_enter Tryz.func34, Tryz.ntmps34
  go_wp2_with fail
  refine (H1.out _).mono ?_
  rintro r w1 ⟨y, rfl, hy, hb1⟩
  have H2 := hid (fun u : World => plus10 HS.out hy u)
  have HY := Aside.intro (And.intro hy hb1)
  clear hy hb1 H1
  go_wp2_with fail
  refine (H2.out _).mono ?_
  rintro r w2 ⟨t, rfl, ht, hb2⟩
  have H3 := hid (fun u : World => minus10 ht HS.out u)
  have HT := Aside.intro (And.intro ht (HY.out.2.trans (hb2.mono HY.out.2.size)))
  clear ht hb2 H2
  go_wp2_with fail
  refine (H3.out _).mono ?_
  rintro r w3 ⟨u, rfl, hu, hb3⟩
  have H4 := hid (fun v : World => minus10 hu HY.out.1 v)
  have HU := Aside.intro (HT.out.2.trans (hb3.mono HT.out.2.size))
  clear hu hb3 H3
  go_wp2_with fail
  refine (H4.out _).mono ?_
  rintro r w4 ⟨v, rfl, hv, hb4⟩
  have HV := Aside.intro (And.intro hv (HU.out.trans (hb4.mono HU.out.size)))
  clear hv hb4 H4
  go_wp2
  go_ret2
  exact ⟨t, v, rfl, HT.out.1, HV.out.1, HV.out.2⟩
theorem alone10 (s c : Nat) (w : World) : Calls Tryz.prog 35 #[.float .f64 s, .float .f64 c] w fun r w' => r = .returned (.float .f64 s) ∧ w' = w := by
  go_enter Tryz.func35, Tryz.ntmps35
  go_wp2
  exact bodyPost_ret (v := .float .f64 s) (by simp [results, Tryz.results35, go_sem]) rfl ⟨rfl, rfl⟩
theorem together10 {s c a b : Nat} (hs : Is s a) (hc : Is c b) (w : World) : Calls Tryz.prog 38 #[.float .f64 s, .float .f64 c] w fun r w' => ∃ z, r = .returned (.float .f64 z) ∧ Is z (plF a b) ∧ Below w.heap.size w w' := by
  have H1 := hid (fun u : World => plus10 hs hc u)
  clear hs hc
  go_enter Tryz.func38, Tryz.ntmps38
  go_wp2_with fail
  refine (H1.out _).mono ?_
  rintro r w1 ⟨y, rfl, hy, hb1⟩
  have HY := Aside.intro (And.intro hy hb1)
  clear hy hb1
  go_wp2
  exact bodyPost_ret (v := .float .f64 y) (by simp [results, Tryz.results38, go_sem]) rfl ⟨y, rfl, HY.out.1, HY.out.2⟩

/-- Sizes held against each other. -/
theorem ge_size {s x : Nat} (hs : s < 18446744073709551616) (hx : x < 18446744073709551616) : (FloatKind.f64.format.order (magW s) (magW x) == some .gt || FloatKind.f64.format.order (magW s) (magW x) == some .eq) = nbW s x := by
  obtain ⟨s1, e, f, he, hf, h1, h2⟩ := bwz s hs
  obtain ⟨s2, u, v, hu, hv, h3, h4⟩ := bwz x hx
  have m1 : magW s = B.bw false e f := by
    rw [h1]
    unfold magW B.bw
    cases s1 <;> simp <;> omega
  have m2 : magW x = B.bw false u v := by
    rw [h3]
    unfold magW B.bw
    cases s2 <;> simp <;> omega
  unfold nbW
  rw [m1, m2, B.gt_f64 false false e f u v he hf hu hv, B.eq_f64 false false e f u v he hf hu hv, h2, h4]
  cases nanW s <;> cases nanW x <;> simp
  unfold B.pl B.bw B.sg
  rw [Bool.eq_iff_iff]
  simp
  omega
theorem abs10 {x : Nat} (hx : x < 18446744073709551616) (w : World) : Calls Tryz.prog 46 #[.float .f64 x] w fun r w' => r = .returned (.float .f64 (magW x)) ∧ w' = w := by
  obtain ⟨s, e, f, he, hf, h1, _⟩ := bwz x hx
  have h2 : magW x = B.bw false e f := by
    rw [h1]
    unfold magW B.bw
    cases s <;> simp <;> omega
  rw [h2, h1]
  exact B.abs_any s e f he hf w

set_option maxHeartbeats 2000000 in
theorem saved10 {s c x a b d : Nat} (hs : Is s a) (hc : Is c b) (hx : Is x d) (w : World) : Calls Tryz.prog 37 #[.float .f64 s, .float .f64 c, .float .f64 x] w fun r w' => ∃ t u, r = .returned (.tuple #[.float .f64 t, .float .f64 u]) ∧ Is t (neS (a, b) d).1 ∧ Is u (neS (a, b) d).2 ∧ Below w.heap.size w w' := by
  have hge := ge_size hs.1 hx.1
  have enb : nbW s x = nbW a d := by rw [← hs.2, ← hx.2, nbW_nrm]
  have A1 := hid (fun u : World => abs10 hs.1 u)
  have A2 := hid (fun u : World => abs10 hx.1 u)
  obtain ⟨ms, hms⟩ : ∃ m, m = magW s := ⟨_, rfl⟩
  obtain ⟨mx, hmx⟩ : ∃ m, m = magW x := ⟨_, rfl⟩
  rw [← hms] at A1 hge
  rw [← hmx] at A2 hge
  rw [enb] at hge
  have H1 := hid (fun u : World => plus10 hs hx u)
  have HS := Aside.intro (And.intro hs (And.intro hc hx))
  clear hs hc hx enb hms hmx
  go_enter Tryz.func37, Tryz.ntmps37
  go_wp2_with fail
  refine (H1.out _).mono ?_
  rintro r w1 ⟨t, rfl, ht, hb1⟩
  have HT := Aside.intro (And.intro ht hb1)
  clear ht hb1 H1
  go_wp2_with fail
  refine (A1.out _).mono ?_
  rintro r w1' ⟨rfl, rfl⟩
  go_wp2_with fail
  refine (A2.out _).mono ?_
  rintro r w1'' ⟨rfl, rfl⟩
  clear A1 A2
  cases hnb : nbW a d
  · rw [hnb] at hge
    have HE := Aside.intro (show neS (a, b) d = (plF a d, plF b (plF (miF d (plF a d)) a)) by unfold neS neV; rw [hnb]; rfl)
    clear hnb
    have H3 := hid (fun u : World => minus10 HS.out.2.2 HT.out.1 u)
    go_wp2_with fail
    refine (H3.out _).mono ?_
    rintro r w3 ⟨u, rfl, hu, hb3⟩
    have HU := Aside.intro (And.intro hu (HT.out.2.trans (hb3.mono HT.out.2.size)))
    have H4 := hid (fun v : World => plus10 hu HS.out.1 v)
    clear hu hb3 H3
    go_wp2_with fail
    refine (H4.out _).mono ?_
    rintro r w4 ⟨v, rfl, hv, hb4⟩
    have HV := Aside.intro (And.intro hv (HU.out.2.trans (hb4.mono HU.out.2.size)))
    have H5 := hid (fun v' : World => plus10 HS.out.2.1 hv v')
    clear hv hb4 H4
    go_wp2_with fail
    refine (H5.out _).mono ?_
    rintro r w5 ⟨y, rfl, hy, hb5⟩
    have HY := Aside.intro (And.intro hy (HV.out.2.trans (hb5.mono HV.out.2.size)))
    clear hy hb5 H5
    go_wp2
    go_ret2
    exact ⟨t, y, rfl, by rw [HE.out]; exact HT.out.1, by rw [HE.out]; exact HY.out.1, HY.out.2⟩
  · rw [hnb] at hge
    have HE := Aside.intro (show neS (a, b) d = (plF a d, plF b (plF (miF a (plF a d)) d)) by unfold neS neV; rw [hnb]; rfl)
    clear hnb
    have H3 := hid (fun u : World => minus10 HS.out.1 HT.out.1 u)
    go_wp2_with fail
    refine (H3.out _).mono ?_
    rintro r w3 ⟨u, rfl, hu, hb3⟩
    have HU := Aside.intro (And.intro hu (HT.out.2.trans (hb3.mono HT.out.2.size)))
    have H4 := hid (fun v : World => plus10 hu HS.out.2.2 v)
    clear hu hb3 H3
    go_wp2_with fail
    refine (H4.out _).mono ?_
    rintro r w4 ⟨v, rfl, hv, hb4⟩
    have HV := Aside.intro (And.intro hv (HU.out.2.trans (hb4.mono HU.out.2.size)))
    have H5 := hid (fun v' : World => plus10 HS.out.2.1 hv v')
    clear hv hb4 H4
    go_wp2_with fail
    refine (H5.out _).mono ?_
    rintro r w5 ⟨y, rfl, hy, hb5⟩
    have HY := Aside.intro (And.intro hy (HV.out.2.trans (hb5.mono HV.out.2.size)))
    clear hy hb5 H5
    go_wp2
    go_ret2
    exact ⟨t, y, rfl, by rw [HE.out]; exact HT.out.1, by rw [HE.out]; exact HY.out.1, HY.out.2⟩
end Go.Proofs.YteoednbmhiblfaaGreatDoor

/- The program's Kahan, Neumaier: whole. -/
namespace Go.Proofs.YteoednbmhiblfaaGreatDoor
open Go.RowKit J
set_option linter.unusedVariables false
set_option maxRecDepth 20000
set_option linter.unusedSimpArgs false
attribute [local go_sem] st_float
theorem is_zero : Is 0 0 := ⟨by decide, by decide⟩

set_option maxHeartbeats 2000000 in
theorem sumKahan (xs : List Nat) (a : Option Addr) (n c : Nat) (w : World) (hn : n = xs.length) (hF : Fs w.heap.size w a xs) (hW : W64 xs) (hm : n ≤ 4611686018427387904) :
    Calls Tryz.prog 36 #[.agg #[.func (.func 34) #[] #[], .func (.func 35) #[] #[]], .slice a n c] w fun r w' => r = .returned (.float .f64 (kaF xs).1) ∧ Below w.heap.size w w' := by
  have HR : Aside (Fs w.heap.size w a xs ∧ W64 xs ∧ n = xs.length) := ⟨hF, hW, hn⟩
  have HB0 : Aside (Below w.heap.size w (w.alloc (Obj.cells #[.func (.func 34) #[] #[], .func (.func 35) #[] #[]] 55)) ∧ Bl (w.alloc (Obj.cells #[.func (.func 34) #[] #[], .func (.func 35) #[] #[]] 55)) w.heap.size 55 [.func (.func 34) #[] #[], .func (.func 35) #[] #[]]) := ⟨bel_alloc _ _, Bl.new _ _ _⟩
  clear hF hW hn
  go_enter Tryz.func36, Tryz.ntmps36
  go_wp2
  go_loopg [11, 5, 6] n (fun gk i s q wr => ∃ (k y z : Nat), gk + k = n ∧ i = .int .i64 (k : Nat) ∧ s = .float .f64 y ∧ q = .float .f64 z ∧ Aside (Is y ((xs.take k).foldl kaS (0, 0)).1 ∧ Is z ((xs.take k).foldl kaS (0, 0)).2 ∧ Below w.heap.size w wr ∧ Bl wr w.heap.size 55 [.func (.func 34) #[] #[], .func (.func 35) #[] #[]] ∧ w.heap.size < wr.heap.size))
  case atStart => exact ⟨0, 0, 0, by omega, by simp, rfl, rfl, is_zero, is_zero, HB0.out.1, HB0.out.2, by simp⟩
  case round =>
    obtain ⟨k, y, z, hgk, rfl, rfl, rfl, HA⟩ := hrel
    have q0 := HA.out.2.2.2.1.cell 0 _ rfl
    have q1 := HA.out.2.2.2.1.cell 1 _ rfl
    by_cases hk : k < n
    · obtain ⟨b, off, rfl, hcell⟩ := HR.out.1.at HA.out.2.2.1 k (by rw [← HR.out.2.2]; exact hk)
      obtain ⟨x, hx⟩ : ∃ x, x = xs.getD k 0 := ⟨_, rfl⟩
      rw [← hx] at hcell
      have HP : Hid (∀ u : World, Calls Tryz.prog 34 #[.float .f64 y, .float .f64 z, .float .f64 x] u fun r w' => ∃ t v, r = .returned (.tuple #[.float .f64 t, .float .f64 v]) ∧ Is t ((xs.take (k + 1)).foldl kaS (0, 0)).1 ∧ Is v ((xs.take (k + 1)).foldl kaS (0, 0)).2 ∧ Below u.heap.size u w') := fun u => by
        have hx64 : x < 18446744073709551616 := by rw [hx]; exact HR.out.2.1.get k
        have h := repaid10 HA.out.1 HA.out.2.1 (Is.self hx64) u
        obtain ⟨o1, o2, o3, o4⟩ := fold_ok kaS kaS_ok (xs.take k)
        rw [foldl_take kaS (0, 0) xs k (by rw [← HR.out.2.2]; exact hk), ← hx]
        rw [show (((xs.take k).foldl kaS (0, 0)).1, ((xs.take k).foldl kaS (0, 0)).2) = (xs.take k).foldl kaS (0, 0) from rfl, kaS_nrm hx64 o2 o4] at h
        exact h
      clear hx
      go_wp2_with fail
      refine (HP.out _).mono ?_
      rintro r w2 ⟨t, v, rfl, ht, hv, hb2⟩
      have HB := Aside.intro (And.intro ht (And.intro hv (And.intro (HA.out.2.2.1.trans (hb2.mono HA.out.2.2.1.size)) (And.intro (HA.out.2.2.2.1.below hb2 HA.out.2.2.2.2) (Nat.lt_of_lt_of_le HA.out.2.2.2.2 hb2.size)))))
      clear ht hv hb2 HP
      go_wp2
      go_roundg (gk - 1)
      case measure => omega
      case rel => exact ⟨k + 1, t, v, by omega, by first | rfl | simp, rfl, rfl, HB.out⟩
    · have hd : decide ((k : Int) < n) = false := by simp; omega
      have HK := Aside.intro (show xs.take k = xs by rw [List.take_of_length_le]; rw [← HR.out.2.2]; omega)
      have HE := hid (fun u : World => alone10 y z u)
      go_wp2_with fail
      refine (HE.out _).mono ?_
      rintro r w2 ⟨rfl, rfl⟩
      have HT := hid (fun u : World => told10 HA.out.1 u)
      rw [HK.out] at HT
      obtain ⟨Y, hY⟩ : ∃ Y, Y = (xs.foldl kaS (0, 0)).1 := ⟨_, rfl⟩
      rw [← hY] at HT
      have HY := Aside.intro hY
      clear hY
      go_wp2_with fail
      refine (HT.out _).mono ?_
      rintro r w3 ⟨rfl, rfl⟩
      go_wp2
      refine bodyPost_ret (v := .float .f64 Y) (by simp [results, Tryz.results36, go_sem]) rfl ?_
      exact ⟨by rw [HY.out]; rfl, HA.out.2.2.1⟩

theorem Kahan10 (xs : List Nat) (a : Option Addr) (n c : Nat) (w : World) (hn : n = xs.length) (hF : Fs w.heap.size w a xs) (hW : W64 xs) (hm : n ≤ 4611686018427387904) :
    Calls Tryz.prog 11 #[.slice a n c] w fun r w' => r = .returned (.float .f64 (kaF xs).1) ∧ Below w.heap.size w w' := by
  have H1 := hid (sumKahan xs a n c w hn hF hW hm)
  obtain ⟨y, hy⟩ : ∃ y, y = (kaF xs).1 := ⟨_, rfl⟩
  rw [← hy] at H1 ⊢
  clear hn hF hW hm hy
  go_enter Tryz.func11, Tryz.ntmps11
  go_wp2_with fail
  refine (H1.out).mono ?_
  rintro r w1 ⟨rfl, hb⟩
  have HB := Aside.intro hb
  clear hb
  go_wp2
  exact bodyPost_ret (v := .float .f64 y) (by simp [results, Tryz.results11, go_sem]) rfl ⟨rfl, HB.out⟩

set_option maxHeartbeats 2000000 in
theorem sumNeumaier (xs : List Nat) (a : Option Addr) (n c : Nat) (w : World) (hn : n = xs.length) (hF : Fs w.heap.size w a xs) (hW : W64 xs) (hm : n ≤ 4611686018427387904) :
    Calls Tryz.prog 36 #[.agg #[.func (.func 37) #[] #[], .func (.func 38) #[] #[]], .slice a n c] w fun r w' => r = .returned (.float .f64 (plF (neF xs).1 (neF xs).2)) ∧ Below w.heap.size w w' := by
  have HR : Aside (Fs w.heap.size w a xs ∧ W64 xs ∧ n = xs.length) := ⟨hF, hW, hn⟩
  have HB0 : Aside (Below w.heap.size w (w.alloc (Obj.cells #[.func (.func 37) #[] #[], .func (.func 38) #[] #[]] 55)) ∧ Bl (w.alloc (Obj.cells #[.func (.func 37) #[] #[], .func (.func 38) #[] #[]] 55)) w.heap.size 55 [.func (.func 37) #[] #[], .func (.func 38) #[] #[]]) := ⟨bel_alloc _ _, Bl.new _ _ _⟩
  clear hF hW hn
  go_enter Tryz.func36, Tryz.ntmps36
  go_wp2
  go_loopg [11, 5, 6] n (fun gk i s q wr => ∃ (k y z : Nat), gk + k = n ∧ i = .int .i64 (k : Nat) ∧ s = .float .f64 y ∧ q = .float .f64 z ∧ Aside (Is y ((xs.take k).foldl neS (0, 0)).1 ∧ Is z ((xs.take k).foldl neS (0, 0)).2 ∧ Below w.heap.size w wr ∧ Bl wr w.heap.size 55 [.func (.func 37) #[] #[], .func (.func 38) #[] #[]] ∧ w.heap.size < wr.heap.size))
  case atStart => exact ⟨0, 0, 0, by omega, by simp, rfl, rfl, is_zero, is_zero, HB0.out.1, HB0.out.2, by simp⟩
  case round =>
    obtain ⟨k, y, z, hgk, rfl, rfl, rfl, HA⟩ := hrel
    have q0 := HA.out.2.2.2.1.cell 0 _ rfl
    have q1 := HA.out.2.2.2.1.cell 1 _ rfl
    by_cases hk : k < n
    · obtain ⟨b, off, rfl, hcell⟩ := HR.out.1.at HA.out.2.2.1 k (by rw [← HR.out.2.2]; exact hk)
      obtain ⟨x, hx⟩ : ∃ x, x = xs.getD k 0 := ⟨_, rfl⟩
      rw [← hx] at hcell
      have HP : Hid (∀ u : World, Calls Tryz.prog 37 #[.float .f64 y, .float .f64 z, .float .f64 x] u fun r w' => ∃ t v, r = .returned (.tuple #[.float .f64 t, .float .f64 v]) ∧ Is t ((xs.take (k + 1)).foldl neS (0, 0)).1 ∧ Is v ((xs.take (k + 1)).foldl neS (0, 0)).2 ∧ Below u.heap.size u w') := fun u => by
        have hx64 : x < 18446744073709551616 := by rw [hx]; exact HR.out.2.1.get k
        have h := saved10 HA.out.1 HA.out.2.1 (Is.self hx64) u
        obtain ⟨o1, o2, o3, o4⟩ := fold_ok neS neS_ok (xs.take k)
        rw [foldl_take neS (0, 0) xs k (by rw [← HR.out.2.2]; exact hk), ← hx]
        rw [show (((xs.take k).foldl neS (0, 0)).1, ((xs.take k).foldl neS (0, 0)).2) = (xs.take k).foldl neS (0, 0) from rfl, neS_nrm hx64 o1 o3] at h
        exact h
      clear hx
      go_wp2_with fail
      refine (HP.out _).mono ?_
      rintro r w2 ⟨t, v, rfl, ht, hv, hb2⟩
      have HB := Aside.intro (And.intro ht (And.intro hv (And.intro (HA.out.2.2.1.trans (hb2.mono HA.out.2.2.1.size)) (And.intro (HA.out.2.2.2.1.below hb2 HA.out.2.2.2.2) (Nat.lt_of_lt_of_le HA.out.2.2.2.2 hb2.size)))))
      clear ht hv hb2 HP
      go_wp2
      go_roundg (gk - 1)
      case measure => omega
      case rel => exact ⟨k + 1, t, v, by omega, by first | rfl | simp, rfl, rfl, HB.out⟩
    · have hd : decide ((k : Int) < n) = false := by simp; omega
      have HK := Aside.intro (show xs.take k = xs by rw [List.take_of_length_le]; rw [← HR.out.2.2]; omega)
      have HE := hid (fun u : World => together10 HA.out.1 HA.out.2.1 u)
      go_wp2_with fail
      refine (HE.out _).mono ?_
      rintro r w2 ⟨t, rfl, ht, hb2⟩
      have HT := hid (fun u : World => told10 ht u)
      have HB := Aside.intro (HA.out.2.2.1.trans (hb2.mono HA.out.2.2.1.size))
      clear ht hb2 HE
      rw [HK.out] at HT
      obtain ⟨Y, hY⟩ : ∃ Y, Y = plF (xs.foldl neS (0, 0)).1 (xs.foldl neS (0, 0)).2 := ⟨_, rfl⟩
      rw [← hY] at HT
      have HY := Aside.intro hY
      clear hY
      go_wp2_with fail
      refine (HT.out _).mono ?_
      rintro r w3 ⟨rfl, rfl⟩
      go_wp2
      refine bodyPost_ret (v := .float .f64 Y) (by simp [results, Tryz.results36, go_sem]) rfl ?_
      exact ⟨by rw [HY.out]; rfl, HB.out⟩

theorem Neumaier10 (xs : List Nat) (a : Option Addr) (n c : Nat) (w : World) (hn : n = xs.length) (hF : Fs w.heap.size w a xs) (hW : W64 xs) (hm : n ≤ 4611686018427387904) :
    Calls Tryz.prog 12 #[.slice a n c] w fun r w' => r = .returned (.float .f64 (plF (neF xs).1 (neF xs).2)) ∧ Below w.heap.size w w' := by
  have H1 := hid (sumNeumaier xs a n c w hn hF hW hm)
  obtain ⟨y, hy⟩ : ∃ y, y = (plF (neF xs).1 (neF xs).2) := ⟨_, rfl⟩
  rw [← hy] at H1 ⊢
  clear hn hF hW hm hy
  go_enter Tryz.func12, Tryz.ntmps12
  go_wp2_with fail
  refine (H1.out).mono ?_
  rintro r w1 ⟨rfl, hb⟩
  have HB := Aside.intro hb
  clear hb
  go_wp2
  exact bodyPost_ret (v := .float .f64 y) (by simp [results, Tryz.results12, go_sem]) rfl ⟨rfl, HB.out⟩
end Go.Proofs.YteoednbmhiblfaaGreatDoor

/- live: the law's first look. -/
namespace Go.Proofs.YteoednbmhiblfaaGreatDoor
open Go.RowKit J
set_option linter.unusedVariables false
set_option maxRecDepth 20000
set_option linter.unusedSimpArgs false

theorem ldexp_pow10 (e E : Nat) (x : Int) (w : World) (he0 : 0 < e) (he1 : e < 2047) (hE0 : 0 < E) (hE : E < 2047) (hx0 : -3000 ≤ x) (hx1 : x ≤ 3000) (hxE : (E : Int) = x + e) :
    Calls Tryz.prog 67 #[.float .f64 (B.bw false e 0), .int .i64 x] w fun r w' => r = .returned (.float .f64 (B.bw false E 0)) ∧ w' = w := by
  have hb : B.bw false e 0 = e * 4503599627370496 + 0 := by unfold B.bw; simp
  have hd : B.bw false E 0 = E * 4503599627370496 + 0 := by unfold B.bw; simp
  exact B.ldexp_norm (B.bw false e 0) e 0 (B.bw false E 0) x (x + ((e : Int) - 1023)) ((E : Int) * 4503599627370496) w (by rw [hb]; omega) hx0 hx1 he0 he1 (by omega)
    (by rw [B.eq_zero false e 0 (by omega) (by omega)]; simp; omega) (hid fun u => B.isInf0 e 0 (by omega) (by omega) u) (hid fun u => B.nan_no e 0 (by omega) (by omega) u) (hid fun u => B.normalize_any e 0 he0 (by omega) (by omega) u)
    (B.bw_exp false e 0 (by omega) (by omega)) (B.mask_clear e 0 (by omega) (by omega)) rfl (by omega) (by omega) (by omega) (by omega) (by omega) (B.join_exp E 0 (by omega) (by omega)) (B.mul_one _ (by rw [hd]; omega) (by rw [hd]; omega) _)
set_option maxHeartbeats 1000000 in
theorem Ldexp100 (w : World) : Calls Tryz.prog 28 #[.float .f64 4607182418800017408, .int .i64 100] w fun r w' => r = .returned (.float .f64 5057542381537067008) ∧ w' = w := by
  have H := hid (ldexp_pow10 1023 1123 100 w (by decide) (by decide) (by decide) (by decide) (by decide) (by decide) (by decide))
  rw [show B.bw false 1023 0 = 4607182418800017408 by decide, show B.bw false 1123 0 = 5057542381537067008 by decide] at H
  go_enter Tryz.func28, Tryz.ntmps28
  go_wp2_with fail
  refine H.out.mono ?_
  rintro r w1 ⟨rfl, rfl⟩
  go_wp2
  go_ret
  exact ⟨rfl, rfl⟩
def lvL : List Nat := [4607182418800017408, 5057542381537067008, 4607182418800017408, 14280914418391842816]
theorem lv_run : runF lvL = 0 := by kernel_rfl
theorem lv_ne : plF (neF lvL).1 (neF lvL).2 = 4611686018427387904 := by kernel_rfl
theorem lv_run2 : runF [4607182418800017408, 4611686018427387904] = 4613937818241073152 := by kernel_rfl
theorem lv_s : sS lvL = ⟨0, 0, 0, 0, 0, 4⟩ := by kernel_rfl
theorem lv_v (k : Nat) (hk : k = 2149) : vS lvL = ((2 ^ k : Nat) : Int) := by
  obtain ⟨j, hj⟩ : ∃ j, j = 2144 := ⟨_, rfl⟩
  obtain ⟨i, hi⟩ : ∃ i, i = 2248 := ⟨_, rfl⟩
  obtain ⟨m, hm⟩ : ∃ m, m = 2148 := ⟨_, rfl⟩
  have h1 := pT_one m hm
  have h2 := pT_pow 5057542381537067008 false j i (by decide) (by decide) (by decide) (by rw [hj]; decide) (by omega)
  have h3 := pT_pow 14280914418391842816 true j i (by decide) (by decide) (by decide) (by rw [hj]; decide) (by omega)
  simp only [vS, lvL, List.foldl_cons, List.foldl_nil]
  rw [h1, h2, h3, show k = m + 1 by omega, Nat.pow_succ]
  unfold sgn7
  simp only [Bool.false_eq_true, if_false, if_true]
  generalize (2 ^ m : Nat) = A
  generalize (2 ^ i : Nat) = C
  omega
theorem lv_rd : rd7 (vS lvL) (sS lvL) 0 0 0 = (4611686018427387904, 0) := by
  obtain ⟨k, hk⟩ : ∃ k, k = 2149 := ⟨_, rfl⟩
  rw [lv_v k hk, lv_s]
  have h0 : ((2 ^ k : Nat) : Int) ≠ 0 := by have := Nat.two_pow_pos k; omega
  have e : ahd ((2 ^ k : Nat) : Int) ⟨0, 0, 0, 0, 0, 4⟩ 0 0 0 = (0, false, 0) := by
    unfold ahd
    rw [if_neg (by decide), if_neg h0]
  have ex : exV ((2 ^ k : Nat) : Int) = some (false, 1, 1) := by
    unfold exV
    rw [decide_eq_false (Int.not_lt.mpr (Int.natCast_nonneg _)), Int.natAbs_natCast, mkS_pow7, hk]
    kernel_rfl
  have e2 : rndS (mkS (dN (some (false, 1, 1))) (dX (some (false, 1, 1))) (dE (some (false, 1, 1)))) 0 = (4611686018427387904, 0) := by kernel_rfl
  unfold rd7
  rw [e, ex, e2]
  rfl

set_option maxHeartbeats 4000000 in
theorem live10 (w : World) (hT : Tab w) : Calls Tryz.prog 7 #[] w fun r w' => r = .returned (.bool true) ∧ Below w.heap.size w w' := by
  have HL := hid (fun u : World => Ldexp100 u)
  have hneg : ∀ u : World, Sem.run Tryz.prog (Op.unary UnOp.neg (Value.float FloatKind.f64 5057542381537067008)) u = .ok (.float .f64 14280914418391842816) u := fun u => by kernel_rfl
  have HT := Aside.intro hT
  clear hT
  go_enter Tryz.func7, Tryz.ntmps7
  go_wp2_with fail
  refine (HL.out _).mono ?_
  rintro r u ⟨rfl, rfl⟩
  clear HL
  obtain ⟨W, hW⟩ : ∃ W, W = u.alloc (.cells #[.float .f64 4607182418800017408, .float .f64 5057542381537067008, .float .f64 4607182418800017408, .float .f64 14280914418391842816] 25) := ⟨_, rfl⟩
  have HW : Aside (Bl W u.heap.size 25 [.float .f64 4607182418800017408, .float .f64 5057542381537067008, .float .f64 4607182418800017408, .float .f64 14280914418391842816] ∧ Below u.heap.size u W ∧ u.heap.size < W.heap.size) := by
    rw [hW]; exact ⟨Bl.new _ _ _, bel_alloc _ _, by simp⟩
  have HF : Aside (∀ v : World, Below W.heap.size W v → Fs v.heap.size v (some ⟨u.heap.size, 0, none⟩) lvL) := fun v hb => by
    have hbl := HW.out.1.below hb HW.out.2.2
    refine fun _ => ⟨u.heap.size, 0, hbl.lt, rfl, fun i hi => ?_⟩
    have hc : i = 0 ∨ i = 1 ∨ i = 2 ∨ i = 3 := by simp [lvL] at hi; omega
    rw [Nat.zero_add]
    rcases hc with rfl | rfl | rfl | rfl <;> exact hbl.cell _ _ rfl
  have hW64 : W64 lvL := by intro x hx; simp only [lvL, List.mem_cons, List.not_mem_nil, or_false] at hx; rcases hx with rfl | rfl | rfl | rfl <;> decide
  have E1 := hid (Exact10 lvL (some ⟨u.heap.size, 0, none⟩) 4 4 0 0 0 W rfl (HF.out W (Below.refl _ _)) hW64 (HT.out.belows HW.out.2.1) (by decide) (by decide) (by decide) (by decide) (by decide) (by decide))
  rw [lv_rd] at E1
  have E2 := hid (fun (v : World) (hb : Below W.heap.size W v) => Running10 lvL (some ⟨u.heap.size, 0, none⟩) 4 4 v rfl (HF.out v hb) hW64 (by decide) (by decide))
  rw [lv_run] at E2
  have E3 := hid (fun (v : World) (hb : Below W.heap.size W v) => Neumaier10 lvL (some ⟨u.heap.size, 0, none⟩) 4 4 v rfl (HF.out v hb) hW64 (by decide))
  rw [lv_ne] at E3
  have q1 : (FloatKind.f64.format.order 4611686018427387904 4611686018427387904 == some .eq) = true := by kernel_rfl
  have q2 : (FloatKind.f64.format.order 0 0 == some .eq) = true := by kernel_rfl
  have q3 : (FloatKind.f64.format.order 4613937818241073152 4613937818241073152 == some .eq) = true := by kernel_rfl
  have HWW := Aside.intro hW
  clear hW hW64
  go_wp2_with fail
  rw [← HWW.out]
  refine (E1.out).mono ?_
  rintro r v1 ⟨rfl, hb1⟩
  have B1 := Aside.intro hb1
  clear hb1 E1
  go_wp2_with fail
  refine (E2.out _ B1.out).mono ?_
  rintro r v2 ⟨rfl, hb2⟩
  have B2 := Aside.intro (B1.out.trans (hb2.mono B1.out.size))
  clear hb2 E2
  go_wp2_with fail
  refine (E3.out _ B2.out).mono ?_
  rintro r v3 ⟨rfl, hb3⟩
  have B3 := Aside.intro (B2.out.trans (hb3.mono B2.out.size))
  clear hb3 E3
  obtain ⟨W2, hW2⟩ : ∃ W2, W2 = v3.alloc (.cells #[.float .f64 4607182418800017408, .float .f64 4611686018427387904] 25) := ⟨_, rfl⟩
  have H2 : Aside (Bl W2 v3.heap.size 25 [.float .f64 4607182418800017408, .float .f64 4611686018427387904] ∧ Below v3.heap.size v3 W2 ∧ v3.heap.size < W2.heap.size) := by
    rw [hW2]; exact ⟨Bl.new _ _ _, bel_alloc _ _, by simp⟩
  have E4 := hid (Running10 [4607182418800017408, 4611686018427387904] (some ⟨v3.heap.size, 0, none⟩) 2 2 W2 rfl (fun _ => ⟨v3.heap.size, 0, H2.out.2.2, rfl, fun i hi => by
    have hc : i = 0 ∨ i = 1 := by simp at hi; omega
    rw [Nat.zero_add]
    rcases hc with rfl | rfl <;> exact H2.out.1.cell _ _ rfl⟩) (by intro x hx; simp only [List.mem_cons, List.not_mem_nil, or_false] at hx; rcases hx with rfl | rfl <;> decide) (by decide) (by decide))
  rw [lv_run2] at E4
  have HW2 := Aside.intro hW2
  clear hW2
  go_wp2_with fail
  rw [← HW2.out]
  refine (E4.out).mono ?_
  rintro r v4 ⟨rfl, hb4⟩
  have B4 := Aside.intro hb4
  clear hb4 E4
  go_wp2
  go_ret
  have b1 := HW.out.2.1.trans (B3.out.mono HW.out.2.1.size)
  have b2 := b1.trans (H2.out.2.1.mono b1.size)
  exact ⟨rfl, b2.trans (B4.out.mono b2.size)⟩
end Go.Proofs.YteoednbmhiblfaaGreatDoor

/- The document's small functions and its running sum. -/
namespace Go.Proofs.YteoednbmhiblfaaGreatDoor
open Go.RowKit J
set_option linter.unusedVariables false
set_option maxRecDepth 20000
set_option linter.unusedSimpArgs false
attribute [local go_sem] B.f64bits B.f64frombits st_float

theorem rOf10 (b : Nat) (w : World) : Calls Tryz.prog 29 #[.int .u64 (b : Nat)] w fun r w' => r = .returned (.float .f64 b) ∧ w' = w := by
  go_enter Tryz.func29, Tryz.ntmps29
  go_wp2
  exact bodyPost_ret (v := .float .f64 b) (by simp [results, Tryz.results29, go_sem]) rfl ⟨rfl, rfl⟩
theorem rOf10z (w : World) : Calls Tryz.prog 29 #[.int .u64 0] w fun r w' => r = .returned (.float .f64 0) ∧ w' = w := rOf10 0 w
theorem rBits10 {x : Nat} (hx : x < 18446744073709551616) (w : World) : Calls Tryz.prog 71 #[.float .f64 x] w fun r w' => r = .returned (.int .u64 (nrm x : Nat)) ∧ w' = w := by
  obtain ⟨s, e, f, he, hf, h1, h2⟩ := bwz x hx
  have e1 : nrm x = B.cb s e f := by
    unfold nrm B.cb
    rw [← h2, h1]
    unfold B.odd
    by_cases h : e = 2047 ∧ f ≠ 0
    · rw [if_pos h, if_pos (by simp [h.1, h.2])]; rfl
    · rw [if_neg h, if_neg (by simpa using h)]
  rw [e1, h1]
  exact B.rBits_any s e f he hf w
theorem rone10 {x : Nat} (hx : x < 18446744073709551616) (w : World) : Calls Tryz.prog 41 #[.float .f64 x] w fun r w' => r = .returned (.float .f64 (nrm x)) ∧ w' = w := by
  have H1 := hid (fun u : World => rBits10 hx u)
  have H2 := hid (fun u : World => rOf10 (nrm x) u)
  obtain ⟨z, hz⟩ : ∃ z, nrm x = z := ⟨_, rfl⟩
  rw [hz] at H1 H2 ⊢
  clear hx hz
  go_enter Tryz.func41, Tryz.ntmps41
  go_wp2_with fail
  refine (H1.out _).mono ?_
  rintro r w1 ⟨rfl, rfl⟩
  go_wp2_with fail
  refine (H2.out _).mono ?_
  rintro r w1 ⟨rfl, rfl⟩
  go_wp2
  exact bodyPost_ret (v := .float .f64 z) (by simp [results, Tryz.results41, go_sem]) rfl ⟨rfl, rfl⟩
theorem rraw10 (x : Nat) (w : World) : Calls Tryz.prog 39 #[.float .f64 x] w fun r w' => r = .returned (.int .u64 (x : Nat)) ∧ w' = w := by
  go_enter Tryz.func39, Tryz.ntmps39
  go_wp2
  exact bodyPost_ret (v := .int .u64 (x : Nat)) (by simp [results, Tryz.results39, go_sem]) rfl ⟨rfl, rfl⟩
theorem exact10 (x y : Nat) (w : World) : Calls Tryz.prog 14 #[.float .f64 x, .float .f64 y] w fun r w' => r = .returned (.bool (x == y)) ∧ w' = w := by
  have e2 : ((x : Int) == (y : Int)) = (x == y) := by rw [Bool.eq_iff_iff, beq_iff_eq, beq_iff_eq]; omega
  go_enter Tryz.func14, Tryz.ntmps14
  go_wp2
  exact bodyPost_ret (v := .bool (x == y)) (by simp [results, Tryz.results14, go_sem, e2]) rfl ⟨rfl, rfl⟩

set_option maxHeartbeats 2000000 in
theorem rRunning10 (xs : List Nat) (a : Option Addr) (n c : Nat) (w : World) (hn : n = xs.length) (hF : Fs w.heap.size w a xs) (hW : W64 xs) (hm : n ≤ 4611686018427387904) :
    Calls Tryz.prog 15 #[.slice a n c] w fun r w' => r = .returned (.float .f64 (runF xs)) ∧ Below w.heap.size w w' := by
  by_cases h0 : n = 0
  · have e : xs = [] := List.eq_nil_of_length_eq_zero (by omega)
    subst h0 e
    have H := hid (fun u : World => rOf10z u)
    clear hF hW hn
    go_enter Tryz.func15, Tryz.ntmps15
    go_wp2_with fail
    refine (H.out _).mono ?_
    rintro r w1 ⟨rfl, rfl⟩
    go_wp2
    exact bodyPost_ret (v := .float .f64 0) (by simp [results, Tryz.results15, go_sem]) rfl ⟨rfl, Below.refl _ _⟩
  · have hne : xs ≠ [] := by intro e; subst e; simp at hn; omega
    obtain ⟨b, off, hlt, rfl, hcl⟩ := hF hne
    have hc0 := hcl 0 (by omega)
    rw [Nat.add_zero] at hc0
    have HR : Aside (Fs w.heap.size w (some ⟨b, off, none⟩) xs ∧ W64 xs ∧ n = xs.length) := ⟨hF, hW, hn⟩
    have hz0 : ((n : Int) == 0) = false := by simp; omega
    have hz1 : decide ((0 : Int) < n) = true := by simp; omega
    obtain ⟨x0, hx0⟩ : ∃ x0, x0 = xs.getD 0 0 := ⟨_, rfl⟩
    rw [← hx0] at hc0
    have H1 := hid (fun u : World => rone10 (x := x0) (by rw [hx0]; exact hW.get 0) u)
    have HX := Aside.intro (show nrm x0 = runF (xs.take 1) by rw [hx0, runF_one xs (by omega)])
    obtain ⟨z0, hz0'⟩ : ∃ z, z = nrm x0 := ⟨_, rfl⟩
    have HZ := Aside.intro hz0'
    rw [← hz0'] at H1 HX
    clear hF hW hn hcl hne hlt hx0 hz0'
    go_enter Tryz.func15, Tryz.ntmps15
    go_wp2_with fail
    refine (H1.out _).mono ?_
    rintro r w1 ⟨rfl, rfl⟩
    go_wp2
    go_loopg [4, 3] n (fun gk i s wr => ∃ (k z : Nat), gk + k = n + 1 ∧ 1 ≤ k ∧ i = .int .i64 (k : Nat) ∧ s = .float .f64 z ∧ Aside (z = runF (xs.take k) ∧ Below w1.heap.size w1 wr))
    case atStart => exact ⟨1, z0, by omega, by omega, by simp, rfl, HX.out, Below.refl _ _⟩
    case round =>
      obtain ⟨k, z, hgk, hk1, rfl, rfl, HA⟩ := hrel
      by_cases hk : k < n
      · have hcell := HR.out.1.cell HA.out.2 k (by rw [← HR.out.2.2]; exact hk)
        obtain ⟨x, hx⟩ : ∃ x, x = xs.getD k 0 := ⟨_, rfl⟩
        rw [← hx] at hcell
        have hz64 : z < 18446744073709551616 := by rw [HA.out.1]; exact (runF_ok _ (fun y hy => HR.out.2.1 y (List.mem_of_mem_take hy))).1
        have HP := hid (fun u : World => sPlus_any z x hz64 (by rw [hx]; exact HR.out.2.1.get k) u)
        have HE := Aside.intro (show plF z x = runF (xs.take (k + 1)) by rw [runF_take xs k (by omega) (by rw [← HR.out.2.2]; exact hk), ← HA.out.1, hx])
        obtain ⟨z', hz'⟩ : ∃ z', z' = arW .add z x := ⟨_, rfl⟩
        rw [← hz'] at HP
        have HZ' := Aside.intro hz'
        clear hx hz64 hz'
        go_wp2_with fail
        refine (HP.out _).mono ?_
        rintro r w2 ⟨rfl, hb2⟩
        have HB := Aside.intro hb2
        clear hb2 HP
        go_wp2
        go_roundg (gk - 1)
        case measure => omega
        case rel => exact ⟨k + 1, z', by omega, by omega, by go_num, rfl, by rw [HZ'.out]; exact HE.out, HA.out.2.trans (HB.out.mono HA.out.2.size)⟩
      · have hd : decide ((k : Int) < n) = false := by simp; omega
        have HK := Aside.intro (show xs.take k = xs by rw [List.take_of_length_le]; rw [← HR.out.2.2]; omega)
        go_wp2
        refine bodyPost_ret (v := .float .f64 z) (by simp [results, Tryz.results15, go_sem]) rfl ?_
        have e := HA.out.1
        rw [HK.out] at e
        exact ⟨by rw [e], HA.out.2⟩
end Go.Proofs.YteoednbmhiblfaaGreatDoor

/- Numbers that are lent: the document's Lent, AsLent. -/
namespace Go.Proofs.YteoednbmhiblfaaGreatDoor
open Go.RowKit J
set_option linter.unusedVariables false
set_option maxRecDepth 20000
set_option linter.unusedSimpArgs false
attribute [local go_sem] st_float

def Fw10 (n : Nat) : Value := .float .f64 n
theorem Tryz.und_floats : Tryz.prog.underlying 22 = some (.slice 25) := by kernel_rfl
theorem Tryz.info_f64 : (Tryz.prog.info? 25).map (fun i => (i.zero, i.size, i.bytes)) = some (some (.float .f64 0), 1, 8) := by kernel_rfl
/-- Block g is a row of these numbers, all of it, free to be written. -/
def OwnF (w : World) (g : Nat) (L : List Nat) : Prop := w.heap[g]? = some (.cells (L.map Fw10).toArray 25 (0, 0))
theorem OwnF.lt {w : World} {g : Nat} {L : List Nat} (h : OwnF w g L) : g < w.heap.size := (Array.getElem?_eq_some_iff.1 h).1
theorem OwnF.cell {w : World} {g : Nat} {L : List Nat} (h : OwnF w g L) (i : Nat) (hi : i < L.length) : w.cell? ⟨g, i, none⟩ = some (.float .f64 (L.getD i 0)) := by
  unfold OwnF at h
  simp [World.cell?, h, Fw10, hi]
theorem OwnF.frozen {w : World} {g : Nat} {L : List Nat} (h : OwnF w g L) (i : Nat) : w.frozen? ⟨g, i, none⟩ = false := by
  unfold OwnF at h
  simp [World.frozen?, h]
theorem OwnF.set {w : World} {g : Nat} {L : List Nat} (h : OwnF w g L) (i x : Nat) : OwnF (w.setCell ⟨g, i, none⟩ (.float .f64 x)) g (L.set i x) := by
  unfold OwnF at h ⊢
  simp only [World.setCell, Array.getElem?_modify, h]
  simp [Fw10, List.map_set]
theorem OwnF.drew {w : World} {g : Nat} {L : List Nat} (h : OwnF w g L) : OwnF w.drew g L := h
theorem OwnF.below {w w' : World} {g B : Nat} {L : List Nat} (h : OwnF w g L) (hb : Below B w w') (hg : g < B) : OwnF w' g L := by
  unfold OwnF at h ⊢
  rw [hb.block g hg]; exact h
theorem OwnF.fs {w : World} {g B : Nat} {L : List Nat} (h : OwnF w g L) (hg : g < B) (n : Nat) : Fs B w (some ⟨g, 0, none⟩) (L.take n) := by
  intro _
  refine ⟨g, 0, hg, rfl, fun i hi => ?_⟩
  rw [List.length_take] at hi
  rw [Nat.zero_add, h.cell i (by omega)]
  congr 2
  rw [List.getD_eq_getElem?_getD, List.getD_eq_getElem?_getD, List.getElem?_take, if_pos (by omega)]
theorem make_floats (z : Int) (n : Nat) (hz : z = (n : Int)) (hn : n ≤ 17592186044416) (w : World) :
    (Instr.makeSlice 22 (.int .i64 z) (.int .i64 z)).run Tryz.prog w = .ok (.slice (some ⟨w.heap.size, 0, none⟩) n n) (w.alloc (.cells (madeCells #[.float .f64 0] n) 25)) := by
  subst hz
  exact run_make_row' 22 25 (.float .f64 0) 8 Tryz.und_floats Tryz.info_f64 rfl .i64 .i64 n (by omega) (by omega) w
theorem OwnF.made (w : World) (n : Nat) : OwnF (w.alloc (.cells (madeCells #[.float .f64 0] n) 25)) w.heap.size (List.replicate n 0) := by
  unfold OwnF
  have h1 := heap_alloc_new w (.cells (madeCells #[.float .f64 0] n) 25)
  rw [h1]
  congr 2
  apply Array.toList_inj.1
  rw [toList_madeCells_one]
  simp [Fw10]
theorem copy_floats (w : World) (g dLen dCap : Nat) (ao : Option Addr) (sLen sCap B : Nat) (ty : TypeId)
    (L xs : List Nat) (hO : OwnF w g L) (hL : dLen ≤ L.length) (hx : sLen = xs.length) (hR : Fs B w ao xs) (hle : sLen ≤ dLen) :
    ∃ w', (Builtin.copy_ #[22, 22] ty #[.slice (some ⟨g, 0, none⟩) dLen dCap, .slice ao sLen sCap]).run Tryz.prog w = .ok (.int .i64 (sLen : Int)) w' ∧ OwnF w' g (xs ++ L.drop sLen) ∧ But g w w' := by
  subst hx
  have hmin : Nat.min xs.length dLen = xs.length := Nat.min_eq_left hle
  by_cases h0 : xs = []
  · subst h0
    exact ⟨w, run_copy_none (P := Tryz.prog) w 22 22 ty 25 _ _ _ _ _ _ Tryz.und_floats (by kernel_rfl) (by simp at hmin ⊢), by simpa using hO, But.refl _ _⟩
  · obtain ⟨b, off, hlt, rfl, hc⟩ := hR h0
    have hadd : ∀ j, (⟨b, off, none⟩ : Addr).add j = ⟨b, off + j, none⟩ := by intro j; unfold Addr.add; split <;> simp_all
    have hrun := run_copy_row (P := Tryz.prog) w 22 22 ty 25 g 0 dLen dCap ⟨b, off, none⟩ xs.length sCap (L.map Fw10).toArray 25 (xs.map Fw10) Tryz.und_floats (by kernel_rfl) hO (by rw [hmin]; simp) (by
      intro j v hv
      rw [hadd]
      have hj : j < xs.length := by
        have := (List.getElem?_eq_some_iff.1 hv).1
        simpa using this
      rw [hc j hj]
      simp [hj, Fw10] at hv
      simp [hj, ← hv]) (by simp; omega) (by
      intro v hv
      obtain ⟨n, _, rfl⟩ := List.mem_map.1 hv
      rfl)
    refine ⟨w.setRow g (((xs ++ L.drop xs.length).map Fw10)).toArray, ?_, setRow_heap w g _ _ 25 _ hO, ⟨rfl, rfl, rfl, by simp [World.setRow], fun k _ hk => setRow_other w g k _ hk⟩⟩
    simpa [List.map_append, List.map_drop, goInt] using hrun
theorem Fs.but {B g : Nat} {w w' : World} {ao : Option Addr} {xs : List Nat} (h : Fs B w ao xs) (hb : But g w w') (hB : B ≤ w.heap.size) (hg : B ≤ g) : Fs B w' ao xs := by
  intro hne
  obtain ⟨b, off, h1, h2, h3⟩ := h hne
  refine ⟨b, off, h1, h2, fun i hi => ?_⟩
  rw [← h3 i hi]
  exact World.cell?_of_block (a := ⟨b, off + i, none⟩) (hb.block b (by omega) (by omega))

/-- The mark. -/
def mrk : Nat := 4693671547643874799
theorem lent8_zeros (xs : List Nat) (n : Nat) (hn : n = xs.length) : xs ++ (List.replicate (n + 8) 0).drop n = xs ++ List.replicate 8 0 := by
  rw [List.drop_replicate, show n + 8 - n = 8 by omega]
theorem lent8_set (xs : List Nat) (n k : Nat) (hn : n = xs.length) (hk : k < 8) : (xs ++ (List.replicate k mrk ++ List.replicate (8 - k) 0)).set (n + k) mrk = xs ++ (List.replicate (k + 1) mrk ++ List.replicate (8 - (k + 1)) 0) := by
  subst hn
  have hc : k = 0 ∨ k = 1 ∨ k = 2 ∨ k = 3 ∨ k = 4 ∨ k = 5 ∨ k = 6 ∨ k = 7 := by omega
  rw [List.set_append_right _ _ (by omega), Nat.add_sub_cancel_left]
  rcases hc with rfl | rfl | rfl | rfl | rfl | rfl | rfl | rfl <;> rfl

set_option maxHeartbeats 2000000 in
theorem rLent10 (xs : List Nat) (ao : Option Addr) (n cap B : Nat) (w : World) (hn : n = xs.length) (hm : n ≤ 17592186043904) (hR : Fs B w ao xs) (hB : B ≤ w.heap.size) :
    Calls Tryz.prog 8 #[.slice ao n cap] w fun r w' => r = .returned (.slice (some ⟨w.heap.size, 0, none⟩) n (n + 8)) ∧ OwnF w' w.heap.size (xs ++ List.replicate 8 mrk) ∧ Below w.heap.size w w' := by
  have hmk := make_floats ((n + 8 : Nat) : Int) (n + 8) rfl (by omega)
  have hmk2 := make_floats ((n : Int) + 8) (n + 8) (by omega) (by omega)
  have HO2 : Hid (OwnF (w.alloc (.cells (madeCells #[.float .f64 0] (n + 8)) 25)) w.heap.size (List.replicate (n + 8) 0)) := OwnF.made w (n + 8)
  obtain ⟨w2, hcp, hO2, hbut⟩ := copy_floats _ w.heap.size (n + 8) (n + 8) ao n cap B 3 (List.replicate (n + 8) 0) xs HO2.out (by simp) hn (hR.below ((Below.refl _ _).alloc hB _)) (by omega)
  rw [lent8_zeros xs n hn] at hO2
  have HX := (Aside.intro (And.intro hO2 (And.intro hbut hn)))
  have HM := hid (fun u : World => rOf10 mrk u)
  clear hO2 hbut HO2 hn hR
  go_enter Tryz.func8, Tryz.ntmps8
  go_wp2
  go_loopg [4] 8 (fun gk i wr => ∃ k : Nat, gk + k = 8 ∧ i = .int .i64 ((n + k : Nat) : Int) ∧ Aside (OwnF wr w.heap.size (xs ++ (List.replicate k mrk ++ List.replicate (8 - k) 0)) ∧ But w.heap.size w2 wr))
  case atStart => exact ⟨0, by omega, by simp, HX.out.1, But.refl _ _⟩
  case round =>
    obtain ⟨k, hgk, rfl, HA⟩ := hrel
    by_cases hk : k < 8
    · have hd : decide (((n + k : Nat) : Int) < (n : Int) + 8) = true := by simp; omega
      have hfz := HA.out.1.frozen (n + k)
      have hcl := HA.out.1.cell (n + k) (by rw [HX.out.2.2]; simp; omega)
      go_wp2_with fail
      refine (HM.out _).mono ?_
      rintro r w3 ⟨rfl, rfl⟩
      go_wp2
      go_roundg (gk - 1)
      case measure => omega
      case rel =>
        refine ⟨k + 1, by omega, by go_num, ?_, HA.out.2.set _ _⟩
        rw [← lent8_set xs n k HX.out.2.2 hk]
        exact HA.out.1.set (n + k) mrk
    · obtain rfl : k = 8 := by omega
      have hd : decide (((n + 8 : Nat) : Int) < (n : Int) + 8) = false := by simp
      go_wp2
      go_ret
      refine ⟨rfl, ?_, ?_⟩
      · simpa using HA.out.1
      · exact But.below ((Below.refl _ _).alloc (Nat.le_refl _) _) (HX.out.2.1.trans HA.out.2) (by simp) (Nat.le_refl _)

set_option maxHeartbeats 2000000 in
theorem rAsLent10 (xs : List Nat) (ao : Option Addr) (n cap B g : Nat) (w : World) (hn : n = xs.length) (hm : n ≤ 17592186043904) (hR : Fs B w ao xs) (hB : B ≤ w.heap.size) (hO : OwnF w g (xs ++ List.replicate 8 mrk)) :
    Calls Tryz.prog 13 #[.slice (some ⟨g, 0, none⟩) n (n + 8), .slice ao n cap] w fun r w' => r = .returned (.bool true) ∧ Below w.heap.size w w' := by
  have hgl := hO.lt
  have HX := (Aside.intro (And.intro hR (And.intro hO (And.intro hn (And.intro hB hgl)))))
  have HR := hid (fun (x : Nat) (u : World) => rraw10 x u)
  clear hR hO hn hB hgl
  go_enter Tryz.func13, Tryz.ntmps13
  go_wp2
  go_loopg [6] (n + 8) (fun gk i wr => ∃ k : Nat, gk + k = n + 8 ∧ i = .int .i64 (k : Nat) ∧ wr = w)
  case atStart => exact ⟨0, by omega, by simp, rfl⟩
  case round =>
    obtain ⟨k, hgk, rfl, rfl⟩ := hrel
    by_cases hk : k < n
    · have hcg := HX.out.2.1.cell k (by simp; rw [← HX.out.2.2.1]; omega)
      have e1 : (xs ++ List.replicate 8 mrk).getD k 0 = xs.getD k 0 := by
        rw [List.getD_eq_getElem?_getD, List.getElem?_append_left (by rw [← HX.out.2.2.1]; exact hk), List.getD_eq_getElem?_getD]
      rw [e1] at hcg
      obtain ⟨b, off, rfl, hcl⟩ := HX.out.1.at (Below.refl _ _) k (by rw [← HX.out.2.2.1]; exact hk)
      obtain ⟨x, hx⟩ : ∃ x, x = xs.getD k 0 := ⟨_, rfl⟩
      rw [← hx] at hcg hcl
      have hd : decide ((k : Int) < (n : Int) + 8) = true := by simp; omega
      have hne : (((x : Nat) : Int) != ((x : Nat) : Int)) = false := by simp
      clear hx e1
      go_wp2_with fail
      refine (HR.out _ _).mono ?_
      rintro r w3 ⟨rfl, rfl⟩
      go_wp2_with fail
      refine (HR.out _ _).mono ?_
      rintro r w3 ⟨rfl, rfl⟩
      go_wp2
      go_roundg (gk - 1)
      case measure => omega
      case rel => exact ⟨k + 1, by omega, by go_num, rfl⟩
    · by_cases hk8 : k < n + 8
      · have hcg := HX.out.2.1.cell k (by simp; rw [← HX.out.2.2.1]; omega)
        have e1 : (xs ++ List.replicate 8 mrk).getD k 0 = 4693671547643874799 := by
          rw [List.getD_eq_getElem?_getD, List.getElem?_append_right (by rw [← HX.out.2.2.1]; omega), List.getElem?_replicate, if_pos (by rw [← HX.out.2.2.1]; omega)]
          rfl
        rw [e1] at hcg
        have hd : decide ((k : Int) < (n : Int) + 8) = true := by simp; omega
        have hd2 : decide ((k : Int) < (n : Int)) = false := by simp; omega
        clear e1
        go_wp2_with fail
        refine (HR.out _ _).mono ?_
        rintro r w3 ⟨rfl, rfl⟩
        go_wp2
        go_roundg (gk - 1)
        case measure => omega
        case rel => exact ⟨k + 1, by omega, by go_num, rfl⟩
      · have hd : decide ((k : Int) < (n : Int) + 8) = false := by simp; omega
        go_wp2
        go_ret
        exact ⟨rfl, Below.refl _ _⟩
end Go.Proofs.YteoednbmhiblfaaGreatDoor

/- The program's Halving. -/
namespace Go.Proofs.YteoednbmhiblfaaGreatDoor
open Go.RowKit J
set_option linter.unusedVariables false
set_option maxRecDepth 20000
set_option linter.unusedSimpArgs false
attribute [local go_sem] st_float

set_option maxHeartbeats 2000000 in
theorem clone10 (xs : List Nat) (a : Option Addr) (n c : Nat) (w : World) (hn : n = xs.length) (hF : Fs w.heap.size w a xs) (hm : n ≤ 17592186043904) :
    Calls Tryz.prog 32 #[.slice a n c] w fun r w' => (∃ v', r = .returned v' ∧ w'.ownsRow w.heap.size 25 1 v' n (xs.map Fw10)) ∧ Below w.heap.size w w' := by
  obtain ⟨i0, hi, hz0, hz1, hz2⟩ := info_parts Tryz.info_f64
  have q25 : ∀ (w : World) (a : Option Addr) (n c n' c' : Nat), (binOp .eql 22 (.slice a n c) (.slice none n' c')).run Tryz.prog w = .ok (.bool a.isNone) w := fun w a n c n' c' => Lib.run_eql_slice_nil w _ _ a n c n' c' Tryz.und_floats
  cases a with
  | none =>
    have hx : xs = [] := by
      by_cases h : xs = []
      · exact h
      · obtain ⟨_, _, _, e, _⟩ := hF h; cases e
    subst hx
    simp only [List.length_nil] at hn
    subst hn
    clear hF hm
    go_enter Tryz.func32, Tryz.ntmps32
    go_wp2
    go_ret
    exact ⟨⟨_, rfl, World.ownsRow_nil w w.heap.size 25 1⟩, Below.refl _ _⟩
  | some ad =>
    have A := Aside.intro (And.intro hn (And.intro hF hm))
    clear hF hm hn
    go_enter Tryz.func32, Tryz.ntmps32
    go_wp2_with (at_builtin; refine wpList_append_own _ rfl _ _ 22 rfl w.heap.size 25 i0 (.float .f64 0) 1 8 Tryz.und_floats hi hz0 hz1 hz2 rfl (by decide) _ _ _ rfl (World.ownsRow_made w #[] 0 (Nat.le_refl _) (Nat.zero_le _) (by simp)) ad n c (xs.map Fw10) rfl ?qc1 ?qc2 ?qc3 ?qc4 ?qc5 ?qc6 ?_)
    case qc1 => simp [A.out.1]
    case qc2 =>
      intro j u hj
      have hj2 : j < xs.length := by have := (List.getElem?_eq_some_iff.1 hj).1; simpa using this
      obtain ⟨b, off, e, hc⟩ := A.out.2.1.at (Below.refl _ _) j hj2
      cases e
      rw [Addr.add_lit]
      refine Lib.cell?_alloc_some _ ?_
      rw [hc, ← hj, List.getElem?_map, List.getElem?_eq_getElem hj2, List.getD_eq_getElem?_getD, List.getElem?_eq_getElem hj2]
      rfl
    case qc3 => intro u hu; obtain ⟨x, _, rfl⟩ := List.mem_map.1 hu; rfl
    case qc4 => have := A.out.1; have := A.out.2.2; unfold maxLen; omega
    case qc5 => have := A.out.1; have := A.out.2.2; omega
    case qc6 => simp
    intro v' w1 hown hgrow hnil
    go_wp2
    go_ret
    refine ⟨⟨v', rfl, ?_⟩, ?_⟩
    · simpa using hown
    · exact ((Below.refl _ w).alloc (Nat.le_refl _) _).grown hgrow (by simp) (by intro k hk; simp [Value.ownBlock] at hk; omega)
/-- A row of words in a block: it reads so. -/
def Rw10 (w : World) (g : Nat) (C : List Value) (n : Nat) (R : List Nat) : Prop := Bl w g 25 C ∧ n ≤ C.length ∧ R.length = n ∧ ∀ j, j < n → ∃ z, C[j]? = some (.float .f64 z) ∧ Is z (nrm (R.getD j 0))
theorem own_row10 {w : World} {lo n : Nat} {v : Value} {xs : List Nat} (h : w.ownsRow lo 25 1 v n (xs.map Fw10)) (hW : W64 xs) (hn : n = xs.length) : (v = .slice none 0 0 ∧ n = 0) ∨ ∃ g C, v = .slice (some ⟨g, 0, none⟩) n C.length ∧ lo ≤ g ∧ Rw10 w g C n xs ∧ C.length ≤ maxLen := by
  rcases h.2 with ⟨rfl, hn0⟩ | ⟨g, cap, cur, rfl, hlo, hg, hn1, hm, hs, ht⟩
  · exact .inl ⟨rfl, by simpa using hn0⟩
  · refine .inr ⟨g, cur.toList, ?_, hlo, ⟨?_, ?_, hn.symm, fun j hj => ?_⟩, ?_⟩
    · congr 1
      simp at hs ⊢
      omega
    · unfold Bl; simpa using hg
    · simp at hs ⊢; omega
    · refine ⟨xs.getD j 0, ?_, Is.self (hW.get j)⟩
      have e : (cur.toList.take n)[j]? = some (Fw10 (xs.getD j 0)) := by
        have ht2 : cur.toList.take n = xs.map Fw10 := by simpa using ht
        rw [ht2, List.getElem?_map, List.getElem?_eq_getElem (by omega), List.getD_eq_getElem?_getD, List.getElem?_eq_getElem (by omega)]
        rfl
      rw [List.getElem?_take, if_pos hj] at e
      exact e
    · simp at hs ⊢; omega
theorem two_get : ∀ (l : List Nat) (j : Nat), j < l.length / 2 → (two l).getD j 0 = plF (l.getD (2 * j) 0) (l.getD (2 * j + 1) 0)
  | [], j, h => by simp at h
  | [a], j, h => by simp at h
  | a :: b :: l, 0, h => by simp [two]
  | a :: b :: l, j + 1, h => by
    have ih := two_get l j (by simp at h; omega)
    rw [show 2 * (j + 1) = 2 * j + 1 + 1 by omega]
    simpa [two] using ih
theorem two_last : ∀ (l : List Nat), l.length % 2 = 1 → (two l).getD (l.length / 2) 0 = l.getD (l.length - 1) 0
  | [], h => by simp at h
  | [a], h => by simp [two]
  | a :: b :: l, h => by
    have hl : l.length % 2 = 1 := by simp at h; omega
    have ih := two_last l hl
    have e1 : (a :: b :: l).length / 2 = l.length / 2 + 1 := by simp; omega
    have e2 : (a :: b :: l).length - 1 = (l.length - 1) + 1 + 1 := by simp; omega
    rw [e1, e2]
    simpa [two] using ih
end Go.Proofs.YteoednbmhiblfaaGreatDoor

