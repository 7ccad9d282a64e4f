/- Numbers' forms against powers of two, and against one another. -/
import Derived.Test.YtnnlicahgdcbdaaDoorJ11x
import Derived.Test.YtnnlicahgdcbdaaDoorD16x
import Derived.Test.YtnnlicahgdcbdaaDoorJ3x
import Derived.Test.YtnnlicahgdcbdaaDoorD21x
import Derived.BigQuiet
import Derived.Deep.RegionHeld3
import Derived.Test.YtnnlicahgdcbdaaDoorD33x
namespace Go.Proofs.YtnnlicahgdcbdaaDoor
open Go.RowKit J
set_option linter.unusedVariables false
set_option maxRecDepth 20000
set_option linter.unusedSimpArgs false

/-- A value's size. -/
theorem fo_abs {n : Bool} {X : Nat} {e z L H : Int} (h : Fo (some (n, X, e)) z L H) : X * 2 ^ (e - -2097152).toNat = z.natAbs * SS := by
  obtain ⟨F, hv, _⟩ := h.frm
  unfold zv at hv
  simp only at hv
  have := congrArg Int.natAbs hv
  rw [Int.natAbs_mul, Int.natAbs_mul, Int.natAbs_natCast, Int.natAbs_natCast] at this
  rw [← this]
  unfold sg1; cases n <;> simp
theorem fo_zero {n : Bool} {X : Nat} {e z L H : Int} (h : Fo (some (n, X, e)) z L H) : X = 0 ↔ z = 0 := by
  have a := fo_abs h
  have hS := S_pos
  constructor
  · intro hX
    rw [hX, Nat.zero_mul] at a
    rcases Nat.mul_eq_zero.1 a.symm with q | q <;> omega
  · intro hz
    rw [hz, Int.natAbs_zero, Nat.zero_mul] at a
    rcases Nat.mul_eq_zero.1 a with q | q
    · exact q
    · have := Nat.two_pow_pos (e - -2097152).toNat; omega
theorem cmpZ_scale (x y : Int) (k : Nat) (hk : 0 < k) : cmpZ (x * (k : Int)) (y * (k : Int)) = cmpZ x y := by
  have hlt : ∀ a b : Int, a * (k : Int) < b * (k : Int) ↔ a < b := fun a b => ⟨fun h => Int.lt_of_mul_lt_mul_right h (by omega), fun h => Int.mul_lt_mul_of_pos_right h (by omega)⟩
  unfold cmpZ
  simp only [hlt]
/-- TwoP forms. -/
theorem cmp_fo {n m : Bool} {X Y : Nat} {e f x y L H L' H' : Int} (h1 : Fo (some (n, X, e)) x L H) (h2 : Fo (some (m, Y, f)) y L' H') : cmpV n X e m Y f = cmpZ x y := by
  obtain ⟨F, hv, _⟩ := h1.frm
  obtain ⟨G, hw, _⟩ := h2.frm
  have d1 := F.down
  have d2 := G.down
  rw [cmpV_z n X e m Y f (-2097152) (by omega) (by omega)]
  have a1 : sg1 n * ((X * 2 ^ (e - -2097152).toNat : Nat) : Int) = x * (SS : Int) := hv
  have a2 : sg1 m * ((Y * 2 ^ (f - -2097152).toNat : Nat) : Int) = y * (SS : Int) := hw
  rw [a1, a2, cmpZ_scale x y SS S_pos]
/-- TwoP sizes. -/
theorem cmp_size9 {n m : Bool} {X Y : Nat} {e f x y L H L' H' : Int} (h1 : Fo (some (n, X, e)) x L H) (h2 : Fo (some (m, Y, f)) y L' H') : cmpV false X e false Y f = cmpZ (x.natAbs : Int) (y.natAbs : Int) := by
  have d1 := h1.frm.1.down
  have d2 := h2.frm.1.down
  rw [cmpV_z false X e false Y f (-2097152) (by omega) (by omega), fo_abs h1, fo_abs h2]
  unfold sg1
  simp only [Bool.false_eq_true, if_false, Int.one_mul, Int.natCast_mul]
  rw [cmpZ_scale _ _ SS S_pos]
end Go.Proofs.YtnnlicahgdcbdaaDoor

/- Exact sums as dyads, by value. -/
namespace Go.Proofs.YtnnlicahgdcbdaaDoor
open Go.RowKit
set_option linter.unusedVariables false
set_option maxRecDepth 20000
set_option linter.unusedSimpArgs false

/-- The form of V times 2^-1074. -/
def fo8 (V : Int) : Option (Bool × Nat × Int) := mkS (decide (V < 0)) V.natAbs (-1074)
theorem sg1_abs (V : Int) : sg1 (decide (V < 0)) * (V.natAbs : Int) = V := by
  unfold sg1
  by_cases h : V < 0
  · rw [decide_eq_true h, if_pos rfl]; omega
  · rw [decide_eq_false h, if_neg (by decide)]; omega
theorem fo8_fo (V : Int) (m : Nat) (hm : m ≤ 200000) (hV : V.natAbs < 2 ^ m) : Fo (fo8 V) (V * (UU : Int)) (-1074) ((m : Int) - 1074) := by
  by_cases h0 : V = 0
  · subst h0
    refine ⟨⟨false, 0, 0, ?_, ?_, ?_, .inl rfl⟩⟩
    · unfold fo8; exact mkS_zero _ _
    · exact mkS_frm (mkS_zero false 0)
    · rw [zv_zero _ rfl]; simp
  · obtain ⟨X, e, h1, h2, h3, h4⟩ := mkS_sz (decide (V < 0)) V.natAbs (-1074) (-1074) ((m : Int) - 1074) (by omega) (by omega) (by have := blLe hV; omega) (by omega) (by omega) (by omega)
    refine ⟨⟨_, X, e, h1, mkS_frm h1, ?_, .inr ⟨h3, h4⟩⟩⟩
    rw [zv_mkS h1 (-2097152) (.inr (by omega))]
    have e1 : (2 : Nat) ^ ((-1074 : Int) - -2097152).toNat = UU * SS := US _ (by decide)
    rw [e1, Int.natCast_mul, Int.natCast_mul, ← Int.mul_assoc, sg1_abs, Int.mul_assoc]
theorem fo8_one {o : Option (Bool × Nat × Int)} {V L H : Int} (h : Fo o (V * (UU : Int)) L H) (m : Nat) (hm : m ≤ 200000) (hV : V.natAbs < 2 ^ m) : o = fo8 V := by
  obtain ⟨n, X, e, rfl, F1, z1, _⟩ := h.ex
  obtain ⟨n', X', e', h2, F2, z2, _⟩ := (fo8_fo V m hm hV).ex
  rw [h2]
  obtain ⟨rfl, rfl, rfl⟩ := zv_inj F1 F2 (-2097152) (by omega) (by rw [z1, z2])
  rfl
theorem fo8_frm (V : Int) (m : Nat) (hm : m ≤ 200000) (hV : V.natAbs < 2 ^ m) : ∃ n X e, fo8 V = some (n, X, e) ∧ Frm n X e ∧ (X = 0 ↔ V = 0) ∧ (V ≠ 0 → n = decide (V < 0)) ∧ -1074 ≤ e ∧ e ≤ 200000 := by
  have h := fo8_fo V m hm hV
  obtain ⟨n, X, e, h1, F, z, hb⟩ := h.ex
  have hz := fo_zero (h1 ▸ h)
  have hU := U_pos
  have hz2 : X = 0 ↔ V = 0 := by
    rw [hz]
    constructor
    · intro q
      rcases Int.mul_eq_zero.1 q with q | q
      · exact q
      · omega
    · intro q; rw [q]; simp
  refine ⟨n, X, e, h1, F, hz2, fun hV0 => ?_, ?_⟩
  · have := (round_fo (h1 ▸ h) (fun q => by rcases Int.mul_eq_zero.1 q with q | q; exact hV0 q; omega)).2.1
    rw [this, decide_eq_decide]
    constructor
    · intro q
      by_cases q2 : V < 0
      · exact q2
      · have := Int.mul_nonneg (show 0 ≤ V by omega) (show (0 : Int) ≤ UU by omega); omega
    · intro q; exact Int.mul_neg_of_neg_of_pos q (by omega)
  · rcases hb with q | ⟨q1, q2⟩
    · rcases F.odd with q3 | ⟨_, _, q3⟩
      · omega
      · omega
    · constructor
      · exact q1
      · omega
/-- Sums of forms. -/
theorem fo8_add (V U : Int) (m : Nat) (hm : m ≤ 100000) (hV : V.natAbs < 2 ^ m) (hU : U.natAbs < 2 ^ m) : addD (fo8 V) (fo8 U) = fo8 (V + U) := by
  have h1 := fo8_fo V m (by omega) hV
  have h2 := fo8_fo U m (by omega) hU
  have h3 := h1.add h2 (by omega) (by omega) (by omega)
  rw [← Int.add_mul] at h3
  have : 2 ^ (m + 1) = 2 * 2 ^ m := by rw [Nat.pow_succ, Nat.mul_comm]
  exact fo8_one h3 (m + 1) (by omega) (by omega)
theorem fo8_self (V : Int) (m : Nat) (hm : m ≤ 200000) (hV : V.natAbs < 2 ^ m) : mkS (dN (fo8 V)) (dX (fo8 V)) (dE (fo8 V)) = fo8 V := by
  obtain ⟨n, X, e, h1, F, _⟩ := fo8_frm V m hm hV
  rw [h1]
  exact mkS_idem F
theorem fo8_er (V : Int) (m : Nat) (hm : m ≤ 200000) (hV : V.natAbs < 2 ^ m) : erS (fo8 V) = 0 := by
  obtain ⟨n, X, e, h1, F, _⟩ := fo8_frm V m hm hV
  rw [h1]
  rfl
theorem fo8_neg (V : Int) (m : Nat) (hm : m ≤ 200000) (hV : V.natAbs < 2 ^ m) : mkS (!(dN (fo8 V))) (dX (fo8 V)) (dE (fo8 V)) = fo8 (-V) := by
  obtain ⟨n, X, e, h1, F, h2, h3, h4⟩ := fo8_frm V m hm hV
  have h := fo8_fo V m hm hV
  rw [h1] at h ⊢
  obtain ⟨_, hz, hb⟩ := h.frm
  show mkS (!n) X e = _
  by_cases hX : X = 0
  · have : V = 0 := h2.1 hX
    subst this
    rw [hX]
    unfold fo8
    simp only [Int.neg_zero, Int.natAbs_zero]
    rw [mkS_zero, mkS_zero]
  · have ho : X % 2 = 1 := by rcases F.odd with q | q; exact q; exact absurd q.1 hX
    have hs : mkS (!n) X e = some (!n, X, e) := by
      rw [mkS_odd _ _ _ ho, if_neg (by have := F.size; have := F.up; have := F.down; omega)]
    refine fo8_one (L := -1074) (H := (m : Int) - 1074) ⟨⟨!n, X, e, hs, mkS_frm hs, ?_, hb⟩⟩ m hm (by rw [Int.natAbs_neg]; exact hV)
    have : zv (-2097152) (!n, X, e) = -zv (-2097152) (n, X, e) := by
      unfold zv
      simp only
      rw [sg1_not, Int.neg_mul]
    rw [this, hz, Int.neg_mul, Int.neg_mul]
/-- A form, times a power of two. -/
theorem fo8_up (V : Int) (up m : Nat) (hm : m + up ≤ 100000) (hV : V.natAbs < 2 ^ m) : mkS (dN (fo8 V)) (dX (fo8 V)) (dE (fo8 V) + (up : Nat)) = fo8 (V * 2 ^ up) := by
  obtain ⟨n, X, e, h1, F, h2, h3, h4, h5⟩ := fo8_frm V m (by omega) hV
  have h := fo8_fo V m (by omega) hV
  rw [h1] at h ⊢
  obtain ⟨_, hz, hb⟩ := h.frm
  show mkS n X (e + (up : Nat)) = _
  by_cases hX : X = 0
  · have : V = 0 := h2.1 hX
    subst this
    rw [hX]
    unfold fo8
    simp only [Int.zero_mul, Int.natAbs_zero]
    rw [mkS_zero, mkS_zero]
  · have ho : X % 2 = 1 := by rcases F.odd with q | q; exact q; exact absurd q.1 hX
    rcases hb with hb | ⟨hb1, hb2⟩
    · exact absurd hb hX
    have hs : mkS n X (e + (up : Nat)) = some (n, X, e + (up : Nat)) := by
      rw [mkS_odd _ _ _ ho, if_neg (by have := F.size; have := F.up; have := F.down; omega)]
    refine fo8_one (L := -1074) (H := ((m + up : Nat) : Int) - 1074) ⟨⟨n, X, e + (up : Nat), hs, mkS_frm hs, ?_, .inr ⟨by omega, by omega⟩⟩⟩ (m + up) (by omega) ?_
    · have : zv (-2097152) (n, X, e + (up : Nat)) = zv (-2097152) (n, X, e) * 2 ^ up := by
        unfold zv
        simp only
        have e2 : (e + (up : Nat) - -2097152).toNat = (e - -2097152).toNat + up := by omega
        rw [e2, Nat.pow_add, ← Nat.mul_assoc, Int.natCast_mul, Int.natCast_pow 2 up, ← Int.mul_assoc]
        rfl
      rw [this, hz]
      rw [Int.mul_assoc, Int.mul_comm (SS : Int), ← Int.mul_assoc, Int.mul_assoc V, Int.mul_comm (UU : Int), ← Int.mul_assoc]
    · rw [Int.natAbs_mul, Int.natAbs_pow, Nat.pow_add]
      exact Nat.mul_lt_mul_of_pos_right hV (Nat.two_pow_pos _)
/-- What Of says of a number. -/
theorem top_fv {x : Nat} (hx : Wd x) (fx : finW x) (m : Nat) (hm : m = 2098) : (fvW x).natAbs < 2 ^ m := by
  unfold fvW
  rw [sg_abs]
  have := top_v (magW x) fx 2045 rfl
  obtain ⟨a, ha⟩ : ∃ a, a = 2045 := ⟨_, rfl⟩
  have h2 := top_v (magW x) fx a ha
  rw [show m = 53 + a by omega, Nat.pow_add]
  exact h2
theorem of_fo8 {x : Nat} (hx : Wd x) (fx : finW x) : ofK (negW x) (magW x) = fo8 (fvW x) := by
  obtain ⟨n, X, e, h1, h2, _⟩ := of_fo (negW x) (magW x) fx
  rw [h1]
  exact fo8_one h2 2098 (by omega) (top_fv hx fx 2098 rfl)
end Go.Proofs.YtnnlicahgdcbdaaDoor

/- The program's row: exact. -/
namespace Go.Proofs.YtnnlicahgdcbdaaDoor
open Go.RowKit
set_option linter.unusedVariables false
set_option maxRecDepth 20000
set_option linter.unusedSimpArgs false

theorem fo8_len (V : Int) (m : Nat) (hm : m ≤ 200000) (hV : V.natAbs < 2 ^ m) : (ws (dX (fo8 V))).length ≤ 8192 ∧ -9223372036854775808 ≤ dE (fo8 V) ∧ dE (fo8 V) ≤ 9223372036854775807 ∧ -1074 ≤ dE (fo8 V) ∧ dE (fo8 V) ≤ 200000 := by
  obtain ⟨n, X, e, h1, F, _, _, h4, h5⟩ := fo8_frm V m hm hV
  rw [h1]
  exact ⟨frmLen F, by show -9223372036854775808 ≤ e; omega, by show e ≤ 9223372036854775807; omega, h4, h5⟩
/-- Of, of a number that is finite. -/
theorem of_any8 (x : Nat) (hx : Wd x ∧ finW x) (w : World) (hT : Tab w) :
    Calls Tryd.prog 12 #[.float .f64 x] w fun r w' => (∃ v, r = .returned (.tuple #[.agg #[.bool (dN (fo8 (fvW x))), v, .int .i64 (dE (fo8 (fvW x)))], .int .i64 0]) ∧ Nt w.heap.size w' v (dX (fo8 (fvW x)))) ∧ Below w.heap.size w w' := by
  obtain ⟨h1, h2, h3, _⟩ := wd64_bw (negW x) (magW x) (Nat.le_of_lt hx.2)
  have := Of_any (negW x) (magW x / 4503599627370496) (magW x % 4503599627370496) h2 h3 w hT
  rw [← h1, ← wd_of x hx.1] at this
  refine this.mono ?_
  rintro r w' ⟨⟨v, rfl, hN⟩, hb⟩
  have e := of_fo8 hx.1 hx.2
  unfold ofK at e
  rw [e] at hN ⊢
  have he : ofE (magW x / 4503599627370496) = 0 := by unfold ofE; rw [if_neg (by have := hx.2; omega)]
  rw [he]
  exact ⟨⟨v, rfl, hN⟩, hb⟩
/-- Add, of two forms by value. -/
theorem add_any8 (V U : Int) (m : Nat) (hm : m ≤ 100000) (hV : V.natAbs < 2 ^ m) (hU : U.natAbs < 2 ^ m) (e : Int) (he0 : -9223372036854775808 ≤ e) (he1 : e ≤ 9223372036854775807) (n : Bool) (X : Nat) (hX : mkS n X e = fo8 U)
    (w : World) (a b : Option Addr) (c d : Nat) (hT : Tab w) (h1 : Arg w a (ws (dX (fo8 V))).length c (ws (dX (fo8 V)))) (h2 : Arg w b (ws X).length d (ws X)) :
    Calls Tryd.prog 78 #[.agg #[.bool (dN (fo8 V)), .slice a (ws (dX (fo8 V))).length c, .int .i64 (dE (fo8 V))], .agg #[.bool n, .slice b (ws X).length d, .int .i64 e]] w fun r w' =>
      (∃ v, r = .returned (.tuple #[.agg #[.bool (dN (fo8 (V + U))), v, .int .i64 (dE (fo8 (V + U)))], .int .i64 0]) ∧ Nt w.heap.size w' v (dX (fo8 (V + U)))) ∧ Below w.heap.size w w' := by
  obtain ⟨l1, l2, l3, _⟩ := fo8_len V m (by omega) hV
  have := Add_any3 h1 h2 hT (dN (fo8 V)) n (dE (fo8 V)) e l2 l3 he0 he1
  rw [val_ws, val_ws, fo8_self V m (by omega) hV, hX, fo8_add V U m hm hV hU] at this
  refine this.mono ?_
  rintro r w' ⟨⟨v, rfl, hN⟩, hb⟩
  have e2 : 2 ^ (m + 1) = 2 * 2 ^ m := by rw [Nat.pow_succ, Nat.mul_comm]
  rw [fo8_er (V + U) (m + 1) (by omega) (by omega)]
  exact ⟨⟨v, rfl, hN⟩, hb⟩

theorem fvL_take (L : List Nat) (i : Nat) (hi : i < L.length) : fvL (L.take (i + 1)) = fvL (L.take i) + fvW (L.getD i 0) := by
  have e : L.take (i + 1) = L.take i ++ [L.getD i 0] := by
    rw [List.getD_eq_getElem?_getD, List.getElem?_eq_getElem hi]
    exact List.take_succ_eq_append_getElem hi
  rw [e, fvL_append]
  simp [fvL]
theorem avL_take (L : List Nat) (i : Nat) : avL (L.take i) ≤ avL L := by
  have : avL L = avL (L.take i) + avL (L.drop i) := by rw [← avL_append, List.take_append_drop]
  omega
theorem fv_av (L : List Nat) : (fvL L).natAbs ≤ avL L := by
  induction L with
  | nil => simp [fvL, avL]
  | cons x L ih => simp only [fvL, avL]; omega
theorem avL_get (L : List Nat) (i : Nat) (hi : i < L.length) : (fvW (L.getD i 0)).natAbs ≤ avL L := by
  have : avL L = avL (L.take i) + avL (L.drop i) := by rw [← avL_append, List.take_append_drop]
  rw [drop_cons8 L i hi] at this
  simp only [avL] at this
  omega
/-- The bound, as a power. -/
theorem pw_up {V : Int} {m up : Nat} (h : V.natAbs < 2 ^ m) : (V * 2 ^ up).natAbs < 2 ^ (m + up) := by
  rw [Int.natAbs_mul, Int.natAbs_pow, Nat.pow_add]
  exact Nat.mul_lt_mul_of_pos_right h (Nat.two_pow_pos _)

theorem Nt.but8 {lo g : Nat} {w w' : World} {v : Value} {X : Nat} (h : Nt lo w v X) (hb : But g w w') (hg : g < lo) : Nt lo w' v X := by
  refine ⟨h.1, ?_⟩
  rcases h.2 with hn | ⟨g', cap, cur, rfl, hlo, hgc, rest⟩
  · exact .inl hn
  · exact .inr ⟨g', cap, cur, rfl, hlo, (hb.block g' (Array.getElem?_eq_some_iff.1 hgc).1 (by omega)).trans hgc, rest⟩
theorem Tryd.row_dyad8 : ∃ d : TypeDesc, Tryd.prog.underlying 37 = some d ∧ d.isRow = true := by
  have h : (Tryd.prog.underlying 37).any (·.isRow) = true := by kernel_rfl
  obtain ⟨d, h1, h2⟩ := (Option.any_eq_true _ _).1 h
  exact ⟨d, h1, h2⟩
theorem Tryd.size_dyad8 : (Tryd.prog.info? 37).map (·.size) = some 3 := by kernel_rfl
/-- The end of a function whose result is a Dyad in a variable. -/
theorem close8 {fn : Func} {p : Tmp} (h : fn.results = #[.cell p 37]) {tmps : Array Value} {W : World} {g : Nat} {n : Bool} {v : Value} {e : Int} {Q : Ending → World → Prop}
    (hp : tmps.getD p undef = .pointer (some ⟨g, 0, none⟩)) (hD : Dk W g n v e) (hQ : Q (.returned (.agg #[.bool n, v, .int .i64 e])) W) : bodyPost Tryd.prog fn Q .ret ⟨tmps, []⟩ W := by
  refine bodyPost_ret (v := .agg #[.bool n, v, .int .i64 e]) ?_ rfl hQ
  obtain ⟨d, h1, h2⟩ := Tryd.row_dyad8
  cases d <;> first
    | exact results_cell_row (P := Tryd.prog) h tmps W g 37 _ _ _ hp hD h1 rfl (by rw [Tryd.size_dyad8]; rfl)
    | exact absurd h2 (by simp [TypeDesc.isRow])
/-- What stands while exact walks. -/
structure Xi (w : World) (L : List Nat) (up i : Nat) (wr : World) : Prop where
  res : Dk wr w.heap.size false (.slice none 0 0) 0
  sum : ∃ v, Dk wr (w.heap.size + 1) (dN (fo8 (fvL (L.take i) * 2 ^ up))) v (dE (fo8 (fvL (L.take i) * 2 ^ up))) ∧ Nt (w.heap.size + 2) wr v (dX (fo8 (fvL (L.take i) * 2 ^ up)))
  bel : Below w.heap.size w wr
theorem st3_but8 (g : Nat) (w : World) (x y z : Value) : But g w (st3 w g x y z) := (((But.refl g w).set _ _).set _ _).set _ _

set_option maxHeartbeats 4000000 in
theorem exact_any8 (lo : Nat) (v : Value) (L : List Nat) (up : Nat) (w : World) (hv : Fr lo w v L) (hT : Tab w) (hF : FinL L) (hl : L.length ≤ 100000) (m : Nat) (hm : m + up ≤ 50000) (hup : up ≤ 1000) (hb : avL L < 2 ^ m) :
    Calls Tryd.prog 79 #[v, .int .i64 (up : Nat)] w fun r w' => (∃ u, r = .returned (.agg #[.bool (dN (fo8 (fvL L * 2 ^ up))), u, .int .i64 (dE (fo8 (fvL L * 2 ^ up)))]) ∧ Nt w.heap.size w' u (dX (fo8 (fvL L * 2 ^ up)))) ∧ Below w.heap.size w w' := by
  obtain ⟨ao, n, cc, rfl, hn⟩ : ∃ ao n cc, v = .slice ao n cc ∧ n = L.length := by
    rcases hv.shape with ⟨rfl, rfl⟩ | ⟨g, cap, rfl, _⟩
    · exact ⟨none, 0, 0, rfl, rfl⟩
    · exact ⟨_, _, _, rfl, rfl⟩
  have HA := Aside.intro (And.intro hv (And.intro hT (And.intro hF (And.intro hb (And.intro hm hn)))))
  have hn5 : n ≤ 100000 := by omega
  obtain ⟨W0, hW0⟩ : ∃ W, W = (w.alloc (Obj.cells #[.bool false, .slice none 0 0, .int .i64 0] 37)).alloc (Obj.cells #[.bool false, .slice none 0 0, .int .i64 0] 37) := ⟨_, rfl⟩
  have H0 : Aside (Xi w L up 0 W0) := by
    subst hW0
    have z0 : fo8 (fvL (L.take 0) * 2 ^ up) = some (false, 0, 0) := by
      rw [show fvL (L.take 0) = 0 by simp [fvL], Int.zero_mul]; unfold fo8; exact mkS_zero _ _
    refine ⟨(Dk.new w _ _ _).alloc _, ⟨.slice none 0 0, ?_, ?_⟩, (below_alloc _ _).trans ((below_alloc _ _).mono (by simp))⟩
    · rw [z0]
      have := Dk.new (w.alloc (Obj.cells #[.bool false, .slice none 0 0, .int .i64 0] 37)) false (.slice none 0 0) 0
      rw [show (w.alloc (Obj.cells #[.bool false, .slice none 0 0, .int .i64 0] 37)).heap.size = w.heap.size + 1 by simp] at this
      exact this
    · rw [z0]; exact Nt.nil _ _
  clear hv hT hF hb hn hl
  go_enter Tryd.func79, Tryd.ntmps79
  go_wp2_with fail
  rw [← hW0]
  clear hW0
  go_loopg [12] n (fun gk iv wr => ∃ i : Nat, gk + i = n ∧ iv = .int .i64 (i : Nat) ∧ Aside (Xi w L up i wr))
  case atStart => exact ⟨0, by omega, rfl, H0⟩
  case round =>
    clear H0 W0
    obtain ⟨i, hgi, rfl, HW⟩ := hrel
    by_cases hi : i < n
    · have HI : Aside (i < L.length) := by have := HA.out.2.2.2.2.2; exact Aside.intro (by omega)
      rcases HA.out.1.shape with ⟨h1, h2⟩ | ⟨g, cap, h1, _, hgw, _, _, hcell⟩
      · exfalso
        have := HI.out
        rw [h2] at this
        simp at this
      · cases h1
        obtain ⟨y, hy⟩ : ∃ y, y = L.getD i 0 := ⟨_, rfl⟩
        have hc : wr.cell? ⟨g, i, none⟩ = some (.float .f64 y) := by
          rw [hy, ← hcell i HI.out]
          exact HW.out.bel.cell (p := ⟨g, i, none⟩) hgw
        have HO := hid (of_any8 y (by rw [hy]; exact HA.out.2.2.1.get i HI.out) wr (HA.out.2.1.belows HW.out.bel))
        obtain ⟨Z, hZ⟩ : ∃ Z, Z = fvL (L.take i) * 2 ^ up := ⟨_, rfl⟩
        have HE : Aside (fvL (L.take (i + 1)) * 2 ^ up = Z + fvW y * 2 ^ up) := by
          rw [fvL_take L i HI.out, Int.add_mul, hZ, hy]; exact Aside.intro rfl
        have HB : Aside (Z.natAbs < 2 ^ (m + up) ∧ (fvW y).natAbs < 2 ^ m ∧ (fvW y * 2 ^ up).natAbs < 2 ^ (m + up)) := by
          have h1 := avL_take L i
          have h2 := fv_av (L.take i)
          have h3 := avL_get L i HI.out
          have h4 := HA.out.2.2.2.1
          rw [← hy] at h3
          exact ⟨by rw [hZ]; exact pw_up (by omega), by omega, pw_up (by omega)⟩
        obtain ⟨q1, q2, q3, q4, q5⟩ := fo8_len (fvW y) m (by have := HA.out.2.2.2.2.1; omega) HB.out.2.1
        have HQ := Aside.intro q1
        obtain ⟨sv, S1, S2⟩ := HW.out.sum
        rw [← hZ] at S1 S2
        have HS := Aside.intro (And.intro S1 (And.intro S2 (And.intro HW.out.res HW.out.bel)))
        clear hy hcell S1 S2 hZ q1 q2 q3 HW
        obtain ⟨⟨dn, dx, de⟩, hd⟩ : ∃ d : Bool × Nat × Int, dN (fo8 (fvW y)) = d.1 ∧ dX (fo8 (fvW y)) = d.2.1 ∧ dE (fo8 (fvW y)) = d.2.2 := ⟨(_, _, _), rfl, rfl, rfl⟩
        simp only at hd
        have HU := Aside.intro (fo8_up (fvW y) up m (by have := HA.out.2.2.2.2.1; omega) HB.out.2.1)
        rw [hd.1, hd.2.1, hd.2.2] at HU
        rw [hd.1, hd.2.2, hd.2.1] at HO
        rw [hd.2.2] at q4 q5
        rw [hd.2.1] at HQ
        clear hd
        go_wp2_with fail
        with_reducible refine HO.out.mono ?_
        rintro r w1 ⟨⟨v1, rfl, hN1⟩, hb1⟩
        obtain ⟨a1, c1, rfl, _⟩ := hN1.arg (Nat.le_trans HQ.out (by decide))
        obtain ⟨U, hU⟩ : ∃ U, U = w1.alloc (Obj.cells #[.bool dn, .slice a1 (ws dx).length c1, .int .i64 (de + (up : Nat))] 37) := ⟨_, rfl⟩
        have HU2 : Aside (Below wr.heap.size wr U ∧ Dk U w1.heap.size dn (.slice a1 (ws dx).length c1) (de + (up : Nat)) ∧ Nt wr.heap.size U (.slice a1 (ws dx).length c1) dx ∧ wr.heap.size ≤ w1.heap.size) := by
          subst hU
          exact ⟨hb1.trans ((below_alloc _ _).mono hb1.size), Dk.new _ _ _ _, hN1.below (below_alloc _ _), hb1.size⟩
        go_upto_region 7 with fail
        rw [← hU]
        clear hU hN1 hb1 hc HO
        obtain ⟨T1, T2, T3, T4⟩ := HS.out
        have D1 := T1.below HU2.out.1
        have D3 := T3.below HU2.out.1
        obtain ⟨x0, x1, x2, xf0, xf1, xf2⟩ := HU2.out.2.1.facts
        obtain ⟨y0, y1, y2, yf0, yf1, yf2⟩ := D1.facts
        have N1 := T2.below HU2.out.1
        obtain ⟨a0, c0, rfl, A0⟩ := N1.arg (Nat.le_trans (fo8_len Z (m + up) (by have := HA.out.2.2.2.2.1; omega) HB.out.1).1 (by decide))
        obtain ⟨_, A1⟩ := HU2.out.2.2.1.arg' (Nat.le_trans HQ.out (by decide))
        have HAdd := hid (add_any8 Z (fvW y * 2 ^ up) (m + up) (by have := HA.out.2.2.2.2.1; omega) HB.out.1 HB.out.2.2 (de + (up : Nat)) (by omega) (by omega) dn dx HU.out U a0 a1 c0 c1 ((HA.out.2.1.belows T4).belows HU2.out.1) A0 A1)
        have hlt := D1.lt
        have HD := Aside.intro (And.intro D1 (And.intro D3 (T4.trans (HU2.out.1.mono T4.size))))
        rw [← HE.out] at HAdd
        clear T1 T2 T3 T4 D1 D3 N1 A0 A1
        go_wp2_with fail
        with_reducible refine HAdd.out.mono ?_
        rintro r w2 ⟨⟨v2, rfl, hN2⟩, hb2⟩
        obtain ⟨a2, c2, rfl, _⟩ := hN2.arg (Nat.le_trans (fo8_len (fvL (L.take (i + 1)) * 2 ^ up) (m + up + 1) (by have := HA.out.2.2.2.2.1; omega) (by
          rw [HE.out, Nat.pow_succ]; have := HB.out.1; have := HB.out.2.2; omega)).1 (by decide))
        have D2 := HD.out.1.below hb2
        obtain ⟨z0, z1, z2, zf0, zf1, zf2⟩ := D2.facts
        have hlt2 := D2.lt
        obtain ⟨nn, hnn⟩ : ∃ b, b = dN (fo8 (fvL (L.take (i + 1)) * 2 ^ up)) := ⟨_, rfl⟩
        obtain ⟨ee, hee⟩ : ∃ b, b = dE (fo8 (fvL (L.take (i + 1)) * 2 ^ up)) := ⟨_, rfl⟩
        obtain ⟨xx, hxx⟩ : ∃ b, b = dX (fo8 (fvL (L.take (i + 1)) * 2 ^ up)) := ⟨_, rfl⟩
        rw [← hnn, ← hee]
        rw [← hxx] at hN2 ⊢
        have HX : Aside (Xi w L up (i + 1) (st3 w2 (w.heap.size + 1) (.bool nn) (.slice a2 (ws xx).length c2) (.int .i64 ee))) := by
          have hbt := st3_but8 (w.heap.size + 1) w2 (.bool nn) (.slice a2 (ws xx).length c2) (.int .i64 ee)
          have hsz : w.heap.size + 1 < U.heap.size := hlt
          refine ⟨((HD.out.2.1.below hb2)).but hbt (by omega), ⟨.slice a2 (ws xx).length c2, ?_, ?_⟩, ?_⟩
          · rw [← hnn, ← hee]; exact D2.set _ _ _
          · rw [← hxx]; exact (hN2.mono (by omega)).but8 hbt (by omega)
          · exact But.below (HD.out.2.2.trans (hb2.mono HD.out.2.2.size)) hbt (by have := HD.out.2.2.size; have := hb2.size; omega) (by omega)
        unfold st3 at HX
        clear hnn hee hxx hN2 hb2 D2 HAdd HD HE HB HU HU2 HS
        go_wp2
        go_roundg (gk - 1)
        case measure => omega
        case rel => exact ⟨i + 1, by omega, by simp, HX⟩
    · obtain rfl : n = i := by omega
      obtain rfl : gk = 0 := by omega
      obtain ⟨sv, S1, S2⟩ := HW.out.sum
      rw [show L.take n = L by rw [HA.out.2.2.2.2.2, List.take_length]] at S1 S2
      have hs := HW.out.bel.size
      obtain ⟨a0, c0, rfl, _⟩ := S2.arg (Nat.le_trans (fo8_len (fvL L * 2 ^ up) (m + up) (by have := HA.out.2.2.2.2.1; omega) (pw_up (by have := fv_av L; have := HA.out.2.2.2.1; omega))).1 (by decide))
      obtain ⟨y0, y1, y2, yf0, yf1, yf2⟩ := S1.facts
      obtain ⟨z0, z1, z2, zf0, zf1, zf2⟩ := HW.out.res.facts
      have HD := Aside.intro (And.intro HW.out.res (And.intro S2 HW.out.bel))
      have hl1 := S1.lt
      obtain ⟨nn, hnn⟩ : ∃ b, b = dN (fo8 (fvL L * 2 ^ up)) := ⟨_, rfl⟩
      obtain ⟨ee, hee⟩ : ∃ b, b = dE (fo8 (fvL L * 2 ^ up)) := ⟨_, rfl⟩
      obtain ⟨xx, hxx⟩ : ∃ b, b = dX (fo8 (fvL L * 2 ^ up)) := ⟨_, rfl⟩
      rw [← hnn] at y0
      rw [← hee] at y2
      rw [← hxx] at y1 HD
      have HN := Aside.intro (And.intro hnn (And.intro hee hxx))
      clear S1 S2 HW hnn hee hxx
      go_wp2
      obtain ⟨R1, R2, R3⟩ := HD.out
      have hbt := st3_but8 w.heap.size wr (.bool nn) (.slice a0 (ws xx).length c0) (.int .i64 ee)
      refine close8 Tryd.results79 (g := w.heap.size) (n := nn) (v := .slice a0 (ws xx).length c0) (e := ee) rfl (R1.set _ _ _) ?_
      rw [← HN.out.1, ← HN.out.2.1, ← HN.out.2.2]
      exact ⟨⟨_, rfl, (R2.but8 hbt (by omega)).mono (by omega)⟩, But.below R3 hbt hs (Nat.le_refl _)⟩
end Go.Proofs.YtnnlicahgdcbdaaDoor

/- A Spread in memory; New, Add. -/
namespace Go.Proofs.YtnnlicahgdcbdaaDoor
open Go.RowKit
set_option linter.unusedVariables false
set_option maxRecDepth 20000
set_option linter.unusedSimpArgs false

/-- A Spread's block. -/
def Sk (w : World) (g : Nat) (n : Nat) (va vb : Value) : Prop := w.heap[g]? = some (.cells #[.int .i64 (n : Nat), va, vb] 87 (0, 0))
theorem Sk.lt {w : World} {g n : Nat} {va vb : Value} (h : Sk w g n va vb) : g < w.heap.size := (Array.getElem?_eq_some_iff.1 h).1
theorem Sk.of_block {w w' : World} {g n : Nat} {va vb : Value} (h : Sk w g n va vb) (hb : w'.heap[g]? = w.heap[g]?) : Sk w' g n va vb := by unfold Sk at h ⊢; rw [hb]; exact h
theorem Sk.facts {w : World} {g n : Nat} {va vb : Value} (h : Sk w g n va vb) :
    w.cell? ⟨g, 0, none⟩ = some (.int .i64 (n : Nat)) ∧ w.cell? ⟨g, 1, none⟩ = some va ∧ w.cell? ⟨g, 2, none⟩ = some vb ∧ w.frozen? ⟨g, 0, none⟩ = false ∧ w.frozen? ⟨g, 1, none⟩ = false ∧ w.frozen? ⟨g, 2, none⟩ = false := by
  unfold Sk at h
  refine ⟨?_, ?_, ?_, ?_, ?_, ?_⟩ <;> simp [World.cell?, World.frozen?, h]
theorem Sk.set0 {w : World} {g n : Nat} {va vb : Value} (h : Sk w g n va vb) (m : Nat) : Sk (w.setCell ⟨g, 0, none⟩ (.int .i64 (m : Nat))) g m va vb := by
  unfold Sk at h ⊢
  simp [World.setCell, Array.getElem?_modify, h]
theorem Sk.set1 {w : World} {g n : Nat} {va vb : Value} (h : Sk w g n va vb) (v : Value) : Sk (w.setCell ⟨g, 1, none⟩ v) g n v vb := by
  unfold Sk at h ⊢
  simp [World.setCell, Array.getElem?_modify, h]
theorem Sk.set2 {w : World} {g n : Nat} {va vb : Value} (h : Sk w g n va vb) (v : Value) : Sk (w.setCell ⟨g, 2, none⟩ v) g n va v := by
  unfold Sk at h ⊢
  simp [World.setCell, Array.getElem?_modify, h]
/-- Blocks of numbers are no Spreads. -/
theorem Sk.not_row {w : World} {g n : Nat} {va vb : Value} (h : Sk w g n va vb) {lo : Nat} {v : Value} {L : List Nat} (k : Fr lo w v L) : v.ownBlock ≠ some g := by
  intro e
  rcases k.2 with ⟨rfl, hn⟩ | ⟨g', cap, cur, rfl, hlo, hgc, rest⟩
  · simp [Value.ownBlock] at e
  · simp [Value.ownBlock] at e
    subst e
    unfold Sk at h
    rw [h] at hgc
    cases hgc
/-- Only blocks of F were written. -/
structure Tch (F : Nat → Prop) (w w' : World) : Prop where
  os : w'.os = w.os
  tape : w'.tape = w.tape
  output : w'.output = w.output
  size : w.heap.size ≤ w'.heap.size
  block : ∀ k, k < w.heap.size → ¬ F k → w'.heap[k]? = w.heap[k]?
theorem Tch.refl (F : Nat → Prop) (w : World) : Tch F w w := ⟨rfl, rfl, rfl, Nat.le_refl _, fun _ _ _ => rfl⟩
/-- F, and what is new. -/
def Gr (F : Nat → Prop) (w w' : World) : Nat → Prop := fun k => F k ∨ (w.heap.size ≤ k ∧ k < w'.heap.size)
theorem Tch.trans {F : Nat → Prop} {a b c : World} (h : Tch F a b) (k : Tch (Gr F a b) b c) : Tch F a c :=
  ⟨k.os.trans h.os, k.tape.trans h.tape, k.output.trans h.output, Nat.le_trans h.size k.size, fun j hj hn =>
    (k.block j (Nat.lt_of_lt_of_le hj h.size) (fun q => by rcases q with q | q; exact hn q; omega)).trans (h.block j hj hn)⟩
theorem Tch.trans' {F : Nat → Prop} {a b c : World} (h : Tch F a b) (k : Tch F b c) : Tch F a c :=
  ⟨k.os.trans h.os, k.tape.trans h.tape, k.output.trans h.output, Nat.le_trans h.size k.size, fun j hj hn =>
    (k.block j (Nat.lt_of_lt_of_le hj h.size) hn).trans (h.block j hj hn)⟩
theorem Tch.below {F : Nat → Prop} {B : Nat} {a w w' : World} (h : Below B a w) (k : Tch F w w') (hF : ∀ j, F j → B ≤ j) (hB : B ≤ w.heap.size) : Below B a w' :=
  ⟨k.os.trans h.os, k.tape.trans h.tape, k.output.trans h.output, Nat.le_trans h.size k.size, fun j hj =>
    (k.block j (Nat.lt_of_lt_of_le hj hB) (fun q => by have := hF j q; omega)).trans (h.block j hj)⟩
theorem Tch.of_below {F : Nat → Prop} {w w' : World} (h : Below w.heap.size w w') : Tch F w w' := ⟨h.os, h.tape, h.output, h.size, fun j hj _ => h.block j hj⟩
theorem Tch.grown {F : Nat → Prop} {w w' : World} {row : Option Nat} (h : w.grownBy w' row) (hF : ∀ k, row = some k → F k) : Tch F w w' :=
  ⟨h.os, h.tape, h.output, h.size, fun j hj hn => h.block j hj (fun e => hn (hF j e.symm))⟩
theorem Tch.set {F : Nat → Prop} {w w' : World} (h : Tch F w w') (g i : Nat) (u : Value) (hF : F g) : Tch F w (w'.setCell ⟨g, i, none⟩ u) :=
  ⟨h.os, h.tape, h.output, by simpa [World.setCell] using h.size, fun j hj hn => by
    rw [← h.block j hj hn]
    exact Below.heap_setCell _ _ _ _ (fun e => hn (by rw [e]; exact hF))⟩

/-- A Spread: n numbers, whose sum is V (in units of 2^-1074); all its memory is F's; c bounds how its rows grew. -/
def Sx (F : Nat → Prop) (w : World) (g n : Nat) (V : Int) (c : Nat) : Prop :=
  ∃ (va vb : Value) (A B : List Nat) (V1 V2 : Int), Sk w g n va vb ∧ Fr 0 w va A ∧ Fr 0 w vb B ∧ (∀ k, va.ownBlock = some k → vb.ownBlock ≠ some k) ∧ F g ∧ (∀ k, va.ownBlock = some k → F k) ∧ (∀ k, vb.ownBlock = some k → F k) ∧
    (∀ k, F k → k < w.heap.size) ∧ Rk A V1 n c ∧ Rk B V2 n c ∧ V = V1 + V2 * 18446744073709551616 ∧ n ≤ 65536 ∧ n * 17179869184 + c ≤ 4503599627370496
theorem Rk.mono {L : List Nat} {V : Int} {n c n' c' : Nat} (h : Rk L V n c) (hn : n ≤ n') (hc : c ≤ c') : Rk L V n' c' :=
  ⟨h.fin, h.val, Nat.le_trans h.len hn, Nat.le_trans h.size (Nat.mul_le_mul_right _ (by omega))⟩
theorem Sx.keep {F G : Nat → Prop} {w w' : World} {g n : Nat} {V : Int} {c : Nat} (h : Sx F w g n V c) (t : Tch G w w') (hd : ∀ k, F k → ¬ G k) : Sx F w' g n V c := by
  obtain ⟨va, vb, A, B, V1, V2, h1, h2, h3, h4, h5, h6, h7, h8, rest⟩ := h
  have fr : ∀ (v : Value) (L : List Nat), Fr 0 w v L → (∀ k, v.ownBlock = some k → F k) → Fr 0 w' v L := by
    intro v L hv hk
    refine ⟨hv.1, ?_⟩
    rcases hv.2 with hn | ⟨g', cap, cur, rfl, hlo, hgc, rest⟩
    · exact .inl hn
    · refine .inr ⟨g', cap, cur, rfl, hlo, ?_, rest⟩
      rw [t.block g' (Array.getElem?_eq_some_iff.1 hgc).1 (hd _ (hk g' rfl))]; exact hgc
  exact ⟨va, vb, A, B, V1, V2, h1.of_block (t.block g h1.lt (hd _ h5)), fr va A h2 h6, fr vb B h3 h7, h4, h5, h6, h7, fun k hk => Nat.lt_of_lt_of_le (h8 k hk) t.size, rest⟩
theorem Sx.below {F : Nat → Prop} {w w' : World} {g n : Nat} {V : Int} {c : Nat} (h : Sx F w g n V c) (hb : Below w.heap.size w w') : Sx F w' g n V c :=
  h.keep (G := fun _ => False) (Tch.of_below hb) (fun _ _ q => q)
theorem Sx.wide {F G : Nat → Prop} {w : World} {g n : Nat} {V : Int} {c : Nat} (h : Sx F w g n V c) (hs : ∀ k, F k → G k) (hG : ∀ k, G k → k < w.heap.size) : Sx G w g n V c := by
  obtain ⟨va, vb, A, B, V1, V2, h1, h2, h3, h4, h5, h6, h7, h8, rest⟩ := h
  exact ⟨va, vb, A, B, V1, V2, h1, h2, h3, h4, hs _ h5, fun k hk => hs _ (h6 k hk), fun k hk => hs _ (h7 k hk), hG, rest⟩
theorem Sx.more {F : Nat → Prop} {w : World} {g n : Nat} {V : Int} {c c' : Nat} (h : Sx F w g n V c) (hc : c ≤ c') (hb : n * 17179869184 + c' ≤ 4503599627370496) : Sx F w g n V c' := by
  obtain ⟨va, vb, A, B, V1, V2, h1, h2, h3, h4, h5, h6, h7, h8, r1, r2, r3, r4, r5⟩ := h
  exact ⟨va, vb, A, B, V1, V2, h1, h2, h3, h4, h5, h6, h7, h8, r1.mono (Nat.le_refl _) hc, r2.mono (Nat.le_refl _) hc, r3, r4, hb⟩

set_option maxHeartbeats 1000000 in
theorem new8 (w : World) : Calls Tryd.prog 17 #[] w fun r w' => r = .returned (.pointer (some ⟨w.heap.size, 0, none⟩)) ∧ Sx (fun k => w.heap.size ≤ k ∧ k < w'.heap.size) w' w.heap.size 0 0 0 ∧ Below w.heap.size w w' ∧ w'.heap.size = w.heap.size + 1 := by
  go_enter Tryd.func17, Tryd.ntmps17
  go_wp2
  go_ret
  refine ⟨rfl, ⟨.slice none 0 0, .slice none 0 0, [], [], 0, 0, heap_alloc_new _ _, Fr.nil _ _, Fr.nil _ _, fun k hk => by simp [Value.ownBlock] at hk, ⟨Nat.le_refl _, by simp⟩, fun k hk => by simp [Value.ownBlock] at hk, fun k hk => by simp [Value.ownBlock] at hk, fun k hk => hk.2, Rk.nil, Rk.nil, by simp, by omega, by omega⟩, below_alloc _ _, by simp⟩

/-- Numbers far from nought, made smaller. -/
theorem abs_w8 (x : Nat) (hx : Wd x) (w : World) : Calls Tryd.prog 40 #[.float .f64 x] w fun r w' => r = .returned (.float .f64 (magW x)) ∧ w' = w := by
  obtain ⟨s, e, f, he, hf, h1, h2⟩ := bwz x hx
  have := B.abs_any s e f he hf w
  rw [← h1] at this
  have e2 : B.bw false e f = magW x := by
    rw [h1]
    unfold B.bw magW
    cases s <;> simp <;> omega
  rw [e2] at this
  exact this
set_option maxHeartbeats 1000000 in
theorem isInf_w8 (x : Nat) (hx : Wd x) (w : World) : Calls Tryd.prog 47 #[.float .f64 x, .int .i64 0] w fun r w' => r = .returned (.bool (magW x == 9218868437227405312)) ∧ w' = w := by
  have H := hid (abs_w8 x hx w)
  obtain ⟨s, e, f, he, hf, h1, h2⟩ := bwz x hx
  have e2 : B.bw false e f = magW x := by
    rw [h1]
    unfold B.bw magW
    cases s <;> simp <;> omega
  have h3 := B.gt_max false e f he hf
  rw [e2] at h3
  have h4 : (!false && (e == 2047 && f == 0)) = (magW x == 9218868437227405312) := by
    rw [← e2]
    unfold B.bw
    rw [Bool.eq_iff_iff]
    simp
    omega
  rw [h4] at h3
  clear h1 h2 e2 h4
  generalize (magW x == 9218868437227405312) = b at *
  generalize magW x = y at *
  go_enter Tryd.func47, Tryd.ntmps47
  go_wp2_with fail
  refine (Calls.mono H.out) ?_
  rintro r w1 ⟨rfl, rfl⟩
  go_wp2
  go_ret
  exact ⟨rfl, rfl⟩
end Go.Proofs.YtnnlicahgdcbdaaDoor

/- Add. -/
namespace Go.Proofs.YtnnlicahgdcbdaaDoor
open Go.RowKit J
set_option linter.unusedVariables false
set_option maxRecDepth 20000
set_option linter.unusedSimpArgs false

theorem G34 (k : Nat) (hk : k = 2034) : 17179869184 * GG = 2 ^ k := by
  rw [G_eq, show (17179869184 : Nat) = 2 ^ 34 by decide, ← Nat.pow_add]
  congr 1
  rw [hk]; rfl
theorem far8 {x : Nat} (fx : finW x) (h : magW x < 8930638061075693568) : (fvW x).natAbs ≤ 17179869184 * GG := by
  unfold fvW
  rw [sg_abs, G34 2034 rfl]
  obtain ⟨j, hj⟩ : ∃ j, j = 1982 := ⟨_, rfl⟩
  have e := vK_word j 4503599627370496 (.inr (Nat.le_refl _)) (by decide)
  rw [show j * 4503599627370496 + 4503599627370496 = 8930638061075693568 by omega, show (4503599627370496 : Nat) = 2 ^ 52 by decide, ← Nat.pow_add] at e
  have h2 : vK (magW x) < vK 8930638061075693568 := vK_lt.2 h
  rw [e] at h2
  rw [show 2034 = 52 + j by omega]
  omega
theorem shr_fin : finW 4318952042648305664 ∧ Wd 4318952042648305664 := ⟨by unfold finW magW; decide, by unfold Wd; decide⟩
theorem shr_val (k : Nat) (hk : k = 1010) : fvW 4318952042648305664 = (2 : Int) ^ k := by
  unfold fvW
  rw [show negW 4318952042648305664 = false by decide, show magW 4318952042648305664 = 4318952042648305664 by decide]
  obtain ⟨j, hj⟩ : ∃ j, j = 958 := ⟨_, rfl⟩
  have e := vK_word j 4503599627370496 (.inr (Nat.le_refl _)) (by decide)
  rw [show j * 4503599627370496 + 4503599627370496 = 4318952042648305664 by omega, show (4503599627370496 : Nat) = 2 ^ 52 by decide, ← Nat.pow_add] at e
  rw [e, show 52 + j = k by omega]
  show ((2 ^ k : Nat) : Int) = _
  exact p2c k
theorem shrink8 {x : Nat} (hx : Wd x) (fx : finW x) (h : ¬ magW x < 8930638061075693568) :
    finW (tiW x 4318952042648305664) ∧ fvW (tiW x 4318952042648305664) * 18446744073709551616 = fvW x ∧ (fvW (tiW x 4318952042648305664)).natAbs ≤ 17179869184 * GG := by
  obtain ⟨k, h1, _, h3⟩ := (fv_F x).placed
  obtain ⟨j, hj⟩ : ∃ j, j = 1982 := ⟨_, rfl⟩
  have hlow : 2 ^ (52 + j) ≤ (fvW x).natAbs := by
    unfold fvW
    rw [sg_abs]
    have e := vK_word j 4503599627370496 (.inr (Nat.le_refl _)) (by decide)
    rw [show j * 4503599627370496 + 4503599627370496 = 8930638061075693568 by omega, show (4503599627370496 : Nat) = 2 ^ 52 by decide, ← Nat.pow_add] at e
    rw [← e]
    exact Nat.le_of_not_lt (fun q => h (vK_lt.1 q))
  have hk : j ≤ k := by
    have : 52 + j < 53 + k := (Nat.pow_lt_pow_iff_right (by decide)).1 (Nat.lt_of_le_of_lt hlow h1)
    omega
  obtain ⟨q, hq⟩ := h3
  obtain ⟨i, rfl⟩ : ∃ i, k = i + 64 := ⟨k - 64, by omega⟩
  have e64 : (2 : Int) ^ 64 = 18446744073709551616 := by decide
  have hP : fvW x = (q * 2 ^ i) * 18446744073709551616 := by
    rw [hq, Int.pow_add, e64]
    generalize (2 : Int) ^ i = z
    grind
  obtain ⟨P, hPe⟩ : ∃ P, P = q * 2 ^ i := ⟨_, rfl⟩
  rw [← hPe] at hP
  have hPb : P.natAbs < 2 ^ (53 + i) := by
    rw [hP, Int.natAbs_mul, show 53 + (i + 64) = 53 + i + 64 by omega, Nat.pow_add] at h1
    have : (2 : Nat) ^ 64 = (18446744073709551616 : Int).natAbs := by decide
    rw [this] at h1
    exact Nat.lt_of_mul_lt_mul_right h1
  have hF : IsF P := grid (k := i) ⟨q, by rw [hPe, Int.mul_comm]⟩ (Nat.le_of_lt hPb)
  have htop : P.natAbs ≤ 17179869184 * GG := by
    obtain ⟨z, hz⟩ : ∃ z, z = 2034 := ⟨_, rfl⟩
    have := top_fv hx fx (z + 64) (by omega)
    rw [hP, Int.natAbs_mul, Nat.pow_add] at this
    have e : (2 : Nat) ^ 64 = (18446744073709551616 : Int).natAbs := by decide
    rw [e] at this
    rw [G34 z hz]
    exact Nat.le_of_lt (Nat.lt_of_mul_lt_mul_right this)
  have hQ : 17179869184 * GG ≤ 3 * QQ := by have := G_Q; omega
  have hU : fvW x * fvW 4318952042648305664 = P * (UU : Int) := by
    obtain ⟨k, hk⟩ : ∃ k, k = 1010 := ⟨_, rfl⟩
    rw [shr_val k hk, hP, U_eq, show EU = 64 + k by rw [hk]; rfl, ← p2c, Nat.pow_add, Int.natCast_mul, Int.mul_assoc]
    congr 2
  obtain ⟨t1, t2⟩ := ti_fin hx shr_fin.2 fx shr_fin.1 hU (by omega)
  have e := t2.own hF
  exact ⟨t1, by rw [e, hP], by rw [e]; exact htop⟩
theorem ti_bits {x y : Nat} (h : finW (tiW x y)) : floatBits .mul .f64 x y = some (tiW x y) := by
  unfold tiW arW at h ⊢
  cases hb : floatBits .mul .f64 x y with
  | some z => rfl
  | none =>
    rw [hb] at h
    exfalso
    revert h
    unfold finW magW
    decide

theorem Fr.set {lo : Nat} {w : World} {v : Value} {L : List Nat} (h : Fr lo w v L) {g : Nat} (hne : v.ownBlock ≠ some g) (i : Nat) (u : Value) : Fr lo (w.setCell ⟨g, i, none⟩ u) v L := by
  refine ⟨h.1, ?_⟩
  rcases h.2 with hn | ⟨g', cap, cur, rfl, hlo, hgc, rest⟩
  · exact .inl hn
  · refine .inr ⟨g', cap, cur, rfl, hlo, ?_, rest⟩
    rw [Below.heap_setCell _ _ _ _ (fun e => hne (by rw [e]; rfl))]; exact hgc

theorem Fr.slice {lo : Nat} {w : World} {v : Value} {L : List Nat} (h : Fr lo w v L) : ∃ ao m cp, v = .slice ao m cp := by
  rcases h.shape with ⟨rfl, _⟩ | ⟨g, cap, rfl, _⟩
  · exact ⟨_, _, _, rfl⟩
  · exact ⟨_, _, _, rfl⟩
/-- What Add and Merge leave: a row is another one. -/
theorem Sx.next {F : Nat → Prop} {w w1 : World} {g n : Nat} {va vb v' : Value} {A' : List Nat} (first : Bool) {X Y : List Nat}
    (h1 : Sk w g n va vb) (h2 : Fr 0 w va X) (h3 : Fr 0 w vb Y) (h4 : ∀ k, va.ownBlock = some k → vb.ownBlock ≠ some k) (h5 : F g) (h6 : ∀ k, va.ownBlock = some k → F k) (h7 : ∀ k, vb.ownBlock = some k → F k)
    (k1 : Fr 0 w1 v' A') (k2 : w.grownBy w1 (if first then va else vb).ownBlock) (k3 : v'.ownBlock = (if first then va else vb).ownBlock ∨ ∃ g, v'.ownBlock = some g ∧ w.heap.size ≤ g) :
    Sk w1 g n va vb ∧ Fr 0 w1 (if first then vb else va) (if first then Y else X) ∧ (∀ k, v'.ownBlock = some k → (if first then vb else va).ownBlock ≠ some k) ∧ (∀ k, v'.ownBlock = some k → Gr F w w1 k) ∧ v'.ownBlock ≠ some g ∧ Tch F w w1 := by
  have hg1 : Sk w1 g n va vb := h1.of_block (k2.block g h1.lt (fun e => by
    cases first
    · exact h1.not_row h3 e.symm
    · exact h1.not_row h2 e.symm))
  refine ⟨hg1, ?_, ?_, ?_, hg1.not_row k1, ?_⟩
  · cases first
    · exact h2.keep k2 (fun k hk => fun e => h4 k hk e)
    · exact h3.keep k2 (fun k hk => fun e => h4 k e hk)
  · intro k hk e
    rcases k3 with q | ⟨g', q, q2⟩
    · rw [q] at hk
      cases first
      · exact h4 k e hk
      · exact h4 k hk e
    · rw [q] at hk
      injection hk with hk
      subst hk
      cases first
      · have := (h2.lt e).2; omega
      · have := (h3.lt e).2; omega
  · intro k hk
    rcases k3 with q | ⟨g', q, q2⟩
    · rw [q] at hk
      left
      cases first
      · exact h7 k hk
      · exact h6 k hk
    · exact .inr ⟨by rw [q] at hk; injection hk with hk; omega, (k1.lt hk).2⟩
  · exact Tch.grown k2 (fun k hk => by
      cases first
      · exact h7 k hk
      · exact h6 k hk)

/-- The end of Add: a row is another one, the count one more. -/
theorem Sx.done {F : Nat → Prop} {w u : World} {g n : Nat} {va vb v' : Value} {A B : List Nat} {V1 V2 V : Int} {c : Nat} (h5 : F g) (h6 : ∀ k, va.ownBlock = some k → F k) (h7 : ∀ k, vb.ownBlock = some k → F k) (h8 : ∀ k, F k → k < w.heap.size)
    (s1 : Sk u g n va vb) (k1 : Fr 0 u v' A) (s2 : Fr 0 u vb B) (s3 : ∀ k, v'.ownBlock = some k → vb.ownBlock ≠ some k) (s4 : ∀ k, v'.ownBlock = some k → Gr F w u k) (s5 : v'.ownBlock ≠ some g) (s6 : Tch F w u)
    (r1 : Rk A V1 (n + 1) c) (r2 : Rk B V2 (n + 1) c) (hV : V = V1 + V2 * 18446744073709551616) (hn : n < 65536) (hb : (n + 1) * 17179869184 + c ≤ 4503599627370496) :
    Sx (Gr F w ((u.setCell ⟨g, 1, none⟩ v').setCell ⟨g, 0, none⟩ (.int .i64 ((n : Int) + 1)))) ((u.setCell ⟨g, 1, none⟩ v').setCell ⟨g, 0, none⟩ (.int .i64 ((n : Int) + 1))) g (n + 1) V c ∧ Tch F w ((u.setCell ⟨g, 1, none⟩ v').setCell ⟨g, 0, none⟩ (.int .i64 ((n : Int) + 1))) := by
  have e : ((n : Int) + 1) = ((n + 1 : Nat) : Int) := by omega
  have hsz : ((u.setCell ⟨g, 1, none⟩ v').setCell ⟨g, 0, none⟩ (.int .i64 ((n : Int) + 1))).heap.size = u.heap.size := by simp [World.setCell]
  have hgr : ∀ k, Gr F w u k → Gr F w ((u.setCell ⟨g, 1, none⟩ v').setCell ⟨g, 0, none⟩ (.int .i64 ((n : Int) + 1))) k := fun k q => by unfold Gr at q ⊢; rw [hsz]; exact q
  have hne : vb.ownBlock ≠ some g := s1.not_row s2
  refine ⟨⟨v', vb, A, B, V1, V2, ?_, (k1.set s5 _ _).set s5 _ _, (s2.set hne _ _).set hne _ _, s3, .inl h5, fun k hk => hgr k (s4 k hk), fun k hk => .inl (h7 k hk), fun k q => ?_, r1, r2, hV, by omega, hb⟩, (s6.set g 1 v' h5).set g 0 _ h5⟩
  · rw [e]; exact (s1.set1 v').set0 (n + 1)
  · unfold Gr at q
    rcases q with q | q
    · rw [hsz]; exact Nat.lt_of_lt_of_le (h8 k q) s6.size
    · exact q.2
theorem Sx.done2 {F : Nat → Prop} {w u : World} {g n : Nat} {va vb v' : Value} {A B : List Nat} {V1 V2 V : Int} {c : Nat} (h5 : F g) (h6 : ∀ k, va.ownBlock = some k → F k) (h7 : ∀ k, vb.ownBlock = some k → F k) (h8 : ∀ k, F k → k < w.heap.size)
    (s1 : Sk u g n va vb) (k1 : Fr 0 u v' B) (s2 : Fr 0 u va A) (s3 : ∀ k, v'.ownBlock = some k → va.ownBlock ≠ some k) (s4 : ∀ k, v'.ownBlock = some k → Gr F w u k) (s5 : v'.ownBlock ≠ some g) (s6 : Tch F w u)
    (r1 : Rk A V1 (n + 1) c) (r2 : Rk B V2 (n + 1) c) (hV : V = V1 + V2 * 18446744073709551616) (hn : n < 65536) (hb : (n + 1) * 17179869184 + c ≤ 4503599627370496) :
    Sx (Gr F w ((u.setCell ⟨g, 2, none⟩ v').setCell ⟨g, 0, none⟩ (.int .i64 ((n : Int) + 1)))) ((u.setCell ⟨g, 2, none⟩ v').setCell ⟨g, 0, none⟩ (.int .i64 ((n : Int) + 1))) g (n + 1) V c ∧ Tch F w ((u.setCell ⟨g, 2, none⟩ v').setCell ⟨g, 0, none⟩ (.int .i64 ((n : Int) + 1))) := by
  have e : ((n : Int) + 1) = ((n + 1 : Nat) : Int) := by omega
  have hsz : ((u.setCell ⟨g, 2, none⟩ v').setCell ⟨g, 0, none⟩ (.int .i64 ((n : Int) + 1))).heap.size = u.heap.size := by simp [World.setCell]
  have hgr : ∀ k, Gr F w u k → Gr F w ((u.setCell ⟨g, 2, none⟩ v').setCell ⟨g, 0, none⟩ (.int .i64 ((n : Int) + 1))) k := fun k q => by unfold Gr at q ⊢; rw [hsz]; exact q
  have hne : va.ownBlock ≠ some g := s1.not_row s2
  refine ⟨⟨va, v', A, B, V1, V2, ?_, (s2.set hne _ _).set hne _ _, (k1.set s5 _ _).set s5 _ _, fun k hk q => s3 k q hk, .inl h5, fun k hk => .inl (h6 k hk), fun k hk => hgr k (s4 k hk), fun k q => ?_, r1, r2, hV, by omega, hb⟩, (s6.set g 2 v' h5).set g 0 _ h5⟩
  · rw [e]; exact (s1.set2 v').set0 (n + 1)
  · unfold Gr at q
    rcases q with q | q
    · rw [hsz]; exact Nat.lt_of_lt_of_le (h8 k q) s6.size
    · exact q.2

set_option maxHeartbeats 2000000 in
theorem add_long8 (F : Nat → Prop) (w : World) (g n : Nat) (V : Int) (c x : Nat) (h : Sx F w g n V c) (hn : 65536 ≤ n) :
    Calls Tryd.prog 18 #[.pointer (some ⟨g, 0, none⟩), .float .f64 x] w fun r w' => r = .returned (.int .i64 2) ∧ w' = w := by
  obtain ⟨va, vb, A, B, V1, V2, h1, _⟩ := h
  obtain ⟨x0, _⟩ := h1.facts
  have hd : decide (65536 ≤ n) = true := by simpa using hn
  have hd2 : decide ((65536 : Int) ≤ (n : Int)) = true := by simp; omega
  clear h1 hn
  go_enter Tryd.func18, Tryd.ntmps18
  go_wp2
  go_ret
  exact ⟨rfl, rfl⟩
set_option maxHeartbeats 2000000 in
theorem add_odd8 (F : Nat → Prop) (w : World) (g n : Nat) (V : Int) (c x : Nat) (h : Sx F w g n V c) (hn : n < 65536) (hx : Wd x) (fx : ¬ finW x) :
    Calls Tryd.prog 18 #[.pointer (some ⟨g, 0, none⟩), .float .f64 x] w fun r w' => r = .returned (.int .i64 30) ∧ w' = w := by
  obtain ⟨va, vb, A, B, V1, V2, h1, _⟩ := h
  obtain ⟨x0, _⟩ := h1.facts
  have HN := hid (isNaN_w x hx w)
  have HI := hid (isInf_w8 x hx w)
  have hor : nanW x = true ∨ (nanW x = false ∧ (magW x == 9218868437227405312) = true) := by
    unfold nanW finW magW at *
    by_cases q : 9218868437227405312 < x % 9223372036854775808
    · left; simpa using q
    · right
      refine ⟨by simpa using q, ?_⟩
      simp only [beq_iff_eq]
      omega
  have hd : decide (65536 ≤ n) = false := by simpa using hn
  have hd2 : decide ((65536 : Int) ≤ (n : Int)) = false := by simp; omega
  clear h1 hx fx hn
  rcases hor with q | ⟨q1, q2⟩
  · rw [q] at HN
    clear HI
    go_enter Tryd.func18, Tryd.ntmps18
    go_wp2_with fail
    with_reducible refine HN.out.mono ?_
    rintro r w1 ⟨rfl, rfl⟩
    go_wp2
    go_ret
    exact ⟨rfl, rfl⟩
  · rw [q1] at HN
    rw [q2] at HI
    go_enter Tryd.func18, Tryd.ntmps18
    go_wp2_with fail
    with_reducible refine HN.out.mono ?_
    rintro r w1 ⟨rfl, rfl⟩
    go_wp2_with fail
    with_reducible refine HI.out.mono ?_
    rintro r w1 ⟨rfl, rfl⟩
    go_wp2
    go_ret
    exact ⟨rfl, rfl⟩
set_option maxHeartbeats 4000000 in
theorem add_ok8 (F : Nat → Prop) (w : World) (g n : Nat) (V : Int) (c x : Nat) (h : Sx F w g n V c) (hn : n < 65536) (hx : Wd x) (fx : finW x) (hb : n * 17179869184 + 17179869184 + c + n ≤ 4503599627370496) :
    Calls Tryd.prog 18 #[.pointer (some ⟨g, 0, none⟩), .float .f64 x] w fun r w' => r = .returned (.int .i64 0) ∧ Sx (Gr F w w') w' g (n + 1) (V + fvW x) (c + n) ∧ Tch F w w' := by
  obtain ⟨va, vb, A, B, V1, V2, h1, h2, h3, h4, h5, h6, h7, h8, r1, r2, r3, r4, r5⟩ := h
  obtain ⟨x0, x1, x2, f0, f1, f2⟩ := h1.facts
  have HN := hid (isNaN_w x hx w)
  have HI := hid (isInf_w8 x hx w)
  have HB := hid (abs_w8 x hx w)
  have q1 : nanW x = false := by unfold nanW; unfold finW magW at fx; simp; omega
  have q2 : (magW x == 9218868437227405312) = false := by simp; unfold finW at fx; omega
  rw [q1] at HN
  rw [q2] at HI
  have hA1 : avL A + A.length * GG + 17179869184 * GG ≤ 4503599627370496 * GG ∧ avL B + B.length * GG + 17179869184 * GG ≤ 4503599627370496 * GG := by
    have e2 : (n * 17179869184 + 17179869184 + c + n) * GG ≤ 4503599627370496 * GG := Nat.mul_le_mul_right _ hb
    rw [dist4] at e2
    have s1 := r1.size
    have s2 := r2.size
    have l1 : A.length * GG ≤ n * GG := Nat.mul_le_mul_right _ r1.len
    have l2 : B.length * GG ≤ n * GG := Nat.mul_le_mul_right _ r2.len
    omega
  have hcmp : ∀ b : Bool, decide (8930638061075693568 ≤ magW x) = b → ((FloatKind.f64.format.order (magW x) 8930638061075693568 == some .gt) || (FloatKind.f64.format.order (magW x) 8930638061075693568 == some .eq)) = b := by
    intro b hb
    have e1 := gt64 false false (magW x) 8930638061075693568 (Nat.le_of_lt fx) (by decide)
    have e2 := eq64 false false (magW x) 8930638061075693568 (Nat.le_of_lt fx) (by decide)
    rw [show wd64 false (magW x) = magW x from rfl, show wd64 false 8930638061075693568 = 8930638061075693568 from rfl] at e1 e2
    rw [e1, e2, ← hb, Bool.eq_iff_iff]
    simp [sK]
    omega
  by_cases hf : magW x < 8930638061075693568
  · have hc := hcmp false (by simpa using hf)
    have HW := hid (with_any 0 va A x w h2 (Nat.zero_le _) r1.fin ⟨hx, fx⟩ (by have := r1.len; omega) (by have := far8 fx hf; omega))
    have HR := Aside.intro (And.intro (r1.with ⟨hx, fx⟩ (far8 fx hf) hb) (r2.mono (Nat.le_add_right n 1) (Nat.le_add_right c n)))
    have HH := Aside.intro (And.intro h1 (And.intro h2 (And.intro h3 (And.intro h4 (And.intro h5 (And.intro h6 (And.intro h7 (And.intro h8 (And.intro r3 (And.intro hn hb))))))))))
    have hd : decide (65536 ≤ n) = false := by simpa using hn
    have hd2 : decide ((65536 : Int) ≤ (n : Int)) = false := by simp; omega
    clear hcmp h1 h2 h3 h4 h5 h6 h7 h8 r1 r2 r3 r4 r5 hA1 q1 q2 hx fx hf hb hn
    go_enter Tryd.func18, Tryd.ntmps18
    go_wp2_with fail
    with_reducible refine HN.out.mono ?_
    rintro r w1 ⟨rfl, rfl⟩
    go_wp2_with fail
    with_reducible refine HI.out.mono ?_
    rintro r w1 ⟨rfl, rfl⟩
    go_wp2_with fail
    with_reducible refine HB.out.mono ?_
    rintro r w1 ⟨rfl, rfl⟩
    go_wp2_with fail
    with_reducible refine HW.out.mono ?_
    rintro r u ⟨v', rfl, k1, k2, k3⟩
    obtain ⟨ao, ml, cp, rfl⟩ := k1.slice
    obtain ⟨h1, h2, h3, h4, h5, h6, h7, h8, r3, hn, hb⟩ := HH.out
    obtain ⟨s1, s2, s3, s4, s5, s6⟩ := Sx.next true h1 h2 h3 h4 h5 h6 h7 k1 k2 k3
    obtain ⟨y0, y1, y2, e0, e1, e2⟩ := s1.facts
    have HZ := Aside.intro (Sx.done h5 h6 h7 h8 s1 k1 s2 s3 s4 s5 s6 HR.out.1 HR.out.2 (show V + fvW x = (V1 + fvW x) + V2 * 18446744073709551616 by omega) hn (by omega))
    clear h1 h2 h3 h4 h5 h6 h7 h8 r3 hn hb s1 s2 s3 s4 s5 s6 k1 k2 k3 x0 x1 x2 f0 f1 f2
    have hn6 : n < 100000 := by have := HH.out.2.2.2.2.2.2.2.2.2.1; omega
    clear HH HR
    go_wp2
    go_ret
    exact ⟨rfl, HZ.out⟩
  · have hc := hcmp true (by simpa using hf)
    obtain ⟨y1, y2, y3⟩ := shrink8 hx fx hf
    have hy0 : Wd (tiW x 4318952042648305664) := (bits_fin (op := .mul) (.inr (.inr rfl)) (ti_bits y1)).2
    have d := run_float_arith (P := Tryd.prog) w .mul 28 .f64 x 4318952042648305664 (tiW x 4318952042648305664) (ti_bits y1)
    obtain ⟨y, hy⟩ : ∃ y, y = tiW x 4318952042648305664 := ⟨_, rfl⟩
    rw [← hy] at y1 y2 y3 hy0 d
    have HY := Aside.intro y2
    have HW := hid (with_any 0 vb B y w h3 (Nat.zero_le _) r2.fin ⟨hy0, y1⟩ (by have := r2.len; omega) (by omega))
    have HR := Aside.intro (And.intro (r1.mono (Nat.le_add_right n 1) (Nat.le_add_right c n)) (r2.with ⟨hy0, y1⟩ y3 hb))
    have HH := Aside.intro (And.intro h1 (And.intro h2 (And.intro h3 (And.intro h4 (And.intro h5 (And.intro h6 (And.intro h7 (And.intro h8 (And.intro r3 (And.intro hn hb))))))))))
    have hd : decide (65536 ≤ n) = false := by simpa using hn
    have hd2 : decide ((65536 : Int) ≤ (n : Int)) = false := by simp; omega
    clear hcmp h1 h2 h3 h4 h5 h6 h7 h8 r1 r2 r3 r4 r5 hA1 q1 q2 hx fx hf hb hn hy y1 y2 y3 hy0
    go_enter Tryd.func18, Tryd.ntmps18
    go_wp2_with fail
    with_reducible refine HN.out.mono ?_
    rintro r w1 ⟨rfl, rfl⟩
    go_wp2_with fail
    with_reducible refine HI.out.mono ?_
    rintro r w1 ⟨rfl, rfl⟩
    go_wp2_with fail
    with_reducible refine HB.out.mono ?_
    rintro r w1 ⟨rfl, rfl⟩
    go_wp2_with (simp only [d])
    with_reducible refine HW.out.mono ?_
    rintro r u ⟨v', rfl, k1, k2, k3⟩
    obtain ⟨ao, ml, cp, rfl⟩ := k1.slice
    obtain ⟨h1, h2, h3, h4, h5, h6, h7, h8, r3, hn, hb⟩ := HH.out
    obtain ⟨s1, s2, s3, s4, s5, s6⟩ := Sx.next false h1 h2 h3 h4 h5 h6 h7 k1 k2 k3
    obtain ⟨y0, y1, y2, e0, e1, e2⟩ := s1.facts
    have HZ := Aside.intro (Sx.done2 h5 h6 h7 h8 s1 k1 s2 s3 s4 s5 s6 HR.out.1 HR.out.2 (show V + fvW x = V1 + (V2 + fvW y) * 18446744073709551616 by have := HY.out; omega) hn (by omega))
    clear h1 h2 h3 h4 h5 h6 h7 h8 r3 hn hb s1 s2 s3 s4 s5 s6 k1 k2 k3 x0 x1 x2 f0 f1 f2
    have hn6 : n < 100000 := by have := HH.out.2.2.2.2.2.2.2.2.2.1; omega
    clear HH HR
    go_wp2
    go_ret
    exact ⟨rfl, HZ.out⟩
end Go.Proofs.YtnnlicahgdcbdaaDoor

/- Merge. -/
namespace Go.Proofs.YtnnlicahgdcbdaaDoor
open Go.RowKit
set_option linter.unusedVariables false
set_option maxRecDepth 20000
set_option linter.unusedSimpArgs false

theorem bdrewN {B : Nat} {a w : World} (h : Below B a w) (n : Nat) : Below B a (w.drewN n) := h.trans ⟨rfl, rfl, rfl, Nat.le_refl _, fun _ _ => rfl⟩
set_option maxHeartbeats 2000000 in
theorem merge_long8 (w : World) (g gb n m : Nat) (va vb ua ub : Value) (h1 : Sk w g n va vb) (h2 : Sk w gb m ua ub) (hn : n ≤ 65536) (hm : m ≤ 65536) (hb : 65536 < n + m) :
    Calls Tryd.prog 28 #[.pointer (some ⟨g, 0, none⟩), .pointer (some ⟨gb, 0, none⟩)] w fun r w' => r = .returned (.int .i64 2) ∧ Below w.heap.size w w' := by
  obtain ⟨x0, _⟩ := h1.facts
  obtain ⟨y0, _⟩ := h2.facts
  have hd : decide (65536 < n + m) = true := by simpa using hb
  have hd2 : decide ((65536 : Int) < (n : Int) + (m : Int)) = true := by simp; omega
  have hn9 : n < 100000 := by omega
  have hm9 : m < 100000 := by omega
  clear h1 h2 hb hn hm
  go_enter Tryd.func28, Tryd.ntmps28
  go_wp2
  go_quiet (fail)
  go_wp2
  go_ret
  exact ⟨rfl, bdrewN (Below.refl _ _) _⟩

/-- What stands ahead of Merge's second step. -/
structure Mg (w : World) (g gb n m : Nat) (va vb ua ub v' : Value) (u : World) : Prop where
  s : Sk u g n v' vb
  b1 : u.cell? ⟨gb, 2, none⟩ = some ub
  b0 : u.cell? ⟨gb, 0, none⟩ = some (.int .i64 (m : Nat))
set_option maxHeartbeats 8000000 in
theorem merge_core8 (w : World) (g gb n m : Nat) (va vb ua ub : Value) (AB BB : List Nat) (h1 : Sk w g n va vb) (h2 : Sk w gb m ua ub) (hb : n + m ≤ 65536)
    (HM : Hid (∀ u, Below w.heap.size w u → Calls Tryd.prog 55 #[va, ua] u fun r u' => ∃ v', r = .returned v' ∧ Fr 0 u' v' AB ∧ u.grownBy u' va.ownBlock ∧ (v'.ownBlock = va.ownBlock ∨ ∃ g, v'.ownBlock = some g ∧ u.heap.size ≤ g)))
    (HM2 : Hid (∀ u, Tch (fun k => k = g ∨ va.ownBlock = some k) w u → Calls Tryd.prog 55 #[vb, ub] u fun r u' => ∃ v', r = .returned v' ∧ Fr 0 u' v' BB ∧ u.grownBy u' vb.ownBlock ∧ (v'.ownBlock = vb.ownBlock ∨ ∃ g, v'.ownBlock = some g ∧ u.heap.size ≤ g)))
    (hva : va.ownBlock ≠ some g ∧ va.ownBlock ≠ some gb) (hvb : vb.ownBlock ≠ some g ∧ vb.ownBlock ≠ some gb) :
    Calls Tryd.prog 28 #[.pointer (some ⟨g, 0, none⟩), .pointer (some ⟨gb, 0, none⟩)] w fun r w' => r = .returned (.int .i64 0) ∧
      ∃ v1 v2 w1 w2, Fr 0 w1 v1 AB ∧ w.grownBy w1 va.ownBlock ∧ (v1.ownBlock = va.ownBlock ∨ ∃ g, v1.ownBlock = some g ∧ w.heap.size ≤ g) ∧
        Fr 0 w2 v2 BB ∧ (w1.setCell ⟨g, 1, none⟩ v1).grownBy w2 vb.ownBlock ∧ (v2.ownBlock = vb.ownBlock ∨ ∃ g, v2.ownBlock = some g ∧ w1.heap.size ≤ g) ∧
        But g w2 w' ∧ Sk w' g (n + m) v1 v2 := by
  obtain ⟨x0, x1, x2, xf0, xf1, xf2⟩ := h1.facts
  obtain ⟨y0, y1, y2, yf0, yf1, yf2⟩ := h2.facts
  have hd : decide (65536 < n + m) = false := by simpa using hb
  have hd2 : decide ((65536 : Int) < (n : Int) + (m : Int)) = false := by simp; omega
  have HH := Aside.intro (And.intro h1 (And.intro h2 (And.intro hb (And.intro hva hvb))))
  have hn9 : n < 100000 := by omega
  have hm9 : m < 100000 := by omega
  clear h1 h2 hb hva hvb
  go_enter Tryd.func28, Tryd.ntmps28
  go_wp2
  go_quiet (fail)
  go_wp2
  go_region_with (first
    | (go_at_call 55
       with_reducible refine (HM.out _ (by first | exact bdrewN (Below.refl _ _) _ | exact (bdrewN (Below.refl _ _) _).drew)).mono ?_
       rintro r u ⟨v', rfl, k1, k2, k3⟩
       obtain ⟨ao, ml, cp, rfl⟩ := k1.slice
       have hs1 : Sk u g n va vb := HH.out.1.of_block (k2.block g HH.out.1.lt (fun e => HH.out.2.2.2.1.1 e.symm))
       have hs2 : Sk u gb m ua ub := HH.out.2.1.of_block (k2.block gb HH.out.2.1.lt (fun e => HH.out.2.2.2.1.2 e.symm))
       obtain ⟨p0, p1, p2, pf0, pf1, pf2⟩ := hs1.facts
       have k2' : w.grownBy u va.ownBlock := ⟨k2.os, k2.tape, k2.output, k2.size, fun k hk hne => k2.block k hk hne⟩
       have k3' : (Value.slice ao ml cp).ownBlock = va.ownBlock ∨ ∃ g, (Value.slice ao ml cp).ownBlock = some g ∧ w.heap.size ≤ g := k3
       have K := Aside.intro (And.intro k1 (And.intro k2' (And.intro k3' (And.intro hs1 hs2))))
       clear k1 k2 k3 hs1 hs2 k2' k3'))
  all_goals (
    clear HM x0 x1 x2 xf0 xf1 xf2 y0 y1 y2 yf0 yf1 yf2 p0 p1 p2 pf0 pf1 pf2
    obtain ⟨U, hU⟩ : ∃ U, U = u.setCell ⟨g, 1, none⟩ (.slice ao ml cp) := ⟨_, rfl⟩
    rw [← hU]
    have hS : Sk U g n (.slice ao ml cp) vb := by rw [hU]; exact K.out.2.2.2.1.set1 _
    have hB : U.cell? ⟨gb, 2, none⟩ = some ub ∧ U.cell? ⟨gb, 0, none⟩ = some (.int .i64 (m : Nat)) := by
      by_cases e : gb = g
      · subst e
        obtain ⟨z0, _, z2, _⟩ := hS.facts
        obtain ⟨t0, _, t2, _⟩ := K.out.2.2.2.2.facts
        obtain ⟨s0, _, s2, _⟩ := K.out.2.2.2.1.facts
        exact ⟨by rw [z2, ← s2, t2], by rw [z0, ← s0, t0]⟩
      · have e2 : U.heap[gb]? = u.heap[gb]? := by rw [hU]; exact Below.heap_setCell _ _ _ _ e
        obtain ⟨t0, _, t2, _⟩ := (K.out.2.2.2.2.of_block e2).facts
        exact ⟨t2, t0⟩
    have hTc : Tch (fun k => k = g ∨ va.ownBlock = some k) w U := by
      rw [hU]
      exact (Tch.grown K.out.2.1 (fun k hk => .inr hk)).set g 1 _ (.inl rfl)
    have HT := Aside.intro (And.intro hS (And.intro hB hTc))
    obtain ⟨x0, x1, x2, xf0, xf1, xf2⟩ := hS.facts
    obtain ⟨y2, y0⟩ := hB
    have HUU := Aside.intro hU
    clear hS hTc hU
    go_wp2
    go_region_with (first
      | (go_at_call 55
         with_reducible refine (HM2.out _ (by first | exact HT.out.2.2 | exact HT.out.2.2.trans' (Tch.of_below (Below.refl _ _).drew))).mono ?_
         rintro r u2 ⟨v2, rfl, k1, k2, k3⟩
         obtain ⟨ao2, ml2, cp2, rfl⟩ := k1.slice
         have hs1 : Sk u2 g n (.slice ao ml cp) vb := HT.out.1.of_block (k2.block g HT.out.1.lt (fun e => HH.out.2.2.2.2.1 e.symm))
         obtain ⟨p0, p1, p2, pf0, pf1, pf2⟩ := hs1.facts
         have q0 : u2.cell? ⟨gb, 0, none⟩ = some (.int .i64 (m : Nat)) := by
           have e2 : u2.heap[gb]? = U.heap[gb]? := k2.block gb (Nat.lt_of_lt_of_le HH.out.2.1.lt HT.out.2.2.size) (fun e => HH.out.2.2.2.2.2 e.symm)
           rw [World.cell?_of_block (a := ⟨gb, 0, none⟩) e2]
           exact HT.out.2.1.2
         have k2' : U.grownBy u2 vb.ownBlock := ⟨k2.os, k2.tape, k2.output, k2.size, fun k hk hne => k2.block k hk hne⟩
         have k3' : (Value.slice ao2 ml2 cp2).ownBlock = vb.ownBlock ∨ ∃ g, (Value.slice ao2 ml2 cp2).ownBlock = some g ∧ U.heap.size ≤ g := k3
         have K2 := Aside.intro (And.intro k1 (And.intro k2' (And.intro k3' (And.intro hs1 q0))))
         clear k1 k2 k3 hs1 k2' k3'))
    all_goals (
      clear HM2 x0 x1 x2 xf0 xf1 xf2 y0 y2 p0 p1 p2 pf0 pf1 pf2 q0
      obtain ⟨U2, hU2⟩ : ∃ U, U = u2.setCell ⟨g, 2, none⟩ (.slice ao2 ml2 cp2) := ⟨_, rfl⟩
      rw [← hU2]
      have hS2 : Sk U2 g n (.slice ao ml cp) (.slice ao2 ml2 cp2) := by rw [hU2]; exact K2.out.2.2.2.1.set2 _
      have q0 : U2.cell? ⟨gb, 0, none⟩ = some (.int .i64 (m : Nat)) := by
        by_cases e : gb = g
        · have e0 := hS2.facts.1
          have e1 := K2.out.2.2.2.1.facts.1
          have e3 := K2.out.2.2.2.2
          rw [e] at e3 ⊢
          rw [e0, ← e1, e3]
        · rw [World.cell?_of_block (a := ⟨gb, 0, none⟩) (show U2.heap[gb]? = u2.heap[gb]? by rw [hU2]; exact Below.heap_setCell _ _ _ _ e)]
          exact K2.out.2.2.2.2
      obtain ⟨x0, x1, x2, xf0, xf1, xf2⟩ := hS2.facts
      have HU2 := Aside.intro (And.intro hU2 hS2)
      clear hU2 hS2
      go_wp2
      go_region_with (fail)
      all_goals (
        go_wp2
        go_ret
        have hUe := HUU.out
        obtain ⟨hU2e, hS2e⟩ := HU2.out
        refine ⟨rfl, .slice ao ml cp, .slice ao2 ml2 cp2, u, u2, K.out.1, K.out.2.1, K.out.2.2.1, K2.out.1, hUe ▸ K2.out.2.1, ?_, ?_, ?_⟩
        · rcases K2.out.2.2.1 with q | ⟨g', q, q2⟩
          · exact .inl q
          · exact .inr ⟨g', q, by rw [hUe] at q2; simpa [World.setCell] using q2⟩
        · have b1 : But g u2 U2 := by rw [hU2e]; exact (But.refl _ _).set 2 _
          first
            | exact b1.trans ((But.refl g U2).set 0 _).drew
            | exact b1.trans ((But.refl g U2).set 0 _)
        · have hw : IntKind.i64.wrap ((n : Int) + (m : Int)) = ((n + m : Nat) : Int) := by rw [IntKind.wrap_i64]; omega
          have e : ((n : Int) + (m : Int)) = ((n + m : Nat) : Int) := by omega
          first
            | (rw [hw]; exact hS2e.set0 (n + m))
            | (rw [e]; exact hS2e.set0 (n + m)))))
end Go.Proofs.YtnnlicahgdcbdaaDoor

/- Parts: the nearest finite number, what is left, how long it goes on. -/
namespace Go.Proofs.YtnnlicahgdcbdaaDoor
open Go.RowKit J
set_option linter.unusedVariables false
set_option maxRecDepth 20000
set_option linter.unusedSimpArgs false

/-- An infinity made the greatest number of its sign. -/
def clW (x : Nat) : Nat := if magW x == 9218868437227405312 then x - 1 else x
/-- The nearest finite number. -/
def nrW (V : Int) : Nat := clW (rndS (fo8 V) 0).1
/-- What Parts tells of V. -/
def IsParts : Int → List Nat → Prop
  | V, [] => V = 0
  | V, x :: l => V ≠ 0 ∧ x = nrW V ∧ IsParts (V - fvW x) l
theorem IsParts.one {V : Int} {l k : List Nat} (h : IsParts V l) (h2 : IsParts V k) : l = k := by
  induction l generalizing V k with
  | nil =>
    cases k with
    | nil => rfl
    | cons y k => exact absurd h h2.1
  | cons x l ih =>
    cases k with
    | nil => exact absurd h2 h.1
    | cons y k =>
      obtain ⟨_, rfl, h3⟩ := h
      obtain ⟨_, rfl, h4⟩ := h2
      rw [ih h3 h4]

theorem ex_ne (V : Nat) (hV : V ≠ 0) : ∃ R, NE R V 1 := by
  obtain ⟨R, _, h⟩ := nearest_ne false V 0 0 hV
  exact ⟨R, by simpa using h⟩
/-- What is rounded, by its nearest rung. -/
theorem rnd_ne (V : Int) (m : Nat) (hm : m ≤ 200000) (hV : V.natAbs < 2 ^ m) (h0 : V ≠ 0) {R : Nat} (hR : NE R V.natAbs 1) :
    rndS (fo8 V) 0 = (wd64 (decide (V < 0)) (min R 9218868437227405312), 0) := by
  obtain ⟨n, X, e, h1, F, h2, h3, _⟩ := fo8_frm V m hm hV
  have hf := fo8_fo V m hm hV
  rw [h1] at hf ⊢
  have hU := U_pos
  have hT : V * (UU : Int) ≠ 0 := fun q => by
    rcases Int.mul_eq_zero.1 q with q | q
    · exact h0 q
    · omega
  obtain ⟨hX, hn, hw⟩ := round_fo hf hT
  have hs := hR.scale UU hU
  rw [Nat.one_mul] at hs
  have e1 : (V * (UU : Int)).natAbs = V.natAbs * UU := by rw [Int.natAbs_mul, Int.natAbs_natCast]
  rw [rndS_form 0 n X e (by omega) (by omega), hw R (by rw [e1]; exact hs)]
  unfold rS
  rw [if_neg hX, h3 h0]
theorem sg_neg (s : Bool) (v : Nat) : B.sg s v = if s then -(v : Int) else v := by cases s <;> rfl
theorem maxV (a : Nat) (ha : a = 2045) : vK 9218868437227405311 = 9007199254740991 * 2 ^ a := by
  have e := vK_word a 9007199254740991 (.inr (by decide)) (by decide)
  rw [show a * 4503599627370496 + 9007199254740991 = 9218868437227405311 by omega] at e
  exact e
theorem magW_cl (s : Bool) : clW (wd64 s 9218868437227405312) = wd64 s 9218868437227405311 := by cases s <;> decide
/-- What the nearest finite number is: either the nearest number, or the greatest one, where the sum lies beyond. -/
theorem nr_any (V : Int) (m : Nat) (hm : m ≤ 200000) (hV : V.natAbs < 2 ^ m) (h0 : V ≠ 0) :
    (Wd (nrW V) ∧ finW (nrW V)) ∧ ((nrW V = (rndS (fo8 V) 0).1 ∧ finW (rndS (fo8 V) 0).1 ∧ IsRn V (fvW (nrW V))) ∨
      ((rndS (fo8 V) 0).1 = wd64 (decide (V < 0)) 9218868437227405312 ∧ nrW V = wd64 (decide (V < 0)) 9218868437227405311 ∧ fvW (nrW V) = B.sg (decide (V < 0)) (vK 9218868437227405311) ∧ vK 9218868437227405311 ≤ V.natAbs)) := by
  obtain ⟨R, hR⟩ := ex_ne V.natAbs (by omega)
  have hr := rnd_ne V m hm hV h0 hR
  unfold nrW
  rw [hr]
  simp only
  by_cases hi : R < 9218868437227405312
  · rw [Nat.min_eq_left (by omega)]
    obtain ⟨g1, g2, g3⟩ := magW_wd (decide (V < 0)) R (by omega)
    have hc : clW (wd64 (decide (V < 0)) R) = wd64 (decide (V < 0)) R := by
      unfold clW
      rw [g1, if_neg (by simp; omega)]
    rw [hc]
    obtain ⟨f1, f2⟩ := fv_wd (decide (V < 0)) R hi
    refine ⟨⟨g3, f1⟩, .inl ⟨rfl, f1, ?_⟩⟩
    rw [f2]
    exact ne_rn hR (fun _ => rfl)
  · rw [Nat.min_eq_right (by omega), magW_cl]
    obtain ⟨g1, g2, g3⟩ := magW_wd (decide (V < 0)) 9218868437227405311 (by omega)
    obtain ⟨f1, f2⟩ := fv_wd (decide (V < 0)) 9218868437227405311 (by omega)
    refine ⟨⟨g3, f1⟩, .inr ⟨rfl, rfl, f2, ?_⟩⟩
    have hd : (vK (R - 1) + vK R) * 1 ≤ 2 * V.natAbs := hR.dn (by omega)
    have h1 : vK 9218868437227405311 ≤ vK (R - 1) := vmono (by omega)
    have h2 : vK 9218868437227405311 ≤ vK R := vmono (by omega)
    rw [Nat.mul_one] at hd
    omega
def EL : Nat := 2097
def ET : Nat := 2117
/-- How long it goes on at most. -/
def stp (V : Int) : Nat := V.natAbs / 2 ^ EL + bl V.natAbs
theorem stp_less (V : Int) (m : Nat) (hm : m ≤ 200000) (hV : V.natAbs < 2 ^ m) (h0 : V ≠ 0) : stp (V - fvW (nrW V)) < stp V ∧ (V - fvW (nrW V)).natAbs < V.natAbs := by
  obtain ⟨_, h | ⟨_, _, h3, h4⟩⟩ := nr_any V m hm hV h0
  · have hr := h.2.2.rel
    generalize fvW (nrW V) = s at *
    have e : (s - V).natAbs = (V - s).natAbs := by omega
    rw [e] at hr
    have hlt : (V - s).natAbs < V.natAbs := by omega
    refine ⟨?_, hlt⟩
    unfold stp
    have hd : (V - s).natAbs / 2 ^ EL ≤ V.natAbs / 2 ^ EL := Nat.div_le_div_right (by omega)
    have hb : bl (V - s).natAbs < bl V.natAbs := by
      by_cases hz : (V - s).natAbs = 0
      · rw [hz]
        have : 0 < bl V.natAbs := (bl_gt _ 0).2 (by simp; omega)
        have : bl 0 = 0 := by decide
        omega
      · have h1 := bl_mul_pow 1 (V - s).natAbs hz
        have h2 := bl_mono (X := 2 ^ 1 * (V - s).natAbs) (Y := V.natAbs) (by omega)
        omega
    omega
  · obtain ⟨a, ha⟩ : ∃ a, a = 2045 := ⟨_, rfl⟩
    have hp : (2 : Nat) ^ EL ≤ vK 9218868437227405311 := by
      rw [maxV a ha, show EL = 52 + a by unfold EL; omega, Nat.pow_add]
      exact Nat.mul_le_mul_right _ (by decide)
    have h1 : 0 < (2 : Nat) ^ EL := Nat.two_pow_pos _
    have hs : (V - fvW (nrW V)).natAbs = V.natAbs - vK 9218868437227405311 := by
      rw [h3, sg_neg]
      by_cases hn : V < 0
      · rw [decide_eq_true hn, if_pos rfl]; omega
      · rw [decide_eq_false hn, if_neg (by decide)]; omega
    generalize vK 9218868437227405311 = M at *
    refine ⟨?_, by rw [hs]; omega⟩
    unfold stp
    rw [hs]
    have h2 := bl_mono (X := V.natAbs - M) (Y := V.natAbs) (by omega)
    have h3 : (V.natAbs - M) / 2 ^ EL < V.natAbs / 2 ^ EL := by
      generalize (2 : Nat) ^ EL = q at *
      have : (V.natAbs - M) / q ≤ (V.natAbs - q) / q := Nat.div_le_div_right (by omega)
      have e : (V.natAbs - q) / q + 1 = V.natAbs / q := by
        rw [← Nat.add_div_right _ h1, Nat.sub_add_cancel (by omega)]
      omega
    omega
theorem stp_top (V : Int) (hV : V.natAbs < 2 ^ ET) : stp V ≤ 1100000 := by
  unfold stp
  have h1 := blLe hV
  have h2 : V.natAbs / 2 ^ EL ≤ 1048576 := by
    refine Nat.le_of_lt_succ (Nat.div_lt_of_lt_mul ?_)
    rw [show ET = EL + 20 from rfl, Nat.pow_add] at hV
    have : (2 : Nat) ^ 20 = 1048576 := by decide
    rw [this] at hV
    exact Nat.lt_of_lt_of_le hV (Nat.mul_le_mul_left _ (by decide))
  have h3 : ET = 2117 := rfl
  omega
theorem stp_zero {V : Int} (h : stp V = 0) : V = 0 := by
  unfold stp at h
  have h1 : bl V.natAbs = 0 := by
    generalize V.natAbs / 2 ^ EL = q at *
    omega
  by_cases h0 : V = 0
  · exact h0
  · have : 0 < bl V.natAbs := (bl_gt _ 0).2 (by simp; omega)
    omega
end Go.Proofs.YtnnlicahgdcbdaaDoor

/- Parts. -/
namespace Go.Proofs.YtnnlicahgdcbdaaDoor
open Go.RowKit J
set_option linter.unusedVariables false
set_option maxRecDepth 20000
set_option linter.unusedSimpArgs false

theorem sub_any8 (V U : Int) (m : Nat) (hm : m ≤ 100000) (hV : V.natAbs < 2 ^ m) (hU : U.natAbs < 2 ^ m) (w : World) (a b : Option Addr) (c d : Nat) (hT : Tab w) (h1 : Arg w a (ws (dX (fo8 V))).length c (ws (dX (fo8 V)))) (h2 : Arg w b (ws (dX (fo8 U))).length d (ws (dX (fo8 U)))) :
    Calls Tryd.prog 53 #[.agg #[.bool (dN (fo8 V)), .slice a (ws (dX (fo8 V))).length c, .int .i64 (dE (fo8 V))], .agg #[.bool (dN (fo8 U)), .slice b (ws (dX (fo8 U))).length d, .int .i64 (dE (fo8 U))]] w fun r w' =>
      (∃ v, r = .returned (.tuple #[.agg #[.bool (dN (fo8 (V - U))), v, .int .i64 (dE (fo8 (V - U)))], .int .i64 0]) ∧ Nt w.heap.size w' v (dX (fo8 (V - U)))) ∧ Below w.heap.size w w' := by
  obtain ⟨l1, l2, l3, _⟩ := fo8_len V m (by omega) hV
  obtain ⟨k1, k2, k3, _⟩ := fo8_len U m (by omega) hU
  have := Sub_any3 h1 h2 hT (dN (fo8 V)) (dN (fo8 U)) (dE (fo8 V)) (dE (fo8 U)) l2 l3 k2 k3
  rw [val_ws, val_ws, fo8_self V m (by omega) hV, fo8_neg U m (by omega) hU, fo8_add V (-U) m hm hV (by omega), show V + -U = V - U by omega] at this
  refine this.mono ?_
  rintro r w' ⟨⟨v, rfl, hN⟩, hb⟩
  have e2 : 2 ^ (m + 1) = 2 * 2 ^ m := by rw [Nat.pow_succ, Nat.mul_comm]
  rw [fo8_er (V - U) (m + 1) (by omega) (by omega)]
  exact ⟨⟨v, rfl, hN⟩, hb⟩
theorem round_any8 (V : Int) (m : Nat) (hm : m ≤ 100000) (hV : V.natAbs < 2 ^ m) (mode : Int) (w : World) (a : Option Addr) (c : Nat) (hT : Tab w) (h1 : Arg w a (ws (dX (fo8 V))).length c (ws (dX (fo8 V)))) :
    Calls Tryd.prog 35 #[.agg #[.bool (dN (fo8 V)), .slice a (ws (dX (fo8 V))).length c, .int .i64 (dE (fo8 V))], .int .i64 mode] w fun r w' =>
      r = .returned (.tuple #[.float .f64 (rndS (fo8 V) mode).1, .int .i64 (rndS (fo8 V) mode).2]) ∧ Below w.heap.size w w' := by
  obtain ⟨l1, l2, l3, _⟩ := fo8_len V m (by omega) hV
  have := Round_any h1 hT (dN (fo8 V)) (dE (fo8 V)) mode l2 l3
  rw [val_ws, fo8_self V m (by omega) hV] at this
  exact this
theorem sgn_fo8 (V : Int) (m : Nat) (hm : m ≤ 200000) (hV : V.natAbs < 2 ^ m) : (sgn (dN (fo8 V)) (dX (fo8 V)) == 0) = decide (V = 0) := by
  obtain ⟨n, X, e, h1, F, h2, h3, _⟩ := fo8_frm V m hm hV
  rw [h1]
  show (sgn n X == 0) = _
  rw [Bool.eq_iff_iff]
  simp only [beq_iff_eq, decide_eq_true_eq]
  rw [← h2]
  unfold sgn
  by_cases hX : X = 0
  · simp [hX]
  · cases n <;> simp [hX]
end Go.Proofs.YtnnlicahgdcbdaaDoor

