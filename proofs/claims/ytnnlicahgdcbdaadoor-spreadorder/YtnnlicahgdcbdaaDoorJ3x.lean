/- The program's steps: a sum, a difference, a product of any two numbers, and a NaN made the one that is answered. -/
import Derived.Test.YtnnlicahgdcbdaaDoorBIeeex
import Derived.Test.YtnnlicahgdcbdaaDoorW45x
import Derived.Laws.StructEq
import Derived.Deep.RegionWith
import Derived.BigQuiet
import Derived.Deep.RegionHeld3
namespace Go.Proofs.YtnnlicahgdcbdaaDoor
open Go.RowKit
set_option linter.unusedVariables false
set_option maxRecDepth 20000
attribute [local go_sem] B.f64bits B.f64frombits
theorem st_float {P : Program} {w : World} (a : Addr) (k : FloatKind) (n : Nat) (m : Mode) : (store a (.float k n) m).run P w = stored P w a (.float k n) m := run_store P w a _ m rfl

/-- The NaN that is answered. -/
def oddW : Nat := 9221120237041090560
/-- A step: the answer's bits. -/
def arW (op : BinOp) (x y : Nat) : Nat := (floatBits op .f64 x y).getD oddW

/-- A step that has no answer: some NaN comes of it. -/
theorem run_float_none {P : Program} (w : World) (op : BinOp) (t : TypeId) (x y : Nat) (ho : op = .add ∨ op = .sub ∨ op = .mul) (h : floatBits op .f64 x y = none) :
    ∃ z, (9218868437227405312 < z % 9223372036854775808 ∧ z < 18446744073709551616) ∧ (binOp op t (.float .f64 x) (.float .f64 y)).run P w = .ok (.float .f64 z) w.drew := by
  refine ⟨(Question.nanBits .f64 x y).cut (w.tape w.drawn (.nanBits .f64 x y)), ?_, ?_⟩
  · unfold Question.cut
    generalize w.tape w.drawn (.nanBits .f64 x y) = t
    show 9218868437227405312 < ((t % 2) * 9223372036854775808 + 9218868437227405312 + 1 + (t / 2) % 4503599627370495) % 9223372036854775808 ∧ ((t % 2) * 9223372036854775808 + 9218868437227405312 + 1 + (t / 2) % 4503599627370495) < 18446744073709551616
    have h1 : (t / 2) % 4503599627370495 < 4503599627370495 := Nat.mod_lt _ (by decide)
    generalize (t / 2) % 4503599627370495 = q at *
    rcases Nat.mod_two_eq_zero_or_one t with h2 | h2 <;> rw [h2] <;> omega
  · unfold floatBits at h
    rcases ho with rfl | rfl | rfl <;> simp only at h <;> simp [binOp, Op.floatArith, h, Question.forced]

/-- What a step's operation gives: the answer, or some NaN where there is none. -/
def Gives (op : BinOp) (x y z : Nat) : Prop := floatBits op .f64 x y = some z ∨ floatBits op .f64 x y = none ∧ 9218868437227405312 < z % 9223372036854775808 ∧ z < 18446744073709551616

theorem plus_any (x y : Nat) (w : World) : Calls Tryd.prog 109 #[.float .f64 x, .float .f64 y] w fun r w' => ∃ z, r = .returned (.float .f64 z) ∧ Gives .add x y z ∧ Below w.heap.size w w' := by
  go_enter Tryd.func109, Tryd.ntmps109
  cases h : floatBits .add .f64 x y with
  | some z =>
    have d := run_float_arith (P := Tryd.prog) w .add 152 .f64 x y z h
    go_wp2_with (simp only [d])
    exact bodyPost_ret (v := .float .f64 z) (by simp [results, Tryd.results109, go_sem]) rfl ⟨z, rfl, .inl h, Below.refl _ _⟩
  | none =>
    obtain ⟨z, hz, d⟩ := run_float_none (P := Tryd.prog) w .add 152 x y (.inl rfl) h
    go_wp2_with (simp only [d])
    exact bodyPost_ret (v := .float .f64 z) (by simp [results, Tryd.results109, go_sem]) rfl ⟨z, rfl, .inr ⟨h, hz⟩, (Below.refl _ _).drew⟩
theorem minus_any (x y : Nat) (w : World) : Calls Tryd.prog 110 #[.float .f64 x, .float .f64 y] w fun r w' => ∃ z, r = .returned (.float .f64 z) ∧ Gives .sub x y z ∧ Below w.heap.size w w' := by
  go_enter Tryd.func110, Tryd.ntmps110
  cases h : floatBits .sub .f64 x y with
  | some z =>
    have d := run_float_arith (P := Tryd.prog) w .sub 152 .f64 x y z h
    go_wp2_with (simp only [d])
    exact bodyPost_ret (v := .float .f64 z) (by simp [results, Tryd.results110, go_sem]) rfl ⟨z, rfl, .inl h, Below.refl _ _⟩
  | none =>
    obtain ⟨z, hz, d⟩ := run_float_none (P := Tryd.prog) w .sub 152 x y (.inr (.inl rfl)) h
    go_wp2_with (simp only [d])
    exact bodyPost_ret (v := .float .f64 z) (by simp [results, Tryd.results110, go_sem]) rfl ⟨z, rfl, .inr ⟨h, hz⟩, (Below.refl _ _).drew⟩
/-- What is written of a number or an infinity is no NaN. -/
theorem write_fin (d : Ieee.Datum) (h : d.isNaN = false) : Ieee.double.write d % 9223372036854775808 ≤ 9218868437227405312 ∧ Ieee.double.write d < 18446744073709551616 := by
  have hw : ∀ (s : Bool) (r : Nat), r ≤ 9218868437227405312 → Ieee.double.word s r % 9223372036854775808 ≤ 9218868437227405312 ∧ Ieee.double.word s r < 18446744073709551616 := by
    intro s r hr
    have e : Ieee.double.word s r = (if s then 9223372036854775808 + r else r) := rfl
    rw [e]
    cases s <;> simp <;> omega
  cases d with
  | number n m p =>
    show Ieee.double.nearest n m p % _ ≤ _ ∧ Ieee.double.nearest n m p < _
    unfold Ieee.Format.nearest
    split
    · exact hw _ _ (by omega)
    · exact hw _ _ (Nat.min_le_right _ _)
  | infinity n => exact hw _ _ (Nat.le_refl _)
  | nan n f => cases h
theorem sum_fin {a b d : Ieee.Datum} (h : a.sum b = some d) : d.isNaN = false := by
  cases a <;> cases b <;> simp only [Ieee.Datum.sum] at h <;> first | (cases h; rfl) | (cases h; done) | (split at h <;> first | (cases h; rfl) | (cases h; done))
theorem product_fin {a b d : Ieee.Datum} (h : a.product b = some d) : d.isNaN = false := by
  cases a <;> cases b <;> simp only [Ieee.Datum.product] at h <;> first | (cases h; rfl) | (cases h; done) | (split at h <;> first | (cases h; rfl) | (cases h; done))
theorem bits_fin {op : BinOp} {x y z : Nat} (ho : op = .add ∨ op = .sub ∨ op = .mul) (h : floatBits op .f64 x y = some z) : z % 9223372036854775808 ≤ 9218868437227405312 ∧ z < 18446744073709551616 := by
  unfold floatBits at h
  rcases ho with rfl | rfl | rfl
  · obtain ⟨d, h1, h2⟩ := Option.map_eq_some_iff.1 (show ((Ieee.double.read x).sum (Ieee.double.read y)).map Ieee.double.write = some z from h)
    rw [← h2]; exact write_fin d (sum_fin h1)
  · obtain ⟨d, h1, h2⟩ := Option.map_eq_some_iff.1 (show ((Ieee.double.read x).sum (Ieee.double.read y).opposite).map Ieee.double.write = some z from h)
    rw [← h2]; exact write_fin d (sum_fin h1)
  · obtain ⟨d, h1, h2⟩ := Option.map_eq_some_iff.1 (show ((Ieee.double.read x).product (Ieee.double.read y)).map Ieee.double.write = some z from h)
    rw [← h2]; exact write_fin d (product_fin h1)

/-- Is a word a NaN? -/
def nanW (z : Nat) : Bool := decide (9218868437227405312 < z % 9223372036854775808)
theorem bwz (z : Nat) (h : z < 18446744073709551616) : ∃ s e f, e < 2048 ∧ f < 4503599627370496 ∧ z = B.bw s e f ∧ B.odd e f = nanW z := by
  refine ⟨decide (9223372036854775808 ≤ z), z % 9223372036854775808 / 4503599627370496, z % 4503599627370496, by omega, by omega, ?_, ?_⟩
  · unfold B.bw
    by_cases h1 : 9223372036854775808 ≤ z
    · simp only [h1, decide_true, Bool.toNat_true]; omega
    · simp only [h1, decide_false, Bool.toNat_false]; omega
  · unfold B.odd nanW
    rw [Bool.eq_iff_iff]
    simp only [Bool.and_eq_true, beq_iff_eq, bne_iff_ne, ne_eq, decide_eq_true_eq]
    omega
theorem isNaN_w (z : Nat) (h : z < 18446744073709551616) (w : World) : Calls Tryd.prog 45 #[.float .f64 z] w fun r w' => r = .returned (.bool (nanW z)) ∧ w' = w := by
  obtain ⟨s, e, f, he, hf, h1, h2⟩ := bwz z h
  rw [← h2, h1]
  exact B.isNaN_any s e f he hf w

theorem step_plus (x y : Nat) (w : World) :
    Calls Tryd.prog 108 #[.float .f64 x, .func (.func 109) #[] #[], .float .f64 y] w fun r w' => r = .returned (.float .f64 (arW .add x y)) ∧ Below w.heap.size w w' := by
  obtain ⟨Z, hZ⟩ : ∃ Z, arW .add x y = Z := ⟨_, rfl⟩
  rw [hZ]
  have HG := hid fun u => plus_any x y u
  go_enter Tryd.func108, Tryd.ntmps108
  go_wp2_with fail
  refine (Calls.mono (HG.out _)) ?_
  rintro r w1 ⟨z, rfl, hz, hb⟩
  have hz2 : z < 18446744073709551616 := by rcases hz with h | h; exact (bits_fin (op := .add) (.inl rfl) h).2; exact h.2.2
  have HN := hid fun u => isNaN_w z hz2 u
  go_wp2_with fail
  refine (Calls.mono (HN.out _)) ?_
  rintro r w2 ⟨rfl, rfl⟩
  have ha : Z = if nanW z then oddW else z := by
    rw [← hZ]
    unfold arW nanW
    rcases hz with h | h
    · have := (bits_fin (op := .add) (.inl rfl) h).1
      rw [h, if_neg (by simp; omega)]; rfl
    · rw [h.1, if_pos (by simpa using h.2.1)]; rfl
  clear HN HG hz hz2 hZ
  cases hn : nanW z
  · rw [hn, if_neg (by simp)] at ha
    subst ha
    go_wp2
    exact bodyPost_ret (v := .float .f64 Z) (by simp [results, Tryd.results108, go_sem]) rfl ⟨rfl, hb⟩
  · rw [hn, if_pos rfl] at ha
    subst ha
    go_wp2
    exact bodyPost_ret (v := .float .f64 oddW) (by simp [results, Tryd.results108, go_sem, oddW]) rfl ⟨rfl, hb⟩
theorem step_minus (x y : Nat) (w : World) :
    Calls Tryd.prog 108 #[.float .f64 x, .func (.func 110) #[] #[], .float .f64 y] w fun r w' => r = .returned (.float .f64 (arW .sub x y)) ∧ Below w.heap.size w w' := by
  obtain ⟨Z, hZ⟩ : ∃ Z, arW .sub x y = Z := ⟨_, rfl⟩
  rw [hZ]
  have HG := hid fun u => minus_any x y u
  go_enter Tryd.func108, Tryd.ntmps108
  go_wp2_with fail
  refine (Calls.mono (HG.out _)) ?_
  rintro r w1 ⟨z, rfl, hz, hb⟩
  have hz2 : z < 18446744073709551616 := by rcases hz with h | h; exact (bits_fin (op := .sub) (.inr (.inl rfl)) h).2; exact h.2.2
  have HN := hid fun u => isNaN_w z hz2 u
  go_wp2_with fail
  refine (Calls.mono (HN.out _)) ?_
  rintro r w2 ⟨rfl, rfl⟩
  have ha : Z = if nanW z then oddW else z := by
    rw [← hZ]
    unfold arW nanW
    rcases hz with h | h
    · have := (bits_fin (op := .sub) (.inr (.inl rfl)) h).1
      rw [h, if_neg (by simp; omega)]; rfl
    · rw [h.1, if_pos (by simpa using h.2.1)]; rfl
  clear HN HG hz hz2 hZ
  cases hn : nanW z
  · rw [hn, if_neg (by simp)] at ha
    subst ha
    go_wp2
    exact bodyPost_ret (v := .float .f64 Z) (by simp [results, Tryd.results108, go_sem]) rfl ⟨rfl, hb⟩
  · rw [hn, if_pos rfl] at ha
    subst ha
    go_wp2
    exact bodyPost_ret (v := .float .f64 oddW) (by simp [results, Tryd.results108, go_sem, oddW]) rfl ⟨rfl, hb⟩
end Go.Proofs.YtnnlicahgdcbdaaDoor

/- The document's Form, told, Make, Made. -/
namespace Go.Proofs.YtnnlicahgdcbdaaDoor
open Go.RowKit
set_option linter.unusedVariables false
set_option maxRecDepth 20000

/-- What Form answers. -/
def FAns (lo : Nat) (w : World) (r : Ending) (o : Option (Bool × Nat × Int)) : Prop :=
  ∃ v, r = .returned (.tuple #[.agg #[.bool (dN o), v, .int .i64 (dE o)], .bool o.isSome]) ∧ Nt lo w v (dX o)

theorem moved_low {w : World} {v : Value} {X lo' : Nat} (hN : Nt lo' w v X) (hX : X ≠ 0) (hl : (ws X).length ≤ 2000000) :
    Calls Tryd.prog 128 #[v, .int .i64 (-(lo X : Int))] w fun r w' => ∃ v, r = .returned v ∧ Nt w.heap.size w' v (X / 2 ^ lo X) ∧ Below w.heap.size w w' := by
  have hb := lo_lt X hX (ws X).length (ws_len_lt X)
  have h := moved_any hN (-(lo X : Int)) (by omega) (by omega) hX hl
  have e : (if -(lo X : Int) < 0 then X / 2 ^ (- -(lo X : Int)).toNat else X * 2 ^ (-(lo X : Int)).toNat) = X / 2 ^ lo X := by
    by_cases h0 : lo X = 0
    · rw [h0]; simp
    · rw [if_pos (by omega), show (- -(lo X : Int)).toNat = lo X by omega]
  rw [e] at h
  exact h

set_option maxHeartbeats 4000000 in
theorem rForm_any {w : World} {a : Option Addr} {n c : Nat} {xs : List Nat} (h1 : Arg w a n c xs) (hn : n ≤ 2000000) (neg : Bool) (e : Int) (he0 : -9223372036854775808 ≤ e) (he1 : e ≤ 9223372036854775807) :
    Calls Tryd.prog 112 #[.bool neg, .slice a n c, .int .i64 e] w fun r w' => FAns w.heap.size w' r (mkS neg (val xs) e) ∧ Below w.heap.size w w' := by
  have hB1 : Below w.heap.size w (w.alloc (.cells #[.bool false, .slice none 0 0, .int .i64 0] 37)) := below_alloc w _
  obtain ⟨X, hX⟩ : ∃ X, val xs = X := ⟨_, rfl⟩
  have H1 := hid (rNorm_arg (h1.below hB1) hX)
  rw [hX]
  have hXp : X < pw n := by rw [← hX, h1.len]; exact val_lt xs h1.wf
  have hXl : (ws X).length ≤ 2000000 := by have := (ws_len_le X n).2 hXp; omega
  have HB := Aside.intro hB1
  clear h1 hX hB1 hXp
  unfold mkS
  by_cases h0 : X = 0
  · rw [if_pos h0]
    have hl0 : (ws X).length = 0 := by rw [h0, ws_zero]; rfl
    go_enter Tryd.func112, Tryd.ntmps112
    go_wp2_with fail
    refine (Calls.mono H1.out) ?_
    rintro r w2 ⟨v, rfl, hN, hb⟩
    obtain ⟨a2, c2, rfl, _⟩ := hN.arg (by omega)
    obtain ⟨hc, hf⟩ := bcell hb
    have HN := (Aside.intro (And.intro hN hb))
    have hz := hb.size
    clear hN hb
    rw [hl0]
    go_wp2
    obtain ⟨q1, q2⟩ := laid3 HB.out (by simp) HN.out.1 HN.out.2 (.bool false) (.slice none 0 0) (.int .i64 0)
    exact bodyPost_ret (v := .tuple #[.agg #[.bool false, .slice none 0 0, .int .i64 0], .bool true]) (by simp [results, Tryd.results112, go_sem, hc]) rfl ⟨⟨_, rfl, Nt.nil _ _⟩, q2⟩
  · rw [if_neg h0]
    have hlo := lo_lt X h0 (ws X).length (ws_len_lt X)
    have hml := mk_len X h0
    have hbl := bl_pos X h0
    have hL0 : ((((ws X).length : Nat) : Int) == 0) = false := by
      have : (ws X).length ≠ 0 := fun e => h0 ((ws_len_zero X).1 e)
      exact beq_eq_false_iff_ne.2 (by omega)
    have H2 : Hid (∀ (a2 : Option Addr) (c2 : Nat) (u : World), Arg u a2 (ws X).length c2 (ws X) → Calls Tryd.prog 127 #[.slice a2 (ws X).length c2] u fun r w' => r = .returned (.int .i64 (lo X : Nat)) ∧ w' = u) := by
      intro a2 c2 u A
      have := rLow_any (ws X) a2 (ws X).length c2 u.heap.size u A.len (by omega) A.wf A.rd
      rw [val_ws] at this
      exact this
    have H3 : Hid (∀ (lo' : Nat) (v : Value) (u : World), Nt lo' u v X → Calls Tryd.prog 128 #[v, .int .i64 (-(lo X : Int))] u fun r w' => ∃ v, r = .returned v ∧ Nt u.heap.size w' v (X / 2 ^ lo X) ∧ Below u.heap.size u w') :=
      fun lo' v u hN => moved_low hN h0 hXl
    obtain ⟨l, hl⟩ : ∃ l, lo X = l := ⟨_, rfl⟩
    obtain ⟨b, hb⟩ : ∃ b, bl X = b := ⟨_, rfl⟩
    obtain ⟨Y, hY⟩ : ∃ Y, X / 2 ^ l = Y := ⟨_, rfl⟩
    rw [hl] at H2 H3 hlo hml
    rw [hb] at hml hbl
    rw [hY] at H3 hml
    rw [hl, hb, hY]
    have hYl : (ws Y).length ≤ 2000000 := by rw [← hY]; have := ws_len_mono (Nat.div_le_self X (2 ^ l)); omega
    by_cases h3 : 1048576 - (l : Int) < e ∨ e < -1048576 - (l : Int)
    · rw [if_pos (.inr h3)]
      clear hml hbl hY hl hb h0
      by_cases g1 : 1048576 < e
      · clear h3
        go_enter Tryd.func112, Tryd.ntmps112
        go_wp2_with fail
        refine (Calls.mono H1.out) ?_
        rintro r w2 ⟨v, rfl, hN, hb⟩
        obtain ⟨a2, c2, rfl, A2⟩ := hN.arg (by omega)
        obtain ⟨hc, hf⟩ := bcell hb
        have HN := (Aside.intro (And.intro hN hb))
        have hz := hb.size
        have H2' := hid (H2.out a2 c2 w2 A2)
        clear hN hb A2
        go_wp2_with fail
        refine (Calls.mono H2'.out) ?_
        rintro r w3 ⟨rfl, rfl⟩
        go_wp2
        obtain ⟨q1, q2⟩ := laid3 HB.out (by simp) HN.out.1 HN.out.2 (.bool false) (.slice none 0 0) (.int .i64 0)
        exact bodyPost_ret (v := .tuple #[.agg #[.bool false, .slice none 0 0, .int .i64 0], .bool false]) (by simp [results, Tryd.results112, go_sem, hc]) rfl ⟨⟨_, rfl, Nt.nil _ _⟩, q2⟩
      · have g1' : decide (1048576 < e) = false := decide_eq_false g1
        by_cases g2 : 1048576 < e + (l : Int)
        · clear h3
          go_enter Tryd.func112, Tryd.ntmps112
          go_wp2_with fail
          refine (Calls.mono H1.out) ?_
          rintro r w2 ⟨v, rfl, hN, hb⟩
          obtain ⟨a2, c2, rfl, A2⟩ := hN.arg (by omega)
          obtain ⟨hc, hf⟩ := bcell hb
          have HN := (Aside.intro (And.intro hN hb))
          have hz := hb.size
          have H2' := hid (H2.out a2 c2 w2 A2)
          clear hN hb A2
          go_wp2_with fail
          refine (Calls.mono H2'.out) ?_
          rintro r w3 ⟨rfl, rfl⟩
          go_wp2
          obtain ⟨q1, q2⟩ := laid3 HB.out (by simp) HN.out.1 HN.out.2 (.bool false) (.slice none 0 0) (.int .i64 0)
          exact bodyPost_ret (v := .tuple #[.agg #[.bool false, .slice none 0 0, .int .i64 0], .bool false]) (by simp [results, Tryd.results112, go_sem, hc]) rfl ⟨⟨_, rfl, Nt.nil _ _⟩, q2⟩
        · have g2' : decide (1048576 < e + (l : Int)) = false := decide_eq_false g2
          have g3 : e + (l : Int) < -1048576 := by omega
          clear h3
          go_enter Tryd.func112, Tryd.ntmps112
          go_wp2_with fail
          refine (Calls.mono H1.out) ?_
          rintro r w2 ⟨v, rfl, hN, hb⟩
          obtain ⟨a2, c2, rfl, A2⟩ := hN.arg (by omega)
          obtain ⟨hc, hf⟩ := bcell hb
          have HN := (Aside.intro (And.intro hN hb))
          have hz := hb.size
          have H2' := hid (H2.out a2 c2 w2 A2)
          clear hN hb A2
          go_wp2_with fail
          refine (Calls.mono H2'.out) ?_
          rintro r w3 ⟨rfl, rfl⟩
          go_wp2
          obtain ⟨q1, q2⟩ := laid3 HB.out (by simp) HN.out.1 HN.out.2 (.bool false) (.slice none 0 0) (.int .i64 0)
          exact bodyPost_ret (v := .tuple #[.agg #[.bool false, .slice none 0 0, .int .i64 0], .bool false]) (by simp [results, Tryd.results112, go_sem, hc]) rfl ⟨⟨_, rfl, Nt.nil _ _⟩, q2⟩
    · have g1' : decide (1048576 < e) = false := decide_eq_false (by omega)
      have g2' : decide (1048576 < e + (l : Int)) = false := decide_eq_false (by omega)
      have g3' : decide (e + (l : Int) < -1048576) = false := decide_eq_false (by omega)
      have g4 : e + (l : Int) ≤ 1048576 := by omega
      have g5 : -1048576 ≤ e + (l : Int) := by omega
      have hdec : (262144 < b - l) ↔ 8192 < (ws Y).length := by omega
      by_cases h4 : 262144 < b - l
      · rw [if_pos (.inl h4)]
        have h5 : 8192 < (ws Y).length := hdec.1 h4
        clear hml hbl hY hl hb h0 h3 hdec h4
        go_enter Tryd.func112, Tryd.ntmps112
        go_wp2_with fail
        refine (Calls.mono H1.out) ?_
        rintro r w2 ⟨v, rfl, hN, hb⟩
        obtain ⟨a2, c2, rfl, A2⟩ := hN.arg (by omega)
        have hz := hb.size
        have H2' := hid (H2.out a2 c2 w2 A2)
        have H3' := hid (H3.out _ _ w2 hN)
        have HN := (Aside.intro (And.intro hN hb))
        clear hN hb A2
        go_wp2_with fail
        refine (Calls.mono H2'.out) ?_
        rintro r w3 ⟨rfl, rfl⟩
        go_wp2_with fail
        refine (Calls.mono H3'.out) ?_
        rintro r w4 ⟨v4, rfl, hN4, hb4⟩
        obtain ⟨a4, c4, rfl, _⟩ := hN4.arg (by omega)
        have hb := HN.out.2.trans (hb4.mono hz)
        have hN5 := hN4.mono hz
        obtain ⟨hc, hf⟩ := bcell hb
        have HN := (Aside.intro (And.intro hN5 hb))
        clear hN4 hb4 hb hN5
        go_wp2
        obtain ⟨q1, q2⟩ := laid3 HB.out (by simp) HN.out.1 HN.out.2 (.bool false) (.slice none 0 0) (.int .i64 0)
        exact bodyPost_ret (v := .tuple #[.agg #[.bool false, .slice none 0 0, .int .i64 0], .bool false]) (by simp [results, Tryd.results112, go_sem, hc]) rfl ⟨⟨_, rfl, Nt.nil _ _⟩, q2⟩
      · rw [if_neg (by omega)]
        have h5 : (ws Y).length ≤ 8192 := by omega
        clear hml hbl hY hl hb h0 h3 hdec h4
        go_enter Tryd.func112, Tryd.ntmps112
        go_wp2_with fail
        refine (Calls.mono H1.out) ?_
        rintro r w2 ⟨v, rfl, hN, hb⟩
        obtain ⟨a2, c2, rfl, A2⟩ := hN.arg (by omega)
        have hz := hb.size
        have H2' := hid (H2.out a2 c2 w2 A2)
        have H3' := hid (H3.out _ _ w2 hN)
        have HN := (Aside.intro (And.intro hN hb))
        clear hN hb A2
        go_wp2_with fail
        refine (Calls.mono H2'.out) ?_
        rintro r w3 ⟨rfl, rfl⟩
        go_wp2_with fail
        refine (Calls.mono H3'.out) ?_
        rintro r w4 ⟨v4, rfl, hN4, hb4⟩
        obtain ⟨a4, c4, rfl, _⟩ := hN4.arg (by omega)
        have hb := HN.out.2.trans (hb4.mono hz)
        have hN5 := hN4.mono hz
        obtain ⟨hc, hf⟩ := bcell hb
        have HN := (Aside.intro (And.intro hN5 hb))
        clear hN4 hb4 hb hN5
        go_wp2
        obtain ⟨q1, q2⟩ := laid3 HB.out (by simp) HN.out.1 HN.out.2 (.bool neg) (.slice a4 (ws Y).length c4) (.int .i64 (e + l))
        exact bodyPost_ret (v := .tuple #[.agg #[.bool neg, .slice a4 (ws Y).length c4, .int .i64 (e + l)], .bool true]) (by simp [results, Tryd.results112, go_sem, hc]) rfl ⟨⟨_, rfl, q1⟩, q2⟩
end Go.Proofs.YtnnlicahgdcbdaaDoor

/- The document's told, Make, Made; what is laid over. -/
namespace Go.Proofs.YtnnlicahgdcbdaaDoor
open Go.RowKit
set_option linter.unusedVariables false
set_option maxRecDepth 20000

theorem But.setC {g : Nat} (w : World) (i : Nat) (u : Value) : But g w (w.setCell ⟨g, i, none⟩ u) := (But.refl g w).set _ _
theorem Nt.setC {lo : Nat} {w : World} {v : Value} {X : Nat} (h : Nt lo w v X) (b i : Nat) (u : Value) (hb : b < lo) : Nt lo (w.setCell ⟨b, i, none⟩ u) v X := h.but (But.setC w i u) hb
theorem Nt.allocC {lo : Nat} {w : World} {v : Value} {X : Nat} (h : Nt lo w v X) (o : Obj) : Nt lo (w.alloc o) v X := h.below (below_alloc w o)
theorem Below.setC {lo : Nat} {w0 w : World} (h : Below lo w0 w) (b i : Nat) (u : Value) (hb : lo ≤ b) (hs : lo ≤ w.heap.size) : Below lo w0 (w.setCell ⟨b, i, none⟩ u) := But.below h (But.setC w i u) hs hb

/-- A Nat that came out (from block m on), and nothing below lo has turned. -/
structure Fin (lo m : Nat) (w0 w : World) (v : Value) (X : Nat) : Prop where
  nt : Nt m w v X
  bel : Below lo w0 w
  size : lo ≤ w.heap.size
theorem Fin.set {lo m : Nat} {w0 w : World} {v : Value} {X : Nat} (H : Fin lo m w0 w v X) (b i : Nat) (u : Value) (h1 : lo ≤ b) (h2 : b < m) : Fin lo m w0 (w.setCell ⟨b, i, none⟩ u) v X :=
  ⟨H.nt.setC b i u h2, Below.setC H.bel b i u h1 H.size, by simpa [World.setCell] using H.size⟩
theorem Fin.alloc {lo m : Nat} {w0 w : World} {v : Value} {X : Nat} (H : Fin lo m w0 w v X) (o : Obj) : Fin lo m w0 (w.alloc o) v X :=
  ⟨H.nt.allocC o, H.bel.alloc H.size o, by have := H.size; simp; omega⟩
theorem Fin.out {lo m : Nat} {w0 w : World} {v : Value} {X : Nat} (H : Fin lo m w0 w v X) (h : lo ≤ m) : Nt lo w v X ∧ Below lo w0 w := ⟨H.nt.mono h, H.bel⟩
theorem Fin.of {lo : Nat} {w0 W1 w2 : World} {v : Value} {X : Nat} (k : Nat) (hB : Below lo w0 W1) (hk : W1.heap.size = lo + k) (hN : Nt W1.heap.size w2 v X) (hb : Below W1.heap.size W1 w2) : Fin lo (lo + k) w0 w2 v X :=
  ⟨hk ▸ hN, hB.trans (hb.mono (by omega)), by have := hb.size; omega⟩
theorem Fin.nil {lo m : Nat} {w0 w : World} {v : Value} {X : Nat} (H : Fin lo m w0 w v X) : Nt lo w (.slice none 0 0) 0 ∧ Below lo w0 w := ⟨Nt.nil _ _, H.bel⟩

theorem Fin.dans {lo m : Nat} {w0 w : World} {n : Bool} {v : Value} {X : Nat} {e : Int} {k : Value} (H : Fin lo m w0 w v X) (h : lo ≤ m) :
    (∃ v', Ending.returned (.tuple #[.agg #[.bool n, v, .int .i64 e], k]) = .returned (.tuple #[.agg #[.bool n, v', .int .i64 e], k]) ∧ Nt lo w v' X) ∧ Below lo w0 w := ⟨⟨v, rfl, H.nt.mono h⟩, H.bel⟩
theorem Fin.dnil {lo m : Nat} {w0 w : World} {n : Bool} {v : Value} {X : Nat} {e : Int} {k : Value} (H : Fin lo m w0 w v X) :
    (∃ v', Ending.returned (.tuple #[.agg #[.bool n, .slice none 0 0, .int .i64 e], k]) = .returned (.tuple #[.agg #[.bool n, v', .int .i64 e], k]) ∧ Nt lo w v' 0) ∧ Below lo w0 w := ⟨⟨_, rfl, Nt.nil _ _⟩, H.bel⟩

end Go.Proofs.YtnnlicahgdcbdaaDoor

/- Calls that hand on: the program's form, Neg, the document's Make, Made, Neg. -/
namespace Go.Proofs.YtnnlicahgdcbdaaDoor
open Go.RowKit
set_option linter.unusedVariables false
set_option maxRecDepth 20000

set_option maxHeartbeats 4000000 in
theorem form_any {w : World} {a : Option Addr} {n c : Nat} {xs : List Nat} (h1 : Arg w a n c xs) (hT : Tab w) (neg : Bool) (e : Int) (he0 : -9223372036854775808 ≤ e) (he1 : e ≤ 9223372036854775807) :
    Calls Tryd.prog 96 #[.agg #[.bool neg, .slice a n c, .int .i64 e]] w fun r w' => DAns w.heap.size w' r (mkS neg (val xs) e) ∧ Below w.heap.size w w' := by
  have HB := Aside.intro (show Below w.heap.size w ((w.alloc (.cells #[.bool neg, .slice a n c, .int .i64 e] 37)).alloc (.cells #[.bool false, .slice none 0 0, .int .i64 0] 37)) from (((Below.refl _ _).alloc (Nat.le_refl _) _).alloc (by simp) _))
  have H1 := hid (Make_any (h1.below HB.out) (hT.belows HB.out) neg e he0 he1)
  have hl := mkS_len neg (val xs) e
  obtain ⟨o, ho⟩ : ∃ o, mkS neg (val xs) e = o := ⟨_, rfl⟩
  rw [ho] at H1 hl ⊢
  unfold DAns at H1 ⊢
  obtain ⟨dn, hdn⟩ : ∃ d, dN o = d := ⟨_, rfl⟩
  obtain ⟨X, hdx⟩ : ∃ d, dX o = d := ⟨_, rfl⟩
  obtain ⟨de, hde⟩ : ∃ d, dE o = d := ⟨_, rfl⟩
  obtain ⟨er, her⟩ : ∃ d, erS o = d := ⟨_, rfl⟩
  rw [hdn, hdx, hde, her] at H1 ⊢
  rw [hdx] at hl
  clear h1 ho hdn hdx hde her hT he0 he1
  go_enter Tryd.func96, Tryd.ntmps96
  go_wp2_with fail
  refine (Calls.mono H1.out) ?_
  rintro r w2 ⟨⟨v, rfl, hN⟩, hb⟩
  obtain ⟨a2, c2, rfl, _⟩ := hN.arg (by omega)
  obtain ⟨hc, hf⟩ := bcell hb
  have HF := Aside.intro (Fin.of 2 HB.out (by simp) hN hb)
  have hz : w.heap.size + 1 < w2.heap.size := by have := hb.size; simp at this; omega
  clear hN hb
  go_wp2
  exact bodyPost_ret (v := .tuple #[.agg #[.bool dn, .slice a2 (ws X).length c2, .int .i64 de], .int .i64 er]) (by simp [results, Tryd.results96, go_sem, hc]) rfl (Fin.dans (m := w.heap.size + 2) (by repeat (first | exact HF.out | refine Fin.alloc ?_ _ | refine Fin.set ?_ _ _ _ (by omega) (by omega))) (by omega))


set_option maxHeartbeats 1000000 in
theorem turned_any (a : Option Addr) (n c : Nat) (neg : Bool) (e : Int) (w : World) :
    Calls Tryd.prog 82 #[.agg #[.bool neg, .slice a n c, .int .i64 e]] w fun r w' => r = .returned (.agg #[.bool (!neg), .slice a n c, .int .i64 e]) ∧ Below w.heap.size w w' := by
  go_enter Tryd.func82, Tryd.ntmps82
  go_wp2
  exact bodyPost_ret (v := .agg #[.bool (!neg), .slice a n c, .int .i64 e]) (by simp [results, Tryd.results82, go_sem]) rfl ⟨rfl, by repeat (first | exact Below.refl _ _ | refine Below.alloc ?_ (by first | omega | simp) _ | refine Below.setC ?_ _ _ _ (by omega) (by simp))⟩

end Go.Proofs.YtnnlicahgdcbdaaDoor

/- What Split and Class of the document, Class, and Same answer, at every number; when two Parts are the same. -/
namespace Go.Proofs.YtnnlicahgdcbdaaDoor.B
set_option linter.unusedVariables false
set_option maxRecDepth 20000
open Go.RowKit
attribute [local go_sem] f64bits f64frombits
theorem eqParts (a c : Bool) (k l x y f g : Int) (w : World) : (Op.equalIn 10000 78 (.agg #[.bool a, .int .i64 k, .int .i64 x, .int .u64 f]) (.agg #[.bool c, .int .i64 l, .int .i64 y, .int .u64 g])).run Tryd.prog w = .ok (a == c && (k == l && (x == y && f == g))) w := by
  have u3 := Tryd.underlying3
  have u4 := Tryd.underlying4
  have u23 := Tryd.underlying45
  have hS : Tryd.prog.underlying 78 = some (.struct (Tryd.prog.fieldsOf 78)) := by kernel_rfl
  have hp : Tryd.prog.stoodInHeld 78 = false := by kernel_rfl
  rw [show (10000 : Nat) = 9999 + 1 from rfl, run_equalIn_agg w 9999 78 _ _ hS hp]
  simp only [Program.fieldsOf, Tryd.underlying78]
  go_simp
  by_cases h1 : a = c <;> by_cases h2 : k = l <;> by_cases h3 : x = y <;> by_cases h4 : f = g <;> simp [h1, h2, h3, h4]
attribute [local go_sem] eqParts
theorem fld0 (a : Bool) (k x f : Int) (w : World) : (Instr.field 78 (.agg #[.bool a, .int .i64 k, .int .i64 x, .int .u64 f]) 0).run Tryd.prog w = .ok (.bool a) w := by kernel_rfl
theorem fld1 (a : Bool) (k x f : Int) (w : World) : (Instr.field 78 (.agg #[.bool a, .int .i64 k, .int .i64 x, .int .u64 f]) 1).run Tryd.prog w = .ok (.int .i64 k) w := by kernel_rfl
theorem fld2 (a : Bool) (k x f : Int) (w : World) : (Instr.field 78 (.agg #[.bool a, .int .i64 k, .int .i64 x, .int .u64 f]) 2).run Tryd.prog w = .ok (.int .i64 x) w := by kernel_rfl
theorem fld3 (a : Bool) (k x f : Int) (w : World) : (Instr.field 78 (.agg #[.bool a, .int .i64 k, .int .i64 x, .int .u64 f]) 3).run Tryd.prog w = .ok (.int .u64 f) w := by kernel_rfl
attribute [local go_sem] fld0 fld1 fld2 fld3
end Go.Proofs.YtnnlicahgdcbdaaDoor.B

/- What IsInf, Signbit, Abs, Next, Prev and Order answer, at every number. -/
namespace Go.Proofs.YtnnlicahgdcbdaaDoor.B
set_option linter.unusedVariables false
set_option maxRecDepth 20000
open Go.RowKit
attribute [local go_sem] f64bits f64frombits
theorem ret_flt {a b : Nat} (h : a = b) : Ending.returned (.float .f64 a) = .returned (.float .f64 b) := by rw [h]

set_option maxHeartbeats 1000000 in
theorem isInf_pos (s : Bool) (e f : Nat) (he : e < 2048) (hf : f < 4503599627370496) (w : World) :
    Calls Tryd.prog 47 #[.float .f64 (bw s e f), .int .i64 1] w fun r w' => r = .returned (.bool (!s && (e == 2047 && f == 0))) ∧ w' = w := by
  have h1 := gt_max s e f he hf
  generalize (!s && (e == 2047 && f == 0)) = k at *
  go_enter Tryd.func47, Tryd.ntmps47
  go_wp2
  go_ret
  exact ⟨rfl, rfl⟩

set_option maxHeartbeats 1000000 in
theorem abs_any (s : Bool) (e f : Nat) (he : e < 2048) (hf : f < 4503599627370496) (w : World) :
    Calls Tryd.prog 40 #[.float .f64 (bw s e f)] w fun r w' => r = .returned (.float .f64 (bw false e f)) ∧ w' = w := by
  have h1 := abs_bw s e f he hf
  go_enter Tryd.func40, Tryd.ntmps40
  go_wp2
  go_ret
  exact ⟨rfl, rfl⟩

set_option maxHeartbeats 1000000 in
theorem next_odd (s : Bool) (e f : Nat) (he : e < 2048) (hf : f < 4503599627370496) (ho : odd e f = true) (w : World) :
    Calls Tryd.prog 14 #[.float .f64 (bw s e f)] w fun r w' => r = .returned (.float .f64 9221120237041090560) ∧ w' = w := by
  go_enter Tryd.func14, Tryd.ntmps14
  go_wp2_with (first
    | (go_at_call 45; refine (isNaN_any s e f he hf _).mono ?_; rintro r w1 ⟨rfl, rfl⟩)
    | (go_at_call 46; refine (nan_any _).mono ?_; rintro r w1 ⟨rfl, rfl⟩))
  go_ret
  exact ⟨rfl, rfl⟩

set_option maxHeartbeats 1000000 in
theorem next_top (s : Bool) (e f : Nat) (he : e < 2048) (hf : f < 4503599627370496) (ho : odd e f = false) (ht : (!s && (e == 2047 && f == 0)) = true) (w : World) :
    Calls Tryd.prog 14 #[.float .f64 (bw s e f)] w fun r w' => r = .returned (.float .f64 (bw s e f)) ∧ w' = w := by
  have HI := isInf_pos s e f he hf
  rw [ht] at HI
  have H2 : Hid (∀ w, Calls Tryd.prog 47 #[.float .f64 (bw s e f), .int .i64 1] w fun r w' => r = .returned (.bool true) ∧ w' = w) := HI
  clear HI ht
  go_enter Tryd.func14, Tryd.ntmps14
  go_wp2_with (first
    | (go_at_call 45; refine (isNaN_any s e f he hf _).mono ?_; rintro r w1 ⟨rfl, rfl⟩)
    | (go_at_call 47; refine (H2.out _).mono ?_; rintro r w1 ⟨rfl, rfl⟩))
  go_ret
  exact ⟨rfl, rfl⟩

set_option maxHeartbeats 1000000 in
theorem next_rest (s : Bool) (e f n : Nat) (he : e < 2048) (hf : f < 4503599627370496) (ho : odd e f = false) (ht : (!s && (e == 2047 && f == 0)) = false) (w : World)
    (h1 : (FloatKind.f64.format.order (bw s e f) 0 == some .eq) = (e == 0 && f == 0)) (hn : (e == 0 && f == 0) = true ∧ n = 1 ∨ (e == 0 && f == 0) = false ∧ s = true ∧ n = bw s e f - 1 ∨ (e == 0 && f == 0) = false ∧ s = false ∧ n = bw s e f + 1) :
    Calls Tryd.prog 14 #[.float .f64 (bw s e f)] w fun r w' => r = .returned (.float .f64 n) ∧ w' = w := by
  have HI := isInf_pos s e f he hf
  rw [ht] at HI
  have H2 : Hid (∀ w, Calls Tryd.prog 47 #[.float .f64 (bw s e f), .int .i64 1] w fun r w' => r = .returned (.bool false) ∧ w' = w) := HI
  clear HI
  have hl := bw_lt s e f he hf
  rcases hn with ⟨hz, rfl⟩ | ⟨hz, hs, rfl⟩ | ⟨hz, hs, rfl⟩
  · rw [hz] at h1
    clear ht
    go_enter Tryd.func14, Tryd.ntmps14
    go_wp2_with (first
      | (go_at_call 45; refine (isNaN_any s e f he hf _).mono ?_; rintro r w1 ⟨rfl, rfl⟩)
      | (go_at_call 47; refine (H2.out _).mono ?_; rintro r w1 ⟨rfl, rfl⟩))
    go_ret
    exact ⟨rfl, rfl⟩
  · have h2 := (lt_zero s e f he hf ho hz).trans hs
    rw [hz] at h1
    have h3 : 1 ≤ bw s e f := by rw [hs]; unfold bw; simp only [Bool.toNat_true]; omega
    clear ht hz hs
    go_enter Tryd.func14, Tryd.ntmps14
    go_wp2_with (first
      | (go_at_call 45; refine (isNaN_any s e f he hf _).mono ?_; rintro r w1 ⟨rfl, rfl⟩)
      | (go_at_call 47; refine (H2.out _).mono ?_; rintro r w1 ⟨rfl, rfl⟩))
    go_ret
    exact ⟨ret_flt (by omega), rfl⟩
  · have h2 := (lt_zero s e f he hf ho hz).trans hs
    rw [hz] at h1
    have h3 : bw s e f < 9223372036854775808 := by rw [hs]; unfold bw; simp only [Bool.toNat_false]; omega
    clear ht hz hs
    go_enter Tryd.func14, Tryd.ntmps14
    go_wp2_with (first
      | (go_at_call 45; refine (isNaN_any s e f he hf _).mono ?_; rintro r w1 ⟨rfl, rfl⟩)
      | (go_at_call 47; refine (H2.out _).mono ?_; rintro r w1 ⟨rfl, rfl⟩))
    go_ret
    exact ⟨ret_flt (by omega), rfl⟩

/-- the next number. -/
theorem next_any (s : Bool) (e f : Nat) (he : e < 2048) (hf : f < 4503599627370496) (w : World) :
    Calls Tryd.prog 14 #[.float .f64 (bw s e f)] w fun r w' => r = .returned (.float .f64 (nx s e f)) ∧ w' = w := by
  cases ho : odd e f
  · have h0 := not_odd e f ho
    unfold nx
    rw [if_neg h0]
    cases ht : (!s && (e == 2047 && f == 0))
    · have ht' : ¬ (s = false ∧ e = 2047) := by
        rintro ⟨rfl, rfl⟩
        have : f = 0 := by omega
        subst this; simp at ht
      rw [if_neg ht']
      refine next_rest s e f _ he hf ho ht w (eq_zero s e f he hf) ?_
      by_cases hz : e = 0 ∧ f = 0
      · rw [if_pos hz]; exact Or.inl ⟨by simp [hz], rfl⟩
      · rw [if_neg hz]
        have hz' : (e == 0 && f == 0) = false := by
          rw [Bool.eq_false_iff]; simpa using hz
        cases hs : s
        · exact Or.inr (Or.inr ⟨hz', rfl, if_neg (by decide)⟩)
        · exact Or.inr (Or.inl ⟨hz', rfl, if_pos rfl⟩)
    · have ht' : s = false ∧ e = 2047 := by
        simp at ht; exact ⟨ht.1, ht.2.1⟩
      rw [if_pos ht']
      exact next_top s e f he hf ho ht w
  · rw [show nx s e f = 9221120237041090560 from if_pos (is_odd e f ho)]
    exact next_odd s e f he hf ho w

end Go.Proofs.YtnnlicahgdcbdaaDoor.B

/- The program's Of. -/
namespace Go.Proofs.YtnnlicahgdcbdaaDoor
open Go.RowKit
set_option linter.unusedVariables false
set_option maxRecDepth 20000
attribute [local go_sem] B.eqParts B.fld0 B.fld1 B.fld2 B.fld3
/-- What Of answers: a form, or that the number is not finite. -/
def ofR (s : Bool) (e f : Nat) : Option (Bool × Nat × Int) := if e = 2047 then none else mkS s (if e = 0 then f else f + 4503599627370496) (if e = 0 then -1074 else (e : Int) - 1075)
def ofE (e : Nat) : Int := if e = 2047 then 30 else 0

def OAns (lo : Nat) (w : World) (r : Ending) (o : Option (Bool × Nat × Int)) (er : Int) : Prop :=
  ∃ v, r = .returned (.tuple #[.agg #[.bool (dN o), v, .int .i64 (dE o)], .int .i64 er]) ∧ Nt lo w v (dX o)

theorem bl_le53 (X : Nat) (h : X < 9007199254740992) : bl X ≤ 53 := by
  by_cases h0 : X = 0
  · subst h0; rw [bl_zero]; omega
  · have := (Nat.pow_lt_pow_iff_right (a := 2) (by omega)).1 (Nat.lt_of_le_of_lt (bl_ge X h0) (show X < 2 ^ 53 from h))
    omega

theorem of_some (s : Bool) (X : Nat) (x : Int) (hX : X < 9007199254740992) (h0 : -1100 ≤ x) (h1 : x ≤ 1000) : ∃ d, mkS s X x = some d := by
  unfold mkS
  by_cases h : X = 0
  · rw [if_pos h]; exact ⟨_, rfl⟩
  · rw [if_neg h]
    obtain ⟨m, _, _, hb⟩ := odd_part X h
    have := bl_le53 X hX
    rw [if_neg (by omega)]
    exact ⟨_, rfl⟩

set_option maxHeartbeats 4000000 in
theorem of_core (s : Bool) (b : Nat) (F : Nat) (k x : Int) (w : World) (hT : Tab w) (hF : F < 9007199254740992) (hx0 : -1100 ≤ x) (hx1 : x ≤ 1000)
    (HA : Hid (∀ u, Calls Tryd.prog 40 #[.float .f64 b] u fun r w' => r = .returned (.float .f64 (b % 9223372036854775808)) ∧ w' = u))
    (HS : Hid (∀ u, Calls Tryd.prog 39 #[.float .f64 (b % 9223372036854775808)] u fun r w' => r = .returned (.agg #[.bool false, .int .i64 k, .int .i64 x, .int .u64 (F : Nat)]) ∧ Below u.heap.size u w'))
    (H0 : Hid (∀ u, Calls Tryd.prog 39 #[.float .f64 0] u fun r w' => r = .returned (.agg #[.bool false, .int .i64 0, .int .i64 (-1074), .int .u64 0]) ∧ Below u.heap.size u w'))
    (hlt : (FloatKind.f64.format.order b 0 == some .lt) = s) (k0 : (k == 0) = false) (k3 : (k == 3) = false) (k4 : (k == 4) = false) :
    Calls Tryd.prog 12 #[.float .f64 b] w fun r w' => DAns w.heap.size w' r (mkS s F x) ∧ Below w.heap.size w w' := by
  generalize hb2 : b % 9223372036854775808 = b2 at *
  clear hb2
  have HO : Hid (∀ u, Calls Tryd.prog 41 #[.int .u64 (F : Nat)] u fun r w' => ∃ v, r = .returned v ∧ Nt u.heap.size w' v F ∧ Below u.heap.size u w') := fun u => of_any F u (by omega)
  have HM : Hid (∀ (u : World) (a : Option Addr) (c : Nat), Tab u → Arg u a (ws F).length c (ws F) → Calls Tryd.prog 36 #[.bool s, .slice a (ws F).length c, .int .i64 x] u fun r w' => DAns u.heap.size w' r (mkS s F x) ∧ Below u.heap.size u w') := by
    intro u a c hTu hA
    have := Make_any hA hTu s x (by omega) (by omega)
    rw [val_ws] at this
    exact this
  have hFl : (ws F).length ≤ 100 := by have := ws_len_bl F; have := bl_le53 F hF; omega
  have hl := mkS_len s F x
  obtain ⟨o, ho⟩ : ∃ o, mkS s F x = o := ⟨_, rfl⟩
  rw [ho] at HM hl ⊢
  unfold DAns at HM ⊢
  obtain ⟨dn, hdn⟩ : ∃ d, dN o = d := ⟨_, rfl⟩
  obtain ⟨X, hdx⟩ : ∃ d, dX o = d := ⟨_, rfl⟩
  obtain ⟨de, hde⟩ : ∃ d, dE o = d := ⟨_, rfl⟩
  obtain ⟨er, her⟩ : ∃ d, erS o = d := ⟨_, rfl⟩
  rw [hdn, hdx, hde, her] at HM ⊢
  rw [hdx] at hl
  have HT := Aside.intro hT
  clear ho hdn hdx hde her hT hF hx0 hx1
  go_enter Tryd.func12, Tryd.ntmps12
  go_wp2_with fail
  refine (Calls.mono (HA.out _)) ?_
  rintro r w1 ⟨rfl, rfl⟩
  go_wp2_with fail
  refine (Calls.mono (HS.out _)) ?_
  rintro r w2 ⟨rfl, hb⟩
  obtain ⟨hc, hf⟩ := bcell hb
  have hz : w.heap.size < w2.heap.size := by have := hb.size; simp at this; omega
  have hbw : Below w.heap.size w w2 := ((Below.refl _ _).alloc (Nat.le_refl _) _).trans (hb.mono (by simp))
  have SB := Aside.intro hbw
  clear hb hbw
  obtain ⟨W2, hW2⟩ : ∃ W, W = w2.alloc (.cells #[.bool false, .int .i64 k, .int .i64 x, .int .u64 (F : Nat)] 78) := ⟨_, rfl⟩
  have hbW : Below w.heap.size w W2 := by rw [hW2]; exact SB.out.alloc (by omega) _
  have P : W2.heap[w2.heap.size]? = some (.cells #[.bool false, .int .i64 k, .int .i64 x, .int .u64 (F : Nat)] 78 (0, 0)) := by rw [hW2, heap_alloc_new]
  have p0 : W2.cell? ⟨w2.heap.size, 0, none⟩ = some (.bool false) := by simp [World.cell?, P]
  have p1 : W2.cell? ⟨w2.heap.size, 1, none⟩ = some (.int .i64 k) := by simp [World.cell?, P]
  have p2 : W2.cell? ⟨w2.heap.size, 2, none⟩ = some (.int .i64 x) := by simp [World.cell?, P]
  have p3 : W2.cell? ⟨w2.heap.size, 3, none⟩ = some (.int .u64 (F : Nat)) := by simp [World.cell?, P]
  have r0 : W2.cell? ⟨w.heap.size, 0, none⟩ = some (.bool false) := by rw [hW2]; go_simp
  have r1 : W2.cell? ⟨w.heap.size, 1, none⟩ = some (.slice none 0 0) := by rw [hW2]; go_simp
  have r2 : W2.cell? ⟨w.heap.size, 2, none⟩ = some (.int .i64 0) := by rw [hW2]; go_simp
  have f0 : W2.frozen? ⟨w.heap.size, 0, none⟩ = false := by rw [hW2]; go_simp
  have f1 : W2.frozen? ⟨w.heap.size, 1, none⟩ = false := by rw [hW2]; go_simp
  have f2 : W2.frozen? ⟨w.heap.size, 2, none⟩ = false := by rw [hW2]; go_simp
  have hz2 : w2.heap.size < W2.heap.size := by rw [hW2]; simp
  have hz3 : w.heap.size < W2.heap.size := by omega
  have SW := Aside.intro hbW
  go_wp2_with fail
  rw [← hW2]
  clear hW2 hbW P hc hf SB
  go_region_with (go_at_call 39; refine (H0.out _).mono ?_; rintro r w3 ⟨rfl, hb3⟩; have hb4 : Below W2.heap.size W2 w3 := (by first | exact hb3 | exact ((Below.refl _ W2).drew).trans (hb3.mono (Nat.le_refl _))); obtain ⟨hc, hf⟩ := bcell hb4; have S3 := Aside.intro hb4; clear hb3 hb4)
  all_goals (
    go_wp2_with fail
    have hz4 : w2.heap.size < w3.heap.size := by have := S3.out.size; omega
    have hz5 : w.heap.size < w3.heap.size := by have := S3.out.size; omega
    go_region_with (first
      | (go_at_call 41
         refine (HO.out _).mono ?_
         rintro r w4 ⟨v4, rfl, hN, hb⟩
         obtain ⟨a4, c4, rfl, A4⟩ := hN.arg (by omega)
         have hb34 : Below w3.heap.size w3 w4 := (by first | exact hb | exact ((Below.refl _ w3).drew).trans (hb.mono (Nat.le_refl _)))
         have T4 : Tab w4 := (HT.out.belows SW.out).belows (S3.out.trans (hb34.mono S3.out.size))
         obtain ⟨hc4, hf4⟩ := bcell hb34
         have hz6 : w.heap.size < w4.heap.size := by have := hb34.size; omega
         have S4 := (Aside.intro (And.intro hb34 (And.intro A4 T4)))
         clear hN hb hb34 A4 T4)
      | (go_at_call 36
         refine (HM.out _ a4 c4 (by first | exact S4.out.2.2 | exact S4.out.2.2) (by first | exact S4.out.2.1 | exact Arg.drew' S4.out.2.1)).mono ?_
         rintro r w5 ⟨⟨v5, rfl, hN⟩, hb⟩
         obtain ⟨a5, c5, rfl, _⟩ := hN.arg (by omega)
         have hb45 : Below w4.heap.size w4 w5 := (by first | exact hb | exact ((Below.refl _ w4).drew).trans (hb.mono (Nat.le_refl _)))
         obtain ⟨hc5, hf5⟩ := bcell hb45
         have HF := Aside.intro (show Fin w.heap.size w4.heap.size w w5 (.slice a5 (ws X).length c5) X from ⟨hN, ((SW.out.trans (S3.out.mono (by omega))).trans (S4.out.1.mono (by omega))).trans (hb45.mono (by omega)), by have := hb45.size; omega⟩)
         clear hN hb hb45))
    all_goals (
      go_wp2
      exact bodyPost_ret (v := .tuple #[.agg #[.bool dn, .slice a5 (ws X).length c5, .int .i64 de], .int .i64 er]) (by simp [results, Tryd.results12, go_sem, hc5, hc4, hc, hz6, hz5, hz3, r0, r1, r2]) rfl (Fin.dans (m := w4.heap.size) (by repeat (first | exact HF.out | refine Fin.alloc ?_ _ | refine Fin.set ?_ _ _ _ (by omega) (by omega))) (by omega))))

set_option maxHeartbeats 4000000 in
theorem of_nought (b b2 : Nat) (w : World)
    (HA : Hid (∀ u, Calls Tryd.prog 40 #[.float .f64 b] u fun r w' => r = .returned (.float .f64 b2) ∧ w' = u))
    (HS : Hid (∀ u, Calls Tryd.prog 39 #[.float .f64 b2] u fun r w' => r = .returned (.agg #[.bool false, .int .i64 0, .int .i64 (-1074), .int .u64 0]) ∧ Below u.heap.size u w'))
    (H0 : Hid (∀ u, Calls Tryd.prog 39 #[.float .f64 0] u fun r w' => r = .returned (.agg #[.bool false, .int .i64 0, .int .i64 (-1074), .int .u64 0]) ∧ Below u.heap.size u w')) :
    Calls Tryd.prog 12 #[.float .f64 b] w fun r w' => r = .returned (.tuple #[.agg #[.bool false, .slice none 0 0, .int .i64 0], .int .i64 0]) ∧ Below w.heap.size w w' := by
  go_enter Tryd.func12, Tryd.ntmps12
  go_wp2_with fail
  refine (Calls.mono (HA.out _)) ?_
  rintro r w1 ⟨rfl, rfl⟩
  go_wp2_with fail
  refine (Calls.mono (HS.out _)) ?_
  rintro r w2 ⟨rfl, hb⟩
  obtain ⟨hc, hf⟩ := bcell hb
  have hz : w.heap.size < w2.heap.size := by have := hb.size; simp at this; omega
  have hbw : Below w.heap.size w w2 := ((Below.refl _ _).alloc (Nat.le_refl _) _).trans (hb.mono (by simp))
  have SB := Aside.intro hbw
  clear hb hbw
  obtain ⟨W2, hW2⟩ : ∃ W, W = w2.alloc (.cells #[.bool false, .int .i64 0, .int .i64 (-1074), .int .u64 0] 78) := ⟨_, rfl⟩
  have hbW : Below w.heap.size w W2 := by rw [hW2]; exact SB.out.alloc (by omega) _
  have P : W2.heap[w2.heap.size]? = some (.cells #[.bool false, .int .i64 0, .int .i64 (-1074), .int .u64 0] 78 (0, 0)) := by rw [hW2, heap_alloc_new]
  have p0 : W2.cell? ⟨w2.heap.size, 0, none⟩ = some (.bool false) := by simp [World.cell?, P]
  have p1 : W2.cell? ⟨w2.heap.size, 1, none⟩ = some (.int .i64 0) := by simp [World.cell?, P]
  have p2 : W2.cell? ⟨w2.heap.size, 2, none⟩ = some (.int .i64 (-1074)) := by simp [World.cell?, P]
  have p3 : W2.cell? ⟨w2.heap.size, 3, none⟩ = some (.int .u64 0) := by simp [World.cell?, P]
  have r0 : W2.cell? ⟨w.heap.size, 0, none⟩ = some (.bool false) := by rw [hW2]; go_simp
  have r1 : W2.cell? ⟨w.heap.size, 1, none⟩ = some (.slice none 0 0) := by rw [hW2]; go_simp
  have r2 : W2.cell? ⟨w.heap.size, 2, none⟩ = some (.int .i64 0) := by rw [hW2]; go_simp
  have f0 : W2.frozen? ⟨w.heap.size, 0, none⟩ = false := by rw [hW2]; go_simp
  have f1 : W2.frozen? ⟨w.heap.size, 1, none⟩ = false := by rw [hW2]; go_simp
  have f2 : W2.frozen? ⟨w.heap.size, 2, none⟩ = false := by rw [hW2]; go_simp
  have hz2 : w2.heap.size < W2.heap.size := by rw [hW2]; simp
  have hz3 : w.heap.size < W2.heap.size := by omega
  have SW := Aside.intro hbW
  go_wp2_with fail
  rw [← hW2]
  clear hW2 hbW P hc hf SB
  go_region_with (go_at_call 39; refine (H0.out _).mono ?_; rintro r w3 ⟨rfl, hb3⟩; have hb4 : Below W2.heap.size W2 w3 := (by first | exact hb3 | exact ((Below.refl _ W2).drew).trans (hb3.mono (Nat.le_refl _))); obtain ⟨hc, hf⟩ := bcell hb4; have S3 := Aside.intro hb4; clear hb3 hb4)
  all_goals (
    go_wp2
    have hbf := SW.out.trans (S3.out.mono (by omega))
    have hzf : w.heap.size ≤ w3.heap.size := by have := S3.out.size; omega
    exact bodyPost_ret (v := .tuple #[.agg #[.bool false, .slice none 0 0, .int .i64 0], .int .i64 0]) (by simp [results, Tryd.results12, go_sem, hc, hz3, r0, r1, r2]) rfl ⟨rfl, Below.setC (Below.setC (Below.setC hbf _ _ _ (Nat.le_refl _) hzf) _ _ _ (Nat.le_refl _) (by simpa [World.setCell] using hzf)) _ _ _ (Nat.le_refl _) (by simpa [World.setCell] using hzf)⟩)

set_option maxHeartbeats 4000000 in
theorem of_wild (b b2 : Nat) (k : Int) (w : World) (hk : k = 3 ∨ k = 4)
    (HA : Hid (∀ u, Calls Tryd.prog 40 #[.float .f64 b] u fun r w' => r = .returned (.float .f64 b2) ∧ w' = u))
    (HS : Hid (∀ u, Calls Tryd.prog 39 #[.float .f64 b2] u fun r w' => r = .returned (.agg #[.bool false, .int .i64 k, .int .i64 0, .int .u64 0]) ∧ Below u.heap.size u w'))
    (H0 : Hid (∀ u, Calls Tryd.prog 39 #[.float .f64 0] u fun r w' => r = .returned (.agg #[.bool false, .int .i64 0, .int .i64 (-1074), .int .u64 0]) ∧ Below u.heap.size u w')) :
    Calls Tryd.prog 12 #[.float .f64 b] w fun r w' => r = .returned (.tuple #[.agg #[.bool false, .slice none 0 0, .int .i64 0], .int .i64 30]) ∧ Below w.heap.size w w' := by
  have k0 : (k == 0) = false := by rcases hk with rfl | rfl <;> rfl
  go_enter Tryd.func12, Tryd.ntmps12
  go_wp2_with fail
  refine (Calls.mono (HA.out _)) ?_
  rintro r w1 ⟨rfl, rfl⟩
  go_wp2_with fail
  refine (Calls.mono (HS.out _)) ?_
  rintro r w2 ⟨rfl, hb⟩
  obtain ⟨hc, hf⟩ := bcell hb
  have hz : w.heap.size < w2.heap.size := by have := hb.size; simp at this; omega
  have hbw : Below w.heap.size w w2 := ((Below.refl _ _).alloc (Nat.le_refl _) _).trans (hb.mono (by simp))
  have SB := Aside.intro hbw
  clear hb hbw
  obtain ⟨W2, hW2⟩ : ∃ W, W = w2.alloc (.cells #[.bool false, .int .i64 k, .int .i64 0, .int .u64 0] 78) := ⟨_, rfl⟩
  have hbW : Below w.heap.size w W2 := by rw [hW2]; exact SB.out.alloc (by omega) _
  have P : W2.heap[w2.heap.size]? = some (.cells #[.bool false, .int .i64 k, .int .i64 0, .int .u64 0] 78 (0, 0)) := by rw [hW2, heap_alloc_new]
  have p0 : W2.cell? ⟨w2.heap.size, 0, none⟩ = some (.bool false) := by simp [World.cell?, P]
  have p1 : W2.cell? ⟨w2.heap.size, 1, none⟩ = some (.int .i64 k) := by simp [World.cell?, P]
  have p2 : W2.cell? ⟨w2.heap.size, 2, none⟩ = some (.int .i64 0) := by simp [World.cell?, P]
  have p3 : W2.cell? ⟨w2.heap.size, 3, none⟩ = some (.int .u64 0) := by simp [World.cell?, P]
  have r0 : W2.cell? ⟨w.heap.size, 0, none⟩ = some (.bool false) := by rw [hW2]; go_simp
  have r1 : W2.cell? ⟨w.heap.size, 1, none⟩ = some (.slice none 0 0) := by rw [hW2]; go_simp
  have r2 : W2.cell? ⟨w.heap.size, 2, none⟩ = some (.int .i64 0) := by rw [hW2]; go_simp
  have f0 : W2.frozen? ⟨w.heap.size, 0, none⟩ = false := by rw [hW2]; go_simp
  have f1 : W2.frozen? ⟨w.heap.size, 1, none⟩ = false := by rw [hW2]; go_simp
  have f2 : W2.frozen? ⟨w.heap.size, 2, none⟩ = false := by rw [hW2]; go_simp
  have hz2 : w2.heap.size < W2.heap.size := by rw [hW2]; simp
  have hz3 : w.heap.size < W2.heap.size := by omega
  have SW := Aside.intro hbW
  go_wp2_with fail
  rw [← hW2]
  clear hW2 hbW P hc hf SB
  go_region_with (go_at_call 39; refine (H0.out _).mono ?_; rintro r w3 ⟨rfl, hb3⟩; have hb4 : Below W2.heap.size W2 w3 := (by first | exact hb3 | exact ((Below.refl _ W2).drew).trans (hb3.mono (Nat.le_refl _))); obtain ⟨hc, hf⟩ := bcell hb4; have S3 := Aside.intro hb4; clear hb3 hb4)
  all_goals (
    have hbf := Aside.intro (SW.out.trans (S3.out.mono (by omega)))
    have hzf : w.heap.size ≤ w3.heap.size := by have := S3.out.size; omega
    rcases hk with rfl | rfl
    all_goals (
      go_wp2
      exact bodyPost_ret (v := .tuple #[.agg #[.bool false, .slice none 0 0, .int .i64 0], .int .i64 30]) (by simp [results, Tryd.results12, go_sem, hc, hz3, r0, r1, r2]) rfl ⟨rfl, Below.setC (Below.setC (Below.setC hbf.out _ _ _ (Nat.le_refl _) hzf) _ _ _ (Nat.le_refl _) (by simpa [World.setCell] using hzf)) _ _ _ (Nat.le_refl _) (by simpa [World.setCell] using hzf)⟩))

theorem Of_any (s : Bool) (e f : Nat) (he : e < 2048) (hf : f < 4503599627370496) (w : World) (hT : Tab w) :
    Calls Tryd.prog 12 #[.float .f64 (B.bw s e f)] w fun r w' => OAns w.heap.size w' r (ofR s e f) (ofE e) ∧ Below w.heap.size w w' := by
  have HA : Hid (∀ u, Calls Tryd.prog 40 #[.float .f64 (B.bw s e f)] u fun r w' => r = .returned (.float .f64 (B.bw false e f)) ∧ w' = u) := fun u => B.abs_any s e f he hf u
  have HS : ∀ u, Calls Tryd.prog 39 #[.float .f64 (B.bw false e f)] u fun r w' => r = .returned (.agg #[.bool (B.ng false e f), .int .i64 (B.cls e f), .int .i64 (B.xp e), .int .u64 (B.fr e f)]) ∧ Below u.heap.size u w' := fun u => B.Split_any false e f he hf u
  have H0 : Hid (∀ u, Calls Tryd.prog 39 #[.float .f64 0] u fun r w' => r = .returned (.agg #[.bool false, .int .i64 0, .int .i64 (-1074), .int .u64 0]) ∧ Below u.heap.size u w') := fun u => B.Split_any false 0 0 (by omega) (by omega) u
  have hng : B.ng false e f = false := by unfold B.ng; split <;> rfl
  rw [hng] at HS
  unfold ofR ofE
  by_cases h7 : e = 2047
  · rw [if_pos h7, if_pos h7]
    have h2 : B.xp e = 0 ∧ B.fr e f = 0 := by unfold B.xp B.fr; rw [if_pos h7, if_pos h7]; exact ⟨rfl, rfl⟩
    rw [h2.1, h2.2] at HS
    have hk : B.cls e f = 3 ∨ B.cls e f = 4 := by unfold B.cls; rw [if_pos h7]; split <;> simp
    exact (of_wild _ _ _ w hk HA (hid HS) H0).mono fun r w' ⟨h1, h3⟩ => ⟨⟨_, h1, Nt.nil _ _⟩, h3⟩
  · rw [if_neg h7, if_neg h7]
    have hx : B.xp e = (if e = 0 then -1074 else (e : Int) - 1075) := by unfold B.xp; rw [if_neg h7]
    have hfr : B.fr e f = (((if e = 0 then f else f + 4503599627370496 : Nat)) : Int) := by unfold B.fr; rw [if_neg h7]; split <;> simp
    rw [hx, hfr] at HS
    by_cases h0 : e = 0 ∧ f = 0
    · obtain ⟨rfl, rfl⟩ := h0
      rw [show B.cls 0 0 = 0 from rfl] at HS
      simp only [if_pos, Int.ofNat_zero] at HS
      rw [if_pos rfl, mkS_zero]
      exact (of_nought _ _ w HA (hid HS) H0).mono fun r w' ⟨h1, h3⟩ => ⟨⟨_, h1, Nt.nil _ _⟩, h3⟩
    · have hcl : B.cls e f = 1 ∨ B.cls e f = 2 := by
        unfold B.cls; rw [if_neg h7]
        by_cases h1 : e = 0
        · rw [if_pos h1, if_neg (fun h => h0 ⟨h1, h⟩)]; simp
        · rw [if_neg h1]; simp
      obtain ⟨F, hF⟩ : ∃ F : Nat, (if e = 0 then f else f + 4503599627370496 : Nat) = F := ⟨_, rfl⟩
      obtain ⟨x, hxx⟩ : ∃ x : Int, (if e = 0 then -1074 else (e : Int) - 1075) = x := ⟨_, rfl⟩
      have hFb : F < 9007199254740992 := by rw [← hF]; split <;> omega
      have hxb : -1100 ≤ x ∧ x ≤ 1000 := by rw [← hxx]; split <;> omega
      rw [hF, hxx] at HS ⊢
      have ho : B.odd e f = false := by unfold B.odd; simp [h7]
      have hz : (e == 0 && f == 0) = false := by
        cases h1 : (e == 0 && f == 0)
        · rfl
        · exact absurd (by simpa using h1) h0
      have hb2 : B.bw false e f = B.bw s e f % 9223372036854775808 := by
        have h1 := B.bw_mod s e f he hf
        have h2 : (B.bw false e f : Int) = (e : Int) * 4503599627370496 + f := by unfold B.bw; simp
        omega
      rw [hb2] at HA HS
      obtain ⟨d, hd⟩ := of_some s F x hFb hxb.1 hxb.2
      have := of_core s (B.bw s e f) F (B.cls e f) x w hT hFb hxb.1 hxb.2 HA (hid HS) H0 (B.lt_zero s e f he hf ho hz) (by rcases hcl with h | h <;> rw [h] <;> rfl) (by rcases hcl with h | h <;> rw [h] <;> rfl) (by rcases hcl with h | h <;> rw [h] <;> rfl)
      refine this.mono fun r w' ⟨⟨v, h1, h2⟩, h3⟩ => ⟨⟨v, ?_, h2⟩, h3⟩
      rw [h1, hd]
      rfl
end Go.Proofs.YtnnlicahgdcbdaaDoor

/- The document's Number, Bits, Of. -/
namespace Go.Proofs.YtnnlicahgdcbdaaDoor
open Go.RowKit
set_option linter.unusedVariables false
set_option maxRecDepth 20000
attribute [local go_sem] B.f64bits B.f64frombits
def num64 (k : Nat) : Nat × Int := if k / 4503599627370496 = 0 then (k % 4503599627370496, -1074) else (4503599627370496 + k % 4503599627370496, -1074 + ((k / 4503599627370496 : Nat) : Int) - 1)

set_option maxHeartbeats 4000000 in
theorem rNumber64_low (K : Int) (V : Nat) (w : World) (e1 : K / 4503599627370496 = 0) (hK0 : 0 ≤ K) (hK1 : K ≤ 9218868437227405312)
    (HO : Hid (∀ u, Calls Tryd.prog 125 #[.int .u64 (K % 4503599627370496)] u fun r w' => ∃ v, r = .returned v ∧ Nt u.heap.size w' v V ∧ Below u.heap.size u w')) :
    Calls Tryd.prog 111 #[.agg #[.int .i64 53, .int .i64 (-1074), .int .u64 9218868437227405312], .int .u64 K] w fun r w' => ∃ v, r = .returned (.tuple #[v, .int .i64 (-1074)]) ∧ Nt w.heap.size w' v V ∧ Below w.heap.size w w' := by
  obtain ⟨W1, hW1⟩ : ∃ W, W = w.alloc (.cells #[.int .i64 53, .int .i64 (-1074), .int .u64 9218868437227405312] 125) := ⟨_, rfl⟩
  have P : W1.heap[w.heap.size]? = some (.cells #[.int .i64 53, .int .i64 (-1074), .int .u64 9218868437227405312] 125 (0, 0)) := by rw [hW1, heap_alloc_new]
  have p1 : W1.cell? ⟨w.heap.size, 1, none⟩ = some (.int .i64 (-1074)) := by simp [World.cell?, P]
  have hz : w.heap.size < W1.heap.size := by rw [hW1]; simp
  have HB := Aside.intro (show Below w.heap.size w W1 by rw [hW1]; exact below_alloc w _)
  go_enter Tryd.func111, Tryd.ntmps111
  go_wp2
  rw [← hW1]
  clear hW1 P e1
  go_region_held3 (fun w' => w'.cell? ⟨w.heap.size, 1, none⟩ = some (.int .i64 (-1074))) (go_keep) (first | (go_at_call 125; refine (HO.out _).mono ?_; rintro r w2 ⟨v, rfl, hN, hb⟩; have hb2 : Below W1.heap.size W1 w2 := (by first | exact hb | exact ((Below.refl _ W1).drew).trans (hb.mono (Nat.le_refl _))); have p2 : w2.cell? ⟨w.heap.size, 1, none⟩ = some (.int .i64 (-1074)) := (hb2.cell (p := ⟨w.heap.size, 1, none⟩) hz).trans p1; have S2 := (Aside.intro (And.intro hb2 hN)); clear hb hb2 hN))
  all_goals (
    go_wp2
    go_simp
    go_ret2
    exact ⟨v, rfl, S2.out.2.mono (Nat.le_of_lt hz), HB.out.trans (S2.out.1.mono (Nat.le_of_lt hz))⟩)

set_option maxHeartbeats 4000000 in
theorem rNumber64_high (K q f g x y : Int) (V : Nat) (w : World) (e1 : K / 4503599627370496 = q) (e2 : K % 4503599627370496 = f) (e3 : IntKind.u64.wrap (4503599627370496 + f) = g) (e4 : IntKind.i64.wrap q = q) (e5 : IntKind.i64.wrap (-1074 + q) = x) (e6 : IntKind.i64.wrap (x - 1) = y) (hK0 : 0 ≤ K) (hK1 : K ≤ 9218868437227405312) (hq0 : (q == 0) = false)
    (HO : Hid (∀ u, Calls Tryd.prog 125 #[.int .u64 g] u fun r w' => ∃ v, r = .returned v ∧ Nt u.heap.size w' v V ∧ Below u.heap.size u w')) :
    Calls Tryd.prog 111 #[.agg #[.int .i64 53, .int .i64 (-1074), .int .u64 9218868437227405312], .int .u64 K] w fun r w' => ∃ v, r = .returned (.tuple #[v, .int .i64 y]) ∧ Nt w.heap.size w' v V ∧ Below w.heap.size w w' := by
  obtain ⟨W1, hW1⟩ : ∃ W, W = w.alloc (.cells #[.int .i64 53, .int .i64 (-1074), .int .u64 9218868437227405312] 125) := ⟨_, rfl⟩
  have P : W1.heap[w.heap.size]? = some (.cells #[.int .i64 53, .int .i64 (-1074), .int .u64 9218868437227405312] 125 (0, 0)) := by rw [hW1, heap_alloc_new]
  have p1 : W1.cell? ⟨w.heap.size, 1, none⟩ = some (.int .i64 (-1074)) := by simp [World.cell?, P]
  have hz : w.heap.size < W1.heap.size := by rw [hW1]; simp
  have HB := Aside.intro (show Below w.heap.size w W1 by rw [hW1]; exact below_alloc w _)
  go_enter Tryd.func111, Tryd.ntmps111
  go_wp2
  rw [← hW1]
  try simp only [e1, e2]
  clear hW1 P e1 e2 hK0 hK1
  go_region_held3 (fun w' => w'.cell? ⟨w.heap.size, 1, none⟩ = some (.int .i64 (-1074))) (go_keep) (first | (go_at_call 125; refine (HO.out _).mono ?_; rintro r w2 ⟨v, rfl, hN, hb⟩; have hb2 : Below W1.heap.size W1 w2 := (by first | exact hb | exact ((Below.refl _ W1).drew).trans (hb.mono (Nat.le_refl _))); have p2 : w2.cell? ⟨w.heap.size, 1, none⟩ = some (.int .i64 (-1074)) := (hb2.cell (p := ⟨w.heap.size, 1, none⟩) hz).trans p1; have S2 := (Aside.intro (And.intro hb2 hN)); clear hb hb2 hN))
  all_goals (
    go_wp2
    go_simp
    go_ret2
    exact ⟨v, rfl, S2.out.2.mono (Nat.le_of_lt hz), HB.out.trans (S2.out.1.mono (Nat.le_of_lt hz))⟩)

theorem rNumber64 (k : Nat) (hk : k ≤ 9218868437227405312) (w : World) :
    Calls Tryd.prog 111 #[.agg #[.int .i64 53, .int .i64 (-1074), .int .u64 9218868437227405312], .int .u64 (k : Nat)] w fun r w' => ∃ v, r = .returned (.tuple #[v, .int .i64 (num64 k).2]) ∧ Nt w.heap.size w' v (num64 k).1 ∧ Below w.heap.size w w' := by
  unfold num64
  by_cases h0 : k / 4503599627370496 = 0
  · rw [if_pos h0]
    exact rNumber64_low (k : Int) (k % 4503599627370496) w (by omega) (by omega) (by omega) (hid fun u => by simpa using rOf_any (k % 4503599627370496) u (by omega))
  · rw [if_neg h0]
    have hw : ∀ n : Int, 0 ≤ n → n < 18446744073709551616 → IntKind.u64.wrap n = n := fun n h1 h2 => by simp [IntKind.wrap, IntKind.bits, IntKind.signed]; omega
    have hv : ∀ n : Int, -4000 ≤ n → n < 4000 → IntKind.i64.wrap n = n := fun n h1 h2 => by simp [IntKind.wrap, IntKind.bits, IntKind.signed]; omega
    have e3 : (4503599627370496 : Int) + ((k % 4503599627370496 : Nat) : Int) = ((4503599627370496 + k % 4503599627370496 : Nat) : Int) := by omega
    exact rNumber64_high (k : Int) ((k / 4503599627370496 : Nat) : Int) ((k % 4503599627370496 : Nat) : Int) ((4503599627370496 + k % 4503599627370496 : Nat) : Int) (-1074 + ((k / 4503599627370496 : Nat) : Int)) (-1074 + ((k / 4503599627370496 : Nat) : Int) - 1) (4503599627370496 + k % 4503599627370496) w (by omega) (by omega) (by rw [e3]; exact hw _ (by omega) (by omega)) (hv _ (by omega) (by omega)) (hv _ (by omega) (by omega)) (hv _ (by omega) (by omega)) (by omega) (by omega) (beq_eq_false_iff_ne.2 (by omega)) (hid fun u => rOf_any _ u (by omega))

theorem num64_bits (e f : Nat) (hf : f < 4503599627370496) : num64 (e * 4503599627370496 + f) = (if e = 0 then f else f + 4503599627370496, if e = 0 then -1074 else (e : Int) - 1075) := by
  have h1 : (e * 4503599627370496 + f) / 4503599627370496 = e := by omega
  have h2 : (e * 4503599627370496 + f) % 4503599627370496 = f := by omega
  unfold num64
  rw [h1, h2]
  by_cases h : e = 0
  · rw [if_pos h, if_pos h, if_pos h]
  · rw [if_neg h, if_neg h, if_neg h]
    refine Prod.ext (by simp; omega) (by simp; omega)

set_option maxHeartbeats 1000000 in
theorem of64_any (w : World) : Calls Tryd.prog 83 #[] w fun r w' => r = .returned (.agg #[.int .i64 53, .int .i64 (-1074), .int .u64 9218868437227405312]) ∧ Below w.heap.size w w' := by
  go_enter Tryd.func83, Tryd.ntmps83
  go_wp2
  exact bodyPost_ret (v := .agg #[.int .i64 53, .int .i64 (-1074), .int .u64 9218868437227405312]) (by simp [results, Tryd.results83, go_sem]) rfl ⟨rfl, by repeat (first | exact Below.refl _ _ | refine Below.alloc ?_ (by first | omega | simp) _ | refine Below.setC ?_ _ _ _ (by omega) (by simp))⟩

set_option maxHeartbeats 4000000 in
theorem rBits_wild (neg : Bool) (k : Int) (w : World) (hk : 9218868437227405312 ≤ k) (hk2 : k < 9223372036854775808) :
    Calls Tryd.prog 84 #[.agg #[.int .i64 53, .int .i64 (-1074), .int .u64 9218868437227405312], .bool neg, .int .u64 k] w fun r w' => r = .returned (.tuple #[.agg #[.bool false, .slice none 0 0, .int .i64 0], .bool false]) ∧ Below w.heap.size w w' := by
  have HB := Aside.intro (show Below w.heap.size w ((w.alloc (.cells #[.int .i64 53, .int .i64 (-1074), .int .u64 9218868437227405312] 125)).alloc (.cells #[.bool false, .slice none 0 0, .int .i64 0] 37)) from (below_alloc w _).alloc (by simp) _)
  go_enter Tryd.func84, Tryd.ntmps84
  go_wp2
  exact bodyPost_ret (v := .tuple #[.agg #[.bool false, .slice none 0 0, .int .i64 0], .bool false]) (by simp [results, Tryd.results84, go_sem]) rfl ⟨rfl, HB.out⟩

set_option maxHeartbeats 4000000 in
theorem rBits_core (neg : Bool) (k : Int) (F : Nat) (x : Int) (w : World) (hk : k < 9218868437227405312) (hF : F < 9007199254740992) (hx0 : -1100 ≤ x) (hx1 : x ≤ 1000)
    (HN0 : Hid (∀ u, Calls Tryd.prog 111 #[.agg #[.int .i64 53, .int .i64 (-1074), .int .u64 9218868437227405312], .int .u64 k] u fun r w' => ∃ v, r = .returned (.tuple #[v, .int .i64 x]) ∧ Nt u.heap.size w' v F ∧ Below u.heap.size u w')) :
    Calls Tryd.prog 84 #[.agg #[.int .i64 53, .int .i64 (-1074), .int .u64 9218868437227405312], .bool neg, .int .u64 k] w fun r w' => FAns w.heap.size w' r (mkS neg F x) ∧ Below w.heap.size w w' := by
  have HB := Aside.intro (show Below w.heap.size w ((w.alloc (.cells #[.int .i64 53, .int .i64 (-1074), .int .u64 9218868437227405312] 125)).alloc (.cells #[.bool false, .slice none 0 0, .int .i64 0] 37)) from (below_alloc w _).alloc (by simp) _)
  have HN := hid (HN0.out ((w.alloc (.cells #[.int .i64 53, .int .i64 (-1074), .int .u64 9218868437227405312] 125)).alloc (.cells #[.bool false, .slice none 0 0, .int .i64 0] 37)))
  have hl := mkS_len neg F x
  have hFl : (ws F).length ≤ 100 := by have := ws_len_bl F; have := bl_le53 F hF; omega
  have HM : Hid (∀ (u : World) (a : Option Addr) (c : Nat), Arg u a (ws F).length c (ws F) → Calls Tryd.prog 112 #[.bool neg, .slice a (ws F).length c, .int .i64 x] u fun r w' => FAns u.heap.size w' r (mkS neg F x) ∧ Below u.heap.size u w') := by
    intro u a c hA
    have := rForm_any hA (by omega) neg x (by omega) (by omega)
    rw [val_ws] at this
    exact this
  obtain ⟨o, ho⟩ : ∃ o, mkS neg F x = o := ⟨_, rfl⟩
  rw [ho] at HM hl ⊢
  unfold FAns at HM ⊢
  obtain ⟨dn, hdn⟩ : ∃ d, dN o = d := ⟨_, rfl⟩
  obtain ⟨X, hdx⟩ : ∃ d, dX o = d := ⟨_, rfl⟩
  obtain ⟨de, hde⟩ : ∃ d, dE o = d := ⟨_, rfl⟩
  obtain ⟨er, her⟩ : ∃ d, o.isSome = d := ⟨_, rfl⟩
  rw [hdn, hdx, hde, her] at HM ⊢
  rw [hdx] at hl
  clear ho hdn hdx hde her hF hx0 hx1 HN0
  go_enter Tryd.func84, Tryd.ntmps84
  go_wp2_with fail
  refine (Calls.mono HN.out) ?_
  rintro r w2 ⟨v, rfl, hN, hb⟩
  obtain ⟨a2, c2, rfl, A2⟩ := hN.arg (by omega)
  obtain ⟨hc, hf⟩ := bcell hb
  have hz : w.heap.size + 1 < w2.heap.size := by have := hb.size; simp at this; omega
  have H2 := hid (HM.out w2 a2 c2 A2)
  have S2 := Aside.intro (HB.out.trans (hb.mono (by simp; omega)))
  clear hN hb A2
  go_wp2_with fail
  refine (Calls.mono H2.out) ?_
  rintro r w3 ⟨⟨v3, rfl, hN⟩, hb⟩
  obtain ⟨a3, c3, rfl, _⟩ := hN.arg (by omega)
  obtain ⟨hc3, hf3⟩ := bcell hb
  have HF := Aside.intro (show Fin w.heap.size w2.heap.size w w3 (.slice a3 (ws X).length c3) X from ⟨hN, S2.out.trans (hb.mono (by omega)), by have := hb.size; omega⟩)
  clear hN hb
  go_wp2
  exact bodyPost_ret (v := .tuple #[.agg #[.bool dn, .slice a3 (ws X).length c3, .int .i64 de], .bool er]) (by simp [results, Tryd.results84, go_sem, hc, hc3, hz]) rfl (Fin.dans (m := w2.heap.size) (by repeat (first | exact HF.out | refine Fin.alloc ?_ _ | refine Fin.set ?_ _ _ _ (by omega) (by omega))) (by omega))

theorem rBits_any (neg : Bool) (k : Nat) (w : World) (hk : k < 9218868437227405312) :
    Calls Tryd.prog 84 #[.agg #[.int .i64 53, .int .i64 (-1074), .int .u64 9218868437227405312], .bool neg, .int .u64 (k : Nat)] w fun r w' => FAns w.heap.size w' r (mkS neg (num64 k).1 (num64 k).2) ∧ Below w.heap.size w w' := by
  have hb1 : (num64 k).1 < 9007199254740992 ∧ -1100 ≤ (num64 k).2 ∧ (num64 k).2 ≤ 1000 := by unfold num64; split <;> simp <;> omega
  exact rBits_core neg (k : Int) _ _ w (by omega) hb1.1 hb1.2.1 hb1.2.2 (hid fun u => rNumber64 k (by omega) u)

end Go.Proofs.YtnnlicahgdcbdaaDoor

/- The document's Of. -/
namespace Go.Proofs.YtnnlicahgdcbdaaDoor
open Go.RowKit
set_option linter.unusedVariables false
set_option maxRecDepth 20000
attribute [local go_sem] B.f64bits B.f64frombits
set_option maxHeartbeats 4000000 in
theorem rOf_core (s : Bool) (b : Nat) (k : Int) (dn : Bool) (X : Nat) (de : Int) (er : Bool) (w : World) (hl : (ws X).length ≤ 8192)
    (e1 : ((b : Int) / 9223372036854775808 == 1) = s) (e2 : IntKind.u64.wrap ((b : Int) * 2) / 2 = k) (hX : er = false → dn = false ∧ X = 0 ∧ de = 0)
    (hO : Hid (∀ u, Calls Tryd.prog 83 #[] u fun r w' => r = .returned (.agg #[.int .i64 53, .int .i64 (-1074), .int .u64 9218868437227405312]) ∧ Below u.heap.size u w'))
    (HW : Hid (∀ u, Calls Tryd.prog 84 #[.agg #[.int .i64 53, .int .i64 (-1074), .int .u64 9218868437227405312], .bool s, .int .u64 k] u fun r w' => (∃ v, r = .returned (.tuple #[.agg #[.bool dn, v, .int .i64 de], .bool er]) ∧ Nt u.heap.size w' v X) ∧ Below u.heap.size u w')) :
    Calls Tryd.prog 54 #[.float .f64 b] w fun r w' => (∃ v, r = .returned (.tuple #[.agg #[.bool dn, v, .int .i64 de], .int .i64 (if er then 0 else 30)]) ∧ Nt w.heap.size w' v X) ∧ Below w.heap.size w w' := by
  go_enter Tryd.func54, Tryd.ntmps54
  go_wp2_with fail
  refine (Calls.mono (hO.out _)) ?_
  rintro r w1 ⟨rfl, hb1⟩
  have hz : w.heap.size < w1.heap.size := by have := hb1.size; simp at this; omega
  have S1 := Aside.intro ((below_alloc w (.cells #[.bool false, .slice none 0 0, .int .i64 0] 37)).trans (hb1.mono (by simp)))
  obtain ⟨hc, hf⟩ := bcell hb1
  clear hb1
  go_wp2_with fail
  try simp only [e1, e2]
  refine (Calls.mono (HW.out _)) ?_
  rintro r w2 ⟨⟨v, rfl, hN⟩, hb2⟩
  obtain ⟨a2, c2, rfl, _⟩ := hN.arg (by omega)
  obtain ⟨hc2, hf2⟩ := bcell hb2
  have hz2 : w.heap.size < w2.heap.size := by have := hb2.size; omega
  have HF := Aside.intro (show Fin w.heap.size w1.heap.size w w2 (.slice a2 (ws X).length c2) X from ⟨hN, S1.out.trans (hb2.mono (by omega)), by omega⟩)
  clear hN hb2 e1 e2
  cases er
  · obtain ⟨rfl, rfl, rfl⟩ := hX rfl
    clear hX
    go_wp2
    exact bodyPost_ret (v := .tuple #[.agg #[.bool false, .slice none 0 0, .int .i64 0], .int .i64 30]) (by simp [results, Tryd.results54, go_sem, hc, hc2, hz, hz2]) rfl (Fin.dnil (m := w1.heap.size) (v := .slice a2 (ws 0).length c2) (X := 0) (by repeat (first | exact HF.out | refine Fin.alloc ?_ _ | refine Fin.set ?_ _ _ _ (by omega) (by omega))))
  · clear hX
    go_wp2
    exact bodyPost_ret (v := .tuple #[.agg #[.bool dn, .slice a2 (ws X).length c2, .int .i64 de], .int .i64 0]) (by simp [results, Tryd.results54, go_sem, hc, hc2, hz, hz2]) rfl (Fin.dans (m := w1.heap.size) (by repeat (first | exact HF.out | refine Fin.alloc ?_ _ | refine Fin.set ?_ _ _ _ (by omega) (by omega))) (by omega))

theorem rOf3_any (s : Bool) (e f : Nat) (he : e < 2048) (hf : f < 4503599627370496) (w : World) :
    Calls Tryd.prog 54 #[.float .f64 (B.bw s e f)] w fun r w' => OAns w.heap.size w' r (ofR s e f) (ofE e) ∧ Below w.heap.size w w' := by
  have hbl := B.bw_lt s e f he hf
  have hb1 : (B.bw s e f : Int) = (if s then 9223372036854775808 else 0) + ((e * 4503599627370496 + f : Nat) : Int) := by unfold B.bw; cases s <;> simp <;> omega
  obtain ⟨b, hb⟩ : ∃ b, B.bw s e f = b := ⟨_, rfl⟩
  obtain ⟨k, hk⟩ : ∃ k, e * 4503599627370496 + f = k := ⟨_, rfl⟩
  rw [hb, hk] at hb1
  rw [hb] at hbl ⊢
  have hk2 : k < 9223372036854775808 := by omega
  have e1 : ((b : Int) / 9223372036854775808 == 1) = s := by cases s <;> simp at hb1 ⊢ <;> omega
  have e2 : IntKind.u64.wrap ((b : Int) * 2) / 2 = (k : Int) := by
    simp [IntKind.wrap, IntKind.bits, IntKind.signed]
    cases s <;> simp at hb1 <;> omega
  unfold ofR ofE
  by_cases h7 : e = 2047
  · rw [if_pos h7, if_pos h7]
    exact rOf_core s b (k : Int) false 0 0 false w (by rw [ws_zero]; simp) e1 e2 (fun _ => ⟨rfl, rfl, rfl⟩) (hid fun u => of64_any u)
      (hid fun u => (rBits_wild s (k : Int) u (by omega) (by omega)).mono fun r w' ⟨h1, h2⟩ => ⟨⟨_, h1, Nt.nil _ _⟩, h2⟩)
  · rw [if_neg h7, if_neg h7]
    have hn := num64_bits e f hf
    rw [hk] at hn
    have hF : (if e = 0 then f else f + 4503599627370496) < 9007199254740992 := by split <;> omega
    have hx0 : (-1100 : Int) ≤ (if e = 0 then -1074 else (e : Int) - 1075) := by split <;> omega
    have hx1 : (if e = 0 then -1074 else (e : Int) - 1075) ≤ (1000 : Int) := by split <;> omega
    obtain ⟨d, hd⟩ := of_some s _ _ hF hx0 hx1
    have hl := mkS_len s (if e = 0 then f else f + 4503599627370496) (if e = 0 then -1074 else (e : Int) - 1075)
    have hB : ∀ u, _ := fun u => rBits_any s k u (by omega)
    rw [hn] at hB
    simp only [] at hB
    rw [hd] at hB hl ⊢
    exact rOf_core s b (k : Int) _ _ _ true w hl e1 e2 (fun h => by cases h) (hid fun u => of64_any u) (hid hB)
end Go.Proofs.YtnnlicahgdcbdaaDoor

/- The document's Same; the law's took. -/
namespace Go.Proofs.YtnnlicahgdcbdaaDoor
open Go.RowKit
set_option linter.unusedVariables false
set_option maxRecDepth 20000

set_option maxHeartbeats 4000000 in
theorem rSame3_any (n : Bool) (e : Int) (xs : List Nat) (ao bo : Option Addr) (l ca cb : Nat) (w : World) (hn : l = xs.length) (hbig : l ≤ 70368744177664) (hR : Rd w.heap.size w ao xs) (hS : Rd w.heap.size w bo xs) :
    Calls Tryd.prog 56 #[.agg #[.bool n, .slice ao l ca, .int .i64 e], .agg #[.bool n, .slice bo l cb, .int .i64 e]] w fun r w' => r = .returned (.bool true) ∧ Below w.heap.size w w' := by
  obtain ⟨W1, hW1⟩ : ∃ W, W = (w.alloc (.cells #[.bool n, .slice ao l ca, .int .i64 e] 37)).alloc (.cells #[.bool n, .slice bo l cb, .int .i64 e] 37) := ⟨_, rfl⟩
  have hb1 : Below w.heap.size w W1 := by rw [hW1]; exact (below_alloc w _).alloc (by simp) _
  have PA : W1.heap[w.heap.size]? = some (.cells #[.bool n, .slice ao l ca, .int .i64 e] 37 (0, 0)) := by rw [hW1, Below.heap_alloc _ _ _ (by simp), heap_alloc_new]
  have PB : W1.heap[w.heap.size + 1]? = some (.cells #[.bool n, .slice bo l cb, .int .i64 e] 37 (0, 0)) := by
    have h5 := heap_alloc_new (w.alloc (.cells #[.bool n, .slice ao l ca, .int .i64 e] 37)) (.cells #[.bool n, .slice bo l cb, .int .i64 e] 37)
    rw [hW1]; simpa using h5
  have hz1 : W1.heap.size = w.heap.size + 2 := by rw [hW1]; simp
  have q1 : W1.cell? ⟨w.heap.size, 1, none⟩ = some (.slice ao l ca) := by simp [World.cell?, PA]
  have q2 : W1.cell? ⟨w.heap.size + 1, 1, none⟩ = some (.slice bo l cb) := by simp [World.cell?, PB]
  have HR := (Aside.intro (And.intro (hR.below hb1) (And.intro (hS.below hb1) (And.intro hn (And.intro hb1 (And.intro q1 (And.intro q2 hz1)))))))
  clear hR hS hn hb1 PA PB hz1 q1 q2
  go_enter Tryd.func56, Tryd.ntmps56
  go_wp2
  rw [← hW1]
  clear hW1
  go_loopg [5] l (fun gk i wr => ∃ k : Nat, gk + k = l ∧ i = .int .i64 (k : Nat) ∧ Hid (Below W1.heap.size W1 wr))
  case atStart => exact ⟨0, by omega, rfl, Below.refl _ _⟩
  case round =>
    obtain ⟨k, hgk, rfl, HB⟩ := hrel
    obtain ⟨hR, hS, hn, hb1, q1, q2, hz1⟩ := HR.out
    have p1 : wr.cell? ⟨w.heap.size, 1, none⟩ = some (.slice ao l ca) := (HB.out.cell (p := ⟨w.heap.size, 1, none⟩) (by simp; omega)).trans q1
    have p2 : wr.cell? ⟨w.heap.size + 1, 1, none⟩ = some (.slice bo l cb) := (HB.out.cell (p := ⟨w.heap.size + 1, 1, none⟩) (by simp; omega)).trans q2
    clear hb1 q1 q2 hz1
    by_cases hk : k < l
    · obtain ⟨b, off, hB1, rfl, hc1⟩ := hR (by intro e; subst e; simp at hn; omega)
      obtain ⟨b2, off2, hB2, rfl, hc2⟩ := hS (by intro e; subst e; simp at hn; omega)
      have g1 : wr.cell? ⟨b, off + k, none⟩ = some (.int .u32 ((xs.getD k 0 : Nat) : Int)) :=
        (HB.out.cell (p := ⟨b, off + k, none⟩) (World.block_lt_of_cell? W1 ⟨b, off + k, none⟩ (hc1 k (by omega)))).trans (hc1 k (by omega))
      have g2 : wr.cell? ⟨b2, off2 + k, none⟩ = some (.int .u32 ((xs.getD k 0 : Nat) : Int)) :=
        (HB.out.cell (p := ⟨b2, off2 + k, none⟩) (World.block_lt_of_cell? W1 ⟨b2, off2 + k, none⟩ (hc2 k (by omega)))).trans (hc2 k (by omega))
      obtain ⟨x, hxx⟩ : ∃ x : Nat, xs.getD k 0 = x := ⟨_, rfl⟩
      rw [hxx] at g1 g2
      clear hR hS hn hc1 hc2 hxx hB1 hB2
      go_wp2
      go_quiet (fail)
      go_wp2
      go_roundg (gk - 1)
      case measure => omega
      case rel => exact ⟨k + 1, by omega, by go_num, Below.drewN' HB.out _⟩
    · obtain rfl : k = l := by omega
      clear hR hS hn
      go_wp2
      go_ret
      obtain ⟨hR, hS, hn, hb1, q1, q2, hz1⟩ := HR.out
      exact ⟨rfl, hb1.trans (HB.out.mono (by omega))⟩

end Go.Proofs.YtnnlicahgdcbdaaDoor

/- The law's took. -/
namespace Go.Proofs.YtnnlicahgdcbdaaDoor
open Go.RowKit
set_option linter.unusedVariables false
set_option maxRecDepth 20000

theorem Nt.arg' {lo : Nat} {w : World} {a : Option Addr} {n c X : Nat} (h : Nt lo w (.slice a n c) X) (hs : (ws X).length ≤ 35184372088832) : n = (ws X).length ∧ Arg w a (ws X).length c (ws X) := by
  obtain ⟨a', c', e, A⟩ := h.arg hs
  cases e
  exact ⟨rfl, A⟩

end Go.Proofs.YtnnlicahgdcbdaaDoor

