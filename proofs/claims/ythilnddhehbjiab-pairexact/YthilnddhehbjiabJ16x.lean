/- What each call of the package and of the document answers, as a plain function of the numbers' bits. -/
import Derived.Test.YthilnddhehbjiabD39x
import Derived.Test.YthilnddhehbjiabJ4x
import Derived.Test.YthilnddhehbjiabJ6x
namespace Go.Proofs.Ythilnddhehbjiab
open Go.RowKit J
set_option linter.unusedVariables false
set_option maxRecDepth 20000

abbrev Wd (x : Nat) : Prop := x < 18446744073709551616
theorem odd_wd : Wd oddW := by unfold Wd oddW; decide
theorem ar_wd (op : BinOp) (ho : op = .add ∨ op = .sub ∨ op = .mul) (x y : Nat) : Wd (arW op x y) := by
  unfold arW
  cases h : floatBits op .f64 x y with
  | none => exact odd_wd
  | some z => exact (bits_fin ho h).2
def plW (x y : Nat) : Nat := arW .add x y
def miW (x y : Nat) : Nat := arW .sub x y
def tiW (x y : Nat) : Nat := arW .mul x y
theorem pl_wd (x y : Nat) : Wd (plW x y) := ar_wd .add (.inl rfl) x y
theorem mi_wd (x y : Nat) : Wd (miW x y) := ar_wd .sub (.inr (.inl rfl)) x y
theorem ti_wd (x y : Nat) : Wd (tiW x y) := ar_wd .mul (.inr (.inr rfl)) x y
def quickP (a b : Nat) : Nat × Nat := (plW a b, miW b (miW (plW a b) a))
def sumP (a b : Nat) : Nat × Nat := (plW a b, plW (miW a (miW (plW a b) (miW (plW a b) a))) (miW b (miW (plW a b) a)))
def halfP (a : Nat) : Nat × Nat := (plW (tiW 4728779608772575232 a) (miW a (tiW 4728779608772575232 a)), miW a (plW (tiW 4728779608772575232 a) (miW a (tiW 4728779608772575232 a))))
def prodP (a b : Nat) : Nat × Nat := (tiW a b, plW (plW (plW (miW (tiW (halfP a).1 (halfP b).1) (tiW a b)) (tiW (halfP a).1 (halfP b).2)) (tiW (halfP a).2 (halfP b).1)) (tiW (halfP a).2 (halfP b).2))
def addY (a b c d : Nat) : Nat := plW (sumP b d).2 (quickP (sumP a c).1 (plW (sumP a c).2 (sumP b d).1)).2
def addP (a b c d : Nat) : Nat × Nat := quickP (quickP (sumP a c).1 (plW (sumP a c).2 (sumP b d).1)).1 (addY a b c d)
def mulP (a b c d : Nat) : Nat × Nat := quickP (prodP a c).1 (plW (prodP a c).2 (plW (tiW a d) (tiW b c)))

theorem Quick_all (a b : Nat) (w : World) : Calls Try.prog 18 #[.float .f64 a, .float .f64 b] w fun r w' => r = .returned (.agg #[.float .f64 (quickP a b).1, .float .f64 (quickP a b).2]) ∧ Below w.heap.size w w' :=
  Quick_core a b _ _ _ w (hid fun u => step_plus _ _ u) (hid fun u => step_minus _ _ u) (hid fun u => step_minus _ _ u)
theorem Sum_all (a b : Nat) (w : World) : Calls Try.prog 12 #[.float .f64 a, .float .f64 b] w fun r w' => r = .returned (.agg #[.float .f64 (sumP a b).1, .float .f64 (sumP a b).2]) ∧ Below w.heap.size w w' :=
  Sum_core a b _ _ _ _ _ _ w (hid fun u => step_plus _ _ u) (hid fun u => step_minus _ _ u) (hid fun u => step_minus _ _ u) (hid fun u => step_minus _ _ u) (hid fun u => step_minus _ _ u) (hid fun u => step_plus _ _ u)
theorem Halves_all (a : Nat) (w : World) : Calls Try.prog 13 #[.float .f64 a] w fun r w' => r = .returned (.agg #[.float .f64 (halfP a).1, .float .f64 (halfP a).2]) ∧ Below w.heap.size w w' :=
  Halves_core a _ _ _ _ w (hid fun u => step_times _ _ u) (hid fun u => step_minus _ _ u) (hid fun u => step_plus _ _ u) (hid fun u => step_minus _ _ u)
theorem Product_all (a b : Nat) (w : World) : Calls Try.prog 14 #[.float .f64 a, .float .f64 b] w fun r w' => r = .returned (.agg #[.float .f64 (prodP a b).1, .float .f64 (prodP a b).2]) ∧ Below w.heap.size w w' :=
  Product_core a b _ _ _ _ _ _ _ _ _ _ _ _ _ w (hid fun u => step_times _ _ u) (hid fun u => Halves_all a  u) (hid fun u => Halves_all b  u) (hid fun u => step_times _ _ u) (hid fun u => step_minus _ _ u) (hid fun u => step_times _ _ u) (hid fun u => step_plus _ _ u) (hid fun u => step_times _ _ u) (hid fun u => step_plus _ _ u) (hid fun u => step_times _ _ u) (hid fun u => step_plus _ _ u)
theorem Add_all (a b c d : Nat) (w : World) : Calls Try.prog 22 #[.agg #[.float .f64 a, .float .f64 b], .agg #[.float .f64 c, .float .f64 d]] w fun r w' => r = .returned (.agg #[.float .f64 (addP a b c d).1, .float .f64 (addP a b c d).2]) ∧ Below w.heap.size w w' :=
  Add_core a b c d _ _ _ _ _ _ _ _ _ _ w (hid fun u => Sum_all _ _  u) (hid fun u => Sum_all _ _  u) (hid fun u => step_plus _ _ u) (hid fun u => Quick_all _ _  u) (hid fun u => step_plus _ _ u) (hid fun u => Quick_all _ _  u)
theorem Mul_all (a b c d : Nat) (w : World) : Calls Try.prog 24 #[.agg #[.float .f64 a, .float .f64 b], .agg #[.float .f64 c, .float .f64 d]] w fun r w' => r = .returned (.agg #[.float .f64 (mulP a b c d).1, .float .f64 (mulP a b c d).2]) ∧ Below w.heap.size w w' :=
  Mul_core a b c d _ _ _ _ _ _ _ _ w (hid fun u => Product_all _ _  u) (hid fun u => step_times _ _ u) (hid fun u => step_times _ _ u) (hid fun u => step_plus _ _ u) (hid fun u => step_plus _ _ u) (hid fun u => Quick_all _ _  u)
theorem Value_all (a b : Nat) (w : World) : Calls Try.prog 27 #[.agg #[.float .f64 a, .float .f64 b]] w fun r w' => r = .returned (.float .f64 (plW a b)) ∧ Below w.heap.size w w' :=
  Value_core a b _ w (hid fun u => step_plus _ _ u)
theorem rQuick_all (a b : Nat) (ha : Wd a) (hb : Wd b) (w : World) : Calls Try.prog 19 #[.float .f64 a, .float .f64 b] w fun r w' => r = .returned (.agg #[.float .f64 (quickP a b).1, .float .f64 (quickP a b).2]) ∧ Below w.heap.size w w' :=
  rQuick_core a b _ _ _ w (hid fun u => sPlus_any _ _ ha hb u) (hid fun u => sMinus_any _ _ (pl_wd _ _) ha u) (hid fun u => sMinus_any _ _ hb (mi_wd _ _) u)
theorem rSum_all (a b : Nat) (ha : Wd a) (hb : Wd b) (w : World) : Calls Try.prog 17 #[.float .f64 a, .float .f64 b] w fun r w' => r = .returned (.agg #[.float .f64 (sumP a b).1, .float .f64 (sumP a b).2]) ∧ Below w.heap.size w w' :=
  rSum_core a b _ _ _ _ _ _ w (hid fun u => sPlus_any _ _ ha hb u) (hid fun u => sMinus_any _ _ (pl_wd _ _) ha u) (hid fun u => sMinus_any _ _ (pl_wd _ _) (mi_wd _ _) u) (hid fun u => sMinus_any _ _ ha (mi_wd _ _) u) (hid fun u => sMinus_any _ _ hb (mi_wd _ _) u) (hid fun u => sPlus_any _ _ (mi_wd _ _) (mi_wd _ _) u)
theorem rHalves_all (a : Nat) (ha : Wd a) (w : World) : Calls Try.prog 20 #[.float .f64 a] w fun r w' => r = .returned (.agg #[.float .f64 (halfP a).1, .float .f64 (halfP a).2]) ∧ Below w.heap.size w w' :=
  rHalves_core a _ _ _ _ w (hid fun u => sTimes_any _ _ (by decide) ha u) (hid fun u => sMinus_any _ _ ha (ti_wd _ _) u) (hid fun u => sPlus_any _ _ (ti_wd _ _) (mi_wd _ _) u) (hid fun u => sMinus_any _ _ ha (pl_wd _ _) u)
theorem rProduct_all (a b : Nat) (ha : Wd a) (hb : Wd b) (w : World) : Calls Try.prog 21 #[.float .f64 a, .float .f64 b] w fun r w' => r = .returned (.agg #[.float .f64 (prodP a b).1, .float .f64 (prodP a b).2]) ∧ Below w.heap.size w w' :=
  rProduct_core a b _ _ _ _ _ _ _ _ _ _ _ _ _ w (hid fun u => sTimes_any _ _ ha hb u) (hid fun u => rHalves_all a ha u) (hid fun u => rHalves_all b hb u) (hid fun u => sTimes_any _ _ (pl_wd _ _) (pl_wd _ _) u) (hid fun u => sMinus_any _ _ (ti_wd _ _) (ti_wd _ _) u) (hid fun u => sTimes_any _ _ (pl_wd _ _) (mi_wd _ _) u) (hid fun u => sPlus_any _ _ (mi_wd _ _) (ti_wd _ _) u) (hid fun u => sTimes_any _ _ (mi_wd _ _) (pl_wd _ _) u) (hid fun u => sPlus_any _ _ (pl_wd _ _) (ti_wd _ _) u) (hid fun u => sTimes_any _ _ (mi_wd _ _) (mi_wd _ _) u) (hid fun u => sPlus_any _ _ (pl_wd _ _) (ti_wd _ _) u)
theorem rAdd_all (a b c d : Nat) (ha : Wd a) (hb : Wd b) (hc : Wd c) (hd : Wd d) (w : World) : Calls Try.prog 23 #[.agg #[.float .f64 a, .float .f64 b], .agg #[.float .f64 c, .float .f64 d]] w fun r w' => r = .returned (.agg #[.float .f64 (addP a b c d).1, .float .f64 (addP a b c d).2]) ∧ Below w.heap.size w w' :=
  rAdd_core a b c d _ _ _ _ _ _ _ _ _ _ w (hid fun u => rSum_all _ _ ha hc u) (hid fun u => rSum_all _ _ hb hd u) (hid fun u => sPlus_any _ _ (pl_wd _ _) (pl_wd _ _) u) (hid fun u => rQuick_all _ _ (pl_wd _ _) (pl_wd _ _) u) (hid fun u => sPlus_any _ _ (pl_wd _ _) (mi_wd _ _) u) (hid fun u => rQuick_all _ _ (pl_wd _ _) (pl_wd _ _) u)
theorem rMul_all (a b c d : Nat) (ha : Wd a) (hb : Wd b) (hc : Wd c) (hd : Wd d) (w : World) : Calls Try.prog 25 #[.agg #[.float .f64 a, .float .f64 b], .agg #[.float .f64 c, .float .f64 d]] w fun r w' => r = .returned (.agg #[.float .f64 (mulP a b c d).1, .float .f64 (mulP a b c d).2]) ∧ Below w.heap.size w w' :=
  rMul_core a b c d _ _ _ _ _ _ _ _ w (hid fun u => rProduct_all _ _ ha hc u) (hid fun u => sTimes_any _ _ ha hd u) (hid fun u => sTimes_any _ _ hb hc u) (hid fun u => sPlus_any _ _ (ti_wd _ _) (ti_wd _ _) u) (hid fun u => sPlus_any _ _ (pl_wd _ _) (pl_wd _ _) u) (hid fun u => rQuick_all _ _ (ti_wd _ _) (pl_wd _ _) u)
theorem rValue_all (a b : Nat) (ha : Wd a) (hb : Wd b) (w : World) : Calls Try.prog 28 #[.agg #[.float .f64 a, .float .f64 b]] w fun r w' => r = .returned (.float .f64 (plW a b)) ∧ Below w.heap.size w w' :=
  rValue_core a b _ w (hid fun u => sPlus_any _ _ ha hb u)
end Go.Proofs.Ythilnddhehbjiab

/- The law's small functions: size, finite, within. -/
namespace Go.Proofs.Ythilnddhehbjiab
open Go.RowKit J
set_option linter.unusedVariables false
set_option maxRecDepth 20000
set_option linter.unusedSimpArgs false
attribute [local go_sem] st_float

theorem size_law (n : Bool) (a : Option Addr) (l c : Nat) (e : Int) (w : World) : Calls Try.prog 50 #[.agg #[.bool n, .slice a l c, .int .i64 e]] w fun r w' => r = .returned (.agg #[.bool false, .slice a l c, .int .i64 e]) ∧ Below w.heap.size w w' := by
  go_enter Try.func50, Try.ntmps50
  go_wp2
  exact bodyPost_ret (v := .agg #[.bool false, .slice a l c, .int .i64 e]) (by simp [results, Try.results50, go_sem]) rfl ⟨rfl, (by repeat (first | exact Below.refl _ _ | assumption | exact Nat.le_refl _ | (simp only [World.size_alloc, World.size_setCell]; omega) | omega | refine Below.alloc ?_ ?_ _ | refine Below.setCell ?_ ?_ _ | refine Below.drew ?_))⟩
set_option maxHeartbeats 4000000 in
theorem finite_core (x : Nat) (nX : Bool) (X : Nat) (eX er : Int) (w : World) (lX : (ws X).length ≤ 8192)
    (HX : Hid (∀ u, Calls Try.prog 46 #[.float .f64 x] u fun r w' => (∃ v, r = .returned (.tuple #[.agg #[.bool nX, v, .int .i64 eX], .int .i64 er]) ∧ Nt u.heap.size w' v X) ∧ Below u.heap.size u w')) :
    Calls Try.prog 29 #[.float .f64 x] w fun r w' => (∃ v, r = .returned (.tuple #[.agg #[.bool nX, v, .int .i64 eX], .bool (er == 0)]) ∧ Nt w.heap.size w' v X) ∧ Below w.heap.size w w' := by
  go_enter Try.func29, Try.ntmps29
  go_wp2_with fail
  refine (Calls.mono (HX.out _)) ?_
  rintro r w1 ⟨⟨v1, rfl, N1⟩, hb1⟩
  obtain ⟨aX, cX, rfl, AX⟩ := N1.arg (by omega)
  have NN := Aside.intro (show Nt (w.heap.size + 1) w1 (.slice aX (ws X).length cX) X from N1.mono (by simp))
  clear N1
  clear HX
  have hy1 : w.heap.size ≤ w1.heap.size := by
    have := hb1.size
    try simp only [World.size_alloc, World.size_setCell] at this
    omega
  have hz1_0 : w.heap.size < w1.heap.size := by
    have := hb1.size
    try simp only [World.size_alloc, World.size_setCell] at this
    omega
  have B1 := Aside.intro (Below.trans (B := w.heap.size) (a := w) (by repeat (first | exact Below.refl _ _ | assumption | exact Nat.le_refl _ | (simp only [World.size_alloc, World.size_setCell]; omega) | omega | refine Below.alloc ?_ ?_ _ | refine Below.setCell ?_ ?_ _ | refine Below.drew ?_)) (hb1.mono (by first | omega | (simp only [World.size_alloc, World.size_setCell]; omega))))
  have S1 := B1
  obtain ⟨hc1, hf1⟩ := bcell hb1
  clear hb1 B1
  have c1_0_0 : w1.cell? ⟨w.heap.size, 0, none⟩ = some (.bool false) := by
    rw [hc1 _ _ (by first | omega | (simp only [World.size_alloc, World.size_setCell]; omega))]
    first | assumption | (simp [go_sem]; done)
  have f1_0_0 : w1.frozen? ⟨w.heap.size, 0, none⟩ = false := by
    rw [hf1 _ _ (by first | omega | (simp only [World.size_alloc, World.size_setCell]; omega))]
    first | assumption | (simp [go_sem]; done)
  have c1_0_1 : w1.cell? ⟨w.heap.size, 1, none⟩ = some (.slice none 0 0) := by
    rw [hc1 _ _ (by first | omega | (simp only [World.size_alloc, World.size_setCell]; omega))]
    first | assumption | (simp [go_sem]; done)
  have f1_0_1 : w1.frozen? ⟨w.heap.size, 1, none⟩ = false := by
    rw [hf1 _ _ (by first | omega | (simp only [World.size_alloc, World.size_setCell]; omega))]
    first | assumption | (simp [go_sem]; done)
  have c1_0_2 : w1.cell? ⟨w.heap.size, 2, none⟩ = some (.int .i64 0) := by
    rw [hc1 _ _ (by first | omega | (simp only [World.size_alloc, World.size_setCell]; omega))]
    first | assumption | (simp [go_sem]; done)
  have f1_0_2 : w1.frozen? ⟨w.heap.size, 2, none⟩ = false := by
    rw [hf1 _ _ (by first | omega | (simp only [World.size_alloc, World.size_setCell]; omega))]
    first | assumption | (simp [go_sem]; done)
  clear hc1 hf1 
  have ne0 : w.heap.size ≠ w1.heap.size := by omega
  have ne1 : w1.heap.size ≠ w.heap.size := by omega
  go_wp2
  have SS := S1.out
  have HF : Fin w.heap.size (w.heap.size + 1) w w1 (.slice aX (ws X).length cX) X := ⟨NN.out, SS, by omega⟩
  exact bodyPost_ret (v := .tuple #[.agg #[.bool nX, .slice aX (ws X).length cX, .int .i64 eX], .bool (er == 0)]) (by simp [results, Try.results29, go_sem, c1_0_0, f1_0_0, c1_0_1, f1_0_1, c1_0_2, f1_0_2, hz1_0, ne0, ne1]) rfl (Fin.dans (m := w.heap.size + 1) (by repeat (first | exact HF | refine Fin.alloc ?_ _ | refine Fin.set ?_ _ _ _ (by omega) (by omega))) (by omega))
end Go.Proofs.Ythilnddhehbjiab

/- The law's within, worth, just. -/
namespace Go.Proofs.Ythilnddhehbjiab
open Go.RowKit J
set_option linter.unusedVariables false
set_option maxRecDepth 20000
set_option linter.unusedSimpArgs false
attribute [local go_sem] st_float

set_option maxHeartbeats 4000000 in
theorem within_core (nX : Bool) (aX : Option Addr) (XX cX : Nat) (eX m cv : Int) (w : World) (AX : Arg w aX (ws XX).length cX (ws XX)) (lX : (ws XX).length ≤ 8192)
    (HC : Hid (∀ u a b c d, Arg u a (ws XX).length c (ws XX) → Arg u b 1 d [1] → Calls Try.prog 49 #[.agg #[.bool false, .slice a (ws XX).length c, .int .i64 eX], .agg #[.bool false, .slice b 1 d, .int .i64 m]] u fun r w' => r = .returned (.int .i64 cv) ∧ Below u.heap.size u w')) :
    Calls Try.prog 47 #[.agg #[.bool nX, .slice aX (ws XX).length cX, .int .i64 eX], .int .i64 m] w fun r w' => r = .returned (.bool (decide (cv ≤ 0))) ∧ Below w.heap.size w w' := by
  go_enter Try.func47, Try.ntmps47
  go_wp2_with fail
  refine (Calls.mono (size_law _ _ _ _ _ _)) ?_
  rintro r w1 ⟨rfl, hb1⟩
  have hy1 : w.heap.size ≤ w1.heap.size := by
    have := hb1.size
    try simp only [World.size_alloc, World.size_setCell] at this
    omega
  have hz1_0 : w.heap.size < w1.heap.size := by
    have := hb1.size
    try simp only [World.size_alloc, World.size_setCell] at this
    omega
  have B1 := Aside.intro (Below.trans (B := w.heap.size) (a := w) (by repeat (first | exact Below.refl _ _ | assumption | exact Nat.le_refl _ | (simp only [World.size_alloc, World.size_setCell]; omega) | omega | refine Below.alloc ?_ ?_ _ | refine Below.setCell ?_ ?_ _ | refine Below.drew ?_)) (hb1.mono (by first | omega | (simp only [World.size_alloc, World.size_setCell]; omega))))
  have S1 := B1
  replace AX := AX.below B1.out
  obtain ⟨hc1, hf1⟩ := bcell hb1
  clear hb1 B1
  have c1_0_0 : w1.cell? ⟨w.heap.size, 0, none⟩ = some (.bool nX) := by
    rw [hc1 _ _ (by first | omega | (simp only [World.size_alloc, World.size_setCell]; omega))]
    first | assumption | (simp [go_sem]; done)
  have f1_0_0 : w1.frozen? ⟨w.heap.size, 0, none⟩ = false := by
    rw [hf1 _ _ (by first | omega | (simp only [World.size_alloc, World.size_setCell]; omega))]
    first | assumption | (simp [go_sem]; done)
  have c1_0_1 : w1.cell? ⟨w.heap.size, 1, none⟩ = some (.slice aX (ws XX).length cX) := by
    rw [hc1 _ _ (by first | omega | (simp only [World.size_alloc, World.size_setCell]; omega))]
    first | assumption | (simp [go_sem]; done)
  have f1_0_1 : w1.frozen? ⟨w.heap.size, 1, none⟩ = false := by
    rw [hf1 _ _ (by first | omega | (simp only [World.size_alloc, World.size_setCell]; omega))]
    first | assumption | (simp [go_sem]; done)
  have c1_0_2 : w1.cell? ⟨w.heap.size, 2, none⟩ = some (.int .i64 eX) := by
    rw [hc1 _ _ (by first | omega | (simp only [World.size_alloc, World.size_setCell]; omega))]
    first | assumption | (simp [go_sem]; done)
  have f1_0_2 : w1.frozen? ⟨w.heap.size, 2, none⟩ = false := by
    rw [hf1 _ _ (by first | omega | (simp only [World.size_alloc, World.size_setCell]; omega))]
    first | assumption | (simp [go_sem]; done)
  clear hc1 hf1 
  go_wp2_with fail
  refine (Calls.mono (HC.out _ _ _ _ _ (AX.below (by repeat (first | exact Below.refl _ _ | assumption | exact Nat.le_refl _ | (simp only [World.size_alloc, World.size_setCell]; omega) | omega | refine Below.alloc ?_ ?_ _ | refine Below.setCell ?_ ?_ _ | refine Below.drew ?_))) (lit_arg w1 1 (by omega)))) ?_
  rintro r w2 ⟨rfl, hb2⟩
  clear HC
  have hy2 : w1.heap.size ≤ w2.heap.size := by
    have := hb2.size
    try simp only [World.size_alloc, World.size_setCell] at this
    omega
  have hz2_0 : w.heap.size < w2.heap.size := by
    have := hb2.size
    try simp only [World.size_alloc, World.size_setCell] at this
    omega
  have B2 := Aside.intro (Below.trans (B := w1.heap.size) (a := w1) (by repeat (first | exact Below.refl _ _ | assumption | exact Nat.le_refl _ | (simp only [World.size_alloc, World.size_setCell]; omega) | omega | refine Below.alloc ?_ ?_ _ | refine Below.setCell ?_ ?_ _ | refine Below.drew ?_)) (hb2.mono (by first | omega | (simp only [World.size_alloc, World.size_setCell]; omega))))
  have S2 := Aside.intro (S1.out.trans (B2.out.mono S1.out.size))
  clear S1
  replace AX := AX.below B2.out
  obtain ⟨hc2, hf2⟩ := bcell hb2
  clear hb2 B2
  have c2_0_0 : w2.cell? ⟨w.heap.size, 0, none⟩ = some (.bool nX) := by
    rw [hc2 _ _ (by first | omega | (simp only [World.size_alloc, World.size_setCell]; omega))]
    first | assumption | (simp [go_sem, c1_0_0, f1_0_0, c1_0_1, f1_0_1, c1_0_2, f1_0_2, hz1_0]; done)
  have f2_0_0 : w2.frozen? ⟨w.heap.size, 0, none⟩ = false := by
    rw [hf2 _ _ (by first | omega | (simp only [World.size_alloc, World.size_setCell]; omega))]
    first | assumption | (simp [go_sem, c1_0_0, f1_0_0, c1_0_1, f1_0_1, c1_0_2, f1_0_2, hz1_0]; done)
  have c2_0_1 : w2.cell? ⟨w.heap.size, 1, none⟩ = some (.slice aX (ws XX).length cX) := by
    rw [hc2 _ _ (by first | omega | (simp only [World.size_alloc, World.size_setCell]; omega))]
    first | assumption | (simp [go_sem, c1_0_0, f1_0_0, c1_0_1, f1_0_1, c1_0_2, f1_0_2, hz1_0]; done)
  have f2_0_1 : w2.frozen? ⟨w.heap.size, 1, none⟩ = false := by
    rw [hf2 _ _ (by first | omega | (simp only [World.size_alloc, World.size_setCell]; omega))]
    first | assumption | (simp [go_sem, c1_0_0, f1_0_0, c1_0_1, f1_0_1, c1_0_2, f1_0_2, hz1_0]; done)
  have c2_0_2 : w2.cell? ⟨w.heap.size, 2, none⟩ = some (.int .i64 eX) := by
    rw [hc2 _ _ (by first | omega | (simp only [World.size_alloc, World.size_setCell]; omega))]
    first | assumption | (simp [go_sem, c1_0_0, f1_0_0, c1_0_1, f1_0_1, c1_0_2, f1_0_2, hz1_0]; done)
  have f2_0_2 : w2.frozen? ⟨w.heap.size, 2, none⟩ = false := by
    rw [hf2 _ _ (by first | omega | (simp only [World.size_alloc, World.size_setCell]; omega))]
    first | assumption | (simp [go_sem, c1_0_0, f1_0_0, c1_0_1, f1_0_1, c1_0_2, f1_0_2, hz1_0]; done)
  clear hc2 hf2 c1_0_0 f1_0_0 c1_0_1 f1_0_1 c1_0_2 f1_0_2
  go_wp2
  have SS := S2.out
  exact bodyPost_ret (v := .bool (decide (cv ≤ 0))) (by simp [results, Try.results47, go_sem, c2_0_0, f2_0_0, c2_0_1, f2_0_1, c2_0_2, f2_0_2, hz2_0]) rfl ⟨rfl, (by repeat (first | exact Below.refl _ _ | assumption | exact Nat.le_refl _ | (simp only [World.size_alloc, World.size_setCell]; omega) | omega | refine Below.alloc ?_ ?_ _ | refine Below.setCell ?_ ?_ _ | refine Below.drew ?_))⟩
set_option maxHeartbeats 4000000 in
theorem worth_core (ph pl : Nat) (nP nQ nS : Bool) (XP XQ XS : Nat) (eP eQ eS : Int) (w : World) (lP : (ws XP).length ≤ 8192) (lQ : (ws XQ).length ≤ 8192) (lS : (ws XS).length ≤ 8192)
    (HP : Hid (∀ u, Calls Try.prog 29 #[.float .f64 ph] u fun r w' => (∃ v, r = .returned (.tuple #[.agg #[.bool nP, v, .int .i64 eP], .bool true]) ∧ Nt u.heap.size w' v XP) ∧ Below u.heap.size u w'))
    (HQ : Hid (∀ u, Calls Try.prog 29 #[.float .f64 pl] u fun r w' => (∃ v, r = .returned (.tuple #[.agg #[.bool nQ, v, .int .i64 eQ], .bool true]) ∧ Nt u.heap.size w' v XQ) ∧ Below u.heap.size u w'))
    (HA : Hid (∀ u a b c d, Arg u a (ws XP).length c (ws XP) → Arg u b (ws XQ).length d (ws XQ) → Calls Try.prog 35 #[.agg #[.bool nP, .slice a (ws XP).length c, .int .i64 eP], .agg #[.bool nQ, .slice b (ws XQ).length d, .int .i64 eQ]] u fun r w' => (∃ v, r = .returned (.tuple #[.agg #[.bool nS, v, .int .i64 eS], .int .i64 0]) ∧ Nt u.heap.size w' v XS) ∧ Below u.heap.size u w')) :
    Calls Try.prog 34 #[.agg #[.float .f64 ph, .float .f64 pl]] w fun r w' => (∃ v, r = .returned (.tuple #[.agg #[.bool nS, v, .int .i64 eS], .bool true]) ∧ Nt w.heap.size w' v XS) ∧ Below w.heap.size w w' := by
  go_enter Try.func34, Try.ntmps34
  go_wp2_with fail
  refine (Calls.mono (HP.out _)) ?_
  rintro r w1 ⟨⟨v1, rfl, N1⟩, hb1⟩
  obtain ⟨aP, cP, rfl, AP⟩ := N1.arg (by omega)
  clear N1
  clear HP
  have hy1 : w.heap.size ≤ w1.heap.size := by
    have := hb1.size
    try simp only [World.size_alloc, World.size_setCell] at this
    omega
  have hz1_0 : w.heap.size < w1.heap.size := by
    have := hb1.size
    try simp only [World.size_alloc, World.size_setCell] at this
    omega
  have hz1_1 : w.heap.size + 1 < w1.heap.size := by
    have := hb1.size
    try simp only [World.size_alloc, World.size_setCell] at this
    omega
  have B1 := Aside.intro (Below.trans (B := w.heap.size) (a := w) (by repeat (first | exact Below.refl _ _ | assumption | exact Nat.le_refl _ | (simp only [World.size_alloc, World.size_setCell]; omega) | omega | refine Below.alloc ?_ ?_ _ | refine Below.setCell ?_ ?_ _ | refine Below.drew ?_)) (hb1.mono (by first | omega | (simp only [World.size_alloc, World.size_setCell]; omega))))
  have S1 := B1
  obtain ⟨hc1, hf1⟩ := bcell hb1
  clear hb1 B1
  have c1_0_0 : w1.cell? ⟨w.heap.size, 0, none⟩ = some (.float .f64 ph) := by
    rw [hc1 _ _ (by first | omega | (simp only [World.size_alloc, World.size_setCell]; omega))]
    first | assumption | (simp [go_sem]; done)
  have f1_0_0 : w1.frozen? ⟨w.heap.size, 0, none⟩ = false := by
    rw [hf1 _ _ (by first | omega | (simp only [World.size_alloc, World.size_setCell]; omega))]
    first | assumption | (simp [go_sem]; done)
  have c1_0_1 : w1.cell? ⟨w.heap.size, 1, none⟩ = some (.float .f64 pl) := by
    rw [hc1 _ _ (by first | omega | (simp only [World.size_alloc, World.size_setCell]; omega))]
    first | assumption | (simp [go_sem]; done)
  have f1_0_1 : w1.frozen? ⟨w.heap.size, 1, none⟩ = false := by
    rw [hf1 _ _ (by first | omega | (simp only [World.size_alloc, World.size_setCell]; omega))]
    first | assumption | (simp [go_sem]; done)
  have c1_1_0 : w1.cell? ⟨w.heap.size + 1, 0, none⟩ = some (.bool false) := by
    rw [hc1 _ _ (by first | omega | (simp only [World.size_alloc, World.size_setCell]; omega))]
    first | assumption | (simp [go_sem]; done)
  have f1_1_0 : w1.frozen? ⟨w.heap.size + 1, 0, none⟩ = false := by
    rw [hf1 _ _ (by first | omega | (simp only [World.size_alloc, World.size_setCell]; omega))]
    first | assumption | (simp [go_sem]; done)
  have c1_1_1 : w1.cell? ⟨w.heap.size + 1, 1, none⟩ = some (.slice none 0 0) := by
    rw [hc1 _ _ (by first | omega | (simp only [World.size_alloc, World.size_setCell]; omega))]
    first | assumption | (simp [go_sem]; done)
  have f1_1_1 : w1.frozen? ⟨w.heap.size + 1, 1, none⟩ = false := by
    rw [hf1 _ _ (by first | omega | (simp only [World.size_alloc, World.size_setCell]; omega))]
    first | assumption | (simp [go_sem]; done)
  have c1_1_2 : w1.cell? ⟨w.heap.size + 1, 2, none⟩ = some (.int .i64 0) := by
    rw [hc1 _ _ (by first | omega | (simp only [World.size_alloc, World.size_setCell]; omega))]
    first | assumption | (simp [go_sem]; done)
  have f1_1_2 : w1.frozen? ⟨w.heap.size + 1, 2, none⟩ = false := by
    rw [hf1 _ _ (by first | omega | (simp only [World.size_alloc, World.size_setCell]; omega))]
    first | assumption | (simp [go_sem]; done)
  clear hc1 hf1 
  have ne0 : w.heap.size ≠ w1.heap.size := by omega
  have ne1 : w.heap.size + 1 ≠ w1.heap.size := by omega
  have ne2 : w1.heap.size ≠ w.heap.size := by omega
  have ne3 : w1.heap.size ≠ w.heap.size + 1 := by omega
  go_wp2_with fail
  refine (Calls.mono (HQ.out _)) ?_
  rintro r w2 ⟨⟨v2, rfl, N2⟩, hb2⟩
  obtain ⟨aQ, cQ, rfl, AQ⟩ := N2.arg (by omega)
  clear N2
  clear HQ
  have hy2 : w1.heap.size ≤ w2.heap.size := by
    have := hb2.size
    try simp only [World.size_alloc, World.size_setCell] at this
    omega
  have hz2_0 : w.heap.size < w2.heap.size := by
    have := hb2.size
    try simp only [World.size_alloc, World.size_setCell] at this
    omega
  have hz2_1 : w.heap.size + 1 < w2.heap.size := by
    have := hb2.size
    try simp only [World.size_alloc, World.size_setCell] at this
    omega
  have hz2_2 : w1.heap.size < w2.heap.size := by
    have := hb2.size
    try simp only [World.size_alloc, World.size_setCell] at this
    omega
  have B2 := Aside.intro (Below.trans (B := w1.heap.size) (a := w1) (by repeat (first | exact Below.refl _ _ | assumption | exact Nat.le_refl _ | (simp only [World.size_alloc, World.size_setCell]; omega) | omega | refine Below.alloc ?_ ?_ _ | refine Below.setCell ?_ ?_ _ | refine Below.drew ?_)) (hb2.mono (by first | omega | (simp only [World.size_alloc, World.size_setCell]; omega))))
  have S2 := Aside.intro (S1.out.trans (B2.out.mono S1.out.size))
  clear S1
  replace AP := AP.below B2.out
  obtain ⟨hc2, hf2⟩ := bcell hb2
  clear hb2 B2
  have c2_0_0 : w2.cell? ⟨w.heap.size, 0, none⟩ = some (.float .f64 ph) := by
    rw [hc2 _ _ (by first | omega | (simp only [World.size_alloc, World.size_setCell]; omega))]
    first | assumption | (simp [go_sem, c1_0_0, f1_0_0, c1_0_1, f1_0_1, c1_1_0, f1_1_0, c1_1_1, f1_1_1, c1_1_2, f1_1_2, hz1_0, hz1_1, ne0, ne1, ne2, ne3]; done)
  have f2_0_0 : w2.frozen? ⟨w.heap.size, 0, none⟩ = false := by
    rw [hf2 _ _ (by first | omega | (simp only [World.size_alloc, World.size_setCell]; omega))]
    first | assumption | (simp [go_sem, c1_0_0, f1_0_0, c1_0_1, f1_0_1, c1_1_0, f1_1_0, c1_1_1, f1_1_1, c1_1_2, f1_1_2, hz1_0, hz1_1, ne0, ne1, ne2, ne3]; done)
  have c2_0_1 : w2.cell? ⟨w.heap.size, 1, none⟩ = some (.float .f64 pl) := by
    rw [hc2 _ _ (by first | omega | (simp only [World.size_alloc, World.size_setCell]; omega))]
    first | assumption | (simp [go_sem, c1_0_0, f1_0_0, c1_0_1, f1_0_1, c1_1_0, f1_1_0, c1_1_1, f1_1_1, c1_1_2, f1_1_2, hz1_0, hz1_1, ne0, ne1, ne2, ne3]; done)
  have f2_0_1 : w2.frozen? ⟨w.heap.size, 1, none⟩ = false := by
    rw [hf2 _ _ (by first | omega | (simp only [World.size_alloc, World.size_setCell]; omega))]
    first | assumption | (simp [go_sem, c1_0_0, f1_0_0, c1_0_1, f1_0_1, c1_1_0, f1_1_0, c1_1_1, f1_1_1, c1_1_2, f1_1_2, hz1_0, hz1_1, ne0, ne1, ne2, ne3]; done)
  have c2_1_0 : w2.cell? ⟨w.heap.size + 1, 0, none⟩ = some (.bool false) := by
    rw [hc2 _ _ (by first | omega | (simp only [World.size_alloc, World.size_setCell]; omega))]
    first | assumption | (simp [go_sem, c1_0_0, f1_0_0, c1_0_1, f1_0_1, c1_1_0, f1_1_0, c1_1_1, f1_1_1, c1_1_2, f1_1_2, hz1_0, hz1_1, ne0, ne1, ne2, ne3]; done)
  have f2_1_0 : w2.frozen? ⟨w.heap.size + 1, 0, none⟩ = false := by
    rw [hf2 _ _ (by first | omega | (simp only [World.size_alloc, World.size_setCell]; omega))]
    first | assumption | (simp [go_sem, c1_0_0, f1_0_0, c1_0_1, f1_0_1, c1_1_0, f1_1_0, c1_1_1, f1_1_1, c1_1_2, f1_1_2, hz1_0, hz1_1, ne0, ne1, ne2, ne3]; done)
  have c2_1_1 : w2.cell? ⟨w.heap.size + 1, 1, none⟩ = some (.slice none 0 0) := by
    rw [hc2 _ _ (by first | omega | (simp only [World.size_alloc, World.size_setCell]; omega))]
    first | assumption | (simp [go_sem, c1_0_0, f1_0_0, c1_0_1, f1_0_1, c1_1_0, f1_1_0, c1_1_1, f1_1_1, c1_1_2, f1_1_2, hz1_0, hz1_1, ne0, ne1, ne2, ne3]; done)
  have f2_1_1 : w2.frozen? ⟨w.heap.size + 1, 1, none⟩ = false := by
    rw [hf2 _ _ (by first | omega | (simp only [World.size_alloc, World.size_setCell]; omega))]
    first | assumption | (simp [go_sem, c1_0_0, f1_0_0, c1_0_1, f1_0_1, c1_1_0, f1_1_0, c1_1_1, f1_1_1, c1_1_2, f1_1_2, hz1_0, hz1_1, ne0, ne1, ne2, ne3]; done)
  have c2_1_2 : w2.cell? ⟨w.heap.size + 1, 2, none⟩ = some (.int .i64 0) := by
    rw [hc2 _ _ (by first | omega | (simp only [World.size_alloc, World.size_setCell]; omega))]
    first | assumption | (simp [go_sem, c1_0_0, f1_0_0, c1_0_1, f1_0_1, c1_1_0, f1_1_0, c1_1_1, f1_1_1, c1_1_2, f1_1_2, hz1_0, hz1_1, ne0, ne1, ne2, ne3]; done)
  have f2_1_2 : w2.frozen? ⟨w.heap.size + 1, 2, none⟩ = false := by
    rw [hf2 _ _ (by first | omega | (simp only [World.size_alloc, World.size_setCell]; omega))]
    first | assumption | (simp [go_sem, c1_0_0, f1_0_0, c1_0_1, f1_0_1, c1_1_0, f1_1_0, c1_1_1, f1_1_1, c1_1_2, f1_1_2, hz1_0, hz1_1, ne0, ne1, ne2, ne3]; done)
  have c2_2_0 : w2.cell? ⟨w1.heap.size, 0, none⟩ = some (.bool nP) := by
    rw [hc2 _ _ (by first | omega | (simp only [World.size_alloc, World.size_setCell]; omega))]
    first | assumption | (simp [go_sem, c1_0_0, f1_0_0, c1_0_1, f1_0_1, c1_1_0, f1_1_0, c1_1_1, f1_1_1, c1_1_2, f1_1_2, hz1_0, hz1_1, ne0, ne1, ne2, ne3]; done)
  have f2_2_0 : w2.frozen? ⟨w1.heap.size, 0, none⟩ = false := by
    rw [hf2 _ _ (by first | omega | (simp only [World.size_alloc, World.size_setCell]; omega))]
    first | assumption | (simp [go_sem, c1_0_0, f1_0_0, c1_0_1, f1_0_1, c1_1_0, f1_1_0, c1_1_1, f1_1_1, c1_1_2, f1_1_2, hz1_0, hz1_1, ne0, ne1, ne2, ne3]; done)
  have c2_2_1 : w2.cell? ⟨w1.heap.size, 1, none⟩ = some (.slice aP (ws XP).length cP) := by
    rw [hc2 _ _ (by first | omega | (simp only [World.size_alloc, World.size_setCell]; omega))]
    first | assumption | (simp [go_sem, c1_0_0, f1_0_0, c1_0_1, f1_0_1, c1_1_0, f1_1_0, c1_1_1, f1_1_1, c1_1_2, f1_1_2, hz1_0, hz1_1, ne0, ne1, ne2, ne3]; done)
  have f2_2_1 : w2.frozen? ⟨w1.heap.size, 1, none⟩ = false := by
    rw [hf2 _ _ (by first | omega | (simp only [World.size_alloc, World.size_setCell]; omega))]
    first | assumption | (simp [go_sem, c1_0_0, f1_0_0, c1_0_1, f1_0_1, c1_1_0, f1_1_0, c1_1_1, f1_1_1, c1_1_2, f1_1_2, hz1_0, hz1_1, ne0, ne1, ne2, ne3]; done)
  have c2_2_2 : w2.cell? ⟨w1.heap.size, 2, none⟩ = some (.int .i64 eP) := by
    rw [hc2 _ _ (by first | omega | (simp only [World.size_alloc, World.size_setCell]; omega))]
    first | assumption | (simp [go_sem, c1_0_0, f1_0_0, c1_0_1, f1_0_1, c1_1_0, f1_1_0, c1_1_1, f1_1_1, c1_1_2, f1_1_2, hz1_0, hz1_1, ne0, ne1, ne2, ne3]; done)
  have f2_2_2 : w2.frozen? ⟨w1.heap.size, 2, none⟩ = false := by
    rw [hf2 _ _ (by first | omega | (simp only [World.size_alloc, World.size_setCell]; omega))]
    first | assumption | (simp [go_sem, c1_0_0, f1_0_0, c1_0_1, f1_0_1, c1_1_0, f1_1_0, c1_1_1, f1_1_1, c1_1_2, f1_1_2, hz1_0, hz1_1, ne0, ne1, ne2, ne3]; done)
  clear hc2 hf2 c1_0_0 f1_0_0 c1_0_1 f1_0_1 c1_1_0 f1_1_0 c1_1_1 f1_1_1 c1_1_2 f1_1_2
  have ne4 : w.heap.size ≠ w2.heap.size := by omega
  have ne5 : w.heap.size + 1 ≠ w2.heap.size := by omega
  have ne6 : w1.heap.size ≠ w2.heap.size := by omega
  go_wp2_with fail
  refine (Calls.mono (HA.out _ _ _ _ _ (AP.below (by repeat (first | exact Below.refl _ _ | assumption | exact Nat.le_refl _ | (simp only [World.size_alloc, World.size_setCell]; omega) | omega | refine Below.alloc ?_ ?_ _ | refine Below.setCell ?_ ?_ _ | refine Below.drew ?_))) (AQ.below (by repeat (first | exact Below.refl _ _ | assumption | exact Nat.le_refl _ | (simp only [World.size_alloc, World.size_setCell]; omega) | omega | refine Below.alloc ?_ ?_ _ | refine Below.setCell ?_ ?_ _ | refine Below.drew ?_))))) ?_
  rintro r w3 ⟨⟨v3, rfl, N3⟩, hb3⟩
  obtain ⟨aS, cS, rfl, AS⟩ := N3.arg (by omega)
  have NN := Aside.intro (show Nt (w.heap.size + 2) w3 (.slice aS (ws XS).length cS) XS from N3.mono (by simp only [World.size_alloc, World.size_setCell]; omega))
  clear N3
  clear HA
  have hy3 : w2.heap.size ≤ w3.heap.size := by
    have := hb3.size
    try simp only [World.size_alloc, World.size_setCell] at this
    omega
  have hz3_0 : w.heap.size < w3.heap.size := by
    have := hb3.size
    try simp only [World.size_alloc, World.size_setCell] at this
    omega
  have hz3_1 : w.heap.size + 1 < w3.heap.size := by
    have := hb3.size
    try simp only [World.size_alloc, World.size_setCell] at this
    omega
  have hz3_2 : w1.heap.size < w3.heap.size := by
    have := hb3.size
    try simp only [World.size_alloc, World.size_setCell] at this
    omega
  have hz3_3 : w2.heap.size < w3.heap.size := by
    have := hb3.size
    try simp only [World.size_alloc, World.size_setCell] at this
    omega
  have B3 := Aside.intro (Below.trans (B := w2.heap.size) (a := w2) (by repeat (first | exact Below.refl _ _ | assumption | exact Nat.le_refl _ | (simp only [World.size_alloc, World.size_setCell]; omega) | omega | refine Below.alloc ?_ ?_ _ | refine Below.setCell ?_ ?_ _ | refine Below.drew ?_)) (hb3.mono (by first | omega | (simp only [World.size_alloc, World.size_setCell]; omega))))
  have S3 := Aside.intro (S2.out.trans (B3.out.mono S2.out.size))
  clear S2
  replace AP := AP.below B3.out
  replace AQ := AQ.below B3.out
  obtain ⟨hc3, hf3⟩ := bcell hb3
  clear hb3 B3
  have c3_0_0 : w3.cell? ⟨w.heap.size, 0, none⟩ = some (.float .f64 ph) := by
    rw [hc3 _ _ (by first | omega | (simp only [World.size_alloc, World.size_setCell]; omega))]
    first | assumption | (simp [go_sem, c2_0_0, f2_0_0, c2_0_1, f2_0_1, c2_1_0, f2_1_0, c2_1_1, f2_1_1, c2_1_2, f2_1_2, c2_2_0, f2_2_0, c2_2_1, f2_2_1, c2_2_2, f2_2_2, hz2_0, hz2_1, hz2_2, ne0, ne1, ne2, ne3, ne4, ne5, ne6]; done)
  have f3_0_0 : w3.frozen? ⟨w.heap.size, 0, none⟩ = false := by
    rw [hf3 _ _ (by first | omega | (simp only [World.size_alloc, World.size_setCell]; omega))]
    first | assumption | (simp [go_sem, c2_0_0, f2_0_0, c2_0_1, f2_0_1, c2_1_0, f2_1_0, c2_1_1, f2_1_1, c2_1_2, f2_1_2, c2_2_0, f2_2_0, c2_2_1, f2_2_1, c2_2_2, f2_2_2, hz2_0, hz2_1, hz2_2, ne0, ne1, ne2, ne3, ne4, ne5, ne6]; done)
  have c3_0_1 : w3.cell? ⟨w.heap.size, 1, none⟩ = some (.float .f64 pl) := by
    rw [hc3 _ _ (by first | omega | (simp only [World.size_alloc, World.size_setCell]; omega))]
    first | assumption | (simp [go_sem, c2_0_0, f2_0_0, c2_0_1, f2_0_1, c2_1_0, f2_1_0, c2_1_1, f2_1_1, c2_1_2, f2_1_2, c2_2_0, f2_2_0, c2_2_1, f2_2_1, c2_2_2, f2_2_2, hz2_0, hz2_1, hz2_2, ne0, ne1, ne2, ne3, ne4, ne5, ne6]; done)
  have f3_0_1 : w3.frozen? ⟨w.heap.size, 1, none⟩ = false := by
    rw [hf3 _ _ (by first | omega | (simp only [World.size_alloc, World.size_setCell]; omega))]
    first | assumption | (simp [go_sem, c2_0_0, f2_0_0, c2_0_1, f2_0_1, c2_1_0, f2_1_0, c2_1_1, f2_1_1, c2_1_2, f2_1_2, c2_2_0, f2_2_0, c2_2_1, f2_2_1, c2_2_2, f2_2_2, hz2_0, hz2_1, hz2_2, ne0, ne1, ne2, ne3, ne4, ne5, ne6]; done)
  have c3_1_0 : w3.cell? ⟨w.heap.size + 1, 0, none⟩ = some (.bool false) := by
    rw [hc3 _ _ (by first | omega | (simp only [World.size_alloc, World.size_setCell]; omega))]
    first | assumption | (simp [go_sem, c2_0_0, f2_0_0, c2_0_1, f2_0_1, c2_1_0, f2_1_0, c2_1_1, f2_1_1, c2_1_2, f2_1_2, c2_2_0, f2_2_0, c2_2_1, f2_2_1, c2_2_2, f2_2_2, hz2_0, hz2_1, hz2_2, ne0, ne1, ne2, ne3, ne4, ne5, ne6]; done)
  have f3_1_0 : w3.frozen? ⟨w.heap.size + 1, 0, none⟩ = false := by
    rw [hf3 _ _ (by first | omega | (simp only [World.size_alloc, World.size_setCell]; omega))]
    first | assumption | (simp [go_sem, c2_0_0, f2_0_0, c2_0_1, f2_0_1, c2_1_0, f2_1_0, c2_1_1, f2_1_1, c2_1_2, f2_1_2, c2_2_0, f2_2_0, c2_2_1, f2_2_1, c2_2_2, f2_2_2, hz2_0, hz2_1, hz2_2, ne0, ne1, ne2, ne3, ne4, ne5, ne6]; done)
  have c3_1_1 : w3.cell? ⟨w.heap.size + 1, 1, none⟩ = some (.slice none 0 0) := by
    rw [hc3 _ _ (by first | omega | (simp only [World.size_alloc, World.size_setCell]; omega))]
    first | assumption | (simp [go_sem, c2_0_0, f2_0_0, c2_0_1, f2_0_1, c2_1_0, f2_1_0, c2_1_1, f2_1_1, c2_1_2, f2_1_2, c2_2_0, f2_2_0, c2_2_1, f2_2_1, c2_2_2, f2_2_2, hz2_0, hz2_1, hz2_2, ne0, ne1, ne2, ne3, ne4, ne5, ne6]; done)
  have f3_1_1 : w3.frozen? ⟨w.heap.size + 1, 1, none⟩ = false := by
    rw [hf3 _ _ (by first | omega | (simp only [World.size_alloc, World.size_setCell]; omega))]
    first | assumption | (simp [go_sem, c2_0_0, f2_0_0, c2_0_1, f2_0_1, c2_1_0, f2_1_0, c2_1_1, f2_1_1, c2_1_2, f2_1_2, c2_2_0, f2_2_0, c2_2_1, f2_2_1, c2_2_2, f2_2_2, hz2_0, hz2_1, hz2_2, ne0, ne1, ne2, ne3, ne4, ne5, ne6]; done)
  have c3_1_2 : w3.cell? ⟨w.heap.size + 1, 2, none⟩ = some (.int .i64 0) := by
    rw [hc3 _ _ (by first | omega | (simp only [World.size_alloc, World.size_setCell]; omega))]
    first | assumption | (simp [go_sem, c2_0_0, f2_0_0, c2_0_1, f2_0_1, c2_1_0, f2_1_0, c2_1_1, f2_1_1, c2_1_2, f2_1_2, c2_2_0, f2_2_0, c2_2_1, f2_2_1, c2_2_2, f2_2_2, hz2_0, hz2_1, hz2_2, ne0, ne1, ne2, ne3, ne4, ne5, ne6]; done)
  have f3_1_2 : w3.frozen? ⟨w.heap.size + 1, 2, none⟩ = false := by
    rw [hf3 _ _ (by first | omega | (simp only [World.size_alloc, World.size_setCell]; omega))]
    first | assumption | (simp [go_sem, c2_0_0, f2_0_0, c2_0_1, f2_0_1, c2_1_0, f2_1_0, c2_1_1, f2_1_1, c2_1_2, f2_1_2, c2_2_0, f2_2_0, c2_2_1, f2_2_1, c2_2_2, f2_2_2, hz2_0, hz2_1, hz2_2, ne0, ne1, ne2, ne3, ne4, ne5, ne6]; done)
  have c3_2_0 : w3.cell? ⟨w1.heap.size, 0, none⟩ = some (.bool nP) := by
    rw [hc3 _ _ (by first | omega | (simp only [World.size_alloc, World.size_setCell]; omega))]
    first | assumption | (simp [go_sem, c2_0_0, f2_0_0, c2_0_1, f2_0_1, c2_1_0, f2_1_0, c2_1_1, f2_1_1, c2_1_2, f2_1_2, c2_2_0, f2_2_0, c2_2_1, f2_2_1, c2_2_2, f2_2_2, hz2_0, hz2_1, hz2_2, ne0, ne1, ne2, ne3, ne4, ne5, ne6]; done)
  have f3_2_0 : w3.frozen? ⟨w1.heap.size, 0, none⟩ = false := by
    rw [hf3 _ _ (by first | omega | (simp only [World.size_alloc, World.size_setCell]; omega))]
    first | assumption | (simp [go_sem, c2_0_0, f2_0_0, c2_0_1, f2_0_1, c2_1_0, f2_1_0, c2_1_1, f2_1_1, c2_1_2, f2_1_2, c2_2_0, f2_2_0, c2_2_1, f2_2_1, c2_2_2, f2_2_2, hz2_0, hz2_1, hz2_2, ne0, ne1, ne2, ne3, ne4, ne5, ne6]; done)
  have c3_2_1 : w3.cell? ⟨w1.heap.size, 1, none⟩ = some (.slice aP (ws XP).length cP) := by
    rw [hc3 _ _ (by first | omega | (simp only [World.size_alloc, World.size_setCell]; omega))]
    first | assumption | (simp [go_sem, c2_0_0, f2_0_0, c2_0_1, f2_0_1, c2_1_0, f2_1_0, c2_1_1, f2_1_1, c2_1_2, f2_1_2, c2_2_0, f2_2_0, c2_2_1, f2_2_1, c2_2_2, f2_2_2, hz2_0, hz2_1, hz2_2, ne0, ne1, ne2, ne3, ne4, ne5, ne6]; done)
  have f3_2_1 : w3.frozen? ⟨w1.heap.size, 1, none⟩ = false := by
    rw [hf3 _ _ (by first | omega | (simp only [World.size_alloc, World.size_setCell]; omega))]
    first | assumption | (simp [go_sem, c2_0_0, f2_0_0, c2_0_1, f2_0_1, c2_1_0, f2_1_0, c2_1_1, f2_1_1, c2_1_2, f2_1_2, c2_2_0, f2_2_0, c2_2_1, f2_2_1, c2_2_2, f2_2_2, hz2_0, hz2_1, hz2_2, ne0, ne1, ne2, ne3, ne4, ne5, ne6]; done)
  have c3_2_2 : w3.cell? ⟨w1.heap.size, 2, none⟩ = some (.int .i64 eP) := by
    rw [hc3 _ _ (by first | omega | (simp only [World.size_alloc, World.size_setCell]; omega))]
    first | assumption | (simp [go_sem, c2_0_0, f2_0_0, c2_0_1, f2_0_1, c2_1_0, f2_1_0, c2_1_1, f2_1_1, c2_1_2, f2_1_2, c2_2_0, f2_2_0, c2_2_1, f2_2_1, c2_2_2, f2_2_2, hz2_0, hz2_1, hz2_2, ne0, ne1, ne2, ne3, ne4, ne5, ne6]; done)
  have f3_2_2 : w3.frozen? ⟨w1.heap.size, 2, none⟩ = false := by
    rw [hf3 _ _ (by first | omega | (simp only [World.size_alloc, World.size_setCell]; omega))]
    first | assumption | (simp [go_sem, c2_0_0, f2_0_0, c2_0_1, f2_0_1, c2_1_0, f2_1_0, c2_1_1, f2_1_1, c2_1_2, f2_1_2, c2_2_0, f2_2_0, c2_2_1, f2_2_1, c2_2_2, f2_2_2, hz2_0, hz2_1, hz2_2, ne0, ne1, ne2, ne3, ne4, ne5, ne6]; done)
  have c3_3_0 : w3.cell? ⟨w2.heap.size, 0, none⟩ = some (.bool nQ) := by
    rw [hc3 _ _ (by first | omega | (simp only [World.size_alloc, World.size_setCell]; omega))]
    first | assumption | (simp [go_sem, c2_0_0, f2_0_0, c2_0_1, f2_0_1, c2_1_0, f2_1_0, c2_1_1, f2_1_1, c2_1_2, f2_1_2, c2_2_0, f2_2_0, c2_2_1, f2_2_1, c2_2_2, f2_2_2, hz2_0, hz2_1, hz2_2, ne0, ne1, ne2, ne3, ne4, ne5, ne6]; done)
  have f3_3_0 : w3.frozen? ⟨w2.heap.size, 0, none⟩ = false := by
    rw [hf3 _ _ (by first | omega | (simp only [World.size_alloc, World.size_setCell]; omega))]
    first | assumption | (simp [go_sem, c2_0_0, f2_0_0, c2_0_1, f2_0_1, c2_1_0, f2_1_0, c2_1_1, f2_1_1, c2_1_2, f2_1_2, c2_2_0, f2_2_0, c2_2_1, f2_2_1, c2_2_2, f2_2_2, hz2_0, hz2_1, hz2_2, ne0, ne1, ne2, ne3, ne4, ne5, ne6]; done)
  have c3_3_1 : w3.cell? ⟨w2.heap.size, 1, none⟩ = some (.slice aQ (ws XQ).length cQ) := by
    rw [hc3 _ _ (by first | omega | (simp only [World.size_alloc, World.size_setCell]; omega))]
    first | assumption | (simp [go_sem, c2_0_0, f2_0_0, c2_0_1, f2_0_1, c2_1_0, f2_1_0, c2_1_1, f2_1_1, c2_1_2, f2_1_2, c2_2_0, f2_2_0, c2_2_1, f2_2_1, c2_2_2, f2_2_2, hz2_0, hz2_1, hz2_2, ne0, ne1, ne2, ne3, ne4, ne5, ne6]; done)
  have f3_3_1 : w3.frozen? ⟨w2.heap.size, 1, none⟩ = false := by
    rw [hf3 _ _ (by first | omega | (simp only [World.size_alloc, World.size_setCell]; omega))]
    first | assumption | (simp [go_sem, c2_0_0, f2_0_0, c2_0_1, f2_0_1, c2_1_0, f2_1_0, c2_1_1, f2_1_1, c2_1_2, f2_1_2, c2_2_0, f2_2_0, c2_2_1, f2_2_1, c2_2_2, f2_2_2, hz2_0, hz2_1, hz2_2, ne0, ne1, ne2, ne3, ne4, ne5, ne6]; done)
  have c3_3_2 : w3.cell? ⟨w2.heap.size, 2, none⟩ = some (.int .i64 eQ) := by
    rw [hc3 _ _ (by first | omega | (simp only [World.size_alloc, World.size_setCell]; omega))]
    first | assumption | (simp [go_sem, c2_0_0, f2_0_0, c2_0_1, f2_0_1, c2_1_0, f2_1_0, c2_1_1, f2_1_1, c2_1_2, f2_1_2, c2_2_0, f2_2_0, c2_2_1, f2_2_1, c2_2_2, f2_2_2, hz2_0, hz2_1, hz2_2, ne0, ne1, ne2, ne3, ne4, ne5, ne6]; done)
  have f3_3_2 : w3.frozen? ⟨w2.heap.size, 2, none⟩ = false := by
    rw [hf3 _ _ (by first | omega | (simp only [World.size_alloc, World.size_setCell]; omega))]
    first | assumption | (simp [go_sem, c2_0_0, f2_0_0, c2_0_1, f2_0_1, c2_1_0, f2_1_0, c2_1_1, f2_1_1, c2_1_2, f2_1_2, c2_2_0, f2_2_0, c2_2_1, f2_2_1, c2_2_2, f2_2_2, hz2_0, hz2_1, hz2_2, ne0, ne1, ne2, ne3, ne4, ne5, ne6]; done)
  clear hc3 hf3 c2_0_0 f2_0_0 c2_0_1 f2_0_1 c2_1_0 f2_1_0 c2_1_1 f2_1_1 c2_1_2 f2_1_2 c2_2_0 f2_2_0 c2_2_1 f2_2_1 c2_2_2 f2_2_2
  have ne7 : w.heap.size ≠ w3.heap.size := by omega
  have ne8 : w.heap.size + 1 ≠ w3.heap.size := by omega
  have ne9 : w3.heap.size ≠ w.heap.size := by omega
  have ne10 : w3.heap.size ≠ w.heap.size + 1 := by omega
  go_wp2
  have SS := S3.out
  have HF : Fin w.heap.size (w.heap.size + 2) w w3 (.slice aS (ws XS).length cS) XS := ⟨NN.out, SS, by omega⟩
  exact bodyPost_ret (v := .tuple #[.agg #[.bool nS, .slice aS (ws XS).length cS, .int .i64 eS], .bool true]) (by simp [results, Try.results34, go_sem, c3_0_0, f3_0_0, c3_0_1, f3_0_1, c3_1_0, f3_1_0, c3_1_1, f3_1_1, c3_1_2, f3_1_2, c3_2_0, f3_2_0, c3_2_1, f3_2_1, c3_2_2, f3_2_2, c3_3_0, f3_3_0, c3_3_1, f3_3_1, c3_3_2, f3_3_2, hz3_0, hz3_1, hz3_2, hz3_3, ne0, ne1, ne2, ne3, ne4, ne5, ne6, ne7, ne8, ne9, ne10]) rfl (Fin.dans (m := w.heap.size + 2) (by repeat (first | exact HF | refine Fin.alloc ?_ _ | refine Fin.set ?_ _ _ _ (by omega) (by omega))) (by omega))
set_option maxHeartbeats 4000000 in
theorem just_core (ph pl : Nat) (nS nX : Bool) (aX : Option Addr) (XS XX cX : Nat) (eS eX : Int) (w : World) (AX : Arg w aX (ws XX).length cX (ws XX)) (lX : (ws XX).length ≤ 8192) (lS : (ws XS).length ≤ 8192)
    (HW : Hid (∀ u, Calls Try.prog 34 #[.agg #[.float .f64 ph, .float .f64 pl]] u fun r w' => (∃ v, r = .returned (.tuple #[.agg #[.bool nS, v, .int .i64 eS], .bool true]) ∧ Nt u.heap.size w' v XS) ∧ Below u.heap.size u w'))
    (HC : Hid (∀ u a b c d, Arg u a (ws XS).length c (ws XS) → Arg u b (ws XX).length d (ws XX) → Calls Try.prog 49 #[.agg #[.bool nS, .slice a (ws XS).length c, .int .i64 eS], .agg #[.bool nX, .slice b (ws XX).length d, .int .i64 eX]] u fun r w' => r = .returned (.int .i64 0) ∧ Below u.heap.size u w')) :
    Calls Try.prog 48 #[.agg #[.float .f64 ph, .float .f64 pl], .agg #[.bool nX, .slice aX (ws XX).length cX, .int .i64 eX]] w fun r w' => r = .returned (.bool true) ∧ Below w.heap.size w w' := by
  go_enter Try.func48, Try.ntmps48
  go_wp2_with fail
  refine (Calls.mono (HW.out _)) ?_
  rintro r w1 ⟨⟨v1, rfl, N1⟩, hb1⟩
  obtain ⟨aS, cS, rfl, AS⟩ := N1.arg (by omega)
  clear N1
  clear HW
  have hy1 : w.heap.size ≤ w1.heap.size := by
    have := hb1.size
    try simp only [World.size_alloc, World.size_setCell] at this
    omega
  have hz1_0 : w.heap.size < w1.heap.size := by
    have := hb1.size
    try simp only [World.size_alloc, World.size_setCell] at this
    omega
  have hz1_1 : w.heap.size + 1 < w1.heap.size := by
    have := hb1.size
    try simp only [World.size_alloc, World.size_setCell] at this
    omega
  have B1 := Aside.intro (Below.trans (B := w.heap.size) (a := w) (by repeat (first | exact Below.refl _ _ | assumption | exact Nat.le_refl _ | (simp only [World.size_alloc, World.size_setCell]; omega) | omega | refine Below.alloc ?_ ?_ _ | refine Below.setCell ?_ ?_ _ | refine Below.drew ?_)) (hb1.mono (by first | omega | (simp only [World.size_alloc, World.size_setCell]; omega))))
  have S1 := B1
  replace AX := AX.below B1.out
  obtain ⟨hc1, hf1⟩ := bcell hb1
  clear hb1 B1
  have c1_0_0 : w1.cell? ⟨w.heap.size, 0, none⟩ = some (.float .f64 ph) := by
    rw [hc1 _ _ (by first | omega | (simp only [World.size_alloc, World.size_setCell]; omega))]
    first | assumption | (simp [go_sem]; done)
  have f1_0_0 : w1.frozen? ⟨w.heap.size, 0, none⟩ = false := by
    rw [hf1 _ _ (by first | omega | (simp only [World.size_alloc, World.size_setCell]; omega))]
    first | assumption | (simp [go_sem]; done)
  have c1_0_1 : w1.cell? ⟨w.heap.size, 1, none⟩ = some (.float .f64 pl) := by
    rw [hc1 _ _ (by first | omega | (simp only [World.size_alloc, World.size_setCell]; omega))]
    first | assumption | (simp [go_sem]; done)
  have f1_0_1 : w1.frozen? ⟨w.heap.size, 1, none⟩ = false := by
    rw [hf1 _ _ (by first | omega | (simp only [World.size_alloc, World.size_setCell]; omega))]
    first | assumption | (simp [go_sem]; done)
  have c1_1_0 : w1.cell? ⟨w.heap.size + 1, 0, none⟩ = some (.bool nX) := by
    rw [hc1 _ _ (by first | omega | (simp only [World.size_alloc, World.size_setCell]; omega))]
    first | assumption | (simp [go_sem]; done)
  have f1_1_0 : w1.frozen? ⟨w.heap.size + 1, 0, none⟩ = false := by
    rw [hf1 _ _ (by first | omega | (simp only [World.size_alloc, World.size_setCell]; omega))]
    first | assumption | (simp [go_sem]; done)
  have c1_1_1 : w1.cell? ⟨w.heap.size + 1, 1, none⟩ = some (.slice aX (ws XX).length cX) := by
    rw [hc1 _ _ (by first | omega | (simp only [World.size_alloc, World.size_setCell]; omega))]
    first | assumption | (simp [go_sem]; done)
  have f1_1_1 : w1.frozen? ⟨w.heap.size + 1, 1, none⟩ = false := by
    rw [hf1 _ _ (by first | omega | (simp only [World.size_alloc, World.size_setCell]; omega))]
    first | assumption | (simp [go_sem]; done)
  have c1_1_2 : w1.cell? ⟨w.heap.size + 1, 2, none⟩ = some (.int .i64 eX) := by
    rw [hc1 _ _ (by first | omega | (simp only [World.size_alloc, World.size_setCell]; omega))]
    first | assumption | (simp [go_sem]; done)
  have f1_1_2 : w1.frozen? ⟨w.heap.size + 1, 2, none⟩ = false := by
    rw [hf1 _ _ (by first | omega | (simp only [World.size_alloc, World.size_setCell]; omega))]
    first | assumption | (simp [go_sem]; done)
  clear hc1 hf1 
  have ne0 : w.heap.size ≠ w1.heap.size := by omega
  have ne1 : w.heap.size + 1 ≠ w1.heap.size := by omega
  go_wp2_with fail
  refine (Calls.mono (HC.out _ _ _ _ _ (AS.below (by repeat (first | exact Below.refl _ _ | assumption | exact Nat.le_refl _ | (simp only [World.size_alloc, World.size_setCell]; omega) | omega | refine Below.alloc ?_ ?_ _ | refine Below.setCell ?_ ?_ _ | refine Below.drew ?_))) (AX.below (by repeat (first | exact Below.refl _ _ | assumption | exact Nat.le_refl _ | (simp only [World.size_alloc, World.size_setCell]; omega) | omega | refine Below.alloc ?_ ?_ _ | refine Below.setCell ?_ ?_ _ | refine Below.drew ?_))))) ?_
  rintro r w2 ⟨rfl, hb2⟩
  clear HC
  have hy2 : w1.heap.size ≤ w2.heap.size := by
    have := hb2.size
    try simp only [World.size_alloc, World.size_setCell] at this
    omega
  have hz2_0 : w.heap.size < w2.heap.size := by
    have := hb2.size
    try simp only [World.size_alloc, World.size_setCell] at this
    omega
  have hz2_1 : w.heap.size + 1 < w2.heap.size := by
    have := hb2.size
    try simp only [World.size_alloc, World.size_setCell] at this
    omega
  have B2 := Aside.intro (Below.trans (B := w1.heap.size) (a := w1) (by repeat (first | exact Below.refl _ _ | assumption | exact Nat.le_refl _ | (simp only [World.size_alloc, World.size_setCell]; omega) | omega | refine Below.alloc ?_ ?_ _ | refine Below.setCell ?_ ?_ _ | refine Below.drew ?_)) (hb2.mono (by first | omega | (simp only [World.size_alloc, World.size_setCell]; omega))))
  have S2 := Aside.intro (S1.out.trans (B2.out.mono S1.out.size))
  clear S1
  replace AX := AX.below B2.out
  replace AS := AS.below B2.out
  obtain ⟨hc2, hf2⟩ := bcell hb2
  clear hb2 B2
  have c2_0_0 : w2.cell? ⟨w.heap.size, 0, none⟩ = some (.float .f64 ph) := by
    rw [hc2 _ _ (by first | omega | (simp only [World.size_alloc, World.size_setCell]; omega))]
    first | assumption | (simp [go_sem, c1_0_0, f1_0_0, c1_0_1, f1_0_1, c1_1_0, f1_1_0, c1_1_1, f1_1_1, c1_1_2, f1_1_2, hz1_0, hz1_1, ne0, ne1]; done)
  have f2_0_0 : w2.frozen? ⟨w.heap.size, 0, none⟩ = false := by
    rw [hf2 _ _ (by first | omega | (simp only [World.size_alloc, World.size_setCell]; omega))]
    first | assumption | (simp [go_sem, c1_0_0, f1_0_0, c1_0_1, f1_0_1, c1_1_0, f1_1_0, c1_1_1, f1_1_1, c1_1_2, f1_1_2, hz1_0, hz1_1, ne0, ne1]; done)
  have c2_0_1 : w2.cell? ⟨w.heap.size, 1, none⟩ = some (.float .f64 pl) := by
    rw [hc2 _ _ (by first | omega | (simp only [World.size_alloc, World.size_setCell]; omega))]
    first | assumption | (simp [go_sem, c1_0_0, f1_0_0, c1_0_1, f1_0_1, c1_1_0, f1_1_0, c1_1_1, f1_1_1, c1_1_2, f1_1_2, hz1_0, hz1_1, ne0, ne1]; done)
  have f2_0_1 : w2.frozen? ⟨w.heap.size, 1, none⟩ = false := by
    rw [hf2 _ _ (by first | omega | (simp only [World.size_alloc, World.size_setCell]; omega))]
    first | assumption | (simp [go_sem, c1_0_0, f1_0_0, c1_0_1, f1_0_1, c1_1_0, f1_1_0, c1_1_1, f1_1_1, c1_1_2, f1_1_2, hz1_0, hz1_1, ne0, ne1]; done)
  have c2_1_0 : w2.cell? ⟨w.heap.size + 1, 0, none⟩ = some (.bool nX) := by
    rw [hc2 _ _ (by first | omega | (simp only [World.size_alloc, World.size_setCell]; omega))]
    first | assumption | (simp [go_sem, c1_0_0, f1_0_0, c1_0_1, f1_0_1, c1_1_0, f1_1_0, c1_1_1, f1_1_1, c1_1_2, f1_1_2, hz1_0, hz1_1, ne0, ne1]; done)
  have f2_1_0 : w2.frozen? ⟨w.heap.size + 1, 0, none⟩ = false := by
    rw [hf2 _ _ (by first | omega | (simp only [World.size_alloc, World.size_setCell]; omega))]
    first | assumption | (simp [go_sem, c1_0_0, f1_0_0, c1_0_1, f1_0_1, c1_1_0, f1_1_0, c1_1_1, f1_1_1, c1_1_2, f1_1_2, hz1_0, hz1_1, ne0, ne1]; done)
  have c2_1_1 : w2.cell? ⟨w.heap.size + 1, 1, none⟩ = some (.slice aX (ws XX).length cX) := by
    rw [hc2 _ _ (by first | omega | (simp only [World.size_alloc, World.size_setCell]; omega))]
    first | assumption | (simp [go_sem, c1_0_0, f1_0_0, c1_0_1, f1_0_1, c1_1_0, f1_1_0, c1_1_1, f1_1_1, c1_1_2, f1_1_2, hz1_0, hz1_1, ne0, ne1]; done)
  have f2_1_1 : w2.frozen? ⟨w.heap.size + 1, 1, none⟩ = false := by
    rw [hf2 _ _ (by first | omega | (simp only [World.size_alloc, World.size_setCell]; omega))]
    first | assumption | (simp [go_sem, c1_0_0, f1_0_0, c1_0_1, f1_0_1, c1_1_0, f1_1_0, c1_1_1, f1_1_1, c1_1_2, f1_1_2, hz1_0, hz1_1, ne0, ne1]; done)
  have c2_1_2 : w2.cell? ⟨w.heap.size + 1, 2, none⟩ = some (.int .i64 eX) := by
    rw [hc2 _ _ (by first | omega | (simp only [World.size_alloc, World.size_setCell]; omega))]
    first | assumption | (simp [go_sem, c1_0_0, f1_0_0, c1_0_1, f1_0_1, c1_1_0, f1_1_0, c1_1_1, f1_1_1, c1_1_2, f1_1_2, hz1_0, hz1_1, ne0, ne1]; done)
  have f2_1_2 : w2.frozen? ⟨w.heap.size + 1, 2, none⟩ = false := by
    rw [hf2 _ _ (by first | omega | (simp only [World.size_alloc, World.size_setCell]; omega))]
    first | assumption | (simp [go_sem, c1_0_0, f1_0_0, c1_0_1, f1_0_1, c1_1_0, f1_1_0, c1_1_1, f1_1_1, c1_1_2, f1_1_2, hz1_0, hz1_1, ne0, ne1]; done)
  clear hc2 hf2 c1_0_0 f1_0_0 c1_0_1 f1_0_1 c1_1_0 f1_1_0 c1_1_1 f1_1_1 c1_1_2 f1_1_2
  go_wp2
  have SS := S2.out
  exact bodyPost_ret (v := .bool true) (by simp [results, Try.results48, go_sem, c2_0_0, f2_0_0, c2_0_1, f2_0_1, c2_1_0, f2_1_0, c2_1_1, f2_1_1, c2_1_2, f2_1_2, hz2_0, hz2_1, ne0, ne1]) rfl ⟨rfl, (by repeat (first | exact Below.refl _ _ | assumption | exact Nat.le_refl _ | (simp only [World.size_alloc, World.size_setCell]; omega) | omega | refine Below.alloc ?_ ?_ _ | refine Below.setCell ?_ ?_ _ | refine Below.drew ?_))⟩
end Go.Proofs.Ythilnddhehbjiab

