/- The document's Plus, Minus, Times of any two numbers are the model's own steps. -/
import Derived.Test.YtjpaocgimdinmaaGreatDoorD36x
import Derived.Test.YtjpaocgimdinmaaGreatDoorD10x
import Derived.Test.YtjpaocgimdinmaaGreatDoorO1x
import Derived.Test.YtjpaocgimdinmaaGreatDoorD3x
import Derived.KernelRfl
import Derived.Test.YtjpaocgimdinmaaGreatDoorG7x
namespace Go.Proofs.YtjpaocgimdinmaaGreatDoor
open Go.RowKit J
set_option linter.unusedVariables false
set_option maxRecDepth 20000

theorem sg1_sg (s : Bool) (v : Nat) : sg1 s * (v : Int) = B.sg s v := by unfold sg1 B.sg; cases s <;> simp
theorem top_v (K : Nat) (hK : K < 9218868437227405312) (a : Nat) (ha : a = 2045) : vK K < 9007199254740992 * 2 ^ a := by
  have h := vK_word a 9007199254740992 (.inr (by omega)) (by omega)
  have h2 : a * 4503599627370496 + 9007199254740992 = 9218868437227405312 := by rw [ha]
  rw [← h, h2]
  exact vK_lt.2 hK
/-- A number's form. -/
theorem of_fo (s : Bool) (K : Nat) (hK : K < 9218868437227405312) : ∃ n X e, ofK s K = some (n, X, e) ∧ Fo (some (n, X, e)) (B.sg s (vK K) * (UU : Int)) (-1074) 1024 ∧ (X = 0 ↔ K = 0) := by
  obtain ⟨n, X, e, h1, F, h2, h3, h4⟩ := ofK_val s K hK
  refine ⟨n, X, e, h1, ⟨n, X, e, rfl, F, ?_, ?_⟩, h3⟩
  · obtain ⟨a, ha⟩ : ∃ a : Nat, (-1074 - -2097152 : Int).toNat = a := ⟨_, rfl⟩
    have h5 := h4 (-2097152) (by omega)
    rw [ha] at h5
    rw [h5, US a (by omega), Int.natCast_mul, Int.natCast_mul, ← Int.mul_assoc, ← Int.mul_assoc, sg1_sg]
  · by_cases hX : X = 0
    · exact .inl hX
    · right
      have ho := frm_odd F hX
      have hd := F.down
      -- in units of the form's own place
      have h5 := h4 (min e (-1074)) (by omega)
      unfold zv at h5
      simp only at h5
      rw [h2 hX] at h5
      have h6 : X * 2 ^ (e - min e (-1074)).toNat = vK K * 2 ^ (-1074 - min e (-1074)).toNat := by
        unfold sg1 at h5
        cases s
        · simp only [Bool.false_eq_true, if_false, Int.one_mul] at h5; exact_mod_cast h5
        · simp only [if_true] at h5; have := Int.eq_of_mul_eq_mul_left (by decide) h5; exact_mod_cast this
      have he : -1074 ≤ e := by
        apply Int.le_of_not_gt; intro hlt
        rw [show (e - min e (-1074)).toNat = 0 by omega, Nat.pow_zero, Nat.mul_one] at h6
        obtain ⟨q, hq⟩ : ∃ q, (-1074 - min e (-1074)).toNat = q + 1 := ⟨(-1074 - min e (-1074)).toNat - 1, by omega⟩
        rw [hq, Nat.pow_succ, ← Nat.mul_assoc] at h6
        omega
      refine ⟨he, ?_⟩
      rw [show (-1074 - min e (-1074)).toNat = 0 by omega, Nat.pow_zero, Nat.mul_one] at h6
      obtain ⟨q, hq⟩ : ∃ q, (e - min e (-1074)).toNat = q := ⟨_, rfl⟩
      rw [hq] at h6
      obtain ⟨c, hc⟩ : ∃ c : Nat, c = 2045 := ⟨_, rfl⟩
      have h7 := top_v K hK c hc
      have h8 := bl_ge X hX
      have h9 := bl_pos X hX
      obtain ⟨b, hb⟩ : ∃ b, bl X = b + 1 := ⟨bl X - 1, by omega⟩
      rw [hb, Nat.add_sub_cancel] at h8
      have h10 : 2 ^ b * 2 ^ q < 9007199254740992 * 2 ^ c := Nat.lt_of_le_of_lt (Nat.mul_le_mul_right _ h8) (by rw [h6]; exact h7)
      rw [← Nat.pow_add, show (9007199254740992 : Nat) = 2 ^ 53 from rfl, ← Nat.pow_add] at h10
      have h11 := (Nat.pow_lt_pow_iff_right (by decide : 1 < 2)).1 h10
      omega

/-- A form's sign, and what it is rounded to. -/
theorem round_fo {n : Bool} {X : Nat} {e T L H : Int} (h : Fo (some (n, X, e)) T L H) (hT : T ≠ 0) : X ≠ 0 ∧ n = decide (T < 0) ∧ ∀ R, NE R T.natAbs UU → rW 0 n X e = min R 9218868437227405312 := by
  obtain ⟨F, hv, _⟩ := h.frm
  have hS := S_pos
  unfold zv at hv
  simp only at hv
  have hX : X ≠ 0 := by
    intro h0
    rw [h0, Nat.zero_mul] at hv
    have : T * (SS : Int) = 0 := by rw [← hv]; simp
    rcases Int.mul_eq_zero.1 this with h | h <;> omega
  obtain ⟨q, hq⟩ : ∃ q, X * 2 ^ (e - -2097152).toNat = q := ⟨_, rfl⟩
  have hq0 : 0 < q := by rw [← hq]; exact Nat.mul_pos (by omega) (Nat.two_pow_pos _)
  rw [hq] at hv
  have hab : q = T.natAbs * SS := by
    have := congrArg Int.natAbs hv
    rw [Int.natAbs_mul, Int.natAbs_mul, Int.natAbs_natCast, Int.natAbs_natCast] at this
    rw [← this]
    unfold sg1; cases n <;> simp
  refine ⟨hX, ?_, fun R hR => ?_⟩
  · have hTS : T < 0 → T * (SS : Int) < 0 := fun h => Int.mul_neg_of_neg_of_pos h (by omega)
    have hTP : 0 < T → 0 < T * (SS : Int) := fun h => Int.mul_pos h (by omega)
    unfold sg1 at hv
    cases n
    · simp only [Bool.false_eq_true, if_false, Int.one_mul] at hv
      rw [decide_eq_false (by intro h; have := hTS h; omega)]
    · simp only [if_true] at hv
      rw [decide_eq_true (by apply Int.lt_of_not_ge; intro h; have := hTP (by omega); omega)]
  · exact rW_ne F hX (-2097152) (by omega) (V := T.natAbs) (U := UU) (S := SS) (by rw [hq, hab]) (US _ (by omega)) hR

theorem frmLen {n : Bool} {X : Nat} {e : Int} (F : Frm n X e) : (ws X).length ≤ 8192 := by
  have := mkS_len n X e
  rw [mkS_idem F] at this
  exact this
/-- What a word is: a NaN, an infinity, or finite. -/
theorem kinds (x : Nat) (hx : x < 18446744073709551616) : (nanW x = true ∧ (magW x == 9218868437227405312) = false ∧ (magW x == 0) = false ∧ 9218868437227405312 < magW x) ∨ (nanW x = false ∧ (magW x == 9218868437227405312) = true ∧ (magW x == 0) = false ∧ magW x = 9218868437227405312) ∨ (nanW x = false ∧ (magW x == 9218868437227405312) = false ∧ magW x < 9218868437227405312) := by
  have e : nanW x = decide (9218868437227405312 < magW x) := rfl
  rcases Nat.lt_trichotomy (magW x) 9218868437227405312 with h | h | h
  · refine .inr (.inr ⟨?_, ?_, h⟩)
    · rw [e]; simp; omega
    · simp; omega
  · refine .inr (.inl ⟨?_, ?_, ?_, h⟩)
    · rw [e]; simp; omega
    · simp; omega
    · simp; omega
  · refine .inl ⟨?_, ?_, ?_, h⟩
    · rw [e]; simp; omega
    · simp; omega
    · simp; omega
theorem read_nanW (x : Nat) (h : 9218868437227405312 < magW x) : ∃ s t, Ieee.double.read x = .nan s t := ⟨_, _, B.read_nan Ieee.double x (by rw [B.dInf, B.dSign]; exact h) hBin⟩
theorem read_infW (x : Nat) (hx : x < 18446744073709551616) (h : magW x = 9218868437227405312) : Ieee.double.read x = .infinity (negW x) := by
  have e := wd_of x hx
  rw [h, wd_word, ← B.dInf] at e
  rw [e, B.read_inf Ieee.double _ hInf hBin, ← e]
end Go.Proofs.YtjpaocgimdinmaaGreatDoor

/- The document's Plus, Minus, Times: whole. -/
namespace Go.Proofs.YtjpaocgimdinmaaGreatDoor
open Go.RowKit J
set_option linter.unusedVariables false
set_option maxRecDepth 20000
set_option linter.unusedSimpArgs false

theorem arW_add (x y : Nat) : arW .add x y = (((Ieee.double.read x).sum (Ieee.double.read y)).map Ieee.double.write).getD oddW := rfl
theorem arW_sub (x y : Nat) : arW .sub x y = (((Ieee.double.read x).sum (Ieee.double.read y).opposite).map Ieee.double.write).getD oddW := rfl
theorem turn_wd (s : Bool) (K : Nat) (h : K < 9223372036854775808) : turnW (wd64 s K) = wd64 (!s) K := by
  unfold turnW wd64
  cases s <;> simp <;> omega
theorem turn_lt (y : Nat) (hy : y < 18446744073709551616) : turnW y < 18446744073709551616 := by unfold turnW; split <;> omega
theorem readOpp (f : Ieee.Format) (hs : f.infRung < f.signWeight) (t : Bool) (u : Nat) (hu : u < f.infRung) : (f.read (f.word t u)).opposite = f.read (f.word (!t) u) := by
  have key : ∀ b : Bool, (f.word b u / f.signWeight % 2 == 1) = b ∧ f.word b u % f.signWeight = u := by
    intro b
    unfold Ieee.Format.word
    cases b
    · simp only [Bool.false_eq_true, if_false]
      rw [Nat.div_eq_of_lt (by omega)]; exact ⟨rfl, Nat.mod_eq_of_lt (by omega)⟩
    · simp only [if_true]
      rw [Nat.add_div_left _ (by omega), Nat.div_eq_of_lt (by omega), Nat.add_mod_left]; exact ⟨rfl, Nat.mod_eq_of_lt (by omega)⟩
  unfold Ieee.Format.read
  simp only [(key t).1, (key t).2, (key (!t)).1, (key (!t)).2]
  by_cases h : u < f.binade
  · rw [if_pos h, if_pos h]; rfl
  · rw [if_neg h, if_neg h, if_pos hu, if_pos hu]; rfl

theorem sub_turn (x y : Nat) (hy : y < 18446744073709551616) : arW .sub x y = arW .add x (turnW y) := by
  rw [arW_sub, arW_add]
  have ey := wd_of y hy
  have hm : magW y < 9223372036854775808 := Nat.mod_lt _ (by decide)
  have et : turnW y = wd64 (!negW y) (magW y) := by rw [← turn_wd _ _ hm, ← ey]
  obtain ⟨m1, m2, m3⟩ := magW_wd (!negW y) (magW y) hm
  rcases kinds y hy with ⟨b1, b2, b3, b4⟩ | ⟨b1, b2, b3, b4⟩ | ⟨b1, b2, b4⟩
  · obtain ⟨s, t, hr⟩ := read_nanW y b4
    obtain ⟨s2, t2, hr2⟩ := read_nanW (turnW y) (by rw [et, m1]; exact b4)
    rw [hr, hr2]
    cases Ieee.double.read x <;> rfl
  · have hr := read_infW y hy b4
    have hr2 := read_infW (turnW y) (turn_lt y hy) (by rw [et, m1]; exact b4)
    rw [hr, hr2, et, m2]
    rfl
  · have hr := readOpp Ieee.double hInf (negW y) (magW y) (by rw [B.dInf]; exact b4)
    rw [← wd_word, ← ey, ← wd_word, ← et] at hr
    rw [hr]
end Go.Proofs.YtjpaocgimdinmaaGreatDoor

/- The document's Times: whole. -/
namespace Go.Proofs.YtjpaocgimdinmaaGreatDoor
open Go.RowKit J
set_option linter.unusedVariables false
set_option maxRecDepth 20000
set_option linter.unusedSimpArgs false

theorem absSg (s : Bool) (v : Nat) : (B.sg s v).natAbs = v := by unfold B.sg; cases s <;> simp
end Go.Proofs.YtjpaocgimdinmaaGreatDoor

/- The program's Sum, Quick, Halves: chains of steps. -/
namespace Go.Proofs.YtjpaocgimdinmaaGreatDoor
open Go.RowKit
set_option linter.unusedVariables false
set_option maxRecDepth 20000
set_option linter.unusedSimpArgs false
attribute [local go_sem] st_float
set_option maxHeartbeats 4000000 in
theorem Sum_core (a b h t u v x l : Nat) (w : World)
    (H1 : Hid (∀ uu, Calls Tryz.prog 226 #[.float .f64 a, .func (.func 227) #[] #[], .float .f64 b] uu fun r w' => r = .returned (.float .f64 h) ∧ Below uu.heap.size uu w'))
    (H2 : Hid (∀ uu, Calls Tryz.prog 226 #[.float .f64 h, .func (.func 228) #[] #[], .float .f64 a] uu fun r w' => r = .returned (.float .f64 t) ∧ Below uu.heap.size uu w'))
    (H3 : Hid (∀ uu, Calls Tryz.prog 226 #[.float .f64 h, .func (.func 228) #[] #[], .float .f64 t] uu fun r w' => r = .returned (.float .f64 u) ∧ Below uu.heap.size uu w'))
    (H4 : Hid (∀ uu, Calls Tryz.prog 226 #[.float .f64 a, .func (.func 228) #[] #[], .float .f64 u] uu fun r w' => r = .returned (.float .f64 v) ∧ Below uu.heap.size uu w'))
    (H5 : Hid (∀ uu, Calls Tryz.prog 226 #[.float .f64 b, .func (.func 228) #[] #[], .float .f64 t] uu fun r w' => r = .returned (.float .f64 x) ∧ Below uu.heap.size uu w'))
    (H6 : Hid (∀ uu, Calls Tryz.prog 226 #[.float .f64 v, .func (.func 227) #[] #[], .float .f64 x] uu fun r w' => r = .returned (.float .f64 l) ∧ Below uu.heap.size uu w')) :
    Calls Tryz.prog 194 #[.float .f64 a, .float .f64 b] w fun r w' => r = .returned (.agg #[.float .f64 h, .float .f64 l]) ∧ Below w.heap.size w w' := by
  go_enter Tryz.func194, Tryz.ntmps194
  go_wp2_with fail
  refine (Calls.mono (H1.out _)) ?_
  rintro r w1 ⟨rfl, hb1⟩
  clear H1
  have hz1_0 : w.heap.size < w1.heap.size := by
    have := hb1.size
    try simp at this
    omega
  have S1 := Aside.intro (Below.trans (B := w.heap.size) (a := w) (by repeat (first | exact Below.refl _ _ | assumption | exact Aside.out ‹_› | exact Nat.le_refl _ | (simp only [World.size_alloc, World.size_setCell]; omega) | (simp; done) | (simp; omega) | omega | refine Below.alloc ?_ ?_ _ | refine Below.setCell ?_ ?_ _ | refine Below.drew ?_)) (hb1.mono (by first | omega | (simp only [World.size_alloc, World.size_setCell]; omega) | (simp; omega) | (simp; done))))
  obtain ⟨hc1, hf1⟩ := bcell hb1
  clear hb1
  go_wp2_with fail
  refine (Calls.mono (H2.out _)) ?_
  rintro r w2 ⟨rfl, hb2⟩
  clear H2
  have hz2_0 : w.heap.size < w2.heap.size := by
    have := hb2.size
    try simp at this
    omega
  have hy2 : w1.heap.size ≤ w2.heap.size := by
    have := hb2.size
    try simp at this
    omega
  have S2 := Aside.intro (Below.trans (B := w.heap.size) (a := w) (by repeat (first | exact Below.refl _ _ | assumption | exact Aside.out ‹_› | exact Nat.le_refl _ | (simp only [World.size_alloc, World.size_setCell]; omega) | (simp; done) | (simp; omega) | omega | refine Below.alloc ?_ ?_ _ | refine Below.setCell ?_ ?_ _ | refine Below.drew ?_)) (hb2.mono (by first | omega | (simp only [World.size_alloc, World.size_setCell]; omega) | (simp; omega) | (simp; done))))
  clear S1
  obtain ⟨hc2, hf2⟩ := bcell hb2
  clear hb2
  go_wp2_with fail
  refine (Calls.mono (H3.out _)) ?_
  rintro r w3 ⟨rfl, hb3⟩
  clear H3
  have hz3_0 : w.heap.size < w3.heap.size := by
    have := hb3.size
    try simp at this
    omega
  have hy3 : w2.heap.size ≤ w3.heap.size := by
    have := hb3.size
    try simp at this
    omega
  have S3 := Aside.intro (Below.trans (B := w.heap.size) (a := w) (by repeat (first | exact Below.refl _ _ | assumption | exact Aside.out ‹_› | exact Nat.le_refl _ | (simp only [World.size_alloc, World.size_setCell]; omega) | (simp; done) | (simp; omega) | omega | refine Below.alloc ?_ ?_ _ | refine Below.setCell ?_ ?_ _ | refine Below.drew ?_)) (hb3.mono (by first | omega | (simp only [World.size_alloc, World.size_setCell]; omega) | (simp; omega) | (simp; done))))
  clear S2
  obtain ⟨hc3, hf3⟩ := bcell hb3
  clear hb3
  go_wp2_with fail
  refine (Calls.mono (H4.out _)) ?_
  rintro r w4 ⟨rfl, hb4⟩
  clear H4
  have hz4_0 : w.heap.size < w4.heap.size := by
    have := hb4.size
    try simp at this
    omega
  have hy4 : w3.heap.size ≤ w4.heap.size := by
    have := hb4.size
    try simp at this
    omega
  have S4 := Aside.intro (Below.trans (B := w.heap.size) (a := w) (by repeat (first | exact Below.refl _ _ | assumption | exact Aside.out ‹_› | exact Nat.le_refl _ | (simp only [World.size_alloc, World.size_setCell]; omega) | (simp; done) | (simp; omega) | omega | refine Below.alloc ?_ ?_ _ | refine Below.setCell ?_ ?_ _ | refine Below.drew ?_)) (hb4.mono (by first | omega | (simp only [World.size_alloc, World.size_setCell]; omega) | (simp; omega) | (simp; done))))
  clear S3
  obtain ⟨hc4, hf4⟩ := bcell hb4
  clear hb4
  go_wp2_with fail
  refine (Calls.mono (H5.out _)) ?_
  rintro r w5 ⟨rfl, hb5⟩
  clear H5
  have hz5_0 : w.heap.size < w5.heap.size := by
    have := hb5.size
    try simp at this
    omega
  have hy5 : w4.heap.size ≤ w5.heap.size := by
    have := hb5.size
    try simp at this
    omega
  have S5 := Aside.intro (Below.trans (B := w.heap.size) (a := w) (by repeat (first | exact Below.refl _ _ | assumption | exact Aside.out ‹_› | exact Nat.le_refl _ | (simp only [World.size_alloc, World.size_setCell]; omega) | (simp; done) | (simp; omega) | omega | refine Below.alloc ?_ ?_ _ | refine Below.setCell ?_ ?_ _ | refine Below.drew ?_)) (hb5.mono (by first | omega | (simp only [World.size_alloc, World.size_setCell]; omega) | (simp; omega) | (simp; done))))
  clear S4
  obtain ⟨hc5, hf5⟩ := bcell hb5
  clear hb5
  go_wp2_with fail
  refine (Calls.mono (H6.out _)) ?_
  rintro r w6 ⟨rfl, hb6⟩
  clear H6
  have hz6_0 : w.heap.size < w6.heap.size := by
    have := hb6.size
    try simp at this
    omega
  have hy6 : w5.heap.size ≤ w6.heap.size := by
    have := hb6.size
    try simp at this
    omega
  have S6 := Aside.intro (Below.trans (B := w.heap.size) (a := w) (by repeat (first | exact Below.refl _ _ | assumption | exact Aside.out ‹_› | exact Nat.le_refl _ | (simp only [World.size_alloc, World.size_setCell]; omega) | (simp; done) | (simp; omega) | omega | refine Below.alloc ?_ ?_ _ | refine Below.setCell ?_ ?_ _ | refine Below.drew ?_)) (hb6.mono (by first | omega | (simp only [World.size_alloc, World.size_setCell]; omega) | (simp; omega) | (simp; done))))
  clear S5
  obtain ⟨hc6, hf6⟩ := bcell hb6
  clear hb6
  go_wp2
  exact bodyPost_ret (v := .agg #[.float .f64 h, .float .f64 l]) (by simp [results, Tryz.results194, go_sem, hc1, hc2, hc3, hc4, hc5, hc6, hz1_0, hz2_0, hz3_0, hz4_0, hz5_0, hz6_0]) rfl ⟨rfl, (by repeat (first | exact Below.refl _ _ | assumption | exact Aside.out ‹_› | exact Nat.le_refl _ | (simp only [World.size_alloc, World.size_setCell]; omega) | (simp; done) | (simp; omega) | omega | refine Below.alloc ?_ ?_ _ | refine Below.setCell ?_ ?_ _ | refine Below.drew ?_))⟩
end Go.Proofs.YtjpaocgimdinmaaGreatDoor

/- What each call of the package and of the document answers, as a plain function of the numbers' bits. -/
namespace Go.Proofs.YtjpaocgimdinmaaGreatDoor
open Go.RowKit J
set_option linter.unusedVariables false
set_option maxRecDepth 20000

abbrev Wd (x : Nat) : Prop := x < 18446744073709551616
theorem odd_wd : Wd oddW := by unfold Wd oddW; decide
theorem ar_wd (op : BinOp) (ho : op = .add ∨ op = .sub ∨ op = .mul) (x y : Nat) : Wd (arW op x y) := by
  unfold arW
  cases h : floatBits op .f64 x y with
  | none => exact odd_wd
  | some z => exact (bits_fin ho h).2
def plW (x y : Nat) : Nat := arW .add x y
def miW (x y : Nat) : Nat := arW .sub x y
def tiW (x y : Nat) : Nat := arW .mul x y
theorem pl_wd (x y : Nat) : Wd (plW x y) := ar_wd .add (.inl rfl) x y
theorem mi_wd (x y : Nat) : Wd (miW x y) := ar_wd .sub (.inr (.inl rfl)) x y
def sumP (a b : Nat) : Nat × Nat := (plW a b, plW (miW a (miW (plW a b) (miW (plW a b) a))) (miW b (miW (plW a b) a)))
theorem Sum_all (a b : Nat) (w : World) : Calls Tryz.prog 194 #[.float .f64 a, .float .f64 b] w fun r w' => r = .returned (.agg #[.float .f64 (sumP a b).1, .float .f64 (sumP a b).2]) ∧ Below w.heap.size w w' :=
  Sum_core a b _ _ _ _ _ _ w (hid fun u => step_plus _ _ u) (hid fun u => step_minus _ _ u) (hid fun u => step_minus _ _ u) (hid fun u => step_minus _ _ u) (hid fun u => step_minus _ _ u) (hid fun u => step_plus _ _ u)
end Go.Proofs.YtjpaocgimdinmaaGreatDoor

/- Steps of finite numbers by their values (whole numbers of units of 2^-1074): what is rounded is the nearest. -/
namespace Go.Proofs.YtjpaocgimdinmaaGreatDoor
open Go.RowKit J
set_option linter.unusedVariables false
set_option maxRecDepth 20000

/-- A finite word; its value. -/
abbrev finW (x : Nat) : Prop := magW x < 9218868437227405312
def fvW (x : Nat) : Int := B.sg (negW x) (vK (magW x))
/-- TwoP to the power of 1022, in those units: 2^2096. -/
def EQ : Nat := 2096
theorem exQ : ∃ q : Nat, q = 2 ^ EQ := ⟨_, rfl⟩
noncomputable def QQ : Nat := Classical.choose exQ
theorem Q_eq : QQ = 2 ^ EQ := Classical.choose_spec exQ
theorem Q_pos : 0 < QQ := by rw [Q_eq]; exact Nat.two_pow_pos _

theorem sg_abs (s : Bool) (v : Nat) : (B.sg s v).natAbs = v := absSg s v
theorem vK_F (K : Nat) : ∃ m k : Nat, vK K = m * 2 ^ k ∧ m ≤ 9007199254740992 := by
  show ∃ m k, B.val Ieee.double K = m * 2 ^ k ∧ m ≤ 9007199254740992
  unfold B.val
  rw [B.dBin]
  split
  · exact ⟨K, 0, by simp, by omega⟩
  · exact ⟨_, _, rfl, by omega⟩
theorem fv_F (x : Nat) : IsF (fvW x) := by
  obtain ⟨m, k, h1, h2⟩ := vK_F (magW x)
  unfold fvW B.sg
  rw [h1]
  cases negW x
  · exact ⟨(m : Int), k, by simp, by omega, by omega⟩
  · exact ⟨-(m : Int), k, by simp [Int.neg_mul], by omega, by omega⟩
theorem F_vK {f : Int} (h : IsF f) : ∃ L, vK L = f.natAbs := by
  by_cases hs : f.natAbs ≤ 9007199254740992
  · refine ⟨f.natAbs, ?_⟩
    have := vK_word 0 f.natAbs (.inl rfl) hs
    simpa using this
  · obtain ⟨k, h1, h2, h3⟩ := h.placed
    have h2' : 2 ^ (52 + k) ≤ f.natAbs := by
      rcases h2 with rfl | h2
      · omega
      · exact h2
    obtain ⟨q, hq⟩ := h3
    have hf : f.natAbs = q.natAbs * 2 ^ k := by rw [hq, Int.natAbs_mul, natAbs_p2, Nat.mul_comm]
    rw [hf] at h1 h2' ⊢
    rw [Nat.pow_add] at h1 h2'
    have a1 := Nat.lt_of_mul_lt_mul_right h1
    have a2 := Nat.le_of_mul_le_mul_right h2' (Nat.two_pow_pos _)
    exact ⟨_, vK_word k q.natAbs (.inr (by omega)) (by omega)⟩

/-- The nearest rung is the nearest. -/
theorem ne_near {R V L : Nat} (h : NE R V 1) : ((vK R : Int) - V).natAbs ≤ ((vK L : Int) - V).natAbs := by
  have u : 2 * V ≤ vK R + vK (R + 1) := by have := h.up; rw [Nat.mul_one] at this; exact this
  rcases Nat.lt_trichotomy L R with c | c | c
  · have d : vK (R - 1) + vK R ≤ 2 * V := by have := h.dn (by omega); rw [Nat.mul_one] at this; exact this
    have m1 : vK L ≤ vK (R - 1) := vmono (by omega)
    have m2 : vK (R - 1) < vK R := vK_lt.2 (by omega)
    omega
  · rw [c]; omega
  · have m1 : vK (R + 1) ≤ vK L := vmono (by omega)
    have m2 : vK R < vK (R + 1) := vK_lt.2 (by omega)
    omega
theorem ne_rn {R : Nat} {T : Int} (h : NE R T.natAbs 1) {s : Bool} (hs : T ≠ 0 → s = decide (T < 0)) : IsRn T (B.sg s (vK R)) := by
  have hF : IsF (B.sg s (vK R)) := by
    obtain ⟨m, k, h1, h2⟩ := vK_F R
    unfold B.sg
    rw [h1]
    cases s
    · exact ⟨(m : Int), k, by simp, by omega, by omega⟩
    · exact ⟨-(m : Int), k, by simp [Int.neg_mul], by omega, by omega⟩
  refine ⟨hF, fun f hf => ?_⟩
  obtain ⟨L, hL⟩ := F_vK hf
  have n := ne_near (L := L) h
  by_cases hT : T = 0
  · subst hT
    have : NE 0 (0 : Int).natAbs 1 := NEf.own (by decide) (by rw [B.val_zero]; rfl)
    rw [h.one this (by decide), show vK 0 = 0 from B.val_zero _]
    unfold B.sg
    cases s <;> simp
  · have e := hs hT
    unfold B.sg
    by_cases hn : T < 0
    · rw [decide_eq_true hn] at e; subst e
      simp only [if_true]
      omega
    · rw [decide_eq_false hn] at e; subst e
      simp only [Bool.false_eq_true, if_false]
      omega
theorem top_half (K : Nat) (h : 9218868437227405311 ≤ K) : 2 * QQ < vK K := by
  obtain ⟨c, hc⟩ : ∃ c : Nat, c = 2045 := ⟨_, rfl⟩
  have h1 := vK_word c 4503599627370496 (.inr (by omega)) (by omega)
  have h2 : c * 4503599627370496 + 4503599627370496 < K := by rw [hc]; omega
  have h3 := vK_lt.2 h2
  rw [h1] at h3
  have h4 : 2 * QQ = 4503599627370496 * 2 ^ c := by
    have a1 : EQ + 1 = 52 + c := by rw [hc]; unfold EQ; rfl
    have a2 : 2 * 2 ^ EQ = 2 ^ (EQ + 1) := by rw [Nat.pow_succ, Nat.mul_comm]
    rw [Q_eq, a2, a1, Nat.pow_add]
  omega
theorem ne_fin {R V : Nat} (h : NE R V 1) (hV : V ≤ 3 * QQ) : R < 9218868437227405312 := by
  apply Nat.lt_of_not_le; intro hh
  have d : vK (R - 1) + vK R ≤ 2 * V := by have := h.dn (by omega); rw [Nat.mul_one] at this; exact this
  have a1 := top_half (R - 1) (by omega)
  obtain ⟨c, hc⟩ : ∃ c : Nat, c = 2045 := ⟨_, rfl⟩
  have h1 := vK_word c 9007199254740992 (.inr (by omega)) (by omega)
  have h2 : c * 4503599627370496 + 9007199254740992 ≤ R := by rw [hc]; omega
  have h3 : vK (c * 4503599627370496 + 9007199254740992) ≤ vK R := vmono h2
  rw [h1] at h3
  have h4 : 4 * QQ = 9007199254740992 * 2 ^ c := by
    have a1 : EQ + 2 = 53 + c := by rw [hc]; unfold EQ; rfl
    have a2 : 4 * 2 ^ EQ = 2 ^ (EQ + 2) := by rw [Nat.pow_add, Nat.mul_comm]
    rw [Q_eq, a2, a1, Nat.pow_add]
  omega

theorem fv_wd (s : Bool) (K : Nat) (h : K < 9218868437227405312) : finW (wd64 s K) ∧ fvW (wd64 s K) = B.sg s (vK K) := by
  obtain ⟨h1, h2, _⟩ := magW_wd s K (by omega)
  unfold fvW
  rw [h1, h2]
  exact ⟨by unfold finW; rw [h1]; exact h, rfl⟩
/-- A sum. -/
theorem pl_fin {x y : Nat} (hx : Wd x) (hy : Wd y) (fx : finW x) (fy : finW y) (hT : (fvW x + fvW y).natAbs ≤ 3 * QQ) : finW (plW x y) ∧ IsRn (fvW x + fvW y) (fvW (plW x y)) := by
  obtain ⟨R, hR, hA⟩ := add_wd (negW x) (negW y) (magW x) (magW y) fx fy
  rw [← wd_of x hx, ← wd_of y hy] at hA
  have e : plW x y = wd64 (if fvW x + fvW y = 0 then negW x && negW y else decide (fvW x + fvW y < 0)) (min R 9218868437227405312) := by
    show (Ieee.double.add x y).getD oddW = _
    rw [hA]; rfl
  have hf := ne_fin hR hT
  rw [Nat.min_eq_left (by omega)] at e
  obtain ⟨k1, k2⟩ := fv_wd (if fvW x + fvW y = 0 then negW x && negW y else decide (fvW x + fvW y < 0)) R hf
  rw [e]
  refine ⟨k1, ?_⟩
  rw [k2]
  exact ne_rn (T := fvW x + fvW y) hR (fun h => if_neg h)
theorem fv_turn {y : Nat} (hy : Wd y) (fy : finW y) : finW (turnW y) ∧ fvW (turnW y) = -fvW y := by
  have hm : magW y < 9223372036854775808 := Nat.mod_lt _ (by decide)
  have e : turnW y = wd64 (!negW y) (magW y) := by rw [← turn_wd _ _ hm, ← wd_of y hy]
  rw [e]
  obtain ⟨k1, k2⟩ := fv_wd (!negW y) (magW y) fy
  refine ⟨k1, ?_⟩
  rw [k2]
  unfold fvW B.sg
  cases negW y <;> simp
/-- A difference. -/
theorem mi_fin {x y : Nat} (hx : Wd x) (hy : Wd y) (fx : finW x) (fy : finW y) (hT : (fvW x - fvW y).natAbs ≤ 3 * QQ) : finW (miW x y) ∧ IsRn (fvW x - fvW y) (fvW (miW x y)) := by
  obtain ⟨k1, k2⟩ := fv_turn hy fy
  have e : miW x y = plW x (turnW y) := sub_turn x y hy
  have := pl_fin hx (turn_lt y hy) fx k1 (by rw [k2]; rwa [Int.sub_eq_add_neg] at hT)
  rw [e, Int.sub_eq_add_neg, ← k2]
  exact this
/-- A product that is whole in those units. -/
theorem ti_fin {x y : Nat} (hx : Wd x) (hy : Wd y) (fx : finW x) (fy : finW y) {P : Int} (hP : fvW x * fvW y = P * (UU : Int)) (hT : P.natAbs ≤ 3 * QQ) : finW (tiW x y) ∧ IsRn P (fvW (tiW x y)) := by
  obtain ⟨R, hR, hA⟩ := mul_wd EU rfl (negW x) (negW y) (magW x) (magW y) fx fy
  rw [← wd_of x hx, ← wd_of y hy] at hA
  rw [← U_eq] at hR
  have hU := U_pos
  have e : tiW x y = wd64 (negW x != negW y) (min R 9218868437227405312) := by
    show (Ieee.double.mul x y).getD oddW = _
    rw [hA]; rfl
  have ha : vK (magW x) * vK (magW y) = P.natAbs * UU := by
    have := congrArg Int.natAbs hP
    rw [Int.natAbs_mul, Int.natAbs_mul, Int.natAbs_natCast] at this
    unfold fvW at this
    rw [sg_abs, sg_abs] at this
    exact this
  have hR1 : NE R P.natAbs 1 := by
    rw [ha] at hR
    refine NEf.unscale hU ?_
    rw [Nat.one_mul]; exact hR
  have hf := ne_fin hR1 hT
  rw [Nat.min_eq_left (by omega)] at e
  obtain ⟨k1, k2⟩ := fv_wd (negW x != negW y) R hf
  rw [e]
  refine ⟨k1, ?_⟩
  rw [k2]
  refine ne_rn hR1 (fun h => ?_)
  -- the sign
  have hv : (0 : Int) < (vK (magW x) : Int) * (vK (magW y) : Int) := by
    rw [← Int.natCast_mul, ha]
    have := Nat.mul_pos (show 0 < P.natAbs by omega) hU
    omega
  have hlt : P < 0 ↔ fvW x * fvW y < 0 := by
    rw [hP]
    constructor
    · intro h1; exact Int.mul_neg_of_neg_of_pos h1 (by omega)
    · intro h1; apply Int.lt_of_not_ge; intro h2; have := Int.mul_nonneg h2 (show (0 : Int) ≤ UU by omega); omega
  have hd : decide (P < 0) = decide (fvW x * fvW y < 0) := decide_eq_decide.2 hlt
  rw [hd]
  unfold fvW B.sg
  cases negW x <;> cases negW y <;> simp [Int.neg_mul, Int.mul_neg] <;> omega
end Go.Proofs.YtjpaocgimdinmaaGreatDoor

/- P5.6 by words: Sum, Quick, Halves, Product of finite numbers. -/
namespace Go.Proofs.YtjpaocgimdinmaaGreatDoor
open Go.RowKit J
set_option linter.unusedVariables false
set_option maxRecDepth 20000

theorem two_Q : 2 * QQ = 2 ^ (EQ + 1) := by rw [Q_eq, Nat.pow_succ, Nat.mul_comm]
theorem rn_2Q {V s : Int} (h : IsRn V s) (hV : V.natAbs ≤ 2 * QQ) : s.natAbs ≤ 2 * QQ := by
  rw [two_Q] at hV ⊢; exact h.abs_le hV

/-- What came of a call: two finite numbers, and their sum. -/
structure TwoP (p : Nat × Nat) (V : Int) : Prop where
  w1 : Wd p.1
  w2 : Wd p.2
  f1 : finW p.1
  f2 : finW p.2
  val : fvW p.1 + fvW p.2 = V

theorem tiny {V s : Int} {Q : Nat} (h : 4503599627370496 * 2 * (s - V).natAbs ≤ V.natAbs) (hV : V.natAbs ≤ 4 * Q) : -(Q : Int) ≤ 64 * (s - V) ∧ 64 * (s - V) ≤ Q := by omega
theorem sum_bound {A C H T G V X : Int} {Q : Nat} (t1 : -(Q : Int) ≤ 64 * (H - (A + C)) ∧ 64 * (H - (A + C)) ≤ Q) (t2 : -(Q : Int) ≤ 64 * (T - (H - A)) ∧ 64 * (T - (H - A)) ≤ Q) (t3 : -(Q : Int) ≤ 64 * (G - (H - T)) ∧ 64 * (G - (H - T)) ≤ Q)
    (e4 : 4503599627370496 * 2 * (V - (A - G)).natAbs ≤ (A - G).natAbs) (e5 : 4503599627370496 * 2 * (X - (C - T)).natAbs ≤ (C - T).natAbs) : (V + X).natAbs ≤ 3 * Q := by
  have k3 : (A - G).natAbs ≤ 4 * Q := by omega
  have k4 : (C - T).natAbs ≤ 4 * Q := by omega
  have t4 := tiny e4 k3
  have t5 := tiny e5 k4
  clear e4 e5 k3 k4
  omega
theorem sum_two {a b : Nat} (ha : Wd a) (hb : Wd b) (fa : finW a) (fb : finW b) (la : (fvW a).natAbs ≤ QQ) (lb : (fvW b).natAbs ≤ QQ) : TwoP (sumP a b) (fvW a + fvW b) := by
  have hQ := Q_pos
  obtain ⟨f1, r1⟩ := pl_fin ha hb fa fb (by omega)
  have n1 := r1.near _ (fv_F a)
  have s1 := rn_2Q r1 (by omega)
  have t1 := Aside.intro (tiny (Q := QQ) r1.rel (by omega))
  obtain ⟨f2, r2⟩ := mi_fin (pl_wd a b) ha f1 fa (by omega)
  have s2 := rn_2Q r2 (by omega)
  have t2 := Aside.intro (tiny (Q := QQ) r2.rel (by omega))
  have n2 := r2.near _ (fv_F (plW a b))
  clear n1
  obtain ⟨f3, r3⟩ := mi_fin (pl_wd a b) (mi_wd (plW a b) a) f1 f2 (by omega)
  have s3 := rn_2Q r3 (by omega)
  have t3 := Aside.intro (tiny (Q := QQ) r3.rel (by omega))
  clear n2
  obtain ⟨f4, r4⟩ := mi_fin ha (mi_wd (plW a b) (miW (plW a b) a)) fa f3 (by omega)
  obtain ⟨f5, r5⟩ := mi_fin hb (mi_wd (plW a b) a) fb f2 (by omega)
  obtain ⟨f6, r6⟩ := pl_fin (mi_wd a (miW (plW a b) (miW (plW a b) a))) (mi_wd b (miW (plW a b) a)) f4 f5 (sum_bound t1.out t2.out t3.out r4.rel r5.rel)
  exact ⟨pl_wd _ _, pl_wd _ _, f1, f6, sum_just (fv_F a) (fv_F b) r1 r2 r3 r4 r5 r6⟩

end Go.Proofs.YtjpaocgimdinmaaGreatDoor

/- Rows of numbers: what with and merged do to a row, in plain terms. -/
namespace Go.Proofs.YtjpaocgimdinmaaGreatDoor
open Go.RowKit
set_option linter.unusedVariables false
set_option maxRecDepth 20000
set_option linter.unusedSimpArgs false

/-- Is it a nought? -/
def noW (x : Nat) : Bool := magW x == 0
def andN (x : Nat) : List Nat := if noW x then [] else [x]
/-- The row with x in its sum. -/
def withL : List Nat → Nat → List Nat
  | [], x => andN x
  | y :: ys, x => andN (sumP x y).2 ++ withL ys (sumP x y).1
/-- The row with all of another one's in its sum. -/
def mergeL : List Nat → List Nat → List Nat
  | A, [] => A
  | A, x :: xs => mergeL (withL A x) xs
def fvL : List Nat → Int
  | [] => 0
  | x :: xs => fvW x + fvL xs
def avL : List Nat → Nat
  | [] => 0
  | x :: xs => (fvW x).natAbs + avL xs
def FinL (L : List Nat) : Prop := ∀ x ∈ L, Wd x ∧ finW x

theorem FinL.nil : FinL [] := fun x h => by simp at h
theorem FinL.head {x : Nat} {L : List Nat} (h : FinL (x :: L)) : Wd x ∧ finW x := h x (by simp)
theorem FinL.tail {x : Nat} {L : List Nat} (h : FinL (x :: L)) : FinL L := fun y hy => h y (by simp [hy])
theorem FinL.append {A B : List Nat} (h : FinL A) (k : FinL B) : FinL (A ++ B) := fun x hx => by
  rcases List.mem_append.1 hx with q | q
  · exact h x q
  · exact k x q
theorem fvL_append (A B : List Nat) : fvL (A ++ B) = fvL A + fvL B := by
  induction A with
  | nil => simp [fvL]
  | cons x A ih => simp only [List.cons_append, fvL, ih]; omega
theorem avL_append (A B : List Nat) : avL (A ++ B) = avL A + avL B := by
  induction A with
  | nil => simp [avL]
  | cons x A ih => simp only [List.cons_append, avL, ih]; omega
theorem vK_zero : vK 0 = 0 := by
  have := vK_word 0 0 (.inl rfl) (by omega)
  simpa using this
theorem fv_no {x : Nat} (h : noW x = true) : fvW x = 0 := by
  have e : magW x = 0 := by simpa [noW] using h
  unfold fvW
  rw [e, vK_zero]
  cases negW x <;> rfl
theorem andN_ok (x : Nat) (h : Wd x ∧ finW x) : FinL (andN x) ∧ fvL (andN x) = fvW x ∧ avL (andN x) ≤ (fvW x).natAbs ∧ (andN x).length ≤ 1 := by
  unfold andN
  cases hn : noW x
  · rw [if_neg (by decide)]
    refine ⟨fun y hy => ?_, by simp [fvL], by simp [avL], by simp⟩
    simp at hy; subst hy; exact h
  · rw [if_pos rfl]
    exact ⟨FinL.nil, by rw [fv_no hn]; rfl, by simp [avL], by simp⟩

/-- A step's growth: both together are at most a little greater than what was put together. -/
theorem sum_grows {a b : Nat} (ha : Wd a ∧ finW a) (hb : Wd b ∧ finW b) {G : Nat} (hab : (fvW a).natAbs + (fvW b).natAbs ≤ 4503599627370496 * G) (hG : 4503599627370496 * G ≤ QQ) :
    TwoP (sumP a b) (fvW a + fvW b) ∧ (fvW (sumP a b).1).natAbs + (fvW (sumP a b).2).natAbs ≤ (fvW a).natAbs + (fvW b).natAbs + G := by
  have t := sum_two ha.1 hb.1 ha.2 hb.2 (by omega) (by omega)
  refine ⟨t, ?_⟩
  have r := (pl_fin ha.1 hb.1 ha.2 hb.2 (by have := Q_pos; omega)).2.rel
  have e := t.val
  have e1 : (sumP a b).1 = plW a b := rfl
  rw [e1] at e ⊢
  generalize fvW (plW a b) = s at *
  generalize fvW (sumP a b).2 = l at *
  generalize fvW a = x at *
  generalize fvW b = y at *
  have e2 : s - (x + y) = -l := by omega
  rw [e2] at r
  have e3 : (-l).natAbs = l.natAbs := Int.natAbs_neg l
  rw [e3] at r
  omega

theorem with_ok (G : Nat) (hG : 4503599627370496 * G ≤ QQ) : ∀ (L : List Nat) (x : Nat), FinL L → Wd x ∧ finW x → avL L + (fvW x).natAbs + L.length * G ≤ 4503599627370496 * G →
    FinL (withL L x) ∧ fvL (withL L x) = fvL L + fvW x ∧ avL (withL L x) ≤ avL L + (fvW x).natAbs + L.length * G ∧ (withL L x).length ≤ L.length + 1 := by
  intro L
  induction L with
  | nil =>
    intro x _ hx _
    obtain ⟨h1, h2, h3, h4⟩ := andN_ok x hx
    refine ⟨h1, ?_, ?_, ?_⟩
    · show fvL (andN x) = _
      rw [h2]; simp [fvL]
    · show avL (andN x) ≤ _
      simp [avL]; omega
    · show (andN x).length ≤ _
      simp; omega
  | cons y ys ih =>
    intro x hL hx hb
    have hy := hL.head
    simp only [avL, List.length_cons] at hb
    rw [Nat.add_mul, Nat.one_mul] at hb
    obtain ⟨t, hg⟩ := sum_grows hx hy (G := G) (by omega) hG
    obtain ⟨h1, h2, h3, h4⟩ := ih (sumP x y).1 hL.tail ⟨t.w1, t.f1⟩ (by omega)
    obtain ⟨k1, k2, k3, k4⟩ := andN_ok (sumP x y).2 ⟨t.w2, t.f2⟩
    show FinL (andN (sumP x y).2 ++ withL ys (sumP x y).1) ∧ fvL (andN (sumP x y).2 ++ withL ys (sumP x y).1) = _ ∧ avL (andN (sumP x y).2 ++ withL ys (sumP x y).1) ≤ _ ∧ (andN (sumP x y).2 ++ withL ys (sumP x y).1).length ≤ _
    refine ⟨k1.append h1, ?_, ?_, ?_⟩
    · rw [fvL_append, k2, h2]
      have := t.val
      simp only [fvL]
      omega
    · rw [avL_append]
      simp only [avL, List.length_cons]
      rw [Nat.add_mul, Nat.one_mul]
      omega
    · rw [List.length_append, List.length_cons]
      omega

theorem merge_ok (G : Nat) (hG : 4503599627370496 * G ≤ QQ) : ∀ (B A : List Nat), FinL A → FinL B → avL A + avL B + B.length * (A.length + B.length) * G ≤ 4503599627370496 * G →
    FinL (mergeL A B) ∧ fvL (mergeL A B) = fvL A + fvL B ∧ avL (mergeL A B) ≤ avL A + avL B + B.length * (A.length + B.length) * G ∧ (mergeL A B).length ≤ A.length + B.length := by
  intro B
  induction B with
  | nil =>
    intro A hA _ _
    exact ⟨hA, by simp [mergeL, fvL], by simp [mergeL, avL], by simp [mergeL]⟩
  | cons x xs ih =>
    intro A hA hB hb
    simp only [avL, List.length_cons] at hb
    have e : (xs.length + 1) * (A.length + (xs.length + 1)) * G = A.length * G + xs.length * (A.length + 1 + xs.length) * G + (xs.length + 1) * G := by
      rw [← Nat.add_mul, ← Nat.add_mul]; congr 1; grind
    rw [e] at hb
    obtain ⟨h1, h2, h3, h4⟩ := with_ok G hG A x hA hB.head (by omega)
    have e2 : xs.length * ((withL A x).length + xs.length) * G ≤ xs.length * (A.length + 1 + xs.length) * G := Nat.mul_le_mul_right _ (Nat.mul_le_mul_left _ (by omega))
    obtain ⟨k1, k2, k3, k4⟩ := ih (withL A x) h1 hB.tail (by omega)
    refine ⟨k1, ?_, ?_, ?_⟩
    · show fvL (mergeL (withL A x) xs) = _
      rw [k2, h2]; simp only [fvL]; omega
    · show avL (mergeL (withL A x) xs) ≤ _
      simp only [avL, List.length_cons]
      rw [e]
      omega
    · show (mergeL (withL A x) xs).length ≤ _
      rw [List.length_cons]; omega

/-- The unit of growth: 2^926. -/
def EG : Nat := 2000
theorem exG : ∃ q : Nat, q = 2 ^ EG := ⟨_, rfl⟩
noncomputable def GG : Nat := Classical.choose exG
theorem G_eq : GG = 2 ^ EG := Classical.choose_spec exG
theorem G_pos : 0 < GG := by rw [G_eq]; exact Nat.two_pow_pos _
theorem G_Q : 4503599627370496 * GG ≤ QQ := by
  rw [G_eq, Q_eq, show (4503599627370496 : Nat) = 2 ^ 52 by decide, ← Nat.pow_add]
  exact Nat.pow_le_pow_right (by decide) (by decide)

theorem dist4 (a b c d G : Nat) : (a + b + c + d) * G = (a + c) * G + b * G + d * G := by
  rw [Nat.add_mul, Nat.add_mul, Nat.add_mul, Nat.add_mul]; omega
theorem dist5 (a b c d e G : Nat) : (a + b + c + d + e) * G = (a + c) * G + (b + d) * G + e * G := by
  rw [Nat.add_mul, Nat.add_mul, Nat.add_mul, Nat.add_mul, Nat.add_mul, Nat.add_mul]; omega
/-- What a row is: its sum; at most n numbers; c steps that it grew by. -/
structure Rk (L : List Nat) (V : Int) (n c : Nat) : Prop where
  fin : FinL L
  val : fvL L = V
  len : L.length ≤ n
  size : avL L ≤ (n * 17179869184 + c) * GG
theorem Rk.nil : Rk [] 0 0 0 := ⟨FinL.nil, rfl, by simp, by simp [avL]⟩
theorem Rk.with {L : List Nat} {V : Int} {n c : Nat} (h : Rk L V n c) {x : Nat} (hx : Wd x ∧ finW x) (hs : (fvW x).natAbs ≤ 17179869184 * GG) (hb : n * 17179869184 + 17179869184 + c + n ≤ 4503599627370496) :
    Rk (withL L x) (V + fvW x) (n + 1) (c + n) := by
  have e1 : L.length * GG ≤ n * GG := Nat.mul_le_mul_right _ h.len
  have e2 : (n * 17179869184 + 17179869184 + c + n) * GG ≤ 4503599627370496 * GG := Nat.mul_le_mul_right _ hb
  have e3 : (n * 17179869184 + 17179869184 + c + n) * GG = (n * 17179869184 + c) * GG + 17179869184 * GG + n * GG := dist4 _ _ _ _ _
  have hsz := h.size
  obtain ⟨h1, h2, h3, h4⟩ := with_ok GG G_Q L x h.fin hx (by omega)
  refine ⟨h1, by rw [h2, h.val], by have := h.len; omega, ?_⟩
  have e4 : ((n + 1) * 17179869184 + (c + n)) * GG = (n * 17179869184 + c) * GG + 17179869184 * GG + n * GG := by rw [Nat.add_mul n 1, Nat.one_mul, ← Nat.add_assoc]; exact dist4 _ _ _ _ _
  rw [e4]
  omega
theorem Rk.merge {A B : List Nat} {V U : Int} {n c m d : Nat} (h : Rk A V n c) (k : Rk B U m d) (hb : (n + m) * 17179869184 + c + d + m * (n + m) ≤ 4503599627370496) :
    Rk (mergeL A B) (V + U) (n + m) (c + d + m * (n + m)) := by
  have e0 : B.length * (A.length + B.length) ≤ m * (n + m) := Nat.mul_le_mul k.len (by have := h.len; have := k.len; omega)
  have e1 : B.length * (A.length + B.length) * GG ≤ m * (n + m) * GG := Nat.mul_le_mul_right _ e0
  have e2 : ((n + m) * 17179869184 + c + d + m * (n + m)) * GG ≤ 4503599627370496 * GG := Nat.mul_le_mul_right _ hb
  have e3 : ((n + m) * 17179869184 + c + d + m * (n + m)) * GG = (n * 17179869184 + c) * GG + (m * 17179869184 + d) * GG + m * (n + m) * GG := by rw [Nat.add_mul n m 17179869184]; exact dist5 _ _ _ _ _ _
  have hs1 := h.size
  have hs2 := k.size
  obtain ⟨h1, h2, h3, h4⟩ := merge_ok GG G_Q B A h.fin k.fin (by omega)
  refine ⟨h1, by rw [h2, h.val, k.val], by have := h.len; have := k.len; omega, ?_⟩
  have e4 : ((n + m) * 17179869184 + (c + d + m * (n + m))) * GG = ((n + m) * 17179869184 + c + d + m * (n + m)) * GG := by rw [← Nat.add_assoc, ← Nat.add_assoc]
  rw [e4, e3]
  omega
end Go.Proofs.YtjpaocgimdinmaaGreatDoor

/- Numbers' forms against powers of two, and against one another. -/
namespace Go.Proofs.YtjpaocgimdinmaaGreatDoor
open Go.RowKit J
set_option linter.unusedVariables false
set_option maxRecDepth 20000
set_option linter.unusedSimpArgs false

/-- A value's size. -/
theorem fo_abs {n : Bool} {X : Nat} {e z L H : Int} (h : Fo (some (n, X, e)) z L H) : X * 2 ^ (e - -2097152).toNat = z.natAbs * SS := by
  obtain ⟨F, hv, _⟩ := h.frm
  unfold zv at hv
  simp only at hv
  have := congrArg Int.natAbs hv
  rw [Int.natAbs_mul, Int.natAbs_mul, Int.natAbs_natCast, Int.natAbs_natCast] at this
  rw [← this]
  unfold sg1; cases n <;> simp
theorem fo_zero {n : Bool} {X : Nat} {e z L H : Int} (h : Fo (some (n, X, e)) z L H) : X = 0 ↔ z = 0 := by
  have a := fo_abs h
  have hS := S_pos
  constructor
  · intro hX
    rw [hX, Nat.zero_mul] at a
    rcases Nat.mul_eq_zero.1 a.symm with q | q <;> omega
  · intro hz
    rw [hz, Int.natAbs_zero, Nat.zero_mul] at a
    rcases Nat.mul_eq_zero.1 a with q | q
    · exact q
    · have := Nat.two_pow_pos (e - -2097152).toNat; omega
theorem cmpZ_scale (x y : Int) (k : Nat) (hk : 0 < k) : cmpZ (x * (k : Int)) (y * (k : Int)) = cmpZ x y := by
  have hlt : ∀ a b : Int, a * (k : Int) < b * (k : Int) ↔ a < b := fun a b => ⟨fun h => Int.lt_of_mul_lt_mul_right h (by omega), fun h => Int.mul_lt_mul_of_pos_right h (by omega)⟩
  unfold cmpZ
  simp only [hlt]
/-- TwoP forms. -/
theorem cmp_fo {n m : Bool} {X Y : Nat} {e f x y L H L' H' : Int} (h1 : Fo (some (n, X, e)) x L H) (h2 : Fo (some (m, Y, f)) y L' H') : cmpV n X e m Y f = cmpZ x y := by
  obtain ⟨F, hv, _⟩ := h1.frm
  obtain ⟨G, hw, _⟩ := h2.frm
  have d1 := F.down
  have d2 := G.down
  rw [cmpV_z n X e m Y f (-2097152) (by omega) (by omega)]
  have a1 : sg1 n * ((X * 2 ^ (e - -2097152).toNat : Nat) : Int) = x * (SS : Int) := hv
  have a2 : sg1 m * ((Y * 2 ^ (f - -2097152).toNat : Nat) : Int) = y * (SS : Int) := hw
  rw [a1, a2, cmpZ_scale x y SS S_pos]
end Go.Proofs.YtjpaocgimdinmaaGreatDoor

/- Exact sums as dyads, by value. -/
namespace Go.Proofs.YtjpaocgimdinmaaGreatDoor
open Go.RowKit
set_option linter.unusedVariables false
set_option maxRecDepth 20000
set_option linter.unusedSimpArgs false

/-- The form of V times 2^-1074. -/
def fo8 (V : Int) : Option (Bool × Nat × Int) := mkS (decide (V < 0)) V.natAbs (-1074)
theorem sg1_abs (V : Int) : sg1 (decide (V < 0)) * (V.natAbs : Int) = V := by
  unfold sg1
  by_cases h : V < 0
  · rw [decide_eq_true h, if_pos rfl]; omega
  · rw [decide_eq_false h, if_neg (by decide)]; omega
theorem fo8_fo (V : Int) (m : Nat) (hm : m ≤ 200000) (hV : V.natAbs < 2 ^ m) : Fo (fo8 V) (V * (UU : Int)) (-1074) ((m : Int) - 1074) := by
  by_cases h0 : V = 0
  · subst h0
    refine ⟨⟨false, 0, 0, ?_, ?_, ?_, .inl rfl⟩⟩
    · unfold fo8; exact mkS_zero _ _
    · exact mkS_frm (mkS_zero false 0)
    · rw [zv_zero _ rfl]; simp
  · obtain ⟨X, e, h1, h2, h3, h4⟩ := mkS_sz (decide (V < 0)) V.natAbs (-1074) (-1074) ((m : Int) - 1074) (by omega) (by omega) (by have := blLe hV; omega) (by omega) (by omega) (by omega)
    refine ⟨⟨_, X, e, h1, mkS_frm h1, ?_, .inr ⟨h3, h4⟩⟩⟩
    rw [zv_mkS h1 (-2097152) (.inr (by omega))]
    have e1 : (2 : Nat) ^ ((-1074 : Int) - -2097152).toNat = UU * SS := US _ (by decide)
    rw [e1, Int.natCast_mul, Int.natCast_mul, ← Int.mul_assoc, sg1_abs, Int.mul_assoc]
theorem fo8_one {o : Option (Bool × Nat × Int)} {V L H : Int} (h : Fo o (V * (UU : Int)) L H) (m : Nat) (hm : m ≤ 200000) (hV : V.natAbs < 2 ^ m) : o = fo8 V := by
  obtain ⟨n, X, e, rfl, F1, z1, _⟩ := h.ex
  obtain ⟨n', X', e', h2, F2, z2, _⟩ := (fo8_fo V m hm hV).ex
  rw [h2]
  obtain ⟨rfl, rfl, rfl⟩ := zv_inj F1 F2 (-2097152) (by omega) (by rw [z1, z2])
  rfl
theorem fo8_frm (V : Int) (m : Nat) (hm : m ≤ 200000) (hV : V.natAbs < 2 ^ m) : ∃ n X e, fo8 V = some (n, X, e) ∧ Frm n X e ∧ (X = 0 ↔ V = 0) ∧ (V ≠ 0 → n = decide (V < 0)) ∧ -1074 ≤ e ∧ e ≤ 200000 := by
  have h := fo8_fo V m hm hV
  obtain ⟨n, X, e, h1, F, z, hb⟩ := h.ex
  have hz := fo_zero (h1 ▸ h)
  have hU := U_pos
  have hz2 : X = 0 ↔ V = 0 := by
    rw [hz]
    constructor
    · intro q
      rcases Int.mul_eq_zero.1 q with q | q
      · exact q
      · omega
    · intro q; rw [q]; simp
  refine ⟨n, X, e, h1, F, hz2, fun hV0 => ?_, ?_⟩
  · have := (round_fo (h1 ▸ h) (fun q => by rcases Int.mul_eq_zero.1 q with q | q; exact hV0 q; omega)).2.1
    rw [this, decide_eq_decide]
    constructor
    · intro q
      by_cases q2 : V < 0
      · exact q2
      · have := Int.mul_nonneg (show 0 ≤ V by omega) (show (0 : Int) ≤ UU by omega); omega
    · intro q; exact Int.mul_neg_of_neg_of_pos q (by omega)
  · rcases hb with q | ⟨q1, q2⟩
    · rcases F.odd with q3 | ⟨_, _, q3⟩
      · omega
      · omega
    · constructor
      · exact q1
      · omega
/-- Sums of forms. -/
theorem fo8_add (V U : Int) (m : Nat) (hm : m ≤ 100000) (hV : V.natAbs < 2 ^ m) (hU : U.natAbs < 2 ^ m) : addD (fo8 V) (fo8 U) = fo8 (V + U) := by
  have h1 := fo8_fo V m (by omega) hV
  have h2 := fo8_fo U m (by omega) hU
  have h3 := h1.add h2 (by omega) (by omega) (by omega)
  rw [← Int.add_mul] at h3
  have : 2 ^ (m + 1) = 2 * 2 ^ m := by rw [Nat.pow_succ, Nat.mul_comm]
  exact fo8_one h3 (m + 1) (by omega) (by omega)
theorem fo8_self (V : Int) (m : Nat) (hm : m ≤ 200000) (hV : V.natAbs < 2 ^ m) : mkS (dN (fo8 V)) (dX (fo8 V)) (dE (fo8 V)) = fo8 V := by
  obtain ⟨n, X, e, h1, F, _⟩ := fo8_frm V m hm hV
  rw [h1]
  exact mkS_idem F
theorem fo8_er (V : Int) (m : Nat) (hm : m ≤ 200000) (hV : V.natAbs < 2 ^ m) : erS (fo8 V) = 0 := by
  obtain ⟨n, X, e, h1, F, _⟩ := fo8_frm V m hm hV
  rw [h1]
  rfl
theorem fo8_neg (V : Int) (m : Nat) (hm : m ≤ 200000) (hV : V.natAbs < 2 ^ m) : mkS (!(dN (fo8 V))) (dX (fo8 V)) (dE (fo8 V)) = fo8 (-V) := by
  obtain ⟨n, X, e, h1, F, h2, h3, h4⟩ := fo8_frm V m hm hV
  have h := fo8_fo V m hm hV
  rw [h1] at h ⊢
  obtain ⟨_, hz, hb⟩ := h.frm
  show mkS (!n) X e = _
  by_cases hX : X = 0
  · have : V = 0 := h2.1 hX
    subst this
    rw [hX]
    unfold fo8
    simp only [Int.neg_zero, Int.natAbs_zero]
    rw [mkS_zero, mkS_zero]
  · have ho : X % 2 = 1 := by rcases F.odd with q | q; exact q; exact absurd q.1 hX
    have hs : mkS (!n) X e = some (!n, X, e) := by
      rw [mkS_odd _ _ _ ho, if_neg (by have := F.size; have := F.up; have := F.down; omega)]
    refine fo8_one (L := -1074) (H := (m : Int) - 1074) ⟨⟨!n, X, e, hs, mkS_frm hs, ?_, hb⟩⟩ m hm (by rw [Int.natAbs_neg]; exact hV)
    have : zv (-2097152) (!n, X, e) = -zv (-2097152) (n, X, e) := by
      unfold zv
      simp only
      rw [sg1_not, Int.neg_mul]
    rw [this, hz, Int.neg_mul, Int.neg_mul]
/-- A form, times a power of two. -/
theorem fo8_up (V : Int) (up m : Nat) (hm : m + up ≤ 100000) (hV : V.natAbs < 2 ^ m) : mkS (dN (fo8 V)) (dX (fo8 V)) (dE (fo8 V) + (up : Nat)) = fo8 (V * 2 ^ up) := by
  obtain ⟨n, X, e, h1, F, h2, h3, h4, h5⟩ := fo8_frm V m (by omega) hV
  have h := fo8_fo V m (by omega) hV
  rw [h1] at h ⊢
  obtain ⟨_, hz, hb⟩ := h.frm
  show mkS n X (e + (up : Nat)) = _
  by_cases hX : X = 0
  · have : V = 0 := h2.1 hX
    subst this
    rw [hX]
    unfold fo8
    simp only [Int.zero_mul, Int.natAbs_zero]
    rw [mkS_zero, mkS_zero]
  · have ho : X % 2 = 1 := by rcases F.odd with q | q; exact q; exact absurd q.1 hX
    rcases hb with hb | ⟨hb1, hb2⟩
    · exact absurd hb hX
    have hs : mkS n X (e + (up : Nat)) = some (n, X, e + (up : Nat)) := by
      rw [mkS_odd _ _ _ ho, if_neg (by have := F.size; have := F.up; have := F.down; omega)]
    refine fo8_one (L := -1074) (H := ((m + up : Nat) : Int) - 1074) ⟨⟨n, X, e + (up : Nat), hs, mkS_frm hs, ?_, .inr ⟨by omega, by omega⟩⟩⟩ (m + up) (by omega) ?_
    · have : zv (-2097152) (n, X, e + (up : Nat)) = zv (-2097152) (n, X, e) * 2 ^ up := by
        unfold zv
        simp only
        have e2 : (e + (up : Nat) - -2097152).toNat = (e - -2097152).toNat + up := by omega
        rw [e2, Nat.pow_add, ← Nat.mul_assoc, Int.natCast_mul, Int.natCast_pow 2 up, ← Int.mul_assoc]
        rfl
      rw [this, hz]
      rw [Int.mul_assoc, Int.mul_comm (SS : Int), ← Int.mul_assoc, Int.mul_assoc V, Int.mul_comm (UU : Int), ← Int.mul_assoc]
    · rw [Int.natAbs_mul, Int.natAbs_pow, Nat.pow_add]
      exact Nat.mul_lt_mul_of_pos_right hV (Nat.two_pow_pos _)
/-- What Of says of a number. -/
theorem top_fv {x : Nat} (hx : Wd x) (fx : finW x) (m : Nat) (hm : m = 2098) : (fvW x).natAbs < 2 ^ m := by
  unfold fvW
  rw [sg_abs]
  have := top_v (magW x) fx 2045 rfl
  obtain ⟨a, ha⟩ : ∃ a, a = 2045 := ⟨_, rfl⟩
  have h2 := top_v (magW x) fx a ha
  rw [show m = 53 + a by omega, Nat.pow_add]
  exact h2
theorem of_fo8 {x : Nat} (hx : Wd x) (fx : finW x) : ofK (negW x) (magW x) = fo8 (fvW x) := by
  obtain ⟨n, X, e, h1, h2, _⟩ := of_fo (negW x) (magW x) fx
  rw [h1]
  exact fo8_one h2 2098 (by omega) (top_fv hx fx 2098 rfl)
end Go.Proofs.YtjpaocgimdinmaaGreatDoor

/- Bins: Add. -/
namespace Go.Proofs.YtjpaocgimdinmaaGreatDoor
open Go Go.RowKit
set_option linter.unusedVariables false
set_option maxRecDepth 20000
set_option linter.unusedSimpArgs false

/-- The slices of a number, by shifts. -/
theorem mask_u9 (n : Int) (h : 0 ≤ n) (h2 : n < 18446744073709551616) : bits .and .u64 n 4294967295 = n % 4294967296 := by
  have := bits_mask .u64 64 (by decide) B.wraps_u64 32 (by decide) n h (by omega)
  exact this
theorem pow_split9 (a b : Nat) (h : b ≤ a) (n : Nat) : n / 2 ^ (a - b) = n * 2 ^ b / 2 ^ a := by
  have : 2 ^ a = 2 ^ (a - b) * 2 ^ b := by rw [← Nat.pow_add, Nat.sub_add_cancel h]
  rw [this, Nat.mul_div_mul_right _ _ (Nat.two_pow_pos b)]
theorem slices9 (F u : Nat) (hu : u ≤ 31) (hF : F < 9007199254740992) :
    (F : Int) / 2 ^ (64 - (u : Int)).toNat = ((sl (F * 2 ^ u) 2 : Nat) : Int) ∧ bits .and .u64 ((F : Int) / 2 ^ (32 - (u : Int)).toNat) 4294967295 = ((sl (F * 2 ^ u) 1 : Nat) : Int) ∧ bits .and .u64 (IntKind.u64.wrap ((F : Int) * 2 ^ (u : Int).toNat)) 4294967295 = ((sl (F * 2 ^ u) 0 : Nat) : Int) ∧ ∀ t, 2 < t → sl (F * 2 ^ u) t = 0 := by
  have hp : 2 ^ u ≤ 2 ^ 31 := Nat.pow_le_pow_right (by decide) hu
  have hN : F * 2 ^ u < 2 ^ 84 := by
    have h1 : F * 2 ^ u ≤ F * 2 ^ 31 := Nat.mul_le_mul_left _ hp
    omega
  obtain ⟨N, hNN⟩ : ∃ N, N = F * 2 ^ u := ⟨_, rfl⟩
  refine ⟨?_, ?_, ?_, ?_⟩
  · have e : (64 - (u : Int)).toNat = 64 - u := by omega
    rw [e, show ((2 : Int) ^ (64 - u)) = ((2 ^ (64 - u) : Nat) : Int) by simp, ← Int.natCast_ediv, pow_split9 64 u (by omega)]
    unfold sl
    rw [show 32 * 2 = 64 from rfl, Nat.mod_eq_of_lt]
    rw [← hNN] at hN ⊢
    omega
  · have e : (32 - (u : Int)).toNat = 32 - u := by omega
    rw [e, show ((2 : Int) ^ (32 - u)) = ((2 ^ (32 - u) : Nat) : Int) by simp, ← Int.natCast_ediv]
    have hq : F / 2 ^ (32 - u) ≤ F := Nat.div_le_self _ _
    have hq2 : F / 2 ^ (32 - u) = N / 2 ^ 32 := by rw [pow_split9 32 u (by omega), hNN]
    obtain ⟨q, hqq⟩ : ∃ q, q = F / 2 ^ (32 - u) := ⟨_, rfl⟩
    rw [← hqq] at hq hq2 ⊢
    rw [mask_u9 _ (by omega) (by omega)]
    unfold sl
    rw [show 32 * 1 = 32 from rfl, ← hNN, ← hq2]
    omega
  · rw [show (u : Int).toNat = u by omega, show ((F : Int) * 2 ^ u) = ((F * 2 ^ u : Nat) : Int) by simp]
    rw [← hNN]
    have hw : IntKind.u64.wrap ((N : Nat) : Int) = (N : Int) % 18446744073709551616 := by simp [IntKind.wrap, IntKind.bits, IntKind.signed]
    rw [hw, mask_u9 _ (by omega) (by omega)]
    unfold sl
    rw [show 32 * 0 = 0 from rfl, Nat.pow_zero, Nat.div_one]
    omega
  · intro t ht
    refine sl_high _ _ (Nat.lt_of_lt_of_le hN (Nat.pow_le_pow_right (by decide) (by omega)))
/-- A number, in units of the lowest bin. -/
def zW (x : Nat) : Int := fvW x * 16384
theorem ss_shift (neg : Bool) (N t0 k : Nat) (z : Int) (hz : z = sgv neg (N * 2 ^ (32 * t0))) : ss z (((t0 + k : Nat)) : Int) = sgv neg (sl N k) := by
  have ha : z.natAbs = N * 2 ^ (32 * t0) := by rw [hz]; unfold sgv; split <;> omega
  unfold ss
  rw [if_neg (by omega), Int.toNat_natCast, ha, sl_shift]
  unfold sgv at *
  cases neg
  · simp only [Bool.false_eq_true, if_false] at *
    rw [if_neg (by omega)]
  · simp only [if_true] at *
    by_cases q : N = 0
    · subst q
      have : sl 0 k = 0 := by unfold sl; simp
      rw [this]; simp
    · have := Nat.mul_pos (Nat.pos_of_ne_zero q) (Nat.two_pow_pos (32 * t0))
      rw [if_pos (by omega)]
theorem ss_low (neg : Bool) (N t0 : Nat) (t : Int) (z : Int) (hz : z = sgv neg (N * 2 ^ (32 * t0))) (h : t < t0) : ss z t = 0 := by
  by_cases q : t < 0
  · exact ss_neg z t q
  · have ha : z.natAbs = N * 2 ^ (32 * t0) := by rw [hz]; unfold sgv; split <;> omega
    unfold ss
    rw [if_neg q, ha, sl_low N t0 t.toNat (by omega)]
    split <;> rfl
theorem zW_parts (x : Nat) (hx : Wd x ∧ finW x) : ∃ t0 u F : Nat, u ≤ 31 ∧ F < 9007199254740992 ∧ t0 ≤ 64 ∧ B.xp (magW x / 4503599627370496) / 32 = (t0 : Int) - 34 ∧ B.xp (magW x / 4503599627370496) - 32 * ((t0 : Int) - 34) = u ∧ B.fr (magW x / 4503599627370496) (magW x % 4503599627370496) = (F : Int) ∧ zW x = sgv (negW x) (F * 2 ^ u * 2 ^ (32 * t0)) ∧ -1074 ≤ B.xp (magW x / 4503599627370496) ∧ B.xp (magW x / 4503599627370496) ≤ 1000 := by
  have hm : magW x < 9218868437227405312 := hx.2
  obtain ⟨e, he⟩ : ∃ e, e = magW x / 4503599627370496 := ⟨_, rfl⟩
  obtain ⟨f, hf⟩ : ∃ f, f = magW x % 4503599627370496 := ⟨_, rfl⟩
  have he2 : e < 2047 := by omega
  have hf2 : f < 4503599627370496 := by omega
  obtain ⟨p, F, hp, hpe, hF, hFr, hv⟩ : ∃ p F : Nat, p ≤ 2045 ∧ B.xp e = (p : Int) - 1074 ∧ F < 9007199254740992 ∧ B.fr e f = (F : Int) ∧ vK (magW x) = F * 2 ^ p := by
    by_cases h0 : e = 0
    · refine ⟨0, f, by omega, by unfold B.xp; rw [if_neg (by omega), if_pos h0]; omega, by omega, by unfold B.fr; rw [if_neg (by omega), if_pos h0], ?_⟩
      have := vK_word 0 f (.inl rfl) (by omega)
      rw [Nat.zero_mul, Nat.zero_add] at this
      rw [show magW x = f by omega]; exact this
    · refine ⟨e - 1, f + 4503599627370496, by omega, by unfold B.xp; rw [if_neg (by omega), if_neg h0]; omega, by omega, by unfold B.fr; rw [if_neg (by omega), if_neg h0]; omega, ?_⟩
      have := vK_word (e - 1) (f + 4503599627370496) (.inr (by omega)) (by omega)
      rw [← this, show magW x = (e - 1) * 4503599627370496 + (f + 4503599627370496) by omega]
  refine ⟨(p + 14) / 32, (p + 14) % 32, F, by omega, hF, by omega, ?_, ?_, ?_, ?_, by rw [← he, hpe]; omega, by rw [← he, hpe]; omega⟩
  · rw [← he, hpe]; omega
  · rw [← he, hpe]; omega
  · rw [← he, ← hf]; exact hFr
  · unfold zW fvW sgv B.sg
    rw [hv]
    have e1 : F * 2 ^ ((p + 14) % 32) * 2 ^ (32 * ((p + 14) / 32)) = F * 2 ^ p * 16384 := by
      rw [Nat.mul_assoc, ← Nat.pow_add, show (p + 14) % 32 + 32 * ((p + 14) / 32) = p + 14 by omega, Nat.pow_add, Nat.mul_assoc]
    rw [e1]
    cases negW x
    · simp
    · simp [Int.neg_mul]
theorem Dq.more {T : Int} {D : Int → Int} (hT : -1 ≤ T ∧ T ≤ 70) (h : ∀ t, T < t → D t = 0) (ha : ∀ t, (D t).natAbs ≤ 2 ^ 73) : Dq T D := ⟨h, fun t => by have := ha t; omega, hT.1, hT.2⟩
theorem hnd_dq {s : Int × (Int → Int)} {b : Nat} {t v : Int} (h : ∀ u, s.1 < u → s.2 u = 0) (ha : ∀ u, (s.2 u).natAbs ≤ b) (hv : v.natAbs ≤ 4294967296) : (∀ u, (hnd s t v).1 < u → (hnd s t v).2 u = 0) ∧ ∀ u, ((hnd s t v).2 u).natAbs ≤ b + 4294967296 := by
  unfold hnd
  split
  · exact ⟨h, fun u => by have := ha u; omega⟩
  · refine ⟨fun u hu => ?_, fun u => ?_⟩
    · simp only at hu ⊢
      unfold upd
      rw [if_neg (by omega), h u (by omega)]
    · simp only
      unfold upd
      have := ha u
      split <;> omega
theorem hnd_top {s : Int × (Int → Int)} {t v : Int} (h0 : -1 ≤ s.1) (h1 : s.1 ≤ 70) (ht : t ≤ 70) : -1 ≤ (hnd s t v).1 ∧ (hnd s t v).1 ≤ 70 := by
  unfold hnd
  split
  · exact ⟨h0, h1⟩
  · simp only; omega

/-- eachSlice, of a finite number. -/
theorem each_any (x : Nat) (hx : Wd x ∧ finW x) (g h f : Nat) (c T : Int) (D : Int → Int) (w : World) (hB : Bs w g f c T D) (hf : f ≤ 8) (hT : -1 ≤ T ∧ T ≤ 66) (hD : ∀ t, T < t → D t = 0) (ha : ∀ t, (D t).natAbs ≤ 2 ^ 73) (hh : h < w.heap.size) (hne : h ≠ g) (hc : w.cell? ⟨h, 0, none⟩ = some (.pointer (some ⟨g, 0, none⟩))) (cl : Int) :
    Calls Tryz.prog 144 #[.agg #[.bool (negW x), .int .i64 cl, .int .i64 (B.xp (magW x / 4503599627370496)), .int .u64 (B.fr (magW x / 4503599627370496) (magW x % 4503599627370496))], .func (.func 145) #[] #[.pointer (some ⟨h, 0, none⟩)]] w fun r w' => r = .returned (.tuple #[]) ∧ Bs w' g f c (max T (tp (zW x).natAbs)) (fun t => D t + ss (zW x) t) ∧ But g w w' := by
  obtain ⟨t0, u, F, hu, hF, ht0, e1, e2, e3, hz, e4, e5⟩ := zW_parts x hx
  obtain ⟨s1, s2, s3, s4⟩ := slices9 F u hu hF
  rw [e3]
  obtain ⟨e, he⟩ : ∃ e, e = B.xp (magW x / 4503599627370496) := ⟨_, rfl⟩
  rw [← he] at e1 e2 e4 e5 ⊢
  have v2 := ss_shift (negW x) (F * 2 ^ u) t0 2 (zW x) hz
  have v1 := ss_shift (negW x) (F * 2 ^ u) t0 1 (zW x) hz
  have v0 := ss_shift (negW x) (F * 2 ^ u) t0 0 (zW x) hz
  have hzz : ∀ t : Int, t < t0 ∨ (t0 : Int) + 2 < t → ss (zW x) t = 0 := by
    intro t ht
    rcases ht with ht | ht
    · exact ss_low (negW x) (F * 2 ^ u) t0 t (zW x) hz ht
    · obtain ⟨k, hk⟩ : ∃ k : Nat, t = ((t0 + k : Nat) : Int) := ⟨(t - t0).toNat, by omega⟩
      rw [hk, ss_shift (negW x) (F * 2 ^ u) t0 k (zW x) hz, s4 k (by omega)]
      unfold sgv; split <;> rfl
  have h3 := hnd_three T D (zW x) t0 hT.1 hzz
  rw [show ((t0 : Int) + 2) = ((t0 + 2 : Nat) : Int) by omega, show ((t0 : Int) + 1) = ((t0 + 1 : Nat) : Int) by omega, v2, v1, show ((t0 : Nat) : Int) = ((t0 + 0 : Nat) : Int) by omega, v0] at h3
  have sv : ∀ s : Nat, s < 4294967296 → (sgv (negW x) s).natAbs ≤ 4294967296 := fun s hs => by unfold sgv; split <;> omega
  have b2 := sv _ (sl_lt (F * 2 ^ u) 2)
  have b1 := sv _ (sl_lt (F * 2 ^ u) 1)
  have b0 := sv _ (sl_lt (F * 2 ^ u) 0)
  obtain ⟨n2, n2'⟩ : ∃ v, v = sgv (negW x) (sl (F * 2 ^ u) 2) := ⟨_, rfl⟩
  obtain ⟨n1, n1'⟩ : ∃ v, v = sgv (negW x) (sl (F * 2 ^ u) 1) := ⟨_, rfl⟩
  obtain ⟨n0, n0'⟩ : ∃ v, v = sgv (negW x) (sl (F * 2 ^ u) 0) := ⟨_, rfl⟩
  have hst : ∀ i, i < 3 → (∀ q, (est T D ((t0 : Int) - 34 + 34) n2 n1 n0 i).1 < q → (est T D ((t0 : Int) - 34 + 34) n2 n1 n0 i).2 q = 0) ∧ (∀ q, ((est T D ((t0 : Int) - 34 + 34) n2 n1 n0 i).2 q).natAbs ≤ 2 ^ 73 + 2 * 4294967296) ∧ -1 ≤ (est T D ((t0 : Int) - 34 + 34) n2 n1 n0 i).1 ∧ (est T D ((t0 : Int) - 34 + 34) n2 n1 n0 i).1 ≤ 70 := by
    intro i hi
    rw [← n2'] at b2
    rw [← n1'] at b1
    have q1 := hnd_dq (s := (T, D)) (b := 2 ^ 73) (t := (t0 : Int) - 34 + 34 + 2) (v := n2) hD ha b2
    have q2 := hnd_dq (t := (t0 : Int) - 34 + 34 + 1) (v := n1) q1.1 q1.2 b1
    have r1 := hnd_top (s := (T, D)) (t := (t0 : Int) - 34 + 34 + 2) (v := n2) hT.1 (by omega) (by omega)
    have r2 := hnd_top (t := (t0 : Int) - 34 + 34 + 1) (v := n1) r1.1 r1.2 (by omega)
    obtain rfl | rfl | rfl : i = 0 ∨ i = 1 ∨ i = 2 := by omega
    · exact ⟨hD, fun q => by have := ha q; show (D q).natAbs ≤ _; omega, hT.1, by show T ≤ 70; omega⟩
    · exact ⟨q1.1, fun q => by have := q1.2 q; show ((hnd (T, D) _ _).2 q).natAbs ≤ _; omega, r1⟩
    · exact ⟨q2.1, fun q => by have := q2.2 q; show ((hnd (hnd (T, D) _ _) _ _).2 q).natAbs ≤ _; omega, r2⟩
  have hcore := each_core (negW x) cl e ((t0 : Int) - 34) u F (sl (F * 2 ^ u) 2) (sl (F * 2 ^ u) 1) (sl (F * 2 ^ u) 0) g h f c T D w e1 e2 (by omega) (by omega) (by omega) hF s1 s2 s3 (sl_lt _ _) (sl_lt _ _) (sl_lt _ _) hB (hid ?_)
  · refine hcore.mono ?_
    rintro r w' ⟨rfl, hE⟩
    refine ⟨rfl, ?_, hE.but⟩
    have := hE.bs
    rw [show est T D ((t0 : Int) - 34 + 34) (sgv (negW x) (sl (F * 2 ^ u) 2)) (sgv (negW x) (sl (F * 2 ^ u) 1)) (sgv (negW x) (sl (F * 2 ^ u) 0)) 3 = (max T (tp (zW x).natAbs), fun t => D t + ss (zW x) t) from by
      rw [← h3]
      show hnd (hnd (hnd (T, D) _ _) _ _) _ _ = _
      congr 2
      · congr 1
        congr 1
        omega
      · omega
      · omega] at this
    exact this
  · intro i j v u2 hi hj hv hv0 hE
    have hs := hst i hi
    have hbt := hE.but
    rw [n2', n1', n0'] at hs
    have hcc : u2.cell? ⟨h, 0, none⟩ = some (.pointer (some ⟨g, 0, none⟩)) := by
      have e1 : u2.heap[h]? = w.heap[h]? := hbt.block h hh hne
      have e3 : u2.cell? ⟨h, 0, none⟩ = w.cell? ⟨h, 0, none⟩ := by unfold World.cell?; simp only; rw [e1]
      rw [e3]; exact hc
    have hvb : v.natAbs ≤ 2 ^ 74 := by
      rw [hv]
      obtain rfl | rfl | rfl : i = 0 ∨ i = 1 ∨ i = 2 := by omega
      · show (sgv _ _).natAbs ≤ _; omega
      · show (sgv _ _).natAbs ≤ _; omega
      · show (sgv _ _).natAbs ≤ _; omega
    have := hand_any g h f c _ j v _ u2 hE.bs ⟨hs.1, fun q => by have := hs.2.1 q; omega, hs.2.2.1, hs.2.2.2⟩ hf (by omega) hvb (by have := hbt.size; omega) hne hcc
    refine this.mono ?_
    rintro r w' ⟨rfl, h1, h2⟩
    refine ⟨rfl, ⟨?_, hbt.trans h2, hE.box.but h2 (by have := hB.lt; omega)⟩⟩
    have hstep : (max (est T D ((t0 : Int) - 34 + 34) (sgv (negW x) (sl (F * 2 ^ u) 2)) (sgv (negW x) (sl (F * 2 ^ u) 1)) (sgv (negW x) (sl (F * 2 ^ u) 0)) i).1 (j + 34), upd (est T D ((t0 : Int) - 34 + 34) (sgv (negW x) (sl (F * 2 ^ u) 2)) (sgv (negW x) (sl (F * 2 ^ u) 1)) (sgv (negW x) (sl (F * 2 ^ u) 0)) i).2 (j + 34) v) = est T D ((t0 : Int) - 34 + 34) (sgv (negW x) (sl (F * 2 ^ u) 2)) (sgv (negW x) (sl (F * 2 ^ u) 1)) (sgv (negW x) (sl (F * 2 ^ u) 0)) (i + 1) := by
      have hnv : ∀ (s : Int × (Int → Int)) (t : Int), (max s.1 t, upd s.2 t v) = hnd s t v := fun s t => by unfold hnd; rw [if_neg hv0]
      rw [hnv, hv, hj]
      obtain rfl | rfl | rfl : i = 0 ∨ i = 1 ∨ i = 2 := by omega
      · show hnd (T, D) _ _ = hnd (T, D) _ _
        congr 1; omega
      · show hnd (hnd (T, D) _ _) _ _ = hnd (hnd (T, D) _ _) _ _
        congr 1; omega
      · show hnd (hnd (hnd (T, D) _ _) _ _) _ _ = hnd (hnd (hnd (T, D) _ _) _ _) _ _
        congr 1; omega
    rw [← hstep]
    exact h1
end Go.Proofs.YtjpaocgimdinmaaGreatDoor

/- Bins: New, Add. -/
namespace Go.Proofs.YtjpaocgimdinmaaGreatDoor
open Go Go.RowKit
set_option linter.unusedVariables false
set_option maxRecDepth 20000
set_option linter.unusedSimpArgs false

theorem Bs.fold {w : World} {g f : Nat} {c T : Int} {D : Int → Int} (h : Bs w g f c T D) : w.cell? ⟨g, 0, none⟩ = some (.int .i64 f) := Bl.cell h 0 _ rfl
theorem Bs.cnt {w : World} {g f : Nat} {c T : Int} {D : Int → Int} (h : Bs w g f c T D) : w.cell? ⟨g, 1, none⟩ = some (.int .i64 c) := Bl.cell h 1 _ rfl
theorem Bs.tp {w : World} {g f : Nat} {c T : Int} {D : Int → Int} (h : Bs w g f c T D) : w.cell? ⟨g, 2, none⟩ = some (.int .i64 (T - 34)) := Bl.cell h 2 _ rfl
theorem Bs.inc {w : World} {g f : Nat} {c T : Int} {D : Int → Int} (h : Bs w g f c T D) (c' : Int) : Bs (w.setCell ⟨g, 1, none⟩ (.int .i64 c')) g f c' T D := Bl.set h 1 _
theorem Bs.froz {w : World} {g f : Nat} {c T : Int} {D : Int → Int} (h : Bs w g f c T D) (i : Nat) : w.frozen? ⟨g, i, none⟩ = false := Bl.frozen h i

set_option maxHeartbeats 400000 in
theorem New9 (f : Nat) (w : World) (h0 : 1 ≤ f) (h1 : f ≤ 8) : Calls Tryz.prog 25 #[.int .i64 f] w fun r w' => r = .returned (.pointer (some ⟨w.heap.size, 0, none⟩)) ∧ Bs w' w.heap.size f 0 (-1) (fun _ => 0) ∧ Below w.heap.size w w' := by
  have d0 : decide ((f : Int) < 1) = false := by simp; omega
  have d1 : decide (8 < (f : Int)) = false := by simp; omega
  go_enter Tryz.func25, Tryz.ntmps25
  go_wp2
  go_ret
  refine ⟨rfl, ?_, bel_alloc _ _⟩
  have e : kf f (-1) (fun _ => 0) = fun _ => 0 := by funext k; unfold kf; split <;> rfl
  unfold Bs Bn
  rw [e]
  exact Bl.new w _ _
set_option maxHeartbeats 400000 in
theorem New9_no (f : Int) (w : World) (h : f < 1 ∨ 8 < f) : Calls Tryz.prog 25 #[.int .i64 f] w fun r w' => r = .returned (.pointer none) ∧ w' = w := by
  rcases h with h | h
  · have d0 : decide (f < 1) = true := by simp; omega
    go_enter Tryz.func25, Tryz.ntmps25
    go_wp2
    go_ret
    exact ⟨rfl, rfl⟩
  · have d0 : decide (f < 1) = false := by simp; omega
    have d1 : decide (8 < f) = true := by simp; omega
    go_enter Tryz.func25, Tryz.ntmps25
    go_wp2
    go_ret
    exact ⟨rfl, rfl⟩
set_option maxHeartbeats 400000 in
theorem Add_long (g f x : Nat) (c T : Int) (D : Int → Int) (w : World) (hB : Bs w g f c T D) (hc : 1099511627776 ≤ c) : Calls Tryz.prog 68 #[.pointer (some ⟨g, 0, none⟩), .float .f64 x] w fun r w' => r = .returned (.int .i64 2) ∧ Below w.heap.size w w' := by
  have k1 := hB.cnt
  have hl := hB.lt
  have d1 : decide (1099511627776 ≤ c) = true := by simp; omega
  clear hB
  go_enter Tryz.func68, Tryz.ntmps68
  go_wp2
  go_ret
  exact ⟨rfl, bel_alloc _ _⟩
set_option maxHeartbeats 400000 in
theorem Add_core (g f x : Nat) (c c' T T' : Int) (D D' : Int → Int) (n : Bool) (cl e F : Int) (w : World) (hB : Bs w g f c T D) (hc : c < 1099511627776) (hc0 : 0 ≤ c) (hcl : cl ≠ 3 ∧ cl ≠ 4)
    (HS : Hid (∀ u, Calls Tryz.prog 143 #[.float .f64 x] u fun r w' => r = .returned (.agg #[.bool n, .int .i64 cl, .int .i64 e, .int .u64 F]) ∧ Below u.heap.size u w'))
    (HE : Hid (∀ u, Bs u g f c T D → w.heap.size < u.heap.size → u.cell? ⟨w.heap.size, 0, none⟩ = some (.pointer (some ⟨g, 0, none⟩)) → Calls Tryz.prog 144 #[.agg #[.bool n, .int .i64 cl, .int .i64 e, .int .u64 F], .func (.func 145) #[] #[.pointer (some ⟨w.heap.size, 0, none⟩)]] u fun r w' => r = .returned (.tuple #[]) ∧ Bs w' g f c T' D' ∧ But g u w')) :
    Calls Tryz.prog 68 #[.pointer (some ⟨g, 0, none⟩), .float .f64 x] w fun r w' => r = .returned (.int .i64 0) ∧ Bs w' g f (c + 1) T' D' ∧ But g w w' := by
  have k1 := hB.cnt
  have hl := hB.lt
  have d1 : decide (1099511627776 ≤ c) = false := by simp; omega
  have d3 : (cl == 3) = false := by simp; omega
  have d4 : (cl == 4) = false := by simp; omega
  have HB := Aside.intro hB
  clear hB hcl
  obtain ⟨W, hW⟩ : ∃ W, W = w.alloc (.cells #[.pointer (some ⟨g, 0, none⟩)] 76) := ⟨_, rfl⟩
  have HW : Aside (Bl W w.heap.size 76 [.pointer (some ⟨g, 0, none⟩)] ∧ Below w.heap.size w W) := by
    subst hW; exact ⟨Bl.new w 76 [_], bel_alloc _ _⟩
  go_enter Tryz.func68, Tryz.ntmps68
  go_wp2_with fail
  rw [← hW]
  clear hW k1
  with_reducible refine (HS.out _).mono ?_
  rintro r u ⟨rfl, hb⟩
  have HU : Aside (Bl u w.heap.size 76 [.pointer (some ⟨g, 0, none⟩)] ∧ Below w.heap.size w u ∧ w.heap.size < u.heap.size) := ⟨HW.out.1.below hb HW.out.1.lt, HW.out.2.trans (hb.mono HW.out.2.size), by have := HW.out.1.lt; have := hb.size; omega⟩
  have hs := HU.out.2.2
  clear HW hb
  obtain ⟨U, hU⟩ : ∃ U, U = u.alloc (.cells #[.bool n, .int .i64 cl, .int .i64 e, .int .u64 F] 195) := ⟨_, rfl⟩
  have HV : Aside (Bl U w.heap.size 76 [.pointer (some ⟨g, 0, none⟩)] ∧ Bs U g f c T D ∧ But g w U ∧ w.heap.size < U.heap.size) := by
    subst hU
    exact ⟨HU.out.1.alloc _, ((HB.out.below HU.out.2.1 HB.out.lt).alloc _), ((But.refl g w).of_bel9 HU.out.2.1).alloc _, by simp; omega⟩
  go_wp2_with fail
  rw [← hU]
  clear hU
  with_reducible refine (HE.out U HV.out.2.1 HV.out.2.2.2 (HV.out.1.cell 0 _ rfl)).mono ?_
  rintro r v ⟨rfl, hBv, hbt⟩
  have c0 := (HV.out.1.but hbt (by omega)).cell 0 _ rfl
  have c1 := hBv.cnt
  have c2 := hBv.froz 1
  have HX := Aside.intro (And.intro (hBv.inc (c + 1)) ((HV.out.2.2.1.trans hbt).set 1 (.int .i64 (c + 1))))
  clear hBv hbt HV HE HS HB HU
  go_wp2
  go_ret
  exact ⟨rfl, HX.out.1, HX.out.2⟩
set_option maxHeartbeats 400000 in
theorem Add_odd (g f x : Nat) (c T : Int) (D : Int → Int) (n : Bool) (cl e F : Int) (w : World) (hB : Bs w g f c T D) (hc : c < 1099511627776) (hcl : cl = 3 ∨ cl = 4)
    (HS : Hid (∀ u, Calls Tryz.prog 143 #[.float .f64 x] u fun r w' => r = .returned (.agg #[.bool n, .int .i64 cl, .int .i64 e, .int .u64 F]) ∧ Below u.heap.size u w')) :
    Calls Tryz.prog 68 #[.pointer (some ⟨g, 0, none⟩), .float .f64 x] w fun r w' => r = .returned (.int .i64 30) ∧ Below w.heap.size w w' := by
  have k1 := hB.cnt
  have hl := hB.lt
  have d1 : decide (1099511627776 ≤ c) = false := by simp; omega
  clear hB
  obtain ⟨W, hW⟩ : ∃ W, W = w.alloc (.cells #[.pointer (some ⟨g, 0, none⟩)] 76) := ⟨_, rfl⟩
  have HW : Aside (Below w.heap.size w W) := by subst hW; exact bel_alloc _ _
  rcases hcl with rfl | rfl
  all_goals
    go_enter Tryz.func68, Tryz.ntmps68
    go_wp2_with fail
    rw [← hW]
    clear hW k1
    with_reducible refine (HS.out _).mono ?_
    rintro r u ⟨rfl, hb⟩
    have HU : Aside (Below w.heap.size w u) := HW.out.trans (hb.mono HW.out.size)
    clear hb
    go_wp2
    go_ret
    exact ⟨rfl, HU.out.trans ((bel_alloc _ _).mono HU.out.size)⟩
theorem split9 (x : Nat) (hx : Wd x) (u : World) : ∃ n e f, magW x / 4503599627370496 = e ∧ magW x % 4503599627370496 = f ∧ n = B.ng (negW x) e f ∧ Calls Tryz.prog 143 #[.float .f64 x] u fun r w' => r = .returned (.agg #[.bool n, .int .i64 (B.cls e f), .int .i64 (B.xp e), .int .u64 (B.fr e f)]) ∧ Below u.heap.size u w' := by
  refine ⟨_, _, _, rfl, rfl, rfl, ?_⟩
  have hm : magW x < 9223372036854775808 := by unfold magW; omega
  have h1 : x = B.bw (negW x) (magW x / 4503599627370496) (magW x % 4503599627370496) := by
    have := wd_of x hx
    unfold wd64 at this
    unfold B.bw
    cases h : negW x <;> simp only [h] at this ⊢ <;> simp at this ⊢ <;> omega
  have := B.Split_any (negW x) (magW x / 4503599627370496) (magW x % 4503599627370496) (by omega) (by omega) u
  rw [← h1] at this
  exact this
end Go.Proofs.YtjpaocgimdinmaaGreatDoor

