/- Numbers of 32 bits: their fields, what Split32 and its twin of the document answer. -/
import Derived.Test.YtedknjiipmppgabW3
namespace Go.Proofs.Ytedknjiipmppgab
open Go.RowKit
attribute [local go_sem] f64bits f64frombits f32bits f32frombits

def bx (s : Bool) (e f : Nat) : Nat := s.toNat * 2147483648 + e * 8388608 + f
theorem bx_of (b : Nat) (hb : b < 4294967296) : ∃ s e f, e < 256 ∧ f < 8388608 ∧ b = bx s e f := by
  refine ⟨decide (2147483648 ≤ b), b % 2147483648 / 8388608, b % 8388608, by omega, by omega, ?_⟩
  unfold bx
  by_cases h : 2147483648 ≤ b
  · rw [decide_eq_true h]; simp only [Bool.toNat_true]; omega
  · rw [decide_eq_false h]; simp only [Bool.toNat_false]; omega
theorem bx_lt (s : Bool) (e f : Nat) (he : e < 256) (hf : f < 8388608) : bx s e f < 4294967296 := by
  unfold bx; cases s <;> simp only [Bool.toNat_true, Bool.toNat_false] <;> omega
theorem bx_exp (s : Bool) (e f : Nat) (he : e < 256) (hf : f < 8388608) : bits .and .i64 ((bx s e f : Int) / 8388608) 255 = (e : Int) := by
  have hl := bx_lt s e f he hf
  have h := bits_mask .i64 63 (by decide) wraps_i64 8 (by decide) ((bx s e f : Int) / 8388608) (by omega) (by omega)
  rw [show ((2 : Int) ^ 8 - 1) = 255 from rfl] at h
  rw [h]
  unfold bx; cases s <;> simp only [Bool.toNat_true, Bool.toNat_false] <;> omega
theorem bx_frac (s : Bool) (e f : Nat) (he : e < 256) (hf : f < 8388608) : bits .and .u64 ((bx s e f : Nat) : Int) 8388607 = (f : Int) := by
  have hl := bx_lt s e f he hf
  have h := bits_mask .u64 64 (by decide) wraps_u64 23 (by decide) (bx s e f : Int) (by omega) (by omega)
  rw [show ((2 : Int) ^ 23 - 1) = 8388607 from rfl] at h
  rw [h]
  unfold bx; cases s <;> simp only [Bool.toNat_true, Bool.toNat_false] <;> omega
theorem bx_sign (s : Bool) (e f : Nat) (he : e < 256) (hf : f < 8388608) : bits .and .u64 ((bx s e f : Int) / 2147483648) 1 = (s.toNat : Int) := by
  have hl := bx_lt s e f he hf
  have h := bits_mask .u64 64 (by decide) wraps_u64 1 (by decide) ((bx s e f : Int) / 2147483648) (by omega) (by omega)
  rw [show ((2 : Int) ^ 1 - 1) = 1 from rfl] at h
  rw [h]
  unfold bx; cases s <;> simp only [Bool.toNat_true, Bool.toNat_false] <;> omega
theorem frac_or32 (f : Nat) (hf : f < 8388608) : bits .or .u64 (f : Int) 8388608 = (f : Int) + 8388608 := by
  have hc : bits .or .u64 (f : Int) 8388608 = bits .or .u64 8388608 (f : Int) := by simp only [bits, BitVec.or_comm]
  rw [hc, bits_join .u64 64 (by decide) wraps_u64 23 8388608 (f : Int) (by decide) (by decide) (by decide) (by omega) (by omega) (by omega)]
  omega
def cly (e f : Nat) : Int := if e = 255 then (if f = 0 then 3 else 4) else if e = 0 then (if f = 0 then 0 else 1) else 2
def xq (e : Nat) : Int := if e = 255 then 0 else if e = 0 then -149 else (e : Int) - 150
def fs (e f : Nat) : Int := if e = 255 then 0 else if e = 0 then (f : Int) else (f : Int) + 8388608
def nh (s : Bool) (e f : Nat) : Bool := if e = 255 ∧ f ≠ 0 then false else s
def splitX (s : Bool) (e f : Nat) : Value := pv (nh s e f) (cly e f) (xq e) (fs e f)
theorem splitX_odd (s : Bool) (e f : Nat) (h : e = 255) (h2 : ((f : Int) != 0) = true) : splitX s e f = .agg #[.bool false, .int .i64 4, .int .i64 0, .int .u64 0] := by
  have : f ≠ 0 := by intro h; subst h; simp at h2
  simp [splitX, pv, nh, cly, xq, fs, h, this]
theorem splitX_end (s : Bool) (e f : Nat) (h : e = 255) (h2 : ((f : Int) != 0) = false) : splitX s e f = .agg #[.bool s, .int .i64 3, .int .i64 0, .int .u64 0] := by
  have : f = 0 := by simp at h2; omega
  simp [splitX, pv, nh, cly, xq, fs, h, this]
theorem splitX_nought (s : Bool) (e f : Nat) (h : e = 0) (h2 : ((f : Int) == 0) = true) : splitX s e f = .agg #[.bool s, .int .i64 0, .int .i64 (-149), .int .u64 0] := by
  have : f = 0 := by simp at h2; omega
  simp [splitX, pv, nh, cly, xq, fs, h, this]
theorem splitX_small (s : Bool) (e f : Nat) (h : e = 0) (h2 : ((f : Int) == 0) = false) : splitX s e f = .agg #[.bool s, .int .i64 1, .int .i64 (-149), .int .u64 f] := by
  have : f ≠ 0 := by intro h; subst h; simp at h2
  simp [splitX, pv, nh, cly, xq, fs, h, this]
theorem splitX_plain (s : Bool) (e f : Nat) (h : e ≠ 255) (h2 : e ≠ 0) : splitX s e f = .agg #[.bool s, .int .i64 2, .int .i64 ((e : Int) - 150), .int .u64 ((f : Int) + 8388608)] := by
  simp [splitX, pv, nh, cly, xq, fs, h, h2]
theorem bx_exp2 (s : Bool) (e f : Nat) (he : e < 256) (hf : f < 8388608) : (bx s e f : Int) / 8388608 % 256 = e := by
  unfold bx; cases s <;> simp only [Bool.toNat_true, Bool.toNat_false] <;> omega
theorem bx_frac2 (s : Bool) (e f : Nat) (hf : f < 8388608) : (bx s e f : Int) % 8388608 = f := by
  unfold bx; cases s <;> simp only [Bool.toNat_true, Bool.toNat_false] <;> omega
theorem bx_sign2 (s : Bool) (e f : Nat) (he : e < 256) (hf : f < 8388608) : (bx s e f : Int) / 2147483648 % 2 = s.toNat := by
  unfold bx; cases s <;> simp only [Bool.toNat_true, Bool.toNat_false] <;> omega
def odx (e f : Nat) : Bool := e == 255 && f != 0
theorem not_odx (e f : Nat) (h : odx e f = false) : ¬ (e = 255 ∧ f ≠ 0) := by
  rintro ⟨h1, h2⟩; simp [odx, h1, h2] at h
theorem is_odx (e f : Nat) (h : odx e f = true) : e = 255 ∧ f ≠ 0 := by
  simpa [odx] using h
def cc (s : Bool) (e f : Nat) : Nat := if e = 255 ∧ f ≠ 0 then 2143289344 else bx s e f
theorem cc_odd (s : Bool) (e f : Nat) (h : e = 255 ∧ f ≠ 0) : cc s e f = 2143289344 := if_pos h
theorem cc_else (s : Bool) (e f : Nat) (h : ¬ (e = 255 ∧ f ≠ 0)) : cc s e f = bx s e f := if_neg h
theorem bx_mod (s : Bool) (e f : Nat) (he : e < 256) (hf : f < 8388608) : (bx s e f : Int) % 2147483648 = (e : Int) * 8388608 + f := by
  unfold bx; cases s <;> simp only [Bool.toNat_true, Bool.toNat_false] <;> omega

set_option maxHeartbeats 1000000 in
theorem split32_any (s : Bool) (e f : Nat) (he : e < 256) (hf : f < 8388608) (w : World) :
    Calls Try.prog 42 #[.int .u64 (bx s e f), .int .u64 23, .int .u64 8, .int .i64 (-149)] w fun r w' => r = .returned (splitX s e f) ∧ Below w.heap.size w w' := by
  have hl := bx_lt s e f he hf
  have h1 := bx_exp s e f he hf
  have h2 := bx_frac s e f he hf
  have h3 := bx_sign s e f he hf
  have h4 := frac_or32 f hf
  have h5 : ((s.toNat : Int) == 1) = s := by cases s <;> rfl
  go_enter Try.func42, Try.ntmps42
  go_wp2
  · rw [splitX_odd s e f (by omega) ‹_›]
    exact bodyPost_ret (v := .agg #[.bool false, .int .i64 4, .int .i64 0, .int .u64 0]) (by simp [results, Try.results42, go_sem]) rfl ⟨rfl, (by repeat (first | exact Below.refl _ _ | assumption | exact Nat.le_refl _ | (simp; done) | (simp; omega) | refine Below.alloc ?_ ?_ _ | refine Below.setCell ?_ ?_ _ | refine Below.drew ?_))⟩
  · rw [splitX_end s e f (by omega) ‹_›]
    exact bodyPost_ret (v := .agg #[.bool s, .int .i64 3, .int .i64 0, .int .u64 0]) (by simp [results, Try.results42, go_sem]) rfl ⟨rfl, (by repeat (first | exact Below.refl _ _ | assumption | exact Nat.le_refl _ | (simp; done) | (simp; omega) | refine Below.alloc ?_ ?_ _ | refine Below.setCell ?_ ?_ _ | refine Below.drew ?_))⟩
  · rw [splitX_nought s e f (by omega) ‹_›]
    exact bodyPost_ret (v := .agg #[.bool s, .int .i64 0, .int .i64 (-149), .int .u64 0]) (by simp [results, Try.results42, go_sem]) rfl ⟨rfl, (by repeat (first | exact Below.refl _ _ | assumption | exact Nat.le_refl _ | (simp; done) | (simp; omega) | refine Below.alloc ?_ ?_ _ | refine Below.setCell ?_ ?_ _ | refine Below.drew ?_))⟩
  · rw [splitX_small s e f (by omega) ‹_›]
    exact bodyPost_ret (v := .agg #[.bool s, .int .i64 1, .int .i64 (-149), .int .u64 f]) (by simp [results, Try.results42, go_sem]) rfl ⟨rfl, (by repeat (first | exact Below.refl _ _ | assumption | exact Nat.le_refl _ | (simp; done) | (simp; omega) | refine Below.alloc ?_ ?_ _ | refine Below.setCell ?_ ?_ _ | refine Below.drew ?_))⟩
  · rw [splitX_plain s e f (by omega) (by omega)]
    refine bodyPost_ret (v := .agg #[.bool s, .int .i64 2, .int .i64 ((e : Int) - 150), .int .u64 ((f : Int) + 8388608)]) (by simp [results, Try.results42, go_sem]; try omega) rfl ⟨rfl, (by repeat (first | exact Below.refl _ _ | assumption | exact Nat.le_refl _ | (simp; done) | (simp; omega) | refine Below.alloc ?_ ?_ _ | refine Below.setCell ?_ ?_ _ | refine Below.drew ?_))⟩

set_option maxHeartbeats 1000000 in
theorem parts32_any (s : Bool) (e f : Nat) (he : e < 256) (hf : f < 8388608) (w : World) :
    Calls Try.prog 43 #[.int .u64 (bx s e f), .int .i64 8, .int .i64 23] w fun r w' => r = .returned (splitX s e f) ∧ Below w.heap.size w w' := by
  have hl := bx_lt s e f he hf
  have h1 := bx_exp2 s e f he hf
  have h2 := bx_frac2 s e f hf
  have h3 := bx_sign2 s e f he hf
  have h5 : ((s.toNat : Int) == 1) = s := by cases s <;> rfl
  go_enter Try.func43, Try.ntmps43
  go_wp2
  · have hh : e = 255 := by first | omega | exact beq_nat_true e 255 ‹_›
    rw [splitX_odd s e f hh (by simp; omega)]
    exact bodyPost_ret (v := .agg #[.bool false, .int .i64 4, .int .i64 0, .int .u64 0]) (by simp [results, Try.results43, go_sem]) rfl ⟨rfl, (by repeat (first | exact Below.refl _ _ | assumption | exact Nat.le_refl _ | (simp; done) | (simp; omega) | refine Below.alloc ?_ ?_ _ | refine Below.setCell ?_ ?_ _ | refine Below.drew ?_))⟩
  · have hh : e = 255 := by first | omega | exact beq_nat_true e 255 ‹_›
    rw [splitX_end s e f hh (by simp; omega)]
    exact bodyPost_ret (v := .agg #[.bool s, .int .i64 3, .int .i64 0, .int .u64 0]) (by simp [results, Try.results43, go_sem]) rfl ⟨rfl, (by repeat (first | exact Below.refl _ _ | assumption | exact Nat.le_refl _ | (simp; done) | (simp; omega) | refine Below.alloc ?_ ?_ _ | refine Below.setCell ?_ ?_ _ | refine Below.drew ?_))⟩
  · have hh : e ≠ 255 := by intro hq; subst hq; simp_all
    rw [splitX_plain s e f hh (by omega)]
    refine bodyPost_ret (v := .agg #[.bool s, .int .i64 2, .int .i64 ((e : Int) - 150), .int .u64 ((f : Int) + 8388608)]) (by simp [results, Try.results43, go_sem]; try omega) rfl ⟨rfl, (by repeat (first | exact Below.refl _ _ | assumption | exact Nat.le_refl _ | (simp; done) | (simp; omega) | refine Below.alloc ?_ ?_ _ | refine Below.setCell ?_ ?_ _ | refine Below.drew ?_))⟩
  · rw [splitX_small s e f (by omega) (by simp; omega)]
    exact bodyPost_ret (v := .agg #[.bool s, .int .i64 1, .int .i64 (-149), .int .u64 f]) (by simp [results, Try.results43, go_sem]) rfl ⟨rfl, (by repeat (first | exact Below.refl _ _ | assumption | exact Nat.le_refl _ | (simp; done) | (simp; omega) | refine Below.alloc ?_ ?_ _ | refine Below.setCell ?_ ?_ _ | refine Below.drew ?_))⟩
  · rw [splitX_nought s e f (by omega) (by simp; omega)]
    refine bodyPost_ret (v := .agg #[.bool s, .int .i64 0, .int .i64 (-149), .int .u64 0]) (by simp [results, Try.results43, go_sem]; try omega) rfl ⟨rfl, (by repeat (first | exact Below.refl _ _ | assumption | exact Nat.le_refl _ | (simp; done) | (simp; omega) | refine Below.alloc ?_ ?_ _ | refine Below.setCell ?_ ?_ _ | refine Below.drew ?_))⟩

theorem split32_lit (s : Bool) (e f : Nat) (he : e < 256) (hf : f < 8388608) (w : World) :
    Calls Try.prog 42 #[.int .u64 (bx s e f), .int .u64 23, .int .u64 8, .int .i64 (-149)] w fun r w' => r = .returned (.agg #[.bool (nh s e f), .int .i64 (cly e f), .int .i64 (xq e), .int .u64 (fs e f)]) ∧ Below w.heap.size w w' :=
  split32_any s e f he hf w
theorem parts32_lit (s : Bool) (e f : Nat) (he : e < 256) (hf : f < 8388608) (w : World) :
    Calls Try.prog 43 #[.int .u64 (bx s e f), .int .i64 8, .int .i64 23] w fun r w' => r = .returned (.agg #[.bool (nh s e f), .int .i64 (cly e f), .int .i64 (xq e), .int .u64 (fs e f)]) ∧ Below w.heap.size w w' :=
  parts32_any s e f he hf w

set_option maxHeartbeats 1000000 in
theorem Split32_any (s : Bool) (e f : Nat) (he : e < 256) (hf : f < 8388608) (w : World) :
    Calls Try.prog 18 #[.float .f32 (bx s e f)] w fun r w' => r = .returned (.agg #[.bool (nh s e f), .int .i64 (cly e f), .int .i64 (xq e), .int .u64 (fs e f)]) ∧ Below w.heap.size w w' := by
  have hl := bx_lt s e f he hf
  go_enter Try.func18, Try.ntmps18
  go_wp2_with (go_at_call 42; refine (split32_lit s e f he hf _).mono ?_; rintro r w1 ⟨rfl, hb⟩; (obtain ⟨hc, hfz⟩ := bcell hb; have hz : w.heap.size < w1.heap.size := by (have := hb.size; simp at this; omega)))
  exact bodyPost_ret (v := (.agg #[.bool (nh s e f), .int .i64 (cly e f), .int .i64 (xq e), .int .u64 (fs e f)])) (by simp [results, Try.results18, go_sem, hc]) rfl ⟨rfl, (by repeat (first | exact Below.refl _ _ | exact ((Below.refl _ _).alloc (Nat.le_refl _) _).trans (hb.mono (by simp)) | exact Nat.le_refl _ | (simp; done) | (simp; omega) | refine Below.alloc ?_ ?_ _ | refine Below.setCell ?_ ?_ _ | refine Below.drew ?_))⟩

set_option maxHeartbeats 1000000 in
theorem rBits32_any (s : Bool) (e f : Nat) (he : e < 256) (hf : f < 8388608) (w : World) :
    Calls Try.prog 44 #[.float .f32 (bx s e f)] w fun r w' => r = .returned (.int .u32 (cc s e f)) ∧ w' = w := by
  have hl := bx_lt s e f he hf
  have h1 := bx_mod s e f he hf
  by_cases h : e = 255 ∧ f ≠ 0
  · have h2 : (2139095040 : Int) < (e : Int) * 8388608 + f := by omega
    rw [cc_odd s e f h]
    clear h
    go_enter Try.func44, Try.ntmps44
    go_wp2
    go_ret
    exact ⟨rfl, rfl⟩
  · have h2 : ¬ (2139095040 : Int) < (e : Int) * 8388608 + f := by omega
    rw [cc_else s e f h]
    clear h
    go_enter Try.func44, Try.ntmps44
    go_wp2
    go_ret
    exact ⟨rfl, rfl⟩

theorem cc_bx (s : Bool) (e f : Nat) (he : e < 256) (hf : f < 8388608) : ∃ t u v, u < 256 ∧ v < 8388608 ∧ cc s e f = bx t u v ∧ (Value.agg #[.bool (nh t u v), .int .i64 (cly u v), .int .i64 (xq u), .int .u64 (fs u v)]) = (.agg #[.bool (nh s e f), .int .i64 (cly e f), .int .i64 (xq e), .int .u64 (fs e f)]) := by
  by_cases h : e = 255 ∧ f ≠ 0
  · refine ⟨false, 255, 4194304, by omega, by omega, ?_, ?_⟩
    · rw [cc_odd s e f h]; rfl
    · obtain ⟨rfl, h2⟩ := h
      simp [nh, cly, xq, fs, h2]
  · exact ⟨s, e, f, he, hf, cc_else s e f h, rfl⟩

set_option maxHeartbeats 1000000 in
theorem rSplit32_core (X : Nat) (t : Bool) (u v : Nat) (hu : u < 256) (hv : v < 8388608)
    (H1 : Hid (∀ w, Calls Try.prog 44 #[.float .f32 X] w fun r w' => r = .returned (.int .u32 (bx t u v)) ∧ w' = w)) (w : World) :
    Calls Try.prog 19 #[.float .f32 X] w fun r w' => r = .returned (.agg #[.bool (nh t u v), .int .i64 (cly u v), .int .i64 (xq u), .int .u64 (fs u v)]) ∧ Below w.heap.size w w' := by
  have hl := bx_lt t u v hu hv
  go_enter Try.func19, Try.ntmps19
  go_wp2_with (first
    | (go_at_call 44; refine (H1.out _).mono ?_; rintro r w1 ⟨rfl, rfl⟩)
    | (go_at_call 43; refine (parts32_lit t u v hu hv _).mono ?_; rintro r w1 ⟨rfl, hb⟩; (obtain ⟨hc, hfz⟩ := bcell hb; have hz : w.heap.size < w1.heap.size := by (have := hb.size; simp at this; omega))))
  exact bodyPost_ret (v := .agg #[.bool (nh t u v), .int .i64 (cly u v), .int .i64 (xq u), .int .u64 (fs u v)]) (by simp [results, Try.results19, go_sem, hc]) rfl ⟨rfl, (by repeat (first | exact Below.refl _ _ | exact ((Below.refl _ _).alloc (Nat.le_refl _) _).trans (hb.mono (by simp)) | exact Nat.le_refl _ | (simp; done) | (simp; omega) | refine Below.alloc ?_ ?_ _ | refine Below.setCell ?_ ?_ _ | refine Below.drew ?_))⟩

theorem rSplit32_any (s : Bool) (e f : Nat) (he : e < 256) (hf : f < 8388608) (w : World) :
    Calls Try.prog 19 #[.float .f32 (bx s e f)] w fun r w' => r = .returned (.agg #[.bool (nh s e f), .int .i64 (cly e f), .int .i64 (xq e), .int .u64 (fs e f)]) ∧ Below w.heap.size w w' := by
  obtain ⟨t, u, v, hu, hv, hE, hV⟩ := cc_bx s e f he hf
  have hB := rBits32_any s e f he hf
  rw [hE] at hB
  rw [← hV]
  exact rSplit32_core _ t u v hu hv hB w
end Go.Proofs.Ytedknjiipmppgab
