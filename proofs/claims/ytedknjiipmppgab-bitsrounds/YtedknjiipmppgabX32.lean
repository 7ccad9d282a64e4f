/- What Widen and its twin of the document answer, at every number of 32 bits; Narrow of what was widened. -/
import Derived.Test.YtedknjiipmppgabW9
import Derived.Test.YtedknjiipmppgabS32
import Derived.Test.YtedknjiipmppgabN4
namespace Go.Proofs.Ytedknjiipmppgab
open Go.RowKit
attribute [local go_sem] f64bits f64frombits f32bits f32frombits

theorem bx_word (s : Bool) (e f : Nat) : bx s e f = Ieee.single.word s (e * 8388608 + f) := by
  unfold bx Ieee.Format.word
  rw [sSign]
  cases s <;> simp [Nat.add_assoc]

theorem ord32_self (s : Bool) (e f : Nat) (he : e < 256) (hf : f < 8388608) (h : odx e f = false) : (FloatKind.f32.format.order (bx s e f) (bx s e f) != some .eq) = false := by
  have h1 : FloatKind.f32.format.order (bx s e f) (bx s e f) = some .eq := by
    show Ieee.single.order _ _ = _
    have := not_odx e f h
    rw [bx_word, order_word Ieee.single sHs sHb s s _ _ (by rw [sInf]; omega) (by rw [sInf]; omega), Int.compare_eq_eq.2 rfl]
  rw [h1]; rfl

theorem ord32_odd (s : Bool) (e f : Nat) (hf : f < 8388608) (h : odx e f = true) : (FloatKind.f32.format.order (bx s e f) (bx s e f) != some .eq) = true := by
  have h1 : FloatKind.f32.format.order (bx s e f) (bx s e f) = none := by
    obtain ⟨h2, h3⟩ := is_odx e f h
    show (Ieee.single.read (bx s e f)).order _ = none
    have e1 : bx s e f % Ieee.single.signWeight = e * 8388608 + f := by
      rw [sSign]; unfold bx; cases s <;> simp only [Bool.toNat_true, Bool.toNat_false] <;> omega
    rw [read_nan Ieee.single _ (by rw [e1, sInf]; omega) sHb]
    rfl
  rw [h1]; rfl

theorem widen_odd (s : Bool) (e f : Nat) (hf : f < 8388608) (h : odx e f = true) : ∀ w, Calls Try.prog 15 #[.float .f32 (bx s e f)] w fun r w' => r = .returned (.float .f64 9221120237041090560) ∧ w' = w :=
  widen_nan _ (ord32_odd s e f hf h)

theorem widen_end (s : Bool) : ∀ w, Calls Try.prog 15 #[.float .f32 (bx s 255 0)] w fun r w' => r = .returned (.float .f64 (bw s 2047 0)) ∧ w' = w := by
  have cv : floatToFloatBits .f32 (bx s 255 0) .f64 = some (bw s 2047 0) := by cases s <;> decide
  exact widen_num _ _ (ord32_self s 255 0 (by omega) (by omega) rfl) (fun w => run_convert_float_float w _ _ .f32 .f64 _ _ (by kernel_rfl) Try.underlying22 cv)

theorem widen_fin (s : Bool) (e f E F : Nat) (he : e < 255) (hf : f < 8388608) (hE : E < 2047) (hF : F < 4503599627370496) (hv : val Ieee.double (E * 4503599627370496 + F) = val Ieee.single (e * 8388608 + f) * 2 ^ gp) :
    ∀ w, Calls Try.prog 15 #[.float .f32 (bx s e f)] w fun r w' => r = .returned (.float .f64 (bw s E F)) ∧ w' = w := by
  have ho : odx e f = false := by
    have : (e == 255) = false := by simp; omega
    simp [odx, this]
  refine widen_num _ _ (ord32_self s e f (by omega) hf ho) (fun w => run_convert_float_float w _ _ .f32 .f64 _ _ (by kernel_rfl) Try.underlying22 ?_)
  rw [bx_word]
  exact widen_bits s _ E F (by omega) hE hF hv

set_option maxHeartbeats 1000000 in
theorem rw_odd (X : Nat) (s : Bool) (x g : Int) (H1 : Hid (∀ w, Calls Try.prog 19 #[.float .f32 X] w fun r w' => r = .returned (.agg #[.bool s, .int .i64 4, .int .i64 x, .int .u64 g]) ∧ Below w.heap.size w w')) (w : World) :
    Calls Try.prog 17 #[.float .f32 X] w fun r w' => r = .returned (.float .f64 9221120237041090560) ∧ Below w.heap.size w w' := by
  go_enter Try.func17, Try.ntmps17
  go_wp2_with fail
  refine (H1.out _).mono ?_
  rintro r w1 ⟨rfl, hb⟩
  go_wp2_with (go_at_call 39; refine (rnan_any _).mono ?_; rintro r w2 ⟨rfl, rfl⟩)
  go_ret
  exact ⟨rfl, hb.alloc hb.size _⟩

set_option maxHeartbeats 1000000 in
theorem rw_end (X : Nat) (s : Bool) (x g : Int) (H1 : Hid (∀ w, Calls Try.prog 19 #[.float .f32 X] w fun r w' => r = .returned (.agg #[.bool s, .int .i64 3, .int .i64 x, .int .u64 g]) ∧ Below w.heap.size w w')) (w : World) :
    Calls Try.prog 17 #[.float .f32 X] w fun r w' => r = .returned (.float .f64 (bw s 2047 0)) ∧ Below w.heap.size w w' := by
  go_enter Try.func17, Try.ntmps17
  go_wp2_with fail
  refine (H1.out _).mono ?_
  rintro r w1 ⟨rfl, hb⟩
  go_wp2_with (go_at_call 40; refine (endless_any _ _).mono ?_; rintro r w2 ⟨rfl, rfl⟩)
  go_ret
  exact ⟨rfl, hb.alloc hb.size _⟩

set_option maxHeartbeats 1000000 in
theorem rw_fin (X B : Nat) (s : Bool) (c x g : Int) (c4 : (c == 4) = false) (c3 : (c == 3) = false)
    (H1 : Hid (∀ w, Calls Try.prog 19 #[.float .f32 X] w fun r w' => r = .returned (.agg #[.bool s, .int .i64 c, .int .i64 x, .int .u64 g]) ∧ Below w.heap.size w w'))
    (H2 : Hid (∀ w, Calls Try.prog 41 #[.bool s, .int .u64 g, .int .i64 x] w fun r w' => r = .returned (.tuple #[.float .f64 B, .bool true]) ∧ w' = w)) (w : World) :
    Calls Try.prog 17 #[.float .f32 X] w fun r w' => r = .returned (.float .f64 B) ∧ Below w.heap.size w w' := by
  go_enter Try.func17, Try.ntmps17
  go_wp2_with fail
  refine (H1.out _).mono ?_
  rintro r w1 ⟨rfl, hb⟩
  go_wp2_with (go_at_call 41; refine (H2.out _).mono ?_; rintro r w2 ⟨rfl, rfl⟩)
  go_ret
  exact ⟨rfl, hb.alloc hb.size _⟩

theorem rwiden_odd (s : Bool) (e f : Nat) (he : e < 256) (hf : f < 8388608) (h : odx e f = true) : ∀ w, Calls Try.prog 17 #[.float .f32 (bx s e f)] w fun r w' => r = .returned (.float .f64 9221120237041090560) ∧ Below w.heap.size w w' := by
  have hc : cly e f = 4 := by unfold cly; rw [if_pos (is_odx e f h).1, if_neg (is_odx e f h).2]
  have H := rSplit32_any s e f he hf
  rw [hc] at H
  exact rw_odd _ _ _ _ H
theorem rwiden_end (s : Bool) : ∀ w, Calls Try.prog 17 #[.float .f32 (bx s 255 0)] w fun r w' => r = .returned (.float .f64 (bw s 2047 0)) ∧ Below w.heap.size w w' :=
  rw_end _ s 0 0 (rSplit32_any s 255 0 (by omega) (by omega))
theorem rwiden_fin (s : Bool) (e f E F : Nat) (he : e < 255) (hf : f < 8388608) (hE : E < 2047) (hF : F < 4503599627370496) (hv : val Ieee.double (E * 4503599627370496 + F) = val Ieee.single (e * 8388608 + f) * 2 ^ gp) :
    ∀ w, Calls Try.prog 17 #[.float .f32 (bx s e f)] w fun r w' => r = .returned (.float .f64 (bw s E F)) ∧ Below w.heap.size w w' := by
  have H := rSplit32_any s e f (by omega) hf
  have hn : nh s e f = s := if_neg (by omega)
  rw [hn] at H
  have hc : (cly e f == 4) = false ∧ (cly e f == 3) = false := by
    unfold cly
    rw [if_neg (by omega)]
    by_cases h : e = 0
    · rw [if_pos h]; split <;> exact ⟨rfl, rfl⟩
    · rw [if_neg h]; exact ⟨rfl, rfl⟩
  refine rw_fin _ _ s _ _ _ hc.1 hc.2 H (fun w => ?_)
  have hfs : 0 ≤ fs e f ∧ fs e f < 16777216 := by
    unfold fs; rw [if_neg (by omega)]; split <;> omega
  have hxq : -149 ≤ xq e ∧ xq e ≤ 104 := by
    unfold xq; rw [if_neg (by omega)]; split <;> omega
  have hval : val Ieee.double (E * 4503599627370496 + F) = (fs e f).toNat * 2 ^ (xq e + 1074).toNat := by
    rw [hv]
    unfold val fs xq
    rw [sBin, if_neg (show ¬ e = 255 by omega), if_neg (show ¬ e = 255 by omega)]
    have hg := gp_eq
    by_cases h : e = 0
    · subst h
      rw [if_pos rfl, if_pos rfl, if_pos (show 0 * 8388608 + f < 8388608 by omega), show 0 * 8388608 + f = f from by omega, Int.toNat_natCast, show ((-149 : Int) + 1074).toNat = gp from by omega]
    · rw [if_neg h, if_neg h, if_neg (show ¬ e * 8388608 + f < 8388608 by omega), Nat.mul_assoc, ← Nat.pow_add, show (e * 8388608 + f) % 8388608 = f from by omega, show ((f : Int) + 8388608).toNat = 8388608 + f from by omega, show (e * 8388608 + f) / 8388608 - 1 + gp = ((e : Int) - 150 + 1074).toNat from by omega]
  have := make_is s (fs e f).toNat (xq e) E F (by omega) (by omega) (by omega) hE hF hval w
  rwa [Int.toNat_of_nonneg hfs.1] at this

/-- what was widened is narrowed to itself. -/
theorem narrow_back (s : Bool) (r E F : Nat) (k : Int) (hr : r ≤ 2139095039) (hE : E < 2047) (hF : F < 4503599627370496) (hv : val Ieee.double (E * 4503599627370496 + F) = val Ieee.single r * 2 ^ gp) (k0 : 0 ≤ k) (k4 : k ≤ 4) :
    ∀ w, Calls Try.prog 12 #[.float .f64 (bw s E F), .int .i64 k] w fun q w' => q = .returned (.tuple #[.float .f32 (Ieee.single.word s r), .int .i64 0]) ∧ Below w.heap.size w w' := by
  by_cases h0 : E * 4503599627370496 + F = 0
  · have hr0 : r = 0 := by
      rw [h0, val_zero] at hv
      have hp : 0 < 2 ^ gp := Nat.two_pow_pos _
      rcases Nat.mul_eq_zero.1 hv.symm with h | h
      · exact val_inj Ieee.single (h.trans (val_zero _).symm)
      · omega
    have hE0 : E = 0 := by omega
    have hF0 : F = 0 := by omega
    rw [hr0, hE0, hF0]
    exact narrow_zero s k k0 k4
  · have hfl : Floor (val Ieee.double (E * 4503599627370496 + F)) r := by
      refine ⟨hr, by rw [hv]; exact Nat.le_refl _, Or.inr ?_⟩
      rw [hv]
      exact Nat.mul_lt_mul_of_pos_right (val_lt_succ _ _) (Nat.two_pow_pos _)
    have h := narrow_fin s E F r k hE hF (by omega) k0 k4 hfl
    have hn : nr (val Ieee.double (E * 4503599627370496 + F)) r k s = r := by
      unfold nr tkS; rw [if_pos hv]; rfl
    rw [hn] at h; exact h
end Go.Proofs.Ytedknjiipmppgab
