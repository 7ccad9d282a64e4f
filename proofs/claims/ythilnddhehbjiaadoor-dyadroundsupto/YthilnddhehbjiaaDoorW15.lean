/- Len, Bit, Of, Small. -/
import Derived.Test.YthilnddhehbjiaaDoorW13x
import Derived.Test.YthilnddhehbjiaaDoorM5x
import Derived.BigQuiet
namespace Go.Proofs.YthilnddhehbjiaaDoor
open Go.RowKit
set_option linter.unusedVariables false
set_option maxRecDepth 20000

theorem form_top (xs : List Nat) (hx : Wf xs) (k : Nat) (hk : nl xs = k + 1) : val xs = sg xs 0 k + pw k * xs.getD k 0 ∧ sg xs 0 k < pw k ∧ xs.getD k 0 ≠ 0 ∧ k < xs.length := by
  have hl := nl_le xs
  have h1 := val_form xs hx
  rw [hk, val_take_succ xs k (by omega), ← sg_val_take] at h1
  have h2 := nl_last xs (by omega)
  rw [hk, Nat.add_sub_cancel] at h2
  exact ⟨h1.symm, sg_lt xs 0 k hx (by omega), h2, by omega⟩

theorem bl_words (xs : List Nat) (hx : Wf xs) (k : Nat) (hk : nl xs = k + 1) : bl (val xs) = 32 * k + bl (xs.getD k 0) := by
  obtain ⟨e, hlt, h0, hl⟩ := form_top xs hx k hk
  obtain ⟨t, ht⟩ : ∃ t, xs.getD k 0 = t := ⟨_, rfl⟩
  rw [ht] at e h0 ⊢
  obtain ⟨c, hc⟩ : ∃ c, bl t = c + 1 := ⟨bl t - 1, by have := bl_pos t h0; omega⟩
  have h1 := bl_ge t h0
  have h2 := bl_lt t
  rw [hc] at h1 h2 ⊢
  rw [Nat.add_sub_cancel] at h1
  have p1 : 2 ^ (32 * k + c) = pw k * 2 ^ c := pw_two k c
  have p2 : 2 ^ (32 * k + c + 1) = pw k * 2 ^ (c + 1) := by rw [Nat.add_assoc, pw_two]
  have := bl_eq (val xs) (32 * k + c) (by
    rw [p1, e]
    have := Nat.mul_le_mul_left (pw k) h1
    omega) (by
    rw [p2, e]
    have : pw k * (t + 1) ≤ pw k * 2 ^ (c + 1) := Nat.mul_le_mul_left (pw k) (by omega)
    rw [Nat.mul_add] at this
    omega)
  omega

set_option maxHeartbeats 1000000 in
theorem len_any (xs : List Nat) (ao : Option Addr) (n cap B : Nat) (w : World) (hn : n = xs.length) (hc : n ≤ cap) (hm : n ≤ 70368744177664) (hx : Wf xs) (hR : Rd B w ao xs) :
    Calls Tryd.prog 57 #[.slice ao n cap] w fun r w' => r = .returned (.int .i64 (bl (val xs) : Nat)) ∧ w' = w := by
  have H := hid (trim_any xs ao n cap B w hn hc (by omega) hR)
  have hl := nl_le xs
  rcases hk : nl xs with _ | k
  · rw [(nl_zero_iff xs).1 hk, bl_zero]
    rw [hk] at H
    clear hk hl hn hx hR
    go_enter Tryd.func57, Tryd.ntmps57
    go_wp2_with fail
    refine (Calls.mono H.out) ?_
    rintro r w1 ⟨rfl, rfl⟩
    go_wp2
    go_ret
    exact ⟨rfl, rfl⟩
  · rw [bl_words xs hx k hk]
    rw [hk] at H hl
    obtain ⟨e, hlt, h0, hl2⟩ := form_top xs hx k hk
    obtain ⟨b, off, hB, rfl, hcell⟩ := hR (by intro e; subst e; simp at hl)
    have hck := hcell k hl2
    obtain ⟨t, ht⟩ : ∃ t, xs.getD k 0 = t := ⟨_, rfl⟩
    have htl : t < 4294967296 := ht ▸ hx.get k
    rw [ht] at hck ⊢
    have H2 := hid (len32_any t w htl)
    have hb := bl_le32 t htl
    obtain ⟨c, hc'⟩ : ∃ c, bl t = c := ⟨_, rfl⟩
    rw [hc'] at H2 hb ⊢
    have hkn : k < n := by omega
    clear hk hl hn hx hR e hlt h0 hl2 hcell ht hc'
    go_enter Tryd.func57, Tryd.ntmps57
    go_wp2_with fail
    refine (Calls.mono H.out) ?_
    rintro r w1 ⟨rfl, rfl⟩
    go_wp2_with fail
    refine (Calls.mono H2.out) ?_
    rintro r w1 ⟨rfl, rfl⟩
    go_wp2
    go_ret
    exact ⟨congrArg (fun z => Ending.returned (Value.int IntKind.i64 z)) (by omega), rfl⟩

set_option maxHeartbeats 1000000 in
theorem of_any (x : Nat) (w : World) (hx : x < 18446744073709551616) :
    Calls Tryd.prog 55 #[.int .u64 (x : Int)] w fun r w' => ∃ v, r = .returned v ∧ Nt w.heap.size w' v x ∧ Below w.heap.size w w' := by
  obtain ⟨a, ha⟩ : ∃ a, a = x % 4294967296 := ⟨_, rfl⟩
  obtain ⟨b, hb⟩ : ∃ b, b = x / 4294967296 := ⟨_, rfl⟩
  have e1 : (x : Int) % 4294967296 = (a : Int) := by omega
  have e2 : (x : Int) / 4294967296 = (b : Int) := by omega
  have hx2 : (x : Int) < 18446744073709551616 := by omega
  have hO : Own (w.alloc (.cells #[.int .u32 (a : Int), .int .u32 (b : Int)] 61)) w.heap.size [a, b] := by
    unfold Own; rw [heap_alloc_new]; rfl
  have hW : Wf [a, b] := Wf.cons (by omega) (Wf.cons (by omega) Wf.nil)
  have hv : val [a, b] = x := by simp only [val]; omega
  have T := hid (trim_any [a, b] (some ⟨w.heap.size, 0, none⟩) 2 2 (w.heap.size + 1) _ rfl (by omega) (by omega) (by simpa using Rd.ofOwn hO 0 2))
  have HH := (Aside.intro (And.intro hO (And.intro hW hv)))
  clear hO hW hv ha hb hx
  go_enter Tryd.func55, Tryd.ntmps55
  go_wp2_with fail
  refine (Calls.mono T.out) ?_
  rintro r w1 ⟨rfl, rfl⟩
  go_wp2
  go_ret
  obtain ⟨hO, hW, hv⟩ := HH.out
  refine ⟨_, rfl, ?_, (Below.refl _ _).alloc (Nat.le_refl _) _⟩
  have N := Nt.ofOwn (lo := w.heap.size) hO (Nat.le_refl _) hW (by simp [maxLen])
  rw [hv] at N
  exact N
end Go.Proofs.YthilnddhehbjiaaDoor
