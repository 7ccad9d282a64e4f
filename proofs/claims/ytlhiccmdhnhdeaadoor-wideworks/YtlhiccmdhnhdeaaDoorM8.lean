/- Long division: what holds from word to word. -/
import Derived.Test.YtlhiccmdhnhdeaaDoorM7
import Derived.Test.YtlhiccmdhnhdeaaDoorM5
import Derived.Test.YtlhiccmdhnhdeaaDoorM6
namespace Go.Proofs.YtlhiccmdhnhdeaaDoor
open Go.RowKit
set_option linter.unusedVariables false

theorem Own.but {w w' : World} {g k : Nat} {L : List Nat} (h : Own w k L) (hb : But g w w') (hk : k ≠ g) : Own w' k L := by
  have := h.lt
  unfold Own at h ⊢
  rw [hb.block k this hk]; exact h

/-- Two Nats share no memory. -/
def Apart (v1 v2 : Value) : Prop := ∀ g, v1.ownBlock = some g → v2.ownBlock ≠ some g

theorem Nt.lt {lo : Nat} {w : World} {v : Value} {X : Nat} (h : Nt lo w v X) : ∀ g, v.ownBlock = some g → lo ≤ g ∧ g < w.heap.size := fun g hg => World.ownsRow.lt h g hg

theorem apart_of {lo m hi : Nat} {w w2 : World} {v1 v2 : Value} {X Y : Nat} (h1 : Nt lo w v1 X) (h2 : Nt m w2 v2 Y) (hm : w.heap.size ≤ m) : Apart v1 v2 := by
  intro g hg e
  have a := (h1.lt g hg).2
  have b := (h2.lt g e).1
  omega

theorem apart_nil (v : Value) : Apart (.slice none 0 0) v := by intro g hg; simp [Value.ownBlock] at hg

theorem div_ring (p b q V o a c : Nat) : b * p * q * V + (a + p * (o * V + c)) = p * (o + b * q) * V + (a + p * c) := by grind

theorem val_low (M : List Nat) (i k d : Nat) (hd : M.length = i + k + d) (hz : sg M (i + k) d = 0) : val M = sg M 0 i + pw i * sg M i k := by
  have h1 := sg_all M
  rw [hd] at h1
  have h2 := sg_add M 0 (i + k) d (by omega)
  have h3 := sg_add M 0 i k (by omega)
  rw [Nat.zero_add] at h2 h3
  rw [hz, Nat.mul_zero, Nat.add_zero] at h2
  rw [← h1, h2, h3]

theorem sg_put (Q : List Nat) (i r o : Nat) (hQ : i + 1 + r = Q.length) : sg (Q.set i o) i (r + 1) = o + 4294967296 * sg Q (i + 1) r := by
  have h1 := sg_front (Q.set i o) i r (by simp; omega)
  have h2 := getD_set_same Q i o (by omega)
  have h3 := sg_set_below Q (i + 1) r i o (by omega) (by omega)
  rw [h2, h3] at h1
  exact h1

theorem low_lt (a p s V : Nat) (h1 : a < p) (h2 : s < V) : a + p * s < p * V := by
  have h : p * (s + 1) ≤ p * V := Nat.mul_le_mul_left _ h2
  rw [Nat.mul_add, Nat.mul_one] at h
  omega

/-- One word of a quotient more: i counts down. -/
theorem div_step (M M2 Q : List Nat) (i m r V o X : Nat) (hM : Wf M) (hi : i + (m + 1) ≤ M.length) (ho : Out M M2 i (m + 1))
    (hinv : X = pw (i + 1) * sg Q (i + 1) r * V + val M) (hz : sg M (i + (m + 1)) (M.length - (i + (m + 1))) = 0) (hQ : i + 1 + r = Q.length)
    (hs : sg M i (m + 1) = o * V + sg M2 i (m + 1)) (hlt : sg M2 i (m + 1) < V) :
    X = pw i * sg (Q.set i o) i (r + 1) * V + val M2 ∧ val M2 < pw i * V := by
  obtain ⟨d, hd⟩ : ∃ d, d = M.length - (i + (m + 1)) := ⟨_, rfl⟩
  rw [← hd] at hz
  have hl : M2.length = M.length := ho.1
  have e1 := val_low M i (m + 1) d (by omega) hz
  have hz2 : sg M2 (i + (m + 1)) d = 0 := by rw [ho.above (i + (m + 1)) d (by omega) (by omega)]; exact hz
  have e2 := val_low M2 i (m + 1) d (by omega) hz2
  have e3 : sg M2 0 i = sg M 0 i := ho.below 0 i (by omega) (by omega)
  have e4 := sg_put Q i r o hQ
  have h1 := sg_lt M 0 i hM (by omega)
  rw [e3] at e2
  rw [hs] at e1
  refine ⟨?_, by rw [e2]; exact low_lt _ _ _ _ h1 hlt⟩
  rw [hinv, e1, e2, e4, pw_succ]
  exact div_ring _ _ _ _ _ _ _

/-- What lies above the words that are looked at is nought, and they are below the divisor times the base. -/
theorem div_head (M : List Nat) (i m V : Nat) (hM : Wf M) (hi : i + (m + 1) ≤ M.length) (hV : V < pw m) (hlt : val M < pw (i + 1) * V) :
    sg M (i + (m + 1)) (M.length - (i + (m + 1))) = 0 ∧ sg M i (m + 1) < V * 4294967296 := by
  obtain ⟨d, hd⟩ : ∃ d, M.length = i + (m + 1) + d := ⟨M.length - (i + (m + 1)), by omega⟩
  have e1 : val M = sg M 0 i + pw i * (sg M i (m + 1) + pw (m + 1) * sg M (i + (m + 1)) d) := by
    rw [← sg_all M, hd, show i + (m + 1) + d = i + (m + 1 + d) by omega, sg_add M 0 i (m + 1 + d) (by omega), Nat.zero_add, sg_add M i (m + 1) d (by omega)]
  rw [hd, Nat.add_sub_cancel_left]
  obtain ⟨S, hS⟩ : ∃ S, sg M i (m + 1) + pw (m + 1) * sg M (i + (m + 1)) d = S := ⟨_, rfl⟩
  rw [hS] at e1
  have h1 : S < 4294967296 * V := by
    by_cases h : S < 4294967296 * V
    · exact h
    · exfalso
      have : pw i * (4294967296 * V) ≤ pw i * S := Nat.mul_le_mul_left _ (by omega)
      have e : pw (i + 1) * V = pw i * (4294967296 * V) := by rw [pw_succ, Nat.mul_comm 4294967296, Nat.mul_assoc]
      omega
  have h2 : 4294967296 * V < pw (m + 1) := by rw [pw_succ]; exact Nat.mul_lt_mul_of_pos_left hV (by decide)
  constructor
  · rcases Nat.eq_zero_or_pos (sg M (i + (m + 1)) d) with h | h
    · exact h
    · exfalso
      have : pw (m + 1) * 1 ≤ pw (m + 1) * sg M (i + (m + 1)) d := Nat.mul_le_mul_left _ h
      omega
  · rw [Nat.mul_comm]; omega

/-- A divisor whose highest bit is a one. -/
theorem up_form (Y m z : Nat) (hY : Y ≠ 0) (h1 : pw (m - 1) * 2 ^ (31 - z) ≤ Y) (h2 : Y < pw (m - 1) * 2 ^ (32 - z)) (hz : z < 32) (hm : 0 < m) :
    (ws (Y * 2 ^ z)).length = m ∧ Y * 2 ^ z < pw m ∧ 2147483648 ≤ (ws (Y * 2 ^ z)).getD (m - 1) 0 := by
  obtain ⟨k, rfl⟩ : ∃ k, m = k + 1 := ⟨m - 1, by omega⟩
  rw [Nat.add_sub_cancel] at h1 h2 ⊢
  have a1 : pw k * 2147483648 ≤ Y * 2 ^ z := by
    have := Nat.mul_le_mul_right (2 ^ z) h1
    rw [Nat.mul_assoc, ← Nat.pow_add, show 31 - z + z = 31 by omega] at this
    exact this
  have a2 : Y * 2 ^ z < pw (k + 1) := by
    have := Nat.mul_lt_mul_of_pos_right h2 (Nat.two_pow_pos z)
    rw [Nat.mul_assoc, ← Nat.pow_add, show 32 - z + z = 32 by omega] at this
    rw [pw_succ, Nat.mul_comm 4294967296]; exact this
  have hp := pw_pos k
  have hl := ws_len_eq (Y * 2 ^ z) k (by omega) a2
  refine ⟨hl, a2, ?_⟩
  have hw := wf_ws (Y * 2 ^ z)
  have hv := val_ws (Y * 2 ^ z)
  rw [← sg_all, hl, sg_succ _ 0 k (by omega), Nat.zero_add] at hv
  have hs := sg_lt (ws (Y * 2 ^ z)) 0 k hw (by omega)
  by_cases h : 2147483648 ≤ (ws (Y * 2 ^ z)).getD k 0
  · exact h
  · exfalso
    have : pw k * ((ws (Y * 2 ^ z)).getD k 0 + 1) ≤ pw k * 2147483648 := Nat.mul_le_mul_left _ (by omega)
    rw [Nat.mul_add] at this
    omega

theorem div_end (X Y P q r : Nat) (hP : 0 < P) (h : X * P = q * (Y * P) + r) (hr : r < Y * P) : q = X / Y ∧ r / P = X % Y := by
  have hY : 0 < Y := by
    rcases Nat.eq_zero_or_pos Y with e | e
    · subst e; rw [Nat.zero_mul] at hr; omega
    · exact e
  have hq : X * P / (Y * P) = q := by
    rw [h, Nat.add_comm, Nat.add_mul_div_right _ _ (Nat.mul_pos hY hP), Nat.div_eq_of_lt hr, Nat.zero_add]
  have hm : X * P % (Y * P) = r := by
    rw [h, Nat.add_comm, Nat.add_mul_mod_self_right, Nat.mod_eq_of_lt hr]
  rw [Nat.mul_div_mul_right _ _ hP] at hq
  rw [Nat.mul_mod_mul_right] at hm
  exact ⟨hq.symm, by rw [← hm, Nat.mul_div_cancel _ hP]⟩
end Go.Proofs.YtlhiccmdhnhdeaaDoor
