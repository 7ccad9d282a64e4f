import Derived.Test.YthilnddhehbjiaaDoorO9
import Derived.Test.YthilnddhehbjiaaDoorO6x
import Derived.Test.YthilnddhehbjiaaDoorO15
/- DyadRounds: the document's Nearby at 32 bits. -/
namespace Go.Proofs.YthilnddhehbjiaaDoor.S
open Go.RowKit
set_option linter.unusedVariables false
set_option maxRecDepth 20000
theorem bl_le24 (X : Nat) (h : X < 16777216) : bl X ≤ 24 := bl_le (k := 24) h
theorem lenL (X : Nat) (h : (ws X).length ≤ 8192) : (ws X).length ≤ 8192 := h
/-- What a form is rounded to, of 32 bits, with no sign. -/
def rW (mode : Int) (n : Bool) (X : Nat) (e : Int) : Nat := if X = 0 then 0 else rndK mode n X e

def num32 (k : Nat) : Nat × Int := if k / 8388608 = 0 then (k % 8388608, -149) else (8388608 + k % 8388608, -149 + ((k / 8388608 : Nat) : Int) - 1)

set_option maxHeartbeats 4000000 in
theorem rNumber32_low (K : Int) (V : Nat) (w : World) (e1 : K / 8388608 = 0) (hK0 : 0 ≤ K) (hK1 : K ≤ 2139095040)
    (HO : Hid (∀ u, Calls Tryd.prog 76 #[.int .u64 (K % 8388608)] u fun r w' => ∃ v, r = .returned v ∧ Nt u.heap.size w' v V ∧ Below u.heap.size u w')) :
    Calls Tryd.prog 113 #[.agg #[.int .i64 24, .int .i64 (-149), .int .u64 2139095040], .int .u64 K] w fun r w' => ∃ v, r = .returned (.tuple #[v, .int .i64 (-149)]) ∧ Nt w.heap.size w' v V ∧ Below w.heap.size w w' := by
  obtain ⟨W1, hW1⟩ : ∃ W, W = w.alloc (.cells #[.int .i64 24, .int .i64 (-149), .int .u64 2139095040] 90) := ⟨_, rfl⟩
  have P : W1.heap[w.heap.size]? = some (.cells #[.int .i64 24, .int .i64 (-149), .int .u64 2139095040] 90 (0, 0)) := by rw [hW1, heap_alloc_new]
  have p1 : W1.cell? ⟨w.heap.size, 1, none⟩ = some (.int .i64 (-149)) := by simp [World.cell?, P]
  have hz : w.heap.size < W1.heap.size := by rw [hW1]; simp
  have HB := Aside.intro (show Below w.heap.size w W1 by rw [hW1]; exact below_alloc w _)
  go_enter Tryd.func113, Tryd.ntmps113
  go_wp2
  rw [← hW1]
  clear hW1 P e1
  go_region_held3 (fun w' => w'.cell? ⟨w.heap.size, 1, none⟩ = some (.int .i64 (-149))) (go_keep) (first | (go_at_call 76; refine (HO.out _).mono ?_; rintro r w2 ⟨v, rfl, hN, hb⟩; have hb2 : Below W1.heap.size W1 w2 := (by first | exact hb | exact ((Below.refl _ W1).drew).trans (hb.mono (Nat.le_refl _))); have p2 : w2.cell? ⟨w.heap.size, 1, none⟩ = some (.int .i64 (-149)) := (hb2.cell (p := ⟨w.heap.size, 1, none⟩) hz).trans p1; have S2 := (Aside.intro (And.intro hb2 hN)); clear hb hb2 hN))
  all_goals (
    go_wp2
    go_simp
    go_ret2
    exact ⟨v, rfl, S2.out.2.mono (Nat.le_of_lt hz), HB.out.trans (S2.out.1.mono (Nat.le_of_lt hz))⟩)

set_option maxHeartbeats 4000000 in
theorem rNumber32_high (K q f g x y : Int) (V : Nat) (w : World) (e1 : K / 8388608 = q) (e2 : K % 8388608 = f) (e3 : IntKind.u64.wrap (8388608 + f) = g) (e4 : IntKind.i64.wrap q = q) (e5 : IntKind.i64.wrap (-149 + q) = x) (e6 : IntKind.i64.wrap (x - 1) = y) (hK0 : 0 ≤ K) (hK1 : K ≤ 2139095040) (hq0 : (q == 0) = false)
    (HO : Hid (∀ u, Calls Tryd.prog 76 #[.int .u64 g] u fun r w' => ∃ v, r = .returned v ∧ Nt u.heap.size w' v V ∧ Below u.heap.size u w')) :
    Calls Tryd.prog 113 #[.agg #[.int .i64 24, .int .i64 (-149), .int .u64 2139095040], .int .u64 K] w fun r w' => ∃ v, r = .returned (.tuple #[v, .int .i64 y]) ∧ Nt w.heap.size w' v V ∧ Below w.heap.size w w' := by
  obtain ⟨W1, hW1⟩ : ∃ W, W = w.alloc (.cells #[.int .i64 24, .int .i64 (-149), .int .u64 2139095040] 90) := ⟨_, rfl⟩
  have P : W1.heap[w.heap.size]? = some (.cells #[.int .i64 24, .int .i64 (-149), .int .u64 2139095040] 90 (0, 0)) := by rw [hW1, heap_alloc_new]
  have p1 : W1.cell? ⟨w.heap.size, 1, none⟩ = some (.int .i64 (-149)) := by simp [World.cell?, P]
  have hz : w.heap.size < W1.heap.size := by rw [hW1]; simp
  have HB := Aside.intro (show Below w.heap.size w W1 by rw [hW1]; exact below_alloc w _)
  go_enter Tryd.func113, Tryd.ntmps113
  go_wp2
  rw [← hW1]
  try simp only [e1, e2]
  clear hW1 P e1 e2 hK0 hK1
  go_region_held3 (fun w' => w'.cell? ⟨w.heap.size, 1, none⟩ = some (.int .i64 (-149))) (go_keep) (first | (go_at_call 76; refine (HO.out _).mono ?_; rintro r w2 ⟨v, rfl, hN, hb⟩; have hb2 : Below W1.heap.size W1 w2 := (by first | exact hb | exact ((Below.refl _ W1).drew).trans (hb.mono (Nat.le_refl _))); have p2 : w2.cell? ⟨w.heap.size, 1, none⟩ = some (.int .i64 (-149)) := (hb2.cell (p := ⟨w.heap.size, 1, none⟩) hz).trans p1; have S2 := (Aside.intro (And.intro hb2 hN)); clear hb hb2 hN))
  all_goals (
    go_wp2
    go_simp
    go_ret2
    exact ⟨v, rfl, S2.out.2.mono (Nat.le_of_lt hz), HB.out.trans (S2.out.1.mono (Nat.le_of_lt hz))⟩)

theorem rNumber32 (k : Nat) (hk : k ≤ 2139095040) (w : World) :
    Calls Tryd.prog 113 #[.agg #[.int .i64 24, .int .i64 (-149), .int .u64 2139095040], .int .u64 (k : Nat)] w fun r w' => ∃ v, r = .returned (.tuple #[v, .int .i64 (num32 k).2]) ∧ Nt w.heap.size w' v (num32 k).1 ∧ Below w.heap.size w w' := by
  unfold num32
  by_cases h0 : k / 8388608 = 0
  · rw [if_pos h0]
    exact rNumber32_low (k : Int) (k % 8388608) w (by omega) (by omega) (by omega) (hid fun u => by simpa using rOf_any (k % 8388608) u (by omega))
  · rw [if_neg h0]
    have hw : ∀ n : Int, 0 ≤ n → n < 18446744073709551616 → IntKind.u64.wrap n = n := fun n h1 h2 => by simp [IntKind.wrap, IntKind.bits, IntKind.signed]; omega
    have hv : ∀ n : Int, -4000 ≤ n → n < 4000 → IntKind.i64.wrap n = n := fun n h1 h2 => by simp [IntKind.wrap, IntKind.bits, IntKind.signed]; omega
    have e3 : (8388608 : Int) + ((k % 8388608 : Nat) : Int) = ((8388608 + k % 8388608 : Nat) : Int) := by omega
    exact rNumber32_high (k : Int) ((k / 8388608 : Nat) : Int) ((k % 8388608 : Nat) : Int) ((8388608 + k % 8388608 : Nat) : Int) (-149 + ((k / 8388608 : Nat) : Int)) (-149 + ((k / 8388608 : Nat) : Int) - 1) (8388608 + k % 8388608) w (by omega) (by omega) (by rw [e3]; exact hw _ (by omega) (by omega)) (hv _ (by omega) (by omega)) (hv _ (by omega) (by omega)) (hv _ (by omega) (by omega)) (by omega) (by omega) (beq_eq_false_iff_ne.2 (by omega)) (hid fun u => rOf_any _ u (by omega))


theorem of32_any (w : World) : Calls Tryd.prog 98 #[] w fun r w' => r = .returned (.agg #[.int .i64 24, .int .i64 (-149), .int .u64 2139095040]) ∧ Below w.heap.size w w' := by
  go_enter Tryd.func98, Tryd.ntmps98
  go_wp2
  exact bodyPost_ret (v := .agg #[.int .i64 24, .int .i64 (-149), .int .u64 2139095040]) (by simp [results, Tryd.results98, go_sem]) rfl ⟨rfl, by repeat (first | exact Below.refl _ _ | refine Below.alloc ?_ (by first | omega | simp) _ | refine Below.setC ?_ _ _ _ (by omega) (by simp))⟩


theorem num32_vK (k : Nat) (B : Int) (hB : B ≤ -149) : (num32 k).1 * 2 ^ ((num32 k).2 - B).toNat = vK k * 2 ^ (-149 - B).toNat ∧ (num32 k).1 < 16777216 ∧ B ≤ (num32 k).2 ∧ ((num32 k).1 = 0 ↔ k = 0) := by
  unfold num32
  by_cases h : k / 8388608 = 0
  · rw [if_pos h]
    refine ⟨?_, by simp only; omega, by simp only; omega, by simp only; omega⟩
    simp only
    have := vK_word 0 k (.inl rfl) (by omega)
    rw [Nat.zero_mul, Nat.zero_add, Nat.pow_zero, Nat.mul_one] at this
    rw [this, show k % 8388608 = k by omega]
  · rw [if_neg h]
    obtain ⟨q, hq⟩ : ∃ q, k / 8388608 = q := ⟨_, rfl⟩
    obtain ⟨f, hf⟩ : ∃ f, k % 8388608 = f := ⟨_, rfl⟩
    rw [hq, hf]
    refine ⟨?_, by simp only; omega, by simp only; omega, by simp only; omega⟩
    simp only
    have := vK_word (q - 1) (8388608 + f) (.inr (by omega)) (by omega)
    rw [show (q - 1) * 8388608 + (8388608 + f) = k by omega] at this
    rw [this, Nat.mul_assoc, ← Nat.pow_add, show (-149 + (q : Int) - 1 - B).toNat = q - 1 + (-149 - B).toNat by omega]
theorem num32_len (k : Nat) : (ws (num32 k).1).length ≤ 8192 := len8 (by have := bl_le24 _ (num32_vK k (-149) (Int.le_refl _)).2.1; omega)
theorem num32_step (k : Nat) : (num32 k).2 ≤ (num32 (k + 1)).2 ∧ (num32 (k + 1)).2 ≤ (num32 k).2 + 1 ∧ -149 ≤ (num32 k).2 := by
  unfold num32
  by_cases h : k / 8388608 = 0
  · rw [if_pos h]
    by_cases h' : (k + 1) / 8388608 = 0
    · rw [if_pos h']; simp only; omega
    · rw [if_neg h']; simp only; omega
  · rw [if_neg h, if_neg (by omega)]
    simp only; omega
/-- Where the search ends. -/
def endK (X : Nat) (e : Int) : Nat := if X = 0 then 0 else flK X e
/-- How the number there stands to the value. -/
def endZ (X : Nat) (e : Int) (k : Nat) : Int := agV (num32 k).1 (num32 k).2 X e
def endH (X : Nat) (e : Int) (k : Nat) : Int := agV (X * 2) e ((num32 k).1 + (num32 (k + 1)).1 * 2 ^ ((num32 (k + 1)).2 - (num32 k).2).toNat) (num32 k).2
theorem endZ_z (X : Nat) (e : Int) (he : -1048576 ≤ e) (k : Nat) : endZ X e k = cmpZ ((vK k * 2 ^ (-149 - -1048576 : Int).toNat : Nat) : Int) ((X * 2 ^ (e - -1048576).toNat : Nat) : Int) := by
  have h := num32_vK k (-1048576) (by omega)
  unfold endZ
  rw [agV_z _ _ _ _ (-1048576) h.2.2.1 he, h.1]
theorem endH_z (X : Nat) (e : Int) (he : -1048576 ≤ e) (k : Nat) : endH X e k = cmpZ ((2 * (X * 2 ^ (e - -1048576).toNat) : Nat) : Int) ((vK k * 2 ^ (-149 - -1048576 : Int).toNat + vK (k + 1) * 2 ^ (-149 - -1048576 : Int).toNat : Nat) : Int) := by
  have h := num32_vK k (-1048576) (by omega)
  have h1 := num32_vK (k + 1) (-1048576) (by omega)
  have hs := num32_step k
  unfold endH
  rw [agV_z _ _ _ _ (-1048576) he h.2.2.1, ← h.1, ← h1.1, Nat.add_mul, Nat.mul_assoc (num32 (k + 1)).1, ← Nat.pow_add, show ((num32 (k + 1)).2 - (num32 k).2).toNat + ((num32 k).2 - -1048576).toNat = ((num32 (k + 1)).2 - -1048576).toNat by omega, Nat.mul_comm X 2, Nat.mul_assoc 2]
theorem end_uniq {n : Bool} {X : Nat} {e : Int} (F : Frm n X e) (k : Nat) (hk : k < 2139095040) (h1 : k = 0 ∨ endZ X e k ≤ 0) (h2 : k + 1 = 2139095040 ∨ 0 < endZ X e (k + 1)) : k = endK X e := by
  have a1 : vK k * 2 ^ (-149 - -1048576 : Int).toNat ≤ X * 2 ^ (e - -1048576).toNat := by
    rcases h1 with rfl | h1
    · rw [show vK 0 = 0 from B.val_zero _, Nat.zero_mul]; exact Nat.zero_le _
    · rw [endZ_z X e F.down, cmpZ_le] at h1
      exact Int.ofNat_le.1 h1
  unfold endK
  by_cases hX : X = 0
  · rw [if_pos hX]
    rw [hX, Nat.zero_mul] at a1
    by_cases h0 : k = 0
    · exact h0
    · have := vS_lt (K := 0) (L := k) (Nat.two_pow_pos (-149 - -1048576 : Int).toNat) (by omega)
      omega
  · rw [if_neg hX]
    have L := lies X e (frm_odd F hX) F.down F.up (-1048576) F.down (by omega)
    refine (L.doc k hk a1 ?_).1
    rcases h2 with h2 | h2
    · exact .inl h2
    · rw [endZ_z X e F.down, cmpZ_pos] at h2
      exact .inr (Int.ofNat_lt.1 h2)
theorem endK_lt {n : Bool} {X : Nat} {e : Int} (F : Frm n X e) : endK X e < 2139095040 := by
  unfold endK
  split
  · omega
  · rename_i hX
    exact (lies X e (frm_odd F hX) F.down F.up (-1048576) F.down (by omega)).fin
theorem end_rW (mode : Int) {n : Bool} {X : Nat} {e : Int} (F : Frm n X e) : nbyD mode n (endK X e) (endZ X e (endK X e)) (endH X e (endK X e)) = rW mode n X e := by
  unfold nbyD rW
  rw [endZ_z X e F.down, endH_z X e F.down]
  by_cases hX : X = 0
  · rw [if_pos hX]
    have hk : endK X e = 0 := by unfold endK; rw [if_pos hX]
    rw [hk, if_pos]
    rw [cmpZ_eq, hX, show vK 0 = 0 from B.val_zero _, Nat.zero_mul, Nat.zero_mul]
  · rw [if_neg hX]
    have L := lies X e (frm_odd F hX) F.down F.up (-1048576) F.down (by omega)
    have hk : endK X e = flK X e := by unfold endK; rw [if_neg hX]
    rw [hk, rndK_eq]
    have hd := L.doc (flK X e) L.fin L.ge (by
      cases ht : (plc 24 (-149) 128 X e).2.2.1 with
      | true =>
        have := L.one ht
        right
        rw [this]
        exact vS_lt L.pos (by omega)
      | false =>
        rcases L.high ht with h | h
        · exact .inr h
        · exact .inl (by omega))
    unfold rK
    cases ht : (plc 24 (-149) 128 X e).2.2.1 with
    | true =>
      have := L.one ht
      rw [if_pos (cmpZ_eq.2 (by rw [this])), if_pos rfl]
    | false =>
      have h1 := L.low ht
      have h2 := hd.2.2 ht
      rw [if_neg (fun q => by have := Int.ofNat.inj (cmpZ_eq.1 q); omega), ← h2]
      rfl

theorem nearby32 {u : World} {p : Option Addr} {s : Nat} {n : Bool} {X : Nat} {e : Int} (A : Arg u p (ws X).length s (ws X)) (F : Frm n X e) (mode : Int) (hm0 : 0 ≤ mode) (hm4 : mode ≤ 4) :
    Calls Tryd.prog 96 #[.agg #[.int .i64 24, .int .i64 (-149), .int .u64 2139095040], .bool n, .slice p (ws X).length s, .int .i64 e, .int .i64 mode] u fun r w' => r = .returned (.int .u64 (rW mode n X e : Nat)) ∧ Below u.heap.size u w' := by
  have hd := F.down
  have hu := F.up
  have lX := frm_len F
  have hsz := F.size
  have hK := endK_lt F
  rw [← end_rW mode F]
  obtain ⟨K, hKK⟩ : ∃ K, endK X e = K := ⟨_, rfl⟩
  rw [hKK] at hK ⊢
  have b0 := num32_vK K (-149) (Int.le_refl _)
  have b1 := num32_vK (K + 1) (-149) (Int.le_refl _)
  have st := num32_step K
  have fr : (num32 K).2 ≤ 1000 := by unfold num32; split <;> simp only <;> omega
  have t2 : (ws (X * 2)).length ≤ 8193 := by
    rw [ws_len_bl]
    have h := bl_le (X := X * 2) (k := bl X + 1) (by have := bl_lt X; rw [Nat.pow_succ]; omega)
    omega
  have hMV : (num32 (K + 1)).1 * 2 ^ ((num32 (K + 1)).2 - (num32 K).2).toNat < 2 ^ 25 := by
    have hp : 2 ^ ((num32 (K + 1)).2 - (num32 K).2).toNat ≤ 2 := by
      have : ((num32 (K + 1)).2 - (num32 K).2).toNat ≤ 1 := by omega
      exact Nat.le_trans (Nat.pow_le_pow_right (by omega) this) (by omega)
    have := Nat.mul_le_mul_left (num32 (K + 1)).1 hp
    have := b1.2.1
    omega
  have lM := len8 (X := (num32 (K + 1)).1 * 2 ^ ((num32 (K + 1)).2 - (num32 K).2).toNat) (by have := bl_le hMV; omega)
  have lS := len8 (X := (num32 K).1 + (num32 (K + 1)).1 * 2 ^ ((num32 (K + 1)).2 - (num32 K).2).toNat) (by have := bl_le (X := (num32 K).1 + (num32 (K + 1)).1 * 2 ^ ((num32 (K + 1)).2 - (num32 K).2).toNat) (k := 26) (by have := b0.2.1; omega); omega)
  have hv3 : endH X e K = -1 ∨ endH X e K = 0 ∨ endH X e K = 1 := by rw [endH_z X e hd]; exact cmpZ_range _ _
  have HAg : ∀ (k : Nat) (v : World) (q : Option Addr) (t : Nat), k < 2139095040 → Below u.heap.size u v → Arg v q (ws (num32 k).1).length t (ws (num32 k).1) → Calls Tryd.prog 92 #[.slice q (ws (num32 k).1).length t, .int .i64 (num32 k).2, .slice p (ws X).length s, .int .i64 e] v fun r w' => r = .returned (.int .i64 (endZ X e k)) ∧ Below v.heap.size v w' := fun k v q t hk hb hA => by
    have hl := num32_len k
    have hr : -149 ≤ (num32 k).2 ∧ (num32 k).2 ≤ 1000 := by unfold num32; split <;> simp only <;> omega
    have := against_any hA (A.below hb) (by omega) (by omega) (num32 k).2 e (by omega) (by omega) (by omega) (by omega)
    rw [val_ws, val_ws] at this
    exact this
  refine nearby_core 24 (-149) 2139095040 n K e (num32 K).2 mode (num32 K).1 _ _ (num32_len K) (by omega) hm0 hm4 hv3 ?_ (hid fun v => rNumber32 K (by omega) v) (hid fun v q t hb hA => HAg K v q t hK hb hA) ?_
  · refine hid fun v hb => ?_
    refine (below_core 24 (-149) 2139095040 e (by omega) (by omega) num32 (endZ X e) num32_len (hid fun k v hk => rNumber32 k (by omega) v) (hid fun k v' q t hk hb' hA => HAg k v' q t hk (hb.trans (hb'.mono hb.size)) hA)).mono ?_
    rintro r w' ⟨⟨k, rfl, hk, h1, h2⟩, hb2⟩
    rw [end_uniq F k hk h1 h2, hKK]
    exact ⟨rfl, hb2⟩
  · refine hid fun v hb => ?_
    refine half_core 24 (-149) 2139095040 (K : Int) ((K + 1 : Nat) : Int) e (num32 K).2 (num32 (K + 1)).2 ((num32 (K + 1)).2 - (num32 K).2) (num32 K).1 (num32 (K + 1)).1 ((num32 (K + 1)).1 * 2 ^ ((num32 (K + 1)).2 - (num32 K).2).toNat) ((num32 K).1 + (num32 (K + 1)).1 * 2 ^ ((num32 (K + 1)).2 - (num32 K).2).toNat) (X * 2) (endH X e K) (num32_len K) (num32_len _) lM lS (by omega) ?_ (decide_eq_false (by omega)) ?_ (hid fun v => rNumber32 K (by omega) v) (hid fun v => rNumber32 (K + 1) (by omega) v) ?_ ?_ ?_ ?_
    · simp [IntKind.wrap, IntKind.bits, IntKind.signed]; omega
    · simp [IntKind.wrap, IntKind.bits, IntKind.signed]; omega
    · refine hid fun v' q t lo hN => ?_
      have := moved_any hN ((num32 (K + 1)).2 - (num32 K).2) (by omega) (by omega) (fun h => by have := b1.2.2.2.1 h; omega) (by have := num32_len (K + 1); omega)
      rw [if_neg (by omega)] at this
      exact this
    · exact hid fun v' q t q2 t2 h1 h2 => rPlus_arg h1 h2 (by have := num32_len K; omega) (by omega) (by rw [val_ws, val_ws])
    · exact hid fun v' q hb' hA => rTimes_arg (A.below (hb.trans (hb'.mono hb.size))) hA (by omega) (by rw [val_ws]; rfl)
    · refine hid fun v' q t q2 t3 h1 h2 => ?_
      have := against_any h1 h2 (by omega) (by omega) e (num32 K).2 (by omega) (by omega) (by omega) (by omega)
      rw [val_ws, val_ws] at this
      exact this

end Go.Proofs.YthilnddhehbjiaaDoor.S

/- DyadRounds: the document's Round32, whole. -/
namespace Go.Proofs.YthilnddhehbjiaaDoor.S
open Go.RowKit
set_option linter.unusedVariables false
set_option maxRecDepth 20000

/-- What Round32 is to answer: the bits, the error. -/
def rndS (o : Option (Bool × Nat × Int)) (mode : Int) : Nat × Int :=
  if mode < 0 ∨ 4 < mode then (0, 1)
  else match o with
    | none => (0, 2)
    | some (n, X, e) => (rW mode n X e + (if n then 2147483648 else 0), 0)
theorem rW_le (mode : Int) {n : Bool} {X : Nat} {e : Int} (F : Frm n X e) : rW mode n X e ≤ 2139095040 := by
  unfold rW
  split
  · omega
  · rename_i hX
    have L := lies X e (frm_odd F hX) F.down F.up (-1048576) F.down (by omega)
    have := L.fin
    rw [rndK_eq]
    unfold rK
    split
    · omega
    · split <;> omega

theorem rRound32_any {w : World} {a : Option Addr} {l c : Nat} {xs : List Nat} (h1 : Arg w a l c xs) (hl : l ≤ 2000000) (n : Bool) (e mode : Int) (he0 : -9223372036854775808 ≤ e) (he1 : e ≤ 9223372036854775807) :
    Calls Tryd.prog 44 #[.agg #[.bool n, .slice a l c, .int .i64 e], .int .i64 mode] w fun r w' => r = .returned (.tuple #[.float .f32 (rndS (mkS n (val xs) e) mode).1, .int .i64 (rndS (mkS n (val xs) e) mode).2]) ∧ Below w.heap.size w w' := by
  have HM := hid fun u (hu : Below w.heap.size w u) => rMade_any (h1.below hu) hl n e he0 he1
  by_cases hm0 : mode < 0
  · have hr : rndS (mkS n (val xs) e) mode = (0, 1) := by unfold rndS; rw [if_pos (.inl hm0)]
    rw [hr]
    exact rRound32_lo n e mode hm0
  · by_cases hm4 : 4 < mode
    · have hr : rndS (mkS n (val xs) e) mode = (0, 1) := by unfold rndS; rw [if_pos (.inr hm4)]
      rw [hr]
      exact rRound32_hi n e mode (decide_eq_false hm0) hm4
    · have lX := mkS_len n (val xs) e
      cases ho : mkS n (val xs) e with
      | none =>
        rw [ho] at HM lX
        have hr : rndS none mode = (0, 2) := by unfold rndS; rw [if_neg (by omega)]
        rw [hr]
        exact rRound32_no n e mode (dN none) (dE none) (dX none) (by omega) (by omega) lX HM
      | some x =>
        obtain ⟨nD, XD, eD⟩ := x
        have F := mkS_frm ho
        rw [ho] at HM lX
        have hr : rndS (some (nD, XD, eD)) mode = (rW mode nD XD eD + (if nD then 2147483648 else 0), 0) := by unfold rndS; rw [if_neg (by omega)]
        rw [hr]
        have hle := rW_le mode F
        have HB := hid fun (u : World) (p : Option Addr) (s : Nat) (hA : Arg u p (ws XD).length s (ws XD)) => nearby32 hA F mode (by omega) (by omega)
        cases nD with
        | false =>
          refine rRound32_p n e mode eD XD _ _ 0 (by omega) (by omega) lX (by omega) ?_ ?_ HM (hid fun u => of32_any u) HB
          · simp [IntKind.wrap, IntKind.bits, IntKind.signed]; omega
          · simp
        | true =>
          refine rRound32_n n e mode eD XD _ _ ((rW mode true XD eD : Nat) + 2147483648) (by omega) (by omega) lX (by omega) ?_ ?_ ?_ HM (hid fun u => of32_any u) HB
          · simp [IntKind.wrap, IntKind.bits, IntKind.signed]; omega
          · simp [IntKind.wrap, IntKind.bits, IntKind.signed]; omega
          · rw [if_pos rfl]
            omega
end Go.Proofs.YthilnddhehbjiaaDoor.S

/- The program's Round32, whole. -/
namespace Go.Proofs.YthilnddhehbjiaaDoor.S
open Go.RowKit
set_option linter.unusedVariables false
set_option maxRecDepth 20000
set_option linter.unusedSimpArgs false

set_option maxHeartbeats 1000000 in
theorem Round32_err {w : World} {a : Option Addr} {l c : Nat} (n : Bool) (e mode er : Int) (her : (er != 0) = true)
    (HR : Hid (∀ u, Below w.heap.size w u → Calls Tryd.prog 94 #[.agg #[.bool n, .slice a l c, .int .i64 e], .int .i64 mode, .agg #[.int .i64 24, .int .i64 (-149), .int .i64 128]] u fun r w' => r = .returned (.tuple #[.float .f64 0, .int .i64 er]) ∧ Below u.heap.size u w')) :
    Calls Tryd.prog 42 #[.agg #[.bool n, .slice a l c, .int .i64 e], .int .i64 mode] w fun r w' => r = .returned (.tuple #[.float .f32 0, .int .i64 er]) ∧ Below w.heap.size w w' := by
  have hb0 := below_alloc w (.cells #[.bool n, .slice a l c, .int .i64 e] 39)
  have H := hid (HR.out _ hb0)
  have S0 := Aside.intro hb0
  clear hb0 HR
  go_enter Tryd.func42, Tryd.ntmps42
  go_wp2_with fail
  refine (Calls.mono H.out) ?_
  rintro r u1 ⟨rfl, hb⟩
  have S1 := Aside.intro hb
  clear hb
  go_wp2
  go_ret2
  exact ⟨rfl, S0.out.trans (S1.out.mono (by simp))⟩

set_option maxHeartbeats 1000000 in
theorem Round32_ok {w : World} {a : Option Addr} {l c : Nat} (n : Bool) (e mode : Int) (x K : Nat)
    (HR : Hid (∀ u, Below w.heap.size w u → Calls Tryd.prog 94 #[.agg #[.bool n, .slice a l c, .int .i64 e], .int .i64 mode, .agg #[.int .i64 24, .int .i64 (-149), .int .i64 128]] u fun r w' => r = .returned (.tuple #[.float .f64 x, .int .i64 0]) ∧ Below u.heap.size u w'))
    (HN : Hid (∀ u, Calls Tryd.prog 95 #[.float .f64 x, .int .i64 0] u fun r w' => r = .returned (.tuple #[.float .f32 K, .int .i64 0]) ∧ Below u.heap.size u w')) :
    Calls Tryd.prog 42 #[.agg #[.bool n, .slice a l c, .int .i64 e], .int .i64 mode] w fun r w' => r = .returned (.tuple #[.float .f32 K, .int .i64 0]) ∧ Below w.heap.size w w' := by
  have hb0 := below_alloc w (.cells #[.bool n, .slice a l c, .int .i64 e] 39)
  have H := hid (HR.out _ hb0)
  have S0 := Aside.intro hb0
  clear hb0 HR
  go_enter Tryd.func42, Tryd.ntmps42
  go_wp2_with fail
  refine (Calls.mono H.out) ?_
  rintro r u1 ⟨rfl, hb⟩
  have S1 := Aside.intro (S0.out.trans (hb.mono (by simp)))
  have H2 := hid (HN.out u1)
  clear hb H HN S0
  go_wp2_with fail
  refine (Calls.mono H2.out) ?_
  rintro r u2 ⟨rfl, hb⟩
  have S2 := Aside.intro (S1.out.trans (hb.mono S1.out.size))
  clear hb H2 S1
  go_wp2
  go_ret2
  exact ⟨rfl, S2.out⟩

theorem Round32_any {w : World} {a : Option Addr} {l c : Nat} {xs : List Nat} (hA : Arg w a l c xs) (hT : Tab w) (n : Bool) (e mode : Int) (he0 : -9223372036854775808 ≤ e) (he1 : e ≤ 9223372036854775807) :
    Calls Tryd.prog 42 #[.agg #[.bool n, .slice a l c, .int .i64 e], .int .i64 mode] w fun r w' => r = .returned (.tuple #[.float .f32 (rndS (mkS n (val xs) e) mode).1, .int .i64 (rndS (mkS n (val xs) e) mode).2]) ∧ Below w.heap.size w w' := by
  unfold rndS
  by_cases hm : mode < 0 ∨ 4 < mode
  · rw [if_pos hm]
    exact Round32_err n e mode 1 (by decide) (hid fun u hu => round_mode n a l c e mode u hm)
  · rw [if_neg hm]
    have HF : ∀ v, Below w.heap.size w v → Calls Tryd.prog 89 #[.agg #[.bool n, .slice a l c, .int .i64 e]] v fun r w' => DAns v.heap.size w' r (mkS n (val xs) e) ∧ Below v.heap.size v w' := fun v hv => form_any (hA.below hv) (hT.belows hv) n e he0 he1
    cases ho : mkS n (val xs) e with
    | none =>
      rw [ho] at HF
      exact Round32_err n e mode 2 (by decide) (hid fun u hu => round_err n e mode false 0 0 2 (by rw [ws_zero]; simp) (by omega) (by omega) rfl (hid fun v hv => HF v (hu.trans (hv.mono hu.size))))
    | some d =>
      obtain ⟨n1, X, e1⟩ := d
      have FX := mkS_frm ho
      simp only
      by_cases hX : X = 0
      · have hn : n1 = false := by rcases FX.odd with k | ⟨_, k, _⟩; omega; exact k
        have hr : rW mode n1 X e1 + (if n1 then 2147483648 else 0) = 0 := by unfold rW; rw [if_pos hX, hn]; rfl
        rw [hr]
        rw [ho] at HF
        refine Round32_ok n e mode 0 0 (hid fun u hu => round_none n e mode n1 X e1 ((ws_len_zero X).2 hX) (by omega) (by omega) (hid fun v hv => HF v (hu.trans (hv.mono hu.size)))) (hid fun u => ?_)
        have h := narrow_exact false 0 0 (by omega) (by omega) (by rw [B.val_zero Ieee.double, B.val_zero Ieee.single, Nat.zero_mul]) u
        exact h
      · have hle := rW_le mode FX
        have hrw : rW mode n1 X e1 = rndK mode n1 X e1 := by unfold rW; rw [if_neg hX]
        obtain ⟨W, hW, hv, _⟩ := round_some hA hT n e mode he0 he1 (by omega) (by omega) n1 X e1 ho hX
        refine Round32_ok n e mode (W + (if n1 then 9223372036854775808 else 0)) _ (hid fun u hu => ?_) (hid fun u => narrow_exact n1 W (rW mode n1 X e1) hW hle (by rw [hrw]; exact hv) u)
        obtain ⟨W', hW', hv', HC⟩ := round_some (hA.below hu) (hT.belows hu) n e mode he0 he1 (by omega) (by omega) n1 X e1 ho hX
        have : W' = W := by
          have e1 : B.val Ieee.double W' = B.val Ieee.double W := hv'.trans hv.symm
          rcases Nat.lt_trichotomy W' W with h | h | h
          · have := (B.val_lt_iff Ieee.double).2 h; omega
          · exact h
          · have := (B.val_lt_iff Ieee.double).2 h; omega
        rw [this] at HC
        exact HC
end Go.Proofs.YthilnddhehbjiaaDoor.S

