import Derived.Test.YthilnddhehbjiaaDoorO1x
import Derived.Test.YthilnddhehbjiaaDoorD39
/- DyadRounds: the document's Nearby at 64 bits. -/
namespace Go.Proofs.YthilnddhehbjiaaDoor
open Go.RowKit
set_option linter.unusedVariables false
set_option maxRecDepth 20000

theorem agV_z (X : Nat) (e : Int) (Y : Nat) (f B : Int) (h1 : B ≤ e) (h2 : B ≤ f) : agV X e Y f = cmpZ ((X * 2 ^ (e - B).toNat : Nat) : Int) ((Y * 2 ^ (f - B).toNat : Nat) : Int) := by
  rw [cmpZ_nat]
  unfold agV
  by_cases h : X = 0 ∨ Y = 0
  · rw [if_pos h]
    have p1 := pos_iff X (e - B).toNat
    have p2 := pos_iff Y (f - B).toNat
    generalize X * 2 ^ (e - B).toNat = P at p1 ⊢
    generalize Y * 2 ^ (f - B).toNat = Q at p2 ⊢
    have q1 : X = 0 ∧ P = 0 ∨ X ≠ 0 ∧ P ≠ 0 := by
      by_cases h : X = 0
      · exact .inl ⟨h, p1.2 h⟩
      · exact .inr ⟨h, fun k => h (p1.1 k)⟩
    have q2 : Y = 0 ∧ Q = 0 ∨ Y ≠ 0 ∧ Q ≠ 0 := by
      by_cases h : Y = 0
      · exact .inl ⟨h, p2.2 h⟩
      · exact .inr ⟨h, fun k => h (p2.1 k)⟩
    clear p1 p2
    unfold cmpI
    rcases h with h | h
    · rcases q1 with ⟨a, b⟩ | ⟨a, b⟩
      · rcases q2 with ⟨c, d⟩ | ⟨c, d⟩
        · rw [a, b, c, d]
        · rw [a, b, if_pos (by omega), if_pos (by omega)]
      · exact absurd h a
    · rcases q2 with ⟨c, d⟩ | ⟨c, d⟩
      · rcases q1 with ⟨a, b⟩ | ⟨a, b⟩
        · rw [a, b, c, d]
        · rw [c, d, if_neg (by omega), if_pos (by omega), if_neg (by omega), if_pos (by omega)]
      · exact absurd h c
  · rw [if_neg h]
    exact cmpP_base X e Y f B h1 h2

theorem num64_vK (k : Nat) (B : Int) (hB : B ≤ -1074) : (num64 k).1 * 2 ^ ((num64 k).2 - B).toNat = vK k * 2 ^ (-1074 - B).toNat ∧ (num64 k).1 < 9007199254740992 ∧ B ≤ (num64 k).2 ∧ ((num64 k).1 = 0 ↔ k = 0) := by
  unfold num64
  by_cases h : k / 4503599627370496 = 0
  · rw [if_pos h]
    refine ⟨?_, by simp only; omega, by simp only; omega, by simp only; omega⟩
    simp only
    have := vK_word 0 k (.inl rfl) (by omega)
    rw [Nat.zero_mul, Nat.zero_add, Nat.pow_zero, Nat.mul_one] at this
    rw [this, show k % 4503599627370496 = k by omega]
  · rw [if_neg h]
    obtain ⟨q, hq⟩ : ∃ q, k / 4503599627370496 = q := ⟨_, rfl⟩
    obtain ⟨f, hf⟩ : ∃ f, k % 4503599627370496 = f := ⟨_, rfl⟩
    rw [hq, hf]
    refine ⟨?_, by simp only; omega, by simp only; omega, by simp only; omega⟩
    simp only
    have := vK_word (q - 1) (4503599627370496 + f) (.inr (by omega)) (by omega)
    rw [show (q - 1) * 4503599627370496 + (4503599627370496 + f) = k by omega] at this
    rw [this, Nat.mul_assoc, ← Nat.pow_add, show (-1074 + (q : Int) - 1 - B).toNat = q - 1 + (-1074 - B).toNat by omega]
theorem num64_len (k : Nat) : (ws (num64 k).1).length ≤ 8192 := len8 (by have := bl_le53 _ (num64_vK k (-1074) (Int.le_refl _)).2.1; omega)
theorem num64_step (k : Nat) : (num64 k).2 ≤ (num64 (k + 1)).2 ∧ (num64 (k + 1)).2 ≤ (num64 k).2 + 1 ∧ -1074 ≤ (num64 k).2 := by
  unfold num64
  by_cases h : k / 4503599627370496 = 0
  · rw [if_pos h]
    by_cases h' : (k + 1) / 4503599627370496 = 0
    · rw [if_pos h']; simp only; omega
    · rw [if_neg h']; simp only; omega
  · rw [if_neg h, if_neg (by omega)]
    simp only; omega
end Go.Proofs.YthilnddhehbjiaaDoor

/- DyadRounds: the document's Nearby at 64 bits, of a form. -/
namespace Go.Proofs.YthilnddhehbjiaaDoor
open Go.RowKit
set_option linter.unusedVariables false
set_option maxRecDepth 20000

theorem cmpZ_range (x y : Int) : cmpZ x y = -1 ∨ cmpZ x y = 0 ∨ cmpZ x y = 1 := by
  unfold cmpZ
  split
  · exact .inl rfl
  · split
    · exact .inr (.inr rfl)
    · exact .inr (.inl rfl)
theorem cmpZ_eq {x y : Int} : cmpZ x y = 0 ↔ x = y := by
  unfold cmpZ
  split
  · omega
  · split
    · omega
    · omega
theorem cmpZ_pos {x y : Int} : 0 < cmpZ x y ↔ y < x := by
  unfold cmpZ
  split
  · omega
  · split
    · omega
    · omega

/-- Where the search ends. -/
def endK (X : Nat) (e : Int) : Nat := if X = 0 then 0 else flK X e
/-- How the number there stands to the value. -/
def endZ (X : Nat) (e : Int) (k : Nat) : Int := agV (num64 k).1 (num64 k).2 X e
def endH (X : Nat) (e : Int) (k : Nat) : Int := agV (X * 2) e ((num64 k).1 + (num64 (k + 1)).1 * 2 ^ ((num64 (k + 1)).2 - (num64 k).2).toNat) (num64 k).2
theorem endZ_z (X : Nat) (e : Int) (he : -1048576 ≤ e) (k : Nat) : endZ X e k = cmpZ ((vK k * 2 ^ (-1074 - -1048576 : Int).toNat : Nat) : Int) ((X * 2 ^ (e - -1048576).toNat : Nat) : Int) := by
  have h := num64_vK k (-1048576) (by omega)
  unfold endZ
  rw [agV_z _ _ _ _ (-1048576) h.2.2.1 he, h.1]
theorem endH_z (X : Nat) (e : Int) (he : -1048576 ≤ e) (k : Nat) : endH X e k = cmpZ ((2 * (X * 2 ^ (e - -1048576).toNat) : Nat) : Int) ((vK k * 2 ^ (-1074 - -1048576 : Int).toNat + vK (k + 1) * 2 ^ (-1074 - -1048576 : Int).toNat : Nat) : Int) := by
  have h := num64_vK k (-1048576) (by omega)
  have h1 := num64_vK (k + 1) (-1048576) (by omega)
  have hs := num64_step k
  unfold endH
  rw [agV_z _ _ _ _ (-1048576) he h.2.2.1, ← h.1, ← h1.1, Nat.add_mul, Nat.mul_assoc (num64 (k + 1)).1, ← Nat.pow_add, show ((num64 (k + 1)).2 - (num64 k).2).toNat + ((num64 k).2 - -1048576).toNat = ((num64 (k + 1)).2 - -1048576).toNat by omega, Nat.mul_comm X 2, Nat.mul_assoc 2]
theorem end_uniq {n : Bool} {X : Nat} {e : Int} (F : Frm n X e) (k : Nat) (hk : k < 9218868437227405312) (h1 : k = 0 ∨ endZ X e k ≤ 0) (h2 : k + 1 = 9218868437227405312 ∨ 0 < endZ X e (k + 1)) : k = endK X e := by
  have a1 : vK k * 2 ^ (-1074 - -1048576 : Int).toNat ≤ X * 2 ^ (e - -1048576).toNat := by
    rcases h1 with rfl | h1
    · rw [show vK 0 = 0 from B.val_zero _, Nat.zero_mul]; exact Nat.zero_le _
    · rw [endZ_z X e F.down, cmpZ_le] at h1
      exact Int.ofNat_le.1 h1
  unfold endK
  by_cases hX : X = 0
  · rw [if_pos hX]
    rw [hX, Nat.zero_mul] at a1
    by_cases h0 : k = 0
    · exact h0
    · have := vS_lt (K := 0) (L := k) (Nat.two_pow_pos (-1074 - -1048576 : Int).toNat) (by omega)
      omega
  · rw [if_neg hX]
    have L := lies X e (frm_odd F hX) F.down F.up (-1048576) F.down (by omega)
    refine (L.doc k hk a1 ?_).1
    rcases h2 with h2 | h2
    · exact .inl h2
    · rw [endZ_z X e F.down, cmpZ_pos] at h2
      exact .inr (Int.ofNat_lt.1 h2)
theorem endK_lt {n : Bool} {X : Nat} {e : Int} (F : Frm n X e) : endK X e < 9218868437227405312 := by
  unfold endK
  split
  · omega
  · rename_i hX
    exact (lies X e (frm_odd F hX) F.down F.up (-1048576) F.down (by omega)).fin
theorem end_rW (mode : Int) {n : Bool} {X : Nat} {e : Int} (F : Frm n X e) : nbyD mode n (endK X e) (endZ X e (endK X e)) (endH X e (endK X e)) = rW mode n X e := by
  unfold nbyD rW
  rw [endZ_z X e F.down, endH_z X e F.down]
  by_cases hX : X = 0
  · rw [if_pos hX]
    have hk : endK X e = 0 := by unfold endK; rw [if_pos hX]
    rw [hk, if_pos]
    rw [cmpZ_eq, hX, show vK 0 = 0 from B.val_zero _, Nat.zero_mul, Nat.zero_mul]
  · rw [if_neg hX]
    have L := lies X e (frm_odd F hX) F.down F.up (-1048576) F.down (by omega)
    have hk : endK X e = flK X e := by unfold endK; rw [if_neg hX]
    rw [hk, rndK_eq]
    have hd := L.doc (flK X e) L.fin L.ge (by
      cases ht : (plc 53 (-1074) 1024 X e).2.2.1 with
      | true =>
        have := L.one ht
        right
        rw [this]
        exact vS_lt L.pos (by omega)
      | false =>
        rcases L.high ht with h | h
        · exact .inr h
        · exact .inl (by omega))
    unfold rK
    cases ht : (plc 53 (-1074) 1024 X e).2.2.1 with
    | true =>
      have := L.one ht
      rw [if_pos (cmpZ_eq.2 (by rw [this])), if_pos rfl]
    | false =>
      have h1 := L.low ht
      have h2 := hd.2.2 ht
      rw [if_neg (fun q => by have := Int.ofNat.inj (cmpZ_eq.1 q); omega), ← h2]
      rfl

theorem nearby64 {u : World} {p : Option Addr} {s : Nat} {n : Bool} {X : Nat} {e : Int} (A : Arg u p (ws X).length s (ws X)) (F : Frm n X e) (mode : Int) (hm0 : 0 ≤ mode) (hm4 : mode ≤ 4) :
    Calls Tryd.prog 96 #[.agg #[.int .i64 53, .int .i64 (-1074), .int .u64 9218868437227405312], .bool n, .slice p (ws X).length s, .int .i64 e, .int .i64 mode] u fun r w' => r = .returned (.int .u64 (rW mode n X e : Nat)) ∧ Below u.heap.size u w' := by
  have hd := F.down
  have hu := F.up
  have lX := frm_len F
  have hsz := F.size
  have hK := endK_lt F
  rw [← end_rW mode F]
  obtain ⟨K, hKK⟩ : ∃ K, endK X e = K := ⟨_, rfl⟩
  rw [hKK] at hK ⊢
  have b0 := num64_vK K (-1074) (Int.le_refl _)
  have b1 := num64_vK (K + 1) (-1074) (Int.le_refl _)
  have st := num64_step K
  have fr : (num64 K).2 ≤ 1000 := by unfold num64; split <;> simp only <;> omega
  have t2 : (ws (X * 2)).length ≤ 8193 := by
    rw [ws_len_bl]
    have h := bl_le (X := X * 2) (k := bl X + 1) (by have := bl_lt X; rw [Nat.pow_succ]; omega)
    omega
  have hMV : (num64 (K + 1)).1 * 2 ^ ((num64 (K + 1)).2 - (num64 K).2).toNat < 2 ^ 54 := by
    have hp : 2 ^ ((num64 (K + 1)).2 - (num64 K).2).toNat ≤ 2 := by
      have : ((num64 (K + 1)).2 - (num64 K).2).toNat ≤ 1 := by omega
      exact Nat.le_trans (Nat.pow_le_pow_right (by omega) this) (by omega)
    have := Nat.mul_le_mul_left (num64 (K + 1)).1 hp
    have := b1.2.1
    omega
  have lM := len8 (X := (num64 (K + 1)).1 * 2 ^ ((num64 (K + 1)).2 - (num64 K).2).toNat) (by have := bl_le hMV; omega)
  have lS := len8 (X := (num64 K).1 + (num64 (K + 1)).1 * 2 ^ ((num64 (K + 1)).2 - (num64 K).2).toNat) (by have := bl_le (X := (num64 K).1 + (num64 (K + 1)).1 * 2 ^ ((num64 (K + 1)).2 - (num64 K).2).toNat) (k := 55) (by have := b0.2.1; omega); omega)
  have hv3 : endH X e K = -1 ∨ endH X e K = 0 ∨ endH X e K = 1 := by rw [endH_z X e hd]; exact cmpZ_range _ _
  have HAg : ∀ (k : Nat) (v : World) (q : Option Addr) (t : Nat), k < 9218868437227405312 → Below u.heap.size u v → Arg v q (ws (num64 k).1).length t (ws (num64 k).1) → Calls Tryd.prog 92 #[.slice q (ws (num64 k).1).length t, .int .i64 (num64 k).2, .slice p (ws X).length s, .int .i64 e] v fun r w' => r = .returned (.int .i64 (endZ X e k)) ∧ Below v.heap.size v w' := fun k v q t hk hb hA => by
    have hl := num64_len k
    have hr : -1074 ≤ (num64 k).2 ∧ (num64 k).2 ≤ 1000 := by unfold num64; split <;> simp only <;> omega
    have := against_any hA (A.below hb) (by omega) (by omega) (num64 k).2 e (by omega) (by omega) (by omega) (by omega)
    rw [val_ws, val_ws] at this
    exact this
  refine nearby_core 53 (-1074) 9218868437227405312 n K e (num64 K).2 mode (num64 K).1 _ _ (num64_len K) (by omega) hm0 hm4 hv3 ?_ (hid fun v => rNumber64 K (by omega) v) (hid fun v q t hb hA => HAg K v q t hK hb hA) ?_
  · refine hid fun v hb => ?_
    refine (below_core 53 (-1074) 9218868437227405312 e (by omega) (by omega) num64 (endZ X e) num64_len (hid fun k v hk => rNumber64 k (by omega) v) (hid fun k v' q t hk hb' hA => HAg k v' q t hk (hb.trans (hb'.mono hb.size)) hA)).mono ?_
    rintro r w' ⟨⟨k, rfl, hk, h1, h2⟩, hb2⟩
    rw [end_uniq F k hk h1 h2, hKK]
    exact ⟨rfl, hb2⟩
  · refine hid fun v hb => ?_
    refine half_core 53 (-1074) 9218868437227405312 (K : Int) ((K + 1 : Nat) : Int) e (num64 K).2 (num64 (K + 1)).2 ((num64 (K + 1)).2 - (num64 K).2) (num64 K).1 (num64 (K + 1)).1 ((num64 (K + 1)).1 * 2 ^ ((num64 (K + 1)).2 - (num64 K).2).toNat) ((num64 K).1 + (num64 (K + 1)).1 * 2 ^ ((num64 (K + 1)).2 - (num64 K).2).toNat) (X * 2) (endH X e K) (num64_len K) (num64_len _) lM lS (by omega) ?_ (decide_eq_false (by omega)) ?_ (hid fun v => rNumber64 K (by omega) v) (hid fun v => rNumber64 (K + 1) (by omega) v) ?_ ?_ ?_ ?_
    · simp [IntKind.wrap, IntKind.bits, IntKind.signed]; omega
    · simp [IntKind.wrap, IntKind.bits, IntKind.signed]; omega
    · refine hid fun v' q t lo hN => ?_
      have := moved_any hN ((num64 (K + 1)).2 - (num64 K).2) (by omega) (by omega) (fun h => by have := b1.2.2.2.1 h; omega) (by have := num64_len (K + 1); omega)
      rw [if_neg (by omega)] at this
      exact this
    · exact hid fun v' q t q2 t2 h1 h2 => rPlus_arg h1 h2 (by have := num64_len K; omega) (by omega) (by rw [val_ws, val_ws])
    · exact hid fun v' q hb' hA => rTimes_arg (A.below (hb.trans (hb'.mono hb.size))) hA (by omega) (by rw [val_ws]; rfl)
    · refine hid fun v' q t q2 t3 h1 h2 => ?_
      have := against_any h1 h2 (by omega) (by omega) e (num64 K).2 (by omega) (by omega) (by omega) (by omega)
      rw [val_ws, val_ws] at this
      exact this
end Go.Proofs.YthilnddhehbjiaaDoor

/- DyadRounds: the document's Round at 64 bits, whole. -/
namespace Go.Proofs.YthilnddhehbjiaaDoor
open Go.RowKit
set_option linter.unusedVariables false
set_option maxRecDepth 20000

theorem rRound_any {w : World} {a : Option Addr} {l c : Nat} {xs : List Nat} (h1 : Arg w a l c xs) (hl : l ≤ 2000000) (n : Bool) (e mode : Int) (he0 : -9223372036854775808 ≤ e) (he1 : e ≤ 9223372036854775807) :
    Calls Tryd.prog 43 #[.agg #[.bool n, .slice a l c, .int .i64 e], .int .i64 mode] w fun r w' => r = .returned (.tuple #[.float .f64 (rndS (mkS n (val xs) e) mode).1, .int .i64 (rndS (mkS n (val xs) e) mode).2]) ∧ Below w.heap.size w w' := by
  have HM := hid fun u (hu : Below w.heap.size w u) => rMade_any (h1.below hu) hl n e he0 he1
  by_cases hm0 : mode < 0
  · have hr : rndS (mkS n (val xs) e) mode = (0, 1) := by unfold rndS; rw [if_pos (.inl hm0)]
    rw [hr]
    exact rRound_lo n e mode hm0
  · by_cases hm4 : 4 < mode
    · have hr : rndS (mkS n (val xs) e) mode = (0, 1) := by unfold rndS; rw [if_pos (.inr hm4)]
      rw [hr]
      exact rRound_hi n e mode (decide_eq_false hm0) hm4
    · have lX := mkS_len n (val xs) e
      cases ho : mkS n (val xs) e with
      | none =>
        rw [ho] at HM lX
        have hr : rndS none mode = (0, 2) := by unfold rndS; rw [if_neg (by omega)]
        rw [hr]
        exact rRound_no n e mode (dN none) (dE none) (dX none) (by omega) (by omega) lX HM
      | some x =>
        obtain ⟨nD, XD, eD⟩ := x
        have F := mkS_frm ho
        rw [ho] at HM lX
        rw [rndS_form mode nD XD eD (by omega) (by omega)]
        have hle := rW_le mode nD XD eD F
        have HB := hid fun (u : World) (p : Option Addr) (s : Nat) (hA : Arg u p (ws XD).length s (ws XD)) => nearby64 hA F mode (by omega) (by omega)
        cases nD with
        | false =>
          refine rRound_p n e mode eD XD _ _ 0 (by omega) (by omega) lX (by omega) ?_ HM (hid fun u => of64_any u) HB
          unfold wd64 rS
          split <;> simp
        | true =>
          have hX : XD ≠ 0 := fun h => by rcases F.odd with k | ⟨_, k, _⟩; omega; cases k
          refine rRound_n n e mode eD XD _ _ ((rW mode true XD eD : Nat) + 9223372036854775808) (by omega) (by omega) lX (by omega) ?_ ?_ HM (hid fun u => of64_any u) HB
          · simp [IntKind.wrap, IntKind.bits, IntKind.signed]; omega
          · unfold wd64 rS
            rw [if_neg hX, if_pos rfl]
            omega
end Go.Proofs.YthilnddhehbjiaaDoor

