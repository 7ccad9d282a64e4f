import Derived.Test.YthilnddhehbjiaaDoorM2
import Derived.Laws.Bits64b
import Derived.Test.YthilnddhehbjiaaDoorW1
import Derived.Test.YthilnddhehbjiaaDoorM1
/- Bits of words. -/
namespace Go.Proofs.YthilnddhehbjiaaDoor
open Go.RowKit

theorem wrap_u32n (n : Int) : IntKind.u32.wrap n = n % 4294967296 := by simp [IntKind.wrap, IntKind.signed, IntKind.bits]

theorem ofInt32 (a : Nat) (ha : a < 4294967296) : (BitVec.ofInt 32 (a : Int)).toNat = a := by
  rw [BitVec.ofInt_natCast, BitVec.toNat_ofNat]; exact Nat.mod_eq_of_lt (by omega)

theorem and32 (a b : Nat) (ha : a < 4294967296) (hb : b < 4294967296) : bits .and .u32 (a : Int) (b : Int) = ((a &&& b : Nat) : Int) := by
  have hx : a &&& b < 2 ^ 32 := Nat.and_lt_two_pow _ (by omega)
  show IntKind.u32.wrap ((BitVec.ofInt 32 (a : Int) &&& BitVec.ofInt 32 (b : Int)).toNat : Int) = _
  rw [BitVec.toNat_and, ofInt32 a ha, ofInt32 b hb, wrap_u32n]
  omega
theorem or32 (a b : Nat) (ha : a < 4294967296) (hb : b < 4294967296) : bits .or .u32 (a : Int) (b : Int) = ((a ||| b : Nat) : Int) := by
  have hx : a ||| b < 2 ^ 32 := Nat.or_lt_two_pow (by omega) (by omega)
  show IntKind.u32.wrap ((BitVec.ofInt 32 (a : Int) ||| BitVec.ofInt 32 (b : Int)).toNat : Int) = _
  rw [BitVec.toNat_or, ofInt32 a ha, ofInt32 b hb, wrap_u32n]
  omega
theorem xor32 (a b : Nat) (ha : a < 4294967296) (hb : b < 4294967296) : bits .xor .u32 (a : Int) (b : Int) = ((a ^^^ b : Nat) : Int) := by
  have hx : a ^^^ b < 2 ^ 32 := Nat.xor_lt_two_pow (by omega) (by omega)
  show IntKind.u32.wrap ((BitVec.ofInt 32 (a : Int) ^^^ BitVec.ofInt 32 (b : Int)).toNat : Int) = _
  rw [BitVec.toNat_xor, ofInt32 a ha, ofInt32 b hb, wrap_u32n]
  omega

theorem borrow_nat (x y c d : Nat) (hx : x < 4294967296) (hy : y < 4294967296) (hc : c ≤ 1) (hd : (d : Int) = ((x : Int) - y - c) % 4294967296) :
    (((4294967295 ^^^ x) &&& y) ||| ((4294967295 ^^^ (x ^^^ y)) &&& d)) / 2147483648 = if x < y + c then 1 else 0 := by
  have e : ∀ n : Nat, n / 2147483648 = n >>> 31 := fun n => by rw [Nat.shiftRight_eq_div_pow]
  rw [e, Nat.shiftRight_or_distrib, Nat.shiftRight_and_distrib, Nat.shiftRight_and_distrib, Nat.shiftRight_xor_distrib, Nat.shiftRight_xor_distrib, Nat.shiftRight_xor_distrib, ← e, ← e, ← e, ← e]
  have hd2 : d < 4294967296 := by omega
  have h1 : x / 2147483648 = 0 ∨ x / 2147483648 = 1 := by omega
  have h2 : y / 2147483648 = 0 ∨ y / 2147483648 = 1 := by omega
  have h3 : d / 2147483648 = 0 ∨ d / 2147483648 = 1 := by omega
  rw [show 4294967295 / 2147483648 = 1 from rfl]
  rcases h1 with h1 | h1 <;> rcases h2 with h2 | h2 <;> rcases h3 with h3 | h3 <;> rw [h1, h2, h3] <;> split <;> first | rfl | (exfalso; omega)

theorem borrow_int (x y c : Nat) (hx : x < 4294967296) (hy : y < 4294967296) (hc : c ≤ 1) :
    bits BinOp.or IntKind.u32 (bits BinOp.and IntKind.u32 (bits BinOp.xor IntKind.u32 IntKind.u32.max x) y)
                (bits BinOp.and IntKind.u32
                  (bits BinOp.xor IntKind.u32 IntKind.u32.max (bits BinOp.xor IntKind.u32 x y))
                  (((x : Int) - y - c) % 4294967296)) /
              2147483648 = ((if x < y + c then 1 else 0 : Nat) : Int) := by
  obtain ⟨d, hd⟩ : ∃ d : Nat, (d : Int) = ((x : Int) - y - c) % 4294967296 := ⟨(((x : Int) - y - c) % 4294967296).toNat, by omega⟩
  have hd2 : d < 4294967296 := by omega
  have hm : IntKind.u32.max = ((4294967295 : Nat) : Int) := by decide
  have hn : ∀ a b : Nat, a < 4294967296 → b < 4294967296 → a ^^^ b < 4294967296 := fun a b ha hb => Nat.xor_lt_two_pow (n := 32) ha hb
  have ha : ∀ a b : Nat, b < 4294967296 → a &&& b < 4294967296 := fun a b hb => Nat.and_lt_two_pow (n := 32) a hb
  rw [hm, xor32 x y hx hy, xor32 _ _ (by decide) hx, xor32 _ _ (by decide) (hn _ _ hx hy), and32 _ _ (hn _ _ (by decide) hx) hy, ← hd, and32 _ _ (hn _ _ (by decide) (hn _ _ hx hy)) hd2,
    or32 _ _ (ha _ _ hy) (ha _ _ hd2), ← borrow_nat x y c d hx hy hc hd]
  omega
end Go.Proofs.YthilnddhehbjiaaDoor

/- Sums and differences of words, what is long, which is greater. -/
namespace Go.Proofs.YthilnddhehbjiaaDoor
open Go.RowKit
set_option linter.unusedVariables false
set_option maxRecDepth 20000

set_option maxHeartbeats 1000000 in
theorem add32_int (x y c : Int) (w : World) (hx : 0 ≤ x) (hx2 : x < 4294967296) (hy : 0 ≤ y) (hy2 : y < 4294967296) (hc : 0 ≤ c) (hc2 : c ≤ 1) :
    Calls Tryd.prog 145 #[.int .u32 x, .int .u32 y, .int .u32 c] w fun r w' => r = .returned (.tuple #[.int .u32 ((x + y + c) % 4294967296), .int .u32 ((x + y + c) / 4294967296)]) ∧ w' = w := by
  go_enter Tryd.func145, Tryd.ntmps145
  go_wp2
  go_ret2
  exact ⟨rfl, rfl⟩

theorem add32_nat (x y c s d : Nat) (w : World) (hx : x < 4294967296) (hy : y < 4294967296) (hc : c ≤ 1) (hs : s = (x + y + c) % 4294967296) (hd : d = (x + y + c) / 4294967296) :
    Calls Tryd.prog 145 #[.int .u32 (x : Int), .int .u32 (y : Int), .int .u32 (c : Int)] w fun r w' => r = .returned (.tuple #[.int .u32 (s : Int), .int .u32 (d : Int)]) ∧ w' = w := by
  have h := add32_int x y c w (by omega) (by omega) (by omega) (by omega) (by omega) (by omega)
  rw [show ((x : Int) + y + c) % 4294967296 = (s : Int) by omega, show ((x : Int) + y + c) / 4294967296 = (d : Int) by omega] at h
  exact h

set_option maxHeartbeats 1000000 in
theorem sub32_int (x y c bo : Int) (w : World) (hx : 0 ≤ x) (hx2 : x < 4294967296) (hy : 0 ≤ y) (hy2 : y < 4294967296) (hc : 0 ≤ c) (hc2 : c ≤ 1)
    (hb : bits BinOp.or IntKind.u32 (bits BinOp.and IntKind.u32 (bits BinOp.xor IntKind.u32 IntKind.u32.max x) y)
                (bits BinOp.and IntKind.u32
                  (bits BinOp.xor IntKind.u32 IntKind.u32.max (bits BinOp.xor IntKind.u32 x y))
                  ((x - y - c) % 4294967296)) /
              2147483648 = bo) :
    Calls Tryd.prog 132 #[.int .u32 x, .int .u32 y, .int .u32 c] w fun r w' => r = .returned (.tuple #[.int .u32 ((x - y - c) % 4294967296), .int .u32 bo]) ∧ w' = w := by
  go_enter Tryd.func132, Tryd.ntmps132
  go_wp2
  all_goals first | (go_ret2; exact ⟨rfl, rfl⟩) | skip

theorem sub32_nat (x y c s d : Nat) (w : World) (hx : x < 4294967296) (hy : y < 4294967296) (hc : c ≤ 1) (hs : (s : Int) = ((x : Int) - y - c) % 4294967296) (hd : d = if x < y + c then 1 else 0) :
    Calls Tryd.prog 132 #[.int .u32 (x : Int), .int .u32 (y : Int), .int .u32 (c : Int)] w fun r w' => r = .returned (.tuple #[.int .u32 (s : Int), .int .u32 (d : Int)]) ∧ w' = w := by
  have h := sub32_int x y c d w (by omega) (by omega) (by omega) (by omega) (by omega) (by omega) (by rw [borrow_int x y c hx hy hc, ← hd])
  rw [← hs] at h
  exact h

theorem long_any (n : Nat) (ao : Option Addr) (cap : Nat) (w : World) :
    Calls Tryd.prog 62 #[.slice ao n cap] w fun r w' => r = .returned (.bool (decide ((8192 : Int) < (n : Int)))) ∧ w' = w := by
  go_enter Tryd.func62, Tryd.ntmps62
  go_wp2
  go_ret
  exact ⟨rfl, rfl⟩

theorem unlessLong_any (n : Nat) (ao : Option Addr) (cap : Nat) (w : World) :
    Calls Tryd.prog 64 #[.slice ao n cap] w fun r w' => r = .returned (if 8192 < n then .tuple #[.slice none 0 0, .int .i64 2] else .tuple #[.slice ao n cap, .int .i64 0]) ∧ w' = w := by
  by_cases h : 8192 < n
  · rw [if_pos h]
    have hl := long_any n ao cap
    have h' : (8192 : Int) < (n : Int) := by omega
    simp only [h', decide_true] at hl
    have H : Hid (∀ w, _) := hl
    clear hl
    go_enter Tryd.func64, Tryd.ntmps64
    go_wp2_with fail
    refine (H.out _).mono ?_
    rintro r w1 ⟨rfl, rfl⟩
    go_wp2
    go_ret2
    exact ⟨rfl, rfl⟩
  · rw [if_neg h]
    have hl := long_any n ao cap
    have h' : ¬ (8192 : Int) < (n : Int) := by omega
    simp only [h', decide_false] at hl
    have H : Hid (∀ w, _) := hl
    clear hl
    go_enter Tryd.func64, Tryd.ntmps64
    go_wp2_with fail
    refine (H.out _).mono ?_
    rintro r w1 ⟨rfl, rfl⟩
    go_wp2
    go_ret2
    exact ⟨rfl, rfl⟩

theorem isNaN_i (x : Int) (w : World) : Calls Tryd.prog 119 #[.int .i64 x] w fun r w' => r = .returned (.bool false) ∧ w' = w := by
  go_enter Tryd.func119, Tryd.ntmps119
  go_wp2
  go_ret
  exact ⟨rfl, rfl⟩
theorem isNaN_u (x : Int) (w : World) : Calls Tryd.prog 137 #[.int .u32 x] w fun r w' => r = .returned (.bool false) ∧ w' = w := by
  go_enter Tryd.func137, Tryd.ntmps137
  go_wp2
  go_ret
  exact ⟨rfl, rfl⟩

/-- -1, 0, 1. -/
def cmpI (x y : Nat) : Int := if x < y then -1 else if y < x then 1 else 0

theorem compare_i (x y : Nat) (w : World) : Calls Tryd.prog 90 #[.int .i64 (x : Int), .int .i64 (y : Int)] w fun r w' => r = .returned (.int .i64 (cmpI x y)) ∧ w' = w := by
  have H : Hid (∀ x w, _) := isNaN_i
  by_cases h : x < y
  · have e : cmpI x y = -1 := by simp [cmpI, h]
    rw [e]; clear e
    go_enter Tryd.func90, Tryd.ntmps90
    go_wp2_with fail
    refine (H.out _ _).mono ?_
    rintro r w1 ⟨rfl, rfl⟩
    go_wp2_with fail
    refine (H.out _ _).mono ?_
    rintro r w1 ⟨rfl, rfl⟩
    go_wp2
    go_ret
    exact ⟨rfl, rfl⟩
  · by_cases h2 : y < x
    · have e : cmpI x y = 1 := by simp [cmpI, h, h2]
      rw [e]; clear e
      go_enter Tryd.func90, Tryd.ntmps90
      go_wp2_with fail
      refine (H.out _ _).mono ?_
      rintro r w1 ⟨rfl, rfl⟩
      go_wp2_with fail
      refine (H.out _ _).mono ?_
      rintro r w1 ⟨rfl, rfl⟩
      go_wp2
      go_ret
      exact ⟨rfl, rfl⟩
    · have e : cmpI x y = 0 := by simp [cmpI, h, h2]
      rw [e]; clear e
      go_enter Tryd.func90, Tryd.ntmps90
      go_wp2_with fail
      refine (H.out _ _).mono ?_
      rintro r w1 ⟨rfl, rfl⟩
      go_wp2_with fail
      refine (H.out _ _).mono ?_
      rintro r w1 ⟨rfl, rfl⟩
      go_wp2
      go_ret
      exact ⟨rfl, rfl⟩

theorem compare_u (x y : Nat) (w : World) : Calls Tryd.prog 108 #[.int .u32 (x : Int), .int .u32 (y : Int)] w fun r w' => r = .returned (.int .i64 (cmpI x y)) ∧ w' = w := by
  have H : Hid (∀ x w, _) := isNaN_u
  by_cases h : x < y
  · have e : cmpI x y = -1 := by simp [cmpI, h]
    rw [e]; clear e
    go_enter Tryd.func108, Tryd.ntmps108
    go_wp2_with fail
    refine (H.out _ _).mono ?_
    rintro r w1 ⟨rfl, rfl⟩
    go_wp2_with fail
    refine (H.out _ _).mono ?_
    rintro r w1 ⟨rfl, rfl⟩
    go_wp2
    go_ret
    exact ⟨rfl, rfl⟩
  · by_cases h2 : y < x
    · have e : cmpI x y = 1 := by simp [cmpI, h, h2]
      rw [e]; clear e
      go_enter Tryd.func108, Tryd.ntmps108
      go_wp2_with fail
      refine (H.out _ _).mono ?_
      rintro r w1 ⟨rfl, rfl⟩
      go_wp2_with fail
      refine (H.out _ _).mono ?_
      rintro r w1 ⟨rfl, rfl⟩
      go_wp2
      go_ret
      exact ⟨rfl, rfl⟩
    · have e : cmpI x y = 0 := by simp [cmpI, h, h2]
      rw [e]; clear e
      go_enter Tryd.func108, Tryd.ntmps108
      go_wp2_with fail
      refine (H.out _ _).mono ?_
      rintro r w1 ⟨rfl, rfl⟩
      go_wp2_with fail
      refine (H.out _ _).mono ?_
      rintro r w1 ⟨rfl, rfl⟩
      go_wp2
      go_ret
      exact ⟨rfl, rfl⟩
end Go.Proofs.YthilnddhehbjiaaDoor

/- Pieces of a row of words, and their value. -/
namespace Go.Proofs.YthilnddhehbjiaaDoor
set_option linter.unusedVariables false
set_option maxRecDepth 20000

/-- The value of k words from off on. -/
def sg (L : List Nat) (off k : Nat) : Nat := val ((L.drop off).take k)

theorem sg_zero (L : List Nat) (off : Nat) : sg L off 0 = 0 := by simp [sg, val]
theorem sg_succ (L : List Nat) (off k : Nat) (h : off + k < L.length) : sg L off (k + 1) = sg L off k + pw k * L.getD (off + k) 0 := by
  unfold sg
  rw [val_take_succ _ _ (by simp; omega)]
  simp [List.getD_eq_getElem?_getD]
theorem sg_front (L : List Nat) (off k : Nat) (h : off < L.length) : sg L off (k + 1) = L.getD off 0 + 4294967296 * sg L (off + 1) k := by
  unfold sg
  rw [List.drop_eq_getElem_cons h, List.take_succ_cons, val, List.getD_eq_getElem?_getD, List.getElem?_eq_getElem h]
  rfl
theorem sg_all (L : List Nat) : sg L 0 L.length = val L := by simp [sg]
theorem sg_add (L : List Nat) (off k m : Nat) (h : off + k + m ≤ L.length) : sg L off (k + m) = sg L off k + pw k * sg L (off + k) m := by
  induction m with
  | zero => simp [sg_zero]
  | succ m ih =>
    rw [← Nat.add_assoc, sg_succ L off (k + m) (by omega), sg_succ L (off + k) m (by omega), ih (by omega), pw_add, Nat.mul_add, ← Nat.add_assoc off k m]
    simp only [Nat.mul_assoc, Nat.add_assoc]
theorem sg_congr (L M : List Nat) (off k : Nat) (hl : M.length = L.length) (h : off + k ≤ L.length) (he : ∀ j, off ≤ j → j < off + k → M.getD j 0 = L.getD j 0) : sg M off k = sg L off k := by
  induction k with
  | zero => simp [sg_zero]
  | succ k ih => rw [sg_succ M off k (by omega), sg_succ L off k (by omega), ih (by omega) (fun j h1 h2 => he j h1 (by omega)), he (off + k) (by omega) (by omega)]
theorem getD_set (L : List Nat) (i j x : Nat) : (L.set i x).getD j 0 = if i = j ∧ j < L.length then x else L.getD j 0 := by
  simp only [List.getD_eq_getElem?_getD, List.getElem?_set]
  by_cases h : i = j
  · subst h
    by_cases h2 : i < L.length
    · simp [h2]
    · simp [h2]
  · simp [h]
theorem getD_set_same (L : List Nat) (i x : Nat) (h : i < L.length) : (L.set i x).getD i 0 = x := by rw [getD_set, if_pos ⟨rfl, h⟩]
theorem getD_set_ne (L : List Nat) (i j x : Nat) (h : i ≠ j) : (L.set i x).getD j 0 = L.getD j 0 := by rw [getD_set, if_neg (fun e => h e.1)]
theorem sg_set_above (L : List Nat) (off k i x : Nat) (h : off + k ≤ i) (hl : off + k ≤ L.length) : sg (L.set i x) off k = sg L off k :=
  sg_congr L _ off k (by simp) hl (fun j _ h2 => getD_set_ne _ _ _ _ (by omega))
theorem sg_set_below (L : List Nat) (off k i x : Nat) (h : i < off) (hl : off + k ≤ L.length) : sg (L.set i x) off k = sg L off k :=
  sg_congr L _ off k (by simp) hl (fun j h1 _ => getD_set_ne _ _ _ _ (by omega))
theorem sg_set_last (L : List Nat) (off k x : Nat) (h : off + k < L.length) : sg (L.set (off + k) x) off (k + 1) = sg L off k + pw k * x := by
  rw [sg_succ _ _ _ (by simp; omega), getD_set_same _ _ _ h, sg_set_above _ _ _ _ _ (by omega) (by omega)]
theorem sg_lt (L : List Nat) (off k : Nat) (hw : Wf L) (h : off + k ≤ L.length) : sg L off k < pw k := by
  have := val_lt _ ((hw.drop off).take k)
  simp only [List.length_take, List.length_drop] at this
  rw [Nat.min_eq_left (by omega)] at this
  exact this
theorem sg_take (L : List Nat) (off k : Nat) (h : k ≤ L.length) : sg (L.take k) 0 k = sg L 0 k := by simp [sg, List.take_take]
theorem sg_val_take (L : List Nat) (k : Nat) : sg L 0 k = val (L.take k) := by simp [sg]
theorem sg_drop (L : List Nat) (off k : Nat) (h : off + k = L.length) : sg L off k = val (L.drop off) := by unfold sg; rw [List.take_of_length_le (by simp; omega)]
theorem getD_zeros (n i : Nat) : (List.replicate n 0).getD i 0 = 0 := by
  simp only [List.getD_eq_getElem?_getD, List.getElem?_replicate]; split <;> rfl
theorem sg_zeros (n off k : Nat) : sg (List.replicate n 0) off k = 0 := by
  unfold sg; rw [List.drop_replicate, List.take_replicate, val_zeros]

/-- M is L but for the words from off to off + n. -/
def Out (L M : List Nat) (off n : Nat) : Prop := M.length = L.length ∧ ∀ j, (j < off ∨ off + n ≤ j) → M.getD j 0 = L.getD j 0
theorem Out.refl (L : List Nat) (off n : Nat) : Out L L off n := ⟨rfl, fun _ _ => rfl⟩
theorem Out.set {L M : List Nat} {off n : Nat} (h : Out L M off n) (i x : Nat) (h1 : off ≤ i) (h2 : i < off + n) : Out L (M.set i x) off n :=
  ⟨by simp [h.1], fun j hj => by rw [getD_set_ne _ _ _ _ (by omega)]; exact h.2 j hj⟩
theorem Out.mono {L M : List Nat} {off n k : Nat} (h : Out L M off n) (hk : n ≤ k) : Out L M off k := ⟨h.1, fun j hj => h.2 j (by omega)⟩
theorem Out.trans {L M K : List Nat} {off n : Nat} (h : Out L M off n) (k : Out M K off n) : Out L K off n := ⟨k.1.trans h.1, fun j hj => (k.2 j hj).trans (h.2 j hj)⟩
theorem Out.below {L M : List Nat} {off n : Nat} (h : Out L M off n) (a k : Nat) (h1 : a + k ≤ off) (h2 : a + k ≤ L.length) : sg M a k = sg L a k := sg_congr L M a k h.1 h2 (fun j _ hj => h.2 j (by omega))
theorem Out.above {L M : List Nat} {off n : Nat} (h : Out L M off n) (a k : Nat) (h1 : off + n ≤ a) (h2 : a + k ≤ L.length) : sg M a k = sg L a k := sg_congr L M a k h.1 h2 (fun j hj _ => h.2 j (by omega))

/-- One word more, with what is carried. -/
theorem carry_step (p a b V c x y s d : Nat) (h : V + c * p = a + b) (e : s + d * 4294967296 = x + y + c) : V + p * s + d * (4294967296 * p) = (a + p * x) + (b + p * y) := by
  have : p * (s + d * 4294967296) = p * (x + y + c) := by rw [e]
  grind

/-- What was not reached is as it was. -/
theorem seg_rest {L M : List Nat} {off k n V : Nat} (hk : k ≤ n) (hn : off + n ≤ L.length) (ho : Out L M off k) (h : sg M off k = sg L off k + V) : sg M off n = sg L off n + V := by
  obtain ⟨d, rfl⟩ : ∃ d, n = k + d := ⟨n - k, by omega⟩
  have h1 := sg_add M off k d (by rw [ho.1]; omega)
  have h2 := sg_add L off k d (by omega)
  have h3 := ho.above (off + k) d (by omega) (by omega)
  rw [h1, h2, h3]; omega

/-- One word more of a product, with what is carried. -/
theorem times_step (p a b V c x y q s d : Nat) (h : V + c * p = a + b * q) (e : s + d * 4294967296 = y * q + x + c) : V + p * s + d * (4294967296 * p) = (a + p * x) + (b + p * y) * q := by
  have : p * (s + d * 4294967296) = p * (y * q + x + c) := by rw [e]
  grind

theorem mul_bound (x y : Nat) (hx : x < 4294967296) (hy : y < 4294967296) : x * y ≤ 18446744065119617025 := by
  have : x * y ≤ 4294967295 * 4294967295 := Nat.mul_le_mul (by omega) (by omega)
  omega

/-- One word more of a product that is taken away. -/
theorem takes_step (p a b V c x y q s d : Nat) (h : V + b * q = a + c * p) (e : s + y * q + c = x + d * 4294967296) : V + p * s + (b + p * y) * q = (a + p * x) + d * (4294967296 * p) := by
  have : p * (s + y * q + c) = p * (x + d * 4294967296) := by rw [e]
  grind

/-- One word more of a quotient. -/
theorem cut_step (X Q q x d l l2 : Nat) (h : X = Q * d + l) (e : l * 4294967296 + x = q * d + l2) : x + 4294967296 * X = (q + 4294967296 * Q) * d + l2 := by
  subst h
  grind

/-- One word more of a difference. -/
theorem borrow_step (p a b V c x y s d : Nat) (h : V + b = a + c * p) (e : s + y + c = x + d * 4294967296) : V + p * s + (b + p * y) = (a + p * x) + d * (4294967296 * p) := by
  have : p * (s + y + c) = p * (x + d * 4294967296) := by rw [e]
  grind

/-- What was not reached is as it was (differences). -/
theorem seg_rest2 {L M : List Nat} {off k n V : Nat} (hk : k ≤ n) (hn : off + n ≤ L.length) (ho : Out L M off k) (h : sg M off k + V = sg L off k) : sg M off n + V = sg L off n := by
  obtain ⟨d, rfl⟩ : ∃ d, n = k + d := ⟨n - k, by omega⟩
  have h1 := sg_add M off k d (by rw [ho.1]; omega)
  have h2 := sg_add L off k d (by omega)
  have h3 := ho.above (off + k) d (by omega) (by omega)
  rw [h1, h2, h3]; omega
end Go.Proofs.YthilnddhehbjiaaDoor

/- cut: a quotient by a word in place. -/
namespace Go.Proofs.YthilnddhehbjiaaDoor
open Go.RowKit
set_option linter.unusedVariables false
set_option maxRecDepth 20000

theorem or64_join (l x : Nat) (hl : l < 4294967296) (hx : x < 4294967296) : bits BinOp.or IntKind.u64 ((l : Int) * 4294967296) (x : Int) = ((l * 4294967296 + x : Nat) : Int) := by
  have e : ((l : Int) * 4294967296) = ((l * 4294967296 : Nat) : Int) := by simp only [Int.natCast_mul]; rfl
  rw [e, bits_or_u64_nat _ _ (by omega) (by omega)]
  have := Nat.two_pow_add_eq_or_of_lt (i := 32) (b := x) (by omega) l
  have e2 : 2 ^ 32 * l = l * 4294967296 := by rw [Nat.mul_comm]
  rw [e2] at this
  rw [this]

set_option maxHeartbeats 2000000 in
theorem cut_any (L : List Nat) (g off n cap q : Nat) (w : World)
    (hO : Own w g L) (hoff : off + n ≤ L.length) (hcap : n ≤ cap) (hbig : n ≤ 4611686018427387904) (hL : Wf L) (hq : q < 4294967296) (hq0 : 0 < q) :
    Calls Tryd.prog 60 #[.slice (some ⟨g, off, none⟩) n cap, .int .u32 (q : Nat)] w fun r w' =>
      ∃ M, ∃ c : Nat, r = .returned (.int .u32 (c : Nat)) ∧ c < q ∧ Own w' g M ∧ Wf M ∧ Out L M off n ∧ sg L off n = sg M off n * q + c ∧ But g w w' := by
  have HR : Aside (Wf L ∧ off + n ≤ L.length) := ⟨hL, hoff⟩
  have HO : Hid (Own w g L) := hO
  clear hL hO hoff
  go_enter Tryd.func60, Tryd.ntmps60
  go_wp2
  go_loopg [5, 6] n (fun k c i wr => ∃ (cv : Nat) (M : List Nat), k ≤ n ∧ c = .int .u64 (cv : Nat) ∧ cv < q ∧ i = .int .i64 ((k : Int) - 1) ∧
      Hid (Own wr g M) ∧ Aside (Wf M ∧ Out L M (off + k) (n - k) ∧ sg L (off + k) (n - k) = sg M (off + k) (n - k) * q + cv ∧ But g w wr))
  case atStart => exact ⟨0, L, Nat.le_refl _, rfl, hq0, rfl, HO, HR.out.1, Out.refl _ _ _, by simp [sg_zero], But.refl _ _⟩
  case round =>
    obtain ⟨cv, M, hk, rfl, hcv, rfl, HM, HA⟩ := hrel
    by_cases hk0 : gk = 0
    · subst hk0
      go_wp2
      go_ret
      obtain ⟨hMw, hMo, hMs, hbut⟩ := HA.out
      exact ⟨M, cv, rfl, hcv, HM.out, hMw, hMo, hMs, hbut⟩
    · obtain ⟨k, rfl⟩ : ∃ k, gk = k + 1 := ⟨gk - 1, by omega⟩
      obtain ⟨hL, hoff⟩ := HR.out
      obtain ⟨hMw, hMo, hMs, hbut⟩ := HA.out
      have hgc := HM.out.cell (off + k) (by rw [hMo.1]; omega)
      have hgf := HM.out.frozen (off + k)
      obtain ⟨x, hx⟩ : ∃ x : Nat, M.getD (off + k) 0 = x := ⟨_, rfl⟩
      have hxl : x < 4294967296 := hx ▸ hMw.get _
      rw [hx] at hgc
      obtain ⟨t, ht⟩ : ∃ t : Nat, t = cv * 4294967296 + x := ⟨_, rfl⟩
      have e1 : bits BinOp.or IntKind.u64 ((cv : Int) * 4294967296) (x : Int) = (t : Int) := by rw [or64_join cv x (by omega) hxl, ht]
      have ht2 : (t : Int) < 18446744073709551616 := by omega
      have hqlt : t / q < 4294967296 := by
        rw [Nat.div_lt_iff_lt_mul hq0]
        have : cv * 4294967296 + 4294967296 ≤ q * 4294967296 := by omega
        omega
      obtain ⟨s, hs⟩ : ∃ s : Nat, s = t / q := ⟨_, rfl⟩
      obtain ⟨d, hd⟩ : ∃ d : Nat, d = t % q := ⟨_, rfl⟩
      have e2 : (t : Int) / (q : Int) = (s : Int) := by rw [hs]; simp
      have e3 : (t : Int) % (q : Int) = (d : Int) := by rw [hd]; simp
      have hs2 : s < 4294967296 := by omega
      have hdq : d < q := by rw [hd]; exact Nat.mod_lt _ hq0
      have HX : Aside (M.getD (off + k) 0 = x ∧ cv * 4294967296 + x = s * q + d) := ⟨hx, by rw [hs, hd, ← ht, Nat.mul_comm]; exact (Nat.div_add_mod t q).symm⟩
      clear hx hs hd hL hoff hMw hMo hMs hbut ht hk0 hqlt
      go_wp2
      go_region
      all_goals (
        go_wp2
        go_roundg k
        case measure => omega
        case rel =>
          obtain ⟨hx, he⟩ := HX.out
          obtain ⟨hL, hoff⟩ := HR.out
          obtain ⟨hMw, hMo, hMs, hbut⟩ := HA.out
          have hx2 : L.getD (off + k) 0 = x := by rw [← hx]; exact (hMo.2 _ (by omega)).symm
          refine ⟨d, M.set (off + k) s, by omega, by first | rfl | rw [e3], hdq, by first | go_num | (congr 1; omega), (HM.out.set (off + k) s).drew, hMw.set _ _ hs2, ⟨by simp [hMo.1], fun j hj => ?_⟩, ?_, (hbut.set (off + k) _).drew⟩
          · by_cases hj2 : j = off + k
            · omega
            · rw [getD_set_ne _ _ _ _ (fun e => hj2 e.symm)]; exact hMo.2 j (by omega)
          · obtain ⟨r, hr⟩ : ∃ r, n - k = r + 1 := ⟨n - (k + 1), by omega⟩
            have hr2 : n - (k + 1) = r := by omega
            rw [hr2] at hMs
            rw [hr, sg_front L _ _ (by omega), sg_front _ _ _ (by simp [hMo.1]; omega), getD_set_same _ _ _ (by rw [hMo.1]; omega), sg_set_below _ _ _ _ _ (by omega) (by rw [hMo.1]; omega), hx2]
            exact cut_step _ _ _ _ _ _ _ hMs he)
end Go.Proofs.YthilnddhehbjiaaDoor

/- A quotient's word, guessed by the highest words. -/
namespace Go.Proofs.YthilnddhehbjiaaDoor
set_option linter.unusedVariables false
set_option maxRecDepth 20000

/-- Where the guess stops: it times the two highest words is at most the three highest. (b: the base.) -/
theorem guess_end (b o t1 t2 l u2 T : Nat) (hT : o * t1 + l = T) (h : o * t2 ≤ l * b + u2) : o * (t1 * b + t2) ≤ T * b + u2 := by
  subst hT
  have e : o * (t1 * b + t2) = o * t1 * b + o * t2 := by grind
  have e2 : (o * t1 + l) * b = o * t1 * b + l * b := by grind
  omega

theorem guess_no (b o t1 t2 l u2 T : Nat) (hT : o * t1 + l = T) (h : l * b + u2 < o * t2) : T * b + u2 < o * (t1 * b + t2) := by
  subst hT
  have e : o * (t1 * b + t2) = o * t1 * b + o * t2 := by grind
  have e2 : (o * t1 + l) * b = o * t1 * b + l * b := by grind
  omega

theorem guess_first (b t1 t2 u2 T : Nat) (h1 : 0 < t1) (h2 : u2 < b) : T * b + u2 < (T / t1 + 1) * (t1 * b + t2) := by
  have h := Nat.lt_div_mul_add (a := T) (b := t1) h1
  have h3 : T + 1 ≤ (T / t1 + 1) * t1 := by rw [Nat.add_mul, Nat.one_mul]; omega
  have h4 : (T + 1) * b ≤ (T / t1 + 1) * t1 * b := Nat.mul_le_mul_right _ h3
  have e : (T / t1 + 1) * (t1 * b + t2) = (T / t1 + 1) * t1 * b + (T / t1 + 1) * t2 := by grind
  rw [Nat.add_mul, Nat.one_mul] at h4
  omega

theorem guess_break (b o t1 t2 l u2 T : Nat) (hT : o * t1 + l = T) (hl : b ≤ l) (hT2 : T < t1 * b + b) (ht : t2 < b) (h1 : 0 < t1) : o < b ∧ o * t2 ≤ l * b + u2 := by
  have ho : o < b := by
    by_cases h : o < b
    · exact h
    · exfalso
      have : b * t1 ≤ o * t1 := Nat.mul_le_mul_right _ (by omega)
      rw [Nat.mul_comm b] at this
      omega
  have h2 : o * t2 ≤ b * b := Nat.mul_le_mul (by omega) (by omega)
  have h3 : b * b ≤ l * b := Nat.mul_le_mul_right _ hl
  exact ⟨ho, by omega⟩

/-- The guess is the quotient, or one more. P counts what lies below the two highest words. -/
theorem guess_good (b o D W P u v U V : Nat) (hP : 0 < P) (hU : U = W * P + u) (hu : u < P) (hV : V = D * P + v) (hv : v < P) (h1 : o * D ≤ W) (h2 : b ≤ o + 1 ∨ W < (o + 1) * D) (hlt : U < V * b) (ho : o < b) (hD : b ≤ D) :
    U < (o + 1) * V ∧ o * V ≤ U + V := by
  constructor
  · rcases h2 with h2 | h2
    · obtain rfl : b = o + 1 := by omega
      rw [Nat.mul_comm]; exact hlt
    · have h3 : (W + 1) * P ≤ (o + 1) * D * P := Nat.mul_le_mul_right _ h2
      have h4 : (o + 1) * V = (o + 1) * D * P + (o + 1) * v := by rw [hV]; grind
      rw [Nat.add_mul] at h3
      omega
  · rcases o with _ | o
    · omega
    · have h3 : (o + 1) * D * P ≤ W * P := Nat.mul_le_mul_right _ h1
      have h4 : (o + 1) * V = (o + 1) * D * P + o * v + v := by rw [hV]; grind
      have h5 : o * v ≤ D * P := Nat.mul_le_mul (by omega) (by omega)
      omega

/-- The highest word of what is divided is no more than that of the divisor. -/
theorem guess_top (b P t1 t2 u0 u1 u2 u v U V : Nat) (hU : U = ((u0 * b + u1) * b + u2) * P + u) (hV : V = (t1 * b + t2) * P + v) (hv : v < P) (ht : t2 < b) (hlt : U < V * b) : u0 ≤ t1 := by
  by_cases h : u0 ≤ t1
  · exact h
  · exfalso
    have h1 : (t1 * b + t2 + 1) * P ≤ (t1 + 1) * b * P := Nat.mul_le_mul_right _ (by rw [Nat.add_mul, Nat.one_mul]; omega)
    have h2 : V < (t1 + 1) * b * P := by
      rw [Nat.add_mul, Nat.one_mul] at h1
      omega
    have h3 : V * b ≤ (t1 + 1) * b * P * b := Nat.mul_le_mul_right _ (by omega)
    have h4 : (t1 + 1) * (b * P * b) ≤ u0 * (b * P * b) := Nat.mul_le_mul_right _ (by omega)
    have h5 : (t1 + 1) * b * P * b = (t1 + 1) * (b * P * b) := by grind
    have h6 : U = u0 * (b * P * b) + (u1 * b + u2) * P + u := by rw [hU]; grind
    omega

/-- The highest words of a row of n words. -/
theorem top_two (L : List Nat) (off k : Nat) (hL : Wf L) (h : off + (k + 2) ≤ L.length) : sg L off (k + 2) = (L.getD (off + (k + 1)) 0 * 4294967296 + L.getD (off + k) 0) * pw k + sg L off k ∧ sg L off k < pw k := by
  refine ⟨?_, sg_lt L off k hL (by omega)⟩
  rw [show k + 2 = k + 1 + 1 by omega, sg_succ L off (k + 1) (by omega), sg_succ L off k (by omega), pw_succ]
  grind
theorem top_three (L : List Nat) (off k : Nat) (hL : Wf L) (h : off + (k + 3) ≤ L.length) : sg L off (k + 3) = ((L.getD (off + (k + 2)) 0 * 4294967296 + L.getD (off + (k + 1)) 0) * 4294967296 + L.getD (off + k) 0) * pw k + sg L off k ∧ sg L off k < pw k := by
  refine ⟨?_, sg_lt L off k hL (by omega)⟩
  rw [show k + 3 = k + 2 + 1 by omega, sg_succ L off (k + 2) (by omega), (top_two L off k hL (by omega)).1, show k + 2 = k + 1 + 1 by omega, pw_succ, pw_succ]
  grind
end Go.Proofs.YthilnddhehbjiaaDoor

