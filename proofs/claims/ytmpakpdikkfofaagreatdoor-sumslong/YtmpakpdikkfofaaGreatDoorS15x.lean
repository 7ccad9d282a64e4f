/- Exact. -/
import Derived.Test.YtmpakpdikkfofaaGreatDoorD1x
import Derived.Test.YtmpakpdikkfofaaGreatDoorS3x
import Derived.Laws.BitsAllLaws
import Derived.WalkLawsBesides
import Derived.Test.YtmpakpdikkfofaaGreatDoorW12x
import Derived.Deep.RegionWith
import Derived.Laws.StructEq
import Derived.BigQuiet
import Derived.Deep.RegionHeld3
namespace Go.Proofs.YtmpakpdikkfofaaGreatDoor
open Go.RowKit
set_option linter.unusedVariables false
set_option maxRecDepth 20000
set_option linter.unusedSimpArgs false

theorem neg7_val (N : Nat) (V : Int) (h : (N : Int) = V % (PB : Int)) (h0 : -(HB : Int) < V) (h1 : V < (HB : Int)) : neg7 N = decide (V < 0) ∧ mag7 N = V.natAbs := by
  have e := PB_HB
  have hp := HB_pos
  unfold mag7 neg7
  by_cases hv : 0 ≤ V
  · rw [Int.emod_eq_of_lt hv (by omega)] at h
    rw [decide_eq_false (by omega), decide_eq_false (by omega)]
    refine ⟨rfl, ?_⟩
    rw [if_neg (by decide)]
    omega
  · have h2 : V % (PB : Int) = V + PB := by
      rw [← Int.add_emod_right, Int.emod_eq_of_lt (by omega) (by omega)]
    rw [h2] at h
    rw [decide_eq_true (by omega), decide_eq_true (by omega)]
    refine ⟨rfl, ?_⟩
    rw [if_pos rfl]
    omega
/-- What Exact tells. -/
def exV (V : Int) : Option (Bool × Nat × Int) := mkS (decide (V < 0)) V.natAbs (-2148)

theorem _root_.Nat.le.ne7 {a b c : Nat} (h : a ≤ b) (e : a = c + 1) : b ≠ c := by omega
theorem Nt.lo7 {lo k : Nat} {w : World} {v : Value} {X : Nat} (h : Nt lo w v X) (hk : k ≤ lo) : k ≤ lo := hk
theorem Tryz.row_dyad : ∃ d : TypeDesc, Tryz.prog.underlying 90 = some d ∧ d.isRow = true := by
  have h : (Tryz.prog.underlying 90).any (·.isRow) = true := by kernel_rfl
  obtain ⟨d, h1, h2⟩ := (Option.any_eq_true _ _).1 h
  exact ⟨d, h1, h2⟩
theorem Tryz.size_dyad : (Tryz.prog.info? 90).map (·.size) = some 3 := by kernel_rfl
theorem row_result {fn : Func} {p : Tmp} {ty : TypeId} (h : fn.results = #[.cell p ty]) (tmps : Array Value) (w : World) (g : Nat) (cs : List Value)
    (hp : tmps.getD p undef = .pointer (some ⟨g, 0, none⟩)) (hg : Bl w g ty cs) (hdr : ∃ d : TypeDesc, Tryz.prog.underlying ty = some d ∧ d.isRow = true) (hi : (Tryz.prog.info? ty).map (·.size) = some cs.toArray.size) :
    (results fn tmps).run Tryz.prog w = .ok (.agg cs.toArray) w := by
  obtain ⟨d, h1, h2⟩ := hdr
  cases d <;> first
    | exact results_cell_row (P := Tryz.prog) h tmps w g ty _ _ _ hp hg h1 rfl hi
    | exact absurd h2 (by simp [TypeDesc.isRow])
/-- The end: what was made is laid into the result's variable. -/
theorem exact_close {w base : World} {tmps : Array Value} {o : Option (Bool × Nat × Int)} {v x y z : Value} {lo : Nat} (h2 : tmps.getD 2 undef = .pointer (some ⟨w.heap.size, 0, none⟩))
    (hZ : Bl base w.heap.size 90 [x, y, z]) (hbw : Below w.heap.size w base) (hN : Nt lo base v (dX o)) (hlo : w.heap.size < lo) :
    bodyPost Tryz.prog Tryz.f59 (fun r w' => ∃ v, r = .returned (.agg #[.bool (dN o), v, .int .i64 (dE o)]) ∧ Nt w.heap.size w' v (dX o) ∧ Below w.heap.size w w') .ret ⟨tmps, []⟩
      (((base.setCell ⟨w.heap.size, 0, none⟩ (.bool (dN o))).setCell ⟨w.heap.size, 1, none⟩ v).setCell ⟨w.heap.size, 2, none⟩ (.int .i64 (dE o))) := by
  have q : Bl (((base.setCell ⟨w.heap.size, 0, none⟩ (.bool (dN o))).setCell ⟨w.heap.size, 1, none⟩ v).setCell ⟨w.heap.size, 2, none⟩ (.int .i64 (dE o))) w.heap.size 90 [.bool (dN o), v, .int .i64 (dE o)] := ((hZ.set 0 _).set 1 _).set 2 _
  have hbut : But w.heap.size base (((base.setCell ⟨w.heap.size, 0, none⟩ (.bool (dN o))).setCell ⟨w.heap.size, 1, none⟩ v).setCell ⟨w.heap.size, 2, none⟩ (.int .i64 (dE o))) := (((But.refl _ _).set 0 _).set 1 _).set 2 _
  refine bodyPost_ret (v := .agg #[.bool (dN o), v, .int .i64 (dE o)]) (row_result Tryz.results59 _ _ w.heap.size [.bool (dN o), v, .int .i64 (dE o)] h2 q Tryz.row_dyad (by rw [Tryz.size_dyad]; rfl)) rfl ?_
  exact ⟨v, rfl, (hN.but7 hbut hlo).mono (by omega), But.below hbw hbut hbw.size (Nat.le_refl _)⟩

theorem exact_close2 {w base : World} {tmps : Array Value} {o : Option (Bool × Nat × Int)} {v x y z : Value} {lo : Nat} {ob : Obj} (h2 : tmps.getD 2 undef = .pointer (some ⟨w.heap.size, 0, none⟩))
    (hZ : Bl base w.heap.size 90 [x, y, z]) (hbw : Below w.heap.size w base) (hN : Nt lo base v (dX o)) (hlo : w.heap.size < lo) :
    bodyPost Tryz.prog Tryz.f59 (fun r w' => ∃ v, r = .returned (.agg #[.bool (dN o), v, .int .i64 (dE o)]) ∧ Nt w.heap.size w' v (dX o) ∧ Below w.heap.size w w') .ret ⟨tmps, []⟩
      ((((base.setCell ⟨w.heap.size, 0, none⟩ (.bool (dN o))).setCell ⟨w.heap.size, 1, none⟩ v).setCell ⟨w.heap.size, 2, none⟩ (.int .i64 (dE o))).alloc ob) := by
  have q : Bl (((base.setCell ⟨w.heap.size, 0, none⟩ (.bool (dN o))).setCell ⟨w.heap.size, 1, none⟩ v).setCell ⟨w.heap.size, 2, none⟩ (.int .i64 (dE o))) w.heap.size 90 [.bool (dN o), v, .int .i64 (dE o)] := ((hZ.set 0 _).set 1 _).set 2 _
  have hbut : But w.heap.size base (((base.setCell ⟨w.heap.size, 0, none⟩ (.bool (dN o))).setCell ⟨w.heap.size, 1, none⟩ v).setCell ⟨w.heap.size, 2, none⟩ (.int .i64 (dE o))) := (((But.refl _ _).set 0 _).set 1 _).set 2 _
  have hW := But.below hbw hbut hbw.size (Nat.le_refl _)
  refine bodyPost_ret (v := .agg #[.bool (dN o), v, .int .i64 (dE o)]) (row_result Tryz.results59 _ _ w.heap.size [.bool (dN o), v, .int .i64 (dE o)] h2 (q.alloc ob) Tryz.row_dyad (by rw [Tryz.size_dyad]; rfl)) rfl ?_
  exact ⟨v, rfl, ((hN.but7 hbut hlo).mono (by omega)).below (bel_alloc _ _), hW.trans ((bel_alloc _ _).mono hW.size)⟩

set_option maxHeartbeats 2000000 in
theorem Exact7 (g : Nat) (V : Int) (s : Sp) (w : World) (hA : Acc7 w g V s) (hT : Tab w) : Calls Tryz.prog 59 #[.pointer (some ⟨g, 0, none⟩)] w fun r w' =>
    ∃ v, r = .returned (.agg #[.bool (dN (exV V)), v, .int .i64 (dE (exV V))]) ∧ Nt w.heap.size w' v (dX (exV V)) ∧ Below w.heap.size w w' := by
  obtain ⟨o, ho⟩ : ∃ o, o = exV V := ⟨_, rfl⟩
  rw [← ho]
  obtain ⟨L, a1, a2, a3, a4, a5, a6⟩ := hA
  have hnm := neg7_val (val L) V a3 a4 a5
  have HA := Aside.intro (And.intro a1 (And.intro a2 (And.intro a6.hd (And.intro hT (And.intro ho hnm)))))
  have hlt := a6.lt
  clear a1 a2 a3 a4 a5 a6 hT ho hnm
  have HLT := Aside.intro hlt
  clear hlt
  obtain ⟨W1, hW1⟩ : ∃ W, W = w.alloc (.cells #[.bool false, .slice none 0 0, .int .i64 0] 90) := ⟨_, rfl⟩
  have H1 : Aside (Below w.heap.size w W1 ∧ Bl W1 w.heap.size 90 [.bool false, .slice none 0 0, .int .i64 0] ∧ W1.heap.size = w.heap.size + 1) := by
    subst hW1; exact ⟨bel_alloc _ _, Bl.new _ 90 [_, _, _], by simp⟩
  go_enter Tryz.func59, Tryz.ntmps59
  go_wp2
  rw [← hW1]
  clear hW1
  have BB : Aside (Below W1.heap.size W1 W1.drew) := (Below.refl _ _).drew
  have HH : Aside (∀ W : World, Below W1.heap.size W1 W → Hd W g L) := fun W h => (HA.out.2.2.1.below H1.out.1 HLT.out (Nat.le_refl _)).below h (Nat.lt_of_lt_of_le HLT.out H1.out.1.size) (Nat.le_refl _)
  have HTT : Aside (∀ W : World, Below W1.heap.size W1 W → Tab W) := fun W h => (HA.out.2.2.2.1.belows H1.out.1).belows h
  go_region_with (first
    | (go_at_call 102
       with_reducible refine (below_any g L _ HA.out.1 HA.out.2.1 (HH.out _ (by first | exact BB.out | exact BB.out.trans ((bel_alloc _ _).mono BB.out.size) | exact (bel_alloc _ _).drew))).mono ?_
       rintro r u ⟨rfl, rfl⟩)
    | (go_at_call 103
       with_reducible refine (size7_any L g _ HA.out.1 HA.out.2.1 (HH.out _ (by first | exact BB.out | exact BB.out.trans ((bel_alloc _ _).mono BB.out.size) | exact (bel_alloc _ _).drew))).mono ?_
       rintro r u ⟨b, cap, M, rfl, hM, hMv, hb⟩
       have hu : Below W1.heap.size W1 u := by first | exact BB.out.trans (hb.mono BB.out.size) | exact (BB.out.trans ((bel_alloc _ _).mono BB.out.size)).trans (hb.mono (by have := BB.out.size; simp; omega)) | exact ((bel_alloc _ _).drew).trans (hb.mono (by simp))
       try have DZ := Aside.intro (And.intro (DZ.out.1.below hb DZ.out.1.lt) DZ.out.2)
       try have DZ := Aside.intro (And.intro ((Bl.new _ 90 [Value.bool false, Value.slice none 0 0, Value.int .i64 0]).below hb (by simp)) BB.out.size)
       try have DZ := Aside.intro (And.intro ((Bl.new W1 90 [Value.bool false, Value.slice none 0 0, Value.int .i64 0]).drew.below hb (by simp)) (Nat.le_refl W1.heap.size))
       have BB := Aside.intro hu
       have HM := Aside.intro (And.intro hM (show mkS (neg7 (val L)) (val M) (-2148) = o by rw [HA.out.2.2.2.2.1, hMv, HA.out.2.2.2.2.2.1, HA.out.2.2.2.2.2.2]; rfl))
       clear hM hMv hb hu)
    | (go_at_call 101
       with_reducible refine (Make_any (by first | exact HM.out.1 | exact HM.out.1.below (bel_alloc _ _)) (HTT.out _ (by first | exact BB.out | exact BB.out.trans ((bel_alloc _ _).mono BB.out.size) | exact (bel_alloc _ _).drew)) (neg7 (val L)) (-2148) (by decide) (by decide)).mono ?_
       rintro r u ⟨hD, hb⟩
       rw [HM.out.2] at hD
       obtain ⟨v, rfl, hN⟩ := hD
       try have DL := Aside.intro DZ.out.1.lt
       have hu : Below W1.heap.size W1 u := by first | exact BB.out.trans (hb.mono BB.out.size) | exact (BB.out.trans ((bel_alloc _ _).mono BB.out.size)).trans (hb.mono (by have := BB.out.size; simp; omega)) | exact ((bel_alloc _ _).drew).trans (hb.mono (by simp))
       try have DZ := Aside.intro (And.intro (DZ.out.1.below hb DZ.out.1.lt) DZ.out.2)
       try have DZ := Aside.intro (And.intro ((Bl.new _ 90 [Value.bool false, Value.slice none 0 0, Value.int .i64 0]).below hb (by simp)) BB.out.size)
       try have DZ := Aside.intro (And.intro ((Bl.new W1 90 [Value.bool false, Value.slice none 0 0, Value.int .i64 0]).drew.below hb (by simp)) (Nat.le_refl W1.heap.size))
       have hN2 := And.intro hN (hN.lo7 (k := W1.heap.size) (by first | exact BB.out.size | (have := BB.out.size; simp; omega)))
       obtain ⟨a, c, rfl, _⟩ := hN.arg (by
         refine Nat.le_trans ((ws_len_le _ 133).2 ?_) (by decide)
         have e := HM.out.2
         have hm := val_lt M HM.out.1.wf
         rw [← HM.out.1.len] at hm
         rw [← e]
         refine Nat.lt_of_le_of_lt ?_ hm
         unfold mkS dX
         split
         · exact Nat.zero_le _
         · split
           · exact Nat.zero_le _
           · exact Nat.div_le_self _ _)
       have HN := Aside.intro (And.intro hN2 hu)
       have Z := Aside.intro (H1.out.2.1.below hu (by have := H1.out.2.2; omega))
       have z0 := Z.out.cell 0 _ rfl
       have z1 := Z.out.cell 1 _ rfl
       have z2 := Z.out.cell 2 _ rfl
       have g0 := Z.out.frozen 0
       have g1 := Z.out.frozen 1
       have g2 := Z.out.frozen 2
       try have d0 := DZ.out.1.cell 0 _ rfl
       try have d1 := DZ.out.1.cell 1 _ rfl
       try have d2 := DZ.out.1.cell 2 _ rfl
       try have e0 := DZ.out.1.frozen 0
       try have e1 := DZ.out.1.frozen 1
       try have e2 := DZ.out.1.frozen 2
       have hlu : w.heap.size < u.heap.size := Z.out.lt
       try have nx := DZ.out.2.ne7 H1.out.2.2
       try have ny := nx.symm
       clear hN hN2 hb hu))
  all_goals (
    clear HM HA HH HTT BB
    go_wp2
    have hW : Below w.heap.size w u := H1.out.1.trans (HN.out.2.mono H1.out.1.size)
    have hlo := HN.out.1.2
    have hl1 := H1.out.2.2
    first
      | (with_reducible refine exact_close2 (x := .bool false) (y := .slice none 0 0) (z := .int .i64 0) ?_ Z.out hW HN.out.1.1 (by omega)
         rfl)
      | (with_reducible refine exact_close (x := .bool false) (y := .slice none 0 0) (z := .int .i64 0) ?_ (Bl.but Z.out ((((But.refl _ _).set 0 _).set 1 _).set 2 _) ny) (But.below hW ((((But.refl _ _).set 0 _).set 1 _).set 2 _) hW.size (by have := DZ.out.2; omega)) (HN.out.1.1.but7 ((((But.refl _ _).set 0 _).set 1 _).set 2 _) (by first | exact DL.out | (simp; done) | (simp; omega))) (by omega)
         rfl))
end Go.Proofs.YtmpakpdikkfofaaGreatDoor

/- Plain facts on comparisons, signs and neighbours of numbers of 64 bits, by their bits. -/
namespace Go.Proofs.YtmpakpdikkfofaaGreatDoor.B
set_option linter.unusedVariables false
set_option maxRecDepth 20000

theorem lt_f64 (s t : Bool) (e f u v : Nat) (he : e < 2048) (hf : f < 4503599627370496) (hu : u < 2048) (hv : v < 4503599627370496) :
    (FloatKind.f64.format.order (bw s e f) (bw t u v) == some .lt) = (!odd e f && (!odd u v && decide (pl s e f < pl t u v))) := by
  rw [ord s t e f u v he hf hu hv]
  cases odd e f <;> cases odd u v <;> simp
  by_cases h : pl s e f < pl t u v
  · rw [Int.compare_eq_lt.2 h]; simp [h]
  · rw [decide_eq_false h]
    by_cases h2 : pl t u v < pl s e f
    · rw [Int.compare_eq_gt.2 h2]; rfl
    · rw [Int.compare_eq_eq.2 (by omega)]; rfl

theorem gt_f64 (s t : Bool) (e f u v : Nat) (he : e < 2048) (hf : f < 4503599627370496) (hu : u < 2048) (hv : v < 4503599627370496) :
    (FloatKind.f64.format.order (bw s e f) (bw t u v) == some .gt) = (!odd e f && (!odd u v && decide (pl t u v < pl s e f))) := by
  rw [ord s t e f u v he hf hu hv]
  cases odd e f <;> cases odd u v <;> simp
  by_cases h : pl t u v < pl s e f
  · rw [Int.compare_eq_gt.2 h]; simp [h]
  · rw [decide_eq_false h]
    by_cases h2 : pl s e f < pl t u v
    · rw [Int.compare_eq_lt.2 h2]; rfl
    · rw [Int.compare_eq_eq.2 (by omega)]; rfl

theorem eq_f64 (s t : Bool) (e f u v : Nat) (he : e < 2048) (hf : f < 4503599627370496) (hu : u < 2048) (hv : v < 4503599627370496) :
    (FloatKind.f64.format.order (bw s e f) (bw t u v) == some .eq) = (!odd e f && (!odd u v && decide (pl s e f = pl t u v))) := by
  rw [ord s t e f u v he hf hu hv]
  cases odd e f <;> cases odd u v <;> simp
  by_cases h : pl s e f < pl t u v
  · rw [Int.compare_eq_lt.2 h, decide_eq_false (by omega)]; rfl
  · by_cases h2 : pl t u v < pl s e f
    · rw [Int.compare_eq_gt.2 h2, decide_eq_false (by omega)]; rfl
    · rw [Int.compare_eq_eq.2 (by omega), decide_eq_true (by omega)]; rfl

theorem odd_lt (e f : Nat) (h : e < 2047) : odd e f = false := by
  have : (e == 2047) = false := by simp; omega
  simp [odd, this]
theorem odd_zero (e : Nat) : odd e 0 = false := by simp [odd]

theorem zero_bw : bw false 0 0 = 0 := rfl
theorem max_bw : bw false 2046 4503599627370495 = 9218868437227405311 := rfl

theorem gt_max (s : Bool) (e f : Nat) (he : e < 2048) (hf : f < 4503599627370496) :
    (FloatKind.f64.format.order (bw s e f) 9218868437227405311 == some .gt) = (!s && (e == 2047 && f == 0)) := by
  have h := gt_f64 s false e f 2046 4503599627370495 he hf (by omega) (by omega)
  rw [max_bw] at h
  rw [h, odd_lt 2046 _ (by omega)]
  cases ho : odd e f
  · have := not_odd e f ho
    rw [Bool.eq_iff_iff]
    cases s <;> simp [pl, sg] <;> omega
  · obtain ⟨h1, h2⟩ := is_odd e f ho
    have h3 : (f == 0) = false := by simp [h2]
    simp [h1, h3]

theorem eq_zero (s : Bool) (e f : Nat) (he : e < 2048) (hf : f < 4503599627370496) :
    (FloatKind.f64.format.order (bw s e f) 0 == some .eq) = (e == 0 && f == 0) := by
  have h := eq_f64 s false e f 0 0 he hf (by omega) (by omega)
  rw [zero_bw] at h
  rw [h, odd_lt 0 _ (by omega)]
  cases ho : odd e f
  · rw [Bool.eq_iff_iff]
    cases s <;> simp [pl, sg] <;> omega
  · obtain ⟨h1, h2⟩ := is_odd e f ho
    have h3 : (e == 0) = false := by simp [h1]
    simp [h3]

theorem lt_zero (s : Bool) (e f : Nat) (he : e < 2048) (hf : f < 4503599627370496) (ho : odd e f = false) (hz : (e == 0 && f == 0) = false) :
    (FloatKind.f64.format.order (bw s e f) 0 == some .lt) = s := by
  have h := lt_f64 s false e f 0 0 he hf (by omega) (by omega)
  rw [zero_bw] at h
  rw [h, odd_lt 0 _ (by omega), ho]
  have hz' : ¬ (e = 0 ∧ f = 0) := by rintro ⟨rfl, rfl⟩; simp at hz
  rw [Bool.eq_iff_iff]
  cases s <;> simp [pl, sg] <;> omega

theorem abs_bw (s : Bool) (e f : Nat) (he : e < 2048) (hf : f < 4503599627370496) : bits .andNot .u64 ((bw s e f : Nat) : Int) 9223372036854775808 = (bw false e f : Int) := by
  have h := u64_andNot_nat (bw s e f) 9223372036854775808 (bw_lt s e f he hf) (by omega)
  rw [show (((9223372036854775808 : Nat)) : Int) = 9223372036854775808 from rfl] at h
  rw [h, show 18446744073709551615 - 9223372036854775808 = 2 ^ 63 - 1 from rfl, Nat.and_two_pow_sub_one_eq_mod]
  congr 1
  unfold bw; cases s <;> simp only [Bool.toNat_true, Bool.toNat_false] <;> omega

/-- the next number's bits. -/
def nx (s : Bool) (e f : Nat) : Nat :=
  if e = 2047 ∧ f ≠ 0 then 9221120237041090560 else if s = false ∧ e = 2047 then bw s e f else if e = 0 ∧ f = 0 then 1 else if s = true then bw s e f - 1 else bw s e f + 1
end Go.Proofs.YtmpakpdikkfofaaGreatDoor.B

/- policy: May, sound. -/
namespace Go.Proofs.YtmpakpdikkfofaaGreatDoor
set_option linter.unusedVariables false
set_option maxRecDepth 20000
set_option linter.unusedSimpArgs false
open Go.RowKit
open Go.Proofs.YtmpakpdikkfofaaGreatDoor.B (f64bits f64frombits bw)
attribute [local go_sem] f64bits f64frombits
/-- May a way be? -/
def kn (a : Int) : Bool := decide (0 ≤ a) && decide (a ≤ 2)
def may (a b : Int) : Bool := kn a && kn b
/-- May a count be? -/
def ct (a : Int) : Bool := decide (0 ≤ a) && decide (a ≤ 1099511627776)

theorem known_any (a : Int) (w : World) : Calls Tryz.prog 54 #[.int .i64 a] w fun r w' => r = .returned (.bool (kn a)) ∧ w' = w := by
  unfold kn
  by_cases h : 0 ≤ a
  · have hd : decide (0 ≤ a) = true := decide_eq_true h
    rw [hd]
    go_enter Tryz.func54, Tryz.ntmps54
    go_wp2
    go_ret
    exact ⟨by first | rfl | simp, rfl⟩
  · have hd : decide (0 ≤ a) = false := decide_eq_false h
    rw [hd]
    go_enter Tryz.func54, Tryz.ntmps54
    go_wp2
    go_ret
    exact ⟨by first | rfl | simp, rfl⟩

theorem countable_any (a : Int) (w : World) : Calls Tryz.prog 171 #[.int .i64 a] w fun r w' => r = .returned (.bool (ct a)) ∧ w' = w := by
  unfold ct
  by_cases h : 0 ≤ a
  · have hd : decide (0 ≤ a) = true := decide_eq_true h
    rw [hd]
    go_enter Tryz.func171, Tryz.ntmps171
    go_wp2
    go_ret
    exact ⟨by first | rfl | simp, rfl⟩
  · have hd : decide (0 ≤ a) = false := decide_eq_false h
    rw [hd]
    go_enter Tryz.func171, Tryz.ntmps171
    go_wp2
    go_ret
    exact ⟨by first | rfl | simp, rfl⟩

set_option maxHeartbeats 1000000 in
theorem May_any (a b : Int) (w : World) : Calls Tryz.prog 24 #[.agg #[.int .i64 a, .int .i64 b]] w fun r w' => r = .returned (.bool (may a b)) ∧ Below w.heap.size w w' := by
  unfold may
  rcases ha : kn a with _ | _
  · have H := hid (fun w => ha ▸ known_any a w)
    clear ha
    go_enter Tryz.func24, Tryz.ntmps24
    go_wp2_with fail
    refine (H.out _).mono ?_
    rintro r w1 ⟨rfl, rfl⟩
    go_wp2
    go_ret
    exact ⟨rfl, (Below.refl _ _).alloc (Nat.le_refl _) _⟩
  · have H := hid (fun w => ha ▸ known_any a w)
    have H2 := hid (fun w => known_any b w)
    obtain ⟨kb, hkb⟩ : ∃ k, kn b = k := ⟨_, rfl⟩
    rw [hkb] at H2 ⊢
    clear ha hkb
    go_enter Tryz.func24, Tryz.ntmps24
    go_wp2_with fail
    refine (H.out _).mono ?_
    rintro r w1 ⟨rfl, rfl⟩
    go_wp2_with fail
    refine (H2.out _).mono ?_
    rintro r w1 ⟨rfl, rfl⟩
    go_wp2
    go_ret
    exact ⟨by first | rfl | simp, (Below.refl _ _).alloc (Nat.le_refl _) _⟩

theorem mInf_up (w : World) : Calls Tryz.prog 90 #[.int .i64 1] w fun r w' => r = .returned (.float .f64 9218868437227405312) ∧ w' = w := by
  go_enter Tryz.func90, Tryz.ntmps90
  go_wp2
  go_ret
  exact ⟨rfl, rfl⟩

theorem mInf_down (w : World) : Calls Tryz.prog 90 #[.int .i64 (-1)] w fun r w' => r = .returned (.float .f64 18442240474082181120) ∧ w' = w := by
  go_enter Tryz.func90, Tryz.ntmps90
  go_wp2
  go_ret
  exact ⟨rfl, rfl⟩

theorem minus_any (w : World) : Calls Tryz.prog 89 #[.float .f64 0, .float .f64 13830554455654793216] w fun r w' => r = .returned (.float .f64 9223372036854775808) ∧ w' = w := by
  have h1 : bits .andNot .u64 0 9223372036854775808 = 0 := by decide +kernel
  have h2 : bits .and .u64 13830554455654793216 9223372036854775808 = 9223372036854775808 := by decide +kernel
  have h3 : bits .or .u64 0 9223372036854775808 = 9223372036854775808 := by decide +kernel
  go_enter Tryz.func89, Tryz.ntmps89
  go_wp2
  go_ret
  exact ⟨rfl, rfl⟩

open Go.RowKit
open Go.Proofs.YtmpakpdikkfofaaGreatDoor.B (f64bits f64frombits bw bcell)
attribute [local go_sem] f64bits f64frombits
/-- May Specials be? -/
def snd (n u d m p a : Int) : Bool := ct n && ct u && ct d && (ct m && ct p && ct a) && decide (n + u + d + m + p ≤ a)
theorem ct_true {n : Int} (h : ct n = true) : 0 ≤ n ∧ n ≤ 1099511627776 := by unfold ct at h; simpa using h

theorem ct_five {n u d m p : Int} (i : Nat) (hi : i < 5) (h : ct ([n, u, d, m, p].getD i 0) = false) (a : Int) : snd n u d m p a = false := by
  unfold snd
  obtain rfl | rfl | rfl | rfl | rfl : i = 0 ∨ i = 1 ∨ i = 2 ∨ i = 3 ∨ i = 4 := by omega
  all_goals (simp at h; simp [h])
def ps (L : List Int) (i : Nat) : Int := (L.take i).sum
theorem ps_succ (L : List Int) (i : Nat) (h : i < L.length) : ps L (i + 1) = ps L i + L.getD i 0 := by
  unfold ps; rw [List.take_succ_eq_append_getElem h, List.sum_append, List.getD_eq_getElem?_getD, List.getElem?_eq_getElem h]; simp

set_option maxHeartbeats 4000000 in
theorem sound_any (n u d m p a : Int) (w : World) : Calls Tryz.prog 137 #[.agg #[.int .i64 n, .int .i64 u, .int .i64 d, .int .i64 m, .int .i64 p, .int .i64 a]] w fun r w' => r = .returned (.bool (snd n u d m p a)) ∧ Below w.heap.size w w' := by
  obtain ⟨L, hL⟩ : ∃ L : List Int, L = [n, u, d, m, p] := ⟨_, rfl⟩
  have hlen : L.length = 5 := by rw [hL]; rfl
  have HL := (Aside.intro (And.intro hL hlen))
  obtain ⟨W, hW⟩ : ∃ W, W = (w.alloc (.cells #[.int .i64 n, .int .i64 u, .int .i64 d, .int .i64 m, .int .i64 p, .int .i64 a] 77)).alloc (.cells #[.int .i64 n, .int .i64 u, .int .i64 d, .int .i64 m, .int .i64 p] 201) := ⟨_, rfl⟩
  have hcell : ∀ i, i < 5 → W.cell? ⟨w.heap.size + 1, i, none⟩ = some (.int .i64 (L.getD i 0)) := by
    intro i hi
    have h1 := heap_alloc_new (w.alloc (.cells #[.int .i64 n, .int .i64 u, .int .i64 d, .int .i64 m, .int .i64 p, .int .i64 a] 77)) (.cells #[.int .i64 n, .int .i64 u, .int .i64 d, .int .i64 m, .int .i64 p] 201)
    rw [← hW] at h1
    simp only [World.size_alloc] at h1
    subst hL
    simp only [World.cell?, h1]
    obtain rfl | rfl | rfl | rfl | rfl : i = 0 ∨ i = 1 ∨ i = 2 ∨ i = 3 ∨ i = 4 := by omega
    all_goals simp
  have ha5 : W.cell? ⟨w.heap.size, 5, none⟩ = some (.int .i64 a) := by rw [hW]; simp [go_sem]
  have hbel : Below w.heap.size w W := by rw [hW]; exact ((Below.refl _ _).alloc (Nat.le_refl _) _).alloc (by simp) _
  have HC := (Aside.intro (And.intro hcell (And.intro hbel (And.intro hW ha5))))
  clear hL hlen hcell hbel hW ha5
  have HA := hid (countable_any a)
  go_enter Tryz.func137, Tryz.ntmps137
  go_wp2
  go_loopg [4, 17] 5 (fun gk sv iv wr => ∃ i : Nat, gk + i = 5 ∧ sv = .int .i64 (ps L i) ∧ iv = .int .i64 (i : Nat) ∧ wr = W ∧ Aside (∀ j, j < i → ct (L.getD j 0) = true) ∧ 0 ≤ ps L i ∧ ps L i ≤ (i : Int) * 1099511627776)
  case atStart => exact ⟨0, rfl, rfl, rfl, by rw [HC.out.2.2.1], fun j hj => absurd hj (by omega), by simp [ps], by simp [ps]⟩
  case round =>
    obtain ⟨i, hi, rfl, rfl, rfl, HT, hp0, hp1⟩ := hrel
    obtain ⟨hcell, hbel, hW, ha5⟩ := HC.out
    by_cases hi5 : i = 5
    · obtain rfl : gk = 0 := by omega
      subst hi5
      have hs : snd n u d m p a = (ct a && decide (ps L 5 ≤ a)) := by
        have h0 := HT.out 0 (by omega)
        have h1 := HT.out 1 (by omega)
        have h2 := HT.out 2 (by omega)
        have h3 := HT.out 3 (by omega)
        have h4 := HT.out 4 (by omega)
        have e := HL.out.1
        subst e
        have e2 : ps [n, u, d, m, p] 5 = n + u + d + m + p := by simp [ps]; omega
        rw [e2]
        simp at h0 h1 h2 h3 h4
        unfold snd
        rw [h0, h1, h2, h3, h4]
        simp
      obtain ⟨q, hq⟩ : ∃ q, ps L 5 = q := ⟨_, rfl⟩
      rw [hq] at hp0 hp1 hs ⊢
      have HS := Aside.intro hs
      clear hcell hW hs hq
      rcases ha : ct a with _ | _
      · rw [ha] at HA HS
        clear ha
        go_wp2_with fail
        refine (HA.out _).mono ?_
        rintro r w1 ⟨rfl, rfl⟩
        go_wp2
        go_ret
        exact ⟨by rw [HS.out]; first | rfl | simp, hbel⟩
      · rw [ha] at HA HS
        clear ha
        go_wp2_with fail
        refine (HA.out _).mono ?_
        rintro r w1 ⟨rfl, rfl⟩
        go_wp2
        go_ret
        exact ⟨by rw [HS.out]; first | rfl | simp, hbel⟩
    · have hil : i < 5 := by omega
      have hci := hcell i hil
      have HK := hid (countable_any (L.getD i 0))
      have hps := ps_succ L i (by rw [HL.out.2]; exact hil)
      obtain ⟨x, hx⟩ : ∃ x, L.getD i 0 = x := ⟨_, rfl⟩
      rw [hx] at hci HK hps
      rcases hc : ct x with _ | _
      · rw [hc] at HK
        have HS : Aside (snd n u d m p a = false) := by
          have h1 := hc
          rw [← hx, HL.out.1] at h1
          exact ct_five i hil h1 a
        have HB := Aside.intro hbel
        clear hcell hbel hW ha5 hps hx hc hi5 HC HL
        go_wp2_with fail
        refine (HK.out _).mono ?_
        rintro r w1 ⟨rfl, rfl⟩
        go_wp2
        go_ret
        exact ⟨by rw [HS.out]; rfl, HB.out⟩
      · rw [hc] at HK
        have hb := ct_true hc
        obtain ⟨q, hq⟩ : ∃ q, ps L i = q := ⟨_, rfl⟩
        obtain ⟨q2, hq2⟩ : ∃ q, ps L (i + 1) = q := ⟨_, rfl⟩
        rw [hq, hq2] at hps
        rw [hq] at hp0 hp1 ⊢
        have hq3 : q + x = q2 := hps.symm
        have hq4 : 0 ≤ q2 ∧ q2 ≤ ((i : Int) + 1) * 1099511627776 := by
          have : ((i : Int) + 1) * 1099511627776 = (i : Int) * 1099511627776 + 1099511627776 := by omega
          omega
        have hq5 : q2 ≤ 9223372036854775807 := by omega
        have hq6 : -9223372036854775808 ≤ q2 := by omega
        have HR := (Aside.intro (And.intro hq2 (And.intro hq4 (And.intro hx (And.intro hc hq3)))))
        clear hcell hbel hW ha5 hps hx hc hi5 HC hq2 hq hp0 hp1 hb hq4
        go_wp2_with fail
        refine (HK.out _).mono ?_
        rintro r w1 ⟨rfl, rfl⟩
        go_wp2
        go_roundg (5 - (i + 1))
        case measure => omega
        case rel =>
          obtain ⟨hq2, hq4, hx, hc, hq3⟩ := HR.out
          refine ⟨i + 1, by omega, ?_, by first | go_num | (congr 1; omega), rfl, ?_, by rw [hq2]; exact hq4.1, by rw [hq2]; have := hq4.2; push_cast; exact this⟩
          · first | (rw [hq2]; done) | (rw [hq2, ← hq3]; done)
          · intro j hj
            by_cases hji : j = i
            · subst hji; rw [hx]; exact hc
            · exact HT.out j (by omega)
/-- The verdict. -/
def vd (ok : Bool) (n u d a b : Int) : Nat × Bool :=
  if ok = false then (0, false) else if 0 < n ∧ a = 0 then (9221120237041090560, true) else if ¬ b = 0 then (0, false)
  else if 0 < u ∧ 0 < d then (9221120237041090560, true) else if 0 < u then (9218868437227405312, true) else if 0 < d then (18442240474082181120, true) else (0, false)
/-- Which nought. -/
def nt (ok : Bool) (n u d m p a mode : Int) : Nat :=
  if ok = false then 0 else if a - n - u - d = 0 then 0 else if m = a - n - u - d then 9223372036854775808 else if p = a - n - u - d then 0 else if mode = 3 then 9223372036854775808 else 0
theorem snd_bd {n u d m p a : Int} (h : snd n u d m p a = true) : (0 ≤ n ∧ n ≤ 1099511627776) ∧ (0 ≤ u ∧ u ≤ 1099511627776) ∧ (0 ≤ d ∧ d ≤ 1099511627776) ∧ (0 ≤ a ∧ a ≤ 1099511627776) := by
  unfold snd at h
  simp only [Bool.and_eq_true] at h
  exact ⟨ct_true h.1.1.1.1, ct_true h.1.1.1.2, ct_true h.1.1.2, ct_true h.1.2.2⟩

end Go.Proofs.YtmpakpdikkfofaaGreatDoor

/- policy: Verdict. -/
namespace Go.Proofs.YtmpakpdikkfofaaGreatDoor
set_option linter.unusedVariables false
set_option maxRecDepth 20000
set_option linter.unusedSimpArgs false
open Go.RowKit
open Go.Proofs.YtmpakpdikkfofaaGreatDoor.B (f64bits f64frombits bw bcell)
attribute [local go_sem] f64bits f64frombits
set_option maxHeartbeats 8000000 in
theorem Verdict_any (n u d m p l a b : Int) (w : World) : Calls Tryz.prog 98 #[.agg #[.int .i64 n, .int .i64 u, .int .i64 d, .int .i64 m, .int .i64 p, .int .i64 l], .agg #[.int .i64 a, .int .i64 b]] w fun r w' => r = .returned (.tuple #[.float .f64 (vd (snd n u d m p l && may a b) n u d a b).1, .bool (vd (snd n u d m p l && may a b) n u d a b).2]) ∧ Below w.heap.size w w' := by
  have HS := hid (sound_any n u d m p l)
  have HM := hid (May_any a b)
  have HN := hid (B.nan_any)
  have HU := hid (mInf_up)
  have HD := hid (mInf_down)
  rcases hs : snd n u d m p l with _ | _
  · rw [hs] at HS
    rw [Bool.false_and]
    have hv : vd false n u d a b = (0, false) := by unfold vd; rw [if_pos rfl]
    rw [hv]
    clear hs hv
    go_enter Tryz.func98, Tryz.ntmps98
    go_wp2_with fail
    refine (HS.out _).mono ?_
    rintro r w1 ⟨rfl, hb1⟩
    have hz1 := hb1.size
    simp at hz1
    obtain ⟨hc1, hf1⟩ := bcell hb1
    have B1 := Aside.intro hb1
    clear hb1
    go_wp2
    go_ret2
    exact ⟨by first | rfl | simp, (((Below.refl _ w).alloc (Nat.le_refl _) _).alloc (by simp) _).trans (B1.out.mono (by simp; omega))⟩
  rcases hm : may a b with _ | _
  · rw [hs] at HS
    rw [hm] at HM
    have hv : vd (true && false) n u d a b = (0, false) := if_pos rfl
    rw [hv]
    clear hs hm hv
    go_enter Tryz.func98, Tryz.ntmps98
    go_wp2_with fail
    refine (HS.out _).mono ?_
    rintro r w1 ⟨rfl, hb1⟩
    have hz1 := hb1.size
    simp at hz1
    obtain ⟨hc1, hf1⟩ := bcell hb1
    have B1 := Aside.intro hb1
    clear hb1
    go_wp2_with fail
    refine (HM.out _).mono ?_
    rintro r w2 ⟨rfl, hb2⟩
    have hz2 := hb2.size
    obtain ⟨hc2, hf2⟩ := bcell hb2
    have hc3 : ∀ b o, b < w.heap.size + 1 + 1 → w2.cell? ⟨b, o, none⟩ = w1.cell? ⟨b, o, none⟩ := fun b o h => hc2 b o (by omega)
    have B2 := Aside.intro hb2
    clear hb2 hc2 hf2
    go_wp2
    go_ret2
    exact ⟨by first | rfl | simp, ((((Below.refl _ w).alloc (Nat.le_refl _) _).alloc (by simp) _).trans (B1.out.mono (by simp; omega))).trans (B2.out.mono (by omega))⟩
  rw [hs] at HS
  rw [hm] at HM
  rw [Bool.true_and]
  clear hs hm
  have way1 : 0 < n → a = 0 → Calls Tryz.prog 98 #[.agg #[.int .i64 n, .int .i64 u, .int .i64 d, .int .i64 m, .int .i64 p, .int .i64 l], .agg #[.int .i64 a, .int .i64 b]] w fun r w' => r = .returned (.tuple #[.float .f64 (vd true n u d a b).1, .bool (vd true n u d a b).2]) ∧ Below w.heap.size w w' := by
    intro p1 p2
    have hv : vd true n u d a b = (9221120237041090560, true) := by unfold vd; rw [if_neg (by decide), if_pos ⟨p1, p2⟩]
    rw [hv]
    clear hv
    have q1 : 0 < n := p1
    have q2 : a = 0 := p2
    subst q2
    go_enter Tryz.func98, Tryz.ntmps98
    go_wp2_with fail
    refine (HS.out _).mono ?_
    rintro r w1 ⟨rfl, hb1⟩
    have hz1 := hb1.size
    simp at hz1
    obtain ⟨hc1, hf1⟩ := bcell hb1
    have B1 := Aside.intro hb1
    clear hb1
    go_wp2_with fail
    refine (HM.out _).mono ?_
    rintro r w2 ⟨rfl, hb2⟩
    have hz2 := hb2.size
    obtain ⟨hc2, hf2⟩ := bcell hb2
    have hc3 : ∀ b o, b < w.heap.size + 1 + 1 → w2.cell? ⟨b, o, none⟩ = w1.cell? ⟨b, o, none⟩ := fun b o h => hc2 b o (by omega)
    have B2 := Aside.intro hb2
    clear hb2 hc2 hf2
    go_wp2_with fail
    refine (HN.out _).mono ?_
    rintro r w3 ⟨rfl, rfl⟩
    go_wp2
    go_ret2
    exact ⟨by first | rfl | simp, ((((Below.refl _ w).alloc (Nat.le_refl _) _).alloc (by simp) _).trans (B1.out.mono (by simp; omega))).trans (B2.out.mono (by omega))⟩
  have way2 : 0 < n → ¬ (a = 0) → ¬ (b = 0) → Calls Tryz.prog 98 #[.agg #[.int .i64 n, .int .i64 u, .int .i64 d, .int .i64 m, .int .i64 p, .int .i64 l], .agg #[.int .i64 a, .int .i64 b]] w fun r w' => r = .returned (.tuple #[.float .f64 (vd true n u d a b).1, .bool (vd true n u d a b).2]) ∧ Below w.heap.size w w' := by
    intro p1 p2 p3
    have hv : vd true n u d a b = (0, false) := by unfold vd; rw [if_neg (by decide), if_neg (fun h => p2 h.2), if_pos p3]
    rw [hv]
    clear hv
    have q1 : 0 < n := p1
    have q2 : (a == 0) = false := by rw [beq_eq_false_iff_ne]; exact p2
    have q3 : (b == 0) = false := by rw [beq_eq_false_iff_ne]; exact p3
    go_enter Tryz.func98, Tryz.ntmps98
    go_wp2_with fail
    refine (HS.out _).mono ?_
    rintro r w1 ⟨rfl, hb1⟩
    have hz1 := hb1.size
    simp at hz1
    obtain ⟨hc1, hf1⟩ := bcell hb1
    have B1 := Aside.intro hb1
    clear hb1
    go_wp2_with fail
    refine (HM.out _).mono ?_
    rintro r w2 ⟨rfl, hb2⟩
    have hz2 := hb2.size
    obtain ⟨hc2, hf2⟩ := bcell hb2
    have hc3 : ∀ b o, b < w.heap.size + 1 + 1 → w2.cell? ⟨b, o, none⟩ = w1.cell? ⟨b, o, none⟩ := fun b o h => hc2 b o (by omega)
    have B2 := Aside.intro hb2
    clear hb2 hc2 hf2
    go_wp2
    go_ret2
    exact ⟨by first | rfl | simp, ((((Below.refl _ w).alloc (Nat.le_refl _) _).alloc (by simp) _).trans (B1.out.mono (by simp; omega))).trans (B2.out.mono (by omega))⟩
  have way3 : 0 < n → ¬ (a = 0) → b = 0 → 0 < u → 0 < d → Calls Tryz.prog 98 #[.agg #[.int .i64 n, .int .i64 u, .int .i64 d, .int .i64 m, .int .i64 p, .int .i64 l], .agg #[.int .i64 a, .int .i64 b]] w fun r w' => r = .returned (.tuple #[.float .f64 (vd true n u d a b).1, .bool (vd true n u d a b).2]) ∧ Below w.heap.size w w' := by
    intro p1 p2 p3 p4 p5
    have hv : vd true n u d a b = (9221120237041090560, true) := by unfold vd; rw [if_neg (by decide), if_neg (fun h => p2 h.2), if_neg (not_not_intro p3), if_pos ⟨p4, p5⟩]
    rw [hv]
    clear hv
    have q1 : 0 < n := p1
    have q2 : (a == 0) = false := by rw [beq_eq_false_iff_ne]; exact p2
    have q3 : b = 0 := p3
    have q4 : 0 < u := p4
    have q5 : 0 < d := p5
    subst q3
    go_enter Tryz.func98, Tryz.ntmps98
    go_wp2_with fail
    refine (HS.out _).mono ?_
    rintro r w1 ⟨rfl, hb1⟩
    have hz1 := hb1.size
    simp at hz1
    obtain ⟨hc1, hf1⟩ := bcell hb1
    have B1 := Aside.intro hb1
    clear hb1
    go_wp2_with fail
    refine (HM.out _).mono ?_
    rintro r w2 ⟨rfl, hb2⟩
    have hz2 := hb2.size
    obtain ⟨hc2, hf2⟩ := bcell hb2
    have hc3 : ∀ b o, b < w.heap.size + 1 + 1 → w2.cell? ⟨b, o, none⟩ = w1.cell? ⟨b, o, none⟩ := fun b o h => hc2 b o (by omega)
    have B2 := Aside.intro hb2
    clear hb2 hc2 hf2
    go_wp2_with fail
    refine (HN.out _).mono ?_
    rintro r w3 ⟨rfl, rfl⟩
    go_wp2
    go_ret2
    exact ⟨by first | rfl | simp, ((((Below.refl _ w).alloc (Nat.le_refl _) _).alloc (by simp) _).trans (B1.out.mono (by simp; omega))).trans (B2.out.mono (by omega))⟩
  have way4 : 0 < n → ¬ (a = 0) → b = 0 → 0 < u → ¬ (0 < d) → Calls Tryz.prog 98 #[.agg #[.int .i64 n, .int .i64 u, .int .i64 d, .int .i64 m, .int .i64 p, .int .i64 l], .agg #[.int .i64 a, .int .i64 b]] w fun r w' => r = .returned (.tuple #[.float .f64 (vd true n u d a b).1, .bool (vd true n u d a b).2]) ∧ Below w.heap.size w w' := by
    intro p1 p2 p3 p4 p5
    have hv : vd true n u d a b = (9218868437227405312, true) := by unfold vd; rw [if_neg (by decide), if_neg (fun h => p2 h.2), if_neg (not_not_intro p3), if_neg (fun h => p5 h.2), if_pos p4]
    rw [hv]
    clear hv
    have q1 : 0 < n := p1
    have q2 : (a == 0) = false := by rw [beq_eq_false_iff_ne]; exact p2
    have q3 : b = 0 := p3
    have q4 : 0 < u := p4
    have q5 : decide (0 < d) = false := decide_eq_false p5
    subst q3
    go_enter Tryz.func98, Tryz.ntmps98
    go_wp2_with fail
    refine (HS.out _).mono ?_
    rintro r w1 ⟨rfl, hb1⟩
    have hz1 := hb1.size
    simp at hz1
    obtain ⟨hc1, hf1⟩ := bcell hb1
    have B1 := Aside.intro hb1
    clear hb1
    go_wp2_with fail
    refine (HM.out _).mono ?_
    rintro r w2 ⟨rfl, hb2⟩
    have hz2 := hb2.size
    obtain ⟨hc2, hf2⟩ := bcell hb2
    have hc3 : ∀ b o, b < w.heap.size + 1 + 1 → w2.cell? ⟨b, o, none⟩ = w1.cell? ⟨b, o, none⟩ := fun b o h => hc2 b o (by omega)
    have B2 := Aside.intro hb2
    clear hb2 hc2 hf2
    go_wp2_with fail
    refine (HU.out _).mono ?_
    rintro r w3 ⟨rfl, rfl⟩
    go_wp2
    go_ret2
    exact ⟨by first | rfl | simp, ((((Below.refl _ w).alloc (Nat.le_refl _) _).alloc (by simp) _).trans (B1.out.mono (by simp; omega))).trans (B2.out.mono (by omega))⟩
  have way5 : 0 < n → ¬ (a = 0) → b = 0 → ¬ (0 < u) → 0 < d → Calls Tryz.prog 98 #[.agg #[.int .i64 n, .int .i64 u, .int .i64 d, .int .i64 m, .int .i64 p, .int .i64 l], .agg #[.int .i64 a, .int .i64 b]] w fun r w' => r = .returned (.tuple #[.float .f64 (vd true n u d a b).1, .bool (vd true n u d a b).2]) ∧ Below w.heap.size w w' := by
    intro p1 p2 p3 p4 p5
    have hv : vd true n u d a b = (18442240474082181120, true) := by unfold vd; rw [if_neg (by decide), if_neg (fun h => p2 h.2), if_neg (not_not_intro p3), if_neg (fun h => p4 h.1), if_neg p4, if_pos p5]
    rw [hv]
    clear hv
    have q1 : 0 < n := p1
    have q2 : (a == 0) = false := by rw [beq_eq_false_iff_ne]; exact p2
    have q3 : b = 0 := p3
    have q4 : decide (0 < u) = false := decide_eq_false p4
    have q5 : 0 < d := p5
    subst q3
    go_enter Tryz.func98, Tryz.ntmps98
    go_wp2_with fail
    refine (HS.out _).mono ?_
    rintro r w1 ⟨rfl, hb1⟩
    have hz1 := hb1.size
    simp at hz1
    obtain ⟨hc1, hf1⟩ := bcell hb1
    have B1 := Aside.intro hb1
    clear hb1
    go_wp2_with fail
    refine (HM.out _).mono ?_
    rintro r w2 ⟨rfl, hb2⟩
    have hz2 := hb2.size
    obtain ⟨hc2, hf2⟩ := bcell hb2
    have hc3 : ∀ b o, b < w.heap.size + 1 + 1 → w2.cell? ⟨b, o, none⟩ = w1.cell? ⟨b, o, none⟩ := fun b o h => hc2 b o (by omega)
    have B2 := Aside.intro hb2
    clear hb2 hc2 hf2
    go_wp2_with fail
    refine (HD.out _).mono ?_
    rintro r w3 ⟨rfl, rfl⟩
    go_wp2
    go_ret2
    exact ⟨by first | rfl | simp, ((((Below.refl _ w).alloc (Nat.le_refl _) _).alloc (by simp) _).trans (B1.out.mono (by simp; omega))).trans (B2.out.mono (by omega))⟩
  have way6 : 0 < n → ¬ (a = 0) → b = 0 → ¬ (0 < u) → ¬ (0 < d) → Calls Tryz.prog 98 #[.agg #[.int .i64 n, .int .i64 u, .int .i64 d, .int .i64 m, .int .i64 p, .int .i64 l], .agg #[.int .i64 a, .int .i64 b]] w fun r w' => r = .returned (.tuple #[.float .f64 (vd true n u d a b).1, .bool (vd true n u d a b).2]) ∧ Below w.heap.size w w' := by
    intro p1 p2 p3 p4 p5
    have hv : vd true n u d a b = (0, false) := by unfold vd; rw [if_neg (by decide), if_neg (fun h => p2 h.2), if_neg (not_not_intro p3), if_neg (fun h => p4 h.1), if_neg p4, if_neg p5]
    rw [hv]
    clear hv
    have q1 : 0 < n := p1
    have q2 : (a == 0) = false := by rw [beq_eq_false_iff_ne]; exact p2
    have q3 : b = 0 := p3
    have q4 : decide (0 < u) = false := decide_eq_false p4
    have q5 : decide (0 < d) = false := decide_eq_false p5
    subst q3
    go_enter Tryz.func98, Tryz.ntmps98
    go_wp2_with fail
    refine (HS.out _).mono ?_
    rintro r w1 ⟨rfl, hb1⟩
    have hz1 := hb1.size
    simp at hz1
    obtain ⟨hc1, hf1⟩ := bcell hb1
    have B1 := Aside.intro hb1
    clear hb1
    go_wp2_with fail
    refine (HM.out _).mono ?_
    rintro r w2 ⟨rfl, hb2⟩
    have hz2 := hb2.size
    obtain ⟨hc2, hf2⟩ := bcell hb2
    have hc3 : ∀ b o, b < w.heap.size + 1 + 1 → w2.cell? ⟨b, o, none⟩ = w1.cell? ⟨b, o, none⟩ := fun b o h => hc2 b o (by omega)
    have B2 := Aside.intro hb2
    clear hb2 hc2 hf2
    go_wp2
    go_ret2
    exact ⟨by first | rfl | simp, ((((Below.refl _ w).alloc (Nat.le_refl _) _).alloc (by simp) _).trans (B1.out.mono (by simp; omega))).trans (B2.out.mono (by omega))⟩
  have way7 : ¬ (0 < n) → ¬ (b = 0) → Calls Tryz.prog 98 #[.agg #[.int .i64 n, .int .i64 u, .int .i64 d, .int .i64 m, .int .i64 p, .int .i64 l], .agg #[.int .i64 a, .int .i64 b]] w fun r w' => r = .returned (.tuple #[.float .f64 (vd true n u d a b).1, .bool (vd true n u d a b).2]) ∧ Below w.heap.size w w' := by
    intro p1 p3
    have hv : vd true n u d a b = (0, false) := by unfold vd; rw [if_neg (by decide), if_neg (fun h => p1 h.1), if_pos p3]
    rw [hv]
    clear hv
    have q1 : decide (0 < n) = false := decide_eq_false p1
    have q3 : (b == 0) = false := by rw [beq_eq_false_iff_ne]; exact p3
    go_enter Tryz.func98, Tryz.ntmps98
    go_wp2_with fail
    refine (HS.out _).mono ?_
    rintro r w1 ⟨rfl, hb1⟩
    have hz1 := hb1.size
    simp at hz1
    obtain ⟨hc1, hf1⟩ := bcell hb1
    have B1 := Aside.intro hb1
    clear hb1
    go_wp2_with fail
    refine (HM.out _).mono ?_
    rintro r w2 ⟨rfl, hb2⟩
    have hz2 := hb2.size
    obtain ⟨hc2, hf2⟩ := bcell hb2
    have hc3 : ∀ b o, b < w.heap.size + 1 + 1 → w2.cell? ⟨b, o, none⟩ = w1.cell? ⟨b, o, none⟩ := fun b o h => hc2 b o (by omega)
    have B2 := Aside.intro hb2
    clear hb2 hc2 hf2
    go_wp2
    go_ret2
    exact ⟨by first | rfl | simp, ((((Below.refl _ w).alloc (Nat.le_refl _) _).alloc (by simp) _).trans (B1.out.mono (by simp; omega))).trans (B2.out.mono (by omega))⟩
  have way8 : ¬ (0 < n) → b = 0 → 0 < u → 0 < d → Calls Tryz.prog 98 #[.agg #[.int .i64 n, .int .i64 u, .int .i64 d, .int .i64 m, .int .i64 p, .int .i64 l], .agg #[.int .i64 a, .int .i64 b]] w fun r w' => r = .returned (.tuple #[.float .f64 (vd true n u d a b).1, .bool (vd true n u d a b).2]) ∧ Below w.heap.size w w' := by
    intro p1 p3 p4 p5
    have hv : vd true n u d a b = (9221120237041090560, true) := by unfold vd; rw [if_neg (by decide), if_neg (fun h => p1 h.1), if_neg (not_not_intro p3), if_pos ⟨p4, p5⟩]
    rw [hv]
    clear hv
    have q1 : decide (0 < n) = false := decide_eq_false p1
    have q3 : b = 0 := p3
    have q4 : 0 < u := p4
    have q5 : 0 < d := p5
    subst q3
    go_enter Tryz.func98, Tryz.ntmps98
    go_wp2_with fail
    refine (HS.out _).mono ?_
    rintro r w1 ⟨rfl, hb1⟩
    have hz1 := hb1.size
    simp at hz1
    obtain ⟨hc1, hf1⟩ := bcell hb1
    have B1 := Aside.intro hb1
    clear hb1
    go_wp2_with fail
    refine (HM.out _).mono ?_
    rintro r w2 ⟨rfl, hb2⟩
    have hz2 := hb2.size
    obtain ⟨hc2, hf2⟩ := bcell hb2
    have hc3 : ∀ b o, b < w.heap.size + 1 + 1 → w2.cell? ⟨b, o, none⟩ = w1.cell? ⟨b, o, none⟩ := fun b o h => hc2 b o (by omega)
    have B2 := Aside.intro hb2
    clear hb2 hc2 hf2
    go_wp2_with fail
    refine (HN.out _).mono ?_
    rintro r w3 ⟨rfl, rfl⟩
    go_wp2
    go_ret2
    exact ⟨by first | rfl | simp, ((((Below.refl _ w).alloc (Nat.le_refl _) _).alloc (by simp) _).trans (B1.out.mono (by simp; omega))).trans (B2.out.mono (by omega))⟩
  have way9 : ¬ (0 < n) → b = 0 → 0 < u → ¬ (0 < d) → Calls Tryz.prog 98 #[.agg #[.int .i64 n, .int .i64 u, .int .i64 d, .int .i64 m, .int .i64 p, .int .i64 l], .agg #[.int .i64 a, .int .i64 b]] w fun r w' => r = .returned (.tuple #[.float .f64 (vd true n u d a b).1, .bool (vd true n u d a b).2]) ∧ Below w.heap.size w w' := by
    intro p1 p3 p4 p5
    have hv : vd true n u d a b = (9218868437227405312, true) := by unfold vd; rw [if_neg (by decide), if_neg (fun h => p1 h.1), if_neg (not_not_intro p3), if_neg (fun h => p5 h.2), if_pos p4]
    rw [hv]
    clear hv
    have q1 : decide (0 < n) = false := decide_eq_false p1
    have q3 : b = 0 := p3
    have q4 : 0 < u := p4
    have q5 : decide (0 < d) = false := decide_eq_false p5
    subst q3
    go_enter Tryz.func98, Tryz.ntmps98
    go_wp2_with fail
    refine (HS.out _).mono ?_
    rintro r w1 ⟨rfl, hb1⟩
    have hz1 := hb1.size
    simp at hz1
    obtain ⟨hc1, hf1⟩ := bcell hb1
    have B1 := Aside.intro hb1
    clear hb1
    go_wp2_with fail
    refine (HM.out _).mono ?_
    rintro r w2 ⟨rfl, hb2⟩
    have hz2 := hb2.size
    obtain ⟨hc2, hf2⟩ := bcell hb2
    have hc3 : ∀ b o, b < w.heap.size + 1 + 1 → w2.cell? ⟨b, o, none⟩ = w1.cell? ⟨b, o, none⟩ := fun b o h => hc2 b o (by omega)
    have B2 := Aside.intro hb2
    clear hb2 hc2 hf2
    go_wp2_with fail
    refine (HU.out _).mono ?_
    rintro r w3 ⟨rfl, rfl⟩
    go_wp2
    go_ret2
    exact ⟨by first | rfl | simp, ((((Below.refl _ w).alloc (Nat.le_refl _) _).alloc (by simp) _).trans (B1.out.mono (by simp; omega))).trans (B2.out.mono (by omega))⟩
  have way10 : ¬ (0 < n) → b = 0 → ¬ (0 < u) → 0 < d → Calls Tryz.prog 98 #[.agg #[.int .i64 n, .int .i64 u, .int .i64 d, .int .i64 m, .int .i64 p, .int .i64 l], .agg #[.int .i64 a, .int .i64 b]] w fun r w' => r = .returned (.tuple #[.float .f64 (vd true n u d a b).1, .bool (vd true n u d a b).2]) ∧ Below w.heap.size w w' := by
    intro p1 p3 p4 p5
    have hv : vd true n u d a b = (18442240474082181120, true) := by unfold vd; rw [if_neg (by decide), if_neg (fun h => p1 h.1), if_neg (not_not_intro p3), if_neg (fun h => p4 h.1), if_neg p4, if_pos p5]
    rw [hv]
    clear hv
    have q1 : decide (0 < n) = false := decide_eq_false p1
    have q3 : b = 0 := p3
    have q4 : decide (0 < u) = false := decide_eq_false p4
    have q5 : 0 < d := p5
    subst q3
    go_enter Tryz.func98, Tryz.ntmps98
    go_wp2_with fail
    refine (HS.out _).mono ?_
    rintro r w1 ⟨rfl, hb1⟩
    have hz1 := hb1.size
    simp at hz1
    obtain ⟨hc1, hf1⟩ := bcell hb1
    have B1 := Aside.intro hb1
    clear hb1
    go_wp2_with fail
    refine (HM.out _).mono ?_
    rintro r w2 ⟨rfl, hb2⟩
    have hz2 := hb2.size
    obtain ⟨hc2, hf2⟩ := bcell hb2
    have hc3 : ∀ b o, b < w.heap.size + 1 + 1 → w2.cell? ⟨b, o, none⟩ = w1.cell? ⟨b, o, none⟩ := fun b o h => hc2 b o (by omega)
    have B2 := Aside.intro hb2
    clear hb2 hc2 hf2
    go_wp2_with fail
    refine (HD.out _).mono ?_
    rintro r w3 ⟨rfl, rfl⟩
    go_wp2
    go_ret2
    exact ⟨by first | rfl | simp, ((((Below.refl _ w).alloc (Nat.le_refl _) _).alloc (by simp) _).trans (B1.out.mono (by simp; omega))).trans (B2.out.mono (by omega))⟩
  have way11 : ¬ (0 < n) → b = 0 → ¬ (0 < u) → ¬ (0 < d) → Calls Tryz.prog 98 #[.agg #[.int .i64 n, .int .i64 u, .int .i64 d, .int .i64 m, .int .i64 p, .int .i64 l], .agg #[.int .i64 a, .int .i64 b]] w fun r w' => r = .returned (.tuple #[.float .f64 (vd true n u d a b).1, .bool (vd true n u d a b).2]) ∧ Below w.heap.size w w' := by
    intro p1 p3 p4 p5
    have hv : vd true n u d a b = (0, false) := by unfold vd; rw [if_neg (by decide), if_neg (fun h => p1 h.1), if_neg (not_not_intro p3), if_neg (fun h => p4 h.1), if_neg p4, if_neg p5]
    rw [hv]
    clear hv
    have q1 : decide (0 < n) = false := decide_eq_false p1
    have q3 : b = 0 := p3
    have q4 : decide (0 < u) = false := decide_eq_false p4
    have q5 : decide (0 < d) = false := decide_eq_false p5
    subst q3
    go_enter Tryz.func98, Tryz.ntmps98
    go_wp2_with fail
    refine (HS.out _).mono ?_
    rintro r w1 ⟨rfl, hb1⟩
    have hz1 := hb1.size
    simp at hz1
    obtain ⟨hc1, hf1⟩ := bcell hb1
    have B1 := Aside.intro hb1
    clear hb1
    go_wp2_with fail
    refine (HM.out _).mono ?_
    rintro r w2 ⟨rfl, hb2⟩
    have hz2 := hb2.size
    obtain ⟨hc2, hf2⟩ := bcell hb2
    have hc3 : ∀ b o, b < w.heap.size + 1 + 1 → w2.cell? ⟨b, o, none⟩ = w1.cell? ⟨b, o, none⟩ := fun b o h => hc2 b o (by omega)
    have B2 := Aside.intro hb2
    clear hb2 hc2 hf2
    go_wp2
    go_ret2
    exact ⟨by first | rfl | simp, ((((Below.refl _ w).alloc (Nat.le_refl _) _).alloc (by simp) _).trans (B1.out.mono (by simp; omega))).trans (B2.out.mono (by omega))⟩
  by_cases p1 : 0 < n
  · by_cases p2 : a = 0
    · exact way1 p1 p2
    · by_cases p3 : b = 0
      · by_cases p4 : 0 < u <;> by_cases p5 : 0 < d
        · exact way3 p1 p2 p3 p4 p5
        · exact way4 p1 p2 p3 p4 p5
        · exact way5 p1 p2 p3 p4 p5
        · exact way6 p1 p2 p3 p4 p5
      · exact way2 p1 p2 p3
  · by_cases p3 : b = 0
    · by_cases p4 : 0 < u <;> by_cases p5 : 0 < d
      · exact way8 p1 p3 p4 p5
      · exact way9 p1 p3 p4 p5
      · exact way10 p1 p3 p4 p5
      · exact way11 p1 p3 p4 p5
    · exact way7 p1 p3

end Go.Proofs.YtmpakpdikkfofaaGreatDoor

/- policy: Nought. -/
namespace Go.Proofs.YtmpakpdikkfofaaGreatDoor
set_option linter.unusedVariables false
set_option maxRecDepth 20000
set_option linter.unusedSimpArgs false
open Go.RowKit
open Go.Proofs.YtmpakpdikkfofaaGreatDoor.B (f64bits f64frombits bw bcell)
attribute [local go_sem] f64bits f64frombits
set_option maxHeartbeats 8000000 in
theorem Nought_any (n u d m p l mode : Int) (w : World) : Calls Tryz.prog 99 #[.agg #[.int .i64 n, .int .i64 u, .int .i64 d, .int .i64 m, .int .i64 p, .int .i64 l], .int .i64 mode] w fun r w' => r = .returned (.float .f64 (nt (snd n u d m p l) n u d m p l mode)) ∧ Below w.heap.size w w' := by
  have HS := hid (sound_any n u d m p l)
  have HM := hid (minus_any)
  rcases hs : snd n u d m p l with _ | _
  · rw [hs] at HS
    have hv : nt false n u d m p l mode = 0 := if_pos rfl
    rw [hv]
    clear hs hv
    go_enter Tryz.func99, Tryz.ntmps99
    go_wp2_with fail
    refine (HS.out _).mono ?_
    rintro r w1 ⟨rfl, hb1⟩
    have hz1 := hb1.size
    simp at hz1
    obtain ⟨hc1, hf1⟩ := bcell hb1
    have B1 := Aside.intro hb1
    clear hb1
    go_wp2
    go_ret
    exact ⟨by first | rfl | simp, ((Below.refl _ w).alloc (Nat.le_refl _) _).trans (B1.out.mono (by simp))⟩
  have bd := snd_bd hs
  rw [hs] at HS
  obtain ⟨f, hf⟩ : ∃ f, l - n - u - d = f := ⟨_, rfl⟩
  have hfb : -9223372036854775808 ≤ f ∧ f ≤ 9223372036854775807 := by omega
  have hb1 : 0 ≤ n ∧ n ≤ 1099511627776 := bd.1
  have hb2 : 0 ≤ u ∧ u ≤ 1099511627776 := bd.2.1
  have hb3 : 0 ≤ d ∧ d ≤ 1099511627776 := bd.2.2.1
  have hb4 : 0 ≤ l ∧ l ≤ 1099511627776 := bd.2.2.2
  unfold nt
  rw [if_neg (by decide), hf]
  clear hs bd
  by_cases p1 : f = 0
  · rw [if_pos p1]
    have q1 : (f == 0) = true := by rw [beq_iff_eq]; exact p1
    clear p1
    go_enter Tryz.func99, Tryz.ntmps99
    go_wp2_with fail
    refine (HS.out _).mono ?_
    rintro r w1 ⟨rfl, hb1⟩
    have hz1 := hb1.size
    simp at hz1
    obtain ⟨hc1, hf1⟩ := bcell hb1
    have B1 := Aside.intro hb1
    clear hb1
    go_wp2_with fail
    refine (HM.out _).mono ?_
    rintro r w3 ⟨rfl, rfl⟩
    go_wp2
    go_ret
    exact ⟨by first | rfl | simp, ((Below.refl _ w).alloc (Nat.le_refl _) _).trans (B1.out.mono (by simp))⟩
  rw [if_neg p1]
  have q1 : (f == 0) = false := by rw [beq_eq_false_iff_ne]; exact p1
  clear p1
  by_cases p2 : m = f
  · rw [if_pos p2]
    have q2 : (m == f) = true := by rw [beq_iff_eq]; exact p2
    clear p2
    go_enter Tryz.func99, Tryz.ntmps99
    go_wp2_with fail
    refine (HS.out _).mono ?_
    rintro r w1 ⟨rfl, hb1⟩
    have hz1 := hb1.size
    simp at hz1
    obtain ⟨hc1, hf1⟩ := bcell hb1
    have B1 := Aside.intro hb1
    clear hb1
    go_wp2_with fail
    refine (HM.out _).mono ?_
    rintro r w3 ⟨rfl, rfl⟩
    go_wp2
    go_ret
    exact ⟨by first | rfl | simp, ((Below.refl _ w).alloc (Nat.le_refl _) _).trans (B1.out.mono (by simp))⟩
  rw [if_neg p2]
  have q2 : (m == f) = false := by rw [beq_eq_false_iff_ne]; exact p2
  clear p2
  by_cases p3 : p = f
  · rw [if_pos p3]
    have q3 : (p == f) = true := by rw [beq_iff_eq]; exact p3
    clear p3
    go_enter Tryz.func99, Tryz.ntmps99
    go_wp2_with fail
    refine (HS.out _).mono ?_
    rintro r w1 ⟨rfl, hb1⟩
    have hz1 := hb1.size
    simp at hz1
    obtain ⟨hc1, hf1⟩ := bcell hb1
    have B1 := Aside.intro hb1
    clear hb1
    go_wp2_with fail
    refine (HM.out _).mono ?_
    rintro r w3 ⟨rfl, rfl⟩
    go_wp2
    go_ret
    exact ⟨by first | rfl | simp, ((Below.refl _ w).alloc (Nat.le_refl _) _).trans (B1.out.mono (by simp))⟩
  rw [if_neg p3]
  have q3 : (p == f) = false := by rw [beq_eq_false_iff_ne]; exact p3
  clear p3
  by_cases p4 : mode = 3
  · rw [if_pos p4]
    subst p4
    go_enter Tryz.func99, Tryz.ntmps99
    go_wp2_with fail
    refine (HS.out _).mono ?_
    rintro r w1 ⟨rfl, hb1⟩
    have hz1 := hb1.size
    simp at hz1
    obtain ⟨hc1, hf1⟩ := bcell hb1
    have B1 := Aside.intro hb1
    clear hb1
    go_wp2_with fail
    refine (HM.out _).mono ?_
    rintro r w3 ⟨rfl, rfl⟩
    go_wp2
    go_ret
    exact ⟨by first | rfl | simp, ((Below.refl _ w).alloc (Nat.le_refl _) _).trans (B1.out.mono (by simp))⟩
  · rw [if_neg p4]
    have q4 : (mode == 3) = false := by rw [beq_eq_false_iff_ne]; exact p4
    clear p4
    go_enter Tryz.func99, Tryz.ntmps99
    go_wp2_with fail
    refine (HS.out _).mono ?_
    rintro r w1 ⟨rfl, hb1⟩
    have hz1 := hb1.size
    simp at hz1
    obtain ⟨hc1, hf1⟩ := bcell hb1
    have B1 := Aside.intro hb1
    clear hb1
    go_wp2_with fail
    refine (HM.out _).mono ?_
    rintro r w3 ⟨rfl, rfl⟩
    go_wp2
    go_ret
    exact ⟨by first | rfl | simp, ((Below.refl _ w).alloc (Nat.le_refl _) _).trans (B1.out.mono (by simp))⟩

end Go.Proofs.YtmpakpdikkfofaaGreatDoor

/- ahead: what is told ahead of the value. -/
namespace Go.Proofs.YtmpakpdikkfofaaGreatDoor
open Go.RowKit
set_option linter.unusedVariables false
set_option maxRecDepth 20000
set_option linter.unusedSimpArgs false

/-- Where nothing is refused: what is told ahead of the value. -/
def ahd (V : Int) (s : Sp) (mode a b : Int) : Nat × Bool × Int :=
  if (vd (snd s.n s.u s.d s.m s.p s.a && may a b) s.n s.u s.d a b).2 then ((vd (snd s.n s.u s.d s.m s.p s.a && may a b) s.n s.u s.d a b).1, true, 0)
  else if V = 0 then (nt (snd s.n s.u s.d s.m s.p s.a) s.n s.u s.d s.m s.p s.a mode, true, 0) else (0, false, 0)
theorem zero_words (L : List Nat) (V : Int) (hl : L.length = 133) (hL : Wf L) (hv : (val L : Int) = V % (PB : Int)) (h0 : -(HB : Int) < V) (h1 : V < (HB : Int)) : decide (L = List.replicate 133 0) = decide (V = 0) := by
  rw [decide_eq_decide]
  have e := PB_HB
  constructor
  · intro h
    rw [h, val_zeros] at hv
    have h2 := Int.emod_emod_of_dvd V (Int.dvd_refl (PB : Int))
    have h3 : (PB : Int) ∣ V := Int.dvd_of_emod_eq_zero (by simpa using hv.symm)
    obtain ⟨k, hk⟩ := h3
    by_cases hk0 : k = 0
    · rw [hk, hk0]; simp
    · have hp := HB_pos
      have : (PB : Int) ≤ V ∨ V ≤ -(PB : Int) := by
        rcases Int.lt_or_gt_of_ne hk0 with h | h
        · right
          have : (PB : Int) * k ≤ (PB : Int) * (-1) := Int.mul_le_mul_of_nonneg_left (by omega) (by omega)
          omega
        · left
          have : (PB : Int) * 1 ≤ (PB : Int) * k := Int.mul_le_mul_of_nonneg_left (by omega) (by omega)
          omega
      omega
  · rintro rfl
    refine val_inj (by simp [hl]) hL (Wf.zeros 133) ?_
    rw [val_zeros]
    simpa using hv

set_option maxHeartbeats 4000000 in
theorem ahead7 (g : Nat) (V : Int) (s : Sp) (mode a b : Int) (w : World) (hA : Acc7 w g V s) (hs : s.ok) (hm0 : 0 ≤ mode) (hm1 : mode ≤ 4) (hab : may a b = true) (ha : a ≠ 2) (hb : b ≠ 2) :
    Calls Tryz.prog 57 #[.pointer (some ⟨g, 0, none⟩), .int .i64 mode, .agg #[.int .i64 a, .int .i64 b]] w fun r w' => r = .returned (.tuple #[.float .f64 (ahd V s mode a b).1, .bool (ahd V s mode a b).2.1, .int .i64 (ahd V s mode a b).2.2]) ∧ Below w.heap.size w w' := by
  obtain ⟨⟨X, tl, er⟩, hX⟩ : ∃ X, X = ahd V s mode a b := ⟨_, rfl⟩
  rw [← hX]
  simp only
  obtain ⟨L, a1, a2, a3, a4, a5, a6⟩ := hA
  have hz := zero_words L V a1 a2 a3 a4 a5
  obtain ⟨n, u, d, m, p, l⟩ := s
  have HM := hid (fun u : World => May_any a b u)
  rw [hab] at HM
  have HV := hid (fun w : World => Verdict_any n u d m p l a b w)
  have HN := hid (fun w : World => Nought_any n u d m p l mode w)
  obtain ⟨⟨vx, vt⟩, hvd⟩ : ∃ v, v = vd (snd n u d m p l && may a b) n u d a b := ⟨_, rfl⟩
  obtain ⟨nx, hnt⟩ : ∃ v, v = nt (snd n u d m p l) n u d m p l mode := ⟨_, rfl⟩
  rw [← hvd] at HV
  rw [← hnt] at HN
  simp only at HV
  simp only [ahd] at hX
  rw [← hvd, ← hnt] at hX
  simp only at hX
  have HX := Aside.intro hX
  have HA := Aside.intro (And.intro a1 (And.intro a6 hz))
  have hlt := a6.lt
  have hne : g ≠ w.heap.size := Nat.ne_of_lt hlt
  have hne1 : g ≠ w.heap.size + 1 := by omega
  have c0 := a6.cell a1 0 _ rfl
  have c1 := a6.cell a1 1 _ rfl
  have c2 := a6.cell a1 2 _ rfl
  have c3 := a6.cell a1 3 _ rfl
  have c4 := a6.cell a1 4 _ rfl
  have c5 := a6.cell a1 5 _ rfl
  obtain ⟨h0, h1, h2, h3, h4, h5⟩ := hs
  have ha' : (a == 2) = false := by simpa using ha
  have hb' : (b == 2) = false := by simpa using hb
  have b0 : decide (mode < 0) = false := by simp; omega
  have b1 : decide (4 < mode) = false := by simp; omega
  clear a1 a2 a3 a4 a5 a6 hX hvd hnt hab ha hb hz
  go_enter Tryz.func57, Tryz.ntmps57
  go_wp2_with fail
  refine (HM.out _).mono ?_
  rintro r w1 ⟨rfl, hb1⟩
  have hz1 : w.heap.size + 1 < w1.heap.size := by have := hb1.size; simp at this; omega
  have B1 := Aside.intro hb1
  have P1 : Aside (Bl w1 w.heap.size 27 [.int .i64 a, .int .i64 b] ∧ Bl w1 (w.heap.size + 1) 77 [.int .i64 n, .int .i64 u, .int .i64 d, .int .i64 m, .int .i64 p, .int .i64 l] ∧ Below w.heap.size w w1 ∧ Ac w1 g L ⟨n, u, d, m, p, l⟩) := by
    have e0 := (bel_alloc w (Obj.cells #[.int .i64 a, .int .i64 b] 27)).trans ((bel_alloc (w.alloc (Obj.cells #[.int .i64 a, .int .i64 b] 27)) (Obj.cells #[.int .i64 n, .int .i64 u, .int .i64 d, .int .i64 m, .int .i64 p, .int .i64 l] 77)).mono (by simp))
    have e1 := e0.trans (hb1.mono e0.size)
    exact ⟨(((Bl.new w 27 [_, _]).alloc _).below hb1 (by simp; omega)), ((Bl.new' (w.alloc _) 77 _ [_, _, _, _, _, _] (by simp)).below hb1 (by simp)), e1, HA.out.2.1.below e1 HA.out.2.1.lt⟩
  clear hb1 c0 c1 c2 c3 c4 c5
  have q0 := P1.out.1.cell 0 _ rfl
  have q1 := P1.out.1.cell 1 _ rfl
  have s0 := P1.out.2.1.cell 0 _ rfl
  have s1 := P1.out.2.1.cell 1 _ rfl
  have s2 := P1.out.2.1.cell 2 _ rfl
  have s3 := P1.out.2.1.cell 3 _ rfl
  have s4 := P1.out.2.1.cell 4 _ rfl
  have s5 := P1.out.2.1.cell 5 _ rfl
  by_cases hn : 0 < n <;> by_cases hu : 0 < u + d
  all_goals (
    go_wp2_with fail
    refine (HV.out _).mono ?_
    rintro r w2 ⟨rfl, hb2⟩
    have P2 : Aside (Bl w2 (w.heap.size + 1) 77 [.int .i64 n, .int .i64 u, .int .i64 d, .int .i64 m, .int .i64 p, .int .i64 l] ∧ Below w.heap.size w w2 ∧ Ac w2 g L ⟨n, u, d, m, p, l⟩) :=
      ⟨P1.out.2.1.below hb2 P1.out.2.1.lt, P1.out.2.2.1.trans (hb2.mono P1.out.2.2.1.size), P1.out.2.2.2.below hb2 P1.out.2.2.2.lt⟩
    clear hb2 q0 q1 s0 s1 s2 s3 s4 s5 hn hu
    cases vt
    · have s0 := P2.out.1.cell 0 _ rfl
      have s1 := P2.out.1.cell 1 _ rfl
      have s2 := P2.out.1.cell 2 _ rfl
      have s3 := P2.out.1.cell 3 _ rfl
      have s4 := P2.out.1.cell 4 _ rfl
      have s5 := P2.out.1.cell 5 _ rfl
      go_wp2_with (first | (with_reducible refine wpList_load_mid (P := Tryz.prog) rfl 75 (.tmp 57) rfl g 0 rfl (L.map U) _ P2.out.2.2.range Tryz.desc_words rfl (by simp [Tryz.size_words, HA.out.1]) ?_))
      rw [Tryz.nought_words, eq_words L _ w2 HA.out.1 (by simp), HA.out.2.2]
      generalize (List.replicate 133 0).map U = zz
      by_cases hV : V = 0
      · rw [decide_eq_true hV]
        simp only [Result.andThen_ok, Oper.upon]
        have HX2 := Aside.intro (show (X, tl, er) = (nx, true, 0) by rw [HX.out, if_neg (by decide), if_pos hV])
        clear hV
        go_wp2_with fail
        refine (HN.out _).mono ?_
        rintro r w3 ⟨rfl, hb3⟩
        have B3 := Aside.intro hb3
        clear hb3
        go_wp2
        refine bodyPost_ret (v := .tuple #[.float .f64 nx, .bool true, .int .i64 0]) (by simp [results, Tryz.results57, go_sem]) rfl ?_
        have e := HX2.out
        cases e
        exact ⟨rfl, P2.out.2.1.trans (B3.out.mono P2.out.2.1.size)⟩
      · rw [decide_eq_false hV]
        simp only [Result.andThen_ok, Oper.upon]
        have HX2 := Aside.intro (show (X, tl, er) = (0, false, 0) by rw [HX.out, if_neg (by decide), if_neg hV])
        clear hV
        go_wp2
        refine bodyPost_ret (v := .tuple #[.float .f64 0, .bool false, .int .i64 0]) (by simp [results, Tryz.results57, go_sem]) rfl ?_
        have e := HX2.out
        cases e
        exact ⟨rfl, P2.out.2.1⟩
    · go_wp2
      refine bodyPost_ret (v := .tuple #[.float .f64 vx, .bool true, .int .i64 0]) (by simp [results, Tryz.results57, go_sem]) rfl ?_
      have e := HX.out
      rw [if_pos trivial] at e
      cases e
      exact ⟨rfl, P2.out.2.1⟩)
end Go.Proofs.YtmpakpdikkfofaaGreatDoor

/- Calls that hand on: the program's form, Neg, the document's Make, Made, Neg. -/
namespace Go.Proofs.YtmpakpdikkfofaaGreatDoor
open Go.RowKit
set_option linter.unusedVariables false
set_option maxRecDepth 20000

set_option maxHeartbeats 4000000 in
theorem form_any {w : World} {a : Option Addr} {n c : Nat} {xs : List Nat} (h1 : Arg w a n c xs) (hT : Tab w) (neg : Bool) (e : Int) (he0 : -9223372036854775808 ≤ e) (he1 : e ≤ 9223372036854775807) :
    Calls Tryz.prog 138 #[.agg #[.bool neg, .slice a n c, .int .i64 e]] w fun r w' => DAns w.heap.size w' r (mkS neg (val xs) e) ∧ Below w.heap.size w w' := by
  have HB := Aside.intro (show Below w.heap.size w ((w.alloc (.cells #[.bool neg, .slice a n c, .int .i64 e] 90)).alloc (.cells #[.bool false, .slice none 0 0, .int .i64 0] 90)) from (((Below.refl _ _).alloc (Nat.le_refl _) _).alloc (by simp) _))
  have H1 := hid (Make_any (h1.below HB.out) (hT.belows HB.out) neg e he0 he1)
  have hl := mkS_len neg (val xs) e
  obtain ⟨o, ho⟩ : ∃ o, mkS neg (val xs) e = o := ⟨_, rfl⟩
  rw [ho] at H1 hl ⊢
  unfold DAns at H1 ⊢
  obtain ⟨dn, hdn⟩ : ∃ d, dN o = d := ⟨_, rfl⟩
  obtain ⟨X, hdx⟩ : ∃ d, dX o = d := ⟨_, rfl⟩
  obtain ⟨de, hde⟩ : ∃ d, dE o = d := ⟨_, rfl⟩
  obtain ⟨er, her⟩ : ∃ d, erS o = d := ⟨_, rfl⟩
  rw [hdn, hdx, hde, her] at H1 ⊢
  rw [hdx] at hl
  clear h1 ho hdn hdx hde her hT he0 he1
  go_enter Tryz.func138, Tryz.ntmps138
  go_wp2_with fail
  refine (Calls.mono H1.out) ?_
  rintro r w2 ⟨⟨v, rfl, hN⟩, hb⟩
  obtain ⟨a2, c2, rfl, _⟩ := hN.arg (by omega)
  obtain ⟨hc, hf⟩ := bcell hb
  have HF := Aside.intro (Fin.of 2 HB.out (by simp) hN hb)
  have hz : w.heap.size + 1 < w2.heap.size := by have := hb.size; simp at this; omega
  clear hN hb
  go_wp2
  exact bodyPost_ret (v := .tuple #[.agg #[.bool dn, .slice a2 (ws X).length c2, .int .i64 de], .int .i64 er]) (by simp [results, Tryz.results138, go_sem, hc]) rfl (Fin.dans (m := w.heap.size + 2) (by repeat (first | exact HF.out | refine Fin.alloc ?_ _ | refine Fin.set ?_ _ _ _ (by omega) (by omega))) (by omega))


/-- A Dyad alone that is answered. -/
def DVal (lo : Nat) (w : World) (r : Ending) (o : Option (Bool × Nat × Int)) : Prop :=
  ∃ v, r = .returned (.agg #[.bool (dN o), v, .int .i64 (dE o)]) ∧ Nt lo w v (dX o)
theorem Fin.dval {lo m : Nat} {w0 w : World} {n : Bool} {v : Value} {X : Nat} {e : Int} (H : Fin lo m w0 w v X) (h : lo ≤ m) :
    (∃ v', Ending.returned (.agg #[.bool n, v, .int .i64 e]) = .returned (.agg #[.bool n, v', .int .i64 e]) ∧ Nt lo w v' X) ∧ Below lo w0 w := ⟨⟨v, rfl, H.nt.mono h⟩, H.bel⟩

end Go.Proofs.YtmpakpdikkfofaaGreatDoor

/- What Split and Class of the document, Class, and Same answer, at every number; when two Parts are the same. -/
namespace Go.Proofs.YtmpakpdikkfofaaGreatDoor.B
set_option linter.unusedVariables false
set_option maxRecDepth 20000
open Go.RowKit
attribute [local go_sem] f64bits f64frombits
theorem eqParts (a c : Bool) (k l x y f g : Int) (w : World) : (Op.equalIn 10000 98 (.agg #[.bool a, .int .i64 k, .int .i64 x, .int .u64 f]) (.agg #[.bool c, .int .i64 l, .int .i64 y, .int .u64 g])).run Tryz.prog w = .ok (a == c && (k == l && (x == y && f == g))) w := by
  have u3 := Tryz.underlying3
  have u4 := Tryz.underlying4
  have u23 := Tryz.underlying55
  have hS : Tryz.prog.underlying 98 = some (.struct (Tryz.prog.fieldsOf 98)) := by kernel_rfl
  have hp : Tryz.prog.stoodInHeld 98 = false := by kernel_rfl
  rw [show (10000 : Nat) = 9999 + 1 from rfl, run_equalIn_agg w 9999 98 _ _ hS hp]
  simp only [Program.fieldsOf, Tryz.underlying98]
  go_simp
  by_cases h1 : a = c <;> by_cases h2 : k = l <;> by_cases h3 : x = y <;> by_cases h4 : f = g <;> simp [h1, h2, h3, h4]
attribute [local go_sem] eqParts
theorem fld0 (a : Bool) (k x f : Int) (w : World) : (Instr.field 98 (.agg #[.bool a, .int .i64 k, .int .i64 x, .int .u64 f]) 0).run Tryz.prog w = .ok (.bool a) w := by kernel_rfl
theorem fld1 (a : Bool) (k x f : Int) (w : World) : (Instr.field 98 (.agg #[.bool a, .int .i64 k, .int .i64 x, .int .u64 f]) 1).run Tryz.prog w = .ok (.int .i64 k) w := by kernel_rfl
theorem fld2 (a : Bool) (k x f : Int) (w : World) : (Instr.field 98 (.agg #[.bool a, .int .i64 k, .int .i64 x, .int .u64 f]) 2).run Tryz.prog w = .ok (.int .i64 x) w := by kernel_rfl
theorem fld3 (a : Bool) (k x f : Int) (w : World) : (Instr.field 98 (.agg #[.bool a, .int .i64 k, .int .i64 x, .int .u64 f]) 3).run Tryz.prog w = .ok (.int .u64 f) w := by kernel_rfl
attribute [local go_sem] fld0 fld1 fld2 fld3
end Go.Proofs.YtmpakpdikkfofaaGreatDoor.B

/- What IsInf, Signbit, Abs, Next, Prev and Order answer, at every number. -/
namespace Go.Proofs.YtmpakpdikkfofaaGreatDoor.B
set_option linter.unusedVariables false
set_option maxRecDepth 20000
open Go.RowKit
attribute [local go_sem] f64bits f64frombits
set_option maxHeartbeats 1000000 in
theorem abs_any (s : Bool) (e f : Nat) (he : e < 2048) (hf : f < 4503599627370496) (w : World) :
    Calls Tryz.prog 92 #[.float .f64 (bw s e f)] w fun r w' => r = .returned (.float .f64 (bw false e f)) ∧ w' = w := by
  have h1 := abs_bw s e f he hf
  go_enter Tryz.func92, Tryz.ntmps92
  go_wp2
  go_ret
  exact ⟨rfl, rfl⟩

end Go.Proofs.YtmpakpdikkfofaaGreatDoor.B

/- The program's Of. -/
namespace Go.Proofs.YtmpakpdikkfofaaGreatDoor
open Go.RowKit
set_option linter.unusedVariables false
set_option maxRecDepth 20000
attribute [local go_sem] B.eqParts B.fld0 B.fld1 B.fld2 B.fld3
/-- What Of answers: a form, or that the number is not finite. -/
def ofR (s : Bool) (e f : Nat) : Option (Bool × Nat × Int) := if e = 2047 then none else mkS s (if e = 0 then f else f + 4503599627370496) (if e = 0 then -1074 else (e : Int) - 1075)
theorem bl_le53 (X : Nat) (h : X < 9007199254740992) : bl X ≤ 53 := by
  by_cases h0 : X = 0
  · subst h0; rw [bl_zero]; omega
  · have := (Nat.pow_lt_pow_iff_right (a := 2) (by omega)).1 (Nat.lt_of_le_of_lt (bl_ge X h0) (show X < 2 ^ 53 from h))
    omega

end Go.Proofs.YtmpakpdikkfofaaGreatDoor

/- Int of the program and of the document. -/
namespace Go.Proofs.YtmpakpdikkfofaaGreatDoor
open Go.RowKit
set_option linter.unusedVariables false
set_option maxRecDepth 20000

set_option maxHeartbeats 4000000 in
theorem Int_core_neg (n : Int) (m : Nat) (X : Nat) (dn : Bool) (de : Int) (er : Int) (w : World) (h0 : n < 0) (h1 : -9223372036854775808 ≤ n) (hm : (ws m).length ≤ 100) (hl : (ws X).length ≤ 8192) (e1 : IntKind.u64.wrap (-IntKind.u64.wrap n) = (m : Int))
    (HO : Hid (∀ u, Calls Tryz.prog 136 #[.int .u64 (m : Int)] u fun r w' => ∃ v, r = .returned v ∧ Nt u.heap.size w' v m ∧ Below u.heap.size u w'))
    (HM : Hid (∀ (u : World) (a : Option Addr) (c : Nat), Below w.heap.size w u → Arg u a (ws m).length c (ws m) → Calls Tryz.prog 101 #[.bool true, .slice a (ws m).length c, .int .i64 0] u fun r w' => (∃ v, r = .returned (.tuple #[.agg #[.bool dn, v, .int .i64 de], .int .i64 er]) ∧ Nt u.heap.size w' v X) ∧ Below u.heap.size u w')) :
    Calls Tryz.prog 183 #[.int .i64 n] w fun r w' => (∃ v, r = .returned (.agg #[.bool dn, v, .int .i64 de]) ∧ Nt w.heap.size w' v X) ∧ Below w.heap.size w w' := by
  go_enter Tryz.func183, Tryz.ntmps183
  go_wp2_with fail
  try rw [e1]
  refine (Calls.mono (HO.out _)) ?_
  rintro r w1 ⟨v, rfl, hN, hb⟩
  obtain ⟨a1, c1, rfl, A1⟩ := hN.arg (by omega)
  have hz : w.heap.size < w1.heap.size := by have := hb.size; simp at this; omega
  have hbw : Below w.heap.size w w1 := (below_alloc w (.cells #[.bool false, .slice none 0 0, .int .i64 0] 90)).trans (hb.mono (by simp))
  have S1 := Aside.intro hbw
  have H2 := hid (HM.out w1 a1 c1 hbw A1)
  obtain ⟨hc, hf⟩ := bcell hb
  clear hN hb A1 hbw
  go_wp2_with fail
  refine (Calls.mono H2.out) ?_
  rintro r w2 ⟨⟨v, rfl, hN⟩, hb2⟩
  obtain ⟨a2, c2, rfl, _⟩ := hN.arg (by omega)
  obtain ⟨hc2, hf2⟩ := bcell hb2
  have hz2 : w.heap.size < w2.heap.size := by have := hb2.size; omega
  have HF := Aside.intro (show Fin w.heap.size w1.heap.size w w2 (.slice a2 (ws X).length c2) X from ⟨hN, S1.out.trans (hb2.mono (by omega)), by omega⟩)
  clear hN hb2
  go_wp2
  exact bodyPost_ret (v := .agg #[.bool dn, .slice a2 (ws X).length c2, .int .i64 de]) (by simp [results, Tryz.results183, go_sem, hc, hc2, hz, hz2]) rfl (Fin.dval (m := w1.heap.size) (by repeat (first | exact HF.out | refine Fin.alloc ?_ _ | refine Fin.set ?_ _ _ _ (by omega) (by omega))) (by omega))

set_option maxHeartbeats 4000000 in
theorem Int_core_pos (n : Int) (m : Nat) (X : Nat) (dn : Bool) (de : Int) (er : Int) (w : World) (h0 : 0 ≤ n) (h1 : n ≤ 9223372036854775807) (hd : decide (n < 0) = false) (hm : (ws m).length ≤ 100) (hl : (ws X).length ≤ 8192) (e1 : IntKind.u64.wrap n = n)
    (HO : Hid (∀ u, Calls Tryz.prog 136 #[.int .u64 n] u fun r w' => ∃ v, r = .returned v ∧ Nt u.heap.size w' v m ∧ Below u.heap.size u w'))
    (HM : Hid (∀ (u : World) (a : Option Addr) (c : Nat), Below w.heap.size w u → Arg u a (ws m).length c (ws m) → Calls Tryz.prog 101 #[.bool false, .slice a (ws m).length c, .int .i64 0] u fun r w' => (∃ v, r = .returned (.tuple #[.agg #[.bool dn, v, .int .i64 de], .int .i64 er]) ∧ Nt u.heap.size w' v X) ∧ Below u.heap.size u w')) :
    Calls Tryz.prog 183 #[.int .i64 n] w fun r w' => (∃ v, r = .returned (.agg #[.bool dn, v, .int .i64 de]) ∧ Nt w.heap.size w' v X) ∧ Below w.heap.size w w' := by
  go_enter Tryz.func183, Tryz.ntmps183
  go_wp2_with fail
  try rw [e1]
  refine (Calls.mono (HO.out _)) ?_
  rintro r w1 ⟨v, rfl, hN, hb⟩
  obtain ⟨a1, c1, rfl, A1⟩ := hN.arg (by omega)
  have hz : w.heap.size < w1.heap.size := by have := hb.size; simp at this; omega
  have hbw : Below w.heap.size w w1 := (below_alloc w (.cells #[.bool false, .slice none 0 0, .int .i64 0] 90)).trans (hb.mono (by simp))
  have S1 := Aside.intro hbw
  have H2 := hid (HM.out w1 a1 c1 hbw A1)
  obtain ⟨hc, hf⟩ := bcell hb
  clear hN hb A1 hbw
  go_wp2_with fail
  refine (Calls.mono H2.out) ?_
  rintro r w2 ⟨⟨v, rfl, hN⟩, hb2⟩
  obtain ⟨a2, c2, rfl, _⟩ := hN.arg (by omega)
  obtain ⟨hc2, hf2⟩ := bcell hb2
  have hz2 : w.heap.size < w2.heap.size := by have := hb2.size; omega
  have HF := Aside.intro (show Fin w.heap.size w1.heap.size w w2 (.slice a2 (ws X).length c2) X from ⟨hN, S1.out.trans (hb2.mono (by omega)), by omega⟩)
  clear hN hb2
  go_wp2
  exact bodyPost_ret (v := .agg #[.bool dn, .slice a2 (ws X).length c2, .int .i64 de]) (by simp [results, Tryz.results183, go_sem, hc, hc2, hz, hz2]) rfl (Fin.dval (m := w1.heap.size) (by repeat (first | exact HF.out | refine Fin.alloc ?_ _ | refine Fin.set ?_ _ _ _ (by omega) (by omega))) (by omega))

theorem natAbs_len (n : Int) (h0 : -9223372036854775808 ≤ n) (h1 : n ≤ 9223372036854775807) : (ws n.natAbs).length ≤ 100 := by
  have := (ws_len_le n.natAbs 2).2 (by rw [show pw 2 = 18446744073709551616 from rfl]; omega)
  omega

theorem Int_any (n : Int) (w : World) (hT : Tab w) (h0 : -9223372036854775808 ≤ n) (h1 : n ≤ 9223372036854775807) :
    Calls Tryz.prog 183 #[.int .i64 n] w fun r w' => DVal w.heap.size w' r (mkS (decide (n < 0)) n.natAbs 0) ∧ Below w.heap.size w w' := by
  have hl := natAbs_len n h0 h1
  have HM : ∀ (s : Bool) (u : World) (a : Option Addr) (c : Nat), Below w.heap.size w u → Arg u a (ws n.natAbs).length c (ws n.natAbs) → Calls Tryz.prog 101 #[.bool s, .slice a (ws n.natAbs).length c, .int .i64 0] u fun r w' => DAns u.heap.size w' r (mkS s n.natAbs 0) ∧ Below u.heap.size u w' := by
    intro s u a c hu hA
    have := Make_any hA (hT.belows hu) s 0 (by omega) (by omega)
    rw [val_ws] at this
    exact this
  by_cases hn : n < 0
  · rw [decide_eq_true hn]
    exact Int_core_neg n n.natAbs _ _ _ _ w hn h0 hl (mkS_len _ _ _) (by simp [IntKind.wrap, IntKind.bits, IntKind.signed]; omega) (hid fun u => of_any _ u (by omega)) (hid (HM true))
  · rw [decide_eq_false hn]
    have e : ((n.natAbs : Nat) : Int) = n := by omega
    exact Int_core_pos n n.natAbs _ _ _ _ w (by omega) h1 (decide_eq_false hn) hl (mkS_len _ _ _) (by simp [IntKind.wrap, IntKind.bits, IntKind.signed]; omega) (hid fun u => by have := of_any n.natAbs u (by omega); rw [e] at this; exact this) (hid (HM false))

end Go.Proofs.YtmpakpdikkfofaaGreatDoor

/- The law's took. -/
namespace Go.Proofs.YtmpakpdikkfofaaGreatDoor
open Go.RowKit
set_option linter.unusedVariables false
set_option maxRecDepth 20000

theorem Nt.arg' {lo : Nat} {w : World} {a : Option Addr} {n c X : Nat} (h : Nt lo w (.slice a n c) X) (hs : (ws X).length ≤ 35184372088832) : n = (ws X).length ∧ Arg w a (ws X).length c (ws X) := by
  obtain ⟨a', c', e, A⟩ := h.arg hs
  cases e
  exact ⟨rfl, A⟩

end Go.Proofs.YtmpakpdikkfofaaGreatDoor

