/- Bins in memory: binOf, plus, put. -/
import Derived.Test.YtmpakpdikkfofaaGreatDoorH1x
import Derived.Test.YtmpakpdikkfofaaGreatDoorD1x
import Derived.Laws.BitsLemmas
import Derived.Deep.RegionHeld3
import Derived.LoopN
import Derived.Deep.RegionWith
import Derived.Deep.LoopGhost
import Derived.Test.YtmpakpdikkfofaaGreatDoorH6x
import Derived.KernelRfl
namespace Go.Proofs.YtmpakpdikkfofaaGreatDoor
open Go Go.RowKit
set_option linter.unusedVariables false
set_option maxRecDepth 20000
set_option linter.unusedSimpArgs false

theorem and_mask9 (n : Int) : bits .and .i64 n 4294967295 = n % 4294967296 := by
  simp only [bits]
  have e : (BitVec.ofInt IntKind.i64.bits (4294967295 : Int)).toNat = 2 ^ 32 - 1 := by decide
  rw [BitVec.toNat_and, e, Nat.and_two_pow_sub_one_eq_mod, BitVec.toNat_ofInt]
  rw [IntKind.wrap_i64]
  show (((n % ((2 ^ 64 : Nat) : Int)).toNat % 2 ^ 32 : Nat) + 9223372036854775808 : Int) % 18446744073709551616 - 9223372036854775808 = _
  have : (2:Nat)^64 = 18446744073709551616 := rfl
  omega
/-- A bin as it lies. -/
def Bv (v : Int) : Value := .agg #[.int .i64 (v / 4294967296), .int .i64 (v % 4294967296)]
def Bc (f c T : Int) (K : Nat → Int) : List Value := [.int .i64 f, .int .i64 c, .int .i64 T, .int .i64 (K 0 / 4294967296), .int .i64 (K 0 % 4294967296), .int .i64 (K 1 / 4294967296), .int .i64 (K 1 % 4294967296), .int .i64 (K 2 / 4294967296), .int .i64 (K 2 % 4294967296), .int .i64 (K 3 / 4294967296), .int .i64 (K 3 % 4294967296), .int .i64 (K 4 / 4294967296), .int .i64 (K 4 % 4294967296), .int .i64 (K 5 / 4294967296), .int .i64 (K 5 % 4294967296), .int .i64 (K 6 / 4294967296), .int .i64 (K 6 % 4294967296), .int .i64 (K 7 / 4294967296), .int .i64 (K 7 % 4294967296)]
/-- Bins in a block: fold, count, top, what stands in them. -/
def Bn (w : World) (g : Nat) (f c T : Int) (K : Nat → Int) : Prop := Bl w g 96 (Bc f c T K)
theorem Bn.lt {w : World} {g : Nat} {f c T : Int} {K : Nat → Int} (h : Bn w g f c T K) : g < w.heap.size := Bl.lt h
theorem Bn.alloc {w : World} {g : Nat} {f c T : Int} {K : Nat → Int} (h : Bn w g f c T K) (o : Obj) : Bn (w.alloc o) g f c T K := Bl.alloc h o
theorem Bn.drew {w : World} {g : Nat} {f c T : Int} {K : Nat → Int} (h : Bn w g f c T K) : Bn w.drew g f c T K := h
theorem Bn.below {w w' : World} {g B : Nat} {f c T : Int} {K : Nat → Int} (h : Bn w g f c T K) (hb : Below B w w') (hg : g < B) : Bn w' g f c T K := Bl.below h hb hg
theorem Bn.but {w w' : World} {g g' : Nat} {f c T : Int} {K : Nat → Int} (h : Bn w g f c T K) (hb : But g' w w') (hg : g ≠ g') : Bn w' g f c T K := Bl.but h hb hg
theorem Bc_hi (f c T : Int) (K : Nat → Int) (i : Nat) (h : i < 8) : (Bc f c T K)[3 + i * 2]? = some (.int .i64 (K i / 4294967296)) := by
  obtain rfl | rfl | rfl | rfl | rfl | rfl | rfl | rfl : i = 0 ∨ i = 1 ∨ i = 2 ∨ i = 3 ∨ i = 4 ∨ i = 5 ∨ i = 6 ∨ i = 7 := by omega
  all_goals rfl
theorem Bc_lo (f c T : Int) (K : Nat → Int) (i : Nat) (h : i < 8) : (Bc f c T K)[3 + i * 2 + 1]? = some (.int .i64 (K i % 4294967296)) := by
  obtain rfl | rfl | rfl | rfl | rfl | rfl | rfl | rfl : i = 0 ∨ i = 1 ∨ i = 2 ∨ i = 3 ∨ i = 4 ∨ i = 5 ∨ i = 6 ∨ i = 7 := by omega
  all_goals rfl
theorem Bc_set (f c T : Int) (K : Nat → Int) (i : Nat) (v : Int) (h : i < 8) : ((Bc f c T K).set (3 + i * 2) (.int .i64 (v / 4294967296))).set (3 + i * 2 + 1) (.int .i64 (v % 4294967296)) = Bc f c T (fun k => if k = i then v else K k) := by
  obtain rfl | rfl | rfl | rfl | rfl | rfl | rfl | rfl : i = 0 ∨ i = 1 ∨ i = 2 ∨ i = 3 ∨ i = 4 ∨ i = 5 ∨ i = 6 ∨ i = 7 := by omega
  all_goals rfl
theorem Tryz.row_bin9 : ∃ d : TypeDesc, Tryz.prog.underlying 93 = some d ∧ d.isRow = true := by
  have h : (Tryz.prog.underlying 93).any (·.isRow) = true := by kernel_rfl
  obtain ⟨d, h1, h2⟩ := (Option.any_eq_true _ _).1 h
  exact ⟨d, h1, h2⟩
theorem Tryz.size_bin9 : (Tryz.prog.info? 93).map (·.size) = some 2 := by kernel_rfl
theorem close9 {fn : Func} {p : Tmp} (h : fn.results = #[.cell p 93]) {tmps : Array Value} {W : World} {g : Nat} {x y : Value} {Q : Ending → World → Prop}
    (hp : tmps.getD p undef = .pointer (some ⟨g, 0, none⟩)) (hD : Bl W g 93 [x, y]) (hQ : Q (.returned (.agg #[x, y])) W) : bodyPost Tryz.prog fn Q .ret ⟨tmps, []⟩ W := by
  refine bodyPost_ret (v := .agg #[x, y]) ?_ rfl hQ
  obtain ⟨d, h1, h2⟩ := Tryz.row_bin9
  cases d <;> first
    | exact results_cell_row (P := Tryz.prog) h tmps W g 93 _ _ _ hp hD h1 rfl (by rw [Tryz.size_bin9]; rfl)
    | exact absurd h2 (by simp [TypeDesc.isRow])

set_option maxHeartbeats 1000000 in
theorem binOf_any (n : Int) (w : World) : Calls Tryz.prog 105 #[.int .i64 n] w fun r w' => r = .returned (Bv n) ∧ Below w.heap.size w w' := by
  have hm := and_mask9 n
  go_enter Tryz.func105, Tryz.ntmps105
  go_wp2
  exact close9 Tryz.results105 rfl (Bl.new w 93 [_, _]) ⟨rfl, bel_alloc _ _⟩
set_option maxHeartbeats 1000000 in
theorem plus9_core (x p y q : Int) (w : World) (h1 : x ≤ 8796093022208 ∧ -8796093022208 ≤ x) (h2 : y ≤ 8796093022208 ∧ -8796093022208 ≤ y) (h3 : 0 ≤ p ∧ p < 4294967296) (h4 : 0 ≤ q ∧ q < 4294967296) :
    Calls Tryz.prog 106 #[.agg #[.int .i64 x, .int .i64 p], .agg #[.int .i64 y, .int .i64 q]] w fun r w' => r = .returned (.agg #[.int .i64 (x + y + (p + q) / 4294967296), .int .i64 ((p + q) % 4294967296)]) ∧ Below w.heap.size w w' := by
  have H := hid (binOf_any (p + q))
  have h5 : (p + q) / 4294967296 ≤ 1 ∧ 0 ≤ (p + q) / 4294967296 := by omega
  obtain ⟨W, hW⟩ : ∃ W, W = ((w.alloc (.cells #[.int .i64 x, .int .i64 p] 93)).alloc (.cells #[.int .i64 y, .int .i64 q] 93)).alloc (.cells #[.int .i64 0, .int .i64 0] 93) := ⟨_, rfl⟩
  have HW : Aside (Bl W w.heap.size 93 [.int .i64 x, .int .i64 p] ∧ Bl W (w.heap.size + 1) 93 [.int .i64 y, .int .i64 q] ∧ Bl W (w.heap.size + 1 + 1) 93 [.int .i64 0, .int .i64 0] ∧ Below w.heap.size w W) := by
    subst hW
    refine ⟨((Bl.new w 93 [_, _]).alloc _).alloc _, (Bl.new' _ 93 _ [_, _] (by simp)).alloc _, Bl.new' _ 93 _ [_, _] (by simp), ?_⟩
    exact (bel_alloc _ _).trans (((bel_alloc _ _).trans ((bel_alloc _ _).mono (by simp))).mono (by simp))
  go_enter Tryz.func106, Tryz.ntmps106
  go_wp2_with fail
  rw [← hW]
  clear hW
  with_reducible refine (H.out _).mono ?_
  rintro r w1 ⟨rfl, hb⟩
  have b0 := HW.out.1.below hb HW.out.1.lt
  have b1 := HW.out.2.1.below hb HW.out.2.1.lt
  have b2 := HW.out.2.2.1.below hb HW.out.2.2.1.lt
  unfold Bv
  have hs1 := b2.lt
  have k0 := (b0.alloc (.cells #[.int .i64 ((p + q) / 4294967296), .int .i64 ((p + q) % 4294967296)] 93)).cell 0 _ rfl
  have k1 := (b1.alloc (.cells #[.int .i64 ((p + q) / 4294967296), .int .i64 ((p + q) % 4294967296)] 93)).cell 0 _ rfl
  have k2' := (b2.alloc (.cells #[.int .i64 ((p + q) / 4294967296), .int .i64 ((p + q) % 4294967296)] 93)).cell 0 _ rfl
  have f2' := (b2.alloc (.cells #[.int .i64 ((p + q) / 4294967296), .int .i64 ((p + q) % 4294967296)] 93)).frozen 0
  have k2 := b2.cell 0 _ rfl
  have k3 := b2.cell 1 _ rfl
  have f0 := b2.frozen 0
  have f1 := b2.frozen 1
  have HC := Aside.intro (And.intro b2 (HW.out.2.2.2.trans (hb.mono (HW.out.2.2.2.size))))
  clear b0 b1 b2
  go_wp2
  refine close9 Tryz.results106 rfl (((HC.out.1.set 0 _).set 1 _).alloc _) ⟨rfl, ?_⟩
  exact ((HC.out.2.setCell (by show w.heap.size ≤ w.heap.size + 1 + 1; omega) _).setCell (by show w.heap.size ≤ w.heap.size + 1 + 1; omega) _).alloc (by simp; omega) _
theorem plus9_any (a b : Int) (w : World) (ha : a.natAbs ≤ 2 ^ 75) (hb : b.natAbs ≤ 2 ^ 75) : Calls Tryz.prog 106 #[Bv a, Bv b] w fun r w' => r = .returned (Bv (a + b)) ∧ Below w.heap.size w w' := by
  have := plus9_core (a / 4294967296) (a % 4294967296) (b / 4294967296) (b % 4294967296) w (by omega) (by omega) (by omega) (by omega)
  unfold Bv
  rw [show a / 4294967296 + b / 4294967296 + (a % 4294967296 + b % 4294967296) / 4294967296 = (a + b) / 4294967296 by omega, show (a % 4294967296 + b % 4294967296) % 4294967296 = (a + b) % 4294967296 by omega] at this
  exact this

/-- One bin more in the bin that stands i below the top. -/
def putK (K : Nat → Int) (f i v : Int) : Nat → Int := fun k => if (k : Int) = i ∧ i < f then K k + v else K k

set_option maxHeartbeats 1000000 in
theorem put_no (g : Nat) (f c T j x y : Int) (K : Nat → Int) (w : World) (hB : Bl w g 96 (Bc f c T K)) (h : f ≤ T - j) (h1 : -1000 ≤ T ∧ T ≤ 1000) (h2 : -1000 ≤ j ∧ j ≤ 1000) :
    Calls Tryz.prog 64 #[.pointer (some ⟨g, 0, none⟩), .int .i64 j, .agg #[.int .i64 x, .int .i64 y]] w fun r w' => r = .returned (.tuple #[]) ∧ Below w.heap.size w w' := by
  have k0 := hB.cell 0 _ rfl
  have k2 := hB.cell 2 _ rfl
  have hl := hB.lt
  have hd : decide (T - j < f) = false := by simp; omega
  clear hB
  go_enter Tryz.func64, Tryz.ntmps64
  go_wp2
  go_end0
  exact ⟨rfl, bel_alloc _ _⟩
set_option maxHeartbeats 1000000 in
theorem put_yes (g : Nat) (f c T j a b p q : Int) (i : Nat) (K : Nat → Int) (w : World) (hB : Bl w g 96 (Bc f c T K)) (h : T - j < f) (hi : T - j = i) (hi8 : i < 8) (h1 : -1000 ≤ T ∧ T ≤ 1000) (h2 : -1000 ≤ j ∧ j ≤ 1000)
    (HP : Hid (∀ u, Calls Tryz.prog 106 #[.agg #[.int .i64 (K i / 4294967296), .int .i64 (K i % 4294967296)], .agg #[.int .i64 a, .int .i64 b]] u fun r w' => r = .returned (.agg #[.int .i64 p, .int .i64 q]) ∧ Below u.heap.size u w')) :
    Calls Tryz.prog 64 #[.pointer (some ⟨g, 0, none⟩), .int .i64 j, .agg #[.int .i64 a, .int .i64 b]] w fun r w' => r = .returned (.tuple #[]) ∧ Bl w' g 96 (((Bc f c T K).set (3 + i * 2) (.int .i64 p)).set (3 + i * 2 + 1) (.int .i64 q)) ∧ But g w w' := by
  have hl := hB.lt
  have k0 := hB.cell 0 _ rfl
  have k2 := hB.cell 2 _ rfl
  have hd : decide (T - j < f) = true := by simp; omega
  obtain ⟨W, hW⟩ : ∃ W, W = w.alloc (.cells #[.int .i64 a, .int .i64 b] 93) := ⟨_, rfl⟩
  have HZ : Aside (Bl W.drew g 96 (Bc f c T K) ∧ Bl W.drew w.heap.size 93 [.int .i64 a, .int .i64 b] ∧ Below w.heap.size w W.drew) := by
    subst hW
    exact ⟨(hB.alloc _).drew, (Bl.new w 93 [_, _]).drew, (bel_alloc _ _).drew⟩
  have mk : Hid (∀ u, Bl u g 96 (Bc f c T K) → Bl u w.heap.size 93 [.int .i64 a, .int .i64 b] → u.cell? ⟨g, 3 + i * 2, none⟩ = some (.int .i64 (K i / 4294967296)) ∧ u.cell? ⟨g, 3 + i * 2 + 1, none⟩ = some (.int .i64 (K i % 4294967296)) ∧ u.frozen? ⟨g, 3 + i * 2, none⟩ = false ∧ u.frozen? ⟨g, 3 + i * 2 + 1, none⟩ = false ∧ u.cell? ⟨w.heap.size, 0, none⟩ = some (.int .i64 a) ∧ u.cell? ⟨w.heap.size, 1, none⟩ = some (.int .i64 b)) :=
    hid (fun u p1 p2 => ⟨p1.cell _ _ (Bc_hi f c T K i hi8), p1.cell _ _ (Bc_lo f c T K i hi8), p1.frozen _, p1.frozen _, p2.cell 0 _ rfl, p2.cell 1 _ rfl⟩)
  have kS := Aside.intro (mk.out _ HZ.out.1 HZ.out.2.1)
  have hi9 : (i : Int) < 8 := by omega
  clear hB
  go_enter Tryz.func64, Tryz.ntmps64
  go_wp2_with fail
  rw [← hW]
  clear hW k0 k2 hd h hi h1 h2
  refine until_region (fun u => u.cell? ⟨g, 3 + i * 2, none⟩ = some (.int .i64 (K i / 4294967296)) ∧ u.cell? ⟨g, 3 + i * 2 + 1, none⟩ = some (.int .i64 (K i % 4294967296)) ∧ u.frozen? ⟨g, 3 + i * 2, none⟩ = false ∧ u.frozen? ⟨g, 3 + i * 2 + 1, none⟩ = false ∧ u.cell? ⟨w.heap.size, 0, none⟩ = some (.int .i64 a) ∧ u.cell? ⟨w.heap.size, 1, none⟩ = some (.int .i64 b)) 13 (by kernel_rfl) ?_
  refine until_take (i := 0) [] (v := ?_) rfl (by kernel_rfl) (by kernel_rfl) (by kernel_rfl) (by kernel_rfl) (by kernel_rfl) (fun _ _ _ h => h) (Or.inl ⟨by rfl, ?_⟩) kS.out ?_
  rotate_left
  · intro u hSu
    try dsimp only at hSu
    first | (go_simp; done) | (go_simp; with_reducible rfl)
  try simp only [Act.put, List.setIfInBounds_toArray, List.set_cons_zero, List.set_cons_succ]
  refine until_take (i := 1) [] (v := ?_) rfl (by kernel_rfl) (by kernel_rfl) (by kernel_rfl) (by kernel_rfl) (by kernel_rfl) (fun _ _ _ h => h) (Or.inl ⟨by rfl, ?_⟩) kS.out ?_
  rotate_left
  · intro u hSu
    try dsimp only at hSu
    first | (go_simp; done) | (go_simp; with_reducible rfl)
  try simp only [Act.put, List.setIfInBounds_toArray, List.set_cons_zero, List.set_cons_succ]
  refine until_take (i := 2) [] (v := ?_) rfl (by kernel_rfl) (by kernel_rfl) (by kernel_rfl) (by kernel_rfl) (by kernel_rfl) (fun _ _ _ h => h) (Or.inl ⟨by rfl, ?_⟩) kS.out ?_
  rotate_left
  · intro u hSu
    try dsimp only at hSu
    first | (go_simp; done) | (go_simp; with_reducible rfl)
  try simp only [Act.put, List.setIfInBounds_toArray, List.set_cons_zero, List.set_cons_succ]
  refine until_take (i := 3) [] (v := ?_) rfl (by kernel_rfl) (by kernel_rfl) (by kernel_rfl) (by kernel_rfl) (by kernel_rfl) (fun _ _ _ h => h) (Or.inl ⟨by rfl, ?_⟩) kS.out ?_
  rotate_left
  · intro u hSu
    try dsimp only at hSu
    first | (go_simp; done) | (go_simp; with_reducible rfl)
  try simp only [Act.put, List.setIfInBounds_toArray, List.set_cons_zero, List.set_cons_succ]
  refine until_take (i := 4) [] (v := ?_) rfl (by kernel_rfl) (by kernel_rfl) (by kernel_rfl) (by kernel_rfl) (by kernel_rfl) (fun _ _ _ h => h) (Or.inl ⟨by rfl, ?_⟩) kS.out ?_
  rotate_left
  · intro u hSu
    try dsimp only at hSu
    first | (go_simp; done) | (go_simp; with_reducible rfl)
  try simp only [Act.put, List.setIfInBounds_toArray, List.set_cons_zero, List.set_cons_succ]
  refine until_take (i := 5) [] (v := ?_) rfl (by kernel_rfl) (by kernel_rfl) (by kernel_rfl) (by kernel_rfl) (by kernel_rfl) (fun _ _ _ h => h) (Or.inl ⟨by rfl, ?_⟩) kS.out ?_
  rotate_left
  · intro u hSu
    try dsimp only at hSu
    first | (go_simp; done) | (go_simp; with_reducible rfl)
  try simp only [Act.put, List.setIfInBounds_toArray, List.set_cons_zero, List.set_cons_succ]
  refine until_take (i := 6) [] (v := ?_) rfl (by kernel_rfl) (by kernel_rfl) (by kernel_rfl) (by kernel_rfl) (by kernel_rfl) (fun _ _ _ h => h) (Or.inl ⟨by rfl, ?_⟩) kS.out ?_
  rotate_left
  · intro u hSu
    try dsimp only at hSu
    first | (go_simp; done) | (go_simp; with_reducible rfl)
  try simp only [Act.put, List.setIfInBounds_toArray, List.set_cons_zero, List.set_cons_succ]
  refine until_take (i := 7) [] (v := ?_) rfl (by kernel_rfl) (by kernel_rfl) (by kernel_rfl) (by kernel_rfl) (by kernel_rfl) (fun _ _ _ h => h) (Or.inl ⟨by rfl, ?_⟩) kS.out ?_
  rotate_left
  · intro u hSu
    try dsimp only at hSu
    first | (go_simp; done) | (go_simp; with_reducible rfl)
  try simp only [Act.put, List.setIfInBounds_toArray, List.set_cons_zero, List.set_cons_succ]
  refine until_take (i := 8) [] (v := ?_) rfl (by kernel_rfl) (by kernel_rfl) (by kernel_rfl) (by kernel_rfl) (by kernel_rfl) (fun _ _ _ h => h) (Or.inl ⟨by rfl, ?_⟩) kS.out ?_
  rotate_left
  · intro u hSu
    try dsimp only at hSu
    first | (go_simp; done) | (go_simp; with_reducible rfl)
  try simp only [Act.put, List.setIfInBounds_toArray, List.set_cons_zero, List.set_cons_succ]
  refine until_take (i := 10) [11, 12] (v := ?_) rfl (by kernel_rfl) (by kernel_rfl) (by kernel_rfl) (by kernel_rfl) (by kernel_rfl) (fun _ _ _ h => h) (Or.inl ⟨by rfl, ?_⟩) kS.out ?_
  rotate_left
  · intro u hSu
    try dsimp only at hSu
    first | (go_simp; done) | (go_simp; with_reducible rfl)
  try simp only [Act.put, List.setIfInBounds_toArray, List.set_cons_zero, List.set_cons_succ]
  refine until_take (i := 11) [12] (v := ?_) rfl (by kernel_rfl) (by kernel_rfl) (by kernel_rfl) (by kernel_rfl) (by kernel_rfl) (fun _ _ _ h => h) (Or.inl ⟨by rfl, ?_⟩) kS.out ?_
  rotate_left
  · intro u hSu
    try dsimp only at hSu
    first | (go_simp; done) | (go_simp; with_reducible rfl)
  try simp only [Act.put, List.setIfInBounds_toArray, List.set_cons_zero, List.set_cons_succ]
  refine until_one (i := 9) (by kernel_rfl) rfl (fun K' hK => ?_)
  go_simp
  refine (HP.out _).mono ?_
  rintro r u ⟨rfl, hb⟩
  have HZ := Aside.intro (And.intro (HZ.out.1.below hb HZ.out.1.lt) (And.intro (HZ.out.2.1.below hb HZ.out.2.1.lt) (HZ.out.2.2.trans (hb.mono HZ.out.2.2.size))))
  have kS := Aside.intro (mk.out _ HZ.out.1 HZ.out.2.1)
  clear hb
  dsimp only
  refine hK.out _ _ (fun _ => kS.out) ?_
  clear hK K'
  try simp only [Act.put, List.setIfInBounds_toArray, List.set_cons_zero, List.set_cons_succ]
  refine until_take (i := 12) [] (v := ?_) rfl (by kernel_rfl) (by kernel_rfl) (by kernel_rfl) (by kernel_rfl) (by kernel_rfl) (fun _ _ _ h => h) (Or.inl ⟨by rfl, ?_⟩) kS.out ?_
  rotate_left
  · intro u hSu
    try dsimp only at hSu
    first | (go_simp; done) | (go_simp; with_reducible rfl)
  try simp only [Act.put, List.setIfInBounds_toArray, List.set_cons_zero, List.set_cons_succ]
  obtain ⟨s1, s2, s3, s4, s5, s6⟩ := kS.out
  refine until_one (i := 13) (by kernel_rfl) rfl (fun K' hK => ?_)
  go_simp
  refine hK.out _ _ (fun h => absurd h (by decide)) ?_
  clear hK K'
  refine until_done (by kernel_rfl) ?_ _
  clear kS s1 s2 s3 s4 s5 s6
  go_wp2
  go_end0
  exact ⟨rfl, (HZ.out.1.set _ _).set _ _, (((But.refl g w).of_bel9 HZ.out.2.2).set _ _).set _ _⟩
/-- Bins in a block, and put. -/
theorem put_any (g : Nat) (f c T j v : Int) (K : Nat → Int) (w : World) (hB : Bn w g f c T K) (hf : f ≤ 8) (hj : j ≤ T) (h1 : -1000 ≤ T ∧ T ≤ 1000) (h2 : -1000 ≤ j ∧ j ≤ 1000) (hK : ∀ i, (K i).natAbs ≤ 2 ^ 75) (hv : v.natAbs ≤ 2 ^ 75) :
    Calls Tryz.prog 64 #[.pointer (some ⟨g, 0, none⟩), .int .i64 j, Bv v] w fun r w' => r = .returned (.tuple #[]) ∧ Bn w' g f c T (putK K f (T - j) v) ∧ But g w w' := by
  by_cases h : f ≤ T - j
  · refine (put_no g f c T j _ _ K w hB h h1 h2).mono ?_
    rintro r w' ⟨rfl, hb⟩
    have e : putK K f (T - j) v = K := by funext k; unfold putK; rw [if_neg (by omega)]
    rw [e]
    exact ⟨rfl, hB.below hb hB.lt, (But.refl g w).of_bel9 hb⟩
  · obtain ⟨i, hi⟩ : ∃ i : Nat, T - j = i := ⟨(T - j).toNat, by omega⟩
    refine (put_yes g f c T j _ _ _ _ i K w hB (by omega) hi (by omega) h1 h2 (hid (fun u => plus9_any (K i) v u (hK i) hv))).mono ?_
    rintro r w' ⟨rfl, h3, h4⟩
    refine ⟨rfl, ?_, h4⟩
    rw [Bc_set f c T K i (K i + v) (by omega)] at h3
    have e : putK K f (T - j) v = fun k => if k = i then K i + v else K k := by
      funext k
      unfold putK
      by_cases q : k = i
      · rw [if_pos (by omega), if_pos q, q]
      · rw [if_neg (by omega), if_neg q]
    rw [e]
    exact h3
end Go.Proofs.YtmpakpdikkfofaaGreatDoor

/- An array's element, by value. -/
namespace Go.Proofs.YtmpakpdikkfofaaGreatDoor
open Go Go.RowKit
theorem Tryz.und_arr9 : Tryz.prog.underlying 94 = some (.array 8 93) := by kernel_rfl
theorem idx9_0 (x0 x1 x2 x3 x4 x5 x6 x7 x8 x9 x10 x11 x12 x13 x14 x15 : Value) (w : World) : (Instr.index 94 (.agg #[x0, x1, x2, x3, x4, x5, x6, x7, x8, x9, x10, x11, x12, x13, x14, x15]) (.int .i64 0)).run Tryz.prog w = .ok (.agg #[x0, x1]) w := by
  simp [Instr.index, run_underlying Tryz.und_arr9, asIntOf, go_sem]
theorem idx9_1 (x0 x1 x2 x3 x4 x5 x6 x7 x8 x9 x10 x11 x12 x13 x14 x15 : Value) (w : World) : (Instr.index 94 (.agg #[x0, x1, x2, x3, x4, x5, x6, x7, x8, x9, x10, x11, x12, x13, x14, x15]) (.int .i64 1)).run Tryz.prog w = .ok (.agg #[x2, x3]) w := by
  simp [Instr.index, run_underlying Tryz.und_arr9, asIntOf, go_sem]
theorem idx9_2 (x0 x1 x2 x3 x4 x5 x6 x7 x8 x9 x10 x11 x12 x13 x14 x15 : Value) (w : World) : (Instr.index 94 (.agg #[x0, x1, x2, x3, x4, x5, x6, x7, x8, x9, x10, x11, x12, x13, x14, x15]) (.int .i64 2)).run Tryz.prog w = .ok (.agg #[x4, x5]) w := by
  simp [Instr.index, run_underlying Tryz.und_arr9, asIntOf, go_sem]
theorem idx9_3 (x0 x1 x2 x3 x4 x5 x6 x7 x8 x9 x10 x11 x12 x13 x14 x15 : Value) (w : World) : (Instr.index 94 (.agg #[x0, x1, x2, x3, x4, x5, x6, x7, x8, x9, x10, x11, x12, x13, x14, x15]) (.int .i64 3)).run Tryz.prog w = .ok (.agg #[x6, x7]) w := by
  simp [Instr.index, run_underlying Tryz.und_arr9, asIntOf, go_sem]
theorem idx9_4 (x0 x1 x2 x3 x4 x5 x6 x7 x8 x9 x10 x11 x12 x13 x14 x15 : Value) (w : World) : (Instr.index 94 (.agg #[x0, x1, x2, x3, x4, x5, x6, x7, x8, x9, x10, x11, x12, x13, x14, x15]) (.int .i64 4)).run Tryz.prog w = .ok (.agg #[x8, x9]) w := by
  simp [Instr.index, run_underlying Tryz.und_arr9, asIntOf, go_sem]
theorem idx9_5 (x0 x1 x2 x3 x4 x5 x6 x7 x8 x9 x10 x11 x12 x13 x14 x15 : Value) (w : World) : (Instr.index 94 (.agg #[x0, x1, x2, x3, x4, x5, x6, x7, x8, x9, x10, x11, x12, x13, x14, x15]) (.int .i64 5)).run Tryz.prog w = .ok (.agg #[x10, x11]) w := by
  simp [Instr.index, run_underlying Tryz.und_arr9, asIntOf, go_sem]
theorem idx9_6 (x0 x1 x2 x3 x4 x5 x6 x7 x8 x9 x10 x11 x12 x13 x14 x15 : Value) (w : World) : (Instr.index 94 (.agg #[x0, x1, x2, x3, x4, x5, x6, x7, x8, x9, x10, x11, x12, x13, x14, x15]) (.int .i64 6)).run Tryz.prog w = .ok (.agg #[x12, x13]) w := by
  simp [Instr.index, run_underlying Tryz.und_arr9, asIntOf, go_sem]
theorem idx9_7 (x0 x1 x2 x3 x4 x5 x6 x7 x8 x9 x10 x11 x12 x13 x14 x15 : Value) (w : World) : (Instr.index 94 (.agg #[x0, x1, x2, x3, x4, x5, x6, x7, x8, x9, x10, x11, x12, x13, x14, x15]) (.int .i64 7)).run Tryz.prog w = .ok (.agg #[x14, x15]) w := by
  simp [Instr.index, run_underlying Tryz.und_arr9, asIntOf, go_sem]
end Go.Proofs.YtmpakpdikkfofaaGreatDoor

/- Bins: rise. -/
namespace Go.Proofs.YtmpakpdikkfofaaGreatDoor
open Go Go.RowKit
set_option linter.unusedVariables false
set_option maxRecDepth 20000
set_option linter.unusedSimpArgs false

/-- What has gone down by d places, n bins of it. -/
def rsK (K : Nat → Int) (f : Int) (d n : Nat) : Nat → Int := fun k => if (k : Int) < f ∧ d ≤ k ∧ k - d < n then K (k - d) else 0
theorem rsK_step (K : Nat → Int) (f : Int) (d n : Nat) : putK (rsK K f d n) f ((d + n : Nat) : Int) (K n) = rsK K f d (n + 1) := by
  funext k
  unfold putK rsK
  by_cases q : k = d + n
  · subst q
    by_cases h : ((d + n : Nat) : Int) < f
    · rw [if_pos ⟨rfl, h⟩, if_neg (by omega), if_pos (by omega), show d + n - d = n by omega, Int.zero_add]
    · rw [if_neg (by omega), if_neg (by omega), if_neg (by omega)]
  · rw [if_neg (by omega)]
    by_cases h : (k : Int) < f ∧ d ≤ k ∧ k - d < n
    · rw [if_pos h, if_pos (by omega)]
    · rw [if_neg h, if_neg (by omega)]
theorem rsK_zero (K : Nat → Int) (f : Int) (d : Nat) : rsK K f d 0 = fun _ => 0 := by
  funext k; unfold rsK; rw [if_neg (by omega)]
theorem rsK_abs (K : Nat → Int) (f : Int) (d n : Nat) (hK : ∀ i, (K i).natAbs ≤ 2 ^ 75) (k : Nat) : (rsK K f d n k).natAbs ≤ 2 ^ 75 := by
  unfold rsK
  split
  · exact hK _
  · simp
theorem Bc_one (f c T : Int) (K : Nat → Int) : (Bc f c T K).toArray.all (·.oneCell') = true := by
  unfold Bc; simp [Value.oneCell']
theorem Tryz.row_bins9 : ∃ d : TypeDesc, Tryz.prog.underlying 96 = some d ∧ d.isRow = true := by
  have h : (Tryz.prog.underlying 96).any (·.isRow) = true := by kernel_rfl
  obtain ⟨d, h1, h2⟩ := (Option.any_eq_true _ _).1 h
  exact ⟨d, h1, h2⟩
theorem Tryz.row_arr9 : ∃ d : TypeDesc, Tryz.prog.underlying 94 = some d ∧ d.isRow = true := by
  have h : (Tryz.prog.underlying 94).any (·.isRow) = true := by kernel_rfl
  obtain ⟨d, h1, h2⟩ := (Option.any_eq_true _ _).1 h
  exact ⟨d, h1, h2⟩
theorem Tryz.size_bins9 : (Tryz.prog.info? 96).map (·.size) = some 19 := by kernel_rfl
theorem Tryz.size_arr9 : (Tryz.prog.info? 94).map (·.size) = some 16 := by kernel_rfl

set_option maxHeartbeats 1000000 in
theorem rise_no (g : Nat) (f c T J : Int) (K : Nat → Int) (w : World) (hB : Bn w g f c T K) (h : J ≤ T) :
    Calls Tryz.prog 63 #[.pointer (some ⟨g, 0, none⟩), .int .i64 J] w fun r w' => r = .returned (.tuple #[]) ∧ w' = w := by
  have k2 := Bl.cell hB 2 _ rfl
  have hd : decide (J ≤ T) = true := by simp; omega
  clear hB
  go_enter Tryz.func63, Tryz.ntmps63
  go_wp2
  first
  | (go_end0; exact ⟨rfl, rfl⟩)
  | exact bodyPost_ret (v := .tuple #[]) (by simp [results, Tryz.results63, go_sem]) rfl ⟨rfl, rfl⟩
attribute [local go_sem] idx9_0 idx9_1 idx9_2 idx9_3 idx9_4 idx9_5 idx9_6 idx9_7 in
set_option maxHeartbeats 400000 in
theorem rise_yes (g d : Nat) (f c T J : Int) (K : Nat → Int) (w : World) (hB : Bn w g f c T K) (hd : J = T + d) (hd0 : 0 < d) (hf : f ≤ 8) (h1 : -100 ≤ T ∧ T ≤ 1000) (h2 : -100 ≤ J ∧ J ≤ 1000) (hK : ∀ i, (K i).natAbs ≤ 2 ^ 75) :
    Calls Tryz.prog 63 #[.pointer (some ⟨g, 0, none⟩), .int .i64 J] w fun r w' => r = .returned (.tuple #[]) ∧ Bn w' g f c J (rsK K f d 8) ∧ But g w w' := by
  have HP : ∀ n : Nat, n < 8 → Hid (∀ u, Bn u g f c J (rsK K f d n) → Calls Tryz.prog 64 #[.pointer (some ⟨g, 0, none⟩), .int .i64 (T - n), .agg #[.int .i64 (K n / 4294967296), .int .i64 (K n % 4294967296)]] u fun r w' => r = .returned (.tuple #[]) ∧ Bn w' g f c J (rsK K f d (n + 1)) ∧ But g u w') := by
    intro n hn
    refine hid (fun u hu => ?_)
    have := put_any g f c J (T - n) (K n) (rsK K f d n) u hu hf (by omega) (by omega) (by omega) (rsK_abs K f d n hK) (hK n)
    rw [show J - (T - n) = ((d + n : Nat) : Int) by omega, rsK_step] at this
    exact this
  have P0 : Hid (∀ u, Bn u g f c J (rsK K f d 0) → Calls Tryz.prog 64 #[.pointer (some ⟨g, 0, none⟩), .int .i64 T, .agg #[.int .i64 (K 0 / 4294967296), .int .i64 (K 0 % 4294967296)]] u fun r w' => r = .returned (.tuple #[]) ∧ Bn w' g f c J (rsK K f d 1) ∧ But g u w') := by
    have := HP 0 (by omega)
    rw [show T - ((0 : Nat) : Int) = T by omega] at this
    exact this
  have P1 : Hid (∀ u, Bn u g f c J (rsK K f d 1) → Calls Tryz.prog 64 #[.pointer (some ⟨g, 0, none⟩), .int .i64 (T - 1), .agg #[.int .i64 (K 1 / 4294967296), .int .i64 (K 1 % 4294967296)]] u fun r w' => r = .returned (.tuple #[]) ∧ Bn w' g f c J (rsK K f d 2) ∧ But g u w') := HP 1 (by omega)
  have P2 : Hid (∀ u, Bn u g f c J (rsK K f d 2) → Calls Tryz.prog 64 #[.pointer (some ⟨g, 0, none⟩), .int .i64 (T - 2), .agg #[.int .i64 (K 2 / 4294967296), .int .i64 (K 2 % 4294967296)]] u fun r w' => r = .returned (.tuple #[]) ∧ Bn w' g f c J (rsK K f d 3) ∧ But g u w') := HP 2 (by omega)
  have P3 : Hid (∀ u, Bn u g f c J (rsK K f d 3) → Calls Tryz.prog 64 #[.pointer (some ⟨g, 0, none⟩), .int .i64 (T - 3), .agg #[.int .i64 (K 3 / 4294967296), .int .i64 (K 3 % 4294967296)]] u fun r w' => r = .returned (.tuple #[]) ∧ Bn w' g f c J (rsK K f d 4) ∧ But g u w') := HP 3 (by omega)
  have P4 : Hid (∀ u, Bn u g f c J (rsK K f d 4) → Calls Tryz.prog 64 #[.pointer (some ⟨g, 0, none⟩), .int .i64 (T - 4), .agg #[.int .i64 (K 4 / 4294967296), .int .i64 (K 4 % 4294967296)]] u fun r w' => r = .returned (.tuple #[]) ∧ Bn w' g f c J (rsK K f d 5) ∧ But g u w') := HP 4 (by omega)
  have P5 : Hid (∀ u, Bn u g f c J (rsK K f d 5) → Calls Tryz.prog 64 #[.pointer (some ⟨g, 0, none⟩), .int .i64 (T - 5), .agg #[.int .i64 (K 5 / 4294967296), .int .i64 (K 5 % 4294967296)]] u fun r w' => r = .returned (.tuple #[]) ∧ Bn w' g f c J (rsK K f d 6) ∧ But g u w') := HP 5 (by omega)
  have P6 : Hid (∀ u, Bn u g f c J (rsK K f d 6) → Calls Tryz.prog 64 #[.pointer (some ⟨g, 0, none⟩), .int .i64 (T - 6), .agg #[.int .i64 (K 6 / 4294967296), .int .i64 (K 6 % 4294967296)]] u fun r w' => r = .returned (.tuple #[]) ∧ Bn w' g f c J (rsK K f d 7) ∧ But g u w') := HP 6 (by omega)
  have P7 : Hid (∀ u, Bn u g f c J (rsK K f d 7) → Calls Tryz.prog 64 #[.pointer (some ⟨g, 0, none⟩), .int .i64 (T - 7), .agg #[.int .i64 (K 7 / 4294967296), .int .i64 (K 7 % 4294967296)]] u fun r w' => r = .returned (.tuple #[]) ∧ Bn w' g f c J (rsK K f d 8) ∧ But g u w') := HP 7 (by omega)
  clear HP
  have hdn : decide (J ≤ T) = false := by simp; omega
  have hl := Bl.lt hB
  obtain ⟨db, hdb⟩ := Tryz.row_bins9
  have HD := Aside.intro hdb
  obtain ⟨da, hda⟩ := Tryz.row_arr9
  have HE := Aside.intro hda
  clear hdb hda
  have k2 := Bl.cell hB 2 _ rfl
  have HR : Aside (w.rangeAt g 0 (Bc f c T K)) := Bl.range hB 0 _ (fun j v hv => by rw [Nat.zero_add]; exact hv)
  have HS : Aside ((Tryz.prog.info? 96).map (·.size) = some (Bc f c T K).length) := Tryz.size_bins9
  have HZ : Aside (Bl (w.alloc (Obj.cells #[.int .i64 0, .int .i64 0, .int .i64 0, .int .i64 0, .int .i64 0, .int .i64 0, .int .i64 0, .int .i64 0, .int .i64 0, .int .i64 0, .int .i64 0, .int .i64 0, .int .i64 0, .int .i64 0, .int .i64 0, .int .i64 0, .int .i64 0, .int .i64 0, .int .i64 0] 96)) w.heap.size 96 [.int .i64 0, .int .i64 0, .int .i64 0, .int .i64 0, .int .i64 0, .int .i64 0, .int .i64 0, .int .i64 0, .int .i64 0, .int .i64 0, .int .i64 0, .int .i64 0, .int .i64 0, .int .i64 0, .int .i64 0, .int .i64 0, .int .i64 0, .int .i64 0, .int .i64 0]) := Bl.new w 96 [.int .i64 0, .int .i64 0, .int .i64 0, .int .i64 0, .int .i64 0, .int .i64 0, .int .i64 0, .int .i64 0, .int .i64 0, .int .i64 0, .int .i64 0, .int .i64 0, .int .i64 0, .int .i64 0, .int .i64 0, .int .i64 0, .int .i64 0, .int .i64 0, .int .i64 0]
  have HT : Aside ((w.alloc (Obj.cells #[.int .i64 0, .int .i64 0, .int .i64 0, .int .i64 0, .int .i64 0, .int .i64 0, .int .i64 0, .int .i64 0, .int .i64 0, .int .i64 0, .int .i64 0, .int .i64 0, .int .i64 0, .int .i64 0, .int .i64 0, .int .i64 0, .int .i64 0, .int .i64 0, .int .i64 0] 96)).there w.heap.size 0 (Bc f c T K).toArray.size) := Aside.intro (HZ.out.there 0 19 (Nat.le_refl 19))
  have HO := Aside.intro (Bc_one f c T K)
  have HS2 : Aside ((Tryz.prog.info? 96).map (·.size) = some (Bc f c T K).toArray.size) := Tryz.size_bins9
  obtain ⟨W1, hW1⟩ : ∃ W1, W1 = (w.alloc (Obj.cells #[.int .i64 0, .int .i64 0, .int .i64 0, .int .i64 0, .int .i64 0, .int .i64 0, .int .i64 0, .int .i64 0, .int .i64 0, .int .i64 0, .int .i64 0, .int .i64 0, .int .i64 0, .int .i64 0, .int .i64 0, .int .i64 0, .int .i64 0, .int .i64 0, .int .i64 0] 96)).setCells w.heap.size 0 (Bc f c T K).toArray.toList := ⟨_, rfl⟩
  have HW1 := Aside.intro hW1
  have HA1 : Aside (Bl W1 w.heap.size 96 (Bc f c T K) ∧ Bl W1 g 96 (Bc f c T K) ∧ Below w.heap.size w W1) := by
    subst hW1
    have hbut : But w.heap.size (w.alloc (Obj.cells #[.int .i64 0, .int .i64 0, .int .i64 0, .int .i64 0, .int .i64 0, .int .i64 0, .int .i64 0, .int .i64 0, .int .i64 0, .int .i64 0, .int .i64 0, .int .i64 0, .int .i64 0, .int .i64 0, .int .i64 0, .int .i64 0, .int .i64 0, .int .i64 0, .int .i64 0] 96)) ((w.alloc (Obj.cells #[.int .i64 0, .int .i64 0, .int .i64 0, .int .i64 0, .int .i64 0, .int .i64 0, .int .i64 0, .int .i64 0, .int .i64 0, .int .i64 0, .int .i64 0, .int .i64 0, .int .i64 0, .int .i64 0, .int .i64 0, .int .i64 0, .int .i64 0, .int .i64 0, .int .i64 0] 96)).setCells w.heap.size 0 (Bc f c T K).toArray.toList) := But.setCells _ _ (But.refl _ _)
    refine ⟨HZ.out.setAll (vs := Bc f c T K) rfl, (Bl.alloc hB _).but hbut (by omega), But.below (bel_alloc w _) hbut (by simp) (Nat.le_refl _)⟩
  have o0 := HA1.out.1.cell 0 _ rfl
  have o1 := HA1.out.1.cell 1 _ rfl
  have HT2 : Aside (W1.there g 0 (#[.int .i64 f, .int .i64 c, .int .i64 J, .int .i64 0, .int .i64 0, .int .i64 0, .int .i64 0, .int .i64 0, .int .i64 0, .int .i64 0, .int .i64 0, .int .i64 0, .int .i64 0, .int .i64 0, .int .i64 0, .int .i64 0, .int .i64 0, .int .i64 0, .int .i64 0] : Array Value).size) := Aside.intro (HA1.out.2.1.there 0 19 (Nat.le_refl 19))
  have HO2 : Aside ((#[.int .i64 f, .int .i64 c, .int .i64 J, .int .i64 0, .int .i64 0, .int .i64 0, .int .i64 0, .int .i64 0, .int .i64 0, .int .i64 0, .int .i64 0, .int .i64 0, .int .i64 0, .int .i64 0, .int .i64 0, .int .i64 0, .int .i64 0, .int .i64 0, .int .i64 0] : Array Value).all (·.oneCell') = true) := Aside.intro (by simp [Value.oneCell'])
  have HS3 : Aside ((Tryz.prog.info? 96).map (·.size) = some (#[.int .i64 f, .int .i64 c, .int .i64 J, .int .i64 0, .int .i64 0, .int .i64 0, .int .i64 0, .int .i64 0, .int .i64 0, .int .i64 0, .int .i64 0, .int .i64 0, .int .i64 0, .int .i64 0, .int .i64 0, .int .i64 0, .int .i64 0, .int .i64 0, .int .i64 0] : Array Value).size) := Tryz.size_bins9
  obtain ⟨W2, hW2⟩ : ∃ W2, W2 = W1.setCells g 0 (#[.int .i64 f, .int .i64 c, .int .i64 J, .int .i64 0, .int .i64 0, .int .i64 0, .int .i64 0, .int .i64 0, .int .i64 0, .int .i64 0, .int .i64 0, .int .i64 0, .int .i64 0, .int .i64 0, .int .i64 0, .int .i64 0, .int .i64 0, .int .i64 0, .int .i64 0] : Array Value).toList := ⟨_, rfl⟩
  have HW2 := Aside.intro hW2
  have HA2 : Aside (Bl W2 w.heap.size 96 (Bc f c T K) ∧ Bn W2 g f c J (rsK K f d 0) ∧ But g w W2) := by
    have hbut : But g W1 W2 := by rw [hW2]; exact But.setCells _ _ (But.refl _ _)
    refine ⟨HA1.out.1.but hbut (by omega), ?_, ((But.refl g w).of_bel9 HA1.out.2.2).trans hbut⟩
    · rw [rsK_zero, hW2]
      exact HA1.out.2.1.setAll (vs := [.int .i64 f, .int .i64 c, .int .i64 J, .int .i64 0, .int .i64 0, .int .i64 0, .int .i64 0, .int .i64 0, .int .i64 0, .int .i64 0, .int .i64 0, .int .i64 0, .int .i64 0, .int .i64 0, .int .i64 0, .int .i64 0, .int .i64 0, .int .i64 0, .int .i64 0]) rfl
  have HR2 : Aside (W2.rangeAt w.heap.size 3 [.int .i64 (K 0 / 4294967296), .int .i64 (K 0 % 4294967296), .int .i64 (K 1 / 4294967296), .int .i64 (K 1 % 4294967296), .int .i64 (K 2 / 4294967296), .int .i64 (K 2 % 4294967296), .int .i64 (K 3 / 4294967296), .int .i64 (K 3 % 4294967296), .int .i64 (K 4 / 4294967296), .int .i64 (K 4 % 4294967296), .int .i64 (K 5 / 4294967296), .int .i64 (K 5 % 4294967296), .int .i64 (K 6 / 4294967296), .int .i64 (K 6 % 4294967296), .int .i64 (K 7 / 4294967296), .int .i64 (K 7 % 4294967296)]) := Aside.intro (HA2.out.1.range 3 _ (fun j v hv => by
    have e : (Bc f c T K)[3 + j]? = ([.int .i64 (K 0 / 4294967296), .int .i64 (K 0 % 4294967296), .int .i64 (K 1 / 4294967296), .int .i64 (K 1 % 4294967296), .int .i64 (K 2 / 4294967296), .int .i64 (K 2 % 4294967296), .int .i64 (K 3 / 4294967296), .int .i64 (K 3 % 4294967296), .int .i64 (K 4 / 4294967296), .int .i64 (K 4 % 4294967296), .int .i64 (K 5 / 4294967296), .int .i64 (K 5 % 4294967296), .int .i64 (K 6 / 4294967296), .int .i64 (K 6 % 4294967296), .int .i64 (K 7 / 4294967296), .int .i64 (K 7 % 4294967296)] : List Value)[j]? := by rw [Nat.add_comm]; rfl
    rw [e]; exact hv))
  have HS4 : Aside ((Tryz.prog.info? 94).map (·.size) = some ([.int .i64 (K 0 / 4294967296), .int .i64 (K 0 % 4294967296), .int .i64 (K 1 / 4294967296), .int .i64 (K 1 % 4294967296), .int .i64 (K 2 / 4294967296), .int .i64 (K 2 % 4294967296), .int .i64 (K 3 / 4294967296), .int .i64 (K 3 % 4294967296), .int .i64 (K 4 / 4294967296), .int .i64 (K 4 % 4294967296), .int .i64 (K 5 / 4294967296), .int .i64 (K 5 % 4294967296), .int .i64 (K 6 / 4294967296), .int .i64 (K 6 % 4294967296), .int .i64 (K 7 / 4294967296), .int .i64 (K 7 % 4294967296)] : List Value).length) := Tryz.size_arr9
  have HJ := Aside.intro hd
  have HBw := Aside.intro hB
  clear hB hd hW1 hW2
  go_enter Tryz.func63, Tryz.ntmps63
  go_wp2_with (first
    | ((with_reducible refine wpList_load_mid (P := Tryz.prog) rfl 96 (.tmp 14) rfl g 0 rfl (Bc f c T K) db HR.out HD.out.1 HD.out.2 HS.out ?_))
    | ((with_reducible refine wpList_store_mid (P := Tryz.prog) rfl 96 (.tmp 4) (.tmp 15) rfl w.heap.size 0 (Bc f c T K).toArray rfl rfl HT.out HS2.out HO.out ?_); rw [← HW1.out])
    | ((with_reducible refine wpList_store_mid (P := Tryz.prog) rfl 96 (.tmp 23) (.tmp 22) rfl g 0 (#[.int .i64 f, .int .i64 c, .int .i64 J, .int .i64 0, .int .i64 0, .int .i64 0, .int .i64 0, .int .i64 0, .int .i64 0, .int .i64 0, .int .i64 0, .int .i64 0, .int .i64 0, .int .i64 0, .int .i64 0, .int .i64 0, .int .i64 0, .int .i64 0, .int .i64 0] : Array Value) rfl rfl HT2.out HS3.out HO2.out ?_); rw [← HW2.out])
    | ((with_reducible refine wpList_load_mid (P := Tryz.prog) rfl 94 (.tmp 24) rfl w.heap.size 3 rfl [.int .i64 (K 0 / 4294967296), .int .i64 (K 0 % 4294967296), .int .i64 (K 1 / 4294967296), .int .i64 (K 1 % 4294967296), .int .i64 (K 2 / 4294967296), .int .i64 (K 2 % 4294967296), .int .i64 (K 3 / 4294967296), .int .i64 (K 3 % 4294967296), .int .i64 (K 4 / 4294967296), .int .i64 (K 4 % 4294967296), .int .i64 (K 5 / 4294967296), .int .i64 (K 5 % 4294967296), .int .i64 (K 6 / 4294967296), .int .i64 (K 6 % 4294967296), .int .i64 (K 7 / 4294967296), .int .i64 (K 7 % 4294967296)] da HR2.out HE.out.1 HE.out.2 HS4.out ?_)))
  clear HR HS HZ HT HO HS2 HW1 HA1 o0 o1 HT2 HO2 HS3 HW2 HR2 HS4 HBw HD HE k2 hdn W1
  refine wp_loop_rounds 9 ?_
  obtain ⟨u0, hu0⟩ : ∃ u0, u0 = W2 := ⟨_, rfl⟩
  rw [← hu0] at HA2 ⊢
  clear hu0 W2
  have hlt : w.heap.size < u0.heap.size := HA2.out.1.lt
  have kT := HA2.out.1.cell 2 _ rfl
  have kA := (HA2.out.1.alloc (.cells #[.int .i64 (K 0 / 4294967296), .int .i64 (K 0 % 4294967296)] 93)).cell 2 _ rfl
  rw [rounds_succ]
  go_wp2_with fail
  with_reducible refine (P0.out _ (HA2.out.2.1.alloc _)).mono ?_
  rintro r u1 ⟨rfl, hB, hbut⟩
  have HAz1 : Aside (Bl u1 w.heap.size 96 (Bc f c T K) ∧ Bn u1 g f c J (rsK K f d 1) ∧ But g w u1) := ⟨(HA2.out.1.alloc _).but hbut (by omega), hB, (HA2.out.2.2.alloc _).trans hbut⟩
  clear hB hbut hlt kT kA HA2 P0
  go_wp2_with fail
  have hlt : w.heap.size < u1.heap.size := HAz1.out.1.lt
  have kT := HAz1.out.1.cell 2 _ rfl
  have kA := (HAz1.out.1.alloc (.cells #[.int .i64 (K 1 / 4294967296), .int .i64 (K 1 % 4294967296)] 93)).cell 2 _ rfl
  rw [rounds_succ]
  go_wp2_with fail
  with_reducible refine (P1.out _ (HAz1.out.2.1.alloc _)).mono ?_
  rintro r u2 ⟨rfl, hB, hbut⟩
  have HAz2 : Aside (Bl u2 w.heap.size 96 (Bc f c T K) ∧ Bn u2 g f c J (rsK K f d 2) ∧ But g w u2) := ⟨(HAz1.out.1.alloc _).but hbut (by omega), hB, (HAz1.out.2.2.alloc _).trans hbut⟩
  clear hB hbut hlt kT kA HAz1 P1
  go_wp2_with fail
  have hlt : w.heap.size < u2.heap.size := HAz2.out.1.lt
  have kT := HAz2.out.1.cell 2 _ rfl
  have kA := (HAz2.out.1.alloc (.cells #[.int .i64 (K 2 / 4294967296), .int .i64 (K 2 % 4294967296)] 93)).cell 2 _ rfl
  rw [rounds_succ]
  go_wp2_with fail
  with_reducible refine (P2.out _ (HAz2.out.2.1.alloc _)).mono ?_
  rintro r u3 ⟨rfl, hB, hbut⟩
  have HAz3 : Aside (Bl u3 w.heap.size 96 (Bc f c T K) ∧ Bn u3 g f c J (rsK K f d 3) ∧ But g w u3) := ⟨(HAz2.out.1.alloc _).but hbut (by omega), hB, (HAz2.out.2.2.alloc _).trans hbut⟩
  clear hB hbut hlt kT kA HAz2 P2
  go_wp2_with fail
  have hlt : w.heap.size < u3.heap.size := HAz3.out.1.lt
  have kT := HAz3.out.1.cell 2 _ rfl
  have kA := (HAz3.out.1.alloc (.cells #[.int .i64 (K 3 / 4294967296), .int .i64 (K 3 % 4294967296)] 93)).cell 2 _ rfl
  rw [rounds_succ]
  go_wp2_with fail
  with_reducible refine (P3.out _ (HAz3.out.2.1.alloc _)).mono ?_
  rintro r u4 ⟨rfl, hB, hbut⟩
  have HAz4 : Aside (Bl u4 w.heap.size 96 (Bc f c T K) ∧ Bn u4 g f c J (rsK K f d 4) ∧ But g w u4) := ⟨(HAz3.out.1.alloc _).but hbut (by omega), hB, (HAz3.out.2.2.alloc _).trans hbut⟩
  clear hB hbut hlt kT kA HAz3 P3
  go_wp2_with fail
  have hlt : w.heap.size < u4.heap.size := HAz4.out.1.lt
  have kT := HAz4.out.1.cell 2 _ rfl
  have kA := (HAz4.out.1.alloc (.cells #[.int .i64 (K 4 / 4294967296), .int .i64 (K 4 % 4294967296)] 93)).cell 2 _ rfl
  rw [rounds_succ]
  go_wp2_with fail
  with_reducible refine (P4.out _ (HAz4.out.2.1.alloc _)).mono ?_
  rintro r u5 ⟨rfl, hB, hbut⟩
  have HAz5 : Aside (Bl u5 w.heap.size 96 (Bc f c T K) ∧ Bn u5 g f c J (rsK K f d 5) ∧ But g w u5) := ⟨(HAz4.out.1.alloc _).but hbut (by omega), hB, (HAz4.out.2.2.alloc _).trans hbut⟩
  clear hB hbut hlt kT kA HAz4 P4
  go_wp2_with fail
  have hlt : w.heap.size < u5.heap.size := HAz5.out.1.lt
  have kT := HAz5.out.1.cell 2 _ rfl
  have kA := (HAz5.out.1.alloc (.cells #[.int .i64 (K 5 / 4294967296), .int .i64 (K 5 % 4294967296)] 93)).cell 2 _ rfl
  rw [rounds_succ]
  go_wp2_with fail
  with_reducible refine (P5.out _ (HAz5.out.2.1.alloc _)).mono ?_
  rintro r u6 ⟨rfl, hB, hbut⟩
  have HAz6 : Aside (Bl u6 w.heap.size 96 (Bc f c T K) ∧ Bn u6 g f c J (rsK K f d 6) ∧ But g w u6) := ⟨(HAz5.out.1.alloc _).but hbut (by omega), hB, (HAz5.out.2.2.alloc _).trans hbut⟩
  clear hB hbut hlt kT kA HAz5 P5
  go_wp2_with fail
  have hlt : w.heap.size < u6.heap.size := HAz6.out.1.lt
  have kT := HAz6.out.1.cell 2 _ rfl
  have kA := (HAz6.out.1.alloc (.cells #[.int .i64 (K 6 / 4294967296), .int .i64 (K 6 % 4294967296)] 93)).cell 2 _ rfl
  rw [rounds_succ]
  go_wp2_with fail
  with_reducible refine (P6.out _ (HAz6.out.2.1.alloc _)).mono ?_
  rintro r u7 ⟨rfl, hB, hbut⟩
  have HAz7 : Aside (Bl u7 w.heap.size 96 (Bc f c T K) ∧ Bn u7 g f c J (rsK K f d 7) ∧ But g w u7) := ⟨(HAz6.out.1.alloc _).but hbut (by omega), hB, (HAz6.out.2.2.alloc _).trans hbut⟩
  clear hB hbut hlt kT kA HAz6 P6
  go_wp2_with fail
  have hlt : w.heap.size < u7.heap.size := HAz7.out.1.lt
  have kT := HAz7.out.1.cell 2 _ rfl
  have kA := (HAz7.out.1.alloc (.cells #[.int .i64 (K 7 / 4294967296), .int .i64 (K 7 % 4294967296)] 93)).cell 2 _ rfl
  rw [rounds_succ]
  go_wp2_with fail
  with_reducible refine (P7.out _ (HAz7.out.2.1.alloc _)).mono ?_
  rintro r u8 ⟨rfl, hB, hbut⟩
  have HAz8 : Aside (Bl u8 w.heap.size 96 (Bc f c T K) ∧ Bn u8 g f c J (rsK K f d 8) ∧ But g w u8) := ⟨(HAz7.out.1.alloc _).but hbut (by omega), hB, (HAz7.out.2.2.alloc _).trans hbut⟩
  clear hB hbut hlt kT kA HAz7 P7
  go_wp2_with fail
  rw [rounds_succ]
  go_wp2
  go_end0
  exact ⟨rfl, HAz8.out.2.1, HAz8.out.2.2⟩
/-- rise: the top, and what stands where. -/
theorem rise_any (g : Nat) (f c T J : Int) (K : Nat → Int) (w : World) (hB : Bn w g f c T K) (hf : f ≤ 8) (h1 : -100 ≤ T ∧ T ≤ 1000) (h2 : -100 ≤ J ∧ J ≤ 1000) (hK : ∀ i, (K i).natAbs ≤ 2 ^ 75) :
    Calls Tryz.prog 63 #[.pointer (some ⟨g, 0, none⟩), .int .i64 J] w fun r w' => r = .returned (.tuple #[]) ∧ ((J ≤ T ∧ w' = w) ∨ (T < J ∧ Bn w' g f c J (rsK K f (J - T).toNat 8))) ∧ But g w w' := by
  by_cases h : J ≤ T
  · refine (rise_no g f c T J K w hB h).mono ?_
    rintro r w' ⟨rfl, rfl⟩
    exact ⟨rfl, .inl ⟨h, rfl⟩, But.refl _ _⟩
  · refine (rise_yes g (J - T).toNat f c T J K w hB (by omega) (by omega) hf h1 h2 hK).mono ?_
    rintro r w' ⟨rfl, h3, h4⟩
    exact ⟨rfl, .inr ⟨by omega, h3⟩, h4⟩
end Go.Proofs.YtmpakpdikkfofaaGreatDoor

/- Bins by what they count: rise, put, the closure that is handed on. -/
namespace Go.Proofs.YtmpakpdikkfofaaGreatDoor
open Go Go.RowKit
set_option linter.unusedVariables false
set_option maxRecDepth 20000
set_option linter.unusedSimpArgs false

/-- Bins: fold, count, top (from the lowest bin on; -1: none), and what each bin counts. -/
def Bs (w : World) (g f : Nat) (c T : Int) (D : Int → Int) : Prop := Bn w g f c (T - 34) (kf f T D)
theorem Bs.lt {w : World} {g f : Nat} {c T : Int} {D : Int → Int} (h : Bs w g f c T D) : g < w.heap.size := Bl.lt h
theorem Bs.alloc {w : World} {g f : Nat} {c T : Int} {D : Int → Int} (h : Bs w g f c T D) (o : Obj) : Bs (w.alloc o) g f c T D := Bl.alloc h o
theorem Bs.drew {w : World} {g f : Nat} {c T : Int} {D : Int → Int} (h : Bs w g f c T D) : Bs w.drew g f c T D := h
theorem Bs.below {w w' : World} {g B f : Nat} {c T : Int} {D : Int → Int} (h : Bs w g f c T D) (hb : Below B w w') (hg : g < B) : Bs w' g f c T D := Bl.below h hb hg
theorem Bs.but {w w' : World} {g g' f : Nat} {c T : Int} {D : Int → Int} (h : Bs w g f c T D) (hb : But g' w w') (hg : g ≠ g') : Bs w' g f c T D := Bl.but h hb hg
/-- What may stand in bins. -/
structure Dq (T : Int) (D : Int → Int) : Prop where
  top : ∀ t, T < t → D t = 0
  abs : ∀ t, (D t).natAbs ≤ 2 ^ 74
  lo : -1 ≤ T
  hi : T ≤ 70
theorem kf_abs {T : Int} {D : Int → Int} (h : Dq T D) (f : Nat) (i : Nat) : (kf f T D i).natAbs ≤ 2 ^ 75 := by
  unfold kf
  split
  · have := h.abs (T - i); omega
  · simp
theorem kf_rise {T J : Int} {D : Int → Int} (h : Dq T D) (f : Nat) (hf : f ≤ 8) (hJ : T < J) : rsK (kf f T D) f (J - T).toNat 8 = kf f J D := by
  funext k
  unfold rsK kf
  by_cases h1 : k < f
  · rw [if_pos h1]
    by_cases h2 : (J - T).toNat ≤ k
    · rw [if_pos (by omega), if_pos (by omega)]
      congr 1; omega
    · rw [if_neg (by omega), h.top _ (by omega)]
  · rw [if_neg (by omega), if_neg h1]
theorem kf_put (f : Nat) (T j v : Int) (D : Int → Int) (hj : j ≤ T) : putK (kf f T D) f (T - j) v = kf f T (upd D j v) := by
  funext k
  unfold putK kf upd
  by_cases h1 : k < f
  · rw [if_pos h1, if_pos h1]
    by_cases h2 : (k : Int) = T - j
    · rw [if_pos (by omega), if_pos (by omega)]
    · rw [if_neg (by omega), if_neg (by omega)]
  · rw [if_neg h1, if_neg h1, if_neg (by omega)]
theorem rise_abs (g f : Nat) (c T J : Int) (D : Int → Int) (w : World) (hB : Bs w g f c T D) (hD : Dq T D) (hf : f ≤ 8) (h2 : -60 ≤ J ∧ J ≤ 1000) :
    Calls Tryz.prog 63 #[.pointer (some ⟨g, 0, none⟩), .int .i64 (J - 34)] w fun r w' => r = .returned (.tuple #[]) ∧ Bs w' g f c (max T J) D ∧ But g w w' := by
  refine (rise_any g f c (T - 34) (J - 34) (kf f T D) w hB (by omega) (by have := hD.lo; have := hD.hi; omega) (by omega) (kf_abs hD f)).mono ?_
  rintro r w' ⟨rfl, h, hb⟩
  refine ⟨rfl, ?_, hb⟩
  rcases h with ⟨h, rfl⟩ | ⟨h, h3⟩
  · rw [show max T J = T by omega]; exact hB
  · rw [show J - 34 - (T - 34) = J - T by omega, kf_rise hD f hf (by omega)] at h3
    rw [show max T J = J by omega]; exact h3
theorem put_abs (g f : Nat) (c T j v : Int) (D : Int → Int) (w : World) (hB : Bs w g f c T D) (hD : ∀ t, (D t).natAbs ≤ 2 ^ 74) (hT : -1 ≤ T ∧ T ≤ 70) (hf : f ≤ 8) (hj : j ≤ T) (h2 : -60 ≤ j) (hv : v.natAbs ≤ 2 ^ 74) :
    Calls Tryz.prog 64 #[.pointer (some ⟨g, 0, none⟩), .int .i64 (j - 34), .agg #[.int .i64 (v / 4294967296), .int .i64 (v % 4294967296)]] w fun r w' => r = .returned (.tuple #[]) ∧ Bs w' g f c T (upd D j v) ∧ But g w w' := by
  have := put_any g f c (T - 34) (j - 34) v (kf f T D) w hB (by omega) (by omega) (by omega) (by omega) (fun i => by unfold kf; split; (have := hD (T - i); omega); simp) (by omega)
  rw [show T - 34 - (j - 34) = T - j by omega, kf_put f T j v D hj] at this
  exact this

set_option maxHeartbeats 400000 in
theorem hand_core (g h : Nat) (j x y : Int) (w : World) (hh : h < w.heap.size) (hg : g < w.heap.size) (hne : h ≠ g) (hc : w.cell? ⟨h, 0, none⟩ = some (.pointer (some ⟨g, 0, none⟩))) (Q : World → Prop)
    (HR : Hid (∃ R : World → Prop, Calls Tryz.prog 63 #[.pointer (some ⟨g, 0, none⟩), .int .i64 j] (w.alloc (.cells #[.int .i64 x, .int .i64 y] 93)) (fun r w' => r = .returned (.tuple #[]) ∧ R w' ∧ But g (w.alloc (.cells #[.int .i64 x, .int .i64 y] 93)) w') ∧
      ∀ u, R u → But g (w.alloc (.cells #[.int .i64 x, .int .i64 y] 93)) u → Calls Tryz.prog 64 #[.pointer (some ⟨g, 0, none⟩), .int .i64 j, .agg #[.int .i64 x, .int .i64 y]] u fun r w' => r = .returned (.tuple #[]) ∧ Q w')) :
    Calls Tryz.prog 62 #[.int .i64 j, .agg #[.int .i64 x, .int .i64 y], .pointer (some ⟨h, 0, none⟩)] w fun r w' => r = .returned (.tuple #[]) ∧ Q w' := by
  obtain ⟨R, h1, h2⟩ := HR.out
  have H1 := hid h1
  have H2 := hid h2
  have hB0 : Aside (Bl (w.alloc (.cells #[.int .i64 x, .int .i64 y] 93)) w.heap.size 93 [.int .i64 x, .int .i64 y]) := Bl.new w 93 [_, _]
  have HG := Aside.intro (And.intro hh (And.intro hg (And.intro hne hc)))
  clear h1 h2 HR
  go_enter Tryz.func62, Tryz.ntmps62
  go_wp2_with fail
  with_reducible refine H1.out.mono ?_
  rintro r u ⟨rfl, hR, hbut⟩
  have HU := Aside.intro (And.intro hR hbut)
  have c0 : u.cell? ⟨h, 0, none⟩ = some (.pointer (some ⟨g, 0, none⟩)) := by
    have e1 : u.heap[h]? = (w.alloc (.cells #[.int .i64 x, .int .i64 y] 93)).heap[h]? := hbut.block h (by simp; omega) hne
    have e2 : (w.alloc (.cells #[.int .i64 x, .int .i64 y] 93)).heap[h]? = w.heap[h]? := (bel_alloc w _).block h hh
    have e3 : u.cell? ⟨h, 0, none⟩ = w.cell? ⟨h, 0, none⟩ := by unfold World.cell?; simp only; rw [e1, e2]
    rw [e3]; exact hc
  have b1 := hB0.out.but hbut (by omega)
  have c1 := b1.cell 0 _ rfl
  have c2 := b1.cell 1 _ rfl
  clear b1 hR hbut hc
  go_wp2_with fail
  with_reducible refine (H2.out _ HU.out.1 HU.out.2).mono ?_
  rintro r u2 ⟨rfl, hQ⟩
  go_wp2
  go_end0
  exact ⟨rfl, hQ⟩
/-- What the closure does that eachSlice is handed. -/
theorem hand_any (g h f : Nat) (c T j v : Int) (D : Int → Int) (w : World) (hB : Bs w g f c T D) (hD : Dq T D) (hf : f ≤ 8) (hj : -34 ≤ j ∧ j ≤ 36) (hv : v.natAbs ≤ 2 ^ 74) (hh : h < w.heap.size) (hne : h ≠ g) (hc : w.cell? ⟨h, 0, none⟩ = some (.pointer (some ⟨g, 0, none⟩))) :
    Calls Tryz.prog 62 #[.int .i64 j, .agg #[.int .i64 (v / 4294967296), .int .i64 (v % 4294967296)], .pointer (some ⟨h, 0, none⟩)] w fun r w' => r = .returned (.tuple #[]) ∧ Bs w' g f c (max T (j + 34)) (upd D (j + 34) v) ∧ But g w w' := by
  refine hand_core g h j _ _ w hh hB.lt hne hc (fun w' => Bs w' g f c (max T (j + 34)) (upd D (j + 34) v) ∧ But g w w') (hid ⟨fun u => Bs u g f c (max T (j + 34)) D, ?_, ?_⟩)
  · have := rise_abs g f c T (j + 34) D _ (hB.alloc (.cells #[.int .i64 (v / 4294967296), .int .i64 (v % 4294967296)] 93)) hD hf (by omega)
    rw [show j + 34 - 34 = j by omega] at this
    exact this
  · intro u hu hb
    have := put_abs g f c (max T (j + 34)) (j + 34) v D u hu hD.abs (by have := hD.lo; have := hD.hi; omega) hf (by omega) (by omega) hv
    rw [show j + 34 - 34 = j by omega] at this
    refine this.mono ?_
    rintro r w' ⟨rfl, h1, h2⟩
    exact ⟨rfl, h1, (((But.refl g w).alloc _).trans hb).trans h2⟩
/-- A slice is handed on, if it is not nought. -/
def hnd (s : Int × (Int → Int)) (t v : Int) : Int × (Int → Int) := if v = 0 then s else (max s.1 t, upd s.2 t v)
theorem ss_ne (z : Int) (t : Nat) : ss z t ≠ 0 ↔ sl z.natAbs t ≠ 0 := by
  unfold ss
  rw [if_neg (by omega), Int.toNat_natCast]
  split <;> omega
theorem hnd_three (T : Int) (D : Int → Int) (z : Int) (t0 : Nat) (hT : -1 ≤ T) (hz : ∀ t : Int, t < t0 ∨ (t0 : Int) + 2 < t → ss z t = 0) :
    hnd (hnd (hnd (T, D) ((t0 : Int) + 2) (ss z ((t0 : Int) + 2))) ((t0 : Int) + 1) (ss z ((t0 : Int) + 1))) t0 (ss z t0) = (max T (tp z.natAbs), fun t => D t + ss z t) := by
  have hs : ∀ u : Nat, t0 + 2 < u → sl z.natAbs u = 0 := fun u hu => by
    have := hz u (.inr (by omega))
    rcases Nat.eq_zero_or_pos (sl z.natAbs u) with q | q
    · exact q
    · exact absurd this ((ss_ne z u).2 (by omega))
  have hs0 : ∀ u : Nat, u < t0 → sl z.natAbs u = 0 := fun u hu => by
    have := hz u (.inl (by omega))
    rcases Nat.eq_zero_or_pos (sl z.natAbs u) with q | q
    · exact q
    · exact absurd this ((ss_ne z u).2 (by omega))
  have e2 : ((t0 : Int) + 2) = ((t0 + 2 : Nat) : Int) := by omega
  have e1 : ((t0 : Int) + 1) = ((t0 + 1 : Nat) : Int) := by omega
  have hno : ∀ u : Nat, ¬ sl z.natAbs u ≠ 0 → sl z.natAbs u = 0 := fun u q => by omega
  have key : tp z.natAbs = if ss z ((t0 : Int) + 2) ≠ 0 then ((t0 : Int) + 2) else if ss z ((t0 : Int) + 1) ≠ 0 then ((t0 : Int) + 1) else if ss z (t0 : Int) ≠ 0 then (t0 : Int) else -1 := by
    by_cases q2 : ss z ((t0 : Int) + 2) ≠ 0
    · rw [if_pos q2, e2]
      rw [e2] at q2
      exact tp_iff _ _ ((ss_ne z _).1 q2) (fun u hu => hs u hu)
    · rw [if_neg q2]
      have z2 : sl z.natAbs (t0 + 2) = 0 := hno _ (fun q => q2 (by rw [e2]; exact (ss_ne z _).2 q))
      by_cases q1 : ss z ((t0 : Int) + 1) ≠ 0
      · rw [if_pos q1, e1]
        rw [e1] at q1
        refine tp_iff _ _ ((ss_ne z _).1 q1) (fun u hu => ?_)
        by_cases q : u = t0 + 2
        · rw [q]; exact z2
        · exact hs u (by omega)
      · rw [if_neg q1]
        have z1 : sl z.natAbs (t0 + 1) = 0 := hno _ (fun q => q1 (by rw [e1]; exact (ss_ne z _).2 q))
        by_cases q0 : ss z (t0 : Int) ≠ 0
        · rw [if_pos q0]
          refine tp_iff _ _ ((ss_ne z _).1 q0) (fun u hu => ?_)
          by_cases q : u = t0 + 2
          · rw [q]; exact z2
          · by_cases q' : u = t0 + 1
            · rw [q']; exact z1
            · exact hs u (by omega)
        · rw [if_neg q0]
          have z0 : sl z.natAbs t0 = 0 := hno _ (fun q => q0 ((ss_ne z _).2 q))
          have hall : ∀ u, sl z.natAbs u = 0 := fun u => by
            by_cases q : u = t0 + 2
            · rw [q]; exact z2
            · by_cases q' : u = t0 + 1
              · rw [q']; exact z1
              · by_cases q'' : u = t0
                · rw [q'']; exact z0
                · rcases Nat.lt_or_ge u t0 with q3 | q3
                  · exact hs0 u q3
                  · exact hs u (by omega)
          have := tp_ge z.natAbs
          by_cases q3 : tp z.natAbs = -1
          · exact q3
          · obtain ⟨u, hu⟩ : ∃ u : Nat, tp z.natAbs = u := ⟨(tp z.natAbs).toNat, by omega⟩
            exact absurd (hall u) (sl_top _ u hu)
  refine Prod.ext ?_ ?_
  · rw [key]
    unfold hnd
    by_cases q2 : ss z ((t0 : Int) + 2) = 0
    · by_cases q1 : ss z ((t0 : Int) + 1) = 0
      · by_cases q0 : ss z (t0 : Int) = 0
        · simp only [q2, q1, q0, if_true, ne_eq, not_true_eq_false, if_false]; omega
        · simp only [q2, q1, q0, if_true, ne_eq, not_true_eq_false, if_false, not_false_eq_true]
      · by_cases q0 : ss z (t0 : Int) = 0
        · simp only [q2, q1, q0, if_true, ne_eq, not_true_eq_false, if_false, not_false_eq_true]
        · simp only [q2, q1, q0, if_true, ne_eq, not_true_eq_false, if_false, not_false_eq_true]; omega
    · by_cases q1 : ss z ((t0 : Int) + 1) = 0
      · by_cases q0 : ss z (t0 : Int) = 0
        · simp only [q2, q1, q0, if_true, ne_eq, not_true_eq_false, if_false, not_false_eq_true]
        · simp only [q2, q1, q0, if_true, ne_eq, not_true_eq_false, if_false, not_false_eq_true]; omega
      · by_cases q0 : ss z (t0 : Int) = 0
        · simp only [q2, q1, q0, if_true, ne_eq, not_true_eq_false, if_false, not_false_eq_true]; omega
        · simp only [q2, q1, q0, if_true, ne_eq, not_true_eq_false, if_false, not_false_eq_true]; omega
  · have hu : ∀ (s : Int × (Int → Int)) (t v : Int), (hnd s t v).2 = fun u => if u = t then s.2 u + v else s.2 u := by
      intro s t v
      unfold hnd
      split
      · rename_i q; rw [q]; funext u; split <;> simp
      · rfl
    rw [hu, hu, hu]
    funext t
    dsimp only
    by_cases a0 : t = t0
    · subst a0; rw [if_pos rfl, if_neg (by omega), if_neg (by omega)]
    · rw [if_neg a0]
      by_cases a1 : t = (t0 : Int) + 1
      · subst a1; rw [if_pos rfl, if_neg (by omega)]
      · rw [if_neg a1]
        by_cases a2 : t = (t0 : Int) + 2
        · subst a2; rw [if_pos rfl]
        · rw [if_neg a2, hz t (by omega), Int.add_zero]
end Go.Proofs.YtmpakpdikkfofaaGreatDoor

/- Bins: eachSlice. -/
namespace Go.Proofs.YtmpakpdikkfofaaGreatDoor
open Go Go.RowKit
set_option linter.unusedVariables false
set_option maxRecDepth 20000
set_option linter.unusedSimpArgs false

/-- What stands after so many slices. -/
def est (T : Int) (D : Int → Int) (t v0 v1 v2 : Int) : Nat → Int × (Int → Int)
  | 0 => (T, D)
  | 1 => hnd (T, D) (t + 2) v0
  | 2 => hnd (hnd (T, D) (t + 2) v0) (t + 1) v1
  | _ => hnd (hnd (hnd (T, D) (t + 2) v0) (t + 1) v1) t v2
theorem Tryz.und_arr3 : Tryz.prog.underlying 137 = some (.array 3 55) := by kernel_rfl
theorem idx3_0 (x0 x1 x2 : Value) (w : World) : (Instr.index 137 (.agg #[x0, x1, x2]) (.int .i64 0)).run Tryz.prog w = .ok x0 w := by
  simp [Instr.index, run_underlying Tryz.und_arr3, asIntOf, go_sem]
theorem idx3_1 (x0 x1 x2 : Value) (w : World) : (Instr.index 137 (.agg #[x0, x1, x2]) (.int .i64 1)).run Tryz.prog w = .ok x1 w := by
  simp [Instr.index, run_underlying Tryz.und_arr3, asIntOf, go_sem]
theorem idx3_2 (x0 x1 x2 : Value) (w : World) : (Instr.index 137 (.agg #[x0, x1, x2]) (.int .i64 2)).run Tryz.prog w = .ok x2 w := by
  simp [Instr.index, run_underlying Tryz.und_arr3, asIntOf, go_sem]
def sgv (neg : Bool) (s : Nat) : Int := if neg then -(s : Int) else (s : Int)
/-- Where the loop stands. -/
structure Ei (w : World) (g f : Nat) (c T : Int) (D : Int → Int) (t v0 v1 v2 : Int) (neg : Bool) (cl e : Int) (F : Nat) (i : Nat) (u : World) : Prop where
  bs : Bs u g f c (est T D t v0 v1 v2 i).1 (est T D t v0 v1 v2 i).2
  but : But g w u
  box : Bl u w.heap.size 98 [.bool neg, .int .i64 cl, .int .i64 e, .int .u64 F]
theorem Ei.below {w : World} {g f : Nat} {c T : Int} {D : Int → Int} {t v0 v1 v2 : Int} {neg : Bool} {cl e : Int} {F i : Nat} {u u' : World} (h : Ei w g f c T D t v0 v1 v2 neg cl e F i u) (hb : Below u.heap.size u u') : Ei w g f c T D t v0 v1 v2 neg cl e F i u' :=
  ⟨h.bs.below hb h.bs.lt, h.but.of_bel9 hb, h.box.below hb h.box.lt⟩
theorem hnd_zero (s : Int × (Int → Int)) (t v : Int) (h : v = 0) : hnd s t v = s := by unfold hnd; rw [if_pos h]
theorem Ei.skip0 {w : World} {g f : Nat} {c T : Int} {D : Int → Int} {t v0 v1 v2 : Int} {neg : Bool} {cl e : Int} {F : Nat} {u : World} (h : Ei w g f c T D t v0 v1 v2 neg cl e F 0 u) (hv : v0 = 0) : Ei w g f c T D t v0 v1 v2 neg cl e F 1 u := by
  have e1 : est T D t v0 v1 v2 1 = est T D t v0 v1 v2 0 := hnd_zero _ _ _ hv
  exact ⟨by rw [e1]; exact h.bs, h.but, h.box⟩
theorem Ei.skip1 {w : World} {g f : Nat} {c T : Int} {D : Int → Int} {t v0 v1 v2 : Int} {neg : Bool} {cl e : Int} {F : Nat} {u : World} (h : Ei w g f c T D t v0 v1 v2 neg cl e F 1 u) (hv : v1 = 0) : Ei w g f c T D t v0 v1 v2 neg cl e F 2 u := by
  have e1 : est T D t v0 v1 v2 2 = est T D t v0 v1 v2 1 := hnd_zero _ _ _ hv
  exact ⟨by rw [e1]; exact h.bs, h.but, h.box⟩
theorem Ei.skip2 {w : World} {g f : Nat} {c T : Int} {D : Int → Int} {t v0 v1 v2 : Int} {neg : Bool} {cl e : Int} {F : Nat} {u : World} (h : Ei w g f c T D t v0 v1 v2 neg cl e F 2 u) (hv : v2 = 0) : Ei w g f c T D t v0 v1 v2 neg cl e F 3 u := by
  have e1 : est T D t v0 v1 v2 3 = est T D t v0 v1 v2 2 := hnd_zero _ _ _ hv
  exact ⟨by rw [e1]; exact h.bs, h.but, h.box⟩
attribute [local go_sem] idx3_0 idx3_1 idx3_2 in
set_option maxHeartbeats 2000000 in
theorem each_core (neg : Bool) (cl e lo up : Int) (F s0 s1 s2 : Nat) (g h f : Nat) (c T : Int) (D : Int → Int) (w : World) (hlo : e / 32 = lo) (hup : e - 32 * lo = up) (he : -1074 ≤ e ∧ e ≤ 1000) (hup0 : 0 ≤ up) (hup1 : up ≤ 31) (hF : F < 9007199254740992)
    (hs0 : (F : Int) / 2 ^ (64 - up).toNat = (s0 : Int)) (hs1 : bits .and .u64 ((F : Int) / 2 ^ (32 - up).toNat) 4294967295 = (s1 : Int)) (hs2 : bits .and .u64 (IntKind.u64.wrap ((F : Int) * 2 ^ up.toNat)) 4294967295 = (s2 : Int))
    (hb0 : s0 < 4294967296) (hb1 : s1 < 4294967296) (hb2 : s2 < 4294967296) (hB : Bs w g f c T D)
    (HH : Hid (∀ i j v u, i < 3 → j = lo + 2 - (i : Nat) → v = (match i with | 0 => sgv neg s0 | 1 => sgv neg s1 | _ => sgv neg s2) → v ≠ 0 → Ei w g f c T D (lo + 34) (sgv neg s0) (sgv neg s1) (sgv neg s2) neg cl e F i u →
      Calls Tryz.prog 62 #[.int .i64 j, .agg #[.int .i64 (v / 4294967296), .int .i64 (v % 4294967296)], .pointer (some ⟨h, 0, none⟩)] u fun r w' => r = .returned (.tuple #[]) ∧ Ei w g f c T D (lo + 34) (sgv neg s0) (sgv neg s1) (sgv neg s2) neg cl e F (i + 1) w')) :
    Calls Tryz.prog 61 #[.agg #[.bool neg, .int .i64 cl, .int .i64 e, .int .u64 F], .func (.func 62) #[] #[.pointer (some ⟨h, 0, none⟩)]] w fun r w' => r = .returned (.tuple #[]) ∧ Ei w g f c T D (lo + 34) (sgv neg s0) (sgv neg s1) (sgv neg s2) neg cl e F 3 w' := by
  obtain ⟨W, hW⟩ : ∃ W, W = ((w.alloc (Obj.cells #[.bool neg, .int .i64 cl, .int .i64 e, .int .u64 F] 98)).alloc (Obj.cells #[.int .u64 s0, .int .u64 s1, .int .u64 s2] 137)).drew := ⟨_, rfl⟩
  have H0 : Aside (Ei w g f c T D (lo + 34) (sgv neg s0) (sgv neg s1) (sgv neg s2) neg cl e F 0 W) := by
    subst hW
    refine ⟨((hB.alloc _).alloc _).drew, (((But.refl g w).alloc _).alloc _).drew, ((Bl.new w 98 [_, _, _, _]).alloc _).drew⟩
  have hl : -40 ≤ lo ∧ lo ≤ 40 := by omega
  have HBI := hid binOf_any
  unfold Bv at HBI
  clear hB
  go_enter Tryz.func61, Tryz.ntmps61
  go_wp2_with fail
  go_region
  skip
  clear hs0 hs1 hs2 hlo hup hup0 hup1 he hF
  go_wp2_with fail
  rw [← hW]
  clear hW
  go_loopg [36] 3 (fun gk iv wr => ∃ i : Nat, gk + i = 3 ∧ iv = .int .i64 (i : Nat) ∧ Aside (Ei w g f c T D (lo + 34) (sgv neg s0) (sgv neg s1) (sgv neg s2) neg cl e F i wr))
  case atStart => exact ⟨0, by omega, rfl, H0⟩
  case round =>
    clear H0 W
    obtain ⟨i, hgi, rfl, HW⟩ := hrel
    have kb := HW.out.box.cell 0 _ rfl
    obtain rfl | rfl | rfl | rfl : i = 0 ∨ i = 1 ∨ i = 2 ∨ i = 3 := by omega
    · cases neg
      · by_cases hz : s0 = 0
        · have hz' : (s0 : Int) = 0 := by omega
          have HX := Aside.intro (Ei.skip0 HW.out (by unfold sgv; simp [hz]))
          clear HW HH HBI
          go_wp2
          go_roundg (gk - 1)
          case measure => omega
          case rel => exact ⟨1, by omega, rfl, HX⟩
        · have hz' : ¬ ((s0 : Int) = 0) := by omega
          go_wp2_with fail
          with_reducible refine (HBI.out _ _).mono ?_
          rintro r u ⟨rfl, hb⟩
          have HZ := Aside.intro (HW.out.below hb)
          clear HW hb kb
          go_wp2_with fail
          refine (HH.out 0 _ _ _ (by omega) (by omega) rfl (by show sgv _ s0 ≠ 0; unfold sgv; simp [hz]) HZ.out).mono ?_
          rintro r u2 ⟨rfl, hE⟩
          have HX := Aside.intro hE
          clear hE HZ HH HBI
          go_wp2
          go_roundg (gk - 1)
          case measure => omega
          case rel => exact ⟨1, by omega, rfl, HX⟩
      · by_cases hz : s0 = 0
        · have hz' : (s0 : Int) = 0 := by omega
          have HX := Aside.intro (Ei.skip0 HW.out (by unfold sgv; simp [hz]))
          clear HW HH HBI
          go_wp2
          go_roundg (gk - 1)
          case measure => omega
          case rel => exact ⟨1, by omega, rfl, HX⟩
        · have hz' : ¬ ((s0 : Int) = 0) := by omega
          go_wp2_with fail
          with_reducible refine (HBI.out _ _).mono ?_
          rintro r u ⟨rfl, hb⟩
          have HZ := Aside.intro (HW.out.below hb)
          clear HW hb kb
          go_wp2_with fail
          refine (HH.out 0 _ _ _ (by omega) (by omega) rfl (by show sgv _ s0 ≠ 0; unfold sgv; simp [hz]) HZ.out).mono ?_
          rintro r u2 ⟨rfl, hE⟩
          have HX := Aside.intro hE
          clear hE HZ HH HBI
          go_wp2
          go_roundg (gk - 1)
          case measure => omega
          case rel => exact ⟨1, by omega, rfl, HX⟩
    · cases neg
      · by_cases hz : s1 = 0
        · have hz' : (s1 : Int) = 0 := by omega
          have HX := Aside.intro (Ei.skip1 HW.out (by unfold sgv; simp [hz]))
          clear HW HH HBI
          go_wp2
          go_roundg (gk - 1)
          case measure => omega
          case rel => exact ⟨2, by omega, rfl, HX⟩
        · have hz' : ¬ ((s1 : Int) = 0) := by omega
          go_wp2_with fail
          with_reducible refine (HBI.out _ _).mono ?_
          rintro r u ⟨rfl, hb⟩
          have HZ := Aside.intro (HW.out.below hb)
          clear HW hb kb
          go_wp2_with fail
          refine (HH.out 1 _ _ _ (by omega) (by omega) rfl (by show sgv _ s1 ≠ 0; unfold sgv; simp [hz]) HZ.out).mono ?_
          rintro r u2 ⟨rfl, hE⟩
          have HX := Aside.intro hE
          clear hE HZ HH HBI
          go_wp2
          go_roundg (gk - 1)
          case measure => omega
          case rel => exact ⟨2, by omega, rfl, HX⟩
      · by_cases hz : s1 = 0
        · have hz' : (s1 : Int) = 0 := by omega
          have HX := Aside.intro (Ei.skip1 HW.out (by unfold sgv; simp [hz]))
          clear HW HH HBI
          go_wp2
          go_roundg (gk - 1)
          case measure => omega
          case rel => exact ⟨2, by omega, rfl, HX⟩
        · have hz' : ¬ ((s1 : Int) = 0) := by omega
          go_wp2_with fail
          with_reducible refine (HBI.out _ _).mono ?_
          rintro r u ⟨rfl, hb⟩
          have HZ := Aside.intro (HW.out.below hb)
          clear HW hb kb
          go_wp2_with fail
          refine (HH.out 1 _ _ _ (by omega) (by omega) rfl (by show sgv _ s1 ≠ 0; unfold sgv; simp [hz]) HZ.out).mono ?_
          rintro r u2 ⟨rfl, hE⟩
          have HX := Aside.intro hE
          clear hE HZ HH HBI
          go_wp2
          go_roundg (gk - 1)
          case measure => omega
          case rel => exact ⟨2, by omega, rfl, HX⟩
    · cases neg
      · by_cases hz : s2 = 0
        · have hz' : (s2 : Int) = 0 := by omega
          have HX := Aside.intro (Ei.skip2 HW.out (by unfold sgv; simp [hz]))
          clear HW HH HBI
          go_wp2
          go_roundg (gk - 1)
          case measure => omega
          case rel => exact ⟨3, by omega, rfl, HX⟩
        · have hz' : ¬ ((s2 : Int) = 0) := by omega
          go_wp2_with fail
          with_reducible refine (HBI.out _ _).mono ?_
          rintro r u ⟨rfl, hb⟩
          have HZ := Aside.intro (HW.out.below hb)
          clear HW hb kb
          go_wp2_with fail
          refine (HH.out 2 _ _ _ (by omega) (by omega) rfl (by show sgv _ s2 ≠ 0; unfold sgv; simp [hz]) HZ.out).mono ?_
          rintro r u2 ⟨rfl, hE⟩
          have HX := Aside.intro hE
          clear hE HZ HH HBI
          go_wp2
          go_roundg (gk - 1)
          case measure => omega
          case rel => exact ⟨3, by omega, rfl, HX⟩
      · by_cases hz : s2 = 0
        · have hz' : (s2 : Int) = 0 := by omega
          have HX := Aside.intro (Ei.skip2 HW.out (by unfold sgv; simp [hz]))
          clear HW HH HBI
          go_wp2
          go_roundg (gk - 1)
          case measure => omega
          case rel => exact ⟨3, by omega, rfl, HX⟩
        · have hz' : ¬ ((s2 : Int) = 0) := by omega
          go_wp2_with fail
          with_reducible refine (HBI.out _ _).mono ?_
          rintro r u ⟨rfl, hb⟩
          have HZ := Aside.intro (HW.out.below hb)
          clear HW hb kb
          go_wp2_with fail
          refine (HH.out 2 _ _ _ (by omega) (by omega) rfl (by show sgv _ s2 ≠ 0; unfold sgv; simp [hz]) HZ.out).mono ?_
          rintro r u2 ⟨rfl, hE⟩
          have HX := Aside.intro hE
          clear hE HZ HH HBI
          go_wp2
          go_roundg (gk - 1)
          case measure => omega
          case rel => exact ⟨3, by omega, rfl, HX⟩
    · go_wp2
      go_end0
      exact ⟨rfl, HW.out⟩
end Go.Proofs.YtmpakpdikkfofaaGreatDoor

/- The document's Times: whole. -/
namespace Go.Proofs.YtmpakpdikkfofaaGreatDoor
open Go.RowKit J
set_option linter.unusedVariables false
set_option maxRecDepth 20000
set_option linter.unusedSimpArgs false

theorem absSg (s : Bool) (v : Nat) : (B.sg s v).natAbs = v := by unfold B.sg; cases s <;> simp
end Go.Proofs.YtmpakpdikkfofaaGreatDoor

/- What each call of the package and of the document answers, as a plain function of the numbers' bits. -/
namespace Go.Proofs.YtmpakpdikkfofaaGreatDoor
open Go.RowKit J
set_option linter.unusedVariables false
set_option maxRecDepth 20000

abbrev Wd (x : Nat) : Prop := x < 18446744073709551616
theorem odd_wd : Wd oddW := by unfold Wd oddW; decide
theorem ar_wd (op : BinOp) (ho : op = .add ∨ op = .sub ∨ op = .mul) (x y : Nat) : Wd (arW op x y) := by
  unfold arW
  cases h : floatBits op .f64 x y with
  | none => exact odd_wd
  | some z => exact (bits_fin ho h).2
def plW (x y : Nat) : Nat := arW .add x y
def miW (x y : Nat) : Nat := arW .sub x y
theorem pl_wd (x y : Nat) : Wd (plW x y) := ar_wd .add (.inl rfl) x y
theorem mi_wd (x y : Nat) : Wd (miW x y) := ar_wd .sub (.inr (.inl rfl)) x y
def sumP (a b : Nat) : Nat × Nat := (plW a b, plW (miW a (miW (plW a b) (miW (plW a b) a))) (miW b (miW (plW a b) a)))
end Go.Proofs.YtmpakpdikkfofaaGreatDoor

/- Steps of finite numbers by their values (whole numbers of units of 2^-1074): what is rounded is the nearest. -/
namespace Go.Proofs.YtmpakpdikkfofaaGreatDoor
open Go.RowKit J
set_option linter.unusedVariables false
set_option maxRecDepth 20000

/-- A finite word; its value. -/
abbrev finW (x : Nat) : Prop := magW x < 9218868437227405312
def fvW (x : Nat) : Int := B.sg (negW x) (vK (magW x))
/-- TwoP to the power of 1022, in those units: 2^2096. -/
def EQ : Nat := 2096
theorem exQ : ∃ q : Nat, q = 2 ^ EQ := ⟨_, rfl⟩
noncomputable def QQ : Nat := Classical.choose exQ
theorem Q_eq : QQ = 2 ^ EQ := Classical.choose_spec exQ
theorem Q_pos : 0 < QQ := by rw [Q_eq]; exact Nat.two_pow_pos _

theorem sg_abs (s : Bool) (v : Nat) : (B.sg s v).natAbs = v := absSg s v
theorem vK_F (K : Nat) : ∃ m k : Nat, vK K = m * 2 ^ k ∧ m ≤ 9007199254740992 := by
  show ∃ m k, B.val Ieee.double K = m * 2 ^ k ∧ m ≤ 9007199254740992
  unfold B.val
  rw [B.dBin]
  split
  · exact ⟨K, 0, by simp, by omega⟩
  · exact ⟨_, _, rfl, by omega⟩
theorem fv_F (x : Nat) : IsF (fvW x) := by
  obtain ⟨m, k, h1, h2⟩ := vK_F (magW x)
  unfold fvW B.sg
  rw [h1]
  cases negW x
  · exact ⟨(m : Int), k, by simp, by omega, by omega⟩
  · exact ⟨-(m : Int), k, by simp [Int.neg_mul], by omega, by omega⟩
theorem F_vK {f : Int} (h : IsF f) : ∃ L, vK L = f.natAbs := by
  by_cases hs : f.natAbs ≤ 9007199254740992
  · refine ⟨f.natAbs, ?_⟩
    have := vK_word 0 f.natAbs (.inl rfl) hs
    simpa using this
  · obtain ⟨k, h1, h2, h3⟩ := h.placed
    have h2' : 2 ^ (52 + k) ≤ f.natAbs := by
      rcases h2 with rfl | h2
      · omega
      · exact h2
    obtain ⟨q, hq⟩ := h3
    have hf : f.natAbs = q.natAbs * 2 ^ k := by rw [hq, Int.natAbs_mul, natAbs_p2, Nat.mul_comm]
    rw [hf] at h1 h2' ⊢
    rw [Nat.pow_add] at h1 h2'
    have a1 := Nat.lt_of_mul_lt_mul_right h1
    have a2 := Nat.le_of_mul_le_mul_right h2' (Nat.two_pow_pos _)
    exact ⟨_, vK_word k q.natAbs (.inr (by omega)) (by omega)⟩

/-- The nearest rung is the nearest. -/
theorem ne_near {R V L : Nat} (h : NE R V 1) : ((vK R : Int) - V).natAbs ≤ ((vK L : Int) - V).natAbs := by
  have u : 2 * V ≤ vK R + vK (R + 1) := by have := h.up; rw [Nat.mul_one] at this; exact this
  rcases Nat.lt_trichotomy L R with c | c | c
  · have d : vK (R - 1) + vK R ≤ 2 * V := by have := h.dn (by omega); rw [Nat.mul_one] at this; exact this
    have m1 : vK L ≤ vK (R - 1) := vmono (by omega)
    have m2 : vK (R - 1) < vK R := vK_lt.2 (by omega)
    omega
  · rw [c]; omega
  · have m1 : vK (R + 1) ≤ vK L := vmono (by omega)
    have m2 : vK R < vK (R + 1) := vK_lt.2 (by omega)
    omega
theorem ne_rn {R : Nat} {T : Int} (h : NE R T.natAbs 1) {s : Bool} (hs : T ≠ 0 → s = decide (T < 0)) : IsRn T (B.sg s (vK R)) := by
  have hF : IsF (B.sg s (vK R)) := by
    obtain ⟨m, k, h1, h2⟩ := vK_F R
    unfold B.sg
    rw [h1]
    cases s
    · exact ⟨(m : Int), k, by simp, by omega, by omega⟩
    · exact ⟨-(m : Int), k, by simp [Int.neg_mul], by omega, by omega⟩
  refine ⟨hF, fun f hf => ?_⟩
  obtain ⟨L, hL⟩ := F_vK hf
  have n := ne_near (L := L) h
  by_cases hT : T = 0
  · subst hT
    have : NE 0 (0 : Int).natAbs 1 := NEf.own (by decide) (by rw [B.val_zero]; rfl)
    rw [h.one this (by decide), show vK 0 = 0 from B.val_zero _]
    unfold B.sg
    cases s <;> simp
  · have e := hs hT
    unfold B.sg
    by_cases hn : T < 0
    · rw [decide_eq_true hn] at e; subst e
      simp only [if_true]
      omega
    · rw [decide_eq_false hn] at e; subst e
      simp only [Bool.false_eq_true, if_false]
      omega
theorem top_half (K : Nat) (h : 9218868437227405311 ≤ K) : 2 * QQ < vK K := by
  obtain ⟨c, hc⟩ : ∃ c : Nat, c = 2045 := ⟨_, rfl⟩
  have h1 := vK_word c 4503599627370496 (.inr (by omega)) (by omega)
  have h2 : c * 4503599627370496 + 4503599627370496 < K := by rw [hc]; omega
  have h3 := vK_lt.2 h2
  rw [h1] at h3
  have h4 : 2 * QQ = 4503599627370496 * 2 ^ c := by
    have a1 : EQ + 1 = 52 + c := by rw [hc]; unfold EQ; rfl
    have a2 : 2 * 2 ^ EQ = 2 ^ (EQ + 1) := by rw [Nat.pow_succ, Nat.mul_comm]
    rw [Q_eq, a2, a1, Nat.pow_add]
  omega
theorem ne_fin {R V : Nat} (h : NE R V 1) (hV : V ≤ 3 * QQ) : R < 9218868437227405312 := by
  apply Nat.lt_of_not_le; intro hh
  have d : vK (R - 1) + vK R ≤ 2 * V := by have := h.dn (by omega); rw [Nat.mul_one] at this; exact this
  have a1 := top_half (R - 1) (by omega)
  obtain ⟨c, hc⟩ : ∃ c : Nat, c = 2045 := ⟨_, rfl⟩
  have h1 := vK_word c 9007199254740992 (.inr (by omega)) (by omega)
  have h2 : c * 4503599627370496 + 9007199254740992 ≤ R := by rw [hc]; omega
  have h3 : vK (c * 4503599627370496 + 9007199254740992) ≤ vK R := vmono h2
  rw [h1] at h3
  have h4 : 4 * QQ = 9007199254740992 * 2 ^ c := by
    have a1 : EQ + 2 = 53 + c := by rw [hc]; unfold EQ; rfl
    have a2 : 4 * 2 ^ EQ = 2 ^ (EQ + 2) := by rw [Nat.pow_add, Nat.mul_comm]
    rw [Q_eq, a2, a1, Nat.pow_add]
  omega

theorem fv_wd (s : Bool) (K : Nat) (h : K < 9218868437227405312) : finW (wd64 s K) ∧ fvW (wd64 s K) = B.sg s (vK K) := by
  obtain ⟨h1, h2, _⟩ := magW_wd s K (by omega)
  unfold fvW
  rw [h1, h2]
  exact ⟨by unfold finW; rw [h1]; exact h, rfl⟩
/-- A sum. -/
theorem pl_fin {x y : Nat} (hx : Wd x) (hy : Wd y) (fx : finW x) (fy : finW y) (hT : (fvW x + fvW y).natAbs ≤ 3 * QQ) : finW (plW x y) ∧ IsRn (fvW x + fvW y) (fvW (plW x y)) := by
  obtain ⟨R, hR, hA⟩ := add_wd (negW x) (negW y) (magW x) (magW y) fx fy
  rw [← wd_of x hx, ← wd_of y hy] at hA
  have e : plW x y = wd64 (if fvW x + fvW y = 0 then negW x && negW y else decide (fvW x + fvW y < 0)) (min R 9218868437227405312) := by
    show (Ieee.double.add x y).getD oddW = _
    rw [hA]; rfl
  have hf := ne_fin hR hT
  rw [Nat.min_eq_left (by omega)] at e
  obtain ⟨k1, k2⟩ := fv_wd (if fvW x + fvW y = 0 then negW x && negW y else decide (fvW x + fvW y < 0)) R hf
  rw [e]
  refine ⟨k1, ?_⟩
  rw [k2]
  exact ne_rn (T := fvW x + fvW y) hR (fun h => if_neg h)
theorem fv_turn {y : Nat} (hy : Wd y) (fy : finW y) : finW (turnW y) ∧ fvW (turnW y) = -fvW y := by
  have hm : magW y < 9223372036854775808 := Nat.mod_lt _ (by decide)
  have e : turnW y = wd64 (!negW y) (magW y) := by rw [← turn_wd _ _ hm, ← wd_of y hy]
  rw [e]
  obtain ⟨k1, k2⟩ := fv_wd (!negW y) (magW y) fy
  refine ⟨k1, ?_⟩
  rw [k2]
  unfold fvW B.sg
  cases negW y <;> simp
/-- A difference. -/
theorem mi_fin {x y : Nat} (hx : Wd x) (hy : Wd y) (fx : finW x) (fy : finW y) (hT : (fvW x - fvW y).natAbs ≤ 3 * QQ) : finW (miW x y) ∧ IsRn (fvW x - fvW y) (fvW (miW x y)) := by
  obtain ⟨k1, k2⟩ := fv_turn hy fy
  have e : miW x y = plW x (turnW y) := sub_turn x y hy
  have := pl_fin hx (turn_lt y hy) fx k1 (by rw [k2]; rwa [Int.sub_eq_add_neg] at hT)
  rw [e, Int.sub_eq_add_neg, ← k2]
  exact this
end Go.Proofs.YtmpakpdikkfofaaGreatDoor

/- P5.6 by words: Sum, Quick, Halves, Product of finite numbers. -/
namespace Go.Proofs.YtmpakpdikkfofaaGreatDoor
open Go.RowKit J
set_option linter.unusedVariables false
set_option maxRecDepth 20000

theorem two_Q : 2 * QQ = 2 ^ (EQ + 1) := by rw [Q_eq, Nat.pow_succ, Nat.mul_comm]
theorem rn_2Q {V s : Int} (h : IsRn V s) (hV : V.natAbs ≤ 2 * QQ) : s.natAbs ≤ 2 * QQ := by
  rw [two_Q] at hV ⊢; exact h.abs_le hV

/-- What came of a call: two finite numbers, and their sum. -/
structure TwoP (p : Nat × Nat) (V : Int) : Prop where
  w1 : Wd p.1
  w2 : Wd p.2
  f1 : finW p.1
  f2 : finW p.2
  val : fvW p.1 + fvW p.2 = V

theorem tiny {V s : Int} {Q : Nat} (h : 4503599627370496 * 2 * (s - V).natAbs ≤ V.natAbs) (hV : V.natAbs ≤ 4 * Q) : -(Q : Int) ≤ 64 * (s - V) ∧ 64 * (s - V) ≤ Q := by omega
theorem sum_bound {A C H T G V X : Int} {Q : Nat} (t1 : -(Q : Int) ≤ 64 * (H - (A + C)) ∧ 64 * (H - (A + C)) ≤ Q) (t2 : -(Q : Int) ≤ 64 * (T - (H - A)) ∧ 64 * (T - (H - A)) ≤ Q) (t3 : -(Q : Int) ≤ 64 * (G - (H - T)) ∧ 64 * (G - (H - T)) ≤ Q)
    (e4 : 4503599627370496 * 2 * (V - (A - G)).natAbs ≤ (A - G).natAbs) (e5 : 4503599627370496 * 2 * (X - (C - T)).natAbs ≤ (C - T).natAbs) : (V + X).natAbs ≤ 3 * Q := by
  have k3 : (A - G).natAbs ≤ 4 * Q := by omega
  have k4 : (C - T).natAbs ≤ 4 * Q := by omega
  have t4 := tiny e4 k3
  have t5 := tiny e5 k4
  clear e4 e5 k3 k4
  omega
theorem sum_two {a b : Nat} (ha : Wd a) (hb : Wd b) (fa : finW a) (fb : finW b) (la : (fvW a).natAbs ≤ QQ) (lb : (fvW b).natAbs ≤ QQ) : TwoP (sumP a b) (fvW a + fvW b) := by
  have hQ := Q_pos
  obtain ⟨f1, r1⟩ := pl_fin ha hb fa fb (by omega)
  have n1 := r1.near _ (fv_F a)
  have s1 := rn_2Q r1 (by omega)
  have t1 := Aside.intro (tiny (Q := QQ) r1.rel (by omega))
  obtain ⟨f2, r2⟩ := mi_fin (pl_wd a b) ha f1 fa (by omega)
  have s2 := rn_2Q r2 (by omega)
  have t2 := Aside.intro (tiny (Q := QQ) r2.rel (by omega))
  have n2 := r2.near _ (fv_F (plW a b))
  clear n1
  obtain ⟨f3, r3⟩ := mi_fin (pl_wd a b) (mi_wd (plW a b) a) f1 f2 (by omega)
  have s3 := rn_2Q r3 (by omega)
  have t3 := Aside.intro (tiny (Q := QQ) r3.rel (by omega))
  clear n2
  obtain ⟨f4, r4⟩ := mi_fin ha (mi_wd (plW a b) (miW (plW a b) a)) fa f3 (by omega)
  obtain ⟨f5, r5⟩ := mi_fin hb (mi_wd (plW a b) a) fb f2 (by omega)
  obtain ⟨f6, r6⟩ := pl_fin (mi_wd a (miW (plW a b) (miW (plW a b) a))) (mi_wd b (miW (plW a b) a)) f4 f5 (sum_bound t1.out t2.out t3.out r4.rel r5.rel)
  exact ⟨pl_wd _ _, pl_wd _ _, f1, f6, sum_just (fv_F a) (fv_F b) r1 r2 r3 r4 r5 r6⟩

end Go.Proofs.YtmpakpdikkfofaaGreatDoor

/- Rows of numbers: what with and merged do to a row, in plain terms. -/
namespace Go.Proofs.YtmpakpdikkfofaaGreatDoor
open Go.RowKit
set_option linter.unusedVariables false
set_option maxRecDepth 20000
set_option linter.unusedSimpArgs false

/-- Is it a nought? -/
def noW (x : Nat) : Bool := magW x == 0
def andN (x : Nat) : List Nat := if noW x then [] else [x]
/-- The row with x in its sum. -/
def withL : List Nat → Nat → List Nat
  | [], x => andN x
  | y :: ys, x => andN (sumP x y).2 ++ withL ys (sumP x y).1
/-- The row with all of another one's in its sum. -/
def mergeL : List Nat → List Nat → List Nat
  | A, [] => A
  | A, x :: xs => mergeL (withL A x) xs
def fvL : List Nat → Int
  | [] => 0
  | x :: xs => fvW x + fvL xs
def avL : List Nat → Nat
  | [] => 0
  | x :: xs => (fvW x).natAbs + avL xs
def FinL (L : List Nat) : Prop := ∀ x ∈ L, Wd x ∧ finW x

theorem FinL.nil : FinL [] := fun x h => by simp at h
theorem FinL.head {x : Nat} {L : List Nat} (h : FinL (x :: L)) : Wd x ∧ finW x := h x (by simp)
theorem FinL.tail {x : Nat} {L : List Nat} (h : FinL (x :: L)) : FinL L := fun y hy => h y (by simp [hy])
theorem FinL.append {A B : List Nat} (h : FinL A) (k : FinL B) : FinL (A ++ B) := fun x hx => by
  rcases List.mem_append.1 hx with q | q
  · exact h x q
  · exact k x q
theorem fvL_append (A B : List Nat) : fvL (A ++ B) = fvL A + fvL B := by
  induction A with
  | nil => simp [fvL]
  | cons x A ih => simp only [List.cons_append, fvL, ih]; omega
theorem avL_append (A B : List Nat) : avL (A ++ B) = avL A + avL B := by
  induction A with
  | nil => simp [avL]
  | cons x A ih => simp only [List.cons_append, avL, ih]; omega
theorem vK_zero : vK 0 = 0 := by
  have := vK_word 0 0 (.inl rfl) (by omega)
  simpa using this
theorem fv_no {x : Nat} (h : noW x = true) : fvW x = 0 := by
  have e : magW x = 0 := by simpa [noW] using h
  unfold fvW
  rw [e, vK_zero]
  cases negW x <;> rfl
theorem andN_ok (x : Nat) (h : Wd x ∧ finW x) : FinL (andN x) ∧ fvL (andN x) = fvW x ∧ avL (andN x) ≤ (fvW x).natAbs ∧ (andN x).length ≤ 1 := by
  unfold andN
  cases hn : noW x
  · rw [if_neg (by decide)]
    refine ⟨fun y hy => ?_, by simp [fvL], by simp [avL], by simp⟩
    simp at hy; subst hy; exact h
  · rw [if_pos rfl]
    exact ⟨FinL.nil, by rw [fv_no hn]; rfl, by simp [avL], by simp⟩

/-- A step's growth: both together are at most a little greater than what was put together. -/
theorem sum_grows {a b : Nat} (ha : Wd a ∧ finW a) (hb : Wd b ∧ finW b) {G : Nat} (hab : (fvW a).natAbs + (fvW b).natAbs ≤ 4503599627370496 * G) (hG : 4503599627370496 * G ≤ QQ) :
    TwoP (sumP a b) (fvW a + fvW b) ∧ (fvW (sumP a b).1).natAbs + (fvW (sumP a b).2).natAbs ≤ (fvW a).natAbs + (fvW b).natAbs + G := by
  have t := sum_two ha.1 hb.1 ha.2 hb.2 (by omega) (by omega)
  refine ⟨t, ?_⟩
  have r := (pl_fin ha.1 hb.1 ha.2 hb.2 (by have := Q_pos; omega)).2.rel
  have e := t.val
  have e1 : (sumP a b).1 = plW a b := rfl
  rw [e1] at e ⊢
  generalize fvW (plW a b) = s at *
  generalize fvW (sumP a b).2 = l at *
  generalize fvW a = x at *
  generalize fvW b = y at *
  have e2 : s - (x + y) = -l := by omega
  rw [e2] at r
  have e3 : (-l).natAbs = l.natAbs := Int.natAbs_neg l
  rw [e3] at r
  omega

theorem with_ok (G : Nat) (hG : 4503599627370496 * G ≤ QQ) : ∀ (L : List Nat) (x : Nat), FinL L → Wd x ∧ finW x → avL L + (fvW x).natAbs + L.length * G ≤ 4503599627370496 * G →
    FinL (withL L x) ∧ fvL (withL L x) = fvL L + fvW x ∧ avL (withL L x) ≤ avL L + (fvW x).natAbs + L.length * G ∧ (withL L x).length ≤ L.length + 1 := by
  intro L
  induction L with
  | nil =>
    intro x _ hx _
    obtain ⟨h1, h2, h3, h4⟩ := andN_ok x hx
    refine ⟨h1, ?_, ?_, ?_⟩
    · show fvL (andN x) = _
      rw [h2]; simp [fvL]
    · show avL (andN x) ≤ _
      simp [avL]; omega
    · show (andN x).length ≤ _
      simp; omega
  | cons y ys ih =>
    intro x hL hx hb
    have hy := hL.head
    simp only [avL, List.length_cons] at hb
    rw [Nat.add_mul, Nat.one_mul] at hb
    obtain ⟨t, hg⟩ := sum_grows hx hy (G := G) (by omega) hG
    obtain ⟨h1, h2, h3, h4⟩ := ih (sumP x y).1 hL.tail ⟨t.w1, t.f1⟩ (by omega)
    obtain ⟨k1, k2, k3, k4⟩ := andN_ok (sumP x y).2 ⟨t.w2, t.f2⟩
    show FinL (andN (sumP x y).2 ++ withL ys (sumP x y).1) ∧ fvL (andN (sumP x y).2 ++ withL ys (sumP x y).1) = _ ∧ avL (andN (sumP x y).2 ++ withL ys (sumP x y).1) ≤ _ ∧ (andN (sumP x y).2 ++ withL ys (sumP x y).1).length ≤ _
    refine ⟨k1.append h1, ?_, ?_, ?_⟩
    · rw [fvL_append, k2, h2]
      have := t.val
      simp only [fvL]
      omega
    · rw [avL_append]
      simp only [avL, List.length_cons]
      rw [Nat.add_mul, Nat.one_mul]
      omega
    · rw [List.length_append, List.length_cons]
      omega

/-- The unit of growth: 2^926. -/
def EG : Nat := 2000
theorem exG : ∃ q : Nat, q = 2 ^ EG := ⟨_, rfl⟩
noncomputable def GG : Nat := Classical.choose exG
theorem G_eq : GG = 2 ^ EG := Classical.choose_spec exG
theorem G_Q : 4503599627370496 * GG ≤ QQ := by
  rw [G_eq, Q_eq, show (4503599627370496 : Nat) = 2 ^ 52 by decide, ← Nat.pow_add]
  exact Nat.pow_le_pow_right (by decide) (by decide)

theorem dist4 (a b c d G : Nat) : (a + b + c + d) * G = (a + c) * G + b * G + d * G := by
  rw [Nat.add_mul, Nat.add_mul, Nat.add_mul, Nat.add_mul]; omega
/-- What a row is: its sum; at most n numbers; c steps that it grew by. -/
structure Rk (L : List Nat) (V : Int) (n c : Nat) : Prop where
  fin : FinL L
  val : fvL L = V
  len : L.length ≤ n
  size : avL L ≤ (n * 17179869184 + c) * GG
theorem Rk.nil : Rk [] 0 0 0 := ⟨FinL.nil, rfl, by simp, by simp [avL]⟩
theorem Rk.with {L : List Nat} {V : Int} {n c : Nat} (h : Rk L V n c) {x : Nat} (hx : Wd x ∧ finW x) (hs : (fvW x).natAbs ≤ 17179869184 * GG) (hb : n * 17179869184 + 17179869184 + c + n ≤ 4503599627370496) :
    Rk (withL L x) (V + fvW x) (n + 1) (c + n) := by
  have e1 : L.length * GG ≤ n * GG := Nat.mul_le_mul_right _ h.len
  have e2 : (n * 17179869184 + 17179869184 + c + n) * GG ≤ 4503599627370496 * GG := Nat.mul_le_mul_right _ hb
  have e3 : (n * 17179869184 + 17179869184 + c + n) * GG = (n * 17179869184 + c) * GG + 17179869184 * GG + n * GG := dist4 _ _ _ _ _
  have hsz := h.size
  obtain ⟨h1, h2, h3, h4⟩ := with_ok GG G_Q L x h.fin hx (by omega)
  refine ⟨h1, by rw [h2, h.val], by have := h.len; omega, ?_⟩
  have e4 : ((n + 1) * 17179869184 + (c + n)) * GG = (n * 17179869184 + c) * GG + 17179869184 * GG + n * GG := by rw [Nat.add_mul n 1, Nat.one_mul, ← Nat.add_assoc]; exact dist4 _ _ _ _ _
  rw [e4]
  omega
end Go.Proofs.YtmpakpdikkfofaaGreatDoor

/- Numbers' forms against powers of two, and against one another. -/
namespace Go.Proofs.YtmpakpdikkfofaaGreatDoor
open Go.RowKit J
set_option linter.unusedVariables false
set_option maxRecDepth 20000
set_option linter.unusedSimpArgs false

/-- A value's size. -/
theorem fo_abs {n : Bool} {X : Nat} {e z L H : Int} (h : Fo (some (n, X, e)) z L H) : X * 2 ^ (e - -2097152).toNat = z.natAbs * SS := by
  obtain ⟨F, hv, _⟩ := h.frm
  unfold zv at hv
  simp only at hv
  have := congrArg Int.natAbs hv
  rw [Int.natAbs_mul, Int.natAbs_mul, Int.natAbs_natCast, Int.natAbs_natCast] at this
  rw [← this]
  unfold sg1; cases n <;> simp
theorem fo_zero {n : Bool} {X : Nat} {e z L H : Int} (h : Fo (some (n, X, e)) z L H) : X = 0 ↔ z = 0 := by
  have a := fo_abs h
  have hS := S_pos
  constructor
  · intro hX
    rw [hX, Nat.zero_mul] at a
    rcases Nat.mul_eq_zero.1 a.symm with q | q <;> omega
  · intro hz
    rw [hz, Int.natAbs_zero, Nat.zero_mul] at a
    rcases Nat.mul_eq_zero.1 a with q | q
    · exact q
    · have := Nat.two_pow_pos (e - -2097152).toNat; omega
end Go.Proofs.YtmpakpdikkfofaaGreatDoor

/- Exact sums as dyads, by value. -/
namespace Go.Proofs.YtmpakpdikkfofaaGreatDoor
open Go.RowKit
set_option linter.unusedVariables false
set_option maxRecDepth 20000
set_option linter.unusedSimpArgs false

/-- The form of V times 2^-1074. -/
def fo8 (V : Int) : Option (Bool × Nat × Int) := mkS (decide (V < 0)) V.natAbs (-1074)
theorem sg1_abs (V : Int) : sg1 (decide (V < 0)) * (V.natAbs : Int) = V := by
  unfold sg1
  by_cases h : V < 0
  · rw [decide_eq_true h, if_pos rfl]; omega
  · rw [decide_eq_false h, if_neg (by decide)]; omega
theorem fo8_fo (V : Int) (m : Nat) (hm : m ≤ 200000) (hV : V.natAbs < 2 ^ m) : Fo (fo8 V) (V * (UU : Int)) (-1074) ((m : Int) - 1074) := by
  by_cases h0 : V = 0
  · subst h0
    refine ⟨⟨false, 0, 0, ?_, ?_, ?_, .inl rfl⟩⟩
    · unfold fo8; exact mkS_zero _ _
    · exact mkS_frm (mkS_zero false 0)
    · rw [zv_zero _ rfl]; simp
  · obtain ⟨X, e, h1, h2, h3, h4⟩ := mkS_sz (decide (V < 0)) V.natAbs (-1074) (-1074) ((m : Int) - 1074) (by omega) (by omega) (by have := blLe hV; omega) (by omega) (by omega) (by omega)
    refine ⟨⟨_, X, e, h1, mkS_frm h1, ?_, .inr ⟨h3, h4⟩⟩⟩
    rw [zv_mkS h1 (-2097152) (.inr (by omega))]
    have e1 : (2 : Nat) ^ ((-1074 : Int) - -2097152).toNat = UU * SS := US _ (by decide)
    rw [e1, Int.natCast_mul, Int.natCast_mul, ← Int.mul_assoc, sg1_abs, Int.mul_assoc]
theorem fo8_one {o : Option (Bool × Nat × Int)} {V L H : Int} (h : Fo o (V * (UU : Int)) L H) (m : Nat) (hm : m ≤ 200000) (hV : V.natAbs < 2 ^ m) : o = fo8 V := by
  obtain ⟨n, X, e, rfl, F1, z1, _⟩ := h.ex
  obtain ⟨n', X', e', h2, F2, z2, _⟩ := (fo8_fo V m hm hV).ex
  rw [h2]
  obtain ⟨rfl, rfl, rfl⟩ := zv_inj F1 F2 (-2097152) (by omega) (by rw [z1, z2])
  rfl
theorem fo8_frm (V : Int) (m : Nat) (hm : m ≤ 200000) (hV : V.natAbs < 2 ^ m) : ∃ n X e, fo8 V = some (n, X, e) ∧ Frm n X e ∧ (X = 0 ↔ V = 0) ∧ (V ≠ 0 → n = decide (V < 0)) ∧ -1074 ≤ e ∧ e ≤ 200000 := by
  have h := fo8_fo V m hm hV
  obtain ⟨n, X, e, h1, F, z, hb⟩ := h.ex
  have hz := fo_zero (h1 ▸ h)
  have hU := U_pos
  have hz2 : X = 0 ↔ V = 0 := by
    rw [hz]
    constructor
    · intro q
      rcases Int.mul_eq_zero.1 q with q | q
      · exact q
      · omega
    · intro q; rw [q]; simp
  refine ⟨n, X, e, h1, F, hz2, fun hV0 => ?_, ?_⟩
  · have := (round_fo (h1 ▸ h) (fun q => by rcases Int.mul_eq_zero.1 q with q | q; exact hV0 q; omega)).2.1
    rw [this, decide_eq_decide]
    constructor
    · intro q
      by_cases q2 : V < 0
      · exact q2
      · have := Int.mul_nonneg (show 0 ≤ V by omega) (show (0 : Int) ≤ UU by omega); omega
    · intro q; exact Int.mul_neg_of_neg_of_pos q (by omega)
  · rcases hb with q | ⟨q1, q2⟩
    · rcases F.odd with q3 | ⟨_, _, q3⟩
      · omega
      · omega
    · constructor
      · exact q1
      · omega
/-- Sums of forms. -/
theorem fo8_add (V U : Int) (m : Nat) (hm : m ≤ 100000) (hV : V.natAbs < 2 ^ m) (hU : U.natAbs < 2 ^ m) : addD (fo8 V) (fo8 U) = fo8 (V + U) := by
  have h1 := fo8_fo V m (by omega) hV
  have h2 := fo8_fo U m (by omega) hU
  have h3 := h1.add h2 (by omega) (by omega) (by omega)
  rw [← Int.add_mul] at h3
  have : 2 ^ (m + 1) = 2 * 2 ^ m := by rw [Nat.pow_succ, Nat.mul_comm]
  exact fo8_one h3 (m + 1) (by omega) (by omega)
theorem fo8_self (V : Int) (m : Nat) (hm : m ≤ 200000) (hV : V.natAbs < 2 ^ m) : mkS (dN (fo8 V)) (dX (fo8 V)) (dE (fo8 V)) = fo8 V := by
  obtain ⟨n, X, e, h1, F, _⟩ := fo8_frm V m hm hV
  rw [h1]
  exact mkS_idem F
theorem fo8_er (V : Int) (m : Nat) (hm : m ≤ 200000) (hV : V.natAbs < 2 ^ m) : erS (fo8 V) = 0 := by
  obtain ⟨n, X, e, h1, F, _⟩ := fo8_frm V m hm hV
  rw [h1]
  rfl
/-- What Of says of a number. -/
theorem top_fv {x : Nat} (hx : Wd x) (fx : finW x) (m : Nat) (hm : m = 2098) : (fvW x).natAbs < 2 ^ m := by
  unfold fvW
  rw [sg_abs]
  have := top_v (magW x) fx 2045 rfl
  obtain ⟨a, ha⟩ : ∃ a, a = 2045 := ⟨_, rfl⟩
  have h2 := top_v (magW x) fx a ha
  rw [show m = 53 + a by omega, Nat.pow_add]
  exact h2
theorem of_fo8 {x : Nat} (hx : Wd x) (fx : finW x) : ofK (negW x) (magW x) = fo8 (fvW x) := by
  obtain ⟨n, X, e, h1, h2, _⟩ := of_fo (negW x) (magW x) fx
  rw [h1]
  exact fo8_one h2 2098 (by omega) (top_fv hx fx 2098 rfl)
end Go.Proofs.YtmpakpdikkfofaaGreatDoor

