/- PolicySifts' walk. -/
import Derived.Test.YtfocdjfnlbendaaA12x
namespace Go.Proofs.Ytfocdjfnlbendaa
open Go.RowKit
open Go.Proofs.Ytfocdjfnlbendaa.B (bcell)
set_option linter.unusedVariables false
set_option maxRecDepth 20000

set_option maxHeartbeats 8000000 in
set_option maxRecDepth 100000 in
theorem walk_PolicySifts (ao : Option Addr) (n cap : Nat) (xs : List Nat) (a b : Int) (bo : Option Addr) (m cap' : Nat) (ys : List Nat) (c d : Int) (w : World) (hl : Came w ao n cap xs) (hn : n ≤ 17592186043904) (hr : Came w bo m cap' ys) (hm : m ≤ 17592186043904) :
    Calls Try.prog 4 #[.slice ao n cap, .agg #[.int .i64 a, .int .i64 b], .slice bo m cap', .agg #[.int .i64 c, .int .i64 d]] w fun r w' => r = .returned (.bool true) ∧ Below w.heap.size w w' := by
  have HL := Aside.intro hl
  have HR := Aside.intro hr
  have hcl := hl.cap
  have hcr := hr.cap
  clear hl hr
  have HW := hid awake_any
  have hL1 := siftL_le a b xs
  have hL2 := siftL_le c d ys
  obtain ⟨s0, s1, s2, s3, s4, s5, hS1⟩ := siftS_form a b xs
  obtain ⟨t0, t1, t2, t3, t4, t5, hS2⟩ := siftS_form c d ys
  have HSX : Hid (∀ (ao : Option Addr) (cap B : Nat) (w : World), Rd B w ao xs → B ≤ w.heap.size → Calls Try.prog 12 #[.slice ao n cap, .agg #[.int .i64 a, .int .i64 b]] w (SiftAns w a b xs)) := fun ao cap B w hR hB => Sift_any xs ao n cap B a b w HL.out.len (by omega) HL.out.wf hR hB
  have HSY : Hid (∀ (ao : Option Addr) (cap B : Nat) (w : World), Rd B w ao ys → B ≤ w.heap.size → Calls Try.prog 12 #[.slice ao m cap, .agg #[.int .i64 c, .int .i64 d]] w (SiftAns w c d ys)) := fun ao cap B w hR hB => Sift_any ys ao m cap B c d w HR.out.len (by omega) HR.out.wf hR hB
  have HTX : Hid (∀ (ao : Option Addr) (cap B : Nat) (w : World), Rd B w ao xs → B ≤ w.heap.size → Calls Try.prog 14 #[.slice ao n cap, .agg #[.int .i64 a, .int .i64 b]] w (SiftAns w a b xs)) := fun ao cap B w hR hB => rSift_any xs ao n cap B a b w HL.out.len (by omega) HL.out.wf hR hB
  have HTY : Hid (∀ (ao : Option Addr) (cap B : Nat) (w : World), Rd B w ao ys → B ≤ w.heap.size → Calls Try.prog 14 #[.slice ao m cap, .agg #[.int .i64 c, .int .i64 d]] w (SiftAns w c d ys)) := fun ao cap B w hR hB => rSift_any ys ao m cap B c d w HR.out.len (by omega) HR.out.wf hR hB
  obtain ⟨E1, hE1⟩ : ∃ E, siftE a b xs = E := ⟨_, rfl⟩
  obtain ⟨E2, hE2⟩ : ∃ E, siftE c d ys = E := ⟨_, rfl⟩
  obtain ⟨L1, hL1e⟩ : ∃ L, siftL a b xs = L := ⟨_, rfl⟩
  obtain ⟨L2, hL2e⟩ : ∃ L, siftL c d ys = L := ⟨_, rfl⟩
  rw [hL1e] at hL1
  rw [hL2e] at hL2
  have EQ := (Aside.intro (And.intro hS1 (And.intro hS2 (And.intro hE1 (And.intro hE2 (And.intro hL1e hL2e))))))
  clear hS1 hS2 hE1 hE2 hL1e hL2e
  go_enter Try.func4, Try.ntmps4
  go_wp2_with fail
  refine (HW.out _).mono ?_
  rintro r w1 ⟨rfl, hb1⟩
  have z1 := hb1.size
  simp at z1
  have P5_w1 : Aside (w1.heap[w.heap.size]? = some (.cells #[.int .i64 a, .int .i64 b] 23 (0, 0))) := by rw [Aside, hb1.block _ (by simp; omega), Below.heap_alloc _ _ _ (by simp)]; exact heap_alloc_new w _
  have P7_w1 : Aside (w1.heap[w.heap.size + 1]? = some (.cells #[.int .i64 c, .int .i64 d] 23 (0, 0))) := by rw [Aside, hb1.block _ (by simp)]; have h1 := heap_alloc_new (w.alloc (.cells #[.int .i64 a, .int .i64 b] 23)) (.cells #[.int .i64 c, .int .i64 d] 23); simp only [World.size_alloc] at h1; exact h1
  have BW_w1 : Aside (Below w.heap.size w w1) := (((Below.refl _ w).alloc (Nat.le_refl _) _).alloc (by simp) _).trans (hb1.mono (by simp; omega))
  clear hb1
  have LX := hid (lent_any xs ao n cap w.heap.size w1 HL.out.len HL.out.cap (by omega) (HL.out.rd.below BW_w1.out) (by omega))
  go_wp2_with fail
  refine Calls.mono LX.out ?_
  rintro r w2 ⟨rfl, hO2, hb2⟩
  have z2 := hb2.size
  have z2b : w1.heap.size < w2.heap.size := hO2.lt
  have P5_w2 : Aside (w2.heap[w.heap.size]? = some (.cells #[.int .i64 a, .int .i64 b] 23 (0, 0))) := blk_below P5_w1.out hb2
  have P7_w2 : Aside (w2.heap[w.heap.size + 1]? = some (.cells #[.int .i64 c, .int .i64 d] 23 (0, 0))) := blk_below P7_w1.out hb2
  have BW_w2 : Aside (Below w.heap.size w w2) := BW_w1.out.trans (hb2.mono (by omega))
  clear P5_w1 P7_w1 BW_w1
  have OX_w2 : Aside (Own w2 w1.heap.size (xs ++ [4634696597773484032, 4634766966517661696])) := hO2
  clear hb2 hO2 LX
  have LY := hid (lent_any ys bo m cap' w.heap.size w2 HR.out.len HR.out.cap (by omega) (HR.out.rd.below BW_w2.out) (by omega))
  go_wp2_with fail
  refine Calls.mono LY.out ?_
  rintro r w3 ⟨rfl, hO3, hb3⟩
  have z3 := hb3.size
  have z3b : w2.heap.size < w3.heap.size := hO3.lt
  have P5_w3 : Aside (w3.heap[w.heap.size]? = some (.cells #[.int .i64 a, .int .i64 b] 23 (0, 0))) := blk_below P5_w2.out hb3
  have P7_w3 : Aside (w3.heap[w.heap.size + 1]? = some (.cells #[.int .i64 c, .int .i64 d] 23 (0, 0))) := blk_below P7_w2.out hb3
  have BW_w3 : Aside (Below w.heap.size w w3) := BW_w2.out.trans (hb3.mono (by omega))
  have OX_w3 : Aside (Own w3 w1.heap.size (xs ++ [4634696597773484032, 4634766966517661696])) := blk_below OX_w2.out hb3
  clear P5_w2 P7_w2 BW_w2 OX_w2
  have OY_w3 : Aside (Own w3 w2.heap.size (ys ++ [4634696597773484032, 4634766966517661696])) := hO3
  clear hb3 hO3 LY
  have CS := hid (HSX.out _ (n + 2) (w1.heap.size + 1) w3 (lent_rd HL.out.len OX_w3.out) (by omega))
  have qc0 : w3.cell? ⟨w.heap.size, 0, none⟩ = some (.int .i64 a) := by have := P5_w3.out; simp [World.cell?, this]
  have qc1 : w3.cell? ⟨w.heap.size, 1, none⟩ = some (.int .i64 b) := by have := P5_w3.out; simp [World.cell?, this]
  go_wp2_with fail
  refine Calls.mono CS.out ?_
  rintro r w4 ⟨v4, rfl, hv4, hb4⟩
  have z4 := hb4.size
  rw [EQ.out.1, EQ.out.2.2.1]
  rw [EQ.out.2.2.2.2.1] at hv4
  obtain ⟨a4, c4, rfl, hk4, _⟩ := hv4.rd
  have m4 : ∀ bb, (Value.slice a4 L1.length c4).ownBlock = some bb → w3.heap.size ≤ bb ∧ bb < w4.heap.size := fun bb hbb => ⟨Rw.low hv4 bb hbb, (Rw.lt hv4 bb hbb).2.1⟩
  have M4 := Aside.intro m4
  clear m4
  have P5_w4 : Aside (w4.heap[w.heap.size]? = some (.cells #[.int .i64 a, .int .i64 b] 23 (0, 0))) := blk_below P5_w3.out hb4
  have P7_w4 : Aside (w4.heap[w.heap.size + 1]? = some (.cells #[.int .i64 c, .int .i64 d] 23 (0, 0))) := blk_below P7_w3.out hb4
  have BW_w4 : Aside (Below w.heap.size w w4) := BW_w3.out.trans (hb4.mono (by omega))
  have OX_w4 : Aside (Own w4 w1.heap.size (xs ++ [4634696597773484032, 4634766966517661696])) := blk_below OX_w3.out hb4
  have OY_w4 : Aside (Own w4 w2.heap.size (ys ++ [4634696597773484032, 4634766966517661696])) := blk_below OY_w3.out hb4
  clear P5_w3 P7_w3 BW_w3 OX_w3 OY_w3
  have R4_w4 : Aside (Rw w3.heap.size w4 (.slice a4 L1.length c4) L1.length (L1.map U)) := hv4
  clear hb4 hv4 CS qc0 qc1
  have lp : w.heap.size + 1 < w4.heap.size := by omega
  have lq : w.heap.size < w4.heap.size := by omega
  have qc0 : w4.cell? ⟨w.heap.size + 1, 0, none⟩ = some (.int .i64 c) := by have := P7_w4.out; simp [World.cell?, this]
  have qc1 : w4.cell? ⟨w.heap.size + 1, 1, none⟩ = some (.int .i64 d) := by have := P7_w4.out; simp [World.cell?, this]
  obtain ⟨W4, hW4⟩ : ∃ W, W = w4.alloc (.cells #[.int .i64 s0, .int .i64 s1, .int .i64 s2, .int .i64 s3, .int .i64 s4, .int .i64 s5] 30) := ⟨_, rfl⟩
  have zz4 : W4.heap.size = w4.heap.size + 1 := by rw [hW4]; simp
  have P5_W4 : Aside (W4.heap[w.heap.size]? = some (.cells #[.int .i64 a, .int .i64 b] 23 (0, 0))) := (by rw [hW4]; exact blk_alloc P5_w4.out _)
  have P7_W4 : Aside (W4.heap[w.heap.size + 1]? = some (.cells #[.int .i64 c, .int .i64 d] 23 (0, 0))) := (by rw [hW4]; exact blk_alloc P7_w4.out _)
  have BW_W4 : Aside (Below w.heap.size w W4) := (by rw [hW4]; exact BW_w4.out.alloc (by omega) _)
  have OX_W4 : Aside (Own W4 w1.heap.size (xs ++ [4634696597773484032, 4634766966517661696])) := (by rw [hW4]; exact blk_alloc OX_w4.out _)
  have OY_W4 : Aside (Own W4 w2.heap.size (ys ++ [4634696597773484032, 4634766966517661696])) := (by rw [hW4]; exact blk_alloc OY_w4.out _)
  have R4_W4 : Aside (Rw w3.heap.size W4 (.slice a4 L1.length c4) L1.length (L1.map U)) := (by rw [hW4]; exact World.ownsRow.alloc R4_w4.out _)
  clear P5_w4 P7_w4 BW_w4 OX_w4 OY_w4 R4_w4
  have S4_W4 : Aside (SpB W4 w4.heap.size s0 s1 s2 s3 s4 s5) := (by rw [hW4]; exact SpB.made _ _ _ _ _ _ _)
  have CS := hid (HSY.out _ (m + 2) (w2.heap.size + 1) W4 (lent_rd HR.out.len OY_W4.out) (by omega))
  go_wp2_with fail
  rw [← hW4]
  refine Calls.mono CS.out ?_
  rintro r w5 ⟨v5, rfl, hv5, hb5⟩
  have z5 := hb5.size
  rw [EQ.out.2.1, EQ.out.2.2.2.1]
  rw [EQ.out.2.2.2.2.2] at hv5
  obtain ⟨a5, c5, rfl, hk5, _⟩ := hv5.rd
  have m5 : ∀ bb, (Value.slice a5 L2.length c5).ownBlock = some bb → W4.heap.size ≤ bb ∧ bb < w5.heap.size := fun bb hbb => ⟨Rw.low hv5 bb hbb, (Rw.lt hv5 bb hbb).2.1⟩
  have M5 := Aside.intro m5
  clear m5
  have P5_w5 : Aside (w5.heap[w.heap.size]? = some (.cells #[.int .i64 a, .int .i64 b] 23 (0, 0))) := blk_below P5_W4.out hb5
  have P7_w5 : Aside (w5.heap[w.heap.size + 1]? = some (.cells #[.int .i64 c, .int .i64 d] 23 (0, 0))) := blk_below P7_W4.out hb5
  have BW_w5 : Aside (Below w.heap.size w w5) := BW_W4.out.trans (hb5.mono (by omega))
  have OX_w5 : Aside (Own w5 w1.heap.size (xs ++ [4634696597773484032, 4634766966517661696])) := blk_below OX_W4.out hb5
  have OY_w5 : Aside (Own w5 w2.heap.size (ys ++ [4634696597773484032, 4634766966517661696])) := blk_below OY_W4.out hb5
  have R4_w5 : Aside (Rw w3.heap.size w5 (.slice a4 L1.length c4) L1.length (L1.map U)) := Rw.below R4_W4.out hb5
  have S4_w5 : Aside (SpB w5 w4.heap.size s0 s1 s2 s3 s4 s5) := blk_below S4_W4.out hb5
  clear P5_W4 P7_W4 BW_W4 OX_W4 OY_W4 R4_W4 S4_W4
  have R5_w5 : Aside (Rw W4.heap.size w5 (.slice a5 L2.length c5) L2.length (L2.map U)) := hv5
  clear hb5 hv5 CS qc0 qc1 lp lq hW4
  have lp : w.heap.size + 1 < w5.heap.size := by omega
  have lq : w.heap.size < w5.heap.size := by omega
  have qc0 : w5.cell? ⟨w.heap.size, 0, none⟩ = some (.int .i64 a) := by have := P5_w5.out; simp [World.cell?, this]
  have qc1 : w5.cell? ⟨w.heap.size, 1, none⟩ = some (.int .i64 b) := by have := P5_w5.out; simp [World.cell?, this]
  obtain ⟨W5, hW5⟩ : ∃ W, W = w5.alloc (.cells #[.int .i64 t0, .int .i64 t1, .int .i64 t2, .int .i64 t3, .int .i64 t4, .int .i64 t5] 30) := ⟨_, rfl⟩
  have zz5 : W5.heap.size = w5.heap.size + 1 := by rw [hW5]; simp
  have P5_W5 : Aside (W5.heap[w.heap.size]? = some (.cells #[.int .i64 a, .int .i64 b] 23 (0, 0))) := (by rw [hW5]; exact blk_alloc P5_w5.out _)
  have P7_W5 : Aside (W5.heap[w.heap.size + 1]? = some (.cells #[.int .i64 c, .int .i64 d] 23 (0, 0))) := (by rw [hW5]; exact blk_alloc P7_w5.out _)
  have BW_W5 : Aside (Below w.heap.size w W5) := (by rw [hW5]; exact BW_w5.out.alloc (by omega) _)
  have OX_W5 : Aside (Own W5 w1.heap.size (xs ++ [4634696597773484032, 4634766966517661696])) := (by rw [hW5]; exact blk_alloc OX_w5.out _)
  have OY_W5 : Aside (Own W5 w2.heap.size (ys ++ [4634696597773484032, 4634766966517661696])) := (by rw [hW5]; exact blk_alloc OY_w5.out _)
  have R4_W5 : Aside (Rw w3.heap.size W5 (.slice a4 L1.length c4) L1.length (L1.map U)) := (by rw [hW5]; exact World.ownsRow.alloc R4_w5.out _)
  have S4_W5 : Aside (SpB W5 w4.heap.size s0 s1 s2 s3 s4 s5) := (by rw [hW5]; exact blk_alloc S4_w5.out _)
  have R5_W5 : Aside (Rw W4.heap.size W5 (.slice a5 L2.length c5) L2.length (L2.map U)) := (by rw [hW5]; exact World.ownsRow.alloc R5_w5.out _)
  clear P5_w5 P7_w5 BW_w5 OX_w5 OY_w5 R4_w5 S4_w5 R5_w5
  have S5_W5 : Aside (SpB W5 w5.heap.size t0 t1 t2 t3 t4 t5) := (by rw [hW5]; exact SpB.made _ _ _ _ _ _ _)
  have CS := hid (HSX.out _ (n + 2) (w1.heap.size + 1) W5 (lent_rd HL.out.len OX_W5.out) (by omega))
  go_wp2_with fail
  rw [← hW5]
  refine Calls.mono CS.out ?_
  rintro r w6 ⟨v6, rfl, hv6, hb6⟩
  have z6 := hb6.size
  rw [EQ.out.1, EQ.out.2.2.1]
  rw [EQ.out.2.2.2.2.1] at hv6
  obtain ⟨a6, c6, rfl, hk6, _⟩ := hv6.rd
  have m6 : ∀ bb, (Value.slice a6 L1.length c6).ownBlock = some bb → W5.heap.size ≤ bb ∧ bb < w6.heap.size := fun bb hbb => ⟨Rw.low hv6 bb hbb, (Rw.lt hv6 bb hbb).2.1⟩
  have M6 := Aside.intro m6
  clear m6
  have P5_w6 : Aside (w6.heap[w.heap.size]? = some (.cells #[.int .i64 a, .int .i64 b] 23 (0, 0))) := blk_below P5_W5.out hb6
  have P7_w6 : Aside (w6.heap[w.heap.size + 1]? = some (.cells #[.int .i64 c, .int .i64 d] 23 (0, 0))) := blk_below P7_W5.out hb6
  have BW_w6 : Aside (Below w.heap.size w w6) := BW_W5.out.trans (hb6.mono (by omega))
  have OX_w6 : Aside (Own w6 w1.heap.size (xs ++ [4634696597773484032, 4634766966517661696])) := blk_below OX_W5.out hb6
  have OY_w6 : Aside (Own w6 w2.heap.size (ys ++ [4634696597773484032, 4634766966517661696])) := blk_below OY_W5.out hb6
  have R4_w6 : Aside (Rw w3.heap.size w6 (.slice a4 L1.length c4) L1.length (L1.map U)) := Rw.below R4_W5.out hb6
  have S4_w6 : Aside (SpB w6 w4.heap.size s0 s1 s2 s3 s4 s5) := blk_below S4_W5.out hb6
  have R5_w6 : Aside (Rw W4.heap.size w6 (.slice a5 L2.length c5) L2.length (L2.map U)) := Rw.below R5_W5.out hb6
  have S5_w6 : Aside (SpB w6 w5.heap.size t0 t1 t2 t3 t4 t5) := blk_below S5_W5.out hb6
  clear P5_W5 P7_W5 BW_W5 OX_W5 OY_W5 R4_W5 S4_W5 R5_W5 S5_W5
  have R6_w6 : Aside (Rw W5.heap.size w6 (.slice a6 L1.length c6) L1.length (L1.map U)) := hv6
  clear hb6 hv6 CS qc0 qc1 lp lq hW5
  obtain ⟨W6, hW6⟩ : ∃ W, W = w6.alloc (.cells #[.int .i64 s0, .int .i64 s1, .int .i64 s2, .int .i64 s3, .int .i64 s4, .int .i64 s5] 30) := ⟨_, rfl⟩
  have zz6 : W6.heap.size = w6.heap.size + 1 := by rw [hW6]; simp
  have P5_W6 : Aside (W6.heap[w.heap.size]? = some (.cells #[.int .i64 a, .int .i64 b] 23 (0, 0))) := (by rw [hW6]; exact blk_alloc P5_w6.out _)
  have P7_W6 : Aside (W6.heap[w.heap.size + 1]? = some (.cells #[.int .i64 c, .int .i64 d] 23 (0, 0))) := (by rw [hW6]; exact blk_alloc P7_w6.out _)
  have BW_W6 : Aside (Below w.heap.size w W6) := (by rw [hW6]; exact BW_w6.out.alloc (by omega) _)
  have OX_W6 : Aside (Own W6 w1.heap.size (xs ++ [4634696597773484032, 4634766966517661696])) := (by rw [hW6]; exact blk_alloc OX_w6.out _)
  have OY_W6 : Aside (Own W6 w2.heap.size (ys ++ [4634696597773484032, 4634766966517661696])) := (by rw [hW6]; exact blk_alloc OY_w6.out _)
  have R4_W6 : Aside (Rw w3.heap.size W6 (.slice a4 L1.length c4) L1.length (L1.map U)) := (by rw [hW6]; exact World.ownsRow.alloc R4_w6.out _)
  have S4_W6 : Aside (SpB W6 w4.heap.size s0 s1 s2 s3 s4 s5) := (by rw [hW6]; exact blk_alloc S4_w6.out _)
  have R5_W6 : Aside (Rw W4.heap.size W6 (.slice a5 L2.length c5) L2.length (L2.map U)) := (by rw [hW6]; exact World.ownsRow.alloc R5_w6.out _)
  have S5_W6 : Aside (SpB W6 w5.heap.size t0 t1 t2 t3 t4 t5) := (by rw [hW6]; exact blk_alloc S5_w6.out _)
  have R6_W6 : Aside (Rw W5.heap.size W6 (.slice a6 L1.length c6) L1.length (L1.map U)) := (by rw [hW6]; exact World.ownsRow.alloc R6_w6.out _)
  clear P5_w6 P7_w6 BW_w6 OX_w6 OY_w6 R4_w6 S4_w6 R5_w6 S5_w6 R6_w6
  have S6_W6 : Aside (SpB W6 w6.heap.size s0 s1 s2 s3 s4 s5) := (by rw [hW6]; exact SpB.made _ _ _ _ _ _ _)
  have AX := hid (asLent_any xs ao n cap w.heap.size w1.heap.size W6 HL.out.len HL.out.cap (by omega) HL.out.wf (HL.out.rd.below BW_W6.out) (by omega) OX_W6.out)
  clear OX_W6
  go_wp2_with fail
  rw [← hW6]
  refine Calls.mono AX.out ?_
  rintro r w7 ⟨rfl, hb7⟩
  have z7 := hb7.size
  have P5_w7 : Aside (w7.heap[w.heap.size]? = some (.cells #[.int .i64 a, .int .i64 b] 23 (0, 0))) := blk_but P5_W6.out hb7 (by omega)
  have P7_w7 : Aside (w7.heap[w.heap.size + 1]? = some (.cells #[.int .i64 c, .int .i64 d] 23 (0, 0))) := blk_but P7_W6.out hb7 (by omega)
  have BW_w7 : Aside (Below w.heap.size w w7) := But.below BW_W6.out hb7 (by omega) (by omega)
  have OY_w7 : Aside (Own w7 w2.heap.size (ys ++ [4634696597773484032, 4634766966517661696])) := blk_but OY_W6.out hb7 (by omega)
  have R4_w7 : Aside (Rw w3.heap.size w7 (.slice a4 L1.length c4) L1.length (L1.map U)) := Rw.butlo R4_W6.out hb7 (by omega)
  have S4_w7 : Aside (SpB w7 w4.heap.size s0 s1 s2 s3 s4 s5) := blk_but S4_W6.out hb7 (by omega)
  have R5_w7 : Aside (Rw W4.heap.size w7 (.slice a5 L2.length c5) L2.length (L2.map U)) := Rw.butlo R5_W6.out hb7 (by omega)
  have S5_w7 : Aside (SpB w7 w5.heap.size t0 t1 t2 t3 t4 t5) := blk_but S5_W6.out hb7 (by omega)
  have R6_w7 : Aside (Rw W5.heap.size w7 (.slice a6 L1.length c6) L1.length (L1.map U)) := Rw.butlo R6_W6.out hb7 (by omega)
  have S6_w7 : Aside (SpB w7 w6.heap.size s0 s1 s2 s3 s4 s5) := blk_but S6_W6.out hb7 (by omega)
  clear P5_W6 P7_W6 BW_W6 OY_W6 R4_W6 S4_W6 R5_W6 S5_W6 R6_W6 S6_W6
  clear hb7 AX hW6
  have AY := hid (asLent_any ys bo m cap' w.heap.size w2.heap.size w7 HR.out.len HR.out.cap (by omega) HR.out.wf (HR.out.rd.below BW_w7.out) (by omega) OY_w7.out)
  clear OY_w7
  go_wp2_with fail
  refine Calls.mono AY.out ?_
  rintro r w8 ⟨rfl, hb8⟩
  have z8 := hb8.size
  have P5_w8 : Aside (w8.heap[w.heap.size]? = some (.cells #[.int .i64 a, .int .i64 b] 23 (0, 0))) := blk_but P5_w7.out hb8 (by omega)
  have P7_w8 : Aside (w8.heap[w.heap.size + 1]? = some (.cells #[.int .i64 c, .int .i64 d] 23 (0, 0))) := blk_but P7_w7.out hb8 (by omega)
  have BW_w8 : Aside (Below w.heap.size w w8) := But.below BW_w7.out hb8 (by omega) (by omega)
  have R4_w8 : Aside (Rw w3.heap.size w8 (.slice a4 L1.length c4) L1.length (L1.map U)) := Rw.butlo R4_w7.out hb8 (by omega)
  have S4_w8 : Aside (SpB w8 w4.heap.size s0 s1 s2 s3 s4 s5) := blk_but S4_w7.out hb8 (by omega)
  have R5_w8 : Aside (Rw W4.heap.size w8 (.slice a5 L2.length c5) L2.length (L2.map U)) := Rw.butlo R5_w7.out hb8 (by omega)
  have S5_w8 : Aside (SpB w8 w5.heap.size t0 t1 t2 t3 t4 t5) := blk_but S5_w7.out hb8 (by omega)
  have R6_w8 : Aside (Rw W5.heap.size w8 (.slice a6 L1.length c6) L1.length (L1.map U)) := Rw.butlo R6_w7.out hb8 (by omega)
  have S6_w8 : Aside (SpB w8 w6.heap.size s0 s1 s2 s3 s4 s5) := blk_but S6_w7.out hb8 (by omega)
  clear P5_w7 P7_w7 BW_w7 R4_w7 S4_w7 R5_w7 S5_w7 R6_w7 S6_w7
  clear hb8 AY
  have CS := hid (HTX.out _ cap w.heap.size w8 (HL.out.rd.below BW_w8.out) (by omega))
  have qc0 : w8.cell? ⟨w.heap.size, 0, none⟩ = some (.int .i64 a) := by have := P5_w8.out; simp [World.cell?, this]
  have qc1 : w8.cell? ⟨w.heap.size, 1, none⟩ = some (.int .i64 b) := by have := P5_w8.out; simp [World.cell?, this]
  go_wp2_with fail
  refine Calls.mono CS.out ?_
  rintro r w9 ⟨v9, rfl, hv9, hb9⟩
  have z9 := hb9.size
  rw [EQ.out.1, EQ.out.2.2.1]
  rw [EQ.out.2.2.2.2.1] at hv9
  obtain ⟨a9, c9, rfl, hk9, _⟩ := hv9.rd
  have m9 : ∀ bb, (Value.slice a9 L1.length c9).ownBlock = some bb → w8.heap.size ≤ bb ∧ bb < w9.heap.size := fun bb hbb => ⟨Rw.low hv9 bb hbb, (Rw.lt hv9 bb hbb).2.1⟩
  have M9 := Aside.intro m9
  clear m9
  have P5_w9 : Aside (w9.heap[w.heap.size]? = some (.cells #[.int .i64 a, .int .i64 b] 23 (0, 0))) := blk_below P5_w8.out hb9
  have P7_w9 : Aside (w9.heap[w.heap.size + 1]? = some (.cells #[.int .i64 c, .int .i64 d] 23 (0, 0))) := blk_below P7_w8.out hb9
  have BW_w9 : Aside (Below w.heap.size w w9) := BW_w8.out.trans (hb9.mono (by omega))
  have R4_w9 : Aside (Rw w3.heap.size w9 (.slice a4 L1.length c4) L1.length (L1.map U)) := Rw.below R4_w8.out hb9
  have S4_w9 : Aside (SpB w9 w4.heap.size s0 s1 s2 s3 s4 s5) := blk_below S4_w8.out hb9
  have R5_w9 : Aside (Rw W4.heap.size w9 (.slice a5 L2.length c5) L2.length (L2.map U)) := Rw.below R5_w8.out hb9
  have S5_w9 : Aside (SpB w9 w5.heap.size t0 t1 t2 t3 t4 t5) := blk_below S5_w8.out hb9
  have R6_w9 : Aside (Rw W5.heap.size w9 (.slice a6 L1.length c6) L1.length (L1.map U)) := Rw.below R6_w8.out hb9
  have S6_w9 : Aside (SpB w9 w6.heap.size s0 s1 s2 s3 s4 s5) := blk_below S6_w8.out hb9
  clear P5_w8 P7_w8 BW_w8 R4_w8 S4_w8 R5_w8 S5_w8 R6_w8 S6_w8
  have R9_w9 : Aside (Rw w8.heap.size w9 (.slice a9 L1.length c9) L1.length (L1.map U)) := hv9
  clear hb9 hv9 CS qc0 qc1
  have lp : w.heap.size + 1 < w9.heap.size := by omega
  have lq : w.heap.size < w9.heap.size := by omega
  have qc0 : w9.cell? ⟨w.heap.size + 1, 0, none⟩ = some (.int .i64 c) := by have := P7_w9.out; simp [World.cell?, this]
  have qc1 : w9.cell? ⟨w.heap.size + 1, 1, none⟩ = some (.int .i64 d) := by have := P7_w9.out; simp [World.cell?, this]
  obtain ⟨W9, hW9⟩ : ∃ W, W = w9.alloc (.cells #[.int .i64 s0, .int .i64 s1, .int .i64 s2, .int .i64 s3, .int .i64 s4, .int .i64 s5] 30) := ⟨_, rfl⟩
  have zz9 : W9.heap.size = w9.heap.size + 1 := by rw [hW9]; simp
  have P5_W9 : Aside (W9.heap[w.heap.size]? = some (.cells #[.int .i64 a, .int .i64 b] 23 (0, 0))) := (by rw [hW9]; exact blk_alloc P5_w9.out _)
  have P7_W9 : Aside (W9.heap[w.heap.size + 1]? = some (.cells #[.int .i64 c, .int .i64 d] 23 (0, 0))) := (by rw [hW9]; exact blk_alloc P7_w9.out _)
  have BW_W9 : Aside (Below w.heap.size w W9) := (by rw [hW9]; exact BW_w9.out.alloc (by omega) _)
  have R4_W9 : Aside (Rw w3.heap.size W9 (.slice a4 L1.length c4) L1.length (L1.map U)) := (by rw [hW9]; exact World.ownsRow.alloc R4_w9.out _)
  have S4_W9 : Aside (SpB W9 w4.heap.size s0 s1 s2 s3 s4 s5) := (by rw [hW9]; exact blk_alloc S4_w9.out _)
  have R5_W9 : Aside (Rw W4.heap.size W9 (.slice a5 L2.length c5) L2.length (L2.map U)) := (by rw [hW9]; exact World.ownsRow.alloc R5_w9.out _)
  have S5_W9 : Aside (SpB W9 w5.heap.size t0 t1 t2 t3 t4 t5) := (by rw [hW9]; exact blk_alloc S5_w9.out _)
  have R6_W9 : Aside (Rw W5.heap.size W9 (.slice a6 L1.length c6) L1.length (L1.map U)) := (by rw [hW9]; exact World.ownsRow.alloc R6_w9.out _)
  have S6_W9 : Aside (SpB W9 w6.heap.size s0 s1 s2 s3 s4 s5) := (by rw [hW9]; exact blk_alloc S6_w9.out _)
  have R9_W9 : Aside (Rw w8.heap.size W9 (.slice a9 L1.length c9) L1.length (L1.map U)) := (by rw [hW9]; exact World.ownsRow.alloc R9_w9.out _)
  clear P5_w9 P7_w9 BW_w9 R4_w9 S4_w9 R5_w9 S5_w9 R6_w9 S6_w9 R9_w9
  have S9_W9 : Aside (SpB W9 w9.heap.size s0 s1 s2 s3 s4 s5) := (by rw [hW9]; exact SpB.made _ _ _ _ _ _ _)
  have CS := hid (HTY.out _ cap' w.heap.size W9 (HR.out.rd.below BW_W9.out) (by omega))
  go_wp2_with fail
  rw [← hW9]
  refine Calls.mono CS.out ?_
  rintro r w10 ⟨v10, rfl, hv10, hb10⟩
  have z10 := hb10.size
  rw [EQ.out.2.1, EQ.out.2.2.2.1]
  rw [EQ.out.2.2.2.2.2] at hv10
  obtain ⟨a10, c10, rfl, hk10, _⟩ := hv10.rd
  have m10 : ∀ bb, (Value.slice a10 L2.length c10).ownBlock = some bb → W9.heap.size ≤ bb ∧ bb < w10.heap.size := fun bb hbb => ⟨Rw.low hv10 bb hbb, (Rw.lt hv10 bb hbb).2.1⟩
  have M10 := Aside.intro m10
  clear m10
  have P5_w10 : Aside (w10.heap[w.heap.size]? = some (.cells #[.int .i64 a, .int .i64 b] 23 (0, 0))) := blk_below P5_W9.out hb10
  have P7_w10 : Aside (w10.heap[w.heap.size + 1]? = some (.cells #[.int .i64 c, .int .i64 d] 23 (0, 0))) := blk_below P7_W9.out hb10
  have BW_w10 : Aside (Below w.heap.size w w10) := BW_W9.out.trans (hb10.mono (by omega))
  have R4_w10 : Aside (Rw w3.heap.size w10 (.slice a4 L1.length c4) L1.length (L1.map U)) := Rw.below R4_W9.out hb10
  have S4_w10 : Aside (SpB w10 w4.heap.size s0 s1 s2 s3 s4 s5) := blk_below S4_W9.out hb10
  have R5_w10 : Aside (Rw W4.heap.size w10 (.slice a5 L2.length c5) L2.length (L2.map U)) := Rw.below R5_W9.out hb10
  have S5_w10 : Aside (SpB w10 w5.heap.size t0 t1 t2 t3 t4 t5) := blk_below S5_W9.out hb10
  have R6_w10 : Aside (Rw W5.heap.size w10 (.slice a6 L1.length c6) L1.length (L1.map U)) := Rw.below R6_W9.out hb10
  have S6_w10 : Aside (SpB w10 w6.heap.size s0 s1 s2 s3 s4 s5) := blk_below S6_W9.out hb10
  have R9_w10 : Aside (Rw w8.heap.size w10 (.slice a9 L1.length c9) L1.length (L1.map U)) := Rw.below R9_W9.out hb10
  have S9_w10 : Aside (SpB w10 w9.heap.size s0 s1 s2 s3 s4 s5) := blk_below S9_W9.out hb10
  clear P5_W9 P7_W9 BW_W9 R4_W9 S4_W9 R5_W9 S5_W9 R6_W9 S6_W9 R9_W9 S9_W9
  have R10_w10 : Aside (Rw W9.heap.size w10 (.slice a10 L2.length c10) L2.length (L2.map U)) := hv10
  clear hb10 hv10 CS qc0 qc1 lp lq hW9
  have l4 : w4.heap.size < w10.heap.size := by omega
  have y40 := SpB.c0 S4_w10.out
  have y41 := SpB.c1 S4_w10.out
  have y42 := SpB.c2 S4_w10.out
  have y43 := SpB.c3 S4_w10.out
  have y44 := SpB.c4 S4_w10.out
  have y45 := SpB.c5 S4_w10.out
  have l5 : w5.heap.size < w10.heap.size := by omega
  have y50 := SpB.c0 S5_w10.out
  have y51 := SpB.c1 S5_w10.out
  have y52 := SpB.c2 S5_w10.out
  have y53 := SpB.c3 S5_w10.out
  have y54 := SpB.c4 S5_w10.out
  have y55 := SpB.c5 S5_w10.out
  have l6 : w6.heap.size < w10.heap.size := by omega
  have y60 := SpB.c0 S6_w10.out
  have y61 := SpB.c1 S6_w10.out
  have y62 := SpB.c2 S6_w10.out
  have y63 := SpB.c3 S6_w10.out
  have y64 := SpB.c4 S6_w10.out
  have y65 := SpB.c5 S6_w10.out
  have l9 : w9.heap.size < w10.heap.size := by omega
  have y90 := SpB.c0 S9_w10.out
  have y91 := SpB.c1 S9_w10.out
  have y92 := SpB.c2 S9_w10.out
  have y93 := SpB.c3 S9_w10.out
  have y94 := SpB.c4 S9_w10.out
  have y95 := SpB.c5 S9_w10.out
  obtain ⟨W10, hW10⟩ : ∃ W, W = w10.alloc (.cells #[.int .i64 t0, .int .i64 t1, .int .i64 t2, .int .i64 t3, .int .i64 t4, .int .i64 t5] 30) := ⟨_, rfl⟩
  have zz10 : W10.heap.size = w10.heap.size + 1 := by rw [hW10]; simp
  have P5_W10 : Aside (W10.heap[w.heap.size]? = some (.cells #[.int .i64 a, .int .i64 b] 23 (0, 0))) := (by rw [hW10]; exact blk_alloc P5_w10.out _)
  have P7_W10 : Aside (W10.heap[w.heap.size + 1]? = some (.cells #[.int .i64 c, .int .i64 d] 23 (0, 0))) := (by rw [hW10]; exact blk_alloc P7_w10.out _)
  have BW_W10 : Aside (Below w.heap.size w W10) := (by rw [hW10]; exact BW_w10.out.alloc (by omega) _)
  have R4_W10 : Aside (Rw w3.heap.size W10 (.slice a4 L1.length c4) L1.length (L1.map U)) := (by rw [hW10]; exact World.ownsRow.alloc R4_w10.out _)
  have S4_W10 : Aside (SpB W10 w4.heap.size s0 s1 s2 s3 s4 s5) := (by rw [hW10]; exact blk_alloc S4_w10.out _)
  have R5_W10 : Aside (Rw W4.heap.size W10 (.slice a5 L2.length c5) L2.length (L2.map U)) := (by rw [hW10]; exact World.ownsRow.alloc R5_w10.out _)
  have S5_W10 : Aside (SpB W10 w5.heap.size t0 t1 t2 t3 t4 t5) := (by rw [hW10]; exact blk_alloc S5_w10.out _)
  have R6_W10 : Aside (Rw W5.heap.size W10 (.slice a6 L1.length c6) L1.length (L1.map U)) := (by rw [hW10]; exact World.ownsRow.alloc R6_w10.out _)
  have S6_W10 : Aside (SpB W10 w6.heap.size s0 s1 s2 s3 s4 s5) := (by rw [hW10]; exact blk_alloc S6_w10.out _)
  have R9_W10 : Aside (Rw w8.heap.size W10 (.slice a9 L1.length c9) L1.length (L1.map U)) := (by rw [hW10]; exact World.ownsRow.alloc R9_w10.out _)
  have S9_W10 : Aside (SpB W10 w9.heap.size s0 s1 s2 s3 s4 s5) := (by rw [hW10]; exact blk_alloc S9_w10.out _)
  have R10_W10 : Aside (Rw W9.heap.size W10 (.slice a10 L2.length c10) L2.length (L2.map U)) := (by rw [hW10]; exact World.ownsRow.alloc R10_w10.out _)
  clear P5_w10 P7_w10 BW_w10 R4_w10 S4_w10 R5_w10 S5_w10 R6_w10 S6_w10 R9_w10 S9_w10 R10_w10
  have S10_W10 : Aside (SpB W10 w10.heap.size t0 t1 t2 t3 t4 t5) := (by rw [hW10]; exact SpB.made _ _ _ _ _ _ _)
  clear P5_W10
  clear P7_W10
  clear S4_W10
  clear S5_W10
  clear S6_W10
  clear S9_W10
  clear S10_W10
  have AL := hid (alikeLists_any L1 a4 a9 L1.length c4 c9 W10.heap.size W10 rfl (by omega) (Lt.rd2 (xs := L1) R4_W10.out) (Lt.rd2 (xs := L1) R9_W10.out))
  go_wp2_with fail
  rw [← hW10]
  refine Calls.mono AL.out ?_
  rintro r w11 ⟨rfl, hb11⟩
  have z11 := hb11.size
  clear y40 y41 y42 y43 y44 y45 y50 y51 y52 y53 y54 y55 y60 y61 y62 y63 y64 y65 y90 y91 y92 y93 y94 y95
  have BW_w11 : Aside (Below w.heap.size w w11) := BW_W10.out.trans (hb11.mono (by omega))
  have R4_w11 : Aside (Rw w3.heap.size w11 (.slice a4 L1.length c4) L1.length (L1.map U)) := Rw.below R4_W10.out hb11
  have R5_w11 : Aside (Rw W4.heap.size w11 (.slice a5 L2.length c5) L2.length (L2.map U)) := Rw.below R5_W10.out hb11
  have R6_w11 : Aside (Rw W5.heap.size w11 (.slice a6 L1.length c6) L1.length (L1.map U)) := Rw.below R6_W10.out hb11
  have R9_w11 : Aside (Rw w8.heap.size w11 (.slice a9 L1.length c9) L1.length (L1.map U)) := Rw.below R9_W10.out hb11
  have R10_w11 : Aside (Rw W9.heap.size w11 (.slice a10 L2.length c10) L2.length (L2.map U)) := Rw.below R10_W10.out hb11
  clear BW_W10 R4_W10 R5_W10 R6_W10 R9_W10 R10_W10
  clear hb11 AL hW10
  have AL := hid (alikeLists_any L2 a5 a10 L2.length c5 c10 w11.heap.size w11 rfl (by omega) (Lt.rd2 (xs := L2) R5_w11.out) (Lt.rd2 (xs := L2) R10_w11.out))
  go_wp2_with fail
  refine Calls.mono AL.out ?_
  rintro r w12 ⟨rfl, hb12⟩
  have z12 := hb12.size
  have BW_w12 : Aside (Below w.heap.size w w12) := BW_w11.out.trans (hb12.mono (by omega))
  have R4_w12 : Aside (Rw w3.heap.size w12 (.slice a4 L1.length c4) L1.length (L1.map U)) := Rw.below R4_w11.out hb12
  have R5_w12 : Aside (Rw W4.heap.size w12 (.slice a5 L2.length c5) L2.length (L2.map U)) := Rw.below R5_w11.out hb12
  have R6_w12 : Aside (Rw W5.heap.size w12 (.slice a6 L1.length c6) L1.length (L1.map U)) := Rw.below R6_w11.out hb12
  have R9_w12 : Aside (Rw w8.heap.size w12 (.slice a9 L1.length c9) L1.length (L1.map U)) := Rw.below R9_w11.out hb12
  have R10_w12 : Aside (Rw W9.heap.size w12 (.slice a10 L2.length c10) L2.length (L2.map U)) := Rw.below R10_w11.out hb12
  clear BW_w11 R4_w11 R5_w11 R6_w11 R9_w11 R10_w11
  clear hb12 AL
  have AL := hid (alikeLists_any L1 a6 a9 L1.length c6 c9 w12.heap.size w12 rfl (by omega) (Lt.rd2 (xs := L1) R6_w12.out) (Lt.rd2 (xs := L1) R9_w12.out))
  go_wp2_with fail
  refine Calls.mono AL.out ?_
  rintro r w13 ⟨rfl, hb13⟩
  have z13 := hb13.size
  have BW_w13 : Aside (Below w.heap.size w w13) := BW_w12.out.trans (hb13.mono (by omega))
  have R4_w13 : Aside (Rw w3.heap.size w13 (.slice a4 L1.length c4) L1.length (L1.map U)) := Rw.below R4_w12.out hb13
  have R5_w13 : Aside (Rw W4.heap.size w13 (.slice a5 L2.length c5) L2.length (L2.map U)) := Rw.below R5_w12.out hb13
  have R6_w13 : Aside (Rw W5.heap.size w13 (.slice a6 L1.length c6) L1.length (L1.map U)) := Rw.below R6_w12.out hb13
  have R9_w13 : Aside (Rw w8.heap.size w13 (.slice a9 L1.length c9) L1.length (L1.map U)) := Rw.below R9_w12.out hb13
  have R10_w13 : Aside (Rw W9.heap.size w13 (.slice a10 L2.length c10) L2.length (L2.map U)) := Rw.below R10_w12.out hb13
  clear BW_w12 R4_w12 R5_w12 R6_w12 R9_w12 R10_w12
  clear hb13 AL
  clear R9_w13
  clear R10_w13
  obtain ⟨W14, hW14⟩ : ∃ W, W = w13.alloc (.cells #[.slice none 0 0] 38) := ⟨_, rfl⟩
  have zz14 : W14.heap.size = w13.heap.size + 1 := by rw [hW14]; simp
  have BK0 : Aside (Bk w.heap.size W14 w13.heap.size []) := by rw [hW14]; exact Bk.made _ _ (by omega)
  have BW_W14 : Aside (Below w.heap.size w W14) := (by rw [hW14]; exact BW_w13.out.alloc (by omega) _)
  have R4_W14 : Aside (Rw w3.heap.size W14 (.slice a4 L1.length c4) L1.length (L1.map U)) := (by rw [hW14]; exact World.ownsRow.alloc R4_w13.out _)
  have R5_W14 : Aside (Rw W4.heap.size W14 (.slice a5 L2.length c5) L2.length (L2.map U)) := (by rw [hW14]; exact World.ownsRow.alloc R5_w13.out _)
  have R6_W14 : Aside (Rw W5.heap.size W14 (.slice a6 L1.length c6) L1.length (L1.map U)) := (by rw [hW14]; exact World.ownsRow.alloc R6_w13.out _)
  clear BW_w13 R4_w13 R5_w13 R6_w13
  have TK := hid (take_any w.heap.size w13.heap.size [] a4 L1.length c4 W14 BK0.out (by simp) (by omega))
  go_wp2_with fail
  rw [← hW14]
  refine Calls.mono TK.out ?_
  rintro r w15 ⟨rfl, hB15, hk15, hb15, z15⟩
  have BK1 : Aside (Bk w.heap.size w15 w13.heap.size [.slice a4 L1.length c4]) := hB15
  have BW_w15 : Aside (Below w.heap.size w w15) := BW_W14.out.trans hb15
  have R4_w15 : Aside (Rw w3.heap.size w15 (.slice a4 L1.length c4) L1.length (L1.map U)) := Keep.row R4_W14.out hk15
  have R5_w15 : Aside (Rw W4.heap.size w15 (.slice a5 L2.length c5) L2.length (L2.map U)) := Keep.row R5_W14.out hk15
  have R6_w15 : Aside (Rw W5.heap.size w15 (.slice a6 L1.length c6) L1.length (L1.map U)) := Keep.row R6_W14.out hk15
  clear BW_W14 R4_W14 R5_W14 R6_W14 hB15 hk15 hb15 TK BK0 hW14
  have TK := hid (take_any w.heap.size w13.heap.size [.slice a4 L1.length c4] a5 L2.length c5 w15 BK1.out (by simp) (by omega))
  go_wp2_with fail
  refine Calls.mono TK.out ?_
  rintro r w16 ⟨rfl, hB16, hk16, hb16, z16⟩
  have BK2 : Aside (Bk w.heap.size w16 w13.heap.size [.slice a4 L1.length c4, .slice a5 L2.length c5]) := hB16
  have BW_w16 : Aside (Below w.heap.size w w16) := BW_w15.out.trans hb16
  have R4_w16 : Aside (Rw w3.heap.size w16 (.slice a4 L1.length c4) L1.length (L1.map U)) := Keep.row R4_w15.out hk16
  have R5_w16 : Aside (Rw W4.heap.size w16 (.slice a5 L2.length c5) L2.length (L2.map U)) := Keep.row R5_w15.out hk16
  have R6_w16 : Aside (Rw W5.heap.size w16 (.slice a6 L1.length c6) L1.length (L1.map U)) := Keep.row R6_w15.out hk16
  clear BW_w15 R4_w15 R5_w15 R6_w15 hB16 hk16 hb16 TK BK1
  have TK := hid (take_any w.heap.size w13.heap.size [.slice a4 L1.length c4, .slice a5 L2.length c5] a6 L1.length c6 w16 BK2.out (by simp) (by omega))
  go_wp2_with fail
  refine Calls.mono TK.out ?_
  rintro r w17 ⟨rfl, hB17, hk17, hb17, z17⟩
  have BK3 : Aside (Bk w.heap.size w17 w13.heap.size [.slice a4 L1.length c4, .slice a5 L2.length c5, .slice a6 L1.length c6]) := hB17
  have BW_w17 : Aside (Below w.heap.size w w17) := BW_w16.out.trans hb17
  have R4_w17 : Aside (Rw w3.heap.size w17 (.slice a4 L1.length c4) L1.length (L1.map U)) := Keep.row R4_w16.out hk17
  have R5_w17 : Aside (Rw W4.heap.size w17 (.slice a5 L2.length c5) L2.length (L2.map U)) := Keep.row R5_w16.out hk17
  have R6_w17 : Aside (Rw W5.heap.size w17 (.slice a6 L1.length c6) L1.length (L1.map U)) := Keep.row R6_w16.out hk17
  clear BW_w16 R4_w16 R5_w16 R6_w16 hB17 hk17 hb17 TK BK2
  have NI : Nice w.heap.size w17 [.slice a4 L1.length c4, .slice a5 L2.length c5, .slice a6 L1.length c6] := nice3 (Rw.mono R4_w17.out (by omega)) (Rw.mono R5_w17.out (by omega)) (Rw.mono R6_w17.out (by omega)) hL1 hL2 hL1 w4.heap.size w5.heap.size (by omega) (fun bb h => (M4.out bb h).2) (fun bb h => ⟨by have := (M5.out bb h).1; omega, (M5.out bb h).2⟩) (fun bb h => by have := (M6.out bb h).1; omega)
  have OW := hid (owned_any w.heap.size w13.heap.size [.slice a4 L1.length c4, .slice a5 L2.length c5, .slice a6 L1.length c6] w17 BK3.out NI (by simp) (by simp) (by omega))
  clear NI
  go_wp2_with fail
  refine Calls.mono OW.out ?_
  rintro r w18 ⟨rfl, hb18⟩
  have FIN := Aside.intro (BW_w17.out.trans hb18)
  clear hb18
  go_wp2
  go_ret
  exact ⟨rfl, FIN.out⟩
end Go.Proofs.Ytfocdjfnlbendaa
