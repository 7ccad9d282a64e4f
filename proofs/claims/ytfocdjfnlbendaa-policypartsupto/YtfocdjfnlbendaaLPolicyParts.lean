/- PolicyParts' walk. -/
import Derived.Test.YtfocdjfnlbendaaA12x
import Derived.Deep.Cut
import Derived.Deep.CutRange
import Derived.Deep.RegionHeld3
namespace Go.Proofs.Ytfocdjfnlbendaa
open Go.RowKit
open Go.Proofs.Ytfocdjfnlbendaa.B (bcell)
set_option linter.unusedVariables false
set_option maxRecDepth 20000
attribute [local go_sem] st_float

theorem z_true : zr true = 9223372036854775808 := rfl

set_option maxHeartbeats 16000000 in
set_option maxRecDepth 100000 in
theorem walk_PolicyParts (ao : Option Addr) (n cap : Nat) (xs : List Nat) (bo : Option Addr) (m cap' : Nat) (ys : List Nat) (a b : Int) (w : World) (hl : Came w ao n cap xs) (hn : n ≤ 17592186043904) (hr : Came w bo m cap' ys) (hm : m ≤ 17592186043904) (hbulk : n + m ≤ 1048576) :
    Calls Try.prog 6 #[.slice ao n cap, .slice bo m cap', .agg #[.int .i64 a, .int .i64 b]] w fun r w' => r = .returned (.bool true) ∧ Below w.heap.size w w' := by
  obtain rfl := hl.len
  obtain rfl := hr.len
  have HL := Aside.intro hl
  have HR := Aside.intro hr
  clear hl hr hn hm
  have HW := hid awake_any
  obtain ⟨s0, s1, s2, s3, s4, s5, hS1⟩ := siftS_form a b xs
  obtain ⟨t0, t1, t2, t3, t4, t5, hS2⟩ := siftS_form a b ys
  obtain ⟨u0, u1, u2, u3, u4, u5, hS3⟩ := siftS_form a b (xs ++ ys)
  have hW3 : Wf (xs ++ ys) := by intro x hx; rcases List.mem_append.1 hx with h | h; exact HL.out.wf x h; exact HR.out.wf x h
  have hN3 : (xs ++ ys).length = xs.length + ys.length := List.length_append
  have HSX : Hid (∀ (ao : Option Addr) (cap B : Nat) (w : World), Rd B w ao xs → B ≤ w.heap.size → Calls Try.prog 12 #[.slice ao xs.length cap, .agg #[.int .i64 a, .int .i64 b]] w (SiftAns w a b xs)) := fun ao cap B w hR hB => Sift_any xs ao _ cap B a b w rfl (by omega) HL.out.wf hR hB
  have HSY : Hid (∀ (ao : Option Addr) (cap B : Nat) (w : World), Rd B w ao ys → B ≤ w.heap.size → Calls Try.prog 12 #[.slice ao ys.length cap, .agg #[.int .i64 a, .int .i64 b]] w (SiftAns w a b ys)) := fun ao cap B w hR hB => Sift_any ys ao _ cap B a b w rfl (by omega) HR.out.wf hR hB
  have HSZ : Hid (∀ (ao : Option Addr) (cap B : Nat) (w : World), Rd B w ao (xs ++ ys) → B ≤ w.heap.size → Calls Try.prog 12 #[.slice ao (xs ++ ys).length cap, .agg #[.int .i64 a, .int .i64 b]] w (SiftAns w a b (xs ++ ys))) := fun ao cap B w hR hB => Sift_any (xs ++ ys) ao _ cap B a b w rfl (by omega) hW3 hR hB
  obtain ⟨E1, hE1⟩ : ∃ E, siftE a b xs = E := ⟨_, rfl⟩
  obtain ⟨E2, hE2⟩ : ∃ E, siftE a b ys = E := ⟨_, rfl⟩
  obtain ⟨E3, hE3⟩ : ∃ E, siftE a b (xs ++ ys) = E := ⟨_, rfl⟩
  obtain ⟨L1, hL1⟩ : ∃ L, siftL a b xs = L := ⟨_, rfl⟩
  obtain ⟨L2, hL2⟩ : ∃ L, siftL a b ys = L := ⟨_, rfl⟩
  obtain ⟨L3, hL3⟩ : ∃ L, siftL a b (xs ++ ys) = L := ⟨_, rfl⟩
  have k1 := siftL_le a b xs
  have k2 := siftL_le a b ys
  have k3 := siftL_le a b (xs ++ ys)
  rw [hL1] at k1
  rw [hL2] at k2
  rw [hL3] at k3
  obtain ⟨N, hN⟩ : ∃ N, (xs ++ ys).length = N := ⟨_, rfl⟩
  obtain ⟨n, hn⟩ : ∃ n, xs.length = n := ⟨_, rfl⟩
  obtain ⟨m, hm⟩ : ∃ m, ys.length = m := ⟨_, rfl⟩
  rw [hN, hn, hm] at hN3
  have hNa : N ≤ n + m := by omega
  have hNb : n + m ≤ N := by omega
  clear hN3
  rw [hn] at HSX
  rw [hm] at HSY
  rw [hN] at HSZ
  rw [hn, hm] at hbulk
  have EQ := (Aside.intro (And.intro hS1 (And.intro hS2 (And.intro hS3 (And.intro hE1 (And.intro hE2 (And.intro hE3 (And.intro hL1 (And.intro hL2 (And.intro hL3 (And.intro hN (And.intro hn (And.intro hm hW3)))))))))))))
  clear hS1 hS2 hS3 hE1 hE2 hE3 hL1 hL2 hL3 hW3
  rw [hn, hm]
  go_enter Try.func6, Try.ntmps6
  go_wp2_with fail
  refine (HW.out _).mono ?_
  rintro r w1 ⟨rfl, hb1⟩
  have z1 := hb1.size
  simp at z1
  have P5_w1 : Aside (w1.heap[w.heap.size]? = some (.cells #[.int .i64 a, .int .i64 b] 23 (0, 0))) := by rw [Aside, hb1.block _ (by simp)]; exact heap_alloc_new w _
  have BW_w1 : Aside (Below w.heap.size w w1) := ((Below.refl _ w).alloc (Nat.le_refl _) _).trans (hb1.mono (by simp))
  clear hb1
  obtain ⟨a2, c2, w2, hap2, hr2, hb2, _, z2⟩ := put w1 w1.heap.size (.slice none 0 0) [] xs ao cap w.heap.size (World.ownsRow_nil _ _ _ _) (HL.out.rd.below BW_w1.out) HL.out.nil (by simp; omega) (Nat.le_refl _)
  rw [List.nil_append] at hap2 hr2
  obtain ⟨a3, c3, w3, hap3, hr3, hb3, _, z3⟩ := put w2 w1.heap.size _ xs ys bo cap' w.heap.size hr2 (HR.out.rd.below (BW_w1.out.trans (hb2.mono (by omega)))) HR.out.nil (by omega) (by omega)
  rw [EQ.out.2.2.2.2.2.2.2.2.2.2.1] at hap2
  rw [EQ.out.2.2.2.2.2.2.2.2.2.2.2.1, EQ.out.2.2.2.2.2.2.2.2.2.1] at hap3
  rw [EQ.out.2.2.2.2.2.2.2.2.2.2.1] at hr2
  have hap3' : (Builtin.append_ #[27, 27] 27 #[.slice a2 n c2, .slice bo m cap']).run Try.prog w2 = .ok (.slice a3 N c3) w3 := by rw [← EQ.out.2.2.2.2.2.2.2.2.2.2.1]; exact hap3
  have AP2 := hid hap2
  have AP3 := hid hap3'
  have hb13 := hb2.trans hb3
  have P5_w3 : Aside (w3.heap[w.heap.size]? = some (.cells #[.int .i64 a, .int .i64 b] 23 (0, 0))) := blk_below P5_w1.out hb13
  have BW_w3 : Aside (Below w.heap.size w w3) := BW_w1.out.trans (hb13.mono (by omega))
  clear P5_w1 BW_w1
  have RA_w3 : Aside (Rw w1.heap.size w3 (.slice a3 (xs ++ ys).length c3) (xs ++ ys).length ((xs ++ ys).map U)) := by rw [Aside]; exact hr3
  clear hap2 hap3 hap3' hr2 hr3 hb2 hb3 hb13
  have qc0 : w3.cell? ⟨w.heap.size, 0, none⟩ = some (.int .i64 a) := by have := P5_w3.out; simp [World.cell?, this]
  have qc1 : w3.cell? ⟨w.heap.size, 1, none⟩ = some (.int .i64 b) := by have := P5_w3.out; simp [World.cell?, this]
  have CS := hid (HSX.out _ cap w.heap.size w3 (HL.out.rd.below BW_w3.out) (by omega))
  go_wp2_with (first | (at_builtin; refine wpList_append_run2 rfl (.tmp 29) (.tmp 30) 27 rfl _ _ rfl rfl _ _ AP2.out ?_) | (at_builtin; refine wpList_append_run2 rfl (.tmp 32) (.tmp 33) 27 rfl _ _ rfl rfl _ _ AP3.out ?_))
  refine Calls.mono CS.out ?_
  rintro r w4 ⟨v4, rfl, hv4, hb4⟩
  have z4 := hb4.size
  rw [EQ.out.1, EQ.out.2.2.2.1]
  rw [EQ.out.2.2.2.2.2.2.1] at hv4
  obtain ⟨a4, c4, rfl, hk4, _⟩ := hv4.rd
  have P5_w4 : Aside (w4.heap[w.heap.size]? = some (.cells #[.int .i64 a, .int .i64 b] 23 (0, 0))) := blk_below P5_w3.out hb4
  have BW_w4 : Aside (Below w.heap.size w w4) := BW_w3.out.trans (hb4.mono (by omega))
  have RA_w4 : Aside (Rw w1.heap.size w4 (.slice a3 (xs ++ ys).length c3) (xs ++ ys).length ((xs ++ ys).map U)) := Rw.below RA_w3.out hb4
  clear P5_w3 BW_w3 RA_w3
  have R4_w4 : Aside (Rw w3.heap.size w4 (.slice a4 L1.length c4) L1.length (L1.map U)) := hv4
  clear hb4 hv4 CS qc0 qc1
  have lq : w.heap.size < w4.heap.size := by omega
  have qc0 : w4.cell? ⟨w.heap.size, 0, none⟩ = some (.int .i64 a) := by have := P5_w4.out; simp [World.cell?, this]
  have qc1 : w4.cell? ⟨w.heap.size, 1, none⟩ = some (.int .i64 b) := by have := P5_w4.out; simp [World.cell?, this]
  obtain ⟨W4, hW4⟩ : ∃ W, W = w4.alloc (.cells #[.int .i64 s0, .int .i64 s1, .int .i64 s2, .int .i64 s3, .int .i64 s4, .int .i64 s5] 30) := ⟨_, rfl⟩
  have zz4 : W4.heap.size = w4.heap.size + 1 := by rw [hW4]; simp
  have P5_W4 : Aside (W4.heap[w.heap.size]? = some (.cells #[.int .i64 a, .int .i64 b] 23 (0, 0))) := (by rw [hW4]; exact blk_alloc P5_w4.out _)
  have BW_W4 : Aside (Below w.heap.size w W4) := (by rw [hW4]; exact BW_w4.out.alloc (by omega) _)
  have RA_W4 : Aside (Rw w1.heap.size W4 (.slice a3 (xs ++ ys).length c3) (xs ++ ys).length ((xs ++ ys).map U)) := (by rw [hW4]; exact World.ownsRow.alloc RA_w4.out _)
  have R4_W4 : Aside (Rw w3.heap.size W4 (.slice a4 L1.length c4) L1.length (L1.map U)) := (by rw [hW4]; exact World.ownsRow.alloc R4_w4.out _)
  clear P5_w4 BW_w4 RA_w4 R4_w4
  have S4_W4 : Aside (SpB W4 w4.heap.size s0 s1 s2 s3 s4 s5) := (by rw [hW4]; exact SpB.made _ _ _ _ _ _ _)
  have CS := hid (HSY.out _ cap' w.heap.size W4 (HR.out.rd.below BW_W4.out) (by omega))
  go_wp2_with fail
  rw [← hW4]
  refine Calls.mono CS.out ?_
  rintro r w5 ⟨v5, rfl, hv5, hb5⟩
  have z5 := hb5.size
  rw [EQ.out.2.1, EQ.out.2.2.2.2.1]
  rw [EQ.out.2.2.2.2.2.2.2.1] at hv5
  obtain ⟨a5, c5, rfl, hk5, _⟩ := hv5.rd
  have P5_w5 : Aside (w5.heap[w.heap.size]? = some (.cells #[.int .i64 a, .int .i64 b] 23 (0, 0))) := blk_below P5_W4.out hb5
  have BW_w5 : Aside (Below w.heap.size w w5) := BW_W4.out.trans (hb5.mono (by omega))
  have RA_w5 : Aside (Rw w1.heap.size w5 (.slice a3 (xs ++ ys).length c3) (xs ++ ys).length ((xs ++ ys).map U)) := Rw.below RA_W4.out hb5
  have R4_w5 : Aside (Rw w3.heap.size w5 (.slice a4 L1.length c4) L1.length (L1.map U)) := Rw.below R4_W4.out hb5
  have S4_w5 : Aside (SpB w5 w4.heap.size s0 s1 s2 s3 s4 s5) := blk_below S4_W4.out hb5
  clear P5_W4 BW_W4 RA_W4 R4_W4 S4_W4
  have R5_w5 : Aside (Rw W4.heap.size w5 (.slice a5 L2.length c5) L2.length (L2.map U)) := hv5
  clear hb5 hv5 CS qc0 qc1 lq hW4
  have lq : w.heap.size < w5.heap.size := by omega
  have qc0 : w5.cell? ⟨w.heap.size, 0, none⟩ = some (.int .i64 a) := by have := P5_w5.out; simp [World.cell?, this]
  have qc1 : w5.cell? ⟨w.heap.size, 1, none⟩ = some (.int .i64 b) := by have := P5_w5.out; simp [World.cell?, this]
  obtain ⟨W5, hW5⟩ : ∃ W, W = w5.alloc (.cells #[.int .i64 t0, .int .i64 t1, .int .i64 t2, .int .i64 t3, .int .i64 t4, .int .i64 t5] 30) := ⟨_, rfl⟩
  have zz5 : W5.heap.size = w5.heap.size + 1 := by rw [hW5]; simp
  have P5_W5 : Aside (W5.heap[w.heap.size]? = some (.cells #[.int .i64 a, .int .i64 b] 23 (0, 0))) := (by rw [hW5]; exact blk_alloc P5_w5.out _)
  have BW_W5 : Aside (Below w.heap.size w W5) := (by rw [hW5]; exact BW_w5.out.alloc (by omega) _)
  have RA_W5 : Aside (Rw w1.heap.size W5 (.slice a3 (xs ++ ys).length c3) (xs ++ ys).length ((xs ++ ys).map U)) := (by rw [hW5]; exact World.ownsRow.alloc RA_w5.out _)
  have R4_W5 : Aside (Rw w3.heap.size W5 (.slice a4 L1.length c4) L1.length (L1.map U)) := (by rw [hW5]; exact World.ownsRow.alloc R4_w5.out _)
  have S4_W5 : Aside (SpB W5 w4.heap.size s0 s1 s2 s3 s4 s5) := (by rw [hW5]; exact blk_alloc S4_w5.out _)
  have R5_W5 : Aside (Rw W4.heap.size W5 (.slice a5 L2.length c5) L2.length (L2.map U)) := (by rw [hW5]; exact World.ownsRow.alloc R5_w5.out _)
  clear P5_w5 BW_w5 RA_w5 R4_w5 S4_w5 R5_w5
  have S5_W5 : Aside (SpB W5 w5.heap.size t0 t1 t2 t3 t4 t5) := (by rw [hW5]; exact SpB.made _ _ _ _ _ _ _)
  have CS := hid (HSZ.out a3 c3 W5.heap.size W5 (Lt.rd2 (xs := xs ++ ys) RA_W5.out) (Nat.le_refl _))
  go_wp2_with fail
  rw [← hW5]
  refine Calls.mono CS.out ?_
  rintro r w6 ⟨v6, rfl, hv6, hb6⟩
  have z6 := hb6.size
  rw [EQ.out.2.2.1, EQ.out.2.2.2.2.2.1]
  rw [EQ.out.2.2.2.2.2.2.2.2.1] at hv6
  obtain ⟨a6, c6, rfl, hk6, _⟩ := hv6.rd
  have P5_w6 : Aside (w6.heap[w.heap.size]? = some (.cells #[.int .i64 a, .int .i64 b] 23 (0, 0))) := blk_below P5_W5.out hb6
  have BW_w6 : Aside (Below w.heap.size w w6) := BW_W5.out.trans (hb6.mono (by omega))
  have RA_w6 : Aside (Rw w1.heap.size w6 (.slice a3 (xs ++ ys).length c3) (xs ++ ys).length ((xs ++ ys).map U)) := Rw.below RA_W5.out hb6
  have R4_w6 : Aside (Rw w3.heap.size w6 (.slice a4 L1.length c4) L1.length (L1.map U)) := Rw.below R4_W5.out hb6
  have S4_w6 : Aside (SpB w6 w4.heap.size s0 s1 s2 s3 s4 s5) := blk_below S4_W5.out hb6
  have R5_w6 : Aside (Rw W4.heap.size w6 (.slice a5 L2.length c5) L2.length (L2.map U)) := Rw.below R5_W5.out hb6
  have S5_w6 : Aside (SpB w6 w5.heap.size t0 t1 t2 t3 t4 t5) := blk_below S5_W5.out hb6
  clear P5_W5 BW_W5 RA_W5 R4_W5 S4_W5 R5_W5 S5_W5
  have R6_w6 : Aside (Rw W5.heap.size w6 (.slice a6 L3.length c6) L3.length (L3.map U)) := hv6
  clear hb6 hv6 CS qc0 qc1 lq hW5
  obtain ⟨W6, hW6⟩ : ∃ W, W = w6.alloc (.cells #[.int .i64 u0, .int .i64 u1, .int .i64 u2, .int .i64 u3, .int .i64 u4, .int .i64 u5] 30) := ⟨_, rfl⟩
  have zz6 : W6.heap.size = w6.heap.size + 1 := by rw [hW6]; simp
  have P5_W6 : Aside (W6.heap[w.heap.size]? = some (.cells #[.int .i64 a, .int .i64 b] 23 (0, 0))) := (by rw [hW6]; exact blk_alloc P5_w6.out _)
  have BW_W6 : Aside (Below w.heap.size w W6) := (by rw [hW6]; exact BW_w6.out.alloc (by omega) _)
  have RA_W6 : Aside (Rw w1.heap.size W6 (.slice a3 (xs ++ ys).length c3) (xs ++ ys).length ((xs ++ ys).map U)) := (by rw [hW6]; exact World.ownsRow.alloc RA_w6.out _)
  have R4_W6 : Aside (Rw w3.heap.size W6 (.slice a4 L1.length c4) L1.length (L1.map U)) := (by rw [hW6]; exact World.ownsRow.alloc R4_w6.out _)
  have S4_W6 : Aside (SpB W6 w4.heap.size s0 s1 s2 s3 s4 s5) := (by rw [hW6]; exact blk_alloc S4_w6.out _)
  have R5_W6 : Aside (Rw W4.heap.size W6 (.slice a5 L2.length c5) L2.length (L2.map U)) := (by rw [hW6]; exact World.ownsRow.alloc R5_w6.out _)
  have S5_W6 : Aside (SpB W6 w5.heap.size t0 t1 t2 t3 t4 t5) := (by rw [hW6]; exact blk_alloc S5_w6.out _)
  have R6_W6 : Aside (Rw W5.heap.size W6 (.slice a6 L3.length c6) L3.length (L3.map U)) := (by rw [hW6]; exact World.ownsRow.alloc R6_w6.out _)
  clear P5_w6 BW_w6 RA_w6 R4_w6 S4_w6 R5_w6 S5_w6 R6_w6
  have S6_W6 : Aside (SpB W6 w6.heap.size u0 u1 u2 u3 u4 u5) := (by rw [hW6]; exact SpB.made _ _ _ _ _ _ _)
  have R6B : Aside (∀ bb, (Value.slice a6 L3.length c6).ownBlock = some bb → bb < W6.heap.size) := fun bb hbb => (Rw.lt R6_W6.out bb hbb).2.1
  have FIN := Aside.intro BW_W6.out
  by_cases hz1 : E1 = 0
  · by_cases hz2 : E2 = 0
    · subst hz1 hz2
      by_cases hz3 : E3 = 0
      · subst hz3
        obtain ⟨e0, e1, e2, e3, e4, e5⟩ := sift_vals EQ.out.2.2.2.1 EQ.out.1
        obtain ⟨f0, f1, f2, f3, f4, f5⟩ := sift_vals EQ.out.2.2.2.2.1 EQ.out.2.1
        obtain ⟨g0, g1, g2, g3, g4, g5⟩ := sift_vals EQ.out.2.2.2.2.2.1 EQ.out.2.2.1
        have hF1 : L1 = fin xs := by rw [← EQ.out.2.2.2.2.2.2.1]; unfold siftL; rw [if_pos EQ.out.2.2.2.1]
        have hF2 : L2 = fin ys := by rw [← EQ.out.2.2.2.2.2.2.2.1]; unfold siftL; rw [if_pos EQ.out.2.2.2.2.1]
        have hF3 : L3 = fin (xs ++ ys) := by rw [← EQ.out.2.2.2.2.2.2.2.2.1]; unfold siftL; rw [if_pos EQ.out.2.2.2.2.2.1]
        have hF : L1 ++ L2 = L3 := by rw [hF1, hF2, hF3, fin_append]
        have hfc := fin_count (xs ++ ys)
        rw [← hF3, EQ.out.2.2.2.2.2.2.2.2.2.1] at hfc
        obtain ⟨_, hx6, _⟩ := siftE_zero EQ.out.2.2.2.2.2.1
        rw [EQ.out.2.2.2.2.2.2.2.2.2.1] at hx6
        have ha0 : s0 + t0 = u0 := by rw [e0, f0, g0, cn_append]; omega
        have ha1 : s1 + t1 = u1 := by rw [e1, f1, g1, cn_append]; omega
        have ha2 : s2 + t2 = u2 := by rw [e2, f2, g2, cn_append]; omega
        have ha3 : s3 + t3 = u3 := by rw [e3, f3, g3, cn_append]; omega
        have ha4 : s4 + t4 = u4 := by rw [e4, f4, g4, cn_append]; omega
        have ha5 : s5 + t5 = u5 := by rw [e5, f5, g5, List.length_append]; omega
        have hu5 : u5 = ((N : Nat) : Int) := by rw [g5, EQ.out.2.2.2.2.2.2.2.2.2.1]
        subst hu5
        have bs0 : 0 ≤ s0 ∧ s0 ≤ 65536 := by have h1 := cn_le 5 xs; rw [e0]; have h2 := hN; have h3 := hn; have h4 := hm; omega
        have bs1 : 0 ≤ s1 ∧ s1 ≤ 65536 := by have h1 := cn_le 3 xs; rw [e1]; have h2 := hN; have h3 := hn; have h4 := hm; omega
        have bs2 : 0 ≤ s2 ∧ s2 ≤ 65536 := by have h1 := cn_le 4 xs; rw [e2]; have h2 := hN; have h3 := hn; have h4 := hm; omega
        have bs3 : 0 ≤ s3 ∧ s3 ≤ 65536 := by have h1 := cn_le 1 xs; rw [e3]; have h2 := hN; have h3 := hn; have h4 := hm; omega
        have bs4 : 0 ≤ s4 ∧ s4 ≤ 65536 := by have h1 := cn_le 2 xs; rw [e4]; have h2 := hN; have h3 := hn; have h4 := hm; omega
        have bs5 : 0 ≤ s5 ∧ s5 ≤ 65536 := by rw [e5]; have h2 := hN; have h3 := hn; have h4 := hm; omega
        have bt0 : 0 ≤ t0 ∧ t0 ≤ 65536 := by have h1 := cn_le 5 ys; rw [f0]; have h2 := hN; have h3 := hn; have h4 := hm; omega
        have bt1 : 0 ≤ t1 ∧ t1 ≤ 65536 := by have h1 := cn_le 3 ys; rw [f1]; have h2 := hN; have h3 := hn; have h4 := hm; omega
        have bt2 : 0 ≤ t2 ∧ t2 ≤ 65536 := by have h1 := cn_le 4 ys; rw [f2]; have h2 := hN; have h3 := hn; have h4 := hm; omega
        have bt3 : 0 ≤ t3 ∧ t3 ≤ 65536 := by have h1 := cn_le 1 ys; rw [f3]; have h2 := hN; have h3 := hn; have h4 := hm; omega
        have bt4 : 0 ≤ t4 ∧ t4 ≤ 65536 := by have h1 := cn_le 2 ys; rw [f4]; have h2 := hN; have h3 := hn; have h4 := hm; omega
        have bt5 : 0 ≤ t5 ∧ t5 ≤ 65536 := by rw [f5]; have h2 := hN; have h3 := hn; have h4 := hm; omega
        have bu0 : 0 ≤ u0 ∧ u0 ≤ 65536 := by have h1 := cn_le 5 (xs ++ ys); rw [g0]; have h2 := hN; have h3 := hn; have h4 := hm; omega
        have bu1 : 0 ≤ u1 ∧ u1 ≤ 65536 := by have h1 := cn_le 3 (xs ++ ys); rw [g1]; have h2 := hN; have h3 := hn; have h4 := hm; omega
        have bu2 : 0 ≤ u2 ∧ u2 ≤ 65536 := by have h1 := cn_le 4 (xs ++ ys); rw [g2]; have h2 := hN; have h3 := hn; have h4 := hm; omega
        have bu3 : 0 ≤ u3 ∧ u3 ≤ 65536 := by have h1 := cn_le 1 (xs ++ ys); rw [g3]; have h2 := hN; have h3 := hn; have h4 := hm; omega
        have bu4 : 0 ≤ u4 ∧ u4 ≤ 65536 := by have h1 := cn_le 2 (xs ++ ys); rw [g4]; have h2 := hN; have h3 := hn; have h4 := hm; omega
        have HSUM := hid (fun w => sum_any s0 s1 s2 s3 s4 s5 t0 t1 t2 t3 t4 t5 w (by omega) (by omega) (by omega) (by omega) (by omega) (by omega) (by omega) (by omega) (by omega) (by omega) (by omega) (by omega))
        rw [ha0, ha1, ha2, ha3, ha4, ha5] at HSUM
        have hK : (L3.length : Int) + u0 + u1 + u2 = (N : Int) := by rw [g0, g1, g2]; omega
        have hA1 : IntKind.i64.wrap ((L3.length : Int) + u0) = (L3.length : Int) + u0 := B.wraps_i64 _ (by omega) (by omega)
        have hA2 : IntKind.i64.wrap ((L3.length : Int) + u0 + u1) = (L3.length : Int) + u0 + u1 := B.wraps_i64 _ (by omega) (by omega)
        have hA3 : IntKind.i64.wrap ((L3.length : Int) + u0 + u1 + u2) = (N : Int) := by rw [B.wraps_i64 _ (by omega) (by omega)]; exact hK
        have hA4 : IntKind.i64.wrap (N : Int) = (N : Int) := B.wraps_i64 _ (by omega) (by omega)
        have hm3 : u3 = (cn 1 (nz L3) : Nat) := by rw [nz_count 1 (.inl rfl), hF3, fin_cn 1 (.inl rfl), g3]
        have hm4 : u4 = (cn 2 (nz L3) : Nat) := by rw [nz_count 2 (.inr rfl), hF3, fin_cn 2 (.inr rfl), g4]
        have hWf3 : Wf L3 := by rw [hF3]; exact fin_wf EQ.out.2.2.2.2.2.2.2.2.2.2.2.2
        have GQ := (Aside.intro (And.intro hm3 (And.intro hm4 hWf3)))
        clear hm3 hm4 hWf3 hF1 hF2 hF3 hfc e0 e1 e2 e3 e4 e5 f0 f1 f2 f3 f4 f5 g0 g1 g2 g3 g4 g5
        clear ha0 ha1 ha2 ha3 ha4 ha5
        obtain ⟨a7, c7, w7, hap7, hr7, hb7, hkp7, z7⟩ := put W6 W6.heap.size (.slice none 0 0) [] L1 a4 c4 W6.heap.size (World.ownsRow_nil _ _ _ _) (Lt.rd2 (xs := L1) R4_W6.out) (Rw.nilcap R4_W6.out) (by simp; omega) (Nat.le_refl _)
        rw [List.nil_append] at hap7 hr7
        have P5_w7 : Aside (w7.heap[w.heap.size]? = some (.cells #[.int .i64 a, .int .i64 b] 23 (0, 0))) := blk_below P5_W6.out hb7
        have BW_w7 : Aside (Below w.heap.size w w7) := BW_W6.out.trans (hb7.mono (by omega))
        have RA_w7 : Aside (Rw w1.heap.size w7 (.slice a3 (xs ++ ys).length c3) (xs ++ ys).length ((xs ++ ys).map U)) := Rw.below RA_W6.out hb7
        have R4_w7 : Aside (Rw w3.heap.size w7 (.slice a4 L1.length c4) L1.length (L1.map U)) := Rw.below R4_W6.out hb7
        have S4_w7 : Aside (SpB w7 w4.heap.size s0 s1 s2 s3 s4 s5) := blk_below S4_W6.out hb7
        have R5_w7 : Aside (Rw W4.heap.size w7 (.slice a5 L2.length c5) L2.length (L2.map U)) := Rw.below R5_W6.out hb7
        have S5_w7 : Aside (SpB w7 w5.heap.size t0 t1 t2 t3 t4 t5) := blk_below S5_W6.out hb7
        have R6_w7 : Aside (Rw W5.heap.size w7 (.slice a6 L3.length c6) L3.length (L3.map U)) := Rw.below R6_W6.out hb7
        have S6_w7 : Aside (SpB w7 w6.heap.size u0 u1 u2 u3 u4 ((N : Nat) : Int)) := blk_below S6_W6.out hb7
        clear P5_W6 BW_W6 RA_W6 R4_W6 S4_W6 R5_W6 S5_W6 R6_W6 S6_W6
        obtain ⟨a8, c8, w8, hap8, hr8, hb8, hkp8, z8⟩ := put w7 W6.heap.size _ L1 L2 a5 c5 w7.heap.size hr7 (Lt.rd2 (xs := L2) R5_w7.out) (Rw.nilcap R5_w7.out) (by omega) (by omega)
        rw [hF] at hap8 hr8
        clear R4_w7 R5_w7 RA_w7 P5_w7
        have BW_w8 : Aside (Below w.heap.size w w8) := BW_w7.out.trans (hb8.mono (by omega))
        have S4_w8 : Aside (SpB w8 w4.heap.size s0 s1 s2 s3 s4 s5) := hkp8 _ _ _ (by decide) S4_w7.out
        have S5_w8 : Aside (SpB w8 w5.heap.size t0 t1 t2 t3 t4 t5) := hkp8 _ _ _ (by decide) S5_w7.out
        have R6_w8 : Aside (Rw W5.heap.size w8 (.slice a6 L3.length c6) L3.length (L3.map U)) := (row_other R6_w7.out fun bb hbb => hb8.block bb (by have := R6B.out bb hbb; omega))
        have S6_w8 : Aside (SpB w8 w6.heap.size u0 u1 u2 u3 u4 ((N : Nat) : Int)) := hkp8 _ _ _ (by decide) S6_w7.out
        clear BW_w7 S4_w7 S5_w7 R6_w7 S6_w7
        have R8_w8 : Aside (Rw W6.heap.size w8 (.slice a8 L3.length c8) L3.length (L3.map U)) := hr8
        rw [hW6] at hap7
        have AP7 := hid hap7
        have AP8 := hid hap8
        clear hap7 hap8 hr7 hr8 hb7 hb8 hkp7 hkp8
        go_upto_region 17 with (first | (at_builtin; refine wpList_append_run2 rfl (.tmp 73) (.tmp 74) 27 rfl _ _ rfl rfl _ _ AP7.out ?_) | (at_builtin; refine wpList_append_run2 rfl (.tmp 76) (.tmp 77) 27 rfl _ _ rfl rfl _ _ AP8.out ?_))
        clear AP2 AP3 AP7 AP8 HSX HSY HSZ HW
        have y40 := SpB.c0 S4_w8.out
        have y41 := SpB.c1 S4_w8.out
        have y42 := SpB.c2 S4_w8.out
        have y43 := SpB.c3 S4_w8.out
        have y44 := SpB.c4 S4_w8.out
        have y45 := SpB.c5 S4_w8.out
        have y50 := SpB.c0 S5_w8.out
        have y51 := SpB.c1 S5_w8.out
        have y52 := SpB.c2 S5_w8.out
        have y53 := SpB.c3 S5_w8.out
        have y54 := SpB.c4 S5_w8.out
        have y55 := SpB.c5 S5_w8.out
        have y60 := SpB.c0 S6_w8.out
        have y61 := SpB.c1 S6_w8.out
        have y62 := SpB.c2 S6_w8.out
        have y63 := SpB.c3 S6_w8.out
        have y64 := SpB.c4 S6_w8.out
        have y65 := SpB.c5 S6_w8.out
        go_cut [112] from 79 to 112 (fun v wx => v = .bool false ∧ Aside (Below w8.heap.size w8 wx))
        case first =>
          go_region_held3 (fun w' => w'.cell? ⟨w4.heap.size, 0, none⟩ = some (.int .i64 s0) ∧ w'.cell? ⟨w4.heap.size, 1, none⟩ = some (.int .i64 s1) ∧ w'.cell? ⟨w4.heap.size, 2, none⟩ = some (.int .i64 s2) ∧ w'.cell? ⟨w4.heap.size, 3, none⟩ = some (.int .i64 s3) ∧ w'.cell? ⟨w4.heap.size, 4, none⟩ = some (.int .i64 s4) ∧ w'.cell? ⟨w4.heap.size, 5, none⟩ = some (.int .i64 s5) ∧ w'.cell? ⟨w5.heap.size, 0, none⟩ = some (.int .i64 t0) ∧ w'.cell? ⟨w5.heap.size, 1, none⟩ = some (.int .i64 t1) ∧ w'.cell? ⟨w5.heap.size, 2, none⟩ = some (.int .i64 t2) ∧ w'.cell? ⟨w5.heap.size, 3, none⟩ = some (.int .i64 t3) ∧ w'.cell? ⟨w5.heap.size, 4, none⟩ = some (.int .i64 t4) ∧ w'.cell? ⟨w5.heap.size, 5, none⟩ = some (.int .i64 t5) ∧ w'.cell? ⟨w6.heap.size, 0, none⟩ = some (.int .i64 u0) ∧ w'.cell? ⟨w6.heap.size, 1, none⟩ = some (.int .i64 u1) ∧ w'.cell? ⟨w6.heap.size, 2, none⟩ = some (.int .i64 u2) ∧ w'.cell? ⟨w6.heap.size, 3, none⟩ = some (.int .i64 u3) ∧ w'.cell? ⟨w6.heap.size, 4, none⟩ = some (.int .i64 u4) ∧ w'.cell? ⟨w6.heap.size, 5, none⟩ = some (.int .i64 (N : Nat))) (go_keep) (first
            | (go_at_call 23
               with_reducible refine (HSUM.out _).mono ?_
               rintro r x1 ⟨rfl, hb⟩
               have hb1 : Below w8.heap.size w8 x1 := by first | exact hb | exact ((Below.refl _ w8).drew).trans (hb.mono (Nat.le_refl _))
               have S4x : Aside (SpB x1 w4.heap.size s0 s1 s2 s3 s4 s5) := blk_below S4_w8.out hb1
               have S5x : Aside (SpB x1 w5.heap.size t0 t1 t2 t3 t4 t5) := blk_below S5_w8.out hb1
               have S6x : Aside (SpB x1 w6.heap.size u0 u1 u2 u3 u4 ((N : Nat) : Int)) := blk_below S6_w8.out hb1
               have x40 := SpB.c0 S4x.out
               have x41 := SpB.c1 S4x.out
               have x42 := SpB.c2 S4x.out
               have x43 := SpB.c3 S4x.out
               have x44 := SpB.c4 S4x.out
               have x45 := SpB.c5 S4x.out
               have x50 := SpB.c0 S5x.out
               have x51 := SpB.c1 S5x.out
               have x52 := SpB.c2 S5x.out
               have x53 := SpB.c3 S5x.out
               have x54 := SpB.c4 S5x.out
               have x55 := SpB.c5 S5x.out
               have x60 := SpB.c0 S6x.out
               have x61 := SpB.c1 S6x.out
               have x62 := SpB.c2 S6x.out
               have x63 := SpB.c3 S6x.out
               have x64 := SpB.c4 S6x.out
               have x65 := SpB.c5 S6x.out
               have HAL := hid (alikeLists_any L3 a6 a8 L3.length c6 c8 x1.heap.size x1 rfl (by omega) (Lt.rd2 (xs := L3) (Rw.below R6_w8.out hb1)) (Lt.rd2 (xs := L3) (Rw.below R8_w8.out hb1)))
               have HB1 := Aside.intro hb1
               clear hb hb1)
            | (go_at_call 15
               with_reducible refine (Calls.mono HAL.out) ?_
               rintro r x2 ⟨rfl, hb⟩
               have S4z : Aside (SpB x2 w4.heap.size s0 s1 s2 s3 s4 s5) := blk_below S4x.out hb
               have S5z : Aside (SpB x2 w5.heap.size t0 t1 t2 t3 t4 t5) := blk_below S5x.out hb
               have S6z : Aside (SpB x2 w6.heap.size u0 u1 u2 u3 u4 ((N : Nat) : Int)) := blk_below S6x.out hb
               have v40 := SpB.c0 S4z.out
               have v41 := SpB.c1 S4z.out
               have v42 := SpB.c2 S4z.out
               have v43 := SpB.c3 S4z.out
               have v44 := SpB.c4 S4z.out
               have v45 := SpB.c5 S4z.out
               have v50 := SpB.c0 S5z.out
               have v51 := SpB.c1 S5z.out
               have v52 := SpB.c2 S5z.out
               have v53 := SpB.c3 S5z.out
               have v54 := SpB.c4 S5z.out
               have v55 := SpB.c5 S5z.out
               have v60 := SpB.c0 S6z.out
               have v61 := SpB.c1 S6z.out
               have v62 := SpB.c2 S6z.out
               have v63 := SpB.c3 S6z.out
               have v64 := SpB.c4 S6z.out
               have v65 := SpB.c5 S6z.out
               have HB2 := Aside.intro (HB1.out.trans (hb.mono HB1.out.size))
               clear hb))
          all_goals (
            go_wp2_with fail
            go_meet
            case rel => exact ⟨rfl, HB2⟩)
        case rest =>
          obtain ⟨rfl, HB9⟩ := hcut
          obtain ⟨w9, hw9⟩ : ∃ W, W = wc := ⟨_, rfl⟩
          subst hw9
          have z9 := HB9.out.size
          have R6_w9 : Aside (Rw W5.heap.size w9 (.slice a6 L3.length c6) L3.length (L3.map U)) := Rw.below R6_w8.out HB9.out
          have S6_w9 : Aside (SpB w9 w6.heap.size u0 u1 u2 u3 u4 ((N : Nat) : Int)) := blk_below S6_w8.out HB9.out
          have BW_w9 : Aside (Below w.heap.size w w9) := BW_w8.out.trans (HB9.out.mono (by omega))
          clear R6_w8 S6_w8 BW_w8 R8_w8 S4_w8 S5_w8 HB9 HSUM hA1 hA2 hA3 hA4 hK y40 y41 y42 y43 y44 y45 y50 y51 y52 y53 y54 y55 y60 y61 y62 y63 y64 y65
          go_wp2
          go_loopg [19, 20] L3.length (fun gk lv iv wr => ∃ (i : Nat), gk + i = L3.length ∧ iv = .int .i64 (i : Nat) ∧ Aside (Rw w9.heap.size wr lv (nz (L3.take i)).length ((nz (L3.take i)).map U) ∧ Below w9.heap.size w9 wr ∧ w9.heap.size ≤ wr.heap.size))
          case atStart => exact ⟨0, by omega, rfl, World.ownsRow_nil _ _ _ _, Below.refl _ _, Nat.le_refl _⟩
          case round =>
            obtain ⟨i, hi, rfl, HA⟩ := hrel
            by_cases hin : i = L3.length
            · obtain rfl : gk = 0 := by omega
              obtain ⟨hrow, hbel, hwl⟩ := HA.out
              have eT : L3.take i = L3 := List.take_of_length_le (by omega)
              rw [eT] at hrow
              obtain ⟨Z, hZ⟩ : ∃ Z, nz L3 = Z := ⟨_, rfl⟩
              obtain ⟨hm3, hm4, hWf3⟩ := GQ.out
              have lZ : Z.length ≤ 65536 := by have h1 := nz_le L3; rw [hZ] at h1; omega
              have hkZ : ∀ x ∈ Z, kd x = 1 ∨ kd x = 2 := by rw [← hZ]; exact nz_kd
              have hwZ : Wf Z := by rw [← hZ]; exact nz_wf hWf3
              rw [hZ] at hrow hm3 hm4
              obtain ⟨aZ, cZ, hform⟩ := Rw.form hrow
              subst hform
              have BWr : Aside (Below w.heap.size w wr) := BW_w9.out.trans (hbel.mono (by omega))
              have S6r : Aside (SpB wr w6.heap.size u0 u1 u2 u3 u4 ((N : Nat) : Int)) := blk_below S6_w9.out hbel
              have RZr : Aside (Rw w9.heap.size wr (.slice aZ Z.length cZ) Z.length (Z.map U)) := hrow
              obtain ⟨q1, hq1⟩ : ∃ q, cn 1 Z = q := ⟨_, rfl⟩
              obtain ⟨q2, hq2⟩ : ∃ q, cn 2 Z = q := ⟨_, rfl⟩
              obtain ⟨hEZ, hSZ⟩ := sift_two Z hkZ lZ
              obtain ⟨h12, _⟩ := cn_two Z hkZ
              have hNT := nought_tt Z hkZ lZ
              rw [hq1] at hSZ h12 hNT hm3
              rw [hq2] at hSZ h12 hNT hm4
              have hfin : siftL 0 0 Z = Z := by unfold siftL; rw [if_pos hEZ, fin_two Z hkZ]
              subst hm3 hm4
              have HN := hid (fun w => Nought_any 0 0 0 (q1 : Nat) (q2 : Nat) (Z.length : Nat) 0 w)
              rw [hNT] at HN
              have h12' : ((q1 : Nat) : Int) + ((q2 : Nat) : Int) = (Z.length : Nat) := by omega
              have HZ := hid (Zero_any true)
              rw [z_true] at HZ
              have HP := hid Plain_any
              have XQ := (Aside.intro (And.intro hEZ (And.intro hSZ (And.intro hkZ (And.intro hwZ hfin)))))
              clear hrow hbel eT hWf3 hZ hkZ hwZ hEZ hSZ h12 hNT hq1 hq2 hfin HA GQ R6_w9 S6_w9 BW_w9 R6B hi
              subst hin
              go_wp2_with fail
              refine (HP.out _).mono ?_
              rintro r w11 ⟨rfl, hb11⟩
              have z11 := hb11.size
              have BW11 : Aside (Below w.heap.size w w11) := BWr.out.trans (hb11.mono (by omega))
              have S611 : Aside (SpB w11 w6.heap.size u0 u1 u2 (q1 : Nat) (q2 : Nat) ((N : Nat) : Int)) := blk_below S6r.out hb11
              have RZ11 : Aside (Rw w9.heap.size w11 (.slice aZ Z.length cZ) Z.length (Z.map U)) := Rw.below RZr.out hb11
              have CS := hid (Sift_any Z aZ Z.length cZ w11.heap.size 0 0 w11 rfl (by omega) XQ.out.2.2.2.1 (Lt.rd2 (xs := Z) RZ11.out) (Nat.le_refl _))
              clear hb11 BWr S6r RZr
              go_wp2_with fail
              refine Calls.mono CS.out ?_
              rintro r w12 ⟨v12, rfl, hv12, hb12⟩
              have z12 := hb12.size
              rw [XQ.out.1, XQ.out.2.1]
              rw [XQ.out.2.2.2.2] at hv12
              obtain ⟨a12, c12, rfl, _⟩ := hv12.rd
              obtain ⟨W12, hW12⟩ : ∃ W, W = w12.alloc (.cells #[.int .i64 0, .int .i64 0, .int .i64 0, .int .i64 (q1 : Nat), .int .i64 (q2 : Nat), .int .i64 (Z.length : Nat)] 30) := ⟨_, rfl⟩
              have zz12 : W12.heap.size = w12.heap.size + 1 := by rw [hW12]; simp
              have hbb : Below w11.heap.size w11 W12 := by rw [hW12]; exact hb12.alloc (by omega) _
              have BW12 : Aside (Below w.heap.size w W12) := BW11.out.trans (hbb.mono (by omega))
              have S612 : Aside (SpB W12 w6.heap.size u0 u1 u2 (q1 : Nat) (q2 : Nat) ((N : Nat) : Int)) := blk_below S611.out hbb
              have RZ12 : Aside (Rw w9.heap.size W12 (.slice aZ Z.length cZ) Z.length (Z.map U)) := Rw.below RZ11.out hbb
              have SV12 : Aside (SpB W12 w12.heap.size 0 0 0 (q1 : Nat) (q2 : Nat) (Z.length : Nat)) := by rw [hW12]; exact SpB.made _ _ _ _ _ _ _
              clear hbb hb12 hv12 CS BW11 S611 RZ11
              go_wp2_with fail
              rw [← hW12]
              refine (HZ.out _).mono ?_
              rintro r w13 ⟨rfl, hw13⟩
              rw [hw13]
              clear hw13 w13
              have HW12 := Aside.intro hW12
              clear hW12
              go_wp2
              go_loopg [24, 25] Z.length (fun gk tv iv wr => ∃ (i : Nat), gk + i = Z.length ∧ tv = .float .f64 (tt (Z.take i)) ∧ iv = .int .i64 (i : Nat) ∧ wr = W12)
              case atStart => exact ⟨0, by omega, rfl, rfl, rfl⟩
              case round =>
                obtain ⟨i, hi, rfl, rfl, rfl⟩ := hrel
                by_cases hin : i = Z.length
                · obtain rfl : gk = 0 := by omega
                  have eT : Z.take i = Z := List.take_of_length_le (by omega)
                  rw [eT]
                  have d3 := SpB.c3 S612.out
                  have d4 := SpB.c4 S612.out
                  have f0 := SpB.c0 SV12.out
                  have f1 := SpB.c1 SV12.out
                  have f2 := SpB.c2 SV12.out
                  have f3 := SpB.c3 SV12.out
                  have f4 := SpB.c4 SV12.out
                  have f5 := SpB.c5 SV12.out
                  obtain ⟨T, hT⟩ : ∃ T, tt Z = T := ⟨_, rfl⟩
                  rw [hT] at HN ⊢
                  clear eT hT hi
                  subst hin
                  by_cases hz0 : Z.length = 0
                  · rw [if_pos hz0] at HN
                    have hzi : (((Z.length : Nat) : Int) == 0) = true := by rw [beq_iff_eq]; omega
                    have hzn : (Z.length == 0) = true := by rw [beq_iff_eq]; omega
                    clear hz0
                    have HA0 := hid (alike_same 0)
                    go_wp2_with fail
                    refine (HN.out _).mono ?_
                    rintro r w14 ⟨rfl, hb14⟩
                    have FIN := Aside.intro (BW12.out.trans (hb14.mono (by omega)))
                    clear hb14
                    go_wp2_with fail
                    refine (HA0.out _).mono ?_
                    rintro r w15 ⟨rfl, hw15⟩
                    rw [hw15]
                    clear hw15 w15
                    go_wp2
                    go_ret
                    exact ⟨by first | rfl | simp, FIN.out⟩
                  · rw [if_neg hz0] at HN
                    have hzi : (((Z.length : Nat) : Int) == 0) = false := by rw [beq_eq_false_iff_ne]; omega
                    have hzn : (Z.length == 0) = false := by rw [beq_eq_false_iff_ne]; omega
                    clear hz0
                    have HA0 := hid (alike_same T)
                    go_wp2_with fail
                    refine (HN.out _).mono ?_
                    rintro r w14 ⟨rfl, hb14⟩
                    have FIN := Aside.intro (BW12.out.trans (hb14.mono (by omega)))
                    clear hb14
                    go_wp2_with fail
                    refine (HA0.out _).mono ?_
                    rintro r w15 ⟨rfl, hw15⟩
                    rw [hw15]
                    clear hw15 w15
                    go_wp2
                    go_ret
                    exact ⟨by first | rfl | simp, FIN.out⟩
                · have hil : i < Z.length := by omega
                  obtain ⟨bb, off, _, hbo, hcell⟩ := (Lt.rd2 (xs := Z) RZ12.out) (by intro e; rw [e] at hil; simp at hil)
                  subst hbo
                  have hxc := hcell i hil
                  have hxw := XQ.out.2.2.2.1.get i
                  have hxk := XQ.out.2.2.1 (Z.getD i 0) (by rw [List.getD_eq_getElem?_getD, List.getElem?_eq_getElem hil]; exact List.getElem_mem hil)
                  have hts := tt_snoc (Z.take i) (Z.getD i 0) hxw hxk
                  rw [← take_succ' Z i hil] at hts
                  obtain ⟨x, hx⟩ : ∃ x, Z.getD i 0 = x := ⟨_, rfl⟩
                  obtain ⟨t1, ht1⟩ : ∃ x, tt (Z.take i) = x := ⟨_, rfl⟩
                  obtain ⟨t2, ht2⟩ : ∃ x, tt (Z.take (i + 1)) = x := ⟨_, rfl⟩
                  rw [hx] at hxc hts
                  rw [ht1, ht2] at hts
                  rw [ht1]
                  have dd := run_float_arith (P := Try.prog) wr .add 41 .f64 t1 x t2 hts
                  have HT2 := Aside.intro ht2
                  clear hcell hxw hxk hts hx ht1 ht2 hin
                  go_wp2_with (simp only [dd])
                  go_roundg (Z.length - (i + 1))
                  case measure => omega
                  case rel => exact ⟨i + 1, by omega, by rw [HT2.out], by first | go_num | (congr 1; omega), rfl⟩
            · have hil : i < L3.length := by omega
              obtain ⟨hrow, hbel, hwl⟩ := HA.out
              obtain ⟨bb, off, _, hbo, hcell⟩ := (Lt.rd2 (xs := L3) (Rw.below R6_w9.out hbel)) (by intro e; rw [e] at hil; simp at hil)
              subst hbo
              have hxc := hcell i hil
              have hxw := GQ.out.2.2.get i
              have hio := isz_eq _ hxw
              obtain ⟨x, hx⟩ : ∃ x, L3.getD i 0 = x := ⟨_, rfl⟩
              rw [hx] at hxc hio
              rcases hs : isz x with _ | _
              · rw [hs] at hio
                have HI : Aside (Rw w9.heap.size wr u19 (nz (L3.take (i + 1))).length ((nz (L3.take (i + 1))).map U) ∧ Below w9.heap.size w9 wr ∧ w9.heap.size ≤ wr.heap.size) := by
                  rw [nz_out L3 i hil (by rw [hx]; exact hs)]; exact ⟨hrow, hbel, hwl⟩
                clear hrow hbel hcell hxw hx hs hin
                go_wp2
                go_roundg (L3.length - (i + 1))
                case measure => omega
                case rel => exact ⟨i + 1, by omega, by first | go_num | (congr 1; omega), HI⟩
              · rw [hs] at hio
                obtain ⟨v', w10, hap, hrow10, hb10, _, hsz10⟩ := push w9.heap.size wr u19 (nz (L3.take i)) x hrow (by have h1 := nz_le (L3.take i); rw [List.length_take] at h1; omega) hwl
                have HI : Aside (Rw w9.heap.size w10 v' (nz (L3.take (i + 1))).length ((nz (L3.take (i + 1))).map U) ∧ Below w9.heap.size w9 w10 ∧ w9.heap.size ≤ w10.heap.size) := by
                  rw [nz_in L3 i hil (by rw [hx]; exact hs), hx]; exact ⟨hrow10, hbel.trans hb10, by omega⟩
                have HAP := hid hap
                clear hrow hbel hcell hxw hx hs hin hap hrow10 hb10 hsz10
                go_wp2_with (at_builtin; refine wpList_append_run2 rfl (.tmp 124) (.tmp 129) 27 rfl _ _ rfl rfl _ _ HAP.out ?_)
                go_roundg (L3.length - (i + 1))
                case measure => omega
                case rel => exact ⟨i + 1, by omega, by first | go_num | (congr 1; omega), HI⟩
      · have hl3 := parts_long EQ.out.2.2.2.1 EQ.out.2.2.2.2.1 (by rw [EQ.out.2.2.2.2.2.1]; exact hz3)
        rw [EQ.out.2.2.2.2.2.1, EQ.out.2.2.2.2.2.2.2.2.2.1] at hl3
        obtain ⟨rfl, hl4⟩ := hl3
        have hl5 : (65536 : Int) < (N : Int) := by omega
        go_wp2
        go_ret
        rw [← hW6]
        exact ⟨by first | rfl | (simp; done) | (simp; exact hz3), FIN.out⟩
    · have hz3 : E3 ≠ 0 := fun e => hz2 (by rw [← EQ.out.2.2.2.2.1]; exact (parts_no (by rw [EQ.out.2.2.2.2.2.1]; exact e)).2)
      subst hz1
      have g3 : (E3 == 0) = false := by rw [beq_eq_false_iff_ne]; exact hz3
      have g2 : (E2 == 0) = false := by rw [beq_eq_false_iff_ne]; exact hz2
      go_wp2
      go_ret
      rw [← hW6]
      exact ⟨by first | rfl | (simp; done) | (simp; exact hz3), FIN.out⟩
  · have hz3 : E3 ≠ 0 := fun e => hz1 (by rw [← EQ.out.2.2.2.1]; exact (parts_no (by rw [EQ.out.2.2.2.2.2.1]; exact e)).1)
    have g3 : (E3 == 0) = false := by rw [beq_eq_false_iff_ne]; exact hz3
    have g1 : (E1 == 0) = false := by rw [beq_eq_false_iff_ne]; exact hz1
    go_wp2
    go_ret
    rw [← hW6]
    exact ⟨by first | rfl | (simp; done) | (simp; exact hz3), FIN.out⟩
end Go.Proofs.Ytfocdjfnlbendaa
