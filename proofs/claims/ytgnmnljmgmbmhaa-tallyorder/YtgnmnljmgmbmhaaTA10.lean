/- tally: Often. -/
import Derived.Test.YtgnmnljmgmbmhaaTA9
namespace Go.Proofs.Ytgnmnljmgmbmhaa
open Go.RowKit
set_option linter.unusedVariables false
set_option maxRecDepth 20000
set_option linter.unusedSimpArgs false
attribute [local go_sem] B.f64bits B.f64frombits st_float

/-- The entry that was there most often, the first of several. -/
def most1 (m e : Nat × Nat) : Nat × Nat := if m.2 < e.2 then e else m
def mostE (E : List (Nat × Nat)) : Nat × Nat := E.foldl most1 (0, 0)
theorem most_step {E : List (Nat × Nat)} {k : Nat} (hk : k < E.length) : mostE (E.take (k + 1)) = most1 (mostE (E.take k)) (E.getD k (0, 0)) := by
  unfold mostE
  rw [List.take_add_one, List.foldl_append, List.getElem?_eq_getElem hk, List.getD_eq_getElem?_getD, List.getElem?_eq_getElem hk]
  rfl
/-- A block of one entry. -/
def E1 (w : World) (g : Nat) (p : Nat × Nat) : Prop := w.heap[g]? = some (.cells #[.float .f64 p.1, .int .i64 p.2] 50 (0, 0))
theorem E1.lt {w : World} {g : Nat} {p : Nat × Nat} (h : E1 w g p) : g < w.heap.size := (Array.getElem?_eq_some_iff.1 h).1
theorem E1.c0 {w : World} {g : Nat} {p : Nat × Nat} (h : E1 w g p) : w.cell? ⟨g, 0, none⟩ = some (.float .f64 p.1) := by unfold E1 at h; simp [World.cell?, h]
theorem E1.c1 {w : World} {g : Nat} {p : Nat × Nat} (h : E1 w g p) : w.cell? ⟨g, 1, none⟩ = some (.int .i64 p.2) := by unfold E1 at h; simp [World.cell?, h]
theorem E1.fz {w : World} {g : Nat} {p : Nat × Nat} (h : E1 w g p) (i : Nat) : w.frozen? ⟨g, i, none⟩ = false := by unfold E1 at h; simp [World.frozen?, h]
theorem E1.below {w w' : World} {g B : Nat} {p : Nat × Nat} (h : E1 w g p) (hg : g < B) (hb : Below B w w') : E1 w' g p := by unfold E1 at h ⊢; rw [hb.block g hg]; exact h
theorem E1.set {w : World} {g : Nat} {p : Nat × Nat} (h : E1 w g p) (q : Nat × Nat) : E1 ((w.setCell ⟨g, 0, none⟩ (.float .f64 q.1)).setCell ⟨g, 1, none⟩ (.int .i64 q.2)) g q := by
  unfold E1 at h ⊢
  simp only [World.setCell, Array.getElem?_modify, h]
  simp
theorem E1.new (w : World) (p : Nat × Nat) : E1 (w.alloc (.cells #[.float .f64 p.1, .int .i64 p.2] 50)) w.heap.size p := (MapKept.heap_alloc w _).1

structure Of18 (w wr : World) (a : Option Addr) (E : List (Nat × Nat)) (k : Nat) : Prop where
  res : E1 wr w.heap.size (0, 0)
  mo : E1 wr (w.heap.size + 1) (mostE (E.take k))
  er : Er wr a E
  ge : ∀ g o s, a = some ⟨g, o, s⟩ → w.heap.size + 2 ≤ g
  bel : Below w.heap.size w wr

theorem Er.ch {s : Nat → Prop} {w w' : World} {a : Option Addr} {E : List (Nat × Nat)} (h : Er w a E) (hc : Ch s w w') (hs : ∀ g o p, a = some ⟨g, o, p⟩ → ¬ s g) : Er w' a E := by
  intro hne
  obtain ⟨g, h1, h2, h3⟩ := h hne
  have e := hc.block g h2 (hs g 0 none h1)
  exact ⟨g, h1, Nat.lt_of_lt_of_le h2 hc.size, fun i hi => ⟨(World.cell?_of_block (a := ⟨g, i * 2, none⟩) e).trans (h3 i hi).1, (World.cell?_of_block (a := ⟨g, i * 2 + 1, none⟩) e).trans (h3 i hi).2⟩⟩
theorem E1.ch {s : Nat → Prop} {w w' : World} {g : Nat} {p : Nat × Nat} (h : E1 w g p) (hc : Ch s w w') (hs : ¬ s g) : E1 w' g p := by
  unfold E1; rw [hc.block g h.lt hs]; exact h
theorem Ch.alloc {s : Nat → Prop} (w : World) (o : Obj) : Ch s w (w.alloc o) := Ch.of_grown (World.grownBy_alloc w o none) (fun k e => by cases e)
theorem Of18.more {w wr : World} {a : Option Addr} {E : List (Nat × Nat)} {k k' : Nat} (h : Of18 w wr a E k) (o : Obj) (e : mostE (E.take k') = mostE (E.take k)) : Of18 w (wr.alloc o) a E k' := by
  have hc : Ch (fun _ => False) wr (wr.alloc o) := Ch.alloc wr o
  exact ⟨h.res.ch hc id, by rw [e]; exact h.mo.ch hc id, h.er.ch hc (fun _ _ _ _ => id), h.ge, h.bel.trans (hc.below h.bel.size (fun k e => e.elim))⟩
theorem Of18.put {w wr : World} {a : Option Addr} {E : List (Nat × Nat)} {k k' : Nat} (h : Of18 w wr a E k) {q : Nat × Nat} (e : mostE (E.take k') = q) : Of18 w ((wr.setCell ⟨w.heap.size + 1, 0, none⟩ (.float .f64 q.1)).setCell ⟨w.heap.size + 1, 1, none⟩ (.int .i64 q.2)) a E k' := by
  have hc : Ch (fun k => k = w.heap.size + 1) wr ((wr.setCell ⟨w.heap.size + 1, 0, none⟩ (.float .f64 q.1)).setCell ⟨w.heap.size + 1, 1, none⟩ (.int .i64 q.2)) := Ch.trans (Ch.of_set (s := fun k => k = w.heap.size + 1) ⟨w.heap.size + 1, 0, none⟩ _ rfl) (Ch.of_set (s := fun k => k = w.heap.size + 1) ⟨w.heap.size + 1, 1, none⟩ _ rfl)
  exact ⟨h.res.ch hc (by omega), by rw [e]; exact h.mo.set q, h.er.ch hc (fun g o p e => by have := h.ge g o p e; omega), h.ge, h.bel.trans (hc.below h.bel.size (fun k e => by omega))⟩

set_option maxHeartbeats 4000000 in
theorem often18 {w : World} {g b : Nat} {j : Bool} {L : List Nat} (h : Tm w g b j L) (hl : L.length ≤ 1099511627776) :
    Calls Try.prog 21 #[.pointer (some ⟨g, 0, none⟩)] w fun r w' => (∃ E, IsEnt L E ∧ r = .returned (.tuple #[.agg #[.float .f64 (mostE E).1, .int .i64 (mostE E).2], .bool (decide (0 < (mostE E).2))])) ∧ Below w.heap.size w w' := by
  have hb1 : Below w.heap.size w ((w.alloc (.cells #[.float .f64 0, .int .i64 0] 50)).alloc (.cells #[.float .f64 0, .int .i64 0] 50)) := ((Below.refl _ w).alloc (Nat.le_refl _) _).alloc (by simp) _
  have r0 : E1 ((w.alloc (.cells #[.float .f64 0, .int .i64 0] 50)).alloc (.cells #[.float .f64 0, .int .i64 0] 50)) w.heap.size (0, 0) := by
    have h1 := E1.new w (0, 0)
    exact h1.below (B := w.heap.size + 1) (by omega) ((Below.refl _ _).alloc (by simp) _)
  have r1 : E1 ((w.alloc (.cells #[.float .f64 0, .int .i64 0] 50)).alloc (.cells #[.float .f64 0, .int .i64 0] 50)) (w.heap.size + 1) (0, 0) := by
    have h1 := E1.new (w.alloc (.cells #[.float .f64 0, .int .i64 0] 50)) (0, 0)
    simpa using h1
  have hs : ((w.alloc (.cells #[.float .f64 0, .int .i64 0] 50)).alloc (.cells #[.float .f64 0, .int .i64 0] 50)).heap.size = w.heap.size + 2 := by simp
  have HE := hid (entries18 (h.below hb1) hl)
  have HX := (Aside.intro (And.intro hb1 (And.intro r0 (And.intro r1 (And.intro hs hl)))))
  clear h hl hb1 r0 r1 hs
  go_enter Try.func21, Try.ntmps21
  go_wp2_with (go_at_call 13; refine HE.out.mono ?_; rintro r w1 ⟨⟨v, E, rfl, hO, hE⟩, hb⟩; obtain ⟨a, cap, rfl, hcap, her⟩ := Er.of hO)
  obtain ⟨n, hn⟩ : ∃ n, n = E.length := ⟨_, rfl⟩
  rw [← hn] at hcap hO ⊢
  have hge : ∀ g o s, a = some ⟨g, o, s⟩ → w.heap.size + 2 ≤ g := by
    intro g o s e
    rcases hO.2 with ⟨h1, _⟩ | ⟨g', cap', cur, h1, h2, _⟩
    · injection h1 with h1; rw [e] at h1; cases h1
    · injection h1 with h1; rw [e] at h1; injection h1 with h1; injection h1 with h1
      rw [HX.out.2.2.2.1] at h2; omega
  have hnl : n ≤ 1099511627776 := by
    have h1 := len_sub (E.map (·.1)) L hE.nodup (fun x hx => (hE.keys x).1 hx)
    have := HX.out.2.2.2.2
    simp at h1; omega
  have Y : Aside (Of18 w w1 a E 0) := ⟨HX.out.2.1.below (by rw [HX.out.2.2.2.1]; omega) hb, HX.out.2.2.1.below (by rw [HX.out.2.2.2.1]; omega) hb, her, hge, HX.out.1.trans (Ch.below (Ch.of_below (s := fun _ => False) hb) HX.out.1.size (fun k e => e.elim))⟩
  have YE := (Aside.intro (And.intro hE (And.intro hn hge)))
  clear hb hO her HX HE hE hn hge
  go_loopw [10, 11] (fun i _ wr => ∃ k : Nat, k ≤ n ∧ i = .int .i64 k ∧ Aside (Of18 w wr a E k)) (fun i _ _ => n - (intOf i).toNat)
  case atStart => exact ⟨0, Nat.zero_le _, rfl, Y⟩
  case round =>
    obtain ⟨k, hk, rfl, HR⟩ := hrel
    have m0 := HR.out.mo.c0
    have m1 := HR.out.mo.c1
    have mf0 := HR.out.mo.fz 0
    have mf1 := HR.out.mo.fz 1
    have hB1 := HR.out.mo.lt
    have hB0 := HR.out.res.lt
    by_cases hkn : k < n
    · have d1 : decide ((k : Int) < (n : Int)) = true := by simp; omega
      have hki : k < E.length := by have := YE.out.2.1; omega
      have hne : E ≠ [] := by rintro rfl; simp at hki
      obtain ⟨g, rfl, hg, hc⟩ := HR.out.er hne
      obtain ⟨c0, c1⟩ := hc k hki
      have hst := most_step hki
      have hge := YE.out.2.2 g 0 none rfl
      obtain ⟨q, hq⟩ : ∃ q, q = E.getD k (0, 0) := ⟨_, rfl⟩
      obtain ⟨m, hm⟩ : ∃ m, m = mostE (E.take k) := ⟨_, rfl⟩
      rw [← hq] at c0 c1 hst
      rw [← hm] at m0 m1 hst
      have b0 : (0 : Int) ≤ (k : Int) := by omega
      have b1 : (k : Int) < (n : Int) := by omega
      have hn1 : g ≠ wr.heap.size := by omega
      have hn2 : w.heap.size + 1 ≠ wr.heap.size := by omega
      have hn3 : w.heap.size ≠ wr.heap.size := by omega
      have Z := (Aside.intro (And.intro hst (And.intro hg (And.intro hc (And.intro hge (And.intro hq (And.intro hm hne)))))))
      clear hst hg hc hq hm hne
      by_cases hlt : m.2 < q.2
      · have d2 : decide ((m.2 : Int) < (q.2 : Int)) = true := by simp; omega
        go_wp2
        go_roundw
        case rel =>
          refine ⟨k + 1, by omega, by first | rfl | simp, Aside.intro (Of18.more (HR.out.put (k' := k + 1) ?_) _ rfl)⟩
          rw [Z.out.1]; unfold most1; rw [if_pos hlt]
        case measure => first | (simp [intOf]; omega) | omega
      · have d2 : decide ((m.2 : Int) < (q.2 : Int)) = false := by simp; omega
        go_wp2
        go_roundw
        case rel =>
          refine ⟨k + 1, by omega, by first | rfl | simp, Aside.intro (HR.out.more _ ?_)⟩
          rw [Z.out.1, ← Z.out.2.2.2.2.2.1]; unfold most1; rw [if_neg hlt]
        case measure => first | (simp [intOf]; omega) | omega
    · have d1 : decide ((k : Int) < (n : Int)) = false := by simp; omega
      have hkk : k = n := by omega
      have s0 := HR.out.res.c0
      have s1 := HR.out.res.c1
      have sf0 := HR.out.res.fz 0
      have sf1 := HR.out.res.fz 1
      obtain ⟨m, hm⟩ : ∃ m, m = mostE (E.take k) := ⟨_, rfl⟩
      rw [← hm] at m0 m1
      have HM := Aside.intro hm
      clear hm
      go_wp2
      go_region
      all_goals
        go_wp2
        refine bodyPost_ret (v := .tuple #[.agg #[.float .f64 m.1, .int .i64 m.2], .bool (decide ((0 : Int) < (m.2 : Int)))]) ?_ rfl ?_
        · simp [results, Try.results21, go_sem, s0, s1]
        · have hmm := HM.out
          rw [hkk, YE.out.2.1, List.take_length] at hmm
          rw [hmm]
          have hd : decide ((0 : Int) < (((mostE E).2 : Nat) : Int)) = decide (0 < (mostE E).2) := by
            by_cases h : 0 < (mostE E).2
            · simp [h]
            · simp [h]
          refine ⟨⟨E, YE.out.1, by rw [hd]⟩, ?_⟩
          exact HR.out.bel.trans ((((Ch.of_set (s := fun k => k = w.heap.size) (a := wr.drew) ⟨w.heap.size, 0, none⟩ _ rfl).trans (Ch.of_set ⟨w.heap.size, 1, none⟩ _ rfl)).undrew).below HR.out.bel.size (fun k e => by omega))
end Go.Proofs.Ytgnmnljmgmbmhaa
