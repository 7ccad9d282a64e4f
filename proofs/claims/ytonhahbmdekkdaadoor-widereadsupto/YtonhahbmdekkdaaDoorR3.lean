/- The document's tenth. -/
import Derived.Test.YtonhahbmdekkdaaDoorW49
namespace Go.Proofs.YtonhahbmdekkdaaDoor
open Go.RowKit
set_option linter.unusedVariables false
set_option maxRecDepth 20000

theorem own_arg {w : World} {g : Nat} {M : List Nat} (h : Own w g M) (hw : Wf M) (hb : M.length ≤ 35184372088832) : Arg w (some ⟨g, 0, none⟩) M.length M.length M := by
  refine ⟨rfl, Nat.le_refl _, hb, hw, ?_, fun e => by cases e⟩
  have := Rd.ofOwn h 0 M.length
  rw [List.drop_zero, List.take_length] at this
  exact this.mono h.lt

set_option maxHeartbeats 4000000 in
theorem rTenth_any {w : World} {a : Option Addr} {n c : Nat} {xs : List Nat} (h1 : Arg w a n c xs) (q : Nat) (hq : q < 4294967296) (hq0 : 0 < q) :
    Calls Tryd.prog 64 #[.slice a n c, .int .u64 (q : Nat)] w fun r w' => ∃ v, r = .returned (.tuple #[v, .int .u64 ((val xs % q : Nat) : Int)]) ∧ Nt w.heap.size w' v (val xs / q) ∧ Below w.heap.size w w' := by
  have hbig := h1.big
  obtain ⟨W1, hW1⟩ : ∃ W, W = w.alloc (.cells (madeCells #[.int .u32 0] n) 63) := ⟨_, rfl⟩
  have hO1 : Own W1 w.heap.size (List.replicate n 0) := by rw [hW1]; exact Own.made w n
  have hB1 : Below w.heap.size w W1 := by rw [hW1]; exact (Below.refl _ _).alloc (Nat.le_refl _) _
  have hmk := make_words (n : Int) n rfl (by omega) w
  rw [← hW1] at hmk
  obtain ⟨g, hg⟩ : ∃ g, g = w.heap.size := ⟨_, rfl⟩
  rw [← hg] at hO1 hmk
  have HR := (Aside.intro (And.intro h1 (And.intro hB1 hg)))
  have HO : Hid (Own W1 g (List.replicate n 0)) := hO1
  clear h1 hO1 hB1 hW1 hg
  have hqi : (0 : Int) < (q : Int) := by omega
  have hqn : ((q : Int) == 0) = false := by simp; omega
  go_enter Tryd.func64, Tryd.ntmps64
  go_wp2
  go_loopg [7, 8] n (fun k c i wr => ∃ (cv : Nat) (M : List Nat), k ≤ n ∧ c = .int .u64 (cv : Nat) ∧ cv < q ∧ i = .int .i64 ((k : Int) - 1) ∧
      Hid (Own wr g M) ∧ Aside (Wf M ∧ M.length = n ∧ sg xs k (n - k) = sg M k (n - k) * q + cv ∧ But g W1 wr))
  case atStart => exact ⟨0, List.replicate n 0, Nat.le_refl _, rfl, hq0, by first | rfl | go_num, HO, Wf.zeros n, by simp, by simp [sg_zero], But.refl _ _⟩
  case round =>
    obtain ⟨cv, M, hk, rfl, hcv, rfl, HM, HA⟩ := hrel
    by_cases hk0 : gk = 0
    · subst hk0
      obtain ⟨hMw, hMl, hMs, hbut⟩ := HA.out
      obtain ⟨h1, hB1, hg⟩ := HR.out
      have eX : val xs = val M * q + cv := by
        rw [Nat.sub_zero] at hMs
        have e1 : sg xs 0 n = val xs := by rw [h1.len, sg_all]
        have e2 : sg M 0 n = val M := by rw [← hMl, sg_all]
        rw [e1, e2] at hMs
        exact hMs
      have hd : val xs / q = val M := by rw [eX, Nat.mul_comm, Nat.mul_add_div hq0, Nat.div_eq_of_lt hcv, Nat.add_zero]
      have hr : val xs % q = cv := by rw [eX, Nat.mul_comm, Nat.mul_add_mod, Nat.mod_eq_of_lt hcv]
      have A := own_arg HM.out hMw (by omega)
      rw [hMl] at A
      have N := hid (rNorm_arg A rfl)
      have HD := (Aside.intro (And.intro hd hr))
      have hbw : Below w.heap.size w wr := But.below hB1 hbut hB1.size (by omega)
      have HB := Aside.intro hbw
      have hs := hbw.size
      clear hMw hMl hMs hbut h1 hB1 hg eX hd hr A hbw HA HR
      go_wp2_with fail
      refine (Calls.mono N.out) ?_
      rintro r w2 ⟨v, rfl, hN, hb⟩
      have S2 := (Aside.intro (And.intro hN hb))
      clear hN hb
      go_wp2
      go_ret2
      rw [HD.out.1, HD.out.2]
      exact ⟨v, rfl, S2.out.1.mono hs, HB.out.trans (S2.out.2.mono hs)⟩
    · obtain ⟨k, rfl⟩ : ∃ k, gk = k + 1 := ⟨gk - 1, by omega⟩
      obtain ⟨h1, hB1, hg⟩ := HR.out
      obtain ⟨hMw, hMl, hMs, hbut⟩ := HA.out
      have hgo := HM.out.cell k (by omega)
      have hgf := HM.out.frozen k
      obtain ⟨old, hold⟩ : ∃ y : Nat, M.getD k 0 = y := ⟨_, rfl⟩
      rw [hold] at hgo
      have hR : Rd w.heap.size wr a xs := (h1.rd.below hB1).but hbut (by have := hB1.size; omega) (by omega)
      obtain ⟨b, off, hb, hae, hc⟩ := hR (by intro e; have := h1.len; rw [e] at this; simp at this; omega)
      subst hae
      have hgc := hc k (by have := h1.len; omega)
      obtain ⟨x, hx⟩ : ∃ x : Nat, xs.getD k 0 = x := ⟨_, rfl⟩
      have hxl : x < 4294967296 := hx ▸ h1.wf.get _
      rw [hx] at hgc
      obtain ⟨t, ht⟩ : ∃ t : Nat, t = cv * 4294967296 + x := ⟨_, rfl⟩
      have e1 : bits BinOp.or IntKind.u64 ((cv : Int) * 4294967296) (x : Int) = (t : Int) := by rw [or64_join cv x (by omega) hxl, ht]
      have ht2 : (t : Int) < 18446744073709551616 := by omega
      have hqlt : t / q < 4294967296 := by
        rw [Nat.div_lt_iff_lt_mul hq0]
        have : cv * 4294967296 + 4294967296 ≤ q * 4294967296 := by omega
        omega
      obtain ⟨s, hs⟩ : ∃ s : Nat, s = t / q := ⟨_, rfl⟩
      obtain ⟨d, hd⟩ : ∃ d : Nat, d = t % q := ⟨_, rfl⟩
      have e2 : (t : Int) / (q : Int) = (s : Int) := by rw [hs]; simp
      have e3 : (t : Int) % (q : Int) = (d : Int) := by rw [hd]; simp
      have hs2 : s < 4294967296 := by omega
      have hdq : d < q := by rw [hd]; exact Nat.mod_lt _ hq0
      have hkn : k < n := by omega
      have hxlen := h1.len
      have he : cv * 4294967296 + x = s * q + d := by rw [hs, hd, ← ht, Nat.mul_comm]; exact (Nat.div_add_mod t q).symm
      have HX := (Aside.intro (And.intro hx (And.intro he hxlen)))
      clear he hx hs hd h1 hB1 hg hMw hMl hMs hbut ht hk0 hqlt hold hR hc hxlen
      go_wp2
      go_roundg k
      case measure => omega
      case rel =>
        obtain ⟨hx, he, hxlen⟩ := HX.out
        obtain ⟨hMw, hMl, hMs, hbut⟩ := HA.out
        refine ⟨d, M.set k s, by omega, by first | rfl | rw [e3], hdq, by first | go_num | (congr 1; omega), HM.out.set k s, hMw.set _ _ hs2, by simpa using hMl, ?_, hbut.set k _⟩
        obtain ⟨r, hr⟩ : ∃ r, n - k = r + 1 := ⟨n - (k + 1), by omega⟩
        have hr2 : n - (k + 1) = r := by omega
        rw [hr2] at hMs
        rw [hr, sg_front xs _ _ (by omega), sg_front _ _ _ (by simp; omega), getD_set_same _ _ _ (by omega), sg_set_below _ _ _ _ _ (by omega) (by omega), hx]
        exact cut_step _ _ _ _ _ _ _ hMs he
end Go.Proofs.YtonhahbmdekkdaaDoor
