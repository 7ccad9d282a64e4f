/- div: a quotient and what is left, in new memory: fewer words than the divisor; a divisor of one word. -/
import Derived.Test.YtlhiccmdhnhdeaaDoorW19
import Derived.Test.YtlhiccmdhnhdeaaDoorW15
import Derived.Test.YtlhiccmdhnhdeaaDoorM8
import Derived.Test.YtlhiccmdhnhdeaaDoorW11
import Derived.Test.YtlhiccmdhnhdeaaDoorW12
namespace Go.Proofs.YtlhiccmdhnhdeaaDoor
open Go.RowKit
set_option linter.unusedVariables false
set_option maxRecDepth 20000

/-- A pair of Nats: a quotient, what is left; each in memory of its own. -/
def Two (lo : Nat) (w : World) (r : Ending) (X Y : Nat) : Prop := ∃ v u, r = .returned (.tuple #[v, u]) ∧ Nt lo w v X ∧ Nt lo w u Y ∧ Apart v u

set_option maxHeartbeats 1000000 in
theorem div_less (xs ys : List Nat) (ao bo : Option Addr) (n cap m capb B : Nat) (w : World) (hn : n = xs.length) (hm : m = ys.length) (hnm : n < m) (hc : n ≤ cap) (hbig : n ≤ 35184372088833)
    (hx : Wf xs) (hy : Wf ys) (htop : ys.getD (m - 1) 0 ≠ 0) (hR : Rd B w ao xs) (hB : B ≤ w.heap.size) :
    Calls Tryd.prog 99 #[.slice ao n cap, .slice bo m capb] w fun r w' => Two w.heap.size w' r (val xs / val ys) (val xs % val ys) ∧ Below w.heap.size w w' := by
  have hlt : val xs < val ys := by
    have h1 := val_lt xs hx
    have h2 : pw (m - 1) ≤ val ys := by
      have e := sg_succ ys 0 (m - 1) (by omega)
      rw [Nat.zero_add, show m - 1 + 1 = ys.length by omega, sg_all] at e
      have := Nat.mul_le_mul_left (pw (m - 1)) (show 1 ≤ ys.getD (m - 1) 0 by omega)
      omega
    have h3 := pw_mono (show xs.length ≤ m - 1 by omega)
    omega
  have N := hid (norm_any xs ao n cap B w hn hc (by omega) hx hR hB)
  have HL := (Aside.intro hlt)
  have hlen : Hid ((ws (val xs)).length ≤ n) := by rw [← nl_eq_length xs hx, hn]; exact nl_le xs
  clear hn hm hx hy htop hR hlt
  go_enter Tryd.func99, Tryd.ntmps99
  go_wp2_with fail
  refine (Calls.mono N.out) ?_
  rintro r w1 ⟨rfl, hO, hb⟩
  have HO := (Aside.intro (And.intro hO hb))
  clear hO hb N
  go_wp2
  go_ret2
  obtain ⟨hO, hb⟩ := HO.out
  rw [Nat.div_eq_of_lt HL.out, Nat.mod_eq_of_lt HL.out]
  refine ⟨⟨_, _, rfl, Nt.nil _ _, ?_, apart_nil _⟩, hb⟩
  have T := Nt.ofOwn (lo := w.heap.size) hO (Nat.le_refl _) (wf_ws _) (by
    have : (ws (val xs)).length ≤ 35184372088833 := by
      have h := hlen.out
      omega
    unfold maxLen; omega)
  rw [val_ws, nl_ws] at T
  exact T

set_option maxHeartbeats 1000000 in
theorem div_one (xs ys : List Nat) (ao bo : Option Addr) (n cap capb B : Nat) (w : World) (hn : n = xs.length) (hm : 1 = ys.length) (hnm : 1 ≤ n) (hc : n ≤ cap) (hcb : 1 ≤ capb) (hbig : n ≤ 35184372088833)
    (hx : Wf xs) (hy : Wf ys) (htop : ys.getD 0 0 ≠ 0) (hR : Rd B w ao xs) (hS : Rd B w bo ys) (hB : B ≤ w.heap.size) :
    Calls Tryd.prog 99 #[.slice ao n cap, .slice bo 1 capb] w fun r w' => Two w.heap.size w' r (val xs / val ys) (val xs % val ys) ∧ Below w.heap.size w w' := by
  have N := hid (norm_any xs ao n cap B w hn hc (by omega) hx hR hB)
  have hlen : (ws (val xs)).length ≤ n := by rw [← nl_eq_length xs hx, hn]; exact nl_le xs
  obtain ⟨b, boff, hbB, rfl, hbc⟩ := hS (by intro e; subst e; simp at hm)
  have hb0 := hbc 0 (by omega)
  rw [Nat.add_zero] at hb0
  have hv : val ys = ys.getD 0 0 := by
    rw [← sg_all ys, ← hm, show (1 : Nat) = 0 + 1 from rfl, sg_succ ys 0 0 (by omega), sg_zero, pw_zero]; simp
  have hyl := hy.get 0
  obtain ⟨y, hyy⟩ : ∃ y, ys.getD 0 0 = y := ⟨_, rfl⟩
  rw [hyy] at hb0 hv hyl htop
  rw [hv]
  obtain ⟨k, hk⟩ : ∃ k, (ws (val xs)).length = k := ⟨_, rfl⟩
  rw [hk] at N hlen
  obtain ⟨X, hX⟩ : ∃ X, val xs = X := ⟨_, rfl⟩
  rw [hX] at N hk ⊢
  have HH := (Aside.intro (And.intro hk hX))
  clear hn hm hx hy hR hS hbc hv hyy hk hX
  go_enter Tryd.func99, Tryd.ntmps99
  go_wp2_with fail
  refine (Calls.mono N.out) ?_
  rintro r w1 ⟨rfl, hO, hb⟩
  have hb1 : w1.cell? ⟨b, boff, none⟩ = some (.int .u32 (y : Int)) := (hb.cell (p := ⟨b, boff, none⟩) (by exact Nat.lt_of_lt_of_le hbB hB)).trans hb0
  have C := hid (cut_any (ws X) w.heap.size 0 k k y w1 hO (by rw [HH.out.1]; omega) (Nat.le_refl _) (by omega) (wf_ws X) hyl (by omega))
  have H1 := (Aside.intro hb)
  clear hO hb N hb0
  go_wp2_with fail
  refine (Calls.mono C.out) ?_
  rintro r w2 ⟨M, c, rfl, hcy, hO2, hM, hout, hsum, hbut⟩
  have hl : M.length = k := by rw [hout.1]; exact HH.out.1
  have T := hid (trim_any M (some ⟨w.heap.size, 0, none⟩) k k (w.heap.size + 1) w2 hl.symm (Nat.le_refl _) (by omega) (by simpa [hl, List.take_of_length_le] using Rd.ofOwn hO2 0 k))
  have H2 := (Aside.intro (And.intro hO2 (And.intro hM (And.intro hout (And.intro hsum (And.intro hbut hl))))))
  clear hO2 hM hout hsum hbut hl C hb1
  go_wp2_with fail
  refine (Calls.mono T.out) ?_
  rintro r w3 ⟨rfl, rfl⟩
  have F := hid (of_any c w3 (by omega))
  clear T
  go_wp2_with fail
  refine (Calls.mono F.out) ?_
  rintro r w4 ⟨vr, rfl, hN4, hb4⟩
  have H4 := (Aside.intro (And.intro hN4 hb4))
  clear hN4 hb4 F
  go_wp2
  go_ret2
  obtain ⟨hO2, hM, hout, hsum, hbut, hl⟩ := H2.out
  obtain ⟨hN4, hb4⟩ := H4.out
  have hb := H1.out
  have hs2 : X = val M * y + c := by
    have e1 : sg (ws X) 0 k = X := by rw [← HH.out.1, sg_all, val_ws]
    have e2 : sg M 0 k = val M := by rw [← hl, sg_all]
    rw [e1, e2] at hsum
    exact hsum
  have hq : X / y = val M := by rw [hs2, Nat.add_comm, Nat.add_mul_div_right _ _ (by omega), Nat.div_eq_of_lt hcy, Nat.zero_add]
  have hr : X % y = c := by rw [hs2, Nat.add_comm, Nat.add_mul_mod_self_right, Nat.mod_eq_of_lt hcy]
  rw [hq, hr]
  have hsz : w.heap.size ≤ w3.heap.size := Nat.le_trans hb.size hbut.size
  have Q := Nt.ofOwn (lo := w.heap.size) hO2 (Nat.le_refl _) hM (by rw [hl]; unfold maxLen; omega)
  rw [hl] at Q
  refine ⟨⟨_, _, rfl, Q.below hb4, hN4.mono hsz, apart_of (hi := 0) Q hN4 (Nat.le_refl _)⟩, ?_⟩
  exact (But.below hb hbut hb.size (Nat.le_refl _)).trans (hb4.mono hsz)
end Go.Proofs.YtlhiccmdhnhdeaaDoor
