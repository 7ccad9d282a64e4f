/- The law's took, and what stays. -/
import Derived.Test.YtonhahbmdekkdaaDoorD28
import Derived.Test.YtonhahbmdekkdaaDoorK41x
import Derived.BigQuiet
import Derived.Deep.RegionHeld3
namespace Go.Proofs.YtonhahbmdekkdaaDoor.K
open Go.RowKit
set_option linter.unusedVariables false
set_option maxRecDepth 20000

set_option maxHeartbeats 8000000 in
theorem took_keep (lo gC gW n : Nat) (its : List It) (curC curW : Array Value) (w0 w : World) (hb : Below lo w0 w) (hs : lo ≤ w.heap.size)
    (hC : w.heap[gC]? = some (.cells curC 38 (0, 0))) (hW : w.heap[gW]? = some (.cells curW 38 (0, 0))) (rC : Row3 curC its It.v) (rW : Row3 curW its It.u)
    (hn : n = its.length) (h0 : 0 < n) (h100 : n ≤ 100) (hN : Nice lo w (its.map It.v)) (hI : ∀ it ∈ its, Nt lo w it.v it.X ∧ Nt lo w it.u it.X ∧ (ws it.X).length ≤ 35184372088000) :
    Calls Tryd.prog 26 #[.slice (some ⟨gC, 0, none⟩) n n, .slice (some ⟨gW, 0, none⟩) n n] w fun r w' => r = .returned (.bool true) ∧ Below lo w0 w' ∧ Keep0 w w' := by
  obtain ⟨W1, hW1⟩ : ∃ W, W = w.alloc (.cells #[.slice none 0 0] 34) := ⟨_, rfl⟩
  have hH : Held lo w0 W1 w.heap.size [] (its.map It.v) := by rw [hW1]; exact Held.made hb hN hs
  have hk1 : Keep w W1 := by rw [hW1]; exact Keep.below (below_alloc w _)
  have HA := (Aside.intro (And.intro hC (And.intro hW (And.intro rC (And.intro rW (And.intro hn (And.intro hI (And.intro hk1 hH))))))))
  clear hb hs hC hW rC rW hn hN hI hk1 hH
  go_enter Tryd.func26, Tryd.ntmps26
  go_wp2
  rw [← hW1]
  clear hW1
  go_loopg [6] n (fun gk iv wr => ∃ i : Nat, gk + i = n ∧ iv = .int .i64 (i : Nat) ∧ Aside (Held lo w0 wr w.heap.size ((its.map It.v).take i) (its.map It.v) ∧ Keep w wr ∧ w.heap.size ≤ wr.heap.size))
  case atStart =>
    obtain ⟨hC, hW, rC, rW, hn, hI, hk1, hH⟩ := HA.out
    exact ⟨0, by omega, rfl, by simpa using hH, hk1, by have := hH.size; have := hH.book; obtain ⟨_, v, hv, _⟩ := this; exact Nat.le_of_lt (Array.getElem?_eq_some_iff.1 hv).1⟩
  case round =>
    obtain ⟨i, hgi, rfl, HR⟩ := hrel
    by_cases hi : i < n
    · obtain ⟨hC, hW, rC, rW, hn, hI, hk1, hH⟩ := HA.out
      obtain ⟨hHd, hK, hsz⟩ := HR.out
      obtain ⟨it, hit⟩ : ∃ it, its[i]? = some it := ⟨its[i]'(by omega), List.getElem?_eq_getElem (by omega)⟩
      obtain ⟨hNv, hNu, hX⟩ := hI it (List.mem_of_getElem? hit)
      obtain ⟨ng, v, e, u, X⟩ := it
      simp only at hNv hNu hX
      obtain ⟨a1, c1, rfl, _⟩ := hNv.arg (by omega)
      obtain ⟨a2, c2, rfl, _⟩ := hNu.arg (by omega)
      obtain ⟨x0, x1, x2⟩ := rC i _ hit
      obtain ⟨y0, y1, y2⟩ := rW i _ hit
      have kC := keep3 hK hC
      have kW := keep3 hK hW
      have g0 : wr.cell? ⟨gC, i * 3, none⟩ = some (.bool ng) := by simp [World.cell?, kC, x0]
      have g1 : wr.cell? ⟨gC, i * 3 + 1, none⟩ = some (.slice a1 (ws X).length c1) := by simp [World.cell?, kC, x1]
      have g2 : wr.cell? ⟨gC, i * 3 + 2, none⟩ = some (.int .i64 e) := by simp [World.cell?, kC, x2]
      have f0 : wr.cell? ⟨gW, i * 3, none⟩ = some (.bool ng) := by simp [World.cell?, kW, y0]
      have f1 : wr.cell? ⟨gW, i * 3 + 1, none⟩ = some (.slice a2 (ws X).length c2) := by simp [World.cell?, kW, y1]
      have f2 : wr.cell? ⟨gW, i * 3 + 2, none⟩ = some (.int .i64 e) := by simp [World.cell?, kW, y2]
      have SM : Hid (∀ u, Below wr.heap.size wr u → Calls Tryd.prog 44 #[.agg #[.bool ng, .slice a1 (ws X).length c1, .int .i64 e], .agg #[.bool ng, .slice a2 (ws X).length c2, .int .i64 e]] u fun r w' => r = .returned (.bool true) ∧ Below u.heap.size u w') := by
        intro u hu
        have A1 := ((hNv.keep hK).below hu).arg' (by omega)
        have A2 := ((hNu.keep hK).below hu).arg' (by omega)
        exact rSame3_any ng e (ws X) a1 a2 (ws X).length c1 c2 u rfl (by omega) A1.2.rd A2.2.rd
      have SI := (Aside.intro (And.intro hHd (And.intro hK (And.intro hsz (And.intro hit (And.intro kC kW))))))
      clear hC hW rC rW hn hI hk1 hH hHd hK hsz hit hNv hNu x0 x1 x2 y0 y1 y2 kC kW
      have hli : (i : Int) < (n : Int) := by omega
      have hl0 : (0 : Int) ≤ (i : Int) := by omega
      go_wp2
      go_region_held3 (fun w' => w'.cell? ⟨gC, i * 3, none⟩ = some (.bool ng) ∧ w'.cell? ⟨gC, i * 3 + 1, none⟩ = some (.slice a1 (ws X).length c1) ∧ w'.cell? ⟨gC, i * 3 + 2, none⟩ = some (.int .i64 e) ∧ w'.cell? ⟨gW, i * 3, none⟩ = some (.bool ng) ∧ w'.cell? ⟨gW, i * 3 + 1, none⟩ = some (.slice a2 (ws X).length c2) ∧ w'.cell? ⟨gW, i * 3 + 2, none⟩ = some (.int .i64 e)) (go_keep) (first
        | (go_at_call 44
           refine (SM.out _ (by first | exact Below.refl _ _ | exact (Below.refl _ _).drew)).mono ?_
           rintro r u3 ⟨rfl, hb3⟩
           have hb13 : Below wr.heap.size wr u3 := by first | exact hb3 | exact ((Below.refl _ wr).drew).trans (hb3.mono (Nat.le_refl _))
           have kC3 := keep3 (Keep.below hb13) SI.out.2.2.2.2.1
           have kW3 := keep3 (Keep.below hb13) SI.out.2.2.2.2.2
           have h30 : u3.cell? ⟨gC, i * 3, none⟩ = some (.bool ng) := (World.cell?_of_block (a := ⟨gC, i * 3, none⟩) (kC3.trans SI.out.2.2.2.2.1.symm)).trans g0
           have h31 : u3.cell? ⟨gC, i * 3 + 1, none⟩ = some (.slice a1 (ws X).length c1) := (World.cell?_of_block (a := ⟨gC, i * 3 + 1, none⟩) (kC3.trans SI.out.2.2.2.2.1.symm)).trans g1
           have h32 : u3.cell? ⟨gC, i * 3 + 2, none⟩ = some (.int .i64 e) := (World.cell?_of_block (a := ⟨gC, i * 3 + 2, none⟩) (kC3.trans SI.out.2.2.2.2.1.symm)).trans g2
           have j30 : u3.cell? ⟨gW, i * 3, none⟩ = some (.bool ng) := (World.cell?_of_block (a := ⟨gW, i * 3, none⟩) (kW3.trans SI.out.2.2.2.2.2.symm)).trans f0
           have j31 : u3.cell? ⟨gW, i * 3 + 1, none⟩ = some (.slice a2 (ws X).length c2) := (World.cell?_of_block (a := ⟨gW, i * 3 + 1, none⟩) (kW3.trans SI.out.2.2.2.2.2.symm)).trans f1
           have j32 : u3.cell? ⟨gW, i * 3 + 2, none⟩ = some (.int .i64 e) := (World.cell?_of_block (a := ⟨gW, i * 3 + 2, none⟩) (kW3.trans SI.out.2.2.2.2.2.symm)).trans f2
           have S3 := Aside.intro hb13
           clear hb3 hb13 kC3 kW3))
      all_goals (
        have T1 := hid (Held.take' (SI.out.1.below3 S3.out) (by have := List.length_take_le i (its.map It.v); omega) a1 (ws X).length c1)
        go_wp2_with fail
        refine (Calls.mono T1.out) ?_
        rintro r u4 ⟨rfl, hH4, hK4, hz4⟩
        have S4 := (Aside.intro (And.intro hH4 (And.intro hK4 hz4)))
        clear hH4 hK4 hz4 T1
        go_wp2
        go_roundg (gk - 1)
        case measure => omega
        case rel =>
          obtain ⟨hH4, hK4, hz4⟩ := S4.out
          obtain ⟨hHd, hK, hsz, hit, kC, kW⟩ := SI.out
          refine ⟨i + 1, by omega, by first | go_num | (congr 1; omega), ?_, (hK.trans (Keep.below S3.out)).trans hK4, by have := S3.out.size; omega⟩
          have e : (its.map It.v).take (i + 1) = (its.map It.v).take i ++ [.slice a1 (ws X).length c1] := by
            rw [List.take_add_one]
            simp [hit]
          rw [e]
          exact hH4)
    · obtain rfl : i = n := by omega
      obtain ⟨hHd, hK, hsz⟩ := HR.out
      have hn := HA.out.2.2.2.2.1
      rw [List.take_of_length_le (by simp; omega)] at hHd
      have OW := hid (owned_keep lo w.heap.size _ wr hHd.book hHd.nice (by simp; omega) (by simp; omega) hHd.size)
      have SK := (Aside.intro (And.intro hHd.below hK))
      clear hHd hK hsz hn
      go_wp2_with fail
      refine (Calls.mono OW.out) ?_
      rintro r u2 ⟨rfl, hb, hk0⟩
      have S2 := (Aside.intro (And.intro hb hk0))
      clear hb OW hk0
      go_wp2
      go_ret
      exact ⟨rfl, SK.out.1.trans S2.out.1, Keep0.trans (fun g cur e h1 h2 h3 h4 => SK.out.2 g cur e h2 h3 h4) S2.out.2⟩
end Go.Proofs.YtonhahbmdekkdaaDoor.K

namespace Go.Proofs.YtonhahbmdekkdaaDoor
open Go.RowKit
set_option linter.unusedVariables false
theorem Dk.keep0 {w w' : World} {g : Nat} {n : Bool} {v : Value} {e : Int} (h : Dk w g n v e) (hk : K.Keep0 w w') : Dk w' g n v e := hk g _ 38 (by decide) (by decide) (by decide) h

def it6 (i1 i2 i3 i4 i5 i6 : It) : List It := [i1, i2, i3, i4, i5, i6]
def flat6 (f : It → Value) (i1 i2 i3 i4 i5 i6 : It) : Array Value := #[.bool i1.neg, f i1, .int .i64 i1.e, .bool i2.neg, f i2, .int .i64 i2.e, .bool i3.neg, f i3, .int .i64 i3.e, .bool i4.neg, f i4, .int .i64 i4.e, .bool i5.neg, f i5, .int .i64 i5.e, .bool i6.neg, f i6, .int .i64 i6.e]
theorem row6 (f : It → Value) (i1 i2 i3 i4 i5 i6 : It) : Row3 (flat6 f i1 i2 i3 i4 i5 i6) (it6 i1 i2 i3 i4 i5 i6) f := by
  intro i it hi
  unfold it6 at hi
  match i, hi with
  | 0, hi | 1, hi | 2, hi | 3, hi | 4, hi | 5, hi => simp at hi; subst hi; exact ⟨rfl, rfl, rfl⟩

theorem took6 (i1 i2 i3 i4 i5 i6 : It) (gC gW : Nat) (w0 w : World) (L : Led w0.heap.size w0 w [i1.v, i2.v, i3.v, i4.v, i5.v, i6.v])
    (hC : w.heap[gC]? = some (.cells (flat6 It.v i1 i2 i3 i4 i5 i6) 38 (0, 0))) (hW : w.heap[gW]? = some (.cells (flat6 It.u i1 i2 i3 i4 i5 i6) 38 (0, 0)))
    (hI : ∀ it ∈ it6 i1 i2 i3 i4 i5 i6, Nt w0.heap.size w it.v it.X ∧ Nt w0.heap.size w it.u it.X ∧ (ws it.X).length ≤ 8192) :
    Calls Tryd.prog 26 #[.slice (some ⟨gC, 0, none⟩) 6 6, .slice (some ⟨gW, 0, none⟩) 6 6] w fun r w' => r = .returned (.bool true) ∧ Below w0.heap.size w0 w' ∧ K.Keep0 w w' :=
  K.took_keep w0.heap.size gC gW 6 (it6 i1 i2 i3 i4 i5 i6) _ _ w0 w L.bel L.size hC hW (row6 _ _ _ _ _ _ _) (row6 _ _ _ _ _ _ _) rfl (by omega) (by omega) L.nice (fun it h => ⟨(hI it h).1, (hI it h).2.1, by have := (hI it h).2.2; omega⟩)
end Go.Proofs.YtonhahbmdekkdaaDoor
