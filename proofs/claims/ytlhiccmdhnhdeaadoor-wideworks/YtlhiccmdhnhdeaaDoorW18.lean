/- guess: a quotient's word, or one more. -/
import Derived.Test.YtlhiccmdhnhdeaaDoorW6
import Derived.Test.YtlhiccmdhnhdeaaDoorM7
import Derived.Deep.RegionWith
namespace Go.Proofs.YtlhiccmdhnhdeaaDoor
open Go.RowKit
set_option linter.unusedVariables false
set_option maxRecDepth 20000

set_option maxHeartbeats 4000000 in
set_option maxRecDepth 20000 in
theorem guess_any (L bs : List Nat) (g off cap : Nat) (ao : Option Addr) (n capb B : Nat) (w : World) (k : Nat) (hnk : n = k + 2)
    (hO : Own w g L) (hoff : off + (k + 3) ≤ L.length) (hm : k + 2 = bs.length) (hcap : n + 1 ≤ cap) (hbig : n ≤ 4611686018427387904) (hL : Wf L) (hb : Wf bs) (hR : Rd B w ao bs)
    (htop : 2147483648 ≤ bs.getD (k + 1) 0) (hlt : sg L off (k + 3) < val bs * 4294967296) :
    Calls Tryd.prog 137 #[.slice (some ⟨g, off, none⟩) (n + 1) cap, .slice ao n capb] w fun r w' =>
      ∃ o : Nat, r = .returned (.int .u32 (o : Nat)) ∧ o < 4294967296 ∧ sg L off (k + 3) < (o + 1) * val bs ∧ o * val bs ≤ sg L off (k + 3) + val bs ∧ Below w.heap.size w w' := by
  obtain ⟨b, boff, hbB, rfl, hbc⟩ := hR (by intro e; subst e; simp at hm)
  have c1 := hbc (k + 1) (by omega)
  have c2 := hbc k (by omega)
  have d0 := hO.cell (off + (k + 2)) (by omega)
  have d1 := hO.cell (off + (k + 1)) (by omega)
  have d2 := hO.cell (off + k) (by omega)
  have en1 : k + 1 = n - 1 := by omega
  have en2 : boff + k = boff + (n - 2) := by omega
  have en3 : off + k = off + (n - 2) := by omega
  have en4 : off + (k + 2) = off + n := by omega
  have en5 : off + (k + 1) = off + (n - 1) := by omega
  have en6 : boff + (k + 1) = boff + (n - 1) := by omega
  have hn2 : 2 ≤ n := by omega
  have b1 := hb.get (k + 1)
  have b2 := hb.get k
  have l0 := hL.get (off + (k + 2))
  have l1 := hL.get (off + (k + 1))
  have l2 := hL.get (off + k)
  obtain ⟨eU, hu⟩ := top_three L off k hL hoff
  obtain ⟨eV, hv⟩ := top_two bs 0 k hb (by omega)
  rw [Nat.zero_add, Nat.zero_add, show k + 2 = bs.length from hm, sg_all] at eV
  have HN := (Aside.intro hnk)
  clear en1
  generalize bs.getD (k + 1) 0 = t1 at *
  generalize bs.getD k 0 = t2 at *
  generalize L.getD (off + (k + 2)) 0 = u0 at *
  generalize L.getD (off + (k + 1)) 0 = u1 at *
  generalize L.getD (off + k) 0 = u2 at *
  generalize sg L off (k + 3) = U at *
  generalize val bs = V at *
  generalize sg L off k = u at *
  generalize sg bs 0 k = v at *
  rw [en6] at c1
  rw [en2] at c2
  rw [en4] at d0
  rw [en5] at d1
  rw [en3] at d2
  have hu0 : u0 ≤ t1 := guess_top 4294967296 (pw k) t1 t2 u0 u1 u2 u v U V eU eV hv b2 hlt
  have hlt1 : 0 < t1 := by omega
  obtain ⟨T, hT⟩ : ∃ T, T = u0 * 4294967296 + u1 := ⟨_, rfl⟩
  have eT : bits BinOp.or IntKind.u64 ((u0 : Int) * 4294967296) (u1 : Int) = (T : Int) := by rw [or64_join u0 u1 l0 l1, hT]
  obtain ⟨o0, ho0⟩ : ∃ o, o = T / t1 := ⟨_, rfl⟩
  obtain ⟨r0, hr0⟩ : ∃ r, r = T % t1 := ⟨_, rfl⟩
  have eo : (T : Int) / (t1 : Int) = (o0 : Int) := by rw [ho0]; simp
  have er : (T : Int) % (t1 : Int) = (r0 : Int) := by rw [hr0]; simp
  have hTl : (T : Int) < 18446744073709551616 := by omega
  have hr0l : r0 < t1 := by rw [hr0]; exact Nat.mod_lt _ hlt1
  have hsum0 : o0 * t1 + r0 = T := by rw [ho0, hr0, Nat.mul_comm]; exact Nat.div_add_mod T t1
  have hmax0 : T * 4294967296 + u2 < (o0 + 1) * (t1 * 4294967296 + t2) := by rw [ho0]; exact guess_first 4294967296 t1 t2 u2 T hlt1 l2
  have ho0l : (o0 : Int) < 18446744073709551616 := by have : o0 ≤ T := by rw [ho0]; exact Nat.div_le_self _ _
                                                      omega
  have HH := (Aside.intro (And.intro hu0 (And.intro hT (And.intro eU (And.intro hu (And.intro eV (And.intro hv (And.intro hsum0 (And.intro hmax0 (And.intro hlt htop))))))))))
  clear en2 en3 en4 en5 en6 hnk
  clear hT ho0 hr0 eU hu eV hv hsum0 hmax0 hlt hR hbc hm hb hL hO hoff htop
  go_enter Tryd.func137, Tryd.ntmps137
  go_wp2
  go_big_region
  go_wp2
  go_big_region
  go_wp2
  have hbw := World.block_lt_of_cell? w _ c2
  have hgw := World.block_lt_of_cell? w _ d2
  go_loopg [8, 9] o0 (fun gk o l wr => ∃ lv : Nat, o = .int .u64 (gk : Nat) ∧ l = .int .u64 (lv : Nat) ∧ lv < 4294967296 ∧ Hid (Below w.heap.size w wr) ∧
      Aside (gk * t1 + lv = T ∧ (4294967296 ≤ gk + 1 ∨ T * 4294967296 + u2 < (gk + 1) * (t1 * 4294967296 + t2))))
  case atStart => exact ⟨r0, by first | rfl | rw [eo], by first | rfl | rw [er], by omega, by first | exact (Below.refl _ _).drew.drew | exact (Below.refl _ _).drew | exact Below.refl _ _, HH.out.2.2.2.2.2.2.1, .inr HH.out.2.2.2.2.2.2.2.1⟩
  case round =>
    obtain ⟨lv, rfl, rfl, hlv, HB, HA⟩ := hrel
    have c2' : wr.cell? ⟨b, boff + (n - 2), none⟩ = some (.int .u32 (t2 : Int)) := (HB.out.cell (p := ⟨b, boff + (n - 2), none⟩) hbw).trans c2
    have d2' : wr.cell? ⟨g, off + (n - 2), none⟩ = some (.int .u32 (u2 : Int)) := (HB.out.cell (p := ⟨g, off + (n - 2), none⟩) hgw).trans d2
    clear c2 d2 c1 d0 d1 hTl eo er
    obtain ⟨hu0, hT, eU, hu, eV, hv, hsum0, hmax0, hlt, htop⟩ := HH.out
    obtain ⟨hsum, hmax⟩ := HA.out
    have hTb : T < t1 * 4294967296 + 4294967296 := by omega
    have hgb : gk ≤ 4294967297 := by
      by_cases h : gk ≤ 4294967297
      · exact h
      · exfalso
        have : 4294967298 * t1 ≤ gk * t1 := Nat.mul_le_mul_right _ (by omega)
        omega
    have HE : Aside (∀ o l, o * t1 + l = T → o * t2 ≤ l * 4294967296 + u2 → o < 4294967296 → (4294967296 ≤ o + 1 ∨ T * 4294967296 + u2 < (o + 1) * (t1 * 4294967296 + t2)) → U < (o + 1) * V ∧ o * V ≤ U + V) := by
      intro o l h1 h2 h3 h4
      rw [← hT] at eU
      exact guess_good 4294967296 o _ _ (pw k) u v U V (pw_pos k) eU hu eV hv (guess_end 4294967296 o t1 t2 l u2 T h1 h2) h4 hlt h3 (by omega)
    have HT := (Aside.intro hTb)
    clear hu0 hT eU hu eV hv hsum0 hmax0 hlt htop hsum hmax hTb
    have hgbi : (gk : Int) ≤ 4294967297 := by omega
    by_cases hbig2 : 4294967295 < gk
    · have hg1 : (4294967295 : Int) < (gk : Int) := by omega
      by_cases hl2 : lv + t1 ≤ 4294967295
      · have hl3 : (lv : Int) + (t1 : Int) ≤ 4294967295 := by omega
        have hl4 : decide ((4294967295 : Int) < (lv : Int) + (t1 : Int)) = false := decide_eq_false (by omega)
        have HG := (Aside.intro (And.intro hbig2 (And.intro hl2 (And.intro hgb hlv))))
        clear hbig2 hl2 hgb
        go_wp2
        go_big_region
        all_goals (
          go_wp2
          go_roundg (gk - 1)
          case measure => have := HG.out.1; omega
          case rel =>
            obtain ⟨hsum, hmax⟩ := HA.out
            obtain ⟨hbig2, hl2, hgb, hlv⟩ := HG.out
            refine ⟨lv + t1, by first | go_num | (congr 1; omega), by first | rfl | go_num, by omega, HB.out.drew, ?_, .inl (by omega)⟩
            obtain ⟨o, rfl⟩ : ∃ o, gk = o + 1 := ⟨gk - 1, by omega⟩
            rw [Nat.add_sub_cancel]
            rw [Nat.add_mul] at hsum
            omega)
      · have hl3 : (4294967295 : Int) < (lv : Int) + (t1 : Int) := by omega
        go_wp2
        go_big_region
        all_goals (
          go_wp2
          go_ret
          obtain ⟨hsum, hmax⟩ := HA.out
          obtain ⟨o, rfl⟩ : ∃ o, gk = o + 1 := ⟨gk - 1, by omega⟩
          have hs2 : o * t1 + (lv + t1) = T := by rw [Nat.add_mul] at hsum; omega
          obtain ⟨hb1, hb2⟩ := guess_break 4294967296 o t1 t2 (lv + t1) u2 T hs2 (by omega) HT.out b2 hlt1
          obtain ⟨h1, h2⟩ := HE.out o (lv + t1) hs2 hb2 hb1 (.inl (by omega))
          refine ⟨o, ?_, hb1, h1, h2, HB.out.drew⟩
          exact congrArg (fun z => Ending.returned (Value.int IntKind.u32 z)) (by omega))
    · have hg1 : (gk : Int) ≤ 4294967295 := by omega
      have hg2 : decide ((4294967295 : Int) < (gk : Int)) = false := by simp; omega
      have hp0 : gk * t2 ≤ 4294967295 * 4294967295 := Nat.mul_le_mul (by omega) (by omega)
      have hp2 : (gk : Int) * (t2 : Int) ≤ 18446744065119617025 := by rw [← Int.natCast_mul]; omega
      have hp1 : 0 ≤ (gk : Int) * (t2 : Int) := by rw [← Int.natCast_mul]; omega
      obtain ⟨lu, hlu⟩ : ∃ lu, lu = lv * 4294967296 + u2 := ⟨_, rfl⟩
      have eL : bits BinOp.or IntKind.u64 ((lv : Int) * 4294967296) (u2 : Int) = (lu : Int) := by rw [or64_join lv u2 hlv l2, hlu]
      have HL := (Aside.intro hlu)
      by_cases hmore : lu < gk * t2
      · have hm1 : (lu : Int) < (gk : Int) * (t2 : Int) := by rw [← Int.natCast_mul]; omega
        have hgk0 : 0 < gk := by
          rcases Nat.eq_zero_or_pos gk with h | h
          · subst h; rw [Nat.zero_mul] at hmore; omega
          · exact h
        by_cases hl2 : lv + t1 ≤ 4294967295
        · have hl3 : (lv : Int) + (t1 : Int) ≤ 4294967295 := by omega
          have hl4 : decide ((4294967295 : Int) < (lv : Int) + (t1 : Int)) = false := decide_eq_false (by omega)
          have HG := (Aside.intro (And.intro hbig2 (And.intro hl2 (And.intro hgb (And.intro hlv hmore)))))
          clear hlu hp0 hbig2 hl2 hgb hmore
          go_wp2
          go_big_region
          all_goals (
            go_wp2
            go_roundg (gk - 1)
            case measure => omega
            case rel =>
              obtain ⟨hsum, hmax⟩ := HA.out
              obtain ⟨hbig2, hl2, hgb, hlv, hmore⟩ := HG.out
              have hno := guess_no 4294967296 gk t1 t2 lv u2 T hsum (by rw [← HL.out]; exact hmore)
              refine ⟨lv + t1, by first | go_num | (congr 1; omega), by first | rfl | go_num, by omega, HB.out.drew, ?_, .inr ?_⟩
              · obtain ⟨o, rfl⟩ : ∃ o, gk = o + 1 := ⟨gk - 1, by omega⟩
                rw [Nat.add_sub_cancel]
                rw [Nat.add_mul] at hsum
                omega
              · rw [show gk - 1 + 1 = gk by omega]; exact hno)
        · have hl3 : (4294967295 : Int) < (lv : Int) + (t1 : Int) := by omega
          clear hlu hp0
          go_wp2
          go_big_region
          all_goals (
            go_wp2
            go_ret
            obtain ⟨hsum, hmax⟩ := HA.out
            have hno := guess_no 4294967296 gk t1 t2 lv u2 T hsum (by rw [← HL.out]; exact hmore)
            obtain ⟨o, rfl⟩ : ∃ o, gk = o + 1 := ⟨gk - 1, by omega⟩
            have hs2 : o * t1 + (lv + t1) = T := by rw [Nat.add_mul] at hsum; omega
            obtain ⟨hb1, hb2⟩ := guess_break 4294967296 o t1 t2 (lv + t1) u2 T hs2 (by omega) HT.out b2 hlt1
            obtain ⟨h1, h2⟩ := HE.out o (lv + t1) hs2 hb2 hb1 (.inr hno)
            refine ⟨o, ?_, hb1, h1, h2, HB.out.drew⟩
            exact congrArg (fun z => Ending.returned (Value.int IntKind.u32 z)) (by omega))
      · have hm1 : (gk : Int) * (t2 : Int) ≤ (lu : Int) := by rw [← Int.natCast_mul]; omega
        have hm2 : decide ((lu : Int) < (gk : Int) * (t2 : Int)) = false := decide_eq_false (by omega)
        have HG := (Aside.intro (And.intro hbig2 (And.intro hgb (And.intro hlv hmore))))
        clear hlu hp0 hbig2 hgb hmore
        go_wp2
        go_big_region
        all_goals (
          go_wp2
          go_ret
          obtain ⟨hsum, hmax⟩ := HA.out
          obtain ⟨hbig2, hgb, hlv, hmore⟩ := HG.out
          obtain ⟨h1, h2⟩ := HE.out gk lv hsum (by rw [← HL.out]; omega) (by omega) hmax
          refine ⟨gk, ?_, by omega, h1, h2, HB.out.drew⟩
          first | rfl | exact congrArg (fun z => Ending.returned (Value.int IntKind.u32 z)) (by omega))
end Go.Proofs.YtlhiccmdhnhdeaaDoor
