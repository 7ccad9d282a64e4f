/- takeOut: how often a divisor goes into what is left, taken out in place. -/
import Derived.Test.YtlhiccmdhnhdeaaDoorW18
import Derived.Test.YtlhiccmdhnhdeaaDoorW3
import Derived.Test.YtlhiccmdhnhdeaaDoorW5
namespace Go.Proofs.YtlhiccmdhnhdeaaDoor
open Go.RowKit
set_option linter.unusedVariables false

theorem take_low (U V P o c m : Nat) (h1 : m + V * o = U + c * P) (hc : c ≤ 1) (h2 : U < (o + 1) * V) (h3 : o * V ≤ U + V) (hm : m < P) (hV : V ≤ P) (h0 : c = 0) : m = U - o * V ∧ m < V ∧ U = o * V + m := by
  subst h0
  rw [Nat.mul_comm V] at h1
  rw [Nat.add_mul, Nat.one_mul] at h2
  refine ⟨by omega, by omega, by omega⟩

theorem take_back (U V P o c m M d : Nat) (h1 : m + V * (o + 1) = U + 1 * P) (h2 : U < (o + 1 + 1) * V) (h3 : (o + 1) * V ≤ U + V) (hm : m < P) (hM : M < P) (hb : M + d * P = m + V) (hd : d ≤ 1) (hU : U < V * 4294967296) (hVP : V * 4294967296 ≤ P * 4294967296) (hV : V ≤ P) :
    U = o * V + M ∧ M < V := by
  rw [Nat.one_mul] at h1
  have e : V * (o + 1) = o * V + V := by grind
  rw [e] at h1
  rw [Nat.add_mul, Nat.one_mul] at h3
  rcases (by omega : d = 0 ∨ d = 1) with rfl | rfl
  · exfalso
    rw [Nat.zero_mul] at hb
    omega
  · rw [Nat.one_mul] at hb
    constructor
    · omega
    · omega

set_option maxHeartbeats 2000000 in
theorem takeOut_any (L bs : List Nat) (g off cap : Nat) (ao : Option Addr) (n capb B : Nat) (w : World) (k : Nat) (hnk : n = k + 2)
    (hO : Own w g L) (hoff : off + (k + 3) ≤ L.length) (hm : k + 2 = bs.length) (hcap : n + 1 ≤ cap) (hbig : n + 1 ≤ 4611686018427387904) (hL : Wf L) (hb : Wf bs) (hR : Rd B w ao bs) (hB : B ≤ g)
    (htop : 2147483648 ≤ bs.getD (k + 1) 0) (hlt : sg L off (k + 3) < val bs * 4294967296) :
    Calls Tryd.prog 125 #[.slice (some ⟨g, off, none⟩) (n + 1) cap, .slice ao n capb] w fun r w' =>
      ∃ o : Nat, ∃ M, r = .returned (.int .u32 (o : Nat)) ∧ o < 4294967296 ∧ Own w' g M ∧ Wf M ∧ Out L M off (n + 1) ∧ sg L off (n + 1) = o * val bs + sg M off (n + 1) ∧ sg M off (n + 1) < val bs ∧ But g w w' := by
  have G := hid (guess_any L bs g off cap ao n capb B w k hnk hO hoff hm hcap (by omega) hL hb hR htop hlt)
  have HH := (Aside.intro (And.intro hO (And.intro hoff (And.intro hm (And.intro hL (And.intro hb (And.intro hR (And.intro hlt hnk))))))))
  clear hO hoff hm hL hb hR hlt hnk htop
  go_enter Tryd.func125, Tryd.ntmps125
  go_wp2_with fail
  refine (Calls.mono G.out) ?_
  rintro r w1 ⟨o, rfl, ho, h2, h3, hbel⟩
  obtain ⟨hO, hoff, hm, hL, hb, hR, hlt, hnk⟩ := HH.out
  have hg := hO.lt
  have hO1 := hO.below hbel hg
  have hR1 : Rd B w1 ao bs := hR.below (hbel.mono (by omega))
  have T := hid (takeTimes_any L bs g off (n + 1) cap ao n capb B o w1 hO1 (by omega) (by omega) rfl hcap hbig hL hb hR1 hB ho)
  have HI := (Aside.intro (And.intro h2 (And.intro h3 hbel)))
  clear hO hoff hm hL hb hR hlt hnk hg hO1 hR1 h2 h3 hbel G
  go_wp2_with fail
  refine (Calls.mono T.out) ?_
  rintro r w2 ⟨M, c, rfl, hc, hO2, hM, hout, hsum, hbut⟩
  obtain ⟨hO, hoff, hm, hL, hb, hR, hlt, hnk⟩ := HH.out
  obtain ⟨h2, h3, hbel⟩ := HI.out
  have e3 : k + 3 = n + 1 := by omega
  rw [e3] at h2 h3 hlt
  have hml := sg_lt M off (n + 1) hM (by rw [hout.1]; omega)
  have hVl := val_lt bs hb
  have hVP : val bs ≤ pw (n + 1) := by
    have := pw_mono (show bs.length ≤ n + 1 by omega)
    omega
  by_cases h0 : c = 0
  · obtain ⟨e, hlt2, hU⟩ := take_low _ _ _ _ _ _ hsum hc h2 h3 hml hVP h0
    have HJ := (Aside.intro (And.intro hO2 (And.intro hM (And.intro hout (And.intro hU (And.intro hlt2 (And.intro hbut hbel)))))))
    subst h0
    clear hO hoff hm hL hb hR hlt hnk h2 h3 hbel hO2 hM hout hsum hbut hml hVl hVP e hlt2 hU T HI e3 hc
    go_wp2
    go_ret
    obtain ⟨hO2, hM, hout, hU, hlt2, hbut, hbel⟩ := HJ.out
    exact ⟨o, M, rfl, ho, hO2, hM, hout, hU, hlt2, (But.refl _ _).of_below hbel |>.trans hbut⟩
  · obtain rfl : c = 1 := by omega
    have ho1 : 1 ≤ o := by
      rcases Nat.eq_zero_or_pos o with h | h
      · subst h; rw [Nat.mul_zero] at hsum; have := sg_lt L off (n + 1) hL (by omega); omega
      · exact h
    obtain ⟨p, hp⟩ : ∃ p, o = p + 1 := ⟨o - 1, by omega⟩
    have hR2 : Rd B w2 ao bs := (hR.below (hbel.mono (by have := hO.lt; omega))).but hbut (by have := hbel.size; have := hO.lt; omega) hB
    have A := hid (addTo_any M bs g off (n + 1) cap ao n capb B w2 hO2 (by rw [hout.1]; omega) (by omega) (by omega) hcap hbig hM hb hR2 hB)
    have HJ := (Aside.intro (And.intro hM (And.intro hout (And.intro hsum (And.intro hbut (And.intro hbel (And.intro h2 (And.intro h3 (And.intro hml (And.intro hVP (And.intro hlt hp)))))))))))
    clear hO hoff hm hL hb hR hlt hnk h2 h3 hbel hO2 hM hout hsum hbut hml hVl hVP T HI hR2 h0 hp e3 hc
    go_wp2_with fail
    refine (Calls.mono A.out) ?_
    rintro r w3 ⟨M2, d, rfl, hd, hO3, hM2, hout2, hsum2, hbut2⟩
    have HK := (Aside.intro (And.intro hd (And.intro hO3 (And.intro hM2 (And.intro hout2 (And.intro hsum2 hbut2))))))
    clear hd hO3 hM2 hout2 hsum2 hbut2 A
    go_wp2
    go_ret
    obtain ⟨hM, hout, hsum, hbut, hbel, h2, h3, hml, hVP, hlt, hp⟩ := HJ.out
    obtain ⟨hd, hO3, hM2, hout2, hsum2, hbut2⟩ := HK.out
    obtain ⟨hO, hoff, hm, hL, hb, hR, hlt', hnk⟩ := HH.out
    have hm2 := sg_lt M2 off (n + 1) hM2 (by rw [hout2.1, hout.1]; omega)
    subst hp
    obtain ⟨hU, hlt2⟩ := take_back _ _ _ p 1 _ _ d hsum h2 h3 hml hm2 hsum2 hd hlt (Nat.mul_le_mul_right _ hVP) hVP
    refine ⟨p, M2, ?_, by omega, hO3, hM2, hout.trans hout2, hU, hlt2, (((But.refl _ _).of_below hbel).trans hbut).trans hbut2⟩
    exact congrArg (fun z => Ending.returned (Value.int IntKind.u32 z)) (by omega)
end Go.Proofs.YtlhiccmdhnhdeaaDoor
