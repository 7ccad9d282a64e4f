/- What the document's narrow answers, at every finite number that is no nought and every mode. -/
import Derived.Test.YtedknjiipmppgabRNB
import Derived.Test.YtedknjiipmppgabRN2
import Derived.Test.YtedknjiipmppgabN4
namespace Go.Proofs.Ytedknjiipmppgab
open Go.RowKit
set_option linter.unusedVariables false

theorem wrap_small (n : Int) (h0 : 0 ≤ n) (h1 : n < 18446744073709551616) : IntKind.u64.wrap n = n := wraps_u64 n h0 (by omega)

/-- is one more taken? -/
def upW (rest hf Q : Int) (n t v : Bool) : Bool := if rest = 0 then false else if n then decide (hf < rest) || (decide (rest = hf) && (t || Q % 2 == 1)) else v

theorem bq {a b : Int} (h : a = b) : (a == b) = true := beq_iff_eq.2 h
theorem bn {a b : Int} (h : a ≠ b) : (a == b) = false := beq_eq_false_iff_ne.2 h

theorem rn_allA (s n t v : Bool) (c x g k L st : Int) (hg0 : 0 ≤ g) (hg1 : g < 9007199254740992) (hL : L = (bl g.toNat : Int)) (hx0 : -1074 ≤ x) (hx1 : x ≤ 971) (hA : -149 < st) (hA2 : st ≤ 1100) (hst : L + x - 24 = st) (Q QW rest hf : Int) (hlt : x < st) (h60 : st - x ≤ 60) (q0 : 0 ≤ Q) (q1 : Q < 9007199254740992) (e1 : g / 2 ^ (st - x).toNat = Q) (e2 : IntKind.u64.wrap (Q * 2 ^ (st - x).toNat) = QW) (e3 : IntKind.u64.wrap (g - QW) = rest) (e4 : IntKind.u64.wrap (2 ^ ((st - x).toNat - 1)) = hf) (hf1 : 1 ≤ hf) (HW : ∀ w, Calls Try.prog 37 #[.int .i64 k, .bool s] w fun r w' => r = .returned (.tuple #[.bool n, .bool t, .bool v]) ∧ w' = w) (w : World) :
    Calls Try.prog 36 #[.agg #[.bool s, .int .i64 c, .int .i64 x, .int .u64 g], .int .i64 k] w fun r w' => r = .returned (.tuple #[.int .u64 (Q + ((upW rest hf Q n t v).toNat : Int)), .int .i64 st]) ∧ Below w.heap.size w w' := by
  unfold upW
  by_cases r0 : rest = 0
  · rw [if_pos r0, show Q + ((Bool.false.toNat : Nat) : Int) = Q from by simp]
    exact rnar_restA s n t v c x g k L st hg0 hg1 hL hx0 hx1 hA hA2 hst Q QW rest hf hlt h60 q0 q1 e1 e2 e3 e4 (bn (by omega)) (by omega) (bq r0) HW w
  · rw [if_neg r0]
    have f3 := bn r0
    cases n
    · rw [if_neg (by decide)]
      cases v
      · rw [show Q + ((Bool.false.toNat : Nat) : Int) = Q from by simp]
        by_cases h1 : rest = hf
        · exact rnar_awfeA s t c x g k L st hg0 hg1 hL hx0 hx1 hA hA2 hst Q QW rest hf hlt h60 q0 q1 e1 e2 e3 e4 (bq h1) f3 HW w
        · by_cases h2 : hf < rest
          · exact rnar_awfgA s t c x g k L st hg0 hg1 hL hx0 hx1 hA hA2 hst Q QW rest hf hlt h60 q0 q1 e1 e2 e3 e4 (bn h1) h2 f3 HW w
          · exact rnar_awflA s t c x g k L st hg0 hg1 hL hx0 hx1 hA hA2 hst Q QW rest hf hlt h60 q0 q1 e1 e2 e3 e4 (bn h1) h2 f3 HW w
      · rw [show Q + ((Bool.true.toNat : Nat) : Int) = Q + 1 from by simp]
        by_cases h1 : rest = hf
        · exact rnar_awteA s t c x g k L st hg0 hg1 hL hx0 hx1 hA hA2 hst Q QW rest hf hlt h60 q0 q1 e1 e2 e3 e4 (bq h1) f3 HW w
        · by_cases h2 : hf < rest
          · exact rnar_awtgA s t c x g k L st hg0 hg1 hL hx0 hx1 hA hA2 hst Q QW rest hf hlt h60 q0 q1 e1 e2 e3 e4 (bn h1) h2 f3 HW w
          · exact rnar_awtlA s t c x g k L st hg0 hg1 hL hx0 hx1 hA hA2 hst Q QW rest hf hlt h60 q0 q1 e1 e2 e3 e4 (bn h1) h2 f3 HW w
    · rw [if_pos rfl]
      by_cases h1 : rest = hf
      · rw [decide_eq_false (show ¬ hf < rest by omega), decide_eq_true h1, Bool.false_or, Bool.true_and]
        cases t
        · rw [Bool.false_or]
          cases hp : (Q % 2 == 1)
          · rw [show Q + ((Bool.false.toNat : Nat) : Int) = Q from by simp]
            exact rnar_parfA s v c x g k L st hg0 hg1 hL hx0 hx1 hA hA2 hst Q QW rest hf hlt h60 q0 q1 e1 e2 e3 e4 (bq h1) f3 hp HW w
          · rw [show Q + ((Bool.true.toNat : Nat) : Int) = Q + 1 from by simp]
            exact rnar_partA s v c x g k L st hg0 hg1 hL hx0 hx1 hA hA2 hst Q QW rest hf hlt h60 q0 q1 e1 e2 e3 e4 (bq h1) f3 hp HW w
        · rw [Bool.true_or, show Q + ((Bool.true.toNat : Nat) : Int) = Q + 1 from by simp]
          exact rnar_tieA s v c x g k L st hg0 hg1 hL hx0 hx1 hA hA2 hst Q QW rest hf hlt h60 q0 q1 e1 e2 e3 e4 (bq h1) f3 HW w
      · rw [decide_eq_false h1, Bool.false_and, Bool.or_false]
        by_cases h2 : hf < rest
        · rw [decide_eq_true h2, show Q + ((Bool.true.toNat : Nat) : Int) = Q + 1 from by simp]
          exact rnar_moreA s t v c x g k L st hg0 hg1 hL hx0 hx1 hA hA2 hst Q QW rest hf hlt h60 q0 q1 e1 e2 e3 e4 (bn h1) h2 f3 HW w
        · rw [decide_eq_false h2, show Q + ((Bool.false.toNat : Nat) : Int) = Q from by simp]
          exact rnar_lessA s t v c x g k L st hg0 hg1 hL hx0 hx1 hA hA2 hst Q QW rest hf hlt h60 q0 q1 e1 e2 e3 e4 (bn h1) h2 f3 HW w

theorem rn_allB (s n t v : Bool) (c x g k L : Int) (hg0 : 0 ≤ g) (hg1 : g < 9007199254740992) (hL : L = (bl g.toNat : Int)) (hx0 : -1074 ≤ x) (hx1 : x ≤ 971) (hB : ¬ -149 < L + x - 24) (Q QW rest hf : Int) (hlt : x < (-149)) (h60 : (-149) - x ≤ 60) (q0 : 0 ≤ Q) (q1 : Q < 9007199254740992) (e1 : g / 2 ^ (-149 - x).toNat = Q) (e2 : IntKind.u64.wrap (Q * 2 ^ (-149 - x).toNat) = QW) (e3 : IntKind.u64.wrap (g - QW) = rest) (e4 : IntKind.u64.wrap (2 ^ ((-149 - x).toNat - 1)) = hf) (hf1 : 1 ≤ hf) (HW : ∀ w, Calls Try.prog 37 #[.int .i64 k, .bool s] w fun r w' => r = .returned (.tuple #[.bool n, .bool t, .bool v]) ∧ w' = w) (w : World) :
    Calls Try.prog 36 #[.agg #[.bool s, .int .i64 c, .int .i64 x, .int .u64 g], .int .i64 k] w fun r w' => r = .returned (.tuple #[.int .u64 (Q + ((upW rest hf Q n t v).toNat : Int)), .int .i64 (-149)]) ∧ Below w.heap.size w w' := by
  unfold upW
  by_cases r0 : rest = 0
  · rw [if_pos r0, show Q + ((Bool.false.toNat : Nat) : Int) = Q from by simp]
    exact rnar_restB s n t v c x g k L hg0 hg1 hL hx0 hx1 hB Q QW rest hf hlt h60 q0 q1 e1 e2 e3 e4 (bn (by omega)) (by omega) (bq r0) HW w
  · rw [if_neg r0]
    have f3 := bn r0
    cases n
    · rw [if_neg (by decide)]
      cases v
      · rw [show Q + ((Bool.false.toNat : Nat) : Int) = Q from by simp]
        by_cases h1 : rest = hf
        · exact rnar_awfeB s t c x g k L hg0 hg1 hL hx0 hx1 hB Q QW rest hf hlt h60 q0 q1 e1 e2 e3 e4 (bq h1) f3 HW w
        · by_cases h2 : hf < rest
          · exact rnar_awfgB s t c x g k L hg0 hg1 hL hx0 hx1 hB Q QW rest hf hlt h60 q0 q1 e1 e2 e3 e4 (bn h1) h2 f3 HW w
          · exact rnar_awflB s t c x g k L hg0 hg1 hL hx0 hx1 hB Q QW rest hf hlt h60 q0 q1 e1 e2 e3 e4 (bn h1) h2 f3 HW w
      · rw [show Q + ((Bool.true.toNat : Nat) : Int) = Q + 1 from by simp]
        by_cases h1 : rest = hf
        · exact rnar_awteB s t c x g k L hg0 hg1 hL hx0 hx1 hB Q QW rest hf hlt h60 q0 q1 e1 e2 e3 e4 (bq h1) f3 HW w
        · by_cases h2 : hf < rest
          · exact rnar_awtgB s t c x g k L hg0 hg1 hL hx0 hx1 hB Q QW rest hf hlt h60 q0 q1 e1 e2 e3 e4 (bn h1) h2 f3 HW w
          · exact rnar_awtlB s t c x g k L hg0 hg1 hL hx0 hx1 hB Q QW rest hf hlt h60 q0 q1 e1 e2 e3 e4 (bn h1) h2 f3 HW w
    · rw [if_pos rfl]
      by_cases h1 : rest = hf
      · rw [decide_eq_false (show ¬ hf < rest by omega), decide_eq_true h1, Bool.false_or, Bool.true_and]
        cases t
        · rw [Bool.false_or]
          cases hp : (Q % 2 == 1)
          · rw [show Q + ((Bool.false.toNat : Nat) : Int) = Q from by simp]
            exact rnar_parfB s v c x g k L hg0 hg1 hL hx0 hx1 hB Q QW rest hf hlt h60 q0 q1 e1 e2 e3 e4 (bq h1) f3 hp HW w
          · rw [show Q + ((Bool.true.toNat : Nat) : Int) = Q + 1 from by simp]
            exact rnar_partB s v c x g k L hg0 hg1 hL hx0 hx1 hB Q QW rest hf hlt h60 q0 q1 e1 e2 e3 e4 (bq h1) f3 hp HW w
        · rw [Bool.true_or, show Q + ((Bool.true.toNat : Nat) : Int) = Q + 1 from by simp]
          exact rnar_tieB s v c x g k L hg0 hg1 hL hx0 hx1 hB Q QW rest hf hlt h60 q0 q1 e1 e2 e3 e4 (bq h1) f3 HW w
      · rw [decide_eq_false h1, Bool.false_and, Bool.or_false]
        by_cases h2 : hf < rest
        · rw [decide_eq_true h2, show Q + ((Bool.true.toNat : Nat) : Int) = Q + 1 from by simp]
          exact rnar_moreB s t v c x g k L hg0 hg1 hL hx0 hx1 hB Q QW rest hf hlt h60 q0 q1 e1 e2 e3 e4 (bn h1) h2 f3 HW w
        · rw [decide_eq_false h2, show Q + ((Bool.false.toNat : Nat) : Int) = Q from by simp]
          exact rnar_lessB s t v c x g k L hg0 hg1 hL hx0 hx1 hB Q QW rest hf hlt h60 q0 q1 e1 e2 e3 e4 (bn h1) h2 f3 HW w
end Go.Proofs.Ytedknjiipmppgab
