/- trim, size: how many words the form has. -/
import Derived.Test.YthilnddhehbjiaaDoorM2
import Derived.Deep.LoopGhost
namespace Go.Proofs.YthilnddhehbjiaaDoor
open Go.RowKit

set_option maxHeartbeats 1000000 in
theorem trim_any (xs : List Nat) (ao : Option Addr) (n cap B : Nat) (w : World) (hn : n = xs.length) (hc : n ≤ cap) (hm : n ≤ 9223372036854775807) (hR : Rd B w ao xs) :
    Calls Tryd.prog 61 #[.slice ao n cap] w fun r w' => r = .returned (.slice ao (nl xs) cap) ∧ w' = w := by
  by_cases hx : xs = []
  · subst hx
    simp at hn
    subst hn
    go_enter Tryd.func61, Tryd.ntmps61
    go_wp2
    go_loopg [0] 0 (fun g s wr => s = .slice ao 0 cap ∧ wr = w)
    case atStart => exact ⟨rfl, rfl⟩
    case round =>
      obtain ⟨rfl, rfl⟩ := hrel
      go_wp2
      go_ret
      exact ⟨rfl, rfl⟩
  · obtain ⟨b, off, hB, rfl, hcell⟩ := hR hx
    have HN : Aside (n = xs.length) := hn
    clear hn hR hx
    go_enter Tryd.func61, Tryd.ntmps61
    go_wp2
    go_loopg [0] n (fun g s wr => g ≤ n ∧ s = .slice (some ⟨b, off, none⟩) g cap ∧ wr = w ∧ Aside (∀ j, g ≤ j → j < n → xs.getD j 0 = 0))
    case atStart => exact ⟨Nat.le_refl _, rfl, rfl, fun j h1 h2 => by omega⟩
    case round =>
      obtain ⟨hk, rfl, rfl, hz⟩ := hrel
      by_cases hk0 : gk = 0
      · subst hk0
        go_wp2
        go_ret
        rw [nl_stop xs 0 (by omega) (fun j h1 h2 => hz.out j h1 (by have := HN.out; omega)) (.inl rfl)]
        exact ⟨rfl, rfl⟩
      · obtain ⟨k, rfl⟩ : ∃ k, gk = k + 1 := ⟨gk - 1, by omega⟩
        have hcx := hcell k (by have := HN.out; omega)
        obtain ⟨x, hxx⟩ : ∃ x : Nat, xs.getD k 0 = x := ⟨_, rfl⟩
        rw [hxx] at hcx
        have HX : Aside (xs.getD k 0 = x) := hxx
        clear hxx hcell hk0
        by_cases h0 : x = 0
        · subst h0
          go_wp2
          go_roundg k
          case measure => omega
          case rel =>
            refine ⟨by omega, rfl, rfl, fun j h1 h2 => ?_⟩
            by_cases hj : j = k
            · subst hj; exact HX.out
            · exact hz.out j (by omega) h2
        · go_wp2
          go_ret
          rw [nl_stop xs (k + 1) (by have := HN.out; omega) (fun j h1 h2 => hz.out j h1 (by have := HN.out; omega)) (.inr (by have := HX.out; rw [Nat.add_sub_cancel, this]; exact h0))]
          exact ⟨rfl, rfl⟩

set_option maxHeartbeats 1000000 in
theorem size_any (xs : List Nat) (ao : Option Addr) (n cap B : Nat) (w : World) (hn : n = xs.length) (hm : n ≤ 9223372036854775807) (hR : Rd B w ao xs) :
    Calls Tryd.prog 111 #[.slice ao n cap] w fun r w' => r = .returned (.int .i64 (nl xs : Nat)) ∧ w' = w := by
  by_cases hx : xs = []
  · subst hx
    simp at hn
    subst hn
    go_enter Tryd.func111, Tryd.ntmps111
    go_wp2
    go_loopg [3] 0 (fun g s wr => s = .int .i64 0 ∧ wr = w)
    case atStart => exact ⟨rfl, rfl⟩
    case round =>
      obtain ⟨rfl, rfl⟩ := hrel
      go_wp2
      go_ret
      exact ⟨rfl, rfl⟩
  · obtain ⟨b, off, hB, rfl, hcell⟩ := hR hx
    have HN : Aside (n = xs.length) := hn
    clear hn hR hx
    go_enter Tryd.func111, Tryd.ntmps111
    go_wp2
    go_loopg [3] n (fun g s wr => g ≤ n ∧ s = .int .i64 (g : Nat) ∧ wr = w ∧ Aside (∀ j, g ≤ j → j < n → xs.getD j 0 = 0))
    case atStart => exact ⟨Nat.le_refl _, rfl, rfl, fun j h1 h2 => by omega⟩
    case round =>
      obtain ⟨hk, rfl, rfl, hz⟩ := hrel
      by_cases hk0 : gk = 0
      · subst hk0
        go_wp2
        go_ret
        rw [nl_stop xs 0 (by omega) (fun j h1 h2 => hz.out j h1 (by have := HN.out; omega)) (.inl rfl)]
        exact ⟨rfl, rfl⟩
      · obtain ⟨k, rfl⟩ : ∃ k, gk = k + 1 := ⟨gk - 1, by omega⟩
        have hcx := hcell k (by have := HN.out; omega)
        obtain ⟨x, hxx⟩ : ∃ x : Nat, xs.getD k 0 = x := ⟨_, rfl⟩
        rw [hxx] at hcx
        have HX : Aside (xs.getD k 0 = x) := hxx
        clear hxx hcell hk0
        by_cases h0 : x = 0
        · subst h0
          go_wp2
          go_roundg k
          case measure => omega
          case rel =>
            refine ⟨by omega, by go_num, rfl, fun j h1 h2 => ?_⟩
            by_cases hj : j = k
            · subst hj; exact HX.out
            · exact hz.out j (by omega) h2
        · go_wp2
          go_ret
          rw [nl_stop xs (k + 1) (by have := HN.out; omega) (fun j h1 h2 => hz.out j h1 (by have := HN.out; omega)) (.inr (by have := HX.out; rw [Nat.add_sub_cancel, this]; exact h0))]
          exact ⟨rfl, rfl⟩
end Go.Proofs.YthilnddhehbjiaaDoor
