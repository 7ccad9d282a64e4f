/- The document's Norm, Len; Formed; pick, few. -/
import Derived.Test.YtonhahbmdekkdaaDoorW26
namespace Go.Proofs.YtonhahbmdekkdaaDoor
open Go.RowKit
set_option linter.unusedVariables false
set_option maxRecDepth 20000

theorem append_words (w : World) (lo : Nat) (v : Value) (n : Nat) (xs src : List Nat) (ao : Option Addr) (m c B : Nat) (ty : TypeId) (hown : w.ownsRow lo 63 1 v n (xs.map U)) (hm : m = src.length) (hR : Rd B w ao src)
    (hnil : ao = none → c = 0) (hbig : n + m ≤ 35184372088832) (hlo : lo ≤ w.heap.size) :
    ∃ v' w', (Builtin.append_ #[23, 23] ty #[v, .slice ao m c]).run Tryd.prog w = .ok v' w' ∧ w'.ownsRow lo 63 1 v' (n + m) ((xs ++ src).map U) ∧ w.grownBy w' v.ownBlock := by
  obtain ⟨i0, hi, hz0, hz1, hz2⟩ := info_parts Tryd.info63
  subst hm
  rcases hao : ao with _ | a
  · have h0 : src = [] := by
      by_cases h : src = []
      · exact h
      · obtain ⟨b, off, _, e, _⟩ := hR h
        rw [hao] at e; cases e
    subst h0
    have hc := hnil hao
    subst hc
    exact ⟨v, w, run_append_owned_none (P := Tryd.prog) w lo 23 ty 63 i0 1 Tryd.underlying23 hi v n _ hown, by simpa using hown, World.grownBy.refl _ _⟩
  · obtain ⟨v', w', h1, h2, h3, _⟩ := run_append_own (P := Tryd.prog) w lo 23 ty 63 i0 (.int .u32 0) 1 4 Tryd.underlying23 hi hz0 hz1 hz2 rfl (by decide) v n (xs.map U) hown a src.length c (src.map U) (by simp) (by
      intro j u hj
      have hj2 : j < src.length := by have := (List.getElem?_eq_some_iff.1 hj).1; simpa using this
      obtain ⟨b, off, _, e, hc⟩ := hR (by intro e; subst e; simp at hj2)
      rw [hao] at e
      cases e
      have hadd : (⟨b, off, none⟩ : Addr).add j = ⟨b, off + j, none⟩ := by unfold Addr.add; split <;> simp_all
      rw [hadd, hc j hj2]
      simp [hj2, U] at hj
      simp [hj2, ← hj]) (by
      intro u hu
      obtain ⟨x, _, rfl⟩ := List.mem_map.1 hu
      rfl) (by unfold maxLen; omega) (by omega) hlo
    exact ⟨v', w', h1, by rw [List.map_append]; exact h2, h3⟩

/-- An append whose run is known, as a law for the walk. -/
theorem wpList_append_run {w : World} {ops : Array Oper} {rest : List Oper} {o : Oper} {a : Act} {Q : Exit → Act → World → Prop} (hgd : o.guard = none) (s x : Operand)
    (ho : o.op = .call { callee := .builtin .append, args := #[s, x], argTypes := #[23, 23] }) (v u : Value) (hs : a.eval s = v) (hx : a.eval x = u) (v' : Value) (w' : World)
    (hrun : (Builtin.append_ #[23, 23] o.type #[v, u]).run Tryd.prog w = .ok v' w') (h : wpList Tryd.prog ops Q rest (a.put o.dst v') w') : wpList Tryd.prog ops Q (o :: rest) a w := by
  refine wpList_plain hgd fun K hK => ?_
  unfold Oper.wp
  simp [execOp, ho, resolve, invoke, builtin, hs, hx, hrun, Result.andThen]
  exact hK _ _ h

set_option maxHeartbeats 1000000 in
theorem rNorm_any (xs : List Nat) (ao : Option Addr) (n cap B : Nat) (w : World) (hn : n = xs.length) (hc : n ≤ cap) (hm : n ≤ 35184372088832) (hx : Wf xs) (hR : Rd B w ao xs) (hnil : ao = none → cap = 0) :
    Calls Tryd.prog 63 #[.slice ao n cap] w fun r w' => ∃ v, r = .returned v ∧ Nt w.heap.size w' v (val xs) ∧ Below w.heap.size w w' := by
  have S := hid (size_any xs ao n cap B w hn (by omega) hR)
  have hl := nl_le xs
  have hf := form_eq xs hx
  obtain ⟨v', w', hap, hown, hgrow⟩ := append_words w w.heap.size (.slice none 0 0) 0 [] (xs.take (nl xs)) ao (nl xs) cap B 23 (World.ownsRow_nil _ _ _ _) (by rw [List.length_take]; omega) (hR.take _) hnil (by omega) (Nat.le_refl _)
  have hN : Nt w.heap.size w' v' (val xs) := by
    unfold Nt
    rw [← hf]
    simpa [Nat.min_eq_left hl] using hown
  have hb : Below w.heap.size w w' := (Below.refl _ _).grown hgrow (Nat.le_refl _) (fun k hk => by simp [Value.ownBlock] at hk)
  have HN := (Aside.intro (And.intro hN hb))
  obtain ⟨k, hk⟩ : ∃ k, nl xs = k := ⟨_, rfl⟩
  rw [hk] at S hap hl
  have hkn : k ≤ n := by omega
  have HZ : Aside (n = 0 → val xs = 0) := by intro h0; have : xs = [] := List.length_eq_zero_iff.1 (by omega); rw [this]; rfl
  clear hN hb hown hgrow hf hl hn hx hR hk
  rcases hao : ao with _ | a
  · have hc0 := hnil hao
    subst hc0
    subst hao
    obtain rfl : n = 0 := by omega
    obtain rfl : k = 0 := by omega
    go_enter Tryd.func63, Tryd.ntmps63
    go_wp2_with fail
    refine (Calls.mono S.out) ?_
    rintro r w1 ⟨rfl, rfl⟩
    go_wp2
    go_ret
    rw [HZ.out (by trivial)]
    exact ⟨_, rfl, Nt.nil _ _, Below.refl _ _⟩
  · subst hao
    go_enter Tryd.func63, Tryd.ntmps63
    go_wp2_with fail
    refine (Calls.mono S.out) ?_
    rintro r w1 ⟨rfl, rfl⟩
    have HAP := hid hap
    clear hap
    go_wp2_with (at_builtin; refine wpList_append_run rfl (.tmp 4) (.tmp 8) rfl _ _ rfl rfl _ _ HAP.out ?_)
    go_ret
    exact ⟨_, rfl, HN.out.1, HN.out.2⟩

theorem bl_half (x : Nat) (h : x ≠ 0) : bl x = bl (x / 2) + 1 := by
  by_cases h1 : x = 1
  · subst h1; decide
  · have hx2 : x / 2 ≠ 0 := by omega
    obtain ⟨c, hc⟩ : ∃ c, bl (x / 2) = c + 1 := ⟨bl (x / 2) - 1, by have := bl_pos _ hx2; omega⟩
    have a := bl_ge _ hx2
    have b := bl_lt (x / 2)
    rw [hc] at a b ⊢
    rw [Nat.add_sub_cancel] at a
    exact bl_eq x (c + 1) (by rw [Nat.pow_succ]; omega) (by rw [Nat.pow_succ]; omega)

set_option maxHeartbeats 1000000 in
theorem rLen_any (xs : List Nat) (ao : Option Addr) (n cap B : Nat) (w : World) (hn : n = xs.length) (hm : n ≤ 70368744177664) (hx : Wf xs) (hR : Rd B w ao xs) :
    Calls Tryd.prog 85 #[.slice ao n cap] w fun r w' => r = .returned (.int .i64 (bl (val xs) : Nat)) ∧ w' = w := by
  have H := hid (size_any xs ao n cap B w hn (by omega) hR)
  have hl := nl_le xs
  rcases hk : nl xs with _ | k
  · rw [(nl_zero_iff xs).1 hk, bl_zero]
    rw [hk] at H
    clear hk hl hn hx hR
    go_enter Tryd.func85, Tryd.ntmps85
    go_wp2_with fail
    refine (Calls.mono H.out) ?_
    rintro r w1 ⟨rfl, rfl⟩
    go_wp2
    go_ret
    exact ⟨rfl, rfl⟩
  · have hbw := bl_words xs hx k hk
    rw [hk] at H hl
    obtain ⟨e, hlt, h0, hl2⟩ := form_top xs hx k hk
    obtain ⟨b, off, hB, rfl, hcell⟩ := hR (by intro e; subst e; simp at hl)
    have hck := hcell k hl2
    obtain ⟨t, ht⟩ : ∃ t, xs.getD k 0 = t := ⟨_, rfl⟩
    have htl : t < 4294967296 := ht ▸ hx.get k
    rw [ht] at hck hbw
    have hb := bl_le32 t htl
    have hkn : k < n := by omega
    have HB := (Aside.intro (And.intro hbw hb))
    clear hk hl hn hx hR e hlt h0 hl2 hcell ht hbw hb
    go_enter Tryd.func85, Tryd.ntmps85
    go_wp2_with fail
    refine (Calls.mono H.out) ?_
    rintro r w1 ⟨rfl, rfl⟩
    go_wp2
    go_loopg [4, 5] t (fun gk bv xv wr => ∃ c : Nat, bv = .int .i64 (c : Nat) ∧ xv = .int .u32 (gk : Nat) ∧ gk ≤ t ∧ c ≤ 32 * k + 32 ∧ wr = w1 ∧ Aside (c + bl gk = 32 * k + bl t))
    case atStart => exact ⟨32 * k, by first | go_num | (congr 1; omega), rfl, Nat.le_refl _, by omega, rfl, rfl⟩
    case round =>
      obtain ⟨c, rfl, rfl, hgt, hc, rfl, HA⟩ := hrel
      by_cases hg0 : gk = 0
      · subst hg0
        go_wp2
        go_ret
        have h1 := HA.out
        rw [bl_zero, Nat.add_zero] at h1
        rw [HB.out.1, ← h1]
        exact ⟨rfl, rfl⟩
      · have hg1 : (0 : Int) < (gk : Int) := by omega
        obtain ⟨g2, hg2⟩ : ∃ g, g = gk / 2 := ⟨_, rfl⟩
        have e2 : (gk : Int) / 2 = (g2 : Int) := by omega
        have HX := (Aside.intro (And.intro hg2 hg0))
        clear hg2 hg0
        go_wp2
        go_roundg g2
        case measure => obtain ⟨hg2, hg0⟩ := HX.out; omega
        case rel =>
          obtain ⟨hg2, hg0⟩ := HX.out
          have h1 := HA.out
          have h2 := bl_half gk hg0
          rw [← hg2] at h2
          have h3 := HB.out.2
          exact ⟨c + 1, by go_num, by first | rfl | rw [e2], by omega, by omega, rfl, by rw [Aside]; omega⟩

end Go.Proofs.YtonhahbmdekkdaaDoor
