/- The document's Owned. -/
import Derived.Test.YtonhahbmdekkdaaDoorW41
namespace Go.Proofs.YtonhahbmdekkdaaDoor
open Go.RowKit
set_option linter.unusedVariables false
set_option maxRecDepth 20000

theorem list_shape {lo : Nat} {w : World} {v : Value} {vs : List Value} (h : w.ownsRow lo 23 1 v vs.length vs) (hm : 0 < vs.length) :
    ∃ g cap, v = .slice (some ⟨g, 0, none⟩) vs.length cap ∧ vs.length ≤ cap := by
  rcases h.2 with ⟨_, h0⟩ | ⟨g, cap, cur, rfl, _, _, hn, _⟩
  · omega
  · exact ⟨g, cap, rfl, hn⟩

theorem list_cell {lo : Nat} {w : World} {g n cap : Nat} {vs : List Value} (h : w.ownsRow lo 23 1 (.slice (some ⟨g, 0, none⟩) n cap) vs.length vs) (i : Nat) (hi : i < vs.length) : w.cell? ⟨g, i, none⟩ = some (nth vs i) := by
  have h1 := h.cells (g := g) (by simp [Value.ownBlock]) i (nth vs i) (by simp [nth, hi])
  have e : (⟨g, 0, none⟩ : Addr).add i = ⟨g, i, none⟩ := by unfold Addr.add; split <;> simp_all
  rw [e] at h1
  exact h1

theorem Rw.cell {lo : Nat} {w : World} {g n cap : Nat} {ys : List Value} (h : Rw lo w (.slice (some ⟨g, 0, none⟩) n cap) n ys) (k : Nat) (u : Value) (hk : ys[k]? = some u) : w.cell? ⟨g, k, none⟩ = some u := by
  have h1 := h.cells (g := g) (by simp [Value.ownBlock]) k u hk
  have e : (⟨g, 0, none⟩ : Addr).add k = ⟨g, k, none⟩ := by unfold Addr.add; split <;> simp_all
  rw [e] at h1
  exact h1

theorem Rw.frozen {lo : Nat} {w : World} {g n cap : Nat} {ys : List Value} (h : Rw lo w (.slice (some ⟨g, 0, none⟩) n cap) n ys) (k : Nat) : w.frozen? ⟨g, k, none⟩ = false := by
  rcases h.2 with ⟨e, _⟩ | ⟨g2, cap2, cur2, e, _, hg2, _⟩
  · cases e
  · cases e
    simp [World.frozen?, hg2]

theorem Rw.shape {lo : Nat} {w : World} {v : Value} {n : Nat} {ys : List Value} (h : Rw lo w v n ys) : ∃ ao cap, v = .slice ao n cap ∧ n ≤ cap ∧ cap ≤ maxLen ∧ (0 < n → ∃ g, ao = some ⟨g, 0, none⟩) := by
  rcases h.2 with ⟨rfl, h0⟩ | ⟨g, cap, cur, rfl, _, _, hn, hm, _⟩
  · exact ⟨none, 0, by rw [h0], by omega, by unfold maxLen; omega, fun h => absurd h (by omega)⟩
  · exact ⟨_, cap, rfl, hn, hm, fun _ => ⟨g, rfl⟩⟩

set_option maxHeartbeats 4000000 in
set_option maxRecDepth 100000 in
theorem owned_any (lo h : Nat) (vs : List Value) (w : World) (hB : Bk lo w h vs) (hN : Nice lo w vs) (hm : 0 < vs.length) (hm2 : vs.length ≤ 100) (hlo : lo ≤ w.heap.size) :
    Calls Tryd.prog 18 #[.pointer (some ⟨h, 0, none⟩)] w fun r w' => r = .returned (.bool true) ∧ Below lo w w' := by
  obtain ⟨hlh, v, hv, hrow⟩ := hB
  have hhl := (Array.getElem?_eq_some_iff.1 hv).1
  obtain ⟨gv, capv, rfl, hcapv⟩ := list_shape hrow hm
  have hvl : ∀ b, (Value.slice (some ⟨gv, 0, none⟩) vs.length capv).ownBlock = some b → b < w.heap.size := by
    intro b hb
    rcases hrow.2 with ⟨e, _⟩ | ⟨g2, cap2, cur2, e, _, hg2, _⟩
    · cases e
    · cases e; cases hb; exact (Array.getElem?_eq_some_iff.1 hg2).1
  have H0 := P1.start hv hrow hN
  obtain ⟨m, hmm⟩ : ∃ m, vs.length = m := ⟨_, rfl⟩
  have HX := (Aside.intro (And.intro hlh (And.intro hlo (And.intro hhl (And.intro hvl (And.intro hN (And.intro hmm H0)))))))
  rw [hmm] at hm hm2 hcapv
  clear hlh hlo hhl hvl hN hv hrow H0
  go_enter Tryd.func18, Tryd.ntmps18
  go_wp2
  go_loopg [3] m (fun gk iv wr => ∃ (i : Nat), gk + i = m ∧ iv = .int .i64 (i : Nat) ∧ Aside (P1 lo h (.slice (some ⟨gv, 0, none⟩) vs.length capv) vs w i 0 wr))
  case atStart => exact ⟨0, by omega, rfl, HX.out.2.2.2.2.2.2⟩
  case round =>
    obtain ⟨i, hi, rfl, HA⟩ := hrel
    have hcb : wr.cell? ⟨h, 0, none⟩ = some (.slice (some ⟨gv, 0, none⟩) vs.length capv) := by simp [World.cell?, HA.out.book]
    rw [hmm] at hcb
    by_cases him : i = m
    · obtain rfl : gk = 0 := by omega
      have him2 : m = i := him.symm
      have H2 : Aside (P2o lo h (.slice (some ⟨gv, 0, none⟩) vs.length capv) vs w 0 (.slice none 0 0) [] wr) := by
        have h1 := HA.out
        rw [him, ← hmm] at h1
        exact P2o.start h1
      clear HA hi him
      subst him2
      go_wp2
      clear hcb
      go_loopg [5, 6] m (fun gk av iv w2 => ∃ (i : Nat) (es : List Value), gk + i = m ∧ iv = .int .i64 (i : Nat) ∧ Aside (P2o lo h (.slice (some ⟨gv, 0, none⟩) vs.length capv) vs w i av es w2))
      case atStart => exact ⟨0, [], by omega, rfl, H2⟩
      case round =>
        obtain ⟨i, es, hi, rfl, HA⟩ := hrel
        clear H2
        have hcb : wr.cell? ⟨h, 0, none⟩ = some (.slice (some ⟨gv, 0, none⟩) vs.length capv) := by simp [World.cell?, HA.out.book]
        rw [hmm] at hcb
        by_cases him : i = m
        · obtain rfl : gk = 0 := by omega
          have hel : es.length = 5 * m := by rw [HA.out.len, him]
          obtain ⟨ga, capa, hav, hcapa⟩ := list_shape HA.out.all (by omega)
          rw [hel] at hav hcapa
          subst hav
          have HA2 := HA
          have him2 : m = i := him.symm
          clear HA him hi
          subst him2
          obtain ⟨W3, hW3⟩ : ∃ W, W = wr := ⟨_, rfl⟩
          go_wp2
          go_loopg [9] (5 * m) (fun gk jv w3 => ∃ (j : Nat), gk + j = 5 * m ∧ jv = .int .i64 (j : Nat) ∧ w3 = W3)
          case atStart => exact ⟨0, by omega, rfl, hW3.symm⟩
          case round =>
            obtain ⟨j, hj, rfl, rfl⟩ := hrel
            subst hW3
            by_cases hjm : j = 5 * m
            · obtain rfl : gk = 0 := by omega
              have hjm2 : (j : Int) = 5 * (m : Int) := by omega
              go_wp2
              go_ret
              exact ⟨rfl, HA2.out.below⟩
            · have hjl : j < 5 * m := by omega
              have hcj := list_cell HA2.out.all j (by omega)
              have hold := HA2.out.old j (by omega)
              obtain ⟨ao, cap, hsh, hnc, hcm, hg⟩ := hold.shape
              obtain ⟨n, hn⟩ : ∃ n, slen (nth es j) = n := ⟨_, rfl⟩
              obtain ⟨q, hq⟩ : ∃ q, j / 5 = q := ⟨_, rfl⟩
              have hq2 : (j : Int) / 5 = (q : Int) := by omega
              have hq3 : q ≤ 100 := by omega
              rw [hn] at hsh hnc hg hold
              rw [hq] at hold
              rw [hsh] at hcj hold
              have HO := hid hold
              clear hold hsh hn hq
              unfold maxLen at hcm
              go_wp2
              go_loopg [10] n (fun gk kv w3 => ∃ (k : Nat), gk + k = n ∧ kv = .int .i64 (k : Nat) ∧ w3 = wr)
              case atStart => exact ⟨0, by omega, rfl, rfl⟩
              case round =>
                obtain ⟨k, hk, rfl, rfl⟩ := hrel
                by_cases hkn : k = n
                · obtain rfl : gk = 0 := by omega
                  subst hkn
                  go_wp2
                  go_roundg (5 * m - (j + 1))
                  case measure => omega
                  case rel => exact ⟨j + 1, by omega, by first | go_num | (congr 1; omega), rfl⟩
                · have hkl : k < n := by omega
                  obtain ⟨g, rfl⟩ := hg (by omega)
                  have hck := Rw.cell HO.out k (mrk q) (by simp [hkl])
                  unfold mrk at hck
                  go_wp2
                  go_roundg (gk - 1)
                  case measure => omega
                  case rel => exact ⟨k + 1, by omega, by first | go_num | (congr 1; omega), rfl⟩
        · have hil : i < m := by omega
          have hil2 : i < vs.length := by omega
          have hcv := list_cell HA.out.list i hil2
          obtain ⟨hlh, hlo, hhl, hvl, hN, _, _⟩ := HX.out
          obtain ⟨ao, cap, hsh, hnc, hcm, hg⟩ := (HA.out.come i (Nat.le_refl _) hil2).shape
          obtain ⟨n, hn⟩ : ∃ n, slen (nth vs i) = n := ⟨_, rfl⟩
          have HS : Aside (slen (nth vs i) ≤ 35184372088000) := hN.small i hil2
          have HE : Aside (P2 lo h (.slice (some ⟨gv, 0, none⟩) vs.length capv) vs w i 0 0 u5 es (nth vs i) wr) := P2o.enter HA.out hN hil2
          rw [hn] at hsh hnc
          rw [hsh] at hcv
          have hsh2 := Aside.intro hsh
          clear hlh hlo hhl hvl hN hsh hn HA hg
          unfold maxLen at hcm
          go_wp2
          go_loopg [5, 7, 8] 5 (fun gk av xv kv w2 => ∃ (c : Nat) (es : List Value), gk + c = 5 ∧ kv = .int .i64 (c : Nat) ∧ Aside (P2 lo h (.slice (some ⟨gv, 0, none⟩) vs.length capv) vs w i c c av es xv w2))
          case atStart => exact ⟨0, es, by omega, rfl, by rw [← hsh2.out]; exact HE⟩
          case round =>
            obtain ⟨c, es, hc, rfl, HA⟩ := hrel
            clear hcb hcv HE
            by_cases hc5 : c = 5
            · obtain rfl : gk = 0 := by omega
              subst hc5
              have HL := Aside.intro (P2.leave HA.out)
              clear HA
              go_wp2
              go_roundg (m - (i + 1))
              case measure => omega
              case rel => exact ⟨i + 1, _, by omega, by first | go_num | (congr 1; omega), HL⟩
            · have hcl : c < 5 := by omega
              obtain ⟨hlh, hlo, hhl, hvl, hN, _, _⟩ := HX.out
              obtain ⟨ao, cap, hsh, _, _, _⟩ := HA.out.row.shape
              obtain ⟨n, hn⟩ : ∃ n, slen u7 = n := ⟨_, rfl⟩
              have hns : n ≤ 35184372088005 := by have h1 := HA.out.more; have h2 := HS.out; omega
              rw [hn] at hsh
              have H1 := HA.out
              subst hsh
              obtain ⟨ga, capa, w1, hap1, hown1, hgrow1, hkeep1⟩ := append_nat (wr.alloc (.cells #[.slice ao n cap] 23)) w.heap.size u5 es.length es (.slice ao n cap) wr.heap.size 32 (H1.all.alloc _) (by unfold World.cell?; simp only [heap_alloc_new]; rfl) rfl (by have := H1.len; omega) (by have := H1.size; simp; omega)
              have H3 := P2.take H1 hcl hlo hhl hvl _ hown1 hgrow1 hkeep1
              obtain ⟨x', w2, hap2, hown2, hgrow2, hpl2, hkeep2⟩ := append_word (w1.alloc (.cells #[mrk i] 63)) lo (.slice ao n cap) n (List.replicate n (mrk i)) (mrk i) w1.heap.size 23 (H3.row.alloc _) (by unfold World.cell?; simp only [heap_alloc_new]; rfl) rfl (by omega) (by have := H3.size; simp; omega)
              have H4 := Aside.intro (P2.grow H3 hlo _ hown2 hgrow2 hpl2 hkeep2)
              unfold mrk at hap2
              have HAP1 := hid hap1
              have HAP2 := hid hap2
              clear hap1 hap2 hown1 hgrow1 hkeep1 H3 hown2 hgrow2 hpl2 hkeep2 H1 HA hlh hlo hhl hvl hN hc5
              go_wp2_with (first | (at_builtin; refine wpList_append_run2 rfl (.tmp 64) (.tmp 66) 32 rfl _ _ rfl rfl _ _ HAP1.out ?_) | (at_builtin; refine wpList_append_run2 rfl (.tmp 68) (.tmp 72) 23 rfl _ _ rfl rfl _ _ HAP2.out ?_))
              go_roundg (gk - 1)
              case measure => omega
              case rel => exact ⟨c + 1, _, by omega, by first | go_num | (congr 1; omega), H4⟩
    · have hil : i < m := by omega
      have hil2 : i < vs.length := by omega
      obtain ⟨ys, hy, _, _⟩ := HA.out.rows i hil2
      obtain ⟨ao, cap, hsh, hnc, hcm, hg⟩ := hy.shape
      obtain ⟨n, hn⟩ : ∃ n, slen (nth vs i) = n := ⟨_, rfl⟩
      have hns : n ≤ 35184372088000 := hn ▸ HX.out.2.2.2.2.1.small i hil2
      rw [hn] at hsh hnc hg
      clear hy
      go_wp2
      go_loopg [4] n (fun gk2 kv w2 => ∃ (k : Nat), gk2 + k = n ∧ kv = .int .i64 (k : Nat) ∧ Aside (P1 lo h (.slice (some ⟨gv, 0, none⟩) vs.length capv) vs w i k w2))
      case atStart => exact ⟨0, by omega, rfl, HA.out⟩
      case round =>
        obtain ⟨k, hk, rfl, HB⟩ := hrel
        have hcb2 : wr.cell? ⟨h, 0, none⟩ = some (.slice (some ⟨gv, 0, none⟩) vs.length capv) := by simp [World.cell?, HB.out.book]
        have hcv := list_cell HB.out.list i hil2
        rw [hsh] at hcv
        rw [hmm] at hcb2
        by_cases hkn : k = n
        · obtain rfl : gk = 0 := by omega
          have HC : Aside (P1 lo h (.slice (some ⟨gv, 0, none⟩) vs.length capv) vs w (i + 1) 0 wr) := by
            have h1 := HB.out
            rw [hkn, ← hn] at h1
            exact P1.next h1
          clear hn hsh hmm hcb
          subst hkn
          go_wp2
          go_roundg (m - (i + 1))
          case measure => omega
          case rel => exact ⟨i + 1, by omega, by first | go_num | (congr 1; omega), HC⟩
        · have hkl : k < n := by omega
          obtain ⟨g, rfl⟩ := hg (by omega)
          obtain ⟨ys2, hy2, _, _⟩ := HB.out.rows i hil2
          rw [hsh] at hy2
          have hl2 : ys2.length = n := by simpa [slen] using hy2.1
          obtain ⟨yk, hyk⟩ : ∃ y, ys2[k]? = some y := ⟨ys2[k]'(by omega), by simp⟩
          have hgc := Rw.cell hy2 k yk hyk
          have hgf := Rw.frozen hy2 k
          have HC : Aside (P1 lo h (.slice (some ⟨gv, 0, none⟩) vs.length capv) vs w i (k + 1) (wr.setCell ⟨g, k, none⟩ (mrk i))) := P1.step HB.out HX.out.2.2.2.2.1 hil2 hsh hkl
          clear hy2 hyk hn hsh hmm hcb hkn him
          go_wp2
          go_roundg (gk - 1)
          case measure => omega
          case rel =>
            refine ⟨k + 1, by omega, by first | go_num | (congr 1; omega), ?_⟩
            exact HC
end Go.Proofs.YtonhahbmdekkdaaDoor
