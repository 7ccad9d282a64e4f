/- The document's Blocked. -/
import Derived.Test.YteoednbmhiblfaaGreatDoorJ14x
import Derived.OwnWalk
import Derived.ArgAppend
import Derived.Maps.AppendAt
import Derived.WalkMore
import Derived.Test.YteoednbmhiblfaaGreatDoorM1x
import Derived.ProofKit
import Derived.OpenShut
import Derived.ChangeOld
import Derived.ChangeArms
import Derived.SizedLaws
import Derived.Laws.Cover2
namespace Go.Proofs.YteoednbmhiblfaaGreatDoor
open Go.RowKit J
set_option linter.unusedVariables false
set_option maxRecDepth 20000
set_option linter.unusedSimpArgs false
attribute [local go_sem] st_float

theorem wpList_append10 {w : World} {ops : Array Oper} {rest : List Oper} {o : Oper} {a : Act} {Q : Exit → Act → World → Prop} (hgd : o.guard = none) (s x : Operand) (t : TypeId)
    (ho : o.op = .call { callee := .builtin .append, args := #[s, x], argTypes := #[t, t] }) (v u : Value) (hs : a.eval s = v) (hx : a.eval x = u) (v' : Value) (w' : World)
    (hrun : (Builtin.append_ #[t, t] o.type #[v, u]).run Tryz.prog w = .ok v' w') (h : wpList Tryz.prog ops Q rest (a.put o.dst v') w') : wpList Tryz.prog ops Q (o :: rest) a w := by
  refine wpList_plain hgd fun K hK => ?_
  unfold Oper.wp
  simp [execOp, ho, resolve, invoke, builtin, hs, hx, hrun, Result.andThen]
  exact hK _ _ h
theorem append10 (lo : Nat) (v : Value) (K : List Nat) (x : Nat) (w : World) (hb : w.ownsRow lo 25 1 v K.length (K.map Fw10)) (hlo : lo ≤ w.heap.size) (hk : K.length ≤ 1000000) :
    ∃ v' w', (Builtin.append_ #[22, 22] 22 #[v, .slice (some ⟨w.heap.size, 0, none⟩) 1 1]).run Tryz.prog (w.alloc (.cells #[.float .f64 x] 25)) = .ok v' w' ∧ w'.ownsRow lo 25 1 v' (K ++ [x]).length ((K ++ [x]).map Fw10) ∧ Below lo w w' ∧ w.heap.size ≤ w'.heap.size := by
  obtain ⟨i0, hi, hz0, hz1, hz2⟩ := info_parts Tryz.info_f64
  obtain ⟨W, hW⟩ : ∃ W, W = w.alloc (.cells #[.float .f64 x] 25) := ⟨_, rfl⟩
  have hcx : W.cell? ⟨w.heap.size, 0, none⟩ = some (.float .f64 x) := by subst hW; unfold World.cell?; simp only [heap_alloc_new]; rfl
  have hWb : W.ownsRow lo 25 1 v K.length (K.map Fw10) := by subst hW; exact World.ownsRow.alloc hb _
  have hWs : w.heap.size ≤ W.heap.size := by subst hW; simp
  obtain ⟨v', w', r1, r2, r3, _, r5⟩ := run_append_own_at (P := Tryz.prog) W lo 22 22 25 i0 (.float .f64 0) 1 8 Tryz.und_floats hi hz0 hz1 hz2 rfl (by decide) v K.length (K.map Fw10) hWb ⟨w.heap.size, 0, none⟩ 1 1 [.float .f64 x] rfl (by
      intro j u hj
      match j, hj with
      | 0, hj => simp at hj; subst hj; simpa [Addr.add] using hcx) (by intro u hu; simp at hu; subst hu; rfl) (by unfold maxLen; omega) (by omega) (by omega)
  rw [← hW]
  refine ⟨v', w', r1, ?_, ?_, ?_⟩
  · rw [List.length_append, List.map_append]; exact r2
  · have hlw : Below lo w W := by subst hW; exact (Below.refl _ _).alloc hlo _
    refine ⟨r3.os.trans hlw.os, r3.tape.trans hlw.tape, r3.output.trans hlw.output, Nat.le_trans hlw.size r3.size, fun k hkl => ?_⟩
    rw [r3.block k (by omega) (fun e => by
      rcases hWb.2 with ⟨e2, _⟩ | ⟨g, cap, cur, e2, hlo2, _⟩
      · rw [e2] at e; simp [Value.ownBlock] at e
      · rw [e2] at e; simp [Value.ownBlock] at e; omega)]
    exact hlw.block k hkl
  · exact Nat.le_trans hWs r3.size
theorem own_below10 {lo : Nat} {w w' : World} {v : Value} {n : Nat} {L : List Value} (h : w.ownsRow lo 25 1 v n L) (hb : Below w.heap.size w w') : w'.ownsRow lo 25 1 v n L := by
  refine ⟨h.1, ?_⟩
  rcases h.2 with hn | ⟨g, cap, cur, rfl, hlo, hgc, rest⟩
  · exact .inl hn
  · refine .inr ⟨g, cap, cur, rfl, hlo, ?_, rest⟩
    rw [hb.block g (Array.getElem?_eq_some_iff.1 hgc).1]; exact hgc
theorem own_fs10 {w : World} {lo n : Nat} {v : Value} {xs : List Nat} (h : w.ownsRow lo 25 1 v n (xs.map Fw10)) (hn : n = xs.length) : ∃ a c, v = .slice a n c ∧ n ≤ c ∧ Fs w.heap.size w a xs := by
  have h' := h
  rcases h.2 with ⟨rfl, hn0⟩ | ⟨g, cap, cur, rfl, hlo, hg, hn1, hm, hs, ht⟩
  · have e : xs = [] := List.eq_nil_of_length_eq_zero (by rw [← hn]; simpa using hn0)
    subst e
    have : n = 0 := by simpa using hn
    subst this
    exact ⟨none, 0, rfl, Nat.le_refl _, Fs.nil _ _ _⟩
  · refine ⟨some ⟨g, 0, none⟩, cap, rfl, hn1, fun _ => ⟨g, 0, (Array.getElem?_eq_some_iff.1 hg).1, rfl, fun i hi => ?_⟩⟩
    have := World.ownsRow.cellAt h' i (by omega)
    rw [Nat.zero_add, this, List.getElem?_map, List.getElem?_eq_getElem hi, List.getD_eq_getElem?_getD, List.getElem?_eq_getElem hi]
    rfl

set_option maxHeartbeats 4000000 in
theorem rBlocked10 (xs : List Nat) (a : Option Addr) (n c s : Nat) (w : World) (hn : n = xs.length) (hF : Fs w.heap.size w a xs) (hW : W64 xs) (hc : n ≤ c) (hm : n ≤ 65536) (hs1 : 1 ≤ s) (hs2 : s ≤ 65536) :
    Calls Tryz.prog 20 #[.slice a n c, .int .i64 (s : Nat)] w fun r w' => r = .returned (.tuple #[.float .f64 (blF s xs), .int .i64 0]) ∧ Below w.heap.size w w' := by
  obtain ⟨nb, hnb⟩ : ∃ nb, nb = (n + s - 1) / s := ⟨_, rfl⟩
  have HY := Aside.intro (show blF s xs = runF (bkL s xs nb) by unfold blF bkL; rw [hnb, hn])
  obtain ⟨Y, hY⟩ : ∃ Y, Y = blF s xs := ⟨_, rfl⟩
  rw [← hY] at HY ⊢
  have hfull : n ≤ nb * s := by
    have hq := Nat.div_add_mod (n + s - 1) s
    have hq2 := Nat.mod_lt (n + s - 1) (show s > 0 by omega)
    rw [← hnb, Nat.mul_comm] at hq
    omega
  have HX := Aside.intro (And.intro hn (And.intro hF (And.intro hW (And.intro hnb (And.intro hc (And.intro hm (And.intro hs1 (And.intro hs2 hfull))))))))
  have hd1 : decide ((s : Int) < 1) = false := by simp; omega
  have hd2 : decide ((65536 : Int) < (s : Int)) = false := by simp; omega
  have hd3 : decide ((65536 : Int) < (n : Int)) = false := by simp; omega
  have hsb : s ≤ 1152921504606846976 := by omega
  clear hn hF hW hc hm hs1 hs2 hY hnb hfull
  go_enter Tryz.func20, Tryz.ntmps20
  go_wp2
  go_loopg [7, 6] nb (fun gk i v wr => ∃ (k P : Nat) (v0 : Value), gk + k = nb ∧ i = .int .i64 (P : Nat) ∧ v = v0 ∧ Aside (P = k * s ∧ wr.ownsRow w.heap.size 25 1 v0 (bkL s xs k).length ((bkL s xs k).map Fw10) ∧ Below w.heap.size w wr))
  case atStart => exact ⟨0, 0, _, by omega, by simp, rfl, by omega, World.ownsRow_nil w w.heap.size 25 1, Below.refl _ _⟩
  case round =>
    obtain ⟨k, P, v, hgk, rfl, hv, HA⟩ := hrel
    have hv' := hv.symm
    clear hv
    subst hv'
    by_cases hk : k < nb
    · obtain ⟨hn, hF, hW, hnb, hc, hm, hs1, hs2, hfull⟩ := HX.out
      have hend := blk_end hs1 hnb hk
      rw [← HA.out.1] at hend
      have hPb : P ≤ 1152921504606846976 := by omega
      obtain ⟨b, off, rfl, _⟩ := hF.at (Below.refl _ _) P (by omega)
      have HP := hid (fun (u : World) (hb : Below w.heap.size w u) => rRunning10 (pc s xs k) (some ⟨b, off + P, none⟩) ((min ((P : Int) + (s : Int)) (n : Int)).toNat - P) (c - P) u (by unfold pc; rw [List.length_take, List.length_drop, ← HA.out.1]; omega) (by
        have h := ((hF.piece P ((min ((P : Int) + (s : Int)) (n : Int)).toNat - P) (by omega)).below hb).mono hb.size
        have e : (xs.drop P).take ((min ((P : Int) + (s : Int)) (n : Int)).toNat - P) = pc s xs k := by
          unfold pc
          rw [← HA.out.1]
          by_cases hle : P + s ≤ n
          · rw [show (min ((P : Int) + (s : Int)) (n : Int)).toNat - P = s by omega]
          · rw [List.take_of_length_le (by rw [List.length_drop]; omega), List.take_of_length_le (by rw [List.length_drop]; omega)]
        rw [e] at h
        exact h) (hW.piece (k * s) s) (by omega))
      obtain ⟨z, hz⟩ : ∃ z, z = runF (pc s xs k) := ⟨_, rfl⟩
      rw [← hz] at HP
      have HZ := Aside.intro (show bkL s xs (k + 1) = bkL s xs k ++ [z] by rw [hz]; exact bkL_succ s xs k)
      have hcp : c ≠ P := by omega
      have hPn : P < n := hend
      have hb1 : P ≤ (min ((P : Int) + (s : Int)) (n : Int)).toNat := by omega
      have hb2 : (min ((P : Int) + (s : Int)) (n : Int)).toNat ≤ c := by omega
      have hk2 : (bkL s xs k).length ≤ 1000000 := by rw [bkL_len]; have h3 : k * 1 ≤ k * s := Nat.mul_le_mul_left _ hs1; have := HA.out.1; omega
      have HK := Aside.intro hk2
      clear hn hF hW hnb hc hm hs1 hs2 hend hz hfull hk2
      go_wp2_with fail
      refine (HP.out _ HA.out.2.2).mono ?_
      rintro r u ⟨rfl, hb⟩
      have hbu := HA.out.2.2.trans (hb.mono HA.out.2.2.size)
      obtain ⟨v', w', r1, r2, r3, r4⟩ := append10 w.heap.size v (bkL s xs k) z u (own_below10 HA.out.2.1 hb) hbu.size HK.out
      have HR := Aside.intro r1
      have HN := Aside.intro (And.intro r2 (hbu.trans r3))
      clear r1 r2 r3 r4 hb hbu HP
      go_wp2_with (at_builtin; refine wpList_append10 rfl (.tmp 37) (.tmp 39) 22 rfl _ _ rfl rfl _ _ HR.out ?_)
      go_roundg (gk - 1)
      case measure => omega
      case rel =>
        refine ⟨k + 1, P + s, _, by omega, by first | rfl | simp, rfl, ?_, ?_, HN.out.2⟩
        · rw [Nat.add_mul, Nat.one_mul, ← HA.out.1]
        · rw [HZ.out]; exact HN.out.1
    · obtain rfl : nb = k := by omega
      have hPn : n ≤ P := by rw [HA.out.1]; exact HX.out.2.2.2.2.2.2.2.2
      have hd : decide ((P : Int) < (n : Int)) = false := by simp; omega
      have hkb : nb ≤ 1000000 := by
        obtain ⟨hn, hF, hW, hnb, hc, hm, hs1, hs2, hfull⟩ := HX.out
        have := Nat.le_trans (Nat.div_le_self (n + s - 1) s) (show n + s - 1 ≤ 1000000 by omega)
        rw [← hnb] at this
        exact this
      obtain ⟨a2, c2, rfl, hc2, hF2⟩ := own_fs10 HA.out.2.1 rfl
      have HR := hid (rRunning10 (bkL s xs nb) a2 (bkL s xs nb).length c2 wr rfl hF2 (bkL_wf HX.out.2.2.1 nb) (by rw [bkL_len]; omega))
      rw [← HY.out] at HR
      have HB := Aside.intro HA.out.2.2
      obtain ⟨l2, hl2⟩ : ∃ l2, l2 = (bkL s xs nb).length := ⟨_, rfl⟩
      rw [← hl2] at HR ⊢
      clear hc2 hF2 HA hl2 hkb
      go_wp2_with fail
      refine (HR.out).mono ?_
      rintro r w2 ⟨rfl, hb2⟩
      have B2 := Aside.intro (HB.out.trans (hb2.mono HB.out.size))
      clear hb2 HR
      go_wp2
      go_ret2
      exact ⟨rfl, B2.out⟩
set_option maxHeartbeats 1000000 in
theorem rBlocked10_arg (a : Option Addr) (n c : Nat) (s : Int) (w : World) (h : s < 1 ∨ 65536 < s) :
    Calls Tryz.prog 20 #[.slice a n c, .int .i64 s] w fun r w' => r = .returned (.tuple #[.float .f64 0, .int .i64 1]) ∧ Below w.heap.size w w' := by
  have H := hid (fun u : World => rOf10z u)
  rcases h with h | h
  · have hd : decide (s < 1) = true := by simpa using h
    clear h
    go_enter Tryz.func20, Tryz.ntmps20
    go_wp2_with fail
    refine (H.out _).mono ?_
    rintro r w1 ⟨rfl, rfl⟩
    go_wp2
    go_ret2
    exact ⟨rfl, Below.refl _ _⟩
  · have hd : decide (s < 1) = false := by simp; omega
    have hd2 : decide (65536 < s) = true := by simpa using h
    clear h
    go_enter Tryz.func20, Tryz.ntmps20
    go_wp2_with fail
    refine (H.out _).mono ?_
    rintro r w1 ⟨rfl, rfl⟩
    go_wp2
    go_ret2
    exact ⟨rfl, Below.refl _ _⟩
theorem rBlocked10_long (a : Option Addr) (n c : Nat) (s : Int) (w : World) (h1 : 1 ≤ s) (h2 : s ≤ 65536) (hl : 65536 < n) :
    Calls Tryz.prog 20 #[.slice a n c, .int .i64 s] w fun r w' => r = .returned (.tuple #[.float .f64 0, .int .i64 2]) ∧ Below w.heap.size w w' := by
  have H := hid (fun u : World => rOf10z u)
  have hd : decide (s < 1) = false := by simp; omega
  have hd2 : decide (65536 < s) = false := by simp; omega
  have hd3 : decide ((65536 : Int) < (n : Int)) = true := by simp; omega
  clear h1 h2 hl
  go_enter Tryz.func20, Tryz.ntmps20
  go_wp2_with fail
  refine (H.out _).mono ?_
  rintro r w1 ⟨rfl, rfl⟩
  go_wp2
  go_ret2
  exact ⟨rfl, Below.refl _ _⟩
end Go.Proofs.YteoednbmhiblfaaGreatDoor

/- Lists that came in. -/
namespace Go.Proofs.YteoednbmhiblfaaGreatDoor
open Go.ChangeShapes Go.WideShapes Go.ChangeAt Go.RowKit
set_option linter.unusedVariables false
set_option maxRecDepth 20000
set_option linter.unusedSimpArgs false

theorem trodF {H : Type} {enc : TypeId × Value → H} {P : Program} {w : World} {base : Nat} {spare : Nat → Bool} {held : Bool} {fuel : Nat} {t : TypeId} {cs : List Value} {x : DataW H × List MemPlace} {k : FloatKind} (ht : P.underlying t = some (.float k)) (h : DataW.trod enc P w base spare held fuel t cs = some x) : ∃ n, cs = [.float k n] ∧ x = (.lit (.float k n), []) ∧ (Lit.float k n).wf = true := by
  cases fuel with
  | zero => simp [DataW.trod] at h
  | succ m =>
    simp only [DataW.trod, ht] at h
    split at h <;> simp_all

/-- A list that came in: its numbers, its room. -/
structure CameF (w : World) (a : Option Addr) (n c : Nat) (xs : List Nat) : Prop where
  len : n = xs.length
  cap : n ≤ c
  wf : W64 xs
  rd : Fs w.heap.size w a xs
  nil : a = none → c = 0

theorem add_noneF (b off i : Nat) : (⟨b, off, none⟩ : Addr).add i = ⟨b, off + i, none⟩ := by unfold Addr.add; split <;> simp_all

def numF {H : Type} (y : DataW H × List MemPlace) : Nat := match y.1 with | .lit (.float _ n) => n | _ => 0

theorem Tryz.cellsF : Tryz.prog.cellsOf 25 = 1 := by kernel_rfl
theorem Tryz.bytesF : Tryz.prog.bytesOf 25 = 8 := by kernel_rfl

theorem cameF_of {H : Type} {enc : TypeId × Value → H} {W : World} {a : Option Addr} {n c : Nat} {d : DataW H} {p : List MemPlace} (h : DataW.Trod enc Tryz.prog W 0 (fun _ => true) true 22 (.slice a n c) d p) :
    ∃ xs, CameF W a n c xs ∧ ((d = .nil ∧ c = 0) ∨ ∃ elems spare : List (DataW H), d = .slice elems spare ∧ elems.length + spare.length = c) := by
  obtain ⟨fuel, hf⟩ := h
  rcases DataW.trod_slice Tryz.underlying22 hf with ⟨hcs, hx⟩ | ⟨x, l, cp, elems, rest, m, _, hcs, hx, hb, hl, hm, hlen, hel, hsp, hns⟩
  · simp [Value.cells] at hcs
    obtain ⟨rfl, rfl, rfl⟩ := hcs
    exact ⟨[], ⟨rfl, Nat.le_refl _, (fun x hx => by cases hx), (fun h => absurd rfl h), fun _ => rfl⟩, .inl ⟨(Prod.mk.inj hx).1, rfl⟩⟩
  · simp [Value.cells] at hcs
    obtain ⟨rfl, rfl, rfl⟩ := hcs
    have each : ∀ i y, i < n → elems[i]? = some y → y = (.lit (.float .f64 (numF y)), []) ∧ (Lit.float .f64 (numF y)).wf = true ∧ W.cell? (x.add i) = some (.float .f64 (numF y)) := by
      intro i y hi hy
      have hb' := hel i hi
      rw [hy, Tryz.cellsF, Nat.mul_one, Option.bind_eq_some_iff] at hb'
      obtain ⟨cs', hcs, hy'⟩ := hb'
      obtain ⟨k, rfl, rfl, hw⟩ := trodF Tryz.underlying25 hy'
      exact ⟨rfl, hw, cell_of_cells?_one hcs⟩
    refine ⟨elems.map numF, ⟨by simp [hlen], hl, ?_, ?_, fun e => by cases e⟩, .inr ⟨_, _, (Prod.mk.inj hx).1, ?_⟩⟩
    · intro y hy
      obtain ⟨z, hz, rfl⟩ := List.mem_map.1 hy
      obtain ⟨i, hi⟩ := List.getElem?_of_mem hz
      have hil := (List.getElem?_eq_some_iff.1 hi).1
      have := (each i z (by omega) hi).2.1
      exact of_decide_eq_true this
    · intro hne
      obtain ⟨b, off, spot⟩ := x
      have hn0 : 0 < n := by
        rcases Nat.eq_zero_or_pos n with h0 | h0
        · rw [h0] at hlen; have := List.eq_nil_of_length_eq_zero hlen; subst this; simp at hne
        · exact h0
      have hc0 := (each 0 (elems[0]'(by omega)) hn0 (List.getElem?_eq_getElem _)).2.2
      have hspot : spot = none := by simpa [Addr.add] using World.cell?_spot hc0
      subst hspot
      refine ⟨b, off, World.block_lt_of_cell? W _ (by simpa [Addr.add] using hc0), rfl, fun i hi => ?_⟩
      rw [List.length_map] at hi
      have hadd := add_noneF b off i
      have := (each i (elems[i]'hi) (by omega) (List.getElem?_eq_getElem _)).2.2
      rw [hadd] at this
      rw [this]
      simp [List.getD_eq_getElem?_getD, hi]
    · have hr := (hsp rfl).1
      simp only [List.length_map]
      omega

/-- The form's own reach. -/
theorem cameF_reach {H : Type} {ts : List TypeId} {ds : List (DataW H)} (h : (DataW.weightsEach Tryz.prog ts ds).all (· ≤ reachBytes) = true) {j : Nat} {d : DataW H} {c n : Nat} (ht : ts[j]? = some 22) (hd : ds[j]? = some d) (hn : n ≤ c)
    (hc : (d = .nil ∧ c = 0) ∨ ∃ elems spare : List (DataW H), d = .slice elems spare ∧ elems.length + spare.length = c) : n ≤ 17592186043904 := by
  rcases hc with ⟨_, rfl⟩ | ⟨elems, spare, rfl, hl⟩
  · omega
  · have := sized_slice h ht hd Tryz.underlying22
    rw [Tryz.bytesF, hl] at this
    simp only [reachBytes] at this
    omega

end Go.Proofs.YteoednbmhiblfaaGreatDoor

/- SumsBlocks: the law's walk. -/
namespace Go.Proofs.YteoednbmhiblfaaGreatDoor
open Go.RowKit J
set_option linter.unusedVariables false
set_option maxRecDepth 20000
set_option linter.unusedSimpArgs false

set_option maxHeartbeats 4000000 in
theorem walk2_SumsBlocks (a : Option Addr) (n c : Nat) (xs : List Nat) (b : Int) (w : World) (hT : Tab w) (hC : CameF w a n c xs) (hb : (Lit.int .i64 b).wf = true) (hm : n ≤ 17592186043904) :
    Calls Tryz.prog 4 #[.slice a n c, .int .i64 b] w fun r w' => r = .returned (.bool true) ∧ Below w.heap.size w w' := by
  obtain ⟨hn, hc, hW, hF, _⟩ := hC
  have H0 := hid (live10 w hT)
  have HL := hid (fun (u : World) (hb : Below w.heap.size w u) => rLent10 xs a n c u.heap.size u hn hm ((hF.below hb).mono hb.size) (Nat.le_refl _))
  have hX : ∀ (g : Nat) (u : World), OwnF u g (xs ++ List.replicate 8 mrk) → Fs u.heap.size u (some ⟨g, 0, none⟩) xs := fun g u hO => by
    have := hO.fs hO.lt n
    rw [List.take_append_of_le_length (by omega), List.take_of_length_le (by omega)] at this
    exact this
  have HA := hid (fun (g : Nat) (u : World) (hb : Below w.heap.size w u) (hO : OwnF u g (xs ++ List.replicate 8 mrk)) => rAsLent10 xs a n c u.heap.size g u hn hm ((hF.below hb).mono hb.size) (Nat.le_refl _) hO)
  have key : ∃ (X : Nat) (E : Int), Hid (∀ (g : Nat) (u : World), OwnF u g (xs ++ List.replicate 8 mrk) → Calls Tryz.prog 19 #[.slice (some ⟨g, 0, none⟩) n (n + 8), .int .i64 b] u fun r w' => r = .returned (.tuple #[.float .f64 X, .int .i64 E]) ∧ Below u.heap.size u w') ∧
      Hid (∀ u : World, Below w.heap.size w u → Calls Tryz.prog 20 #[.slice a n c, .int .i64 b] u fun r w' => r = .returned (.tuple #[.float .f64 X, .int .i64 E]) ∧ Below u.heap.size u w') := by
    by_cases h1 : b < 1 ∨ 65536 < b
    · exact ⟨0, 1, fun g u _ => Blocked10_arg _ n (n + 8) b u h1, fun u _ => rBlocked10_arg a n c b u h1⟩
    · by_cases h2 : 65536 < n
      · exact ⟨0, 2, fun g u _ => Blocked10_long _ n (n + 8) b u (by omega) (by omega) h2, fun u _ => rBlocked10_long a n c b u (by omega) (by omega) h2⟩
      · obtain ⟨s, rfl⟩ : ∃ s : Nat, b = (s : Int) := ⟨b.toNat, by omega⟩
        exact ⟨blF s xs, 0, fun g u hO => Blocked10 xs _ n (n + 8) s u hn (hX g u hO) hW (by omega) (by omega) (by omega) (by omega), fun u hb => rBlocked10 xs a n c s u hn ((hF.below hb).mono hb.size) hW hc (by omega) (by omega) (by omega)⟩
  obtain ⟨X, E, P1, R1⟩ := key
  have EX := hid (fun (x : Nat) (u : World) => exact10 x x u)
  simp only [beq_self_eq_true] at EX
  have hee : (E == E) = true := by simp
  clear hn hc hW hF hT hX hb
  go_enter Tryz.func4, Tryz.ntmps4
  go_wp2_with fail
  refine H0.out.mono ?_
  rintro r u0 ⟨rfl, hb⟩
  have B0 := Aside.intro hb
  clear hb H0
  go_wp2_with fail
  refine (HL.out _ B0.out).mono ?_
  rintro r u1 ⟨rfl, hO, hb⟩
  obtain ⟨g, hg⟩ : ∃ g, g = u0.heap.size := ⟨_, rfl⟩
  rw [← hg] at hO ⊢
  have B1 := Aside.intro (And.intro hO (B0.out.trans (hb.mono B0.out.size)))
  clear hb HL hO hg B0
  go_wp2_with fail
  refine (P1.out g _ B1.out.1).mono ?_
  rintro r u2 ⟨rfl, hb⟩
  have B2 := Aside.intro (And.intro (B1.out.1.below hb B1.out.1.lt) (B1.out.2.trans (hb.mono B1.out.2.size)))
  clear hb P1 B1
  go_wp2_with fail
  refine (HA.out g _ B2.out.2 B2.out.1).mono ?_
  rintro r u3 ⟨rfl, hb⟩
  have B3 := Aside.intro (B2.out.2.trans (hb.mono B2.out.2.size))
  clear hb HA B2
  go_wp2_with fail
  refine (R1.out _ B3.out).mono ?_
  rintro r u4 ⟨rfl, hb⟩
  have B4 := Aside.intro (B3.out.trans (hb.mono B3.out.size))
  clear hb R1 B3
  go_wp2_with fail
  refine (EX.out X _).mono ?_
  rintro r z ⟨rfl, rfl⟩
  go_wp2
  go_ret
  exact ⟨rfl, B4.out⟩
end Go.Proofs.YteoednbmhiblfaaGreatDoor

