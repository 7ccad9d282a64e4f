import Derived.Test.YthilnddhehbjiaaDoorW17x
import Derived.Test.YthilnddhehbjiaaDoorM3x
/- grow: a Nat times a word and more, in its own memory as far as it goes. -/
namespace Go.Proofs.YthilnddhehbjiaaDoor
open Go.RowKit
set_option linter.unusedVariables false
set_option maxRecDepth 20000

/-- The first k cells of a row of one's own are these words. -/
def Pre (lo : Nat) (w : World) (g k cap : Nat) (M : List Nat) : Prop := w.ownsRow lo 61 1 (.slice (some ⟨g, 0, none⟩) k cap) k (M.map U)

theorem Pre.len {lo : Nat} {w : World} {g k cap : Nat} {M : List Nat} (h : Pre lo w g k cap M) : M.length = k := by have := h.1; simpa using this
theorem Pre.cell {lo : Nat} {w : World} {g k cap : Nat} {M : List Nat} (h : Pre lo w g k cap M) (i : Nat) (hi : i < k) : w.cell? ⟨g, i, none⟩ = some (.int .u32 ((M.getD i 0 : Nat) : Int)) := by
  rw [World.ownsRow.cellAt h i (by omega)]
  have := h.len
  simp [U, show i < M.length by omega]
theorem Pre.frozen {lo : Nat} {w : World} {g k cap : Nat} {M : List Nat} (h : Pre lo w g k cap M) (i : Nat) : w.frozen? ⟨g, i, none⟩ = false := World.ownsRow.frozenAt h i
theorem Pre.set {lo : Nat} {w : World} {g k cap : Nat} {M : List Nat} (h : Pre lo w g k cap M) (i x : Nat) : Pre lo (w.setCell ⟨g, i, none⟩ (.int .u32 (x : Int))) g k cap (M.set i x) := by
  have := (World.ownsRow.stored h i (.int .u32 (x : Int))).1
  unfold Pre
  rw [List.map_set]
  exact this
theorem Pre.lo {lo : Nat} {w : World} {g k cap : Nat} {M : List Nat} (h : Pre lo w g k cap M) : lo ≤ g ∧ g < w.heap.size := World.ownsRow.lt h g (by simp [Value.ownBlock])

theorem grow_form (M : List Nat) (k c Z : Nat) (hM : Wf M) (hl : M.length = k) (hc : c < 4294967296) (hsum : val M + c * pw k = Z) (hge : k = 0 ∨ pw (k - 1) ≤ Z) :
    (c = 0 → M = ws Z) ∧ (c ≠ 0 → M ++ [c] = ws Z) := by
  have hlt := val_lt M hM
  rw [hl] at hlt
  constructor
  · intro h0
    subst h0
    rw [Nat.zero_mul, Nat.add_zero] at hsum
    have h1 : nl M = M.length := by
      rw [nl_eq_length M hM, hsum]
      rcases hge with h | h
      · subst h
        have : Z = 0 := by rw [← hsum]; rw [pw_zero] at hlt; omega
        rw [this, ws_zero, hl]; rfl
      · rcases k with _ | k
        · have : Z = 0 := by rw [← hsum]; rw [pw_zero] at hlt; omega
          rw [this, ws_zero, hl]; rfl
        · rw [hl]
          rw [Nat.add_sub_cancel] at h
          exact ws_len_eq Z k h (by omega)
    rw [← hsum]
    exact ws_of_form M hM h1
  · intro h0
    have hW : Wf (M ++ [c]) := hM.append (Wf.cons hc Wf.nil)
    have hv : val (M ++ [c]) = Z := by rw [val_append, hl, ← hsum]; simp [val, Nat.mul_comm]
    have h1 : nl (M ++ [c]) = (M ++ [c]).length := by
      rw [nl_eq_length _ hW, hv, List.length_append, hl]
      have h2 : pw k * 1 ≤ c * pw k := by rw [Nat.mul_comm c]; exact Nat.mul_le_mul_left _ (by omega)
      refine ws_len_eq Z k (by omega) ?_
      have h3 := val_lt _ hW
      rw [hv, List.length_append, hl] at h3
      exact h3
    rw [← hv]
    exact ws_of_form _ hW h1

set_option maxHeartbeats 4000000 in
theorem grow_any (Y : Nat) (ao : Option Addr) (cap lo q more : Nat) (w : World) (hN : Nt lo w (.slice ao (ws Y).length cap) Y) (hq : q < 4294967296) (hq1 : 1 ≤ q) (hmore : more < 4294967296) (hsm : (ws Y).length ≤ 16777216) (hlo : lo ≤ w.heap.size) :
    Calls Tryd.prog 63 #[.slice ao (ws Y).length cap, .int .u32 (q : Nat), .int .u32 (more : Nat)] w fun r w' => ∃ v, r = .returned v ∧ Nt lo w' v (Y * q + more) ∧ Below lo w w' := by
  obtain ⟨i0, hi, hz0, hz1, hz2⟩ := info_parts Tryd.info61
  obtain ⟨k, hk⟩ : ∃ k, (ws Y).length = k := ⟨_, rfl⟩
  have hYk : val (ws Y) = Y := val_ws Y
  have hge : k = 0 ∨ pw (k - 1) ≤ Y * q + more := by
    by_cases h0 : Y = 0
    · left; rw [← hk, h0, ws_zero]; rfl
    · right
      have := ws_len_ge Y h0
      rw [hk] at this
      have : Y * 1 ≤ Y * q := Nat.mul_le_mul_left _ hq1
      omega
  rw [hk] at hN hsm ⊢
  have HN := (Aside.intro (And.intro hN (And.intro hk (And.intro hYk hge))))
  clear hN hYk hge
  -- the words, as they are turned
  go_enter Tryd.func63, Tryd.ntmps63
  go_wp2
  go_loopg [7, 15] k (fun gk c i wr => ∃ (j cv : Nat) (M : List Nat), gk + j = k ∧ c = .int .u64 (cv : Nat) ∧ cv < 4294967296 ∧ i = .int .i64 (j : Nat) ∧
      Aside (wr.ownsRow lo 61 1 (.slice ao k cap) k (M.map U) ∧ Wf M ∧ Out (ws Y) M 0 j ∧ sg M 0 j + cv * pw j = sg (ws Y) 0 j * q + more ∧ Below lo w wr))
  case atStart =>
    obtain ⟨hN, hk, hYk, hge⟩ := HN.out
    refine ⟨0, more, ws Y, by omega, rfl, hmore, rfl, ?_, wf_ws Y, Out.refl _ _ _, by simp [sg_zero, pw_zero], Below.refl _ _⟩
    unfold Nt at hN
    rw [hk] at hN
    exact hN
  case round =>
    obtain ⟨j, cv, M, hgj, rfl, hcv, rfl, HA⟩ := hrel
    by_cases hj : j < k
    · obtain ⟨hN, hk', hYk, hge⟩ := HN.out
      obtain ⟨hown, hMw, hMo, hMs, hbel⟩ := HA.out
      have hMl : M.length = k := by rw [hMo.1]; exact hk'
      obtain ⟨g, hao⟩ : ∃ g, ao = some ⟨g, 0, none⟩ := by
        rcases hown.2 with ⟨e, h0⟩ | ⟨g, cp, cur, e, _⟩
        · omega
        · cases e; exact ⟨g, rfl⟩
      subst hao
      have HP : Pre lo wr g k cap M := hown
      have hgc := HP.cell j hj
      have hgf := HP.frozen j
      obtain ⟨x, hx⟩ : ∃ x : Nat, M.getD j 0 = x := ⟨_, rfl⟩
      have hxl : x < 4294967296 := hx ▸ hMw.get _
      rw [hx] at hgc
      have hp0 := mul_bound x q hxl hq
      have hp2 : (x : Int) * (q : Int) ≤ 18446744065119617025 := by rw [← Int.natCast_mul]; omega
      have hp1 : 0 ≤ (x : Int) * (q : Int) := by rw [← Int.natCast_mul]; omega
      obtain ⟨s, hs⟩ : ∃ s : Nat, s = (x * q + cv) % 4294967296 := ⟨_, rfl⟩
      obtain ⟨d, hd⟩ : ∃ d : Nat, d = (x * q + cv) / 4294967296 := ⟨_, rfl⟩
      have e0 : ((x * q + cv : Nat) : Int) = (x : Int) * q + cv := by simp only [Int.natCast_add, Int.natCast_mul]
      have e1 : ((x : Int) * q + cv) % 4294967296 = (s : Int) := by rw [← e0]; omega
      have e2 : ((x : Int) * q + cv) / 4294967296 = (d : Int) := by rw [← e0]; omega
      have hsd : s + d * 4294967296 = x * q + cv := by omega
      have hsl : s < 4294967296 := by omega
      have hdl : d < 4294967296 := by omega
      have HX := (Aside.intro (And.intro hx (And.intro hsd (And.intro hsl hdl))))
      clear hx hs hd e0 hp0 hN hk' hYk hge hown hMw hMo hMs hbel hMl HP hsd hsl hdl
      go_wp2
      go_roundg (gk - 1)
      case measure => omega
      case rel =>
        obtain ⟨hN, hk', hYk, hge⟩ := HN.out
        obtain ⟨hown, hMw, hMo, hMs, hbel⟩ := HA.out
        obtain ⟨hx, hsd, hsl, hdl⟩ := HX.out
        have HP : Pre lo wr g k cap M := hown
        refine ⟨j + 1, d, M.set j s, by omega, rfl, hdl, by go_num, HP.set j s, hMw.set _ _ hsl, (hMo.mono (by omega)).set _ _ (by omega) (by omega), ?_, hbel.setCell HP.lo.1 _⟩
        have e1 := sg_set_last M 0 j s (by rw [hMo.1]; omega)
        rw [Nat.zero_add] at e1
        rw [e1, sg_succ (ws Y) 0 j (by omega), Nat.zero_add, pw_succ]
        have e : (ws Y).getD j 0 = x := by rw [← hx]; exact (hMo.2 _ (by omega)).symm
        rw [e]
        have := times_step (pw j) more (sg (ws Y) 0 j) _ cv 0 x q s d (by rw [hMs]; omega) (by omega)
        rw [this]; omega
    · obtain rfl : j = k := by omega
      obtain ⟨hN, hk', hYk, hge⟩ := HN.out
      obtain ⟨hown, hMw, hMo, hMs, hbel⟩ := HA.out
      have hMl : M.length = j := by rw [hMo.1]; exact hk'
      have e1 : sg M 0 j = val M := by rw [← hMl, sg_all]
      have e2 : sg (ws Y) 0 j = Y := by rw [← hk', sg_all, val_ws]
      rw [e1, e2] at hMs
      have hf := grow_form M j cv (Y * q + more) hMw hMl hcv hMs hge
      have hs := hbel.size
      have HF := (Aside.intro (And.intro hf (And.intro hbel (And.intro hMl hs))))
      have HO := hid hown
      clear hN hk' hYk hge hown hMw hMo hMs hbel e1 e2 hf hgj HA HN hMl hs
      by_cases h0 : cv = 0
      · subst h0
        go_wp2
        go_ret
        obtain ⟨hf, hbel, hMl, hs⟩ := HF.out
        refine ⟨_, rfl, ?_, hbel⟩
        have := hf.1 (by trivial)
        unfold Nt
        rw [← this, hMl]
        exact HO.out
      · have hcp : (0 : Int) < (cv : Int) := by omega
        go_wp2_with (at_builtin; refine wpList_append_own _ rfl (.tmp 37) (.tmp 40) 23 rfl lo 61 i0 (.int .u32 0) 1 4 Tryd.underlying23 hi hz0 hz1 hz2 rfl (by decide) (.slice ao j cap) j (M.map U) rfl (HO.out.alloc _) ⟨wr.heap.size, 0, none⟩ 1 1 [.int .u32 (cv : Int)] rfl rfl (by intro t u ht; match t, ht with | 0, ht => simp at ht; subst ht; simp [Addr.add]) (by intro u hu; simp at hu; subst hu; rfl) (by unfold maxLen; omega) (by omega) (by have := HF.out.2.2.2; simp; omega) ?_; intro v' w1 hown' hgrow _)
        have HV := (Aside.intro (And.intro hown' hgrow))
        have HOw := (Aside.intro HO.out)
        clear hown' hgrow
        go_wp2
        go_ret
        obtain ⟨hf, hbel, hMl, hs⟩ := HF.out
        obtain ⟨hown', hgrow⟩ := HV.out
        have hZ := hf.2 h0
        refine ⟨_, rfl, ?_, ?_⟩
        · unfold Nt
          rw [← hZ, List.length_append, hMl, List.map_append]
          exact hown'
        · refine (hbel.alloc (by omega) _).grown hgrow (by simp; omega) ?_
          intro b hb
          exact (World.ownsRow.lt HO.out b hb).1
end Go.Proofs.YthilnddhehbjiaaDoor

/- Decimal digits. -/
namespace Go.Proofs.YthilnddhehbjiaaDoor
set_option linter.unusedVariables false
set_option maxRecDepth 20000

/-- The number that digits tell, the lowest first. -/
def nlow : List Nat → Nat
  | [] => 0
  | d :: D => d + 10 * nlow D
/-- .. the highest first. -/
def num (D : List Nat) : Nat := nlow D.reverse
/-- Each is a digit. -/
def Dg (D : List Nat) : Prop := ∀ d ∈ D, d < 10

theorem nlow_append (D E : List Nat) : nlow (D ++ E) = nlow D + 10 ^ D.length * nlow E := by
  induction D with
  | nil => simp [nlow]
  | cons d D ih => simp only [List.cons_append, nlow, ih, List.length_cons, Nat.pow_succ]; grind
theorem num_cons (d : Nat) (D : List Nat) : num (d :: D) = num D + 10 ^ D.length * d := by
  unfold num; rw [List.reverse_cons, nlow_append, List.length_reverse]; simp [nlow]
theorem num_snoc (D : List Nat) (d : Nat) : num (D ++ [d]) = 10 * num D + d := by
  unfold num; rw [List.reverse_append]; simp [nlow]; omega
theorem num_nil : num [] = 0 := rfl
theorem num_zero (D : List Nat) : num (0 :: D) = num D := by rw [num_cons]; simp
theorem num_append (D E : List Nat) : num (D ++ E) = num D * 10 ^ E.length + num E := by
  unfold num; rw [List.reverse_append, nlow_append, List.length_reverse, Nat.mul_comm, Nat.add_comm]
theorem nlow_lt (D : List Nat) (h : Dg D) : nlow D < 10 ^ D.length := by
  induction D with
  | nil => simp [nlow]
  | cons d D ih =>
    have h1 := ih (fun x hx => h x (by simp [hx]))
    have h2 := h d (by simp)
    simp only [nlow, List.length_cons, Nat.pow_succ]
    omega
theorem Dg.reverse {D : List Nat} (h : Dg D) : Dg D.reverse := fun d hd => h d (by simpa using hd)
theorem num_lt (D : List Nat) (h : Dg D) : num D < 10 ^ D.length := by have := nlow_lt _ h.reverse; rwa [List.length_reverse] at this
theorem Dg.cons {d : Nat} {D : List Nat} (h : d < 10) (k : Dg D) : Dg (d :: D) := by
  intro x hx; rcases List.mem_cons.1 hx with rfl | hx
  · exact h
  · exact k x hx
theorem Dg.nil : Dg [] := fun d hd => by cases hd
theorem Dg.tail {d : Nat} {D : List Nat} (h : Dg (d :: D)) : Dg D := fun x hx => h x (by simp [hx])
theorem Dg.head {d : Nat} {D : List Nat} (h : Dg (d :: D)) : d < 10 := h d (by simp)

/-- A number's digits, the lowest first; none of nought. -/
def ld (n : Nat) : List Nat := if h : n = 0 then [] else n % 10 :: ld (n / 10)
termination_by n
decreasing_by omega
theorem ld_zero : ld 0 = [] := by rw [ld]; simp
theorem ld_pos (n : Nat) (h : n ≠ 0) : ld n = n % 10 :: ld (n / 10) := by rw [ld]; simp [h]
theorem nlow_ld (n : Nat) : nlow (ld n) = n := by
  induction n using Nat.strongRecOn with
  | _ n ih =>
    by_cases h : n = 0
    · subst h; rw [ld_zero]; rfl
    · rw [ld_pos n h, nlow, ih (n / 10) (by omega)]; omega
theorem ld_unique (D : List Nat) (h : Dg D) (hl : D = [] ∨ D.getLast? ≠ some 0) : D = ld (nlow D) := by
  induction D with
  | nil => rw [show nlow [] = 0 from rfl, ld_zero]
  | cons d D ih =>
    have hd := h.head
    rcases D with _ | ⟨e, D⟩
    · have h0 : d ≠ 0 := by
        rcases hl with h1 | h1
        · cases h1
        · simpa using h1
      rw [show nlow [d] = d from by simp [nlow], ld_pos d h0, show d / 10 = 0 by omega, ld_zero, Nat.mod_eq_of_lt hd]
    · have h2 := ih h.tail (.inr (by
        rcases hl with h1 | h1
        · cases h1
        · simpa [List.getLast?_cons_cons] using h1))
      have h3 : nlow (e :: D) ≠ 0 := by
        intro h4
        rw [h4, ld_zero] at h2
        cases h2
      rw [nlow, ld_pos _ (by omega), show (d + 10 * nlow (e :: D)) % 10 = d by omega, show (d + 10 * nlow (e :: D)) / 10 = nlow (e :: D) by omega, ← h2]
/-- A number's digits, the highest first. -/
def hd (n : Nat) : List Nat := if n = 0 then [0] else (ld n).reverse
theorem hd_unique (d : Nat) (D : List Nat) (h : Dg (d :: D)) (h0 : d ≠ 0) : d :: D = hd (num (d :: D)) := by
  have h1 := ld_unique (d :: D).reverse h.reverse (.inr (by simp [h0]))
  have h2 : nlow (d :: D).reverse = num (d :: D) := rfl
  rw [h2] at h1
  have h3 : num (d :: D) ≠ 0 := by
    intro h4
    rw [h4, ld_zero] at h1
    simp at h1
  unfold hd
  rw [if_neg h3, ← h1, List.reverse_reverse]
theorem num_hd (n : Nat) : num (hd n) = n := by
  unfold hd
  split
  · next h => subst h; rfl
  · unfold num; rw [List.reverse_reverse, nlow_ld]
theorem ld_dg (n : Nat) : Dg (ld n) := by
  induction n using Nat.strongRecOn with
  | _ n ih =>
    by_cases h : n = 0
    · subst h; rw [ld_zero]; exact Dg.nil
    · rw [ld_pos n h]; exact Dg.cons (by omega) (ih _ (by omega))
theorem hd_dg (n : Nat) : Dg (hd n) := by
  unfold hd
  split
  · exact Dg.cons (by omega) Dg.nil
  · exact (ld_dg n).reverse

/-- The text of a number. -/
def tx (n : Nat) : List UInt8 := (hd n).map (fun d => UInt8.ofNat (48 + d))
def txs (n : Nat) : ByteArray := ⟨(tx n).toArray⟩

theorem words_ten (k : Nat) : pw k ≤ 10 ^ (10 * k) := by
  rw [Nat.pow_mul]
  exact Nat.pow_le_pow_left (by decide) k
theorem digits_room (X j V K : Nat) (hX : X < pw K) (hV : 0 < V) (h : 10 ^ j * V ≤ X) : j < 10 * K := by
  have h1 := words_ten K
  have h2 : 10 ^ j * 1 ≤ 10 ^ j * V := Nat.mul_le_mul_left _ hV
  have h3 : 10 ^ j < 10 ^ (10 * K) := by omega
  exact (Nat.pow_lt_pow_iff_right (by decide)).1 h3

theorem piece_step (A p V i j : Nat) (hi : i < 9) (X : Nat) (h : A + 10 ^ (j + i) * (p + 10 ^ (9 - i) * V) = X) :
    A + 10 ^ (j + i) * (p % 10) + 10 ^ (j + (i + 1)) * (p / 10 + 10 ^ (9 - (i + 1)) * V) = X := by
  rw [← h, show 9 - i = 9 - (i + 1) + 1 by omega, Nat.pow_succ, ← Nat.add_assoc j i 1, Nat.pow_succ]
  have e : p = p % 10 + 10 * (p / 10) := by omega
  generalize 10 ^ (j + i) = q at *
  generalize 10 ^ (9 - (i + 1)) = s at *
  generalize p % 10 = a at *
  generalize p / 10 = b at *
  subst e
  grind
end Go.Proofs.YthilnddhehbjiaaDoor

