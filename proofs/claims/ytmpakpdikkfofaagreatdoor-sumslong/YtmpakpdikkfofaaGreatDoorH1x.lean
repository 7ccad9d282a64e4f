/- Sums of lists, plainly: steps of words, with every NaN as the one that is answered; running sums, halves, what is kept beside. -/
import Derived.Test.YtmpakpdikkfofaaGreatDoorH6x
import Derived.Test.YtmpakpdikkfofaaGreatDoorM1x
import Derived.Test.YtmpakpdikkfofaaGreatDoorS15x
import Derived.Test.YtmpakpdikkfofaaGreatDoorS3x
import Derived.Test.YtmpakpdikkfofaaGreatDoorD16x
import Derived.BigQuiet
namespace Go.Proofs.YtmpakpdikkfofaaGreatDoor
open Go.RowKit J
set_option linter.unusedVariables false
set_option maxRecDepth 20000
set_option linter.unusedSimpArgs false

/-- A word, as it is answered. -/
def nrm (z : Nat) : Nat := if nanW z then oddW else z
theorem nan_odd : nanW oddW = true := by decide
theorem nrm_idem (z : Nat) : nrm (nrm z) = nrm z := by
  unfold nrm
  cases h : nanW z
  · simp [h]
  · simp [nan_odd]
theorem nrm_lt {z : Nat} (h : z < 18446744073709551616) : nrm z < 18446744073709551616 := by
  unfold nrm
  split
  · decide
  · exact h
theorem nan_nrm (z : Nat) : nanW (nrm z) = nanW z := by
  unfold nrm
  cases h : nanW z
  · simp [h]
  · simp [nan_odd]
theorem nrm_zero : nrm 0 = 0 := by decide
theorem nan_mag {x : Nat} (h : nanW x = true) : 9218868437227405312 < magW x := of_decide_eq_true h
theorem nan_turn (y : Nat) (hy : y < 18446744073709551616) : nanW (turnW y) = nanW y := by
  unfold nanW turnW
  rw [decide_eq_decide]
  split <;> omega
theorem add_nan_l {x : Nat} (y : Nat) (h : nanW x = true) : arW .add x y = oddW := by
  obtain ⟨s, t, hr⟩ := read_nanW x (nan_mag h)
  rw [arW_add, hr]; rfl
theorem add_nan_r {x y : Nat} (hx : x < 18446744073709551616) (h : nanW y = true) : arW .add x y = oddW := by
  obtain ⟨s, t, hr2⟩ := read_nanW y (nan_mag h)
  rcases kinds x hx with ⟨a1, a2, a3, a4⟩ | ⟨a1, a2, a3, a4⟩ | ⟨a1, a2, a4⟩
  · exact add_nan_l y a1
  · rw [arW_add, read_infW x hx a4, hr2]; rfl
  · obtain ⟨m, k, hr, _⟩ := read_finW x hx a4
    rw [arW_add, hr, hr2]; rfl
theorem sub_nan_l {x y : Nat} (hy : y < 18446744073709551616) (h : nanW x = true) : arW .sub x y = oddW := by rw [sub_turn x y hy]; exact add_nan_l _ h
theorem sub_nan_r {x y : Nat} (hx : x < 18446744073709551616) (hy : y < 18446744073709551616) (h : nanW y = true) : arW .sub x y = oddW := by
  rw [sub_turn x y hy]
  exact add_nan_r hx (by rw [nan_turn y hy]; exact h)
theorem add_nrm {x y : Nat} (hx : x < 18446744073709551616) (hy : y < 18446744073709551616) : arW .add (nrm x) (nrm y) = arW .add x y := by
  cases h1 : nanW x
  · have e1 : nrm x = x := by unfold nrm; rw [h1]; rfl
    rw [e1]
    cases h2 : nanW y
    · have e2 : nrm y = y := by unfold nrm; rw [h2]; rfl
      rw [e2]
    · rw [add_nan_r hx h2, add_nan_r hx (by rw [nan_nrm]; exact h2)]
  · rw [add_nan_l _ h1, add_nan_l _ (by rw [nan_nrm]; exact h1)]
theorem sub_nrm {x y : Nat} (hx : x < 18446744073709551616) (hy : y < 18446744073709551616) : arW .sub (nrm x) (nrm y) = arW .sub x y := by
  cases h1 : nanW x
  · have e1 : nrm x = x := by unfold nrm; rw [h1]; rfl
    rw [e1]
    cases h2 : nanW y
    · have e2 : nrm y = y := by unfold nrm; rw [h2]; rfl
      rw [e2]
    · rw [sub_nan_r hx hy h2, sub_nan_r hx (nrm_lt hy) (by rw [nan_nrm]; exact h2)]
  · rw [sub_nan_l hy h1, sub_nan_l (nrm_lt hy) (by rw [nan_nrm]; exact h1)]
/-- What a step's operation gives: the answer, or some NaN where there is none. -/
def Gives (op : BinOp) (x y z : Nat) : Prop := floatBits op .f64 x y = some z ∨ floatBits op .f64 x y = none ∧ 9218868437227405312 < z % 9223372036854775808 ∧ z < 18446744073709551616
theorem gives_nrm {op : BinOp} {x y z : Nat} (ho : op = .add ∨ op = .sub ∨ op = .mul) (h : Gives op x y z) : nrm z = arW op x y ∧ z < 18446744073709551616 := by
  rcases h with h | ⟨h, h2, h3⟩
  · have hb := bits_fin ho h
    refine ⟨?_, hb.2⟩
    unfold nrm nanW arW
    rw [h, if_neg (by simp; omega)]; rfl
  · refine ⟨?_, h3⟩
    unfold nrm nanW arW
    rw [h, if_pos (by simpa using h2)]; rfl
theorem arW_nrm {op : BinOp} (ho : op = .add ∨ op = .sub ∨ op = .mul) (x y : Nat) : nrm (arW op x y) = arW op x y ∧ arW op x y < 18446744073709551616 := by
  unfold arW
  cases h : floatBits op .f64 x y with
  | none => exact ⟨by decide, by decide⟩
  | some z =>
    have hb := bits_fin ho h
    refine ⟨?_, hb.2⟩
    show nrm z = z
    unfold nrm nanW
    rw [if_neg (by simp; omega)]

/-- A sum, a difference. -/
abbrev plF (x y : Nat) : Nat := arW .add x y
abbrev miF (x y : Nat) : Nat := arW .sub x y
theorem plF_lt (x y : Nat) : plF x y < 18446744073709551616 := (arW_nrm (.inl rfl) x y).2
theorem miF_lt (x y : Nat) : miF x y < 18446744073709551616 := (arW_nrm (.inr (.inl rfl)) x y).2
theorem plF_nrm (x y : Nat) : nrm (plF x y) = plF x y := (arW_nrm (.inl rfl) x y).1
theorem miF_nrm (x y : Nat) : nrm (miF x y) = miF x y := (arW_nrm (.inr (.inl rfl)) x y).1
/-- One after the other. -/
def runF : List Nat → Nat
  | [] => 0
  | x :: l => l.foldl plF (nrm x)
theorem runF_snoc (l : List Nat) (y : Nat) (h : l ≠ []) : runF (l ++ [y]) = plF (runF l) y := by
  cases l with
  | nil => exact absurd rfl h
  | cons x l => simp [runF, List.foldl_append]
theorem runF_take (l : List Nat) (k : Nat) (h0 : 0 < k) (h : k < l.length) : runF (l.take (k + 1)) = plF (runF (l.take k)) (l.getD k 0) := by
  have e : l.take (k + 1) = l.take k ++ [l.getD k 0] := by
    rw [List.take_succ_eq_append_getElem h, List.getD_eq_getElem?_getD, List.getElem?_eq_getElem h]; rfl
  rw [e, runF_snoc]
  intro h2
  have := congrArg List.length h2
  rw [List.length_take, List.length_nil] at this
  omega
theorem runF_one (l : List Nat) (h : 0 < l.length) : runF (l.take 1) = nrm (l.getD 0 0) := by
  cases l with
  | nil => simp at h
  | cons x l => simp [runF]
theorem foldl_lt (l : List Nat) (s : Nat) (hs : s < 18446744073709551616 ∧ nrm s = s) : l.foldl plF s < 18446744073709551616 ∧ nrm (l.foldl plF s) = l.foldl plF s := by
  induction l generalizing s with
  | nil => exact hs
  | cons x l ih => exact ih _ ⟨plF_lt _ _, plF_nrm _ _⟩
theorem runF_ok (l : List Nat) (h : ∀ x ∈ l, x < 18446744073709551616) : runF l < 18446744073709551616 ∧ nrm (runF l) = runF l := by
  cases l with
  | nil => exact ⟨by decide, by decide⟩
  | cons x l => exact foldl_lt l _ ⟨nrm_lt (h x (List.mem_cons_self ..)), nrm_idem x⟩

/-- A row, neighbours added in twos. -/
def two : List Nat → List Nat
  | a :: b :: l => plF a b :: two l
  | [a] => [a]
  | [] => []
def twos : Nat → List Nat → List Nat
  | 0, l => l
  | r + 1, l => twos r (two l)
theorem two_len : ∀ l : List Nat, (two l).length = l.length - l.length / 2
  | [] => rfl
  | [a] => by simp [two]
  | a :: b :: l => by
    have := two_len l
    simp only [two, List.length_cons, this]
    omega
theorem two_app : ∀ (l m : List Nat), l.length % 2 = 0 → two (l ++ m) = two l ++ two m
  | [], m, _ => rfl
  | [a], m, h => by simp at h
  | a :: b :: l, m, h => by
    have h2 : l.length % 2 = 0 := by simp at h; omega
    simp only [List.cons_append, two, two_app l m h2]
theorem twos_out : ∀ (r : Nat) (l : List Nat), twos (r + 1) l = two (twos r l)
  | 0, l => rfl
  | r + 1, l => twos_out r (two l)
theorem two_short (l : List Nat) (h : l.length ≤ 1) : two l = l := by
  match l, h with
  | [], _ => rfl
  | [a], _ => rfl
  | a :: b :: l, h => simp at h
theorem twos_short (r : Nat) (l : List Nat) (h : l.length ≤ 1) : twos r l = l := by
  induction r with
  | zero => rfl
  | succ r ih => rw [twos, two_short l h, ih]
theorem twos_add : ∀ (r s : Nat) (l : List Nat), twos (r + s) l = twos s (twos r l)
  | 0, s, l => by rw [Nat.zero_add]; rfl
  | r + 1, s, l => by rw [show r + 1 + s = (r + s) + 1 by omega, twos, twos_add r s, twos]
theorem twos_app : ∀ (r : Nat) (l m : List Nat), l.length = 2 ^ r → twos r (l ++ m) = twos r l ++ twos r m
  | 0, l, m, _ => rfl
  | r + 1, l, m, h => by
    rw [Nat.pow_succ] at h
    rw [twos, twos, twos, two_app l m (by omega), twos_app r (two l) (two m) (by rw [two_len]; omega)]
theorem twos_len : ∀ (r : Nat) (l : List Nat), l.length ≤ 2 ^ r → (twos r l).length ≤ 1 ∧ (0 < l.length → 0 < (twos r l).length)
  | 0, l, h => ⟨by simpa [twos] using h, fun h => h⟩
  | r + 1, l, h => by
    rw [Nat.pow_succ] at h
    obtain ⟨h1, h2⟩ := twos_len r (two l) (by rw [two_len]; omega)
    exact ⟨h1, fun h3 => h2 (by rw [two_len]; omega)⟩
/-- By halves. -/
def hvF (l : List Nat) : Nat := nrm ((twos l.length l).getD 0 0)
theorem hv_any (r : Nat) (l : List Nat) (h : (twos r l).length ≤ 1) : hvF l = nrm ((twos r l).getD 0 0) := by
  unfold hvF
  have hn : (twos l.length l).length ≤ 1 := (twos_len l.length l (Nat.le_of_lt Nat.lt_two_pow_self)).1
  rcases Nat.le_total r l.length with h1 | h1
  · obtain ⟨d, hd⟩ : ∃ d, l.length = r + d := ⟨l.length - r, by omega⟩
    rw [hd, twos_add, twos_short d _ h]
  · obtain ⟨d, hd⟩ : ∃ d, r = l.length + d := ⟨r - l.length, by omega⟩
    rw [hd, twos_add, twos_short d _ hn]
theorem hv_short (l : List Nat) (h : l.length ≤ 1) : hvF l = nrm (l.getD 0 0) := hv_any 0 l h
theorem W64_two : ∀ (l : List Nat), (∀ x ∈ l, x < 18446744073709551616) → ∀ x ∈ two l, x < 18446744073709551616
  | [], h => h
  | [a], h => h
  | a :: b :: l, h => fun x hx => by
    simp only [two, List.mem_cons] at hx
    rcases hx with rfl | hx
    · exact plF_lt _ _
    · exact W64_two l (fun y hy => h y (by simp [hy])) x hx
theorem W64_twos : ∀ (r : Nat) (l : List Nat), (∀ x ∈ l, x < 18446744073709551616) → ∀ x ∈ twos r l, x < 18446744073709551616
  | 0, l, h => h
  | r + 1, l, h => W64_twos r (two l) (W64_two l h)
theorem getD_lt {l : List Nat} (h : ∀ x ∈ l, x < 18446744073709551616) (i : Nat) : l.getD i 0 < 18446744073709551616 := by
  by_cases hi : i < l.length
  · rw [List.getD_eq_getElem?_getD, List.getElem?_eq_getElem hi]; exact h _ (List.getElem_mem hi)
  · rw [List.getD_eq_getElem?_getD, List.getElem?_eq_none (by omega)]; simp
theorem hv_lt (l : List Nat) (h : ∀ x ∈ l, x < 18446744073709551616) : hvF l < 18446744073709551616 := nrm_lt (getD_lt (W64_twos _ l h) 0)
theorem hv_halves (l : List Nat) (j : Nat) (h1 : 2 ^ j < l.length) (h2 : l.length ≤ 2 ^ (j + 1)) (hw : ∀ x ∈ l, x < 18446744073709551616) : hvF l = plF (hvF (l.take (2 ^ j))) (hvF (l.drop (2 ^ j))) := by
  rw [Nat.pow_succ] at h2
  have ht : (l.take (2 ^ j)).length = 2 ^ j := by rw [List.length_take]; omega
  have hd : (l.drop (2 ^ j)).length ≤ 2 ^ j ∧ 0 < (l.drop (2 ^ j)).length := by rw [List.length_drop]; omega
  obtain ⟨a1, a2⟩ := twos_len j (l.take (2 ^ j)) (by omega)
  obtain ⟨b1, b2⟩ := twos_len j (l.drop (2 ^ j)) hd.1
  have a3 := a2 (by have := Nat.two_pow_pos j; omega)
  have b3 := b2 hd.2
  rw [hv_any j _ a1, hv_any j _ b1]
  have wa := W64_twos j (l.take (2 ^ j)) (fun x hx => hw x (List.mem_of_mem_take hx))
  have wb := W64_twos j (l.drop (2 ^ j)) (fun x hx => hw x (List.mem_of_mem_drop hx))
  have e : twos (j + 1) l = two (twos j (l.take (2 ^ j)) ++ twos j (l.drop (2 ^ j))) := by
    rw [twos_out, ← twos_app j _ _ ht, List.take_append_drop]
  rw [hv_any (j + 1) l (twos_len (j + 1) l (by rw [Nat.pow_succ]; omega)).1, e]
  generalize twos j (l.take (2 ^ j)) = A at *
  generalize twos j (l.drop (2 ^ j)) = C at *
  match A, C, a1, a3, b1, b3, wa, wb with
  | [a], [b], _, _, _, _, wa, wb =>
    simp only [List.cons_append, List.nil_append, two, List.getD_cons_zero]
    have e2 := add_nrm (wa a (by simp)) (wb b (by simp))
    show nrm (plF a b) = arW .add (nrm a) (nrm b)
    rw [e2, plF_nrm]

/-- Blocks of s numbers; their running sums' running sum. -/
def pc (s : Nat) (l : List Nat) (i : Nat) : List Nat := (l.drop (i * s)).take s
def blF (s : Nat) (l : List Nat) : Nat := runF ((List.range ((l.length + s - 1) / s)).map fun i => runF (pc s l i))
/-- Kahan's step. -/
def kaS (q : Nat × Nat) (x : Nat) : Nat × Nat := (plF q.1 (miF x q.2), miF (miF (plF q.1 (miF x q.2)) q.1) (miF x q.2))
def kaF (l : List Nat) : Nat × Nat := l.foldl kaS (0, 0)
/-- Is |s| not below |x|? -/
def nbW (s x : Nat) : Bool := !nanW s && !nanW x && decide (magW x ≤ magW s)
/-- Neumaier's step. -/
def neV (s x : Nat) : Nat := if nbW s x then plF (miF s (plF s x)) x else plF (miF x (plF s x)) s
def neS (q : Nat × Nat) (x : Nat) : Nat × Nat := (plF q.1 x, plF q.2 (neV q.1 x))
def neF (l : List Nat) : Nat × Nat := l.foldl neS (0, 0)
theorem foldl_take {α : Type} (f : α → Nat → α) (a : α) (l : List Nat) (k : Nat) (h : k < l.length) : (l.take (k + 1)).foldl f a = f ((l.take k).foldl f a) (l.getD k 0) := by
  have e : l.take (k + 1) = l.take k ++ [l.getD k 0] := by
    rw [List.take_succ_eq_append_getElem h, List.getD_eq_getElem?_getD, List.getElem?_eq_getElem h]; rfl
  rw [e, List.foldl_append]; rfl
theorem nbW_nrm (s x : Nat) : nbW (nrm s) (nrm x) = nbW s x := by
  unfold nbW
  rw [nan_nrm, nan_nrm]
  cases h1 : nanW s <;> cases h2 : nanW x <;> simp [nrm, h1, h2]
theorem kaS_ok (q : Nat × Nat) (x : Nat) : (kaS q x).1 < 18446744073709551616 ∧ (kaS q x).2 < 18446744073709551616 ∧ nrm (kaS q x).1 = (kaS q x).1 ∧ nrm (kaS q x).2 = (kaS q x).2 := ⟨plF_lt _ _, miF_lt _ _, plF_nrm _ _, miF_nrm _ _⟩
theorem neS_ok (q : Nat × Nat) (x : Nat) : (neS q x).1 < 18446744073709551616 ∧ (neS q x).2 < 18446744073709551616 ∧ nrm (neS q x).1 = (neS q x).1 ∧ nrm (neS q x).2 = (neS q x).2 := ⟨plF_lt _ _, plF_lt _ _, plF_nrm _ _, plF_nrm _ _⟩
theorem fold_ok (f : Nat × Nat → Nat → Nat × Nat) (hf : ∀ q x, (f q x).1 < 18446744073709551616 ∧ (f q x).2 < 18446744073709551616 ∧ nrm (f q x).1 = (f q x).1 ∧ nrm (f q x).2 = (f q x).2) (l : List Nat) : (l.foldl f (0, 0)).1 < 18446744073709551616 ∧ (l.foldl f (0, 0)).2 < 18446744073709551616 ∧ nrm (l.foldl f (0, 0)).1 = (l.foldl f (0, 0)).1 ∧ nrm (l.foldl f (0, 0)).2 = (l.foldl f (0, 0)).2 := by
  have h : ∀ (l : List Nat) (q : Nat × Nat), (q.1 < 18446744073709551616 ∧ q.2 < 18446744073709551616 ∧ nrm q.1 = q.1 ∧ nrm q.2 = q.2) → ((l.foldl f q).1 < 18446744073709551616 ∧ (l.foldl f q).2 < 18446744073709551616 ∧ nrm (l.foldl f q).1 = (l.foldl f q).1 ∧ nrm (l.foldl f q).2 = (l.foldl f q).2) := by
    intro l
    induction l with
    | nil => intro q h; exact h
    | cons x l ih => intro q _; exact ih _ (hf q x)
  exact h l (0, 0) ⟨by decide, by decide, by decide, by decide⟩
end Go.Proofs.YtmpakpdikkfofaaGreatDoor

/- The program's steps; its running sum. -/
namespace Go.Proofs.YtmpakpdikkfofaaGreatDoor
open Go.RowKit J
set_option linter.unusedVariables false
set_option maxRecDepth 20000
set_option linter.unusedSimpArgs false
attribute [local go_sem] st_float

/-- A word that is answered so. -/
def Is (z v : Nat) : Prop := z < 18446744073709551616 ∧ nrm z = v
theorem Is.self {x : Nat} (h : x < 18446744073709551616) : Is x (nrm x) := ⟨h, rfl⟩
theorem Is.pl {x y a b z : Nat} (hx : Is x a) (hy : Is y b) (hz : Gives .add x y z) : Is z (plF a b) := by
  obtain ⟨h1, rfl⟩ := hx
  obtain ⟨h2, rfl⟩ := hy
  obtain ⟨h3, h4⟩ := gives_nrm (.inl rfl) hz
  exact ⟨h4, h3.trans (add_nrm h1 h2).symm⟩
theorem Is.mi {x y a b z : Nat} (hx : Is x a) (hy : Is y b) (hz : Gives .sub x y z) : Is z (miF a b) := by
  obtain ⟨h1, rfl⟩ := hx
  obtain ⟨h2, rfl⟩ := hy
  obtain ⟨h3, h4⟩ := gives_nrm (.inr (.inl rfl)) hz
  exact ⟨h4, h3.trans (sub_nrm h1 h2).symm⟩

theorem plus10 {x y a b : Nat} (hx : Is x a) (hy : Is y b) (w : World) : Calls Tryz.prog 91 #[.float .f64 x, .float .f64 y] w fun r w' => ∃ z, r = .returned (.float .f64 z) ∧ Is z (plF a b) ∧ Below w.heap.size w w' := by
  have HZ : Aside (∀ z, Gives .add x y z → Is z (plF a b)) := fun z hz => hx.pl hy hz
  clear hx hy
  go_enter Tryz.func91, Tryz.ntmps91
  cases h : floatBits .add .f64 x y with
  | some z =>
    have d := run_float_arith (P := Tryz.prog) w .add 22 .f64 x y z h
    go_wp2_with (simp only [d])
    exact bodyPost_ret (v := .float .f64 z) (by simp [results, Tryz.results91, go_sem]) rfl ⟨z, rfl, HZ.out z (.inl h), Below.refl _ _⟩
  | none =>
    obtain ⟨z, hz, d⟩ := run_float_none (P := Tryz.prog) w .add 22 x y (.inl rfl) h
    go_wp2_with (simp only [d])
    exact bodyPost_ret (v := .float .f64 z) (by simp [results, Tryz.results91, go_sem]) rfl ⟨z, rfl, HZ.out z (.inr ⟨h, hz⟩), (Below.refl _ _).drew⟩
theorem minus10 {x y a b : Nat} (hx : Is x a) (hy : Is y b) (w : World) : Calls Tryz.prog 93 #[.float .f64 x, .float .f64 y] w fun r w' => ∃ z, r = .returned (.float .f64 z) ∧ Is z (miF a b) ∧ Below w.heap.size w w' := by
  have HZ : Aside (∀ z, Gives .sub x y z → Is z (miF a b)) := fun z hz => hx.mi hy hz
  clear hx hy
  go_enter Tryz.func93, Tryz.ntmps93
  cases h : floatBits .sub .f64 x y with
  | some z =>
    have d := run_float_arith (P := Tryz.prog) w .sub 22 .f64 x y z h
    go_wp2_with (simp only [d])
    exact bodyPost_ret (v := .float .f64 z) (by simp [results, Tryz.results93, go_sem]) rfl ⟨z, rfl, HZ.out z (.inl h), Below.refl _ _⟩
  | none =>
    obtain ⟨z, hz, d⟩ := run_float_none (P := Tryz.prog) w .sub 22 x y (.inr (.inl rfl)) h
    go_wp2_with (simp only [d])
    exact bodyPost_ret (v := .float .f64 z) (by simp [results, Tryz.results93, go_sem]) rfl ⟨z, rfl, HZ.out z (.inr ⟨h, hz⟩), (Below.refl _ _).drew⟩
theorem told10 {x a : Nat} (hx : Is x a) (w : World) : Calls Tryz.prog 49 #[.float .f64 x] w fun r w' => r = .returned (.float .f64 a) ∧ w' = w := by
  obtain ⟨s, e, f, he, hf, h1, h2⟩ := bwz x hx.1
  have h3 := B.order_self s e f he hf
  rw [← h1, h2] at h3
  have h4 := hx.2
  unfold nrm at h4
  have HN := hid (fun u : World => B.nan_any u)
  clear h1 h2 he hf hx
  cases hn : nanW x
  · rw [hn] at h3 h4
    rw [if_neg (by decide)] at h4
    subst h4
    go_enter Tryz.func49, Tryz.ntmps49
    go_wp2
    go_ret
    exact ⟨rfl, rfl⟩
  · rw [hn] at h3 h4
    rw [if_pos rfl] at h4
    subst h4
    go_enter Tryz.func49, Tryz.ntmps49
    go_wp2_with fail
    refine (HN.out _).mono ?_
    rintro r w1 ⟨rfl, rfl⟩
    go_wp2
    exact bodyPost_ret (v := .float .f64 oddW) (by simp [results, Tryz.results49, go_sem, oddW]) rfl ⟨rfl, rfl⟩


set_option maxHeartbeats 2000000 in
theorem running10 (xs : List Nat) (a : Option Addr) (n c : Nat) (w : World) (hn : n = xs.length) (hF : Fs w.heap.size w a xs) (hW : W64 xs) (hc : n ≤ c) (hm : n ≤ 4611686018427387904) :
    Calls Tryz.prog 50 #[.slice a n c] w fun r w' => ∃ z, r = .returned (.float .f64 z) ∧ Is z (runF xs) ∧ Below w.heap.size w w' := by
  by_cases h0 : n = 0
  · have e : xs = [] := List.eq_nil_of_length_eq_zero (by omega)
    subst h0 e
    clear hF hW hn
    go_enter Tryz.func50, Tryz.ntmps50
    go_wp2
    exact bodyPost_ret (v := .float .f64 0) (by simp [results, Tryz.results50, go_sem]) rfl ⟨0, rfl, ⟨by decide, by decide⟩, Below.refl _ _⟩
  · have hne : xs ≠ [] := by intro e; subst e; simp at hn; omega
    obtain ⟨b, off, hlt, rfl, hcl⟩ := hF hne
    have hc0 := hcl 0 (by omega)
    rw [Nat.add_zero] at hc0
    have HR : Aside (Fs w.heap.size w (some ⟨b, off, none⟩) xs ∧ W64 xs ∧ n = xs.length) := ⟨hF, hW, hn⟩
    have hz0 : ((n : Int) == 0) = false := by simp; omega
    have hz1 : decide ((0 : Int) < n) = true := by simp; omega
    obtain ⟨x0, hx0⟩ : ∃ x0, x0 = xs.getD 0 0 := ⟨_, rfl⟩
    rw [← hx0] at hc0
    have HX := Aside.intro (show Is x0 (runF (xs.take 1)) by rw [runF_one xs (by omega), ← hx0]; exact Is.self (by rw [hx0]; exact hW.get 0))
    have hnc : c = 1 ∨ c ≠ 1 := by omega
    clear hF hW hn hcl hne hlt hx0
    have hcc : (c = 1 ∧ n = 1) ∨ c ≠ 1 := by omega
    clear hnc
    rcases hcc with ⟨hc1, hn1⟩ | hc1
    · subst hc1 hn1
      have HK := Aside.intro (show xs.take 1 = xs by rw [List.take_of_length_le]; rw [← HR.out.2.2]; omega)
      go_enter Tryz.func50, Tryz.ntmps50
      go_wp2
      go_loopg [15, 3] 1 (fun gk i s wr => i = .int .i64 0 ∧ s = .float .f64 x0 ∧ wr = w)
      case atStart => exact ⟨by simp, rfl, rfl⟩
      case round =>
        obtain ⟨rfl, rfl, rfl⟩ := hrel
        go_wp2
        refine bodyPost_ret (v := .float .f64 x0) (by simp [results, Tryz.results50, go_sem]) rfl ?_
        have e := HX.out
        rw [HK.out] at e
        exact ⟨x0, rfl, e, Below.refl _ _⟩
    · go_enter Tryz.func50, Tryz.ntmps50
      go_wp2
      go_loopg [15, 3] n (fun gk i s wr => ∃ (k z : Nat), gk + k = n ∧ i = .int .i64 (k : Nat) ∧ s = .float .f64 z ∧ Aside (Is z (runF (xs.take (k + 1))) ∧ Below w.heap.size w wr))
      case atStart => exact ⟨0, x0, by omega, by simp, rfl, HX.out, Below.refl _ _⟩
      case round =>
        obtain ⟨k, z, hgk, rfl, rfl, HA⟩ := hrel
        by_cases hk : k + 1 < n
        · have hcell := HR.out.1.cell HA.out.2 (k + 1) (by rw [← HR.out.2.2]; exact hk)
          rw [show off + (k + 1) = off + 1 + k by omega] at hcell
          obtain ⟨x, hx⟩ : ∃ x, x = xs.getD (k + 1) 0 := ⟨_, rfl⟩
          rw [← hx] at hcell
          have HP : Hid (∀ u : World, Calls Tryz.prog 91 #[.float .f64 z, .float .f64 x] u fun r w' => ∃ z', r = .returned (.float .f64 z') ∧ Is z' (runF (xs.take (k + 1 + 1))) ∧ Below u.heap.size u w') := fun u => by
            have hx64 : x < 18446744073709551616 := by rw [hx]; exact HR.out.2.1.get (k + 1)
            have h := plus10 HA.out.1 (Is.self hx64) u
            have hw := runF_ok (xs.take (k + 1)) (fun y hy => HR.out.2.1 y (List.mem_of_mem_take hy))
            have e := add_nrm hw.1 hx64
            rw [hw.2] at e
            rw [runF_take xs (k + 1) (by omega) (by rw [← HR.out.2.2]; exact hk), ← hx]
            rw [show plF (runF (xs.take (k + 1))) (nrm x) = plF (runF (xs.take (k + 1))) x from e] at h
            exact h
          have hd : decide ((k : Int) < (n : Int) - 1) = true := by simp; omega
          clear hx
          go_wp2_with fail
          refine (HP.out _).mono ?_
          rintro r w2 ⟨z', rfl, hz', hb2⟩
          have HB := Aside.intro (And.intro hz' hb2)
          clear hz' hb2 HP
          go_wp2
          go_roundg (gk - 1)
          case measure => omega
          case rel => exact ⟨k + 1, z', by omega, by first | rfl | simp, rfl, HB.out.1, HA.out.2.trans (HB.out.2.mono HA.out.2.size)⟩
        · have hd : decide ((k : Int) < (n : Int) - 1) = false := by simp; omega
          have HK := Aside.intro (show xs.take (k + 1) = xs by rw [List.take_of_length_le]; rw [← HR.out.2.2]; omega)
          go_wp2
          refine bodyPost_ret (v := .float .f64 z) (by simp [results, Tryz.results50, go_sem]) rfl ?_
          have e := HA.out.1
          rw [HK.out] at e
          exact ⟨z, rfl, e, HA.out.2⟩

theorem Running10 (xs : List Nat) (a : Option Addr) (n c : Nat) (w : World) (hn : n = xs.length) (hF : Fs w.heap.size w a xs) (hW : W64 xs) (hc : n ≤ c) (hm : n ≤ 4611686018427387904) :
    Calls Tryz.prog 22 #[.slice a n c] w fun r w' => r = .returned (.float .f64 (runF xs)) ∧ Below w.heap.size w w' := by
  have H1 := hid (running10 xs a n c w hn hF hW hc hm)
  obtain ⟨y, hy⟩ : ∃ y, y = runF xs := ⟨_, rfl⟩
  rw [← hy] at H1 ⊢
  clear hn hF hW hc hm hy
  go_enter Tryz.func22, Tryz.ntmps22
  go_wp2_with fail
  refine (H1.out).mono ?_
  rintro r w1 ⟨z, rfl, hz, hb⟩
  have H2 := hid (fun u : World => told10 hz u)
  have HB := Aside.intro hb
  clear hz hb H1
  go_wp2_with fail
  refine (H2.out _).mono ?_
  rintro r w2 ⟨rfl, rfl⟩
  go_wp2
  exact bodyPost_ret (v := .float .f64 y) (by simp [results, Tryz.results22, go_sem]) rfl ⟨rfl, HB.out⟩
end Go.Proofs.YtmpakpdikkfofaaGreatDoor

/- The program's Kahan, Neumaier. -/
namespace Go.Proofs.YtmpakpdikkfofaaGreatDoor
open Go.RowKit J
set_option linter.unusedVariables false
set_option maxRecDepth 20000
set_option linter.unusedSimpArgs false
attribute [local go_sem] st_float

theorem kaS_nrm {q : Nat × Nat} {x : Nat} (hx : x < 18446744073709551616) (h2 : q.2 < 18446744073709551616) (n2 : nrm q.2 = q.2) : kaS q (nrm x) = kaS q x := by
  have e : miF (nrm x) q.2 = miF x q.2 := by
    have := sub_nrm hx h2
    rw [n2] at this
    exact this
  unfold kaS
  rw [e]
theorem neS_nrm {q : Nat × Nat} {x : Nat} (hx : x < 18446744073709551616) (h1 : q.1 < 18446744073709551616) (n1 : nrm q.1 = q.1) : neS q (nrm x) = neS q x := by
  have e : plF q.1 (nrm x) = plF q.1 x := by
    have := add_nrm h1 hx
    rw [n1] at this
    exact this
  have e2 : nbW q.1 (nrm x) = nbW q.1 x := by have := nbW_nrm q.1 x; rw [n1] at this; exact this
  have e3 : miF (nrm x) (plF q.1 x) = miF x (plF q.1 x) := by
    have := sub_nrm hx (plF_lt q.1 x)
    rw [plF_nrm] at this
    exact this
  have e4 : ∀ y, y < 18446744073709551616 → nrm y = y → plF y (nrm x) = plF y x := fun y hy ny => by
    have := add_nrm hy hx
    rw [ny] at this
    exact this
  unfold neS neV
  rw [e, e2, e3, e4 _ (miF_lt _ _) (miF_nrm _ _)]

theorem together10 {s c a b : Nat} (hs : Is s a) (hc : Is c b) (w : World) : Calls Tryz.prog 52 #[.float .f64 s, .float .f64 c] w fun r w' => ∃ z, r = .returned (.float .f64 z) ∧ Is z (plF a b) ∧ Below w.heap.size w w' := by
  have H1 := hid (fun u : World => plus10 hs hc u)
  clear hs hc
  go_enter Tryz.func52, Tryz.ntmps52
  go_wp2_with fail
  refine (H1.out _).mono ?_
  rintro r w1 ⟨y, rfl, hy, hb1⟩
  have HY := Aside.intro (And.intro hy hb1)
  clear hy hb1
  go_wp2
  exact bodyPost_ret (v := .float .f64 y) (by simp [results, Tryz.results52, go_sem]) rfl ⟨y, rfl, HY.out.1, HY.out.2⟩

/-- Sizes held against each other. -/
theorem ge_size {s x : Nat} (hs : s < 18446744073709551616) (hx : x < 18446744073709551616) : (FloatKind.f64.format.order (magW s) (magW x) == some .gt || FloatKind.f64.format.order (magW s) (magW x) == some .eq) = nbW s x := by
  obtain ⟨s1, e, f, he, hf, h1, h2⟩ := bwz s hs
  obtain ⟨s2, u, v, hu, hv, h3, h4⟩ := bwz x hx
  have m1 : magW s = B.bw false e f := by
    rw [h1]
    unfold magW B.bw
    cases s1 <;> simp <;> omega
  have m2 : magW x = B.bw false u v := by
    rw [h3]
    unfold magW B.bw
    cases s2 <;> simp <;> omega
  unfold nbW
  rw [m1, m2, B.gt_f64 false false e f u v he hf hu hv, B.eq_f64 false false e f u v he hf hu hv, h2, h4]
  cases nanW s <;> cases nanW x <;> simp
  unfold B.pl B.bw B.sg
  rw [Bool.eq_iff_iff]
  simp
  omega
theorem abs10 {x : Nat} (hx : x < 18446744073709551616) (w : World) : Calls Tryz.prog 92 #[.float .f64 x] w fun r w' => r = .returned (.float .f64 (magW x)) ∧ w' = w := by
  obtain ⟨s, e, f, he, hf, h1, _⟩ := bwz x hx
  have h2 : magW x = B.bw false e f := by
    rw [h1]
    unfold magW B.bw
    cases s <;> simp <;> omega
  rw [h2, h1]
  exact B.abs_any s e f he hf w

set_option maxHeartbeats 2000000 in
theorem saved10 {s c x a b d : Nat} (hs : Is s a) (hc : Is c b) (hx : Is x d) (w : World) : Calls Tryz.prog 51 #[.float .f64 s, .float .f64 c, .float .f64 x] w fun r w' => ∃ t u, r = .returned (.tuple #[.float .f64 t, .float .f64 u]) ∧ Is t (neS (a, b) d).1 ∧ Is u (neS (a, b) d).2 ∧ Below w.heap.size w w' := by
  have hge := ge_size hs.1 hx.1
  have enb : nbW s x = nbW a d := by rw [← hs.2, ← hx.2, nbW_nrm]
  have A1 := hid (fun u : World => abs10 hs.1 u)
  have A2 := hid (fun u : World => abs10 hx.1 u)
  obtain ⟨ms, hms⟩ : ∃ m, m = magW s := ⟨_, rfl⟩
  obtain ⟨mx, hmx⟩ : ∃ m, m = magW x := ⟨_, rfl⟩
  rw [← hms] at A1 hge
  rw [← hmx] at A2 hge
  rw [enb] at hge
  have H1 := hid (fun u : World => plus10 hs hx u)
  have HS := Aside.intro (And.intro hs (And.intro hc hx))
  clear hs hc hx enb hms hmx
  go_enter Tryz.func51, Tryz.ntmps51
  go_wp2_with fail
  refine (H1.out _).mono ?_
  rintro r w1 ⟨t, rfl, ht, hb1⟩
  have HT := Aside.intro (And.intro ht hb1)
  clear ht hb1 H1
  go_wp2_with fail
  refine (A1.out _).mono ?_
  rintro r w1' ⟨rfl, rfl⟩
  go_wp2_with fail
  refine (A2.out _).mono ?_
  rintro r w1'' ⟨rfl, rfl⟩
  clear A1 A2
  cases hnb : nbW a d
  · rw [hnb] at hge
    have HE := Aside.intro (show neS (a, b) d = (plF a d, plF b (plF (miF d (plF a d)) a)) by unfold neS neV; rw [hnb]; rfl)
    clear hnb
    have H3 := hid (fun u : World => minus10 HS.out.2.2 HT.out.1 u)
    go_wp2_with fail
    refine (H3.out _).mono ?_
    rintro r w3 ⟨u, rfl, hu, hb3⟩
    have HU := Aside.intro (And.intro hu (HT.out.2.trans (hb3.mono HT.out.2.size)))
    have H4 := hid (fun v : World => plus10 hu HS.out.1 v)
    clear hu hb3 H3
    go_wp2_with fail
    refine (H4.out _).mono ?_
    rintro r w4 ⟨v, rfl, hv, hb4⟩
    have HV := Aside.intro (And.intro hv (HU.out.2.trans (hb4.mono HU.out.2.size)))
    have H5 := hid (fun v' : World => plus10 HS.out.2.1 hv v')
    clear hv hb4 H4
    go_wp2_with fail
    refine (H5.out _).mono ?_
    rintro r w5 ⟨y, rfl, hy, hb5⟩
    have HY := Aside.intro (And.intro hy (HV.out.2.trans (hb5.mono HV.out.2.size)))
    clear hy hb5 H5
    go_wp2
    go_ret2
    exact ⟨t, y, rfl, by rw [HE.out]; exact HT.out.1, by rw [HE.out]; exact HY.out.1, HY.out.2⟩
  · rw [hnb] at hge
    have HE := Aside.intro (show neS (a, b) d = (plF a d, plF b (plF (miF a (plF a d)) d)) by unfold neS neV; rw [hnb]; rfl)
    clear hnb
    have H3 := hid (fun u : World => minus10 HS.out.1 HT.out.1 u)
    go_wp2_with fail
    refine (H3.out _).mono ?_
    rintro r w3 ⟨u, rfl, hu, hb3⟩
    have HU := Aside.intro (And.intro hu (HT.out.2.trans (hb3.mono HT.out.2.size)))
    have H4 := hid (fun v : World => plus10 hu HS.out.2.2 v)
    clear hu hb3 H3
    go_wp2_with fail
    refine (H4.out _).mono ?_
    rintro r w4 ⟨v, rfl, hv, hb4⟩
    have HV := Aside.intro (And.intro hv (HU.out.2.trans (hb4.mono HU.out.2.size)))
    have H5 := hid (fun v' : World => plus10 HS.out.2.1 hv v')
    clear hv hb4 H4
    go_wp2_with fail
    refine (H5.out _).mono ?_
    rintro r w5 ⟨y, rfl, hy, hb5⟩
    have HY := Aside.intro (And.intro hy (HV.out.2.trans (hb5.mono HV.out.2.size)))
    clear hy hb5 H5
    go_wp2
    go_ret2
    exact ⟨t, y, rfl, by rw [HE.out]; exact HT.out.1, by rw [HE.out]; exact HY.out.1, HY.out.2⟩
end Go.Proofs.YtmpakpdikkfofaaGreatDoor

/- The program's Kahan, Neumaier: whole. -/
namespace Go.Proofs.YtmpakpdikkfofaaGreatDoor
open Go.RowKit J
set_option linter.unusedVariables false
set_option maxRecDepth 20000
set_option linter.unusedSimpArgs false
attribute [local go_sem] st_float
theorem is_zero : Is 0 0 := ⟨by decide, by decide⟩

set_option maxHeartbeats 2000000 in
theorem sumNeumaier (xs : List Nat) (a : Option Addr) (n c : Nat) (w : World) (hn : n = xs.length) (hF : Fs w.heap.size w a xs) (hW : W64 xs) (hm : n ≤ 4611686018427387904) :
    Calls Tryz.prog 53 #[.agg #[.func (.func 51) #[] #[], .func (.func 52) #[] #[]], .slice a n c] w fun r w' => r = .returned (.float .f64 (plF (neF xs).1 (neF xs).2)) ∧ Below w.heap.size w w' := by
  have HR : Aside (Fs w.heap.size w a xs ∧ W64 xs ∧ n = xs.length) := ⟨hF, hW, hn⟩
  have HB0 : Aside (Below w.heap.size w (w.alloc (Obj.cells #[.func (.func 51) #[] #[], .func (.func 52) #[] #[]] 72)) ∧ Bl (w.alloc (Obj.cells #[.func (.func 51) #[] #[], .func (.func 52) #[] #[]] 72)) w.heap.size 72 [.func (.func 51) #[] #[], .func (.func 52) #[] #[]]) := ⟨bel_alloc _ _, Bl.new _ _ _⟩
  clear hF hW hn
  go_enter Tryz.func53, Tryz.ntmps53
  go_wp2
  go_loopg [11, 5, 6] n (fun gk i s q wr => ∃ (k y z : Nat), gk + k = n ∧ i = .int .i64 (k : Nat) ∧ s = .float .f64 y ∧ q = .float .f64 z ∧ Aside (Is y ((xs.take k).foldl neS (0, 0)).1 ∧ Is z ((xs.take k).foldl neS (0, 0)).2 ∧ Below w.heap.size w wr ∧ Bl wr w.heap.size 72 [.func (.func 51) #[] #[], .func (.func 52) #[] #[]] ∧ w.heap.size < wr.heap.size))
  case atStart => exact ⟨0, 0, 0, by omega, by simp, rfl, rfl, is_zero, is_zero, HB0.out.1, HB0.out.2, by simp⟩
  case round =>
    obtain ⟨k, y, z, hgk, rfl, rfl, rfl, HA⟩ := hrel
    have q0 := HA.out.2.2.2.1.cell 0 _ rfl
    have q1 := HA.out.2.2.2.1.cell 1 _ rfl
    by_cases hk : k < n
    · obtain ⟨b, off, rfl, hcell⟩ := HR.out.1.at HA.out.2.2.1 k (by rw [← HR.out.2.2]; exact hk)
      obtain ⟨x, hx⟩ : ∃ x, x = xs.getD k 0 := ⟨_, rfl⟩
      rw [← hx] at hcell
      have HP : Hid (∀ u : World, Calls Tryz.prog 51 #[.float .f64 y, .float .f64 z, .float .f64 x] u fun r w' => ∃ t v, r = .returned (.tuple #[.float .f64 t, .float .f64 v]) ∧ Is t ((xs.take (k + 1)).foldl neS (0, 0)).1 ∧ Is v ((xs.take (k + 1)).foldl neS (0, 0)).2 ∧ Below u.heap.size u w') := fun u => by
        have hx64 : x < 18446744073709551616 := by rw [hx]; exact HR.out.2.1.get k
        have h := saved10 HA.out.1 HA.out.2.1 (Is.self hx64) u
        obtain ⟨o1, o2, o3, o4⟩ := fold_ok neS neS_ok (xs.take k)
        rw [foldl_take neS (0, 0) xs k (by rw [← HR.out.2.2]; exact hk), ← hx]
        rw [show (((xs.take k).foldl neS (0, 0)).1, ((xs.take k).foldl neS (0, 0)).2) = (xs.take k).foldl neS (0, 0) from rfl, neS_nrm hx64 o1 o3] at h
        exact h
      clear hx
      go_wp2_with fail
      refine (HP.out _).mono ?_
      rintro r w2 ⟨t, v, rfl, ht, hv, hb2⟩
      have HB := Aside.intro (And.intro ht (And.intro hv (And.intro (HA.out.2.2.1.trans (hb2.mono HA.out.2.2.1.size)) (And.intro (HA.out.2.2.2.1.below hb2 HA.out.2.2.2.2) (Nat.lt_of_lt_of_le HA.out.2.2.2.2 hb2.size)))))
      clear ht hv hb2 HP
      go_wp2
      go_roundg (gk - 1)
      case measure => omega
      case rel => exact ⟨k + 1, t, v, by omega, by first | rfl | simp, rfl, rfl, HB.out⟩
    · have hd : decide ((k : Int) < n) = false := by simp; omega
      have HK := Aside.intro (show xs.take k = xs by rw [List.take_of_length_le]; rw [← HR.out.2.2]; omega)
      have HE := hid (fun u : World => together10 HA.out.1 HA.out.2.1 u)
      go_wp2_with fail
      refine (HE.out _).mono ?_
      rintro r w2 ⟨t, rfl, ht, hb2⟩
      have HT := hid (fun u : World => told10 ht u)
      have HB := Aside.intro (HA.out.2.2.1.trans (hb2.mono HA.out.2.2.1.size))
      clear ht hb2 HE
      rw [HK.out] at HT
      obtain ⟨Y, hY⟩ : ∃ Y, Y = plF (xs.foldl neS (0, 0)).1 (xs.foldl neS (0, 0)).2 := ⟨_, rfl⟩
      rw [← hY] at HT
      have HY := Aside.intro hY
      clear hY
      go_wp2_with fail
      refine (HT.out _).mono ?_
      rintro r w3 ⟨rfl, rfl⟩
      go_wp2
      refine bodyPost_ret (v := .float .f64 Y) (by simp [results, Tryz.results53, go_sem]) rfl ?_
      exact ⟨by rw [HY.out]; rfl, HB.out⟩

theorem Neumaier10 (xs : List Nat) (a : Option Addr) (n c : Nat) (w : World) (hn : n = xs.length) (hF : Fs w.heap.size w a xs) (hW : W64 xs) (hm : n ≤ 4611686018427387904) :
    Calls Tryz.prog 23 #[.slice a n c] w fun r w' => r = .returned (.float .f64 (plF (neF xs).1 (neF xs).2)) ∧ Below w.heap.size w w' := by
  have H1 := hid (sumNeumaier xs a n c w hn hF hW hm)
  obtain ⟨y, hy⟩ : ∃ y, y = (plF (neF xs).1 (neF xs).2) := ⟨_, rfl⟩
  rw [← hy] at H1 ⊢
  clear hn hF hW hm hy
  go_enter Tryz.func23, Tryz.ntmps23
  go_wp2_with fail
  refine (H1.out).mono ?_
  rintro r w1 ⟨rfl, hb⟩
  have HB := Aside.intro hb
  clear hb
  go_wp2
  exact bodyPost_ret (v := .float .f64 y) (by simp [results, Tryz.results23, go_sem]) rfl ⟨rfl, HB.out⟩
end Go.Proofs.YtmpakpdikkfofaaGreatDoor

/- live: the law's first look. -/
namespace Go.Proofs.YtmpakpdikkfofaaGreatDoor
open Go.RowKit J
set_option linter.unusedVariables false
set_option maxRecDepth 20000
set_option linter.unusedSimpArgs false

theorem ldexp_pow10 (e E : Nat) (x : Int) (w : World) (he0 : 0 < e) (he1 : e < 2047) (hE0 : 0 < E) (hE : E < 2047) (hx0 : -3000 ≤ x) (hx1 : x ≤ 3000) (hxE : (E : Int) = x + e) :
    Calls Tryz.prog 48 #[.float .f64 (B.bw false e 0), .int .i64 x] w fun r w' => r = .returned (.float .f64 (B.bw false E 0)) ∧ w' = w := by
  have hb : B.bw false e 0 = e * 4503599627370496 + 0 := by unfold B.bw; simp
  have hd : B.bw false E 0 = E * 4503599627370496 + 0 := by unfold B.bw; simp
  exact B.ldexp_norm (B.bw false e 0) e 0 (B.bw false E 0) x (x + ((e : Int) - 1023)) ((E : Int) * 4503599627370496) w (by rw [hb]; omega) hx0 hx1 he0 he1 (by omega)
    (by rw [B.eq_zero false e 0 (by omega) (by omega)]; simp; omega) (hid fun u => B.isInf0 e 0 (by omega) (by omega) u) (hid fun u => B.nan_no e 0 (by omega) (by omega) u) (hid fun u => B.normalize_any e 0 he0 (by omega) (by omega) u)
    (B.bw_exp false e 0 (by omega) (by omega)) (B.mask_clear e 0 (by omega) (by omega)) rfl (by omega) (by omega) (by omega) (by omega) (by omega) (B.join_exp E 0 (by omega) (by omega)) (B.mul_one _ (by rw [hd]; omega) (by rw [hd]; omega) _)
set_option maxHeartbeats 1000000 in
theorem Ldexp100 (w : World) : Calls Tryz.prog 21 #[.float .f64 4607182418800017408, .int .i64 100] w fun r w' => r = .returned (.float .f64 5057542381537067008) ∧ w' = w := by
  have H := hid (ldexp_pow10 1023 1123 100 w (by decide) (by decide) (by decide) (by decide) (by decide) (by decide) (by decide))
  rw [show B.bw false 1023 0 = 4607182418800017408 by decide, show B.bw false 1123 0 = 5057542381537067008 by decide] at H
  go_enter Tryz.func21, Tryz.ntmps21
  go_wp2_with fail
  refine H.out.mono ?_
  rintro r w1 ⟨rfl, rfl⟩
  go_wp2
  go_ret
  exact ⟨rfl, rfl⟩
def lvL : List Nat := [4607182418800017408, 5057542381537067008, 4607182418800017408, 14280914418391842816]
theorem lv_run : runF lvL = 0 := by kernel_rfl
theorem lv_ne : plF (neF lvL).1 (neF lvL).2 = 4611686018427387904 := by kernel_rfl
theorem lv_run2 : runF [4607182418800017408, 4611686018427387904] = 4613937818241073152 := by kernel_rfl
theorem lv_s : sS lvL = ⟨0, 0, 0, 0, 0, 4⟩ := by kernel_rfl
theorem lv_v (k : Nat) (hk : k = 2149) : vS lvL = ((2 ^ k : Nat) : Int) := by
  obtain ⟨j, hj⟩ : ∃ j, j = 2144 := ⟨_, rfl⟩
  obtain ⟨i, hi⟩ : ∃ i, i = 2248 := ⟨_, rfl⟩
  obtain ⟨m, hm⟩ : ∃ m, m = 2148 := ⟨_, rfl⟩
  have h1 := pT_one m hm
  have h2 := pT_pow 5057542381537067008 false j i (by decide) (by decide) (by decide) (by rw [hj]; decide) (by omega)
  have h3 := pT_pow 14280914418391842816 true j i (by decide) (by decide) (by decide) (by rw [hj]; decide) (by omega)
  simp only [vS, lvL, List.foldl_cons, List.foldl_nil]
  rw [h1, h2, h3, show k = m + 1 by omega, Nat.pow_succ]
  unfold sgn7
  simp only [Bool.false_eq_true, if_false, if_true]
  generalize (2 ^ m : Nat) = A
  generalize (2 ^ i : Nat) = C
  omega
theorem lv_rd : rd7 (vS lvL) (sS lvL) 0 0 0 = (4611686018427387904, 0) := by
  obtain ⟨k, hk⟩ : ∃ k, k = 2149 := ⟨_, rfl⟩
  rw [lv_v k hk, lv_s]
  have h0 : ((2 ^ k : Nat) : Int) ≠ 0 := by have := Nat.two_pow_pos k; omega
  have e : ahd ((2 ^ k : Nat) : Int) ⟨0, 0, 0, 0, 0, 4⟩ 0 0 0 = (0, false, 0) := by
    unfold ahd
    rw [if_neg (by decide), if_neg h0]
  have ex : exV ((2 ^ k : Nat) : Int) = some (false, 1, 1) := by
    unfold exV
    rw [decide_eq_false (Int.not_lt.mpr (Int.natCast_nonneg _)), Int.natAbs_natCast, mkS_pow7, hk]
    kernel_rfl
  have e2 : rndS (mkS (dN (some (false, 1, 1))) (dX (some (false, 1, 1))) (dE (some (false, 1, 1)))) 0 = (4611686018427387904, 0) := by kernel_rfl
  unfold rd7
  rw [e, ex, e2]
  rfl

set_option maxHeartbeats 4000000 in
theorem live10 (w : World) (hT : Tab w) : Calls Tryz.prog 7 #[] w fun r w' => r = .returned (.bool true) ∧ Below w.heap.size w w' := by
  have HL := hid (fun u : World => Ldexp100 u)
  have hneg : ∀ u : World, Sem.run Tryz.prog (Op.unary UnOp.neg (Value.float FloatKind.f64 5057542381537067008)) u = .ok (.float .f64 14280914418391842816) u := fun u => by kernel_rfl
  have HT := Aside.intro hT
  clear hT
  go_enter Tryz.func7, Tryz.ntmps7
  go_wp2_with fail
  refine (HL.out _).mono ?_
  rintro r u ⟨rfl, rfl⟩
  clear HL
  obtain ⟨W, hW⟩ : ∃ W, W = u.alloc (.cells #[.float .f64 4607182418800017408, .float .f64 5057542381537067008, .float .f64 4607182418800017408, .float .f64 14280914418391842816] 22) := ⟨_, rfl⟩
  have HW : Aside (Bl W u.heap.size 22 [.float .f64 4607182418800017408, .float .f64 5057542381537067008, .float .f64 4607182418800017408, .float .f64 14280914418391842816] ∧ Below u.heap.size u W ∧ u.heap.size < W.heap.size) := by
    rw [hW]; exact ⟨Bl.new _ _ _, bel_alloc _ _, by simp⟩
  have HF : Aside (∀ v : World, Below W.heap.size W v → Fs v.heap.size v (some ⟨u.heap.size, 0, none⟩) lvL) := fun v hb => by
    have hbl := HW.out.1.below hb HW.out.2.2
    refine fun _ => ⟨u.heap.size, 0, hbl.lt, rfl, fun i hi => ?_⟩
    have hc : i = 0 ∨ i = 1 ∨ i = 2 ∨ i = 3 := by simp [lvL] at hi; omega
    rw [Nat.zero_add]
    rcases hc with rfl | rfl | rfl | rfl <;> exact hbl.cell _ _ rfl
  have hW64 : W64 lvL := by intro x hx; simp only [lvL, List.mem_cons, List.not_mem_nil, or_false] at hx; rcases hx with rfl | rfl | rfl | rfl <;> decide
  have E1 := hid (Exact10 lvL (some ⟨u.heap.size, 0, none⟩) 4 4 0 0 0 W rfl (HF.out W (Below.refl _ _)) hW64 (HT.out.belows HW.out.2.1) (by decide) (by decide) (by decide) (by decide) (by decide) (by decide))
  rw [lv_rd] at E1
  have E2 := hid (fun (v : World) (hb : Below W.heap.size W v) => Running10 lvL (some ⟨u.heap.size, 0, none⟩) 4 4 v rfl (HF.out v hb) hW64 (by decide) (by decide))
  rw [lv_run] at E2
  have E3 := hid (fun (v : World) (hb : Below W.heap.size W v) => Neumaier10 lvL (some ⟨u.heap.size, 0, none⟩) 4 4 v rfl (HF.out v hb) hW64 (by decide))
  rw [lv_ne] at E3
  have q1 : (FloatKind.f64.format.order 4611686018427387904 4611686018427387904 == some .eq) = true := by kernel_rfl
  have q2 : (FloatKind.f64.format.order 0 0 == some .eq) = true := by kernel_rfl
  have q3 : (FloatKind.f64.format.order 4613937818241073152 4613937818241073152 == some .eq) = true := by kernel_rfl
  have HWW := Aside.intro hW
  clear hW hW64
  go_wp2_with fail
  rw [← HWW.out]
  refine (E1.out).mono ?_
  rintro r v1 ⟨rfl, hb1⟩
  have B1 := Aside.intro hb1
  clear hb1 E1
  go_wp2_with fail
  refine (E2.out _ B1.out).mono ?_
  rintro r v2 ⟨rfl, hb2⟩
  have B2 := Aside.intro (B1.out.trans (hb2.mono B1.out.size))
  clear hb2 E2
  go_wp2_with fail
  refine (E3.out _ B2.out).mono ?_
  rintro r v3 ⟨rfl, hb3⟩
  have B3 := Aside.intro (B2.out.trans (hb3.mono B2.out.size))
  clear hb3 E3
  obtain ⟨W2, hW2⟩ : ∃ W2, W2 = v3.alloc (.cells #[.float .f64 4607182418800017408, .float .f64 4611686018427387904] 22) := ⟨_, rfl⟩
  have H2 : Aside (Bl W2 v3.heap.size 22 [.float .f64 4607182418800017408, .float .f64 4611686018427387904] ∧ Below v3.heap.size v3 W2 ∧ v3.heap.size < W2.heap.size) := by
    rw [hW2]; exact ⟨Bl.new _ _ _, bel_alloc _ _, by simp⟩
  have E4 := hid (Running10 [4607182418800017408, 4611686018427387904] (some ⟨v3.heap.size, 0, none⟩) 2 2 W2 rfl (fun _ => ⟨v3.heap.size, 0, H2.out.2.2, rfl, fun i hi => by
    have hc : i = 0 ∨ i = 1 := by simp at hi; omega
    rw [Nat.zero_add]
    rcases hc with rfl | rfl <;> exact H2.out.1.cell _ _ rfl⟩) (by intro x hx; simp only [List.mem_cons, List.not_mem_nil, or_false] at hx; rcases hx with rfl | rfl <;> decide) (by decide) (by decide))
  rw [lv_run2] at E4
  have HW2 := Aside.intro hW2
  clear hW2
  go_wp2_with fail
  rw [← HW2.out]
  refine (E4.out).mono ?_
  rintro r v4 ⟨rfl, hb4⟩
  have B4 := Aside.intro hb4
  clear hb4 E4
  go_wp2
  go_ret
  have b1 := HW.out.2.1.trans (B3.out.mono HW.out.2.1.size)
  have b2 := b1.trans (H2.out.2.1.mono b1.size)
  exact ⟨rfl, b2.trans (B4.out.mono b2.size)⟩
end Go.Proofs.YtmpakpdikkfofaaGreatDoor

/- Numbers that are lent: the document's Lent, AsLent. -/
namespace Go.Proofs.YtmpakpdikkfofaaGreatDoor
open Go.RowKit J
set_option linter.unusedVariables false
set_option maxRecDepth 20000
set_option linter.unusedSimpArgs false
attribute [local go_sem] st_float

def Fw10 (n : Nat) : Value := .float .f64 n
theorem Tryz.und_floats : Tryz.prog.underlying 24 = some (.slice 22) := by kernel_rfl
theorem Tryz.info_f64 : (Tryz.prog.info? 22).map (fun i => (i.zero, i.size, i.bytes)) = some (some (.float .f64 0), 1, 8) := by kernel_rfl
/-- Block g is a row of these numbers, all of it, free to be written. -/
def OwnF (w : World) (g : Nat) (L : List Nat) : Prop := w.heap[g]? = some (.cells (L.map Fw10).toArray 22 (0, 0))
theorem OwnF.lt {w : World} {g : Nat} {L : List Nat} (h : OwnF w g L) : g < w.heap.size := (Array.getElem?_eq_some_iff.1 h).1
theorem OwnF.cell {w : World} {g : Nat} {L : List Nat} (h : OwnF w g L) (i : Nat) (hi : i < L.length) : w.cell? ⟨g, i, none⟩ = some (.float .f64 (L.getD i 0)) := by
  unfold OwnF at h
  simp [World.cell?, h, Fw10, hi]
theorem OwnF.frozen {w : World} {g : Nat} {L : List Nat} (h : OwnF w g L) (i : Nat) : w.frozen? ⟨g, i, none⟩ = false := by
  unfold OwnF at h
  simp [World.frozen?, h]
theorem OwnF.set {w : World} {g : Nat} {L : List Nat} (h : OwnF w g L) (i x : Nat) : OwnF (w.setCell ⟨g, i, none⟩ (.float .f64 x)) g (L.set i x) := by
  unfold OwnF at h ⊢
  simp only [World.setCell, Array.getElem?_modify, h]
  simp [Fw10, List.map_set]
theorem OwnF.drew {w : World} {g : Nat} {L : List Nat} (h : OwnF w g L) : OwnF w.drew g L := h
theorem OwnF.below {w w' : World} {g B : Nat} {L : List Nat} (h : OwnF w g L) (hb : Below B w w') (hg : g < B) : OwnF w' g L := by
  unfold OwnF at h ⊢
  rw [hb.block g hg]; exact h
theorem OwnF.fs {w : World} {g B : Nat} {L : List Nat} (h : OwnF w g L) (hg : g < B) (n : Nat) : Fs B w (some ⟨g, 0, none⟩) (L.take n) := by
  intro _
  refine ⟨g, 0, hg, rfl, fun i hi => ?_⟩
  rw [List.length_take] at hi
  rw [Nat.zero_add, h.cell i (by omega)]
  congr 2
  rw [List.getD_eq_getElem?_getD, List.getD_eq_getElem?_getD, List.getElem?_take, if_pos (by omega)]
theorem make_floats (z : Int) (n : Nat) (hz : z = (n : Int)) (hn : n ≤ 17592186044416) (w : World) :
    (Instr.makeSlice 24 (.int .i64 z) (.int .i64 z)).run Tryz.prog w = .ok (.slice (some ⟨w.heap.size, 0, none⟩) n n) (w.alloc (.cells (madeCells #[.float .f64 0] n) 22)) := by
  subst hz
  exact run_make_row' 24 22 (.float .f64 0) 8 Tryz.und_floats Tryz.info_f64 rfl .i64 .i64 n (by omega) (by omega) w
theorem OwnF.made (w : World) (n : Nat) : OwnF (w.alloc (.cells (madeCells #[.float .f64 0] n) 22)) w.heap.size (List.replicate n 0) := by
  unfold OwnF
  have h1 := heap_alloc_new w (.cells (madeCells #[.float .f64 0] n) 22)
  rw [h1]
  congr 2
  apply Array.toList_inj.1
  rw [toList_madeCells_one]
  simp [Fw10]
theorem copy_floats (w : World) (g dLen dCap : Nat) (ao : Option Addr) (sLen sCap B : Nat) (ty : TypeId)
    (L xs : List Nat) (hO : OwnF w g L) (hL : dLen ≤ L.length) (hx : sLen = xs.length) (hR : Fs B w ao xs) (hle : sLen ≤ dLen) :
    ∃ w', (Builtin.copy_ #[24, 24] ty #[.slice (some ⟨g, 0, none⟩) dLen dCap, .slice ao sLen sCap]).run Tryz.prog w = .ok (.int .i64 (sLen : Int)) w' ∧ OwnF w' g (xs ++ L.drop sLen) ∧ But g w w' := by
  subst hx
  have hmin : Nat.min xs.length dLen = xs.length := Nat.min_eq_left hle
  by_cases h0 : xs = []
  · subst h0
    exact ⟨w, run_copy_none (P := Tryz.prog) w 24 24 ty 22 _ _ _ _ _ _ Tryz.und_floats (by kernel_rfl) (by simp at hmin ⊢), by simpa using hO, But.refl _ _⟩
  · obtain ⟨b, off, hlt, rfl, hc⟩ := hR h0
    have hadd : ∀ j, (⟨b, off, none⟩ : Addr).add j = ⟨b, off + j, none⟩ := by intro j; unfold Addr.add; split <;> simp_all
    have hrun := run_copy_row (P := Tryz.prog) w 24 24 ty 22 g 0 dLen dCap ⟨b, off, none⟩ xs.length sCap (L.map Fw10).toArray 22 (xs.map Fw10) Tryz.und_floats (by kernel_rfl) hO (by rw [hmin]; simp) (by
      intro j v hv
      rw [hadd]
      have hj : j < xs.length := by
        have := (List.getElem?_eq_some_iff.1 hv).1
        simpa using this
      rw [hc j hj]
      simp [hj, Fw10] at hv
      simp [hj, ← hv]) (by simp; omega) (by
      intro v hv
      obtain ⟨n, _, rfl⟩ := List.mem_map.1 hv
      rfl)
    refine ⟨w.setRow g (((xs ++ L.drop xs.length).map Fw10)).toArray, ?_, setRow_heap w g _ _ 22 _ hO, ⟨rfl, rfl, rfl, by simp [World.setRow], fun k _ hk => setRow_other w g k _ hk⟩⟩
    simpa [List.map_append, List.map_drop, goInt] using hrun
theorem Fs.but {B g : Nat} {w w' : World} {ao : Option Addr} {xs : List Nat} (h : Fs B w ao xs) (hb : But g w w') (hB : B ≤ w.heap.size) (hg : B ≤ g) : Fs B w' ao xs := by
  intro hne
  obtain ⟨b, off, h1, h2, h3⟩ := h hne
  refine ⟨b, off, h1, h2, fun i hi => ?_⟩
  rw [← h3 i hi]
  exact World.cell?_of_block (a := ⟨b, off + i, none⟩) (hb.block b (by omega) (by omega))

end Go.Proofs.YtmpakpdikkfofaaGreatDoor

/- Blocked, both sides. -/
namespace Go.Proofs.YtmpakpdikkfofaaGreatDoor
open Go.RowKit J
set_option linter.unusedVariables false
set_option maxRecDepth 20000
set_option linter.unusedSimpArgs false
attribute [local go_sem] st_float

theorem wrN (m : Nat) (h : m ≤ 1000000) : Go.RowKit.wrap64 (m : Int) = (m : Int) := by
  unfold Go.RowKit.wrap64
  omega
theorem wrS (n s : Nat) (h : n ≤ 65536) (h1 : 1 ≤ s) (h2 : s ≤ 65536) : Go.RowKit.wrap64 ((n : Int) + (s : Int) - 1) = (n : Int) + (s : Int) - 1 := by
  unfold Go.RowKit.wrap64
  omega
theorem tdS (n s : Nat) (h1 : 1 ≤ s) : Int.tdiv ((n : Int) + (s : Int) - 1) (s : Int) = (((n + s - 1) / s : Nat) : Int) := by
  rw [show (n : Int) + (s : Int) - 1 = ((n + s - 1 : Nat) : Int) by omega]; rfl
/-- The blocks' sums, the first k of them. -/
def bkL (s : Nat) (xs : List Nat) (k : Nat) : List Nat := (List.range k).map fun i => runF (pc s xs i)
theorem bkL_succ (s : Nat) (xs : List Nat) (k : Nat) : bkL s xs (k + 1) = bkL s xs k ++ [runF (pc s xs k)] := by unfold bkL; rw [List.range_succ, List.map_append]; rfl
theorem bkL_len (s : Nat) (xs : List Nat) (k : Nat) : (bkL s xs k).length = k := by simp [bkL]
theorem bkL_wf {s : Nat} {xs : List Nat} (h : W64 xs) (k : Nat) : W64 (bkL s xs k) := fun x hx => by
  obtain ⟨i, _, rfl⟩ := List.mem_map.1 hx
  exact (runF_ok _ (h.piece (i * s) s)).1
theorem bkL_set (s : Nat) (xs : List Nat) (nb k : Nat) (hk : k < nb) : (bkL s xs k ++ List.replicate (nb - k) 0).set k (runF (pc s xs k)) = bkL s xs (k + 1) ++ List.replicate (nb - (k + 1)) 0 := by
  rw [List.set_append_right _ _ (by rw [bkL_len]; omega), bkL_len, Nat.sub_self, bkL_succ, show nb - k = (nb - (k + 1)) + 1 by omega, List.replicate_succ, List.set_cons_zero, List.append_assoc]
  rfl
/-- Where a block ends. -/
theorem blk_end {n s nb i : Nat} (hs : 1 ≤ s) (hnb : nb = (n + s - 1) / s) (hi : i < nb) : i * s < n := by
  have h1 : (i + 1) * s ≤ nb * s := Nat.mul_le_mul_right _ hi
  have h2 := Nat.div_mul_le_self (n + s - 1) s
  rw [← hnb] at h2
  rw [Nat.add_mul, Nat.one_mul] at h1
  omega

set_option maxHeartbeats 4000000 in
theorem Blocked10 (xs : List Nat) (a : Option Addr) (n c s : Nat) (w : World) (hn : n = xs.length) (hF : Fs w.heap.size w a xs) (hW : W64 xs) (hc : n ≤ c) (hm : n ≤ 65536) (hs1 : 1 ≤ s) (hs2 : s ≤ 65536) :
    Calls Tryz.prog 9 #[.slice a n c, .int .i64 (s : Nat)] w fun r w' => r = .returned (.tuple #[.float .f64 (blF s xs), .int .i64 0]) ∧ Below w.heap.size w w' := by
  obtain ⟨nb, hnb⟩ : ∃ nb, nb = (n + s - 1) / s := ⟨_, rfl⟩
  have hnb2 : nb ≤ n + s := by rw [hnb]; exact Nat.le_trans (Nat.div_le_self _ _) (by omega)
  have HY := Aside.intro (show blF s xs = runF (bkL s xs nb) by unfold blF bkL; rw [hnb, hn])
  obtain ⟨Y, hY⟩ : ∃ Y, Y = blF s xs := ⟨_, rfl⟩
  rw [← hY] at HY ⊢
  have hmk := make_floats (nb : Int) nb rfl (Nat.le_trans hnb2 (Nat.le_trans (Nat.add_le_add hm hs2) (by decide)))
  have HO : Aside (OwnF (w.alloc (.cells (madeCells #[.float .f64 0] nb) 22)) w.heap.size (List.replicate nb 0)) := OwnF.made w nb
  have HX := Aside.intro (And.intro hn (And.intro hF (And.intro hW (And.intro hnb (And.intro hc (And.intro hm (And.intro hs1 hs2)))))))
  have hd1 : decide ((s : Int) < 1) = false := by simp; omega
  have hd2 : decide ((65536 : Int) < (s : Int)) = false := by simp; omega
  have hd3 : decide ((65536 : Int) < (n : Int)) = false := by simp; omega
  have hs0 : (s : Int) ≠ 0 := by omega
  have hnbb : nb < 4611686018427387904 := by omega
  have hnbn : nb ≤ 17592186044416 := by omega
  have hw1 : IntKind.i64.wrap ((n : Int) + (s : Int)) = (n : Int) + (s : Int) := by rw [IntKind.wrap_i64]; omega
  have hq := tdS n s hs1
  rw [← hnb] at hq
  have hw2 := wrS n s hm hs1 hs2
  have hw3 := wrN nb (Nat.le_trans hnb2 (Nat.le_trans (Nat.add_le_add hm hs2) (by decide)))
  clear hn hF hW hc hm hs1 hs2 hY hnb hnb2
  go_enter Tryz.func9, Tryz.ntmps9
  go_wp2
  go_loopg [30] nb (fun gk i wr => ∃ k : Nat, gk + k = nb ∧ i = .int .i64 (k : Nat) ∧ Aside (OwnF wr w.heap.size (bkL s xs k ++ List.replicate (nb - k) 0) ∧ Below w.heap.size w wr ∧ w.heap.size < wr.heap.size))
  case atStart => clear hw1 hw2 hw3 hq; exact ⟨0, by omega, by simp, HO.out, (Below.refl _ _).alloc (Nat.le_refl _) _, by simp⟩
  case round =>
    obtain ⟨k, hgk, rfl, HA⟩ := hrel
    clear hw1 hw2 hw3 hq hmk
    by_cases hk : k < nb
    · obtain ⟨hn, hF, hW, hnb, hc, hm, hs1, hs2⟩ := HX.out
      have hend := blk_end hs1 hnb hk
      obtain ⟨b, off, rfl, _⟩ := hF.at (Below.refl _ _) (k * s) (by omega)
      obtain ⟨p, hp⟩ : ∃ p, p = k * s := ⟨_, rfl⟩
      obtain ⟨M, hM⟩ : ∃ M, M = min (p + s) n := ⟨_, rfl⟩
      have hks : k * s ≤ 4295098368 := Nat.le_of_lt (by have := Nat.mul_le_mul (show k ≤ 65536 by have h3 : k * 1 ≤ k * s := Nat.mul_le_mul_left _ hs1; omega) hs2; omega)
      have e1 : IntKind.i64.wrap ((k : Int) * (s : Int)) = (p : Int) := by rw [show (k : Int) * (s : Int) = ((k * s : Nat) : Int) from rfl, ← hp, IntKind.wrap_i64]; omega
      have e2 : IntKind.i64.wrap (((k : Int) + 1) * (s : Int)) = (p : Int) + (s : Int) := by rw [show ((k : Int) + 1) * (s : Int) = ((k * s : Nat) : Int) + (s : Int) by rw [Int.add_mul, Int.one_mul]; rfl, ← hp, IntKind.wrap_i64]; omega
      have m1 : (if (p : Int) + (s : Int) ≤ (n : Int) then (p : Int) + (s : Int) else (n : Int)) = (M : Int) := by split <;> omega
      have m2 : (if (n : Int) < (p : Int) + (s : Int) then (n : Int) else (p : Int) + (s : Int)) = (M : Int) := by split <;> omega
      have HP := hid (fun (u : World) (hb : Below w.heap.size w u) => Running10 (pc s xs k) (some ⟨b, off + p, none⟩) (M - p) (c - p) u (by unfold pc; rw [List.length_take, List.length_drop]; omega) (by
        have h := ((hF.piece p (M - p) (by omega)).below hb).mono hb.size
        have e : (xs.drop p).take (M - p) = pc s xs k := by
          unfold pc
          rw [← hp]
          by_cases hle : p + s ≤ n
          · rw [show M - p = s by omega]
          · rw [List.take_of_length_le (by rw [List.length_drop]; omega), List.take_of_length_le (by rw [List.length_drop]; omega)]
        rw [e] at h
        exact h) (hW.piece (k * s) s) (by omega) (by omega))
      obtain ⟨z, hz⟩ : ∃ z, z = runF (pc s xs k) := ⟨_, rfl⟩
      rw [← hz] at HP
      have HZ := Aside.intro hz
      have eM : (min ((k : Int) * (s : Int) + (s : Int)) (n : Int)).toNat = M := by
        rw [show (k : Int) * (s : Int) = (p : Int) by rw [hp]; rfl]; omega
      rw [hp, ← eM] at HP
      clear eM
      have hcp : c ≠ p := by omega
      have hpM : p ≤ M := by omega
      have hMc : M ≤ c := by omega
      have hkb : k < 4611686018427387904 := by omega
      have hcl := HA.out.1.cell k (by rw [List.length_append, bkL_len, List.length_replicate]; omega)
      have hfz := HA.out.1.frozen k
      clear hn hF hW hnb hc hm hs1 hs2 hend hM hks hz
      go_wp2_with fail
      refine (HP.out _ HA.out.2.1).mono ?_
      rintro r w2 ⟨rfl, hb2⟩
      have H2 := Aside.intro (And.intro (HA.out.1.below hb2 HA.out.1.lt) (And.intro (HA.out.2.1.trans (hb2.mono HA.out.2.1.size)) (Nat.lt_of_lt_of_le HA.out.2.2 hb2.size)))
      have hcl := H2.out.1.cell k (by rw [List.length_append, bkL_len, List.length_replicate]; omega)
      have hfz := H2.out.1.frozen k
      clear hb2 HP
      go_wp2
      go_roundg (gk - 1)
      case measure => omega
      case rel =>
        refine ⟨k + 1, by omega, by first | rfl | simp, ?_, But.below H2.out.2.1 ((But.refl w.heap.size w2).set k _) H2.out.2.1.size (Nat.le_refl _), by simpa using H2.out.2.2⟩
        rw [← bkL_set s xs nb k hk, ← HZ.out]
        exact H2.out.1.set k z
    · have hd : decide ((k : Int) < (nb : Int)) = false := by simp; omega
      obtain rfl : nb = k := by omega
      have HR := hid (Running10 (bkL s xs nb) (some ⟨w.heap.size, 0, none⟩) nb nb wr (bkL_len s xs nb).symm (by
        have h := HA.out.1.fs HA.out.1.lt nb
        rw [List.take_append_of_le_length (by rw [bkL_len]; exact Nat.le_refl _), List.take_of_length_le (by rw [bkL_len]; exact Nat.le_refl _)] at h
        exact h) (bkL_wf HX.out.2.2.1 nb) (Nat.le_refl _) (by omega))
      rw [← HY.out] at HR
      go_wp2_with fail
      refine (HR.out).mono ?_
      rintro r w2 ⟨rfl, hb2⟩
      have B2 := Aside.intro (HA.out.2.1.trans (hb2.mono HA.out.2.1.size))
      clear hb2 HR
      go_wp2
      go_ret2
      exact ⟨rfl, B2.out⟩
theorem Blocked10_arg (a : Option Addr) (n c : Nat) (s : Int) (w : World) (h : s < 1 ∨ 65536 < s) :
    Calls Tryz.prog 9 #[.slice a n c, .int .i64 s] w fun r w' => r = .returned (.tuple #[.float .f64 0, .int .i64 1]) ∧ Below w.heap.size w w' := by
  rcases h with h | h
  · have hd : decide (s < 1) = true := by simpa using h
    clear h
    go_enter Tryz.func9, Tryz.ntmps9
    go_wp2
    go_ret2
    exact ⟨rfl, Below.refl _ _⟩
  · have hd : decide (s < 1) = false := by simp; omega
    have hd2 : decide (65536 < s) = true := by simpa using h
    clear h
    go_enter Tryz.func9, Tryz.ntmps9
    go_wp2
    go_ret2
    exact ⟨rfl, Below.refl _ _⟩
theorem Blocked10_long (a : Option Addr) (n c : Nat) (s : Int) (w : World) (h1 : 1 ≤ s) (h2 : s ≤ 65536) (hl : 65536 < n) :
    Calls Tryz.prog 9 #[.slice a n c, .int .i64 s] w fun r w' => r = .returned (.tuple #[.float .f64 0, .int .i64 2]) ∧ Below w.heap.size w w' := by
  have hd : decide (s < 1) = false := by simp; omega
  have hd2 : decide (65536 < s) = false := by simp; omega
  have hd3 : decide ((65536 : Int) < (n : Int)) = true := by simp; omega
  clear h1 h2 hl
  go_enter Tryz.func9, Tryz.ntmps9
  go_wp2
  go_ret2
  exact ⟨rfl, Below.refl _ _⟩
end Go.Proofs.YtmpakpdikkfofaaGreatDoor

/- Exact, by any policy that may be. -/
namespace Go.Proofs.YtmpakpdikkfofaaGreatDoor
open Go.RowKit
set_option linter.unusedVariables false
set_option maxRecDepth 20000
set_option linter.unusedSimpArgs false

set_option maxHeartbeats 4000000 in
theorem ahead10 (g : Nat) (V : Int) (s : Sp) (mode a b : Int) (w : World) (hA : Acc7 w g V s) (hs : s.ok) (hm0 : 0 ≤ mode) (hm1 : mode ≤ 4) (hab : may a b = true) (ha : ¬ (0 < s.n ∧ a = 2)) (hb : ¬ (0 < s.u + s.d ∧ b = 2)) :
    Calls Tryz.prog 57 #[.pointer (some ⟨g, 0, none⟩), .int .i64 mode, .agg #[.int .i64 a, .int .i64 b]] w fun r w' => r = .returned (.tuple #[.float .f64 (ahd V s mode a b).1, .bool (ahd V s mode a b).2.1, .int .i64 (ahd V s mode a b).2.2]) ∧ Below w.heap.size w w' := by
  obtain ⟨⟨X, tl, er⟩, hX⟩ : ∃ X, X = ahd V s mode a b := ⟨_, rfl⟩
  rw [← hX]
  simp only
  obtain ⟨L, a1, a2, a3, a4, a5, a6⟩ := hA
  have hz := zero_words L V a1 a2 a3 a4 a5
  obtain ⟨n, u, d, m, p, l⟩ := s
  have HM := hid (fun u : World => May_any a b u)
  rw [hab] at HM
  have HV := hid (fun w : World => Verdict_any n u d m p l a b w)
  have HN := hid (fun w : World => Nought_any n u d m p l mode w)
  obtain ⟨⟨vx, vt⟩, hvd⟩ : ∃ v, v = vd (snd n u d m p l && may a b) n u d a b := ⟨_, rfl⟩
  obtain ⟨nx, hnt⟩ : ∃ v, v = nt (snd n u d m p l) n u d m p l mode := ⟨_, rfl⟩
  rw [← hvd] at HV
  rw [← hnt] at HN
  simp only at HV
  simp only [ahd] at hX
  rw [← hvd, ← hnt] at hX
  simp only at hX
  have HX := Aside.intro hX
  have HA := Aside.intro (And.intro a1 (And.intro a6 hz))
  have hlt := a6.lt
  have hne : g ≠ w.heap.size := Nat.ne_of_lt hlt
  have hne1 : g ≠ w.heap.size + 1 := by omega
  have c0 := a6.cell a1 0 _ rfl
  have c1 := a6.cell a1 1 _ rfl
  have c2 := a6.cell a1 2 _ rfl
  have c3 := a6.cell a1 3 _ rfl
  have c4 := a6.cell a1 4 _ rfl
  have c5 := a6.cell a1 5 _ rfl
  obtain ⟨h0, h1, h2, h3, h4, h5⟩ := hs
  have ha1 : ¬ (0 < n ∧ a = 2) := ha
  have hb1 : ¬ (0 < u + d ∧ b = 2) := hb
  have b0 : decide (mode < 0) = false := by simp; omega
  have b1 : decide (4 < mode) = false := by simp; omega
  clear a1 a2 a3 a4 a5 a6 hX hvd hnt hab ha hb hz
  go_enter Tryz.func57, Tryz.ntmps57
  go_wp2_with fail
  refine (HM.out _).mono ?_
  rintro r w1 ⟨rfl, hb1⟩
  have hz1 : w.heap.size + 1 < w1.heap.size := by have := hb1.size; simp at this; omega
  have B1 := Aside.intro hb1
  have P1 : Aside (Bl w1 w.heap.size 27 [.int .i64 a, .int .i64 b] ∧ Bl w1 (w.heap.size + 1) 77 [.int .i64 n, .int .i64 u, .int .i64 d, .int .i64 m, .int .i64 p, .int .i64 l] ∧ Below w.heap.size w w1 ∧ Ac w1 g L ⟨n, u, d, m, p, l⟩) := by
    have e0 := (bel_alloc w (Obj.cells #[.int .i64 a, .int .i64 b] 27)).trans ((bel_alloc (w.alloc (Obj.cells #[.int .i64 a, .int .i64 b] 27)) (Obj.cells #[.int .i64 n, .int .i64 u, .int .i64 d, .int .i64 m, .int .i64 p, .int .i64 l] 77)).mono (by simp))
    have e1 := e0.trans (hb1.mono e0.size)
    exact ⟨(((Bl.new w 27 [_, _]).alloc _).below hb1 (by simp; omega)), ((Bl.new' (w.alloc _) 77 _ [_, _, _, _, _, _] (by simp)).below hb1 (by simp)), e1, HA.out.2.1.below e1 HA.out.2.1.lt⟩
  clear hb1 c0 c1 c2 c3 c4 c5
  have q0 := P1.out.1.cell 0 _ rfl
  have q1 := P1.out.1.cell 1 _ rfl
  have s0 := P1.out.2.1.cell 0 _ rfl
  have s1 := P1.out.2.1.cell 1 _ rfl
  have s2 := P1.out.2.1.cell 2 _ rfl
  have s3 := P1.out.2.1.cell 3 _ rfl
  have s4 := P1.out.2.1.cell 4 _ rfl
  have s5 := P1.out.2.1.cell 5 _ rfl
  have hca : (0 < n ∧ (a == 2) = false) ∨ n ≤ 0 := by
    by_cases h : 0 < n
    · exact .inl ⟨h, by simp; intro e; exact ha1 ⟨h, e⟩⟩
    · exact .inr (by omega)
  have hcb : (0 < u + d ∧ (b == 2) = false) ∨ u + d ≤ 0 := by
    by_cases h : 0 < u + d
    · exact .inl ⟨h, by simp; intro e; exact hb1 ⟨h, e⟩⟩
    · exact .inr (by omega)
  clear ha1 hb1
  rcases hca with ⟨hn, ha'⟩ | hn <;> rcases hcb with ⟨hu, hb'⟩ | hu
  all_goals (
    go_wp2_with fail
    refine (HV.out _).mono ?_
    rintro r w2 ⟨rfl, hb2⟩
    have P2 : Aside (Bl w2 (w.heap.size + 1) 77 [.int .i64 n, .int .i64 u, .int .i64 d, .int .i64 m, .int .i64 p, .int .i64 l] ∧ Below w.heap.size w w2 ∧ Ac w2 g L ⟨n, u, d, m, p, l⟩) :=
      ⟨P1.out.2.1.below hb2 P1.out.2.1.lt, P1.out.2.2.1.trans (hb2.mono P1.out.2.2.1.size), P1.out.2.2.2.below hb2 P1.out.2.2.2.lt⟩
    clear hb2 q0 q1 s0 s1 s2 s3 s4 s5 hn hu
    cases vt
    · have s0 := P2.out.1.cell 0 _ rfl
      have s1 := P2.out.1.cell 1 _ rfl
      have s2 := P2.out.1.cell 2 _ rfl
      have s3 := P2.out.1.cell 3 _ rfl
      have s4 := P2.out.1.cell 4 _ rfl
      have s5 := P2.out.1.cell 5 _ rfl
      go_wp2_with (first | (with_reducible refine wpList_load_mid (P := Tryz.prog) rfl 75 (.tmp 57) rfl g 0 rfl (L.map U) _ P2.out.2.2.range Tryz.desc_words rfl (by simp [Tryz.size_words, HA.out.1]) ?_))
      rw [Tryz.nought_words, eq_words L _ w2 HA.out.1 (by simp), HA.out.2.2]
      generalize (List.replicate 133 0).map U = zz
      by_cases hV : V = 0
      · rw [decide_eq_true hV]
        simp only [Result.andThen_ok, Oper.upon]
        have HX2 := Aside.intro (show (X, tl, er) = (nx, true, 0) by rw [HX.out, if_neg (by decide), if_pos hV])
        clear hV
        go_wp2_with fail
        refine (HN.out _).mono ?_
        rintro r w3 ⟨rfl, hb3⟩
        have B3 := Aside.intro hb3
        clear hb3
        go_wp2
        refine bodyPost_ret (v := .tuple #[.float .f64 nx, .bool true, .int .i64 0]) (by simp [results, Tryz.results57, go_sem]) rfl ?_
        have e := HX2.out
        cases e
        exact ⟨rfl, P2.out.2.1.trans (B3.out.mono P2.out.2.1.size)⟩
      · rw [decide_eq_false hV]
        simp only [Result.andThen_ok, Oper.upon]
        have HX2 := Aside.intro (show (X, tl, er) = (0, false, 0) by rw [HX.out, if_neg (by decide), if_neg hV])
        clear hV
        go_wp2
        refine bodyPost_ret (v := .tuple #[.float .f64 0, .bool false, .int .i64 0]) (by simp [results, Tryz.results57, go_sem]) rfl ?_
        have e := HX2.out
        cases e
        exact ⟨rfl, P2.out.2.1⟩
    · go_wp2
      refine bodyPost_ret (v := .tuple #[.float .f64 vx, .bool true, .int .i64 0]) (by simp [results, Tryz.results57, go_sem]) rfl ?_
      have e := HX.out
      rw [if_pos trivial] at e
      cases e
      exact ⟨rfl, P2.out.2.1⟩)
set_option maxHeartbeats 4000000 in
theorem ahead10_nan (g : Nat) (V : Int) (s : Sp) (mode a b : Int) (w : World) (hA : Acc7 w g V s) (hs : s.ok) (hm0 : 0 ≤ mode) (hm1 : mode ≤ 4) (hab : may a b = true) (hx : 0 < s.n ∧ a = 2) :
    Calls Tryz.prog 57 #[.pointer (some ⟨g, 0, none⟩), .int .i64 mode, .agg #[.int .i64 a, .int .i64 b]] w fun r w' => r = .returned (.tuple #[.float .f64 0, .bool false, .int .i64 60]) ∧ Below w.heap.size w w' := by
  obtain ⟨L, a1, a2, a3, a4, a5, a6⟩ := hA
  obtain ⟨n, u, d, m, p, l⟩ := s
  have HM := hid (fun u : World => May_any a b u)
  rw [hab] at HM
  have HA := Aside.intro (And.intro a1 a6)
  have hlt := a6.lt
  have hne : g ≠ w.heap.size := Nat.ne_of_lt hlt
  have hne1 : g ≠ w.heap.size + 1 := by omega
  have c0 := a6.cell a1 0 _ rfl
  have c1 := a6.cell a1 1 _ rfl
  have c2 := a6.cell a1 2 _ rfl
  have c3 := a6.cell a1 3 _ rfl
  have c4 := a6.cell a1 4 _ rfl
  have c5 := a6.cell a1 5 _ rfl
  obtain ⟨h0, h1, h2, h3, h4, h5⟩ := hs
  have b0 : decide (mode < 0) = false := by simp; omega
  have b1 : decide (4 < mode) = false := by simp; omega
  have hn : 0 < n := hx.1
  have ha2 : (a == 2) = true := by simpa using hx.2
  clear hx
  clear a1 a2 a3 a4 a5 a6 hab
  go_enter Tryz.func57, Tryz.ntmps57
  go_wp2_with fail
  refine (HM.out _).mono ?_
  rintro r w1 ⟨rfl, hb1⟩
  have P1 : Aside (Bl w1 w.heap.size 27 [.int .i64 a, .int .i64 b] ∧ Bl w1 (w.heap.size + 1) 77 [.int .i64 n, .int .i64 u, .int .i64 d, .int .i64 m, .int .i64 p, .int .i64 l] ∧ Below w.heap.size w w1) := by
    have e0 := (bel_alloc w (Obj.cells #[.int .i64 a, .int .i64 b] 27)).trans ((bel_alloc (w.alloc (Obj.cells #[.int .i64 a, .int .i64 b] 27)) (Obj.cells #[.int .i64 n, .int .i64 u, .int .i64 d, .int .i64 m, .int .i64 p, .int .i64 l] 77)).mono (by simp))
    have e1 := e0.trans (hb1.mono e0.size)
    exact ⟨(((Bl.new w 27 [_, _]).alloc _).below hb1 (by simp; omega)), ((Bl.new' (w.alloc _) 77 _ [_, _, _, _, _, _] (by simp)).below hb1 (by simp)), e1⟩
  clear hb1 c0 c1 c2 c3 c4 c5
  have q0 := P1.out.1.cell 0 _ rfl
  have q1 := P1.out.1.cell 1 _ rfl
  have s0 := P1.out.2.1.cell 0 _ rfl
  have s1 := P1.out.2.1.cell 1 _ rfl
  have s2 := P1.out.2.1.cell 2 _ rfl
  have s3 := P1.out.2.1.cell 3 _ rfl
  have s4 := P1.out.2.1.cell 4 _ rfl
  have s5 := P1.out.2.1.cell 5 _ rfl
  all_goals
    go_wp2
    refine bodyPost_ret (v := .tuple #[.float .f64 0, .bool false, .int .i64 60]) (by simp [results, Tryz.results57, go_sem]) rfl ?_
    exact ⟨rfl, P1.out.2.2⟩
set_option maxHeartbeats 4000000 in
theorem ahead10_inf (g : Nat) (V : Int) (s : Sp) (mode a b : Int) (w : World) (hA : Acc7 w g V s) (hs : s.ok) (hm0 : 0 ≤ mode) (hm1 : mode ≤ 4) (hab : may a b = true) (hn : ¬ (0 < s.n ∧ a = 2)) (hx : 0 < s.u + s.d ∧ b = 2) :
    Calls Tryz.prog 57 #[.pointer (some ⟨g, 0, none⟩), .int .i64 mode, .agg #[.int .i64 a, .int .i64 b]] w fun r w' => r = .returned (.tuple #[.float .f64 0, .bool false, .int .i64 61]) ∧ Below w.heap.size w w' := by
  obtain ⟨L, a1, a2, a3, a4, a5, a6⟩ := hA
  obtain ⟨n, u, d, m, p, l⟩ := s
  have HM := hid (fun u : World => May_any a b u)
  rw [hab] at HM
  have HA := Aside.intro (And.intro a1 a6)
  have hlt := a6.lt
  have hne : g ≠ w.heap.size := Nat.ne_of_lt hlt
  have hne1 : g ≠ w.heap.size + 1 := by omega
  have c0 := a6.cell a1 0 _ rfl
  have c1 := a6.cell a1 1 _ rfl
  have c2 := a6.cell a1 2 _ rfl
  have c3 := a6.cell a1 3 _ rfl
  have c4 := a6.cell a1 4 _ rfl
  have c5 := a6.cell a1 5 _ rfl
  obtain ⟨h0, h1, h2, h3, h4, h5⟩ := hs
  have b0 : decide (mode < 0) = false := by simp; omega
  have b1 : decide (4 < mode) = false := by simp; omega
  have hu : 0 < u + d := hx.1
  have hb2 : (b == 2) = true := by simpa using hx.2
  have hca : (0 < n ∧ (a == 2) = false) ∨ n ≤ 0 := by
    by_cases h : 0 < n
    · exact .inl ⟨h, by simp; intro e; exact hn ⟨h, e⟩⟩
    · exact .inr (by omega)
  clear hx hn
  clear a1 a2 a3 a4 a5 a6 hab
  go_enter Tryz.func57, Tryz.ntmps57
  go_wp2_with fail
  refine (HM.out _).mono ?_
  rintro r w1 ⟨rfl, hb1⟩
  have P1 : Aside (Bl w1 w.heap.size 27 [.int .i64 a, .int .i64 b] ∧ Bl w1 (w.heap.size + 1) 77 [.int .i64 n, .int .i64 u, .int .i64 d, .int .i64 m, .int .i64 p, .int .i64 l] ∧ Below w.heap.size w w1) := by
    have e0 := (bel_alloc w (Obj.cells #[.int .i64 a, .int .i64 b] 27)).trans ((bel_alloc (w.alloc (Obj.cells #[.int .i64 a, .int .i64 b] 27)) (Obj.cells #[.int .i64 n, .int .i64 u, .int .i64 d, .int .i64 m, .int .i64 p, .int .i64 l] 77)).mono (by simp))
    have e1 := e0.trans (hb1.mono e0.size)
    exact ⟨(((Bl.new w 27 [_, _]).alloc _).below hb1 (by simp; omega)), ((Bl.new' (w.alloc _) 77 _ [_, _, _, _, _, _] (by simp)).below hb1 (by simp)), e1⟩
  clear hb1 c0 c1 c2 c3 c4 c5
  have q0 := P1.out.1.cell 0 _ rfl
  have q1 := P1.out.1.cell 1 _ rfl
  have s0 := P1.out.2.1.cell 0 _ rfl
  have s1 := P1.out.2.1.cell 1 _ rfl
  have s2 := P1.out.2.1.cell 2 _ rfl
  have s3 := P1.out.2.1.cell 3 _ rfl
  have s4 := P1.out.2.1.cell 4 _ rfl
  have s5 := P1.out.2.1.cell 5 _ rfl
  rcases hca with ⟨hn, ha2⟩ | hn
  all_goals
    go_wp2
    refine bodyPost_ret (v := .tuple #[.float .f64 0, .bool false, .int .i64 61]) (by simp [results, Tryz.results57, go_sem]) rfl ?_
    exact ⟨rfl, P1.out.2.2⟩
end Go.Proofs.YtmpakpdikkfofaaGreatDoor

/- Round and Exact, by any policy that may be; what is refused. -/
namespace Go.Proofs.YtmpakpdikkfofaaGreatDoor
open Go.RowKit
set_option linter.unusedVariables false
set_option maxRecDepth 20000
set_option linter.unusedSimpArgs false

/-- What Round answers, what is refused among it. -/
def rd10 (V : Int) (s : Sp) (mode a b : Int) : Nat × Int := if 0 < s.n ∧ a = 2 then (0, 60) else if 0 < s.u + s.d ∧ b = 2 then (0, 61) else rd7 V s mode a b
set_option maxHeartbeats 2000000 in
theorem round10_ok (g : Nat) (V : Int) (s : Sp) (mode a b : Int) (w : World) (hA : Acc7 w g V s) (hs : s.ok) (hT : Tab w) (hm0 : 0 ≤ mode) (hm1 : mode ≤ 4) (hab : may a b = true) (ha : ¬ (0 < s.n ∧ a = 2)) (hb : ¬ (0 < s.u + s.d ∧ b = 2)) :
    Calls Tryz.prog 27 #[.pointer (some ⟨g, 0, none⟩), .int .i64 mode, .agg #[.int .i64 a, .int .i64 b]] w fun r w' => r = .returned (.tuple #[.float .f64 (rd7 V s mode a b).1, .int .i64 (rd7 V s mode a b).2]) ∧ Below w.heap.size w w' := by
  obtain ⟨⟨X, er⟩, hX⟩ : ∃ X, X = rd7 V s mode a b := ⟨_, rfl⟩
  rw [← hX]
  simp only
  have hb0 := bel_alloc w (Obj.cells #[.int .i64 a, .int .i64 b] 27)
  have HH := hid (ahead10 g V s mode a b _ (hA.bel hb0) hs hm0 hm1 hab ha hb)
  have her := ahd_er V s mode a b
  unfold rd7 at hX
  obtain ⟨⟨ax, at', ae⟩, hAh⟩ : ∃ Y, Y = ahd V s mode a b := ⟨_, rfl⟩
  rw [← hAh] at HH her hX
  simp only at HH her hX
  subst her
  have HX := Aside.intro hX
  have HA := Aside.intro (And.intro hA (And.intro hT hb0))
  clear hA hT hb0 hX hAh hs hab ha hb
  go_enter Tryz.func27, Tryz.ntmps27
  go_wp2_with fail
  refine HH.out.mono ?_
  rintro r w1 ⟨rfl, hb1⟩
  have B1 := Aside.intro (HA.out.2.2.trans (hb1.mono HA.out.2.2.size))
  clear hb1
  cases at'
  · go_wp2_with fail
    refine (Exact7 g V s w1 (HA.out.1.bel B1.out) (HA.out.2.1.belows B1.out)).mono ?_
    rintro r w2 ⟨v, rfl, hN, hb2⟩
    obtain ⟨L, _, _, _, h0, h1, _⟩ := HA.out.1
    obtain ⟨ad, c, rfl, AV⟩ := hN.arg (Nat.le_trans (dX_small h0 h1) (by decide))
    have HR := hid (Round_any AV (HA.out.2.1.belows (B1.out.trans (hb2.mono B1.out.size))) (dN (exV V)) (dE (exV V)) mode (dE_small V).1 (dE_small V).2)
    rw [val_ws] at HR
    have HX2 := HX.out
    rw [if_neg (by decide)] at HX2
    rw [← HX2] at HR
    simp only at HR
    have B2 := Aside.intro (B1.out.trans (hb2.mono B1.out.size))
    clear hN hb2 AV h0 h1 HX2
    go_wp2_with fail
    refine HR.out.mono ?_
    rintro r w3 ⟨rfl, hb3⟩
    have B3 := Aside.intro hb3
    clear hb3
    go_wp2
    refine bodyPost_ret (v := .tuple #[.float .f64 X, .int .i64 er]) (by simp [results, Tryz.results27, go_sem]) rfl ?_
    exact ⟨rfl, B2.out.trans (B3.out.mono B2.out.size)⟩
  · go_wp2
    have HX2 := HX.out
    rw [if_pos trivial] at HX2
    cases HX2
    refine bodyPost_ret (v := .tuple #[.float .f64 X, .int .i64 0]) (by simp [results, Tryz.results27, go_sem]) rfl ?_
    exact ⟨rfl, B1.out⟩
set_option maxHeartbeats 2000000 in
theorem round10_nan (g : Nat) (mode a b : Int) (w : World)
    (HH : Hid (∀ u : World, Below w.heap.size w u → Calls Tryz.prog 57 #[.pointer (some ⟨g, 0, none⟩), .int .i64 mode, .agg #[.int .i64 a, .int .i64 b]] u fun r w' => r = .returned (.tuple #[.float .f64 0, .bool false, .int .i64 60]) ∧ Below u.heap.size u w')) :
    Calls Tryz.prog 27 #[.pointer (some ⟨g, 0, none⟩), .int .i64 mode, .agg #[.int .i64 a, .int .i64 b]] w fun r w' => r = .returned (.tuple #[.float .f64 0, .int .i64 60]) ∧ Below w.heap.size w w' := by
  have hb0 := Aside.intro (bel_alloc w (Obj.cells #[.int .i64 a, .int .i64 b] 27))
  go_enter Tryz.func27, Tryz.ntmps27
  go_wp2_with fail
  refine (HH.out _ hb0.out).mono ?_
  rintro r w1 ⟨rfl, hb1⟩
  have B1 := Aside.intro (hb0.out.trans (hb1.mono hb0.out.size))
  clear hb1 HH
  go_wp2
  refine bodyPost_ret (v := .tuple #[.float .f64 0, .int .i64 60]) (by simp [results, Tryz.results27, go_sem]) rfl ?_
  exact ⟨rfl, B1.out⟩
set_option maxHeartbeats 2000000 in
theorem round10_inf (g : Nat) (mode a b : Int) (w : World)
    (HH : Hid (∀ u : World, Below w.heap.size w u → Calls Tryz.prog 57 #[.pointer (some ⟨g, 0, none⟩), .int .i64 mode, .agg #[.int .i64 a, .int .i64 b]] u fun r w' => r = .returned (.tuple #[.float .f64 0, .bool false, .int .i64 61]) ∧ Below u.heap.size u w')) :
    Calls Tryz.prog 27 #[.pointer (some ⟨g, 0, none⟩), .int .i64 mode, .agg #[.int .i64 a, .int .i64 b]] w fun r w' => r = .returned (.tuple #[.float .f64 0, .int .i64 61]) ∧ Below w.heap.size w w' := by
  have hb0 := Aside.intro (bel_alloc w (Obj.cells #[.int .i64 a, .int .i64 b] 27))
  go_enter Tryz.func27, Tryz.ntmps27
  go_wp2_with fail
  refine (HH.out _ hb0.out).mono ?_
  rintro r w1 ⟨rfl, hb1⟩
  have B1 := Aside.intro (hb0.out.trans (hb1.mono hb0.out.size))
  clear hb1 HH
  go_wp2
  refine bodyPost_ret (v := .tuple #[.float .f64 0, .int .i64 61]) (by simp [results, Tryz.results27, go_sem]) rfl ?_
  exact ⟨rfl, B1.out⟩
theorem Round10 (g : Nat) (V : Int) (s : Sp) (mode a b : Int) (w : World) (hA : Acc7 w g V s) (hs : s.ok) (hT : Tab w) (hm0 : 0 ≤ mode) (hm1 : mode ≤ 4) (hab : may a b = true) :
    Calls Tryz.prog 27 #[.pointer (some ⟨g, 0, none⟩), .int .i64 mode, .agg #[.int .i64 a, .int .i64 b]] w fun r w' => r = .returned (.tuple #[.float .f64 (rd10 V s mode a b).1, .int .i64 (rd10 V s mode a b).2]) ∧ Below w.heap.size w w' := by
  unfold rd10
  by_cases h1 : 0 < s.n ∧ a = 2
  · rw [if_pos h1]
    exact round10_nan g mode a b w (hid fun u hb => ahead10_nan g V s mode a b u (hA.bel hb) hs hm0 hm1 hab h1)
  · rw [if_neg h1]
    by_cases h2 : 0 < s.u + s.d ∧ b = 2
    · rw [if_pos h2]
      exact round10_inf g mode a b w (hid fun u hb => ahead10_inf g V s mode a b u (hA.bel hb) hs hm0 hm1 hab h1 h2)
    · rw [if_neg h2]
      exact round10_ok g V s mode a b w hA hs hT hm0 hm1 hab h1 h2
theorem Exact10_any (xs : List Nat) (a : Option Addr) (n c : Nat) (mode pa pb : Int) (w : World) (hn : n = xs.length) (hF : Fs w.heap.size w a xs) (hW : W64 xs) (hT : Tab w) (hm0 : 0 ≤ mode) (hm1 : mode ≤ 4) (hab : may pa pb = true) (hl : n ≤ 65536) :
    Calls Tryz.prog 8 #[.slice a n c, .int .i64 mode, .agg #[.int .i64 pa, .int .i64 pb]] w fun r w' => r = .returned (.tuple #[.float .f64 (rd10 (vS xs) (sS xs) mode pa pb).1, .int .i64 (rd10 (vS xs) (sS xs) mode pa pb).2]) ∧ Below w.heap.size w w' :=
  exact_core xs a n c mode pa pb _ _ w hn hF hW hT hm0 hm1 hab hl (hid fun g u hA hs hT => Round10 g (vS xs) (sS xs) mode pa pb u hA hs hT hm0 hm1 hab)
set_option maxHeartbeats 2000000 in
theorem Exact10_arg (a : Option Addr) (n c : Nat) (mode pa pb : Int) (w : World) (h : mode < 0 ∨ 4 < mode ∨ may pa pb = false) :
    Calls Tryz.prog 8 #[.slice a n c, .int .i64 mode, .agg #[.int .i64 pa, .int .i64 pb]] w fun r w' => r = .returned (.tuple #[.float .f64 0, .int .i64 1]) ∧ Below w.heap.size w w' := by
  have HM := hid (fun u : World => May_any pa pb u)
  by_cases h0 : mode < 0
  · have b0 : decide (mode < 0) = true := by simpa using h0
    clear h h0 HM
    go_enter Tryz.func8, Tryz.ntmps8
    go_wp2
    go_ret2
    exact ⟨rfl, bel_alloc _ _⟩
  · have b0 : decide (mode < 0) = false := by simp; omega
    by_cases h1 : 4 < mode
    · have b1 : decide (4 < mode) = true := by simpa using h1
      clear h h0 h1 HM
      go_enter Tryz.func8, Tryz.ntmps8
      go_wp2
      go_ret2
      exact ⟨rfl, bel_alloc _ _⟩
    · have b1 : decide (4 < mode) = false := by simp; omega
      have hab : may pa pb = false := by
        rcases h with h | h | h
        · exact absurd h h0
        · exact absurd h h1
        · exact h
      rw [hab] at HM
      clear h h0 h1 hab
      go_enter Tryz.func8, Tryz.ntmps8
      go_wp2_with fail
      refine (HM.out _).mono ?_
      rintro r w1 ⟨rfl, hb1⟩
      have B1 := Aside.intro ((bel_alloc w (Obj.cells #[.int .i64 pa, .int .i64 pb] 27)).trans (hb1.mono (by simp)))
      clear hb1 HM
      go_wp2
      go_ret2
      exact ⟨rfl, B1.out⟩
set_option maxHeartbeats 2000000 in
theorem Exact10_long (a : Option Addr) (n c : Nat) (mode pa pb : Int) (w : World) (hm0 : 0 ≤ mode) (hm1 : mode ≤ 4) (hab : may pa pb = true) (hl : 65536 < n) :
    Calls Tryz.prog 8 #[.slice a n c, .int .i64 mode, .agg #[.int .i64 pa, .int .i64 pb]] w fun r w' => r = .returned (.tuple #[.float .f64 0, .int .i64 2]) ∧ Below w.heap.size w w' := by
  have HM := hid (fun u : World => May_any pa pb u)
  rw [hab] at HM
  have b0 : decide (mode < 0) = false := by simp; omega
  have b1 : decide (4 < mode) = false := by simp; omega
  have b2 : decide ((65536 : Int) < (n : Int)) = true := by simp; omega
  clear hm0 hm1 hab hl
  go_enter Tryz.func8, Tryz.ntmps8
  go_wp2_with fail
  refine (HM.out _).mono ?_
  rintro r w1 ⟨rfl, hb1⟩
  have B1 := Aside.intro ((bel_alloc w (Obj.cells #[.int .i64 pa, .int .i64 pb] 27)).trans (hb1.mono (by simp)))
  clear hb1 HM
  go_wp2
  go_ret2
  exact ⟨rfl, B1.out⟩
end Go.Proofs.YtmpakpdikkfofaaGreatDoor

/- Beside S3: what else blocks of cells ask. -/
namespace Go.Proofs.YtmpakpdikkfofaaGreatDoor
open Go.RowKit
set_option linter.unusedVariables false
set_option maxRecDepth 20000
theorem But.of_bel9 {g : Nat} {a w w' : World} (h : But g a w) (hb : Below w.heap.size w w') : But g a w' :=
  h.trans ⟨hb.os, hb.tape, hb.output, hb.size, fun k hk _ => hb.block k hk⟩
end Go.Proofs.YtmpakpdikkfofaaGreatDoor

/- Slices of a number, plainly. -/
namespace Go.Proofs.YtmpakpdikkfofaaGreatDoor
set_option linter.unusedVariables false
set_option maxRecDepth 20000
set_option linter.unusedSimpArgs false

/-- The slice of a size in the bin t. -/
def sl (a t : Nat) : Nat := a / 2 ^ (32 * t) % 4294967296
/-- Where its highest slice lies; -1 without one. -/
def tp (a : Nat) : Int := if a = 0 then -1 else ((a.log2 / 32 : Nat) : Int)
theorem pw32 (t : Nat) : 2 ^ (32 * (t + 1)) = 4294967296 * 2 ^ (32 * t) := by
  rw [show 32 * (t + 1) = 32 + 32 * t by omega, Nat.pow_add]
theorem sl_lt (a t : Nat) : sl a t < 4294967296 := Nat.mod_lt _ (by decide)
theorem sl_shift (N m k : Nat) : sl (N * 2 ^ (32 * m)) (m + k) = sl N k := by
  unfold sl
  rw [show 32 * (m + k) = 32 * m + 32 * k by omega, Nat.pow_add, ← Nat.div_div_eq_div_mul, Nat.mul_div_cancel _ (Nat.two_pow_pos _)]
theorem sl_low (N m t : Nat) (h : t < m) : sl (N * 2 ^ (32 * m)) t = 0 := by
  unfold sl
  obtain ⟨d, rfl⟩ : ∃ d, m = t + (d + 1) := ⟨m - t - 1, by omega⟩
  rw [show 32 * (t + (d + 1)) = 32 * t + 32 * (d + 1) by omega, Nat.pow_add, Nat.mul_comm (2 ^ (32 * t)), ← Nat.mul_assoc, Nat.mul_div_cancel _ (Nat.two_pow_pos _), pw32, Nat.mul_left_comm]
  exact Nat.mul_mod_right _ _
theorem sl_high (a t : Nat) (h : a < 2 ^ (32 * t)) : sl a t = 0 := by
  unfold sl; rw [Nat.div_eq_of_lt h]
theorem tp_lt (a : Nat) (t : Nat) : tp a < t ↔ a < 2 ^ (32 * t) := by
  unfold tp
  by_cases h : a = 0
  · rw [if_pos h, h]
    have := Nat.two_pow_pos (32 * t)
    constructor <;> intro _ <;> omega
  · rw [if_neg h, ← Nat.log2_lt h]
    omega
theorem tp_ge (a : Nat) : -1 ≤ tp a := by
  unfold tp; split <;> omega
theorem sl_above (a t : Nat) (h : tp a < t) : sl a t = 0 := sl_high a t ((tp_lt a t).1 h)
theorem sl_top (a t : Nat) (h : tp a = t) : sl a t ≠ 0 := by
  have h1 : a < 2 ^ (32 * (t + 1)) := (tp_lt a (t + 1)).1 (by omega)
  have h2 : ¬ a < 2 ^ (32 * t) := fun q => by have := (tp_lt a t).2 q; omega
  unfold sl
  rw [pw32] at h1
  have h3 : a / 2 ^ (32 * t) < 4294967296 := Nat.div_lt_of_lt_mul (by rw [Nat.mul_comm]; exact h1)
  rw [Nat.mod_eq_of_lt h3]
  have := Nat.div_pos (Nat.le_of_not_lt h2) (Nat.two_pow_pos (32 * t))
  omega
theorem tp_iff (a t : Nat) (h0 : sl a t ≠ 0) (h1 : ∀ u, t < u → sl a u = 0) : tp a = t := by
  by_cases h : tp a < t
  · exact absurd (sl_above a t h) h0
  · obtain ⟨u, hu⟩ : ∃ u : Nat, tp a = u := ⟨(tp a).toNat, by omega⟩
    have := sl_top a u hu
    by_cases q : t < u
    · exact absurd (h1 u q) this
    · omega
/-- The same with a sign. -/
def ss (z t : Int) : Int := if t < 0 then 0 else if z < 0 then -((sl z.natAbs t.toNat : Nat) : Int) else ((sl z.natAbs t.toNat : Nat) : Int)
theorem ss_abs (z t : Int) : (ss z t).natAbs < 4294967296 := by
  have := sl_lt z.natAbs t.toNat
  unfold ss
  split
  · decide
  · split <;> omega
theorem ss_above (z t : Int) (h : tp z.natAbs < t) : ss z t = 0 := by
  unfold ss
  have := tp_ge z.natAbs
  have e := sl_above z.natAbs t.toNat (by omega)
  rw [e]
  split
  · rfl
  · split <;> rfl
theorem ss_neg (z t : Int) (h : t < 0) : ss z t = 0 := by unfold ss; rw [if_pos h]
/-- What the bins count, and the top. -/
def SL : List Int → Int → Int
  | [], _ => 0
  | z :: L, t => ss z t + SL L t
def tL : List Int → Int
  | [] => -1
  | z :: L => max (tp z.natAbs) (tL L)
theorem SL_append (L M : List Int) (t : Int) : SL (L ++ M) t = SL L t + SL M t := by
  induction L with
  | nil => simp [SL]
  | cons z L ih => simp only [List.cons_append, SL]; omega
theorem tL_ge (L : List Int) : -1 ≤ tL L := by
  induction L with
  | nil => simp [tL]
  | cons z M ih => simp only [tL]; omega
theorem tL_append (L M : List Int) : tL (L ++ M) = max (tL L) (tL M) := by
  induction L with
  | nil =>
    have := tL_ge M
    simp only [List.nil_append, tL]; omega
  | cons z L ih => simp only [List.cons_append, tL]; omega
theorem SL_perm {L M : List Int} (h : L.Perm M) (t : Int) : SL L t = SL M t := by
  induction h with
  | nil => rfl
  | cons z _ ih => simp only [SL]; omega
  | swap x y l => simp only [SL]; omega
  | trans _ _ i1 i2 => omega
theorem tL_perm {L M : List Int} (h : L.Perm M) : tL L = tL M := by
  induction h with
  | nil => rfl
  | cons z _ ih => simp only [tL]; omega
  | swap x y l => simp only [tL]; omega
  | trans _ _ i1 i2 => omega
theorem SL_above (L : List Int) (t : Int) (h : tL L < t) : SL L t = 0 := by
  induction L with
  | nil => rfl
  | cons z L ih =>
    simp only [tL] at h
    simp only [SL]
    rw [ss_above z t (by omega), ih (by omega)]; rfl
theorem SL_neg (L : List Int) (t : Int) (h : t < 0) : SL L t = 0 := by
  induction L with
  | nil => rfl
  | cons z L ih => simp only [SL]; rw [ss_neg z t h, ih]; rfl
theorem SL_abs (L : List Int) (t : Int) : (SL L t).natAbs ≤ L.length * 4294967296 := by
  induction L with
  | nil => simp [SL]
  | cons z L ih =>
    have := ss_abs z t
    simp only [SL, List.length_cons]
    omega
end Go.Proofs.YtmpakpdikkfofaaGreatDoor

/- What the bins keep, plainly. -/
namespace Go.Proofs.YtmpakpdikkfofaaGreatDoor
set_option linter.unusedVariables false
set_option maxRecDepth 20000
set_option linter.unusedSimpArgs false

/-- So many of the bin t, in units of the least number. -/
def vb (t k : Int) : Int := if t < 0 then 0 else if t = 0 then k / 16384 else k * ((2 ^ (32 * t.toNat - 14) : Nat) : Int)
theorem vb_zero (t : Int) : vb t 0 = 0 := by
  unfold vb
  split
  · rfl
  · split
    · rfl
    · rw [Int.zero_mul]
theorem vb_mul (t : Nat) (k : Int) (h : t = 0 → (16384 : Int) ∣ k) : vb t k * 16384 = k * ((2 ^ (32 * t) : Nat) : Int) := by
  unfold vb
  rw [if_neg (by omega)]
  by_cases q : t = 0
  · subst q
    rw [if_pos (by decide)]
    have := Int.ediv_mul_cancel (h rfl)
    simp only [Nat.mul_zero, Nat.pow_zero]
    omega
  · rw [if_neg (by omega), Int.toNat_natCast, Int.mul_assoc]
    have : 2 ^ (32 * t) = 2 ^ (32 * t - 14) * 16384 := by
      rw [show (16384 : Nat) = 2 ^ 14 from rfl, ← Nat.pow_add, show 32 * t - 14 + 14 = 32 * t by omega]
    rw [this, Int.natCast_mul]; rfl
theorem vb_abs (t k : Int) (m a : Nat) (ht : t ≤ a) (hk : k.natAbs ≤ 2 ^ m) : (vb t k).natAbs ≤ 2 ^ (m + 32 * a) := by
  have h1 : 2 ^ m ≤ 2 ^ (m + 32 * a) := Nat.pow_le_pow_right (by decide) (by omega)
  unfold vb
  split
  · simp
  · split
    · omega
    · rw [Int.natAbs_mul, Int.natAbs_natCast, Nat.pow_add]
      exact Nat.mul_le_mul hk (Nat.pow_le_pow_right (by decide) (by omega))
/-- Two words of a bin. -/
theorem vb_two (t : Int) (k : Int) (h : t < 0 → k = 0) (h2 : t = 0 → (16384 : Int) ∣ k) : vb (t + 1) (k / 4294967296) + vb t (k % 4294967296) = vb t k := by
  by_cases q : t < 0
  · rw [h q]; simp [vb_zero]
  · obtain ⟨n, rfl⟩ : ∃ n : Nat, t = n := ⟨t.toNat, by omega⟩
    have hk : k % 4294967296 + k / 4294967296 * 4294967296 = k := by omega
    have h3 : n = 0 → (16384 : Int) ∣ k % 4294967296 := by
      intro q; obtain ⟨c, hc⟩ := h2 (by omega); omega
    have e1 := vb_mul (n + 1) (k / 4294967296) (by omega)
    have e2 := vb_mul n (k % 4294967296) h3
    have e3 := vb_mul n k (fun q => h2 (by omega))
    have e4 : (((2 ^ (32 * (n + 1)) : Nat)) : Int) = 4294967296 * ((2 ^ (32 * n) : Nat) : Int) := by rw [pw32, Int.natCast_mul]; rfl
    rw [e4, ← Int.mul_assoc] at e1
    have e5 : k * ((2 ^ (32 * n) : Nat) : Int) = k / 4294967296 * 4294967296 * ((2 ^ (32 * n) : Nat) : Int) + k % 4294967296 * ((2 ^ (32 * n) : Nat) : Int) := by
      rw [← Int.add_mul]; congr 1; omega
    rw [show ((n : Int) + 1) = ((n + 1 : Nat) : Int) by omega]
    omega
/-- What is kept of a fold. -/
def kf (f : Nat) (T : Int) (D : Int → Int) (i : Nat) : Int := if i < f then D (T - i) else 0
def kv (T : Int) (K : Nat → Int) : Nat → Int
  | 0 => 0
  | n + 1 => kv T K n + vb (T - n) (K n)
theorem SL_div (L : List Int) (h : ∀ z ∈ L, (16384 : Int) ∣ z) : (16384 : Int) ∣ SL L 0 := by
  induction L with
  | nil => exact ⟨0, rfl⟩
  | cons z L ih =>
    obtain ⟨a, ha⟩ := ih (fun y hy => h y (List.mem_cons_of_mem _ hy))
    obtain ⟨b, hb⟩ := h z (List.mem_cons_self ..)
    have : (16384 : Int) ∣ ss z 0 := by
      unfold ss sl
      rw [if_neg (by omega)]
      simp only [Int.toNat_zero, Nat.mul_zero, Nat.pow_zero, Nat.div_one]
      split <;> omega
    obtain ⟨c, hc⟩ := this
    exact ⟨a + c, by simp only [SL]; omega⟩
theorem kv_abs (T : Int) (K : Nat → Int) (n m a : Nat) (hT : T ≤ a) (hK : ∀ i, (K i).natAbs ≤ 2 ^ m) : (kv T K n).natAbs ≤ n * 2 ^ (m + 32 * a) := by
  induction n with
  | zero => simp [kv]
  | succ n ih =>
    have := vb_abs (T - n) (K n) m a (by omega) (hK n)
    show (kv T K n + vb (T - n) (K n)).natAbs ≤ _
    rw [Nat.succ_mul]
    omega
/-- One number more in a bin. -/
def upd (D : Int → Int) (j v : Int) : Int → Int := fun t => if t = j then D t + v else D t
end Go.Proofs.YtmpakpdikkfofaaGreatDoor

