import Derived.Test.YthilnddhehbjiaaDoorProg
import Derived.Laws.Externs
import Derived.WalkKit
import Derived.WalkLawsBesides
import Derived.Test.YthilnddhehbjiaaDoorBW1
/- What the four body-less functions of package math answer over this program. -/
namespace Go.Proofs.YthilnddhehbjiaaDoor.B
set_option linter.unusedVariables false
set_option maxRecDepth 20000
theorem f64bits (b : Nat) (w : World) : (callFunc 68 #[.float .f64 b]).run Tryd.prog w = .ok (.value (.int .u64 b)) w := by
  rw [run_callFunc_extern (e := Extern.MathFloatBits.float64bits) Tryd.func68 (by kernel_rfl) (by kernel_rfl) (by kernel_rfl) (by kernel_rfl)]; rfl
theorem f64frombits (n : Int) (w : World) : (callFunc 97 #[.int .u64 n]).run Tryd.prog w = .ok (.value (.float .f64 n.toNat)) w := by
  rw [run_callFunc_extern (e := Extern.MathFloatBits.float64frombits) Tryd.func97 (by kernel_rfl) (by kernel_rfl) (by kernel_rfl) (by kernel_rfl)]; rfl
theorem f32bits (b : Nat) (w : World) : (callFunc 100 #[.float .f32 b]).run Tryd.prog w = .ok (.value (.int .u32 b)) w := by
  rw [run_callFunc_extern (e := Extern.MathFloatBits.float32bits) Tryd.func100 (by kernel_rfl) (by kernel_rfl) (by kernel_rfl) (by kernel_rfl)]; rfl
theorem f32frombits (n : Int) (w : World) : (callFunc 99 #[.int .u32 n]).run Tryd.prog w = .ok (.value (.float .f32 n.toNat)) w := by
  rw [run_callFunc_extern (e := Extern.MathFloatBits.float32frombits) Tryd.func99 (by kernel_rfl) (by kernel_rfl) (by kernel_rfl) (by kernel_rfl)]; rfl
end Go.Proofs.YthilnddhehbjiaaDoor.B

/- What Split, its twin of the document, the classes and Same answer, at every number. -/
namespace Go.Proofs.YthilnddhehbjiaaDoor.B
set_option linter.unusedVariables false
set_option maxRecDepth 20000
open Go.RowKit
attribute [local go_sem] f64bits f64frombits

theorem bcell {W w1 : World} (hb : Below W.heap.size W w1) : (∀ b o, b < W.heap.size → w1.cell? ⟨b, o, none⟩ = W.cell? ⟨b, o, none⟩) ∧ (∀ b o, b < W.heap.size → w1.frozen? ⟨b, o, none⟩ = W.frozen? ⟨b, o, none⟩) :=
  ⟨fun b o h => hb.cell (p := ⟨b, o, none⟩) h, fun b o h => hb.frozen (p := ⟨b, o, none⟩) h⟩

theorem split_lit (s : Bool) (e f : Nat) (he : e < 2048) (hf : f < 4503599627370496) (w : World) :
    Calls Tryd.prog 112 #[.int .u64 (bw s e f), .int .u64 52, .int .u64 11, .int .i64 (-1074)] w fun r w' => r = .returned (.agg #[.bool (ng s e f), .int .i64 (cls e f), .int .i64 (xp e), .int .u64 (fr e f)]) ∧ Below w.heap.size w w' :=
  split_any s e f he hf w

set_option maxHeartbeats 1000000 in
theorem nan_any (w : World) : Calls Tryd.prog 153 #[] w fun r w' => r = .returned (.float .f64 9221120237041090560) ∧ w' = w := by
  go_enter Tryd.func153, Tryd.ntmps153
  go_wp2
  go_ret
  exact ⟨rfl, rfl⟩

set_option maxHeartbeats 1000000 in
theorem Split_any (s : Bool) (e f : Nat) (he : e < 2048) (hf : f < 4503599627370496) (w : World) :
    Calls Tryd.prog 69 #[.float .f64 (bw s e f)] w fun r w' => r = .returned (.agg #[.bool (ng s e f), .int .i64 (cls e f), .int .i64 (xp e), .int .u64 (fr e f)]) ∧ Below w.heap.size w w' := by
  go_enter Tryd.func69, Tryd.ntmps69
  go_wp2_with (go_at_call 112; refine (split_lit s e f he hf _).mono ?_; rintro r w1 ⟨rfl, hb⟩; (obtain ⟨hc, hfz⟩ := bcell hb; have hz : w.heap.size < w1.heap.size := by (have := hb.size; simp at this; omega)))
  exact bodyPost_ret (v := (.agg #[.bool (ng s e f), .int .i64 (cls e f), .int .i64 (xp e), .int .u64 (fr e f)])) (by simp [results, Tryd.results69, go_sem, hc]) rfl ⟨rfl, (by repeat (first | exact Below.refl _ _ | exact ((Below.refl _ _).alloc (Nat.le_refl _) _).trans (hb.mono (by simp)) | exact Nat.le_refl _ | (simp; done) | (simp; omega) | refine Below.alloc ?_ ?_ _ | refine Below.setCell ?_ ?_ _ | refine Below.drew ?_))⟩

set_option maxHeartbeats 1000000 in
theorem isNaN_any (s : Bool) (e f : Nat) (he : e < 2048) (hf : f < 4503599627370496) (w : World) :
    Calls Tryd.prog 150 #[.float .f64 (bw s e f)] w fun r w' => r = .returned (.bool (odd e f)) ∧ w' = w := by
  have h1 := order_self s e f he hf
  go_enter Tryd.func150, Tryd.ntmps150
  go_wp2
  go_ret
  exact ⟨rfl, rfl⟩

end Go.Proofs.YthilnddhehbjiaaDoor.B

