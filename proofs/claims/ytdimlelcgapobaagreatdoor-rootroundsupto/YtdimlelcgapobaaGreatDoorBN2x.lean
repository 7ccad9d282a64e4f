import Derived.Test.YtdimlelcgapobaaGreatDoorBFlx
import Derived.Test.YtdimlelcgapobaaGreatDoorO12x
import Derived.BigQuiet
import Derived.Deep.Cut
import Derived.Test.YtdimlelcgapobaaGreatDoorD23x
import Derived.Test.YtdimlelcgapobaaGreatDoorZ9x
import Derived.Test.YtdimlelcgapobaaGreatDoorW34x
import Derived.Test.YtdimlelcgapobaaGreatDoorZ8x
import Derived.Deep.RegionWith
import Derived.Deep.RegionHeld3
import Derived.Deep.CutRange
import Derived.Test.YtdimlelcgapobaaGreatDoorW52x
set_option linter.unusedVariables false
set_option linter.unusedSimpArgs false
set_option maxHeartbeats 16000000
set_option maxRecDepth 20000
namespace Go.Proofs.YtdimlelcgapobaaGreatDoor
namespace B
open Go.RowKit
attribute [local go_sem] f64bits f64frombits f32bits f32frombits
theorem widen_num (X B:Nat) (o:(FloatKind.f32.format.order X X != some .eq)=false) (cv:∀ w,(convert 39 31 (.float .f32 X)).run Tryz.prog w=.ok (.float .f64 B) w) (w:World) :
 Calls Tryz.prog 177 #[.float .f32 X] w fun r w'=>r=.returned (.float .f64 B)∧w'=w:=by
 go_enter Tryz.func177,Tryz.ntmps177;go_wp2;go_ret;exact ⟨rfl,rfl⟩
theorem val32_num (r:Int) (B:Nat) (h:(r==2139095040)=false) (H:Hid (∀ w,Calls Tryz.prog 177 #[.float .f32 r.toNat] w fun r w'=>r=.returned (.float .f64 B)∧w'=w)) (w:World) :
 Calls Tryz.prog 160 #[.int .u32 r] w fun r w'=>r=.returned (.float .f64 B)∧w'=w:=by
 go_enter Tryz.func160,Tryz.ntmps160
 go_wp2_with (first
  | (go_at_call 177;refine (H.out _).mono ?_;rintro r w1 ⟨rfl,rfl⟩)
  | (go_at_call 177;refine (H.out _).mono ?_;rintro r w1 ⟨rfl,rfl⟩))
 go_ret;exact ⟨rfl,rfl⟩
theorem val32_end  (w:World) :
 Calls Tryz.prog 160 #[.int .u32 2139095040] w fun r w'=>r=.returned (.float .f64 5183643171103440896)∧w'=w:=by
 go_enter Tryz.func160,Tryz.ntmps160
 go_wp2_with fail
 go_ret;exact ⟨rfl,rfl⟩
theorem inner_big (X:Nat) (o:(FloatKind.f64.format.order X 5183643170566569984==some .gt || FloatKind.f64.format.order X 5183643170566569984==some .eq)=true) (w:World) :
 Calls Tryz.prog 127 #[.float .f64 X] w fun r w'=>r=.returned (.int .u32 2139095039)∧w'=w:=by
 go_enter Tryz.func127,Tryz.ntmps127
 go_wp2_with fail
 go_ret;exact ⟨rfl,rfl⟩
theorem inner_at (X R L:Nat) (o:(FloatKind.f64.format.order X 5183643170566569984==some .gt || FloatKind.f64.format.order X 5183643170566569984==some .eq)=false) (hR:R≤2139095039) (cv:∀ w,(convert 31 39 (.float .f64 X)).run Tryz.prog w=.ok (.float .f32 R) w) (H:Hid (∀ w,Calls Tryz.prog 160 #[.int .u32 (R:Nat)] w fun r w'=>r=.returned (.float .f64 L)∧w'=w)) (o2:(FloatKind.f64.format.order L X==some .gt)=false) (w:World) :
 Calls Tryz.prog 127 #[.float .f64 X] w fun r w'=>r=.returned (.int .u32 (R:Nat))∧w'=w:=by
 go_enter Tryz.func127,Tryz.ntmps127
 go_wp2_with (first
  | (go_at_call 160;refine (H.out _).mono ?_;rintro r w1 ⟨rfl,rfl⟩)
  | (go_at_call 160;refine (H.out _).mono ?_;rintro r w1 ⟨rfl,rfl⟩))
 go_ret;exact ⟨rfl,rfl⟩
theorem inner_below (X R L:Nat) (o:(FloatKind.f64.format.order X 5183643170566569984==some .gt || FloatKind.f64.format.order X 5183643170566569984==some .eq)=false) (hR:R≤2139095039) (cv:∀ w,(convert 31 39 (.float .f64 X)).run Tryz.prog w=.ok (.float .f32 R) w) (H:Hid (∀ w,Calls Tryz.prog 160 #[.int .u32 (R:Nat)] w fun r w'=>r=.returned (.float .f64 L)∧w'=w)) (h0:1≤R) (Q:Nat) (hQ:Hid (Q+1=R)) (o2:(FloatKind.f64.format.order L X==some .gt)=true) (w:World) :
 Calls Tryz.prog 127 #[.float .f64 X] w fun r w'=>r=.returned (.int .u32 (Q:Nat))∧w'=w:=by
 go_enter Tryz.func127,Tryz.ntmps127
 go_wp2_with (first
  | (go_at_call 160;refine (H.out _).mono ?_;rintro r w1 ⟨rfl,rfl⟩)
  | (go_at_call 160;refine (H.out _).mono ?_;rintro r w1 ⟨rfl,rfl⟩))
 go_ret;exact ⟨ret_u32 (by have:=hQ.out;omega),rfl⟩
theorem takes_same (X L:Nat) (q k:Int) (H1:Hid (∀ w,Calls Tryz.prog 160 #[.int .u32 q] w fun r w'=>r=.returned (.float .f64 L)∧w'=w)) (o:(FloatKind.f64.format.order X L==some .eq)=true) (w:World) :
 Calls Tryz.prog 128 #[.float .f64 X,.int .u32 q,.int .i64 k] w fun r w'=>r=.returned (.bool false)∧w'=w:=by
 go_enter Tryz.func128,Tryz.ntmps128
 go_wp2_with (first
  | (go_at_call 160;refine (H1.out _).mono ?_;rintro r w1 ⟨rfl,rfl⟩)
  | (go_at_call 160;refine (H1.out _).mono ?_;rintro r w1 ⟨rfl,rfl⟩))
 go_ret;exact ⟨rfl,rfl⟩
theorem takes_out (X L M D Hf Md:Nat) (q:Int) (hq0:0≤q) (hq1:q≤2139095039) (H1:Hid (∀ w,Calls Tryz.prog 160 #[.int .u32 q] w fun r w'=>r=.returned (.float .f64 L)∧w'=w)) (H2:Hid (∀ w,Calls Tryz.prog 160 #[.int .u32 (q+1)] w fun r w'=>r=.returned (.float .f64 M)∧w'=w)) (o:(FloatKind.f64.format.order X L==some .eq)=false) (d1:∀ w,(binOp .sub 31 (.float .f64 M) (.float .f64 L)).run Tryz.prog w=.ok (.float .f64 D) w) (d2:∀ w,(binOp .quo 31 (.float .f64 D) (.float .f64 4611686018427387904)).run Tryz.prog w=.ok (.float .f64 Hf) w) (d3:∀ w,(binOp .add 31 (.float .f64 L) (.float .f64 Hf)).run Tryz.prog w=.ok (.float .f64 Md) w) (w:World) :
 Calls Tryz.prog 128 #[.float .f64 X,.int .u32 q,.int .i64 1] w fun r w'=>r=.returned (.bool true)∧w'=w:=by
 go_enter Tryz.func128,Tryz.ntmps128
 go_wp2_with fail
 refine (H1.out _).mono ?_;rintro r w1 ⟨rfl,rfl⟩
 go_wp2_with fail
 refine (H2.out _).mono ?_;rintro r w1 ⟨rfl,rfl⟩
 go_wp2_with fail
 go_ret;exact ⟨rfl,rfl⟩
theorem takes_in (X L M D Hf Md:Nat) (q:Int) (hq0:0≤q) (hq1:q≤2139095039) (H1:Hid (∀ w,Calls Tryz.prog 160 #[.int .u32 q] w fun r w'=>r=.returned (.float .f64 L)∧w'=w)) (H2:Hid (∀ w,Calls Tryz.prog 160 #[.int .u32 (q+1)] w fun r w'=>r=.returned (.float .f64 M)∧w'=w)) (o:(FloatKind.f64.format.order X L==some .eq)=false) (d1:∀ w,(binOp .sub 31 (.float .f64 M) (.float .f64 L)).run Tryz.prog w=.ok (.float .f64 D) w) (d2:∀ w,(binOp .quo 31 (.float .f64 D) (.float .f64 4611686018427387904)).run Tryz.prog w=.ok (.float .f64 Hf) w) (d3:∀ w,(binOp .add 31 (.float .f64 L) (.float .f64 Hf)).run Tryz.prog w=.ok (.float .f64 Md) w) (w:World) :
 Calls Tryz.prog 128 #[.float .f64 X,.int .u32 q,.int .i64 0] w fun r w'=>r=.returned (.bool false)∧w'=w:=by
 go_enter Tryz.func128,Tryz.ntmps128
 go_wp2_with fail
 refine (H1.out _).mono ?_;rintro r w1 ⟨rfl,rfl⟩
 go_wp2_with fail
 refine (H2.out _).mono ?_;rintro r w1 ⟨rfl,rfl⟩
 go_wp2_with fail
 go_ret;exact ⟨rfl,rfl⟩
theorem takes_even_gt (X L M D Hf Md:Nat) (q:Int) (hq0:0≤q) (hq1:q≤2139095039) (H1:Hid (∀ w,Calls Tryz.prog 160 #[.int .u32 q] w fun r w'=>r=.returned (.float .f64 L)∧w'=w)) (H2:Hid (∀ w,Calls Tryz.prog 160 #[.int .u32 (q+1)] w fun r w'=>r=.returned (.float .f64 M)∧w'=w)) (o:(FloatKind.f64.format.order X L==some .eq)=false) (d1:∀ w,(binOp .sub 31 (.float .f64 M) (.float .f64 L)).run Tryz.prog w=.ok (.float .f64 D) w) (d2:∀ w,(binOp .quo 31 (.float .f64 D) (.float .f64 4611686018427387904)).run Tryz.prog w=.ok (.float .f64 Hf) w) (d3:∀ w,(binOp .add 31 (.float .f64 L) (.float .f64 Hf)).run Tryz.prog w=.ok (.float .f64 Md) w) (m:(FloatKind.f64.format.order X Md==some .gt)=true) (w:World) :
 Calls Tryz.prog 128 #[.float .f64 X,.int .u32 q,.int .i64 2] w fun r w'=>r=.returned (.bool true)∧w'=w:=by
 go_enter Tryz.func128,Tryz.ntmps128
 go_wp2_with fail
 refine (H1.out _).mono ?_;rintro r w1 ⟨rfl,rfl⟩
 go_wp2_with fail
 refine (H2.out _).mono ?_;rintro r w1 ⟨rfl,rfl⟩
 go_wp2_with fail
 go_ret;exact ⟨rfl,rfl⟩
theorem takes_even_lt (X L M D Hf Md:Nat) (q:Int) (hq0:0≤q) (hq1:q≤2139095039) (H1:Hid (∀ w,Calls Tryz.prog 160 #[.int .u32 q] w fun r w'=>r=.returned (.float .f64 L)∧w'=w)) (H2:Hid (∀ w,Calls Tryz.prog 160 #[.int .u32 (q+1)] w fun r w'=>r=.returned (.float .f64 M)∧w'=w)) (o:(FloatKind.f64.format.order X L==some .eq)=false) (d1:∀ w,(binOp .sub 31 (.float .f64 M) (.float .f64 L)).run Tryz.prog w=.ok (.float .f64 D) w) (d2:∀ w,(binOp .quo 31 (.float .f64 D) (.float .f64 4611686018427387904)).run Tryz.prog w=.ok (.float .f64 Hf) w) (d3:∀ w,(binOp .add 31 (.float .f64 L) (.float .f64 Hf)).run Tryz.prog w=.ok (.float .f64 Md) w) (m:(FloatKind.f64.format.order X Md==some .gt)=false) (m2:(FloatKind.f64.format.order X Md==some .eq)=false) (w:World) :
 Calls Tryz.prog 128 #[.float .f64 X,.int .u32 q,.int .i64 2] w fun r w'=>r=.returned (.bool false)∧w'=w:=by
 go_enter Tryz.func128,Tryz.ntmps128
 go_wp2_with fail
 refine (H1.out _).mono ?_;rintro r w1 ⟨rfl,rfl⟩
 go_wp2_with fail
 refine (H2.out _).mono ?_;rintro r w1 ⟨rfl,rfl⟩
 go_wp2_with fail
 go_ret;exact ⟨rfl,rfl⟩
theorem takes_even_eq (X L M D Hf Md:Nat) (q:Int) (hq0:0≤q) (hq1:q≤2139095039) (H1:Hid (∀ w,Calls Tryz.prog 160 #[.int .u32 q] w fun r w'=>r=.returned (.float .f64 L)∧w'=w)) (H2:Hid (∀ w,Calls Tryz.prog 160 #[.int .u32 (q+1)] w fun r w'=>r=.returned (.float .f64 M)∧w'=w)) (o:(FloatKind.f64.format.order X L==some .eq)=false) (d1:∀ w,(binOp .sub 31 (.float .f64 M) (.float .f64 L)).run Tryz.prog w=.ok (.float .f64 D) w) (d2:∀ w,(binOp .quo 31 (.float .f64 D) (.float .f64 4611686018427387904)).run Tryz.prog w=.ok (.float .f64 Hf) w) (d3:∀ w,(binOp .add 31 (.float .f64 L) (.float .f64 Hf)).run Tryz.prog w=.ok (.float .f64 Md) w) (b:Bool) (m:(FloatKind.f64.format.order X Md==some .gt)=false) (m2:(FloatKind.f64.format.order X Md==some .eq)=true) (m3:(bits .and .u32 q 1==1)=b) (w:World) :
 Calls Tryz.prog 128 #[.float .f64 X,.int .u32 q,.int .i64 2] w fun r w'=>r=.returned (.bool b)∧w'=w:=by
 go_enter Tryz.func128,Tryz.ntmps128
 go_wp2_with fail
 refine (H1.out _).mono ?_;rintro r w1 ⟨rfl,rfl⟩
 go_wp2_with fail
 refine (H2.out _).mono ?_;rintro r w1 ⟨rfl,rfl⟩
 go_wp2_with fail
 go_ret;exact ⟨rfl,rfl⟩
theorem takes_away (X L M D Hf Md:Nat) (q:Int) (hq0:0≤q) (hq1:q≤2139095039) (H1:Hid (∀ w,Calls Tryz.prog 160 #[.int .u32 q] w fun r w'=>r=.returned (.float .f64 L)∧w'=w)) (H2:Hid (∀ w,Calls Tryz.prog 160 #[.int .u32 (q+1)] w fun r w'=>r=.returned (.float .f64 M)∧w'=w)) (o:(FloatKind.f64.format.order X L==some .eq)=false) (d1:∀ w,(binOp .sub 31 (.float .f64 M) (.float .f64 L)).run Tryz.prog w=.ok (.float .f64 D) w) (d2:∀ w,(binOp .quo 31 (.float .f64 D) (.float .f64 4611686018427387904)).run Tryz.prog w=.ok (.float .f64 Hf) w) (d3:∀ w,(binOp .add 31 (.float .f64 L) (.float .f64 Hf)).run Tryz.prog w=.ok (.float .f64 Md) w) (b:Bool) (m:(FloatKind.f64.format.order X Md==some .gt || FloatKind.f64.format.order X Md==some .eq)=b) (w:World) :
 Calls Tryz.prog 128 #[.float .f64 X,.int .u32 q,.int .i64 3] w fun r w'=>r=.returned (.bool b)∧w'=w:=by
 go_enter Tryz.func128,Tryz.ntmps128
 go_wp2_with fail
 refine (H1.out _).mono ?_;rintro r w1 ⟨rfl,rfl⟩
 go_wp2_with fail
 refine (H2.out _).mono ?_;rintro r w1 ⟨rfl,rfl⟩
 go_wp2_with fail
 go_ret;exact ⟨rfl,rfl⟩
theorem taken_0p  (w:World) :
 Calls Tryz.prog 129 #[.int .i64 0,.bool false] w fun r w'=>r=.returned (.int .i64 2)∧Below w.heap.size w w':=by
 go_enter Tryz.func129,Tryz.ntmps129;go_wp2;go_ret;exact ⟨rfl,(by repeat (first | exact Below.refl _ _ | assumption | exact Nat.le_refl _ | (simp;done) | (simp;omega) | refine Below.alloc ?_ ?_ _ | refine Below.setCell ?_ ?_ _ | refine Below.drew ?_))⟩
theorem taken_0n  (w:World) :
 Calls Tryz.prog 129 #[.int .i64 0,.bool true] w fun r w'=>r=.returned (.int .i64 2)∧Below w.heap.size w w':=by
 go_enter Tryz.func129,Tryz.ntmps129;go_wp2;go_ret;exact ⟨rfl,(by repeat (first | exact Below.refl _ _ | assumption | exact Nat.le_refl _ | (simp;done) | (simp;omega) | refine Below.alloc ?_ ?_ _ | refine Below.setCell ?_ ?_ _ | refine Below.drew ?_))⟩
theorem taken_1p  (w:World) :
 Calls Tryz.prog 129 #[.int .i64 1,.bool false] w fun r w'=>r=.returned (.int .i64 0)∧Below w.heap.size w w':=by
 go_enter Tryz.func129,Tryz.ntmps129;go_wp2;go_ret;exact ⟨rfl,(by repeat (first | exact Below.refl _ _ | assumption | exact Nat.le_refl _ | (simp;done) | (simp;omega) | refine Below.alloc ?_ ?_ _ | refine Below.setCell ?_ ?_ _ | refine Below.drew ?_))⟩
theorem taken_1n  (w:World) :
 Calls Tryz.prog 129 #[.int .i64 1,.bool true] w fun r w'=>r=.returned (.int .i64 0)∧Below w.heap.size w w':=by
 go_enter Tryz.func129,Tryz.ntmps129;go_wp2;go_ret;exact ⟨rfl,(by repeat (first | exact Below.refl _ _ | assumption | exact Nat.le_refl _ | (simp;done) | (simp;omega) | refine Below.alloc ?_ ?_ _ | refine Below.setCell ?_ ?_ _ | refine Below.drew ?_))⟩
theorem taken_2p  (w:World) :
 Calls Tryz.prog 129 #[.int .i64 2,.bool false] w fun r w'=>r=.returned (.int .i64 1)∧Below w.heap.size w w':=by
 go_enter Tryz.func129,Tryz.ntmps129;go_wp2;go_ret;exact ⟨rfl,(by repeat (first | exact Below.refl _ _ | assumption | exact Nat.le_refl _ | (simp;done) | (simp;omega) | refine Below.alloc ?_ ?_ _ | refine Below.setCell ?_ ?_ _ | refine Below.drew ?_))⟩
theorem taken_2n  (w:World) :
 Calls Tryz.prog 129 #[.int .i64 2,.bool true] w fun r w'=>r=.returned (.int .i64 0)∧Below w.heap.size w w':=by
 go_enter Tryz.func129,Tryz.ntmps129;go_wp2;go_ret;exact ⟨rfl,(by repeat (first | exact Below.refl _ _ | assumption | exact Nat.le_refl _ | (simp;done) | (simp;omega) | refine Below.alloc ?_ ?_ _ | refine Below.setCell ?_ ?_ _ | refine Below.drew ?_))⟩
theorem taken_3p  (w:World) :
 Calls Tryz.prog 129 #[.int .i64 3,.bool false] w fun r w'=>r=.returned (.int .i64 0)∧Below w.heap.size w w':=by
 go_enter Tryz.func129,Tryz.ntmps129;go_wp2;go_ret;exact ⟨rfl,(by repeat (first | exact Below.refl _ _ | assumption | exact Nat.le_refl _ | (simp;done) | (simp;omega) | refine Below.alloc ?_ ?_ _ | refine Below.setCell ?_ ?_ _ | refine Below.drew ?_))⟩
theorem taken_3n  (w:World) :
 Calls Tryz.prog 129 #[.int .i64 3,.bool true] w fun r w'=>r=.returned (.int .i64 1)∧Below w.heap.size w w':=by
 go_enter Tryz.func129,Tryz.ntmps129;go_wp2;go_ret;exact ⟨rfl,(by repeat (first | exact Below.refl _ _ | assumption | exact Nat.le_refl _ | (simp;done) | (simp;omega) | refine Below.alloc ?_ ?_ _ | refine Below.setCell ?_ ?_ _ | refine Below.drew ?_))⟩
theorem taken_4p  (w:World) :
 Calls Tryz.prog 129 #[.int .i64 4,.bool false] w fun r w'=>r=.returned (.int .i64 3)∧Below w.heap.size w w':=by
 go_enter Tryz.func129,Tryz.ntmps129;go_wp2;go_ret;exact ⟨rfl,(by repeat (first | exact Below.refl _ _ | assumption | exact Nat.le_refl _ | (simp;done) | (simp;omega) | refine Below.alloc ?_ ?_ _ | refine Below.setCell ?_ ?_ _ | refine Below.drew ?_))⟩
theorem taken_4n  (w:World) :
 Calls Tryz.prog 129 #[.int .i64 4,.bool true] w fun r w'=>r=.returned (.int .i64 3)∧Below w.heap.size w w':=by
 go_enter Tryz.func129,Tryz.ntmps129;go_wp2;go_ret;exact ⟨rfl,(by repeat (first | exact Below.refl _ _ | assumption | exact Nat.le_refl _ | (simp;done) | (simp;omega) | refine Below.alloc ?_ ?_ _ | refine Below.setCell ?_ ?_ _ | refine Below.drew ?_))⟩
theorem nar_zero (X B:Nat) (k:Int) (k0:0≤k) (k4:k≤4) (s:Bool) (x g:Int) (H0:Hid (∀ w,Calls Tryz.prog 125 #[.float .f64 X] w fun r w'=>r=.returned (.agg #[.bool s,.int .i64 0,.int .i64 x,.int .u64 g])∧Below w.heap.size w w')) (cv:∀ w,(convert 31 39 (.float .f64 X)).run Tryz.prog w=.ok (.float .f32 B) w) (w:World) :
 Calls Tryz.prog 83 #[.float .f64 X,.int .i64 k] w fun r w'=>r=.returned (.tuple #[.float .f32 B,.int .i64 0])∧Below w.heap.size w w':=by
 go_enter Tryz.func83,Tryz.ntmps83
 go_wp2_with fail
 refine (H0.out _).mono ?_;rintro r w1 ⟨rfl,hb⟩
 go_wp2_with fail
 go_ret2
 exact ⟨rfl,hb.alloc hb.size _⟩
theorem nar_fin_ff (X A:Nat) (k:Int) (k0:0≤k) (k4:k≤4) (c x g q y:Int) (c4:(c==4)=false) (c0:(c==0)=false) (c3:(c==3)=false) (q0:0≤q) (q1:q≤2139095039) (H0:Hid (∀ w,Calls Tryz.prog 125 #[.float .f64 X] w fun r w'=>r=.returned (.agg #[.bool false,.int .i64 c,.int .i64 x,.int .u64 g])∧Below w.heap.size w w')) (H1:Hid (∀ w,Calls Tryz.prog 126 #[.float .f64 X] w fun r w'=>r=.returned (.float .f64 A)∧w'=w)) (H2:Hid (∀ w,Calls Tryz.prog 127 #[.float .f64 A] w fun r w'=>r=.returned (.int .u32 q)∧w'=w)) (H3:Hid (∀ w,Calls Tryz.prog 129 #[.int .i64 k,.bool false] w fun r w'=>r=.returned (.int .i64 y)∧Below w.heap.size w w')) (H4:Hid (∀ w,Calls Tryz.prog 128 #[.float .f64 A,.int .u32 q,.int .i64 y] w fun r w'=>r=.returned (.bool false)∧w'=w)) (w:World) :
 Calls Tryz.prog 83 #[.float .f64 X,.int .i64 k] w fun r w'=>r=.returned (.tuple #[.float .f32 ((q:Int).toNat),.int .i64 0])∧Below w.heap.size w w':=by
 go_enter Tryz.func83,Tryz.ntmps83
 go_wp2_with fail
 refine (H0.out _).mono ?_;rintro r w1 ⟨rfl,hb⟩
 go_wp2_with fail
 refine (H1.out _).mono ?_;rintro r w2 ⟨rfl,rfl⟩
 go_wp2_with fail
 refine (H2.out _).mono ?_;rintro r w2 ⟨rfl,rfl⟩
 go_wp2_with fail
 refine (H3.out _).mono ?_;rintro r w3 ⟨rfl,hb3⟩;obtain ⟨hc,hfz⟩:=bcell hb3;have B3:=(hb.alloc hb.size (.cells #[.bool false,.int .i64 c,.int .i64 x,.int .u64 g] 142)).trans (hb3.mono (by simp;exact Nat.le_succ_of_le hb.size))
 go_wp2_with fail
 refine (H4.out _).mono ?_;rintro r w2 ⟨rfl,rfl⟩
 go_wp2_with fail
 go_ret2
 exact ⟨rfl,B3⟩
theorem nar_fin_ft (X A:Nat) (k:Int) (k0:0≤k) (k4:k≤4) (c x g q y:Int) (c4:(c==4)=false) (c0:(c==0)=false) (c3:(c==3)=false) (q0:0≤q) (q1:q≤2139095039) (H0:Hid (∀ w,Calls Tryz.prog 125 #[.float .f64 X] w fun r w'=>r=.returned (.agg #[.bool false,.int .i64 c,.int .i64 x,.int .u64 g])∧Below w.heap.size w w')) (H1:Hid (∀ w,Calls Tryz.prog 126 #[.float .f64 X] w fun r w'=>r=.returned (.float .f64 A)∧w'=w)) (H2:Hid (∀ w,Calls Tryz.prog 127 #[.float .f64 A] w fun r w'=>r=.returned (.int .u32 q)∧w'=w)) (H3:Hid (∀ w,Calls Tryz.prog 129 #[.int .i64 k,.bool false] w fun r w'=>r=.returned (.int .i64 y)∧Below w.heap.size w w')) (H4:Hid (∀ w,Calls Tryz.prog 128 #[.float .f64 A,.int .u32 q,.int .i64 y] w fun r w'=>r=.returned (.bool true)∧w'=w)) (w:World) :
 Calls Tryz.prog 83 #[.float .f64 X,.int .i64 k] w fun r w'=>r=.returned (.tuple #[.float .f32 ((q+1:Int).toNat),.int .i64 0])∧Below w.heap.size w w':=by
 go_enter Tryz.func83,Tryz.ntmps83
 go_wp2_with fail
 refine (H0.out _).mono ?_;rintro r w1 ⟨rfl,hb⟩
 go_wp2_with fail
 refine (H1.out _).mono ?_;rintro r w2 ⟨rfl,rfl⟩
 go_wp2_with fail
 refine (H2.out _).mono ?_;rintro r w2 ⟨rfl,rfl⟩
 go_wp2_with fail
 refine (H3.out _).mono ?_;rintro r w3 ⟨rfl,hb3⟩;obtain ⟨hc,hfz⟩:=bcell hb3;have B3:=(hb.alloc hb.size (.cells #[.bool false,.int .i64 c,.int .i64 x,.int .u64 g] 142)).trans (hb3.mono (by simp;exact Nat.le_succ_of_le hb.size))
 go_wp2_with fail
 refine (H4.out _).mono ?_;rintro r w2 ⟨rfl,rfl⟩
 go_wp2_with fail
 go_ret2
 exact ⟨rfl,B3⟩
theorem nar_fin_tf (X A:Nat) (k:Int) (k0:0≤k) (k4:k≤4) (c x g q y:Int) (c4:(c==4)=false) (c0:(c==0)=false) (c3:(c==3)=false) (q0:0≤q) (q1:q≤2139095039) (H0:Hid (∀ w,Calls Tryz.prog 125 #[.float .f64 X] w fun r w'=>r=.returned (.agg #[.bool true,.int .i64 c,.int .i64 x,.int .u64 g])∧Below w.heap.size w w')) (H1:Hid (∀ w,Calls Tryz.prog 126 #[.float .f64 X] w fun r w'=>r=.returned (.float .f64 A)∧w'=w)) (H2:Hid (∀ w,Calls Tryz.prog 127 #[.float .f64 A] w fun r w'=>r=.returned (.int .u32 q)∧w'=w)) (H3:Hid (∀ w,Calls Tryz.prog 129 #[.int .i64 k,.bool true] w fun r w'=>r=.returned (.int .i64 y)∧Below w.heap.size w w')) (H4:Hid (∀ w,Calls Tryz.prog 128 #[.float .f64 A,.int .u32 q,.int .i64 y] w fun r w'=>r=.returned (.bool false)∧w'=w)) (w:World) :
 Calls Tryz.prog 83 #[.float .f64 X,.int .i64 k] w fun r w'=>r=.returned (.tuple #[.float .f32 ((q+2147483648:Int).toNat),.int .i64 0])∧Below w.heap.size w w':=by
 have hor:=or_sign32 (q) (by omega) (by omega)
 go_enter Tryz.func83,Tryz.ntmps83
 go_wp2_with fail
 refine (H0.out _).mono ?_;rintro r w1 ⟨rfl,hb⟩
 go_wp2_with fail
 refine (H1.out _).mono ?_;rintro r w2 ⟨rfl,rfl⟩
 go_wp2_with fail
 refine (H2.out _).mono ?_;rintro r w2 ⟨rfl,rfl⟩
 go_wp2_with fail
 refine (H3.out _).mono ?_;rintro r w3 ⟨rfl,hb3⟩;obtain ⟨hc,hfz⟩:=bcell hb3;have B3:=(hb.alloc hb.size (.cells #[.bool true,.int .i64 c,.int .i64 x,.int .u64 g] 142)).trans (hb3.mono (by simp;exact Nat.le_succ_of_le hb.size))
 go_wp2_with fail
 refine (H4.out _).mono ?_;rintro r w2 ⟨rfl,rfl⟩
 go_wp2_with fail
 go_ret2
 exact ⟨rfl,B3⟩
theorem nar_fin_tt (X A:Nat) (k:Int) (k0:0≤k) (k4:k≤4) (c x g q y:Int) (c4:(c==4)=false) (c0:(c==0)=false) (c3:(c==3)=false) (q0:0≤q) (q1:q≤2139095039) (H0:Hid (∀ w,Calls Tryz.prog 125 #[.float .f64 X] w fun r w'=>r=.returned (.agg #[.bool true,.int .i64 c,.int .i64 x,.int .u64 g])∧Below w.heap.size w w')) (H1:Hid (∀ w,Calls Tryz.prog 126 #[.float .f64 X] w fun r w'=>r=.returned (.float .f64 A)∧w'=w)) (H2:Hid (∀ w,Calls Tryz.prog 127 #[.float .f64 A] w fun r w'=>r=.returned (.int .u32 q)∧w'=w)) (H3:Hid (∀ w,Calls Tryz.prog 129 #[.int .i64 k,.bool true] w fun r w'=>r=.returned (.int .i64 y)∧Below w.heap.size w w')) (H4:Hid (∀ w,Calls Tryz.prog 128 #[.float .f64 A,.int .u32 q,.int .i64 y] w fun r w'=>r=.returned (.bool true)∧w'=w)) (w:World) :
 Calls Tryz.prog 83 #[.float .f64 X,.int .i64 k] w fun r w'=>r=.returned (.tuple #[.float .f32 ((q+1+2147483648:Int).toNat),.int .i64 0])∧Below w.heap.size w w':=by
 have hor:=or_sign32 (q+1) (by omega) (by omega)
 go_enter Tryz.func83,Tryz.ntmps83
 go_wp2_with fail
 refine (H0.out _).mono ?_;rintro r w1 ⟨rfl,hb⟩
 go_wp2_with fail
 refine (H1.out _).mono ?_;rintro r w2 ⟨rfl,rfl⟩
 go_wp2_with fail
 refine (H2.out _).mono ?_;rintro r w2 ⟨rfl,rfl⟩
 go_wp2_with fail
 refine (H3.out _).mono ?_;rintro r w3 ⟨rfl,hb3⟩;obtain ⟨hc,hfz⟩:=bcell hb3;have B3:=(hb.alloc hb.size (.cells #[.bool true,.int .i64 c,.int .i64 x,.int .u64 g] 142)).trans (hb3.mono (by simp;exact Nat.le_succ_of_le hb.size))
 go_wp2_with fail
 refine (H4.out _).mono ?_;rintro r w2 ⟨rfl,rfl⟩
 go_wp2_with fail
 go_ret2
 exact ⟨rfl,B3⟩
end B
namespace B
open Go.RowKit
theorem max32_bw:bw false 1150 4503599090499584=5183643170566569984:=by decide
theorem end32_bw:bw false 1151 0=5183643171103440896:=by decide
theorem pow_29 (p t:Nat) (h:p=t+29):9007198717870080*2^t=16777215*2^p:=by
 subst h;rw [Nat.pow_add,Nat.mul_comm (2^t),←Nat.mul_assoc]
theorem val_max32:val Ieee.double (1150*4503599627370496+4503599090499584)=val Ieee.single 2139095039*2^gp:=by
 obtain ⟨t,ht,hg⟩:∃ t,(1150*4503599627370496+4503599090499584)/4503599627370496-1=t∧2139095039/8388608-1+gp=t+29:=⟨_,rfl,by have:=gp_eq;omega⟩
 unfold val;rw [dBin,sBin,if_neg (by omega),if_neg (by omega),ht,Nat.mul_assoc (8388608+2139095039%8388608),←Nat.pow_add,hg,show 4503599627370496+(1150*4503599627370496+4503599090499584)%4503599627370496=9007198717870080 from by omega,show 8388608+2139095039%8388608=16777215 from by omega]
 exact pow_29 _ _ rfl
theorem pow_half (p t:Nat) (h:t=p+29):4503599627370496*2^p=8388608*2^t:=by
 subst h;rw [Nat.pow_add,Nat.mul_comm (2^p),←Nat.mul_assoc]
theorem val_end32:val Ieee.double (1151*4503599627370496+0)=val Ieee.single 2139095040*2^gp:=by
 obtain ⟨t,ht,hg⟩:∃ t,(1151*4503599627370496+0)/4503599627370496-1=t∧2139095040/8388608-1+gp=t+29:=⟨_,rfl,by have:=gp_eq;omega⟩
 unfold val;rw [dBin,sBin,if_neg (by omega),if_neg (by omega),ht,Nat.mul_assoc (8388608+2139095040%8388608),←Nat.pow_add,hg,show 4503599627370496+(1151*4503599627370496+0)%4503599627370496=4503599627370496 from by omega,show 8388608+2139095040%8388608=8388608 from by omega]
 exact pow_half _ _ rfl
section
variable (e f u v : Nat)
theorem plf:pl false e f=((e*4503599627370496+f:Nat):Int):=by unfold pl sg;simp
theorem gt_val (he:e<2047) (hf:f<4503599627370496) (hu:u<2047) (hv:v<4503599627370496):(FloatKind.f64.format.order (bw false e f) (bw false u v)==some .gt)=decide (val Ieee.double (u*4503599627370496+v)<val Ieee.double (e*4503599627370496+f)):=by
 rw [gt_f64 false false e f u v (by omega) hf (by omega) hv,odd_lt e f he,odd_lt u v hu,plf,plf,Bool.eq_iff_iff]
 have:=@val_lt_iff Ieee.double (u*4503599627370496+v) (e*4503599627370496+f);simp only [Bool.not_false,Bool.true_and,decide_eq_true_eq];omega
theorem eq_val (he:e<2047) (hf:f<4503599627370496) (hu:u<2047) (hv:v<4503599627370496):(FloatKind.f64.format.order (bw false e f) (bw false u v)==some .eq)=decide (val Ieee.double (e*4503599627370496+f)=val Ieee.double (u*4503599627370496+v)):=by
 rw [eq_f64 false false e f u v (by omega) hf (by omega) hv,odd_lt e f he,odd_lt u v hu,plf,plf,Bool.eq_iff_iff]
 have h1:=@val_inj Ieee.double (e*4503599627370496+f) (u*4503599627370496+v);simp only [Bool.not_false,Bool.true_and,decide_eq_true_eq]
 constructor
 · intro h
   have:e*4503599627370496+f=u*4503599627370496+v:=by omega
   rw [this]
 · intro h;have:=h1 h;omega
end
theorem value32_is (r e f:Nat) (hr:r≤2139095040) (he:e<2047) (hf:f<4503599627370496) (hv:val Ieee.double (e*4503599627370496+f)=val Ieee.single r*2^gp) :
 ∀ w,Calls Tryz.prog 160 #[.int .u32 (r:Int)] w fun q w'=>q=.returned (.float .f64 (bw false e f))∧w'=w:=by
 by_cases h:r=2139095040
 · subst h
   have:bw false e f=5183643171103440896:=by
    have:=val_inj Ieee.double (hv.trans val_end32.symm);rw [←end32_bw,bw_word,bw_word,this]
   rw [this];exact val32_end
 · intro w
   refine val32_num r (bw false e f) (beq_eq_false_iff_ne.2 (by omega)) (fun w=>?_) w
   rw [Int.toNat_natCast];refine widen_num _ _ ?_ (fun w=>?_) w
   · have h1:FloatKind.f32.format.order r r=some .eq:=by
      show Ieee.single.order (Ieee.single.word false r) (Ieee.single.word false r)=_
      rw [order_word Ieee.single sHs sHb false false r r (by rw [sInf];omega) (by rw [sInf];omega),Int.compare_eq_eq.2 rfl]
     rw [h1];rfl
   · exact run_convert_float_float w _ _ .f32 .f64 _ _ (by kernel_rfl) Tryz.underlying31 (widen_bits false r e f (by omega) he hf hv)
def Floor (V q:Nat):Prop:=q≤2139095039∧val Ieee.single q*2^gp≤V∧(q=2139095039∨V<val Ieee.single (q+1)*2^gp)
theorem floor_uniq (V p q:Nat) (hp:Floor V p) (hq:Floor V q):p=q:=by
 have key:∀ p q,Floor V p→Floor V q→¬ p<q:=by
  intro p q hp hq h
  rcases hp.2.2 with h1|h1
  · have:=hq.1;omega
  · have h2:=(val_lt_iff Ieee.single).1 (Nat.lt_of_mul_lt_mul_right (Nat.lt_of_le_of_lt hq.2.1 h1))
    omega
 have:=key p q hp hq;have:=key q p hq hp;omega
theorem inner_is (e f:Nat) (he:e<2047) (hf:f<4503599627370496) (h0:0<e*4503599627370496+f) :
 ∃ q,Floor (val Ieee.double (e*4503599627370496+f)) q∧∀ w,Calls Tryz.prog 127 #[.float .f64 (bw false e f)] w fun r w'=>r=.returned (.int .u32 (q:Int))∧w'=w:=by
 have g1:=gt_val e f 1150 4503599090499584 he hf (by omega) (by omega)
 have g2:=eq_val e f 1150 4503599090499584 he hf (by omega) (by omega)
 rw [max32_bw,val_max32] at g1 g2
 by_cases hb:val Ieee.single 2139095039*2^gp≤val Ieee.double (e*4503599627370496+f)
 · refine ⟨2139095039,⟨Nat.le_refl _,hb,Or.inl rfl⟩,fun w=>inner_big _ ?_ w⟩
   rw [g1,g2]
   by_cases c:val Ieee.single 2139095039*2^gp<val Ieee.double (e*4503599627370496+f)
   · rw [decide_eq_true c];rfl
   · rw [decide_eq_false c,decide_eq_true (show val Ieee.double (e*4503599627370496+f)=val Ieee.single 2139095039*2^gp by omega)];rfl
 · have o:(FloatKind.f64.format.order (bw false e f) 5183643170566569984==some .gt || FloatKind.f64.format.order (bw false e f) 5183643170566569984==some .eq)=false:=by
    rw [g1,g2,decide_eq_false (show ¬ val Ieee.single 2139095039*2^gp<val Ieee.double (e*4503599627370496+f) by omega),decide_eq_false (show ¬ val Ieee.double (e*4503599627370496+f)=val Ieee.single 2139095039*2^gp by omega)];rfl
   obtain ⟨R,hR,hcv,h1,h2⟩:=narrow_bits (e*4503599627370496+f) h0 (by omega) (by omega)
   rw [←bw_word] at hcv;obtain ⟨eL,fL,heL,hfL,hvL⟩:=up_exists R (by omega)
   have cv:∀ w,(convert 31 39 (.float .f64 (bw false e f))).run Tryz.prog w=.ok (.float .f32 R) w:=fun w=>run_convert_float_float w _ _ .f64 .f32 _ _ (by kernel_rfl) Tryz.underlying39 hcv
   have HL:=value32_is R eL fL (by omega) heL hfL hvL
   have g3:=gt_val eL fL e f heL hfL he hf;rw [hvL] at g3
   by_cases c:val Ieee.single R*2^gp≤val Ieee.double (e*4503599627370496+f)
   · rw [decide_eq_false (by omega)] at g3
     exact ⟨R,⟨hR,c,Or.inr (h1 c)⟩,fun w=>inner_at _ R _ o hR cv HL g3 w⟩
   · rw [decide_eq_true (by omega)] at g3
     obtain ⟨c1,c2⟩:=h2 (by omega)
     refine ⟨R-1,⟨by omega,by omega,Or.inr ?_⟩,fun w=>inner_below _ R _ o hR cv HL c1 (R-1) (show R-1+1=R by omega) g3 w⟩
     rw [show R-1+1=R by omega];omega
def tkS (V LO HI q:Nat) (way:Int):Bool :=
 if V=LO then false else if way=1 then true else if way=2 then decide (LO+HI<2*V) || (decide (2*V=LO+HI)&&q%2==1) else if way=3 then decide (LO+HI≤2*V) else false
theorem middle_is (q:Nat) (hq:q≤2139095039) (e0 f0 e1 f1:Nat) (he0:e0<2047) (hf0:f0<4503599627370496) (he1:e1<2047) (hf1:f1<4503599627370496)
 (h0:val Ieee.double (e0*4503599627370496+f0)=val Ieee.single q*2^gp) (h1:val Ieee.double (e1*4503599627370496+f1)=val Ieee.single (q+1)*2^gp) :
 ∃ D Hf em fm,em<2047∧fm<4503599627370496∧2*val Ieee.double (em*4503599627370496+fm)=val Ieee.single q*2^gp+val Ieee.single (q+1)*2^gp ∧
   floatBits .sub .f64 (bw false e1 f1) (bw false e0 f0)=some D∧floatBits .quo .f64 D 4611686018427387904=some Hf∧floatBits .add .f64 (bw false e0 f0) Hf=some (bw false em fm):=by
 have hs:=val_succ Ieee.single q;rw [sBin] at hs
 -- the step,by its power
 obtain ⟨t,ht⟩:∃ t,q/8388608-1+gp=t+1:=⟨q/8388608-1+gp-1,by have:=gp_eq;omega⟩
 have hstep:val Ieee.single (q+1)*2^gp=val Ieee.single q*2^gp+2*2^t:=by
  rw [hs,Nat.add_mul,←Nat.pow_add,ht,Nat.pow_succ,Nat.mul_comm (2^t)]
 obtain ⟨c,hc,hcv⟩:∃ c,c<16777216∧val Ieee.single q*2^gp=c*(2*2^t):=by
  unfold val;rw [sBin]
  by_cases h:q<8388608
  · rw [if_pos h]
    refine ⟨q,by omega,?_⟩
    have:gp=t+1:=by have:=Nat.div_eq_of_lt h;omega
    rw [this,Nat.pow_succ,Nat.mul_comm (2^t)]
  · rw [if_neg h]
    refine ⟨8388608+q%8388608,by omega,?_⟩
    rw [Nat.mul_assoc,←Nat.pow_add,ht,Nat.pow_succ,Nat.mul_comm (2^t)]
 have htb:t+1≤2045:=by have:=gp_eq;omega
 have hp:0<2^t:=Nat.two_pow_pos _;obtain ⟨ed,fd,hed,hfd,hvd⟩:=mk_exists (t+1) 1 (by omega) htb
 obtain ⟨eh,fh,heh,hfh,hvh⟩:=mk_exists t 1 (by omega) (by omega)
 obtain ⟨em,fm,hem,hfm,hvm⟩:=mk_exists t (2*c+1) (by omega) (by omega)
 rw [Nat.one_mul] at hvd hvh;rw [Nat.pow_succ,Nat.mul_comm (2^t) 2] at hvd;have hm2:(2*c+1)*2^t=c*(2*2^t)+2^t:=by rw [Nat.add_mul,Nat.one_mul,Nat.mul_comm 2 c,Nat.mul_assoc]
 rw [hm2] at hvm;refine ⟨bw false ed fd,bw false eh fh,em,fm,hem,hfm,?_,?_,?_,?_⟩
 · rw [hvm,hstep,hcv];omega
 · show Ieee.double.sub _ _=_
   rw [bw_word,bw_word,bw_word]
   have hsum:sg false (val Ieee.double (e1*4503599627370496+f1))+sg (!false) (val Ieee.double (e0*4503599627370496+f0))=((2*2^t:Nat):Int):=by
    unfold sg;simp only [Bool.not_false,if_true,Bool.false_eq_true,if_false];rw [h1,h0,hstep];omega
   have hnz:ed*4503599627370496+fd≠0:=by
    intro h;rw [h,val_zero] at hvd;omega
   have:=sub_exact Ieee.double dHs false false (e1*4503599627370496+f1) (e0*4503599627370496+f0) (ed*4503599627370496+fd) (by rw [dInf];omega) (by rw [dInf];omega) (by rw [dInf];omega) (by rw [hsum,hvd,Int.natAbs_natCast])
   rw [this,if_neg hnz,hsum,decide_eq_false (by omega)]
 · show Ieee.double.div _ _=_
   rw [bw_word,bw_word];exact div_two _ _ (by omega) (by omega) (by rw [hvd,hvh]) (by rw [hvh];exact hp)
 · show Ieee.double.add _ _=_
   rw [bw_word,bw_word,bw_word]
   have hsum:sg false (val Ieee.double (e0*4503599627370496+f0))+sg false (val Ieee.double (eh*4503599627370496+fh))=((c*(2*2^t)+2^t:Nat):Int):=by
    unfold sg;simp only [Bool.false_eq_true,if_false];rw [h0,hvh,hcv];omega
   have hnz:em*4503599627370496+fm≠0:=by
    intro h;rw [h,val_zero] at hvm;omega
   have:=add_exact Ieee.double dHs false false (e0*4503599627370496+f0) (eh*4503599627370496+fh) (em*4503599627370496+fm) (by rw [dInf];omega) (by rw [dInf];omega) (by rw [dInf];omega) (by rw [hsum,hvm,Int.natAbs_natCast])
   rw [this,if_neg hnz,hsum,decide_eq_false (by omega)]
end B
namespace B
open Go.RowKit
theorem takes_core (X L B D Hf Md q:Nat) (hq:q≤2139095039) (y:Int) (hy:y=0∨y=1∨y=2∨y=3) (V M LO HI:Nat)
 (H1:∀ w,Calls Tryz.prog 160 #[.int .u32 (q:Int)] w fun r w'=>r=.returned (.float .f64 L)∧w'=w)
 (H2:∀ w,Calls Tryz.prog 160 #[.int .u32 ((q:Int)+1)] w fun r w'=>r=.returned (.float .f64 B)∧w'=w)
 (o:(FloatKind.f64.format.order X L==some .eq)=decide (V=LO))
 (d1:∀ w,(binOp .sub 31 (.float .f64 B) (.float .f64 L)).run Tryz.prog w=.ok (.float .f64 D) w)
 (d2:∀ w,(binOp .quo 31 (.float .f64 D) (.float .f64 4611686018427387904)).run Tryz.prog w=.ok (.float .f64 Hf) w)
 (d3:∀ w,(binOp .add 31 (.float .f64 L) (.float .f64 Hf)).run Tryz.prog w=.ok (.float .f64 Md) w)
 (m1:(FloatKind.f64.format.order X Md==some .gt)=decide (M<V)) (m2:(FloatKind.f64.format.order X Md==some .eq)=decide (V=M)) (hM:2*M=LO+HI) (w:World) :
 Calls Tryz.prog 128 #[.float .f64 X,.int .u32 (q:Int),.int .i64 y] w fun r w'=>r=.returned (.bool (tkS V LO HI q y))∧w'=w:=by
 unfold tkS
 by_cases hV:V=LO
 · rw [if_pos hV]
   rw [decide_eq_true hV] at o;exact takes_same _ _ q y H1 o w
 · rw [if_neg hV]
   rw [decide_eq_false hV] at o;rw [←hM]
   rcases hy with rfl|rfl|rfl|rfl
   · rw [if_neg (by decide),if_neg (by decide),if_neg (by decide)]
     exact takes_in _ _ _ _ _ _ q (by omega) (by omega) H1 H2 o d1 d2 d3 w
   · rw [if_pos rfl]
     exact takes_out _ _ _ _ _ _ q (by omega) (by omega) H1 H2 o d1 d2 d3 w
   · rw [if_neg (by decide),if_pos rfl]
     by_cases c1:M<V
     · rw [decide_eq_true c1] at m1
       rw [decide_eq_true (show 2*M<2*V by omega),Bool.true_or]
       exact takes_even_gt _ _ _ _ _ _ q (by omega) (by omega) H1 H2 o d1 d2 d3 m1 w
     · rw [decide_eq_false c1] at m1
       rw [decide_eq_false (show ¬ 2*M<2*V by omega),Bool.false_or]
       by_cases c2:V=M
       · rw [decide_eq_true c2] at m2
         rw [decide_eq_true (show 2*V=2*M by omega),Bool.true_and]
         refine takes_even_eq _ _ _ _ _ _ q (by omega) (by omega) H1 H2 o d1 d2 d3 _ m1 m2 ?_ w
         rw [and_one32 q (by omega) (by omega),Bool.eq_iff_iff]
         simp;omega
       · rw [decide_eq_false c2] at m2
         rw [decide_eq_false (show ¬ 2*V=2*M by omega),Bool.false_and]
         exact takes_even_lt _ _ _ _ _ _ q (by omega) (by omega) H1 H2 o d1 d2 d3 m1 m2 w
   · rw [if_neg (by decide),if_neg (by decide),if_pos rfl]
     refine takes_away _ _ _ _ _ _ q (by omega) (by omega) H1 H2 o d1 d2 d3 _ ?_ w
     rw [m1,m2,Bool.eq_iff_iff];simp;omega
theorem takes_is (e f q:Nat) (he:e<2047) (hf:f<4503599627370496) (hq:q≤2139095039) (y:Int) (hy:y=0∨y=1∨y=2∨y=3) :
 ∀ w,Calls Tryz.prog 128 #[.float .f64 (bw false e f),.int .u32 (q:Int),.int .i64 y] w fun r w'=>r=.returned (.bool (tkS (val Ieee.double (e*4503599627370496+f)) (val Ieee.single q*2^gp) (val Ieee.single (q+1)*2^gp) q y))∧w'=w:=by
 intro w;obtain ⟨e0,f0,he0,hf0,h0⟩:=up_exists q (by omega)
 obtain ⟨e1,f1,he1,hf1,h1⟩:=up_exists (q+1) (by omega)
 have H1:=value32_is q e0 f0 (by omega) he0 hf0 h0
 have H2:=value32_is (q+1) e1 f1 (by omega) he1 hf1 h1
 rw [show ((q+1:Nat):Int)=(q:Int)+1 from by omega] at H2
 have o:=eq_val e f e0 f0 he hf he0 hf0;rw [h0] at o;obtain ⟨D,Hf,em,fm,hem,hfm,hM,s1,s2,s3⟩:=middle_is q hq e0 f0 e1 f1 he0 hf0 he1 hf1 h0 h1;exact takes_core _ _ _ D Hf (bw false em fm) q hq y hy _ _ _ _ H1 H2 o (fun w=>run_float_arith w .sub _ .f64 _ _ _ s1) (fun w=>run_float_arith w .quo _ .f64 _ _ _ s2) (fun w=>run_float_arith w .add _ .f64 _ _ _ s3) (gt_val e f em fm he hf hem hfm) (eq_val e f em fm he hf hem hfm) hM w
def wayS (k:Int) (s:Bool):Int:=if k=0 then 2 else if k=1 then 0 else if k=2 then (if s then 0 else 1) else if k=3 then (if s then 1 else 0) else 3
theorem taken_is (k:Int) (s:Bool) (k0:0≤k) (k4:k≤4):∀ w,Calls Tryz.prog 129 #[.int .i64 k,.bool s] w fun r w'=>r=.returned (.int .i64 (wayS k s))∧Below w.heap.size w w':=by
 have h:k=0∨k=1∨k=2∨k=3∨k=4:=by omega
 rcases h with rfl|rfl|rfl|rfl|rfl <;> cases s
 · exact taken_0p
 · exact taken_0n
 · exact taken_1p
 · exact taken_1n
 · exact taken_2p
 · exact taken_2n
 · exact taken_3p
 · exact taken_3n
 · exact taken_4p
 · exact taken_4n
theorem wayS_in (k:Int) (s:Bool):wayS k s=0∨wayS k s=1∨wayS k s=2∨wayS k s=3:=by
 unfold wayS;split
 · simp
 · split
   · simp
   · split
     · cases s <;> simp
     · split
       · cases s <;> simp
       · simp
def nr (V q:Nat) (k:Int) (s:Bool):Nat:=q+(tkS V (val Ieee.single q*2^gp) (val Ieee.single (q+1)*2^gp) q (wayS k s)).toNat
theorem narrow_fin (s:Bool) (e f q:Nat) (k:Int) (he:e<2047) (hf:f<4503599627370496) (h0:0<e*4503599627370496+f) (k0:0≤k) (k4:k≤4)
 (hq:Floor (val Ieee.double (e*4503599627370496+f)) q) :
 ∀ w,Calls Tryz.prog 83 #[.float .f64 (bw s e f),.int .i64 k] w fun r w'=>r=.returned (.tuple #[.float .f32 (Ieee.single.word s (nr (val Ieee.double (e*4503599627370496+f)) q k s)),.int .i64 0])∧Below w.heap.size w w':=by
 intro w;obtain ⟨q',hq',H2⟩:=inner_is e f he hf h0;have:q'=q:=floor_uniq _ _ _ hq' hq;subst this;have hqb:=hq.1
 have H0:∀ w,Calls Tryz.prog 125 #[.float .f64 (bw s e f)] w fun r w'=>r=.returned (.agg #[.bool s,.int .i64 (cls e f),.int .i64 (xp e),.int .u64 (fr e f)])∧Below w.heap.size w w':=by
  have h:=Split_any s e f (by omega) hf
  have hn:ng s e f=s:=if_neg (by omega)
  rwa [hn] at h
 have hc:(cls e f==4)=false∧(cls e f==0)=false∧(cls e f==3)=false:=by
  unfold cls;rw [if_neg (by omega)]
  by_cases h:e=0
  · rw [if_pos h,if_neg (by omega)];exact ⟨rfl,rfl,rfl⟩
  · rw [if_neg h];exact ⟨rfl,rfl,rfl⟩
 have H1:=abs_any s e f (by omega) hf
 have H3:=taken_is k s k0 k4;have H4:=takes_is e f q' he hf hqb (wayS k s) (wayS_in k s);unfold nr
 cases ht:tkS (val Ieee.double (e*4503599627370496+f)) (val Ieee.single q'*2^gp) (val Ieee.single (q'+1)*2^gp) q' (wayS k s)
 · rw [ht] at H4
   have hw:Ieee.single.word s (q'+Bool.false.toNat)=(if s then (q':Int)+2147483648 else (q':Int)).toNat:=by
    unfold Ieee.Format.word;rw [sSign];cases s <;> simp <;> omega
   rw [hw]
   cases s
   · exact nar_fin_ff _ _ k k0 k4 _ _ _ _ _ hc.1 hc.2.1 hc.2.2 (by omega) (by omega) H0 H1 H2 H3 H4 w
   · exact nar_fin_tf _ _ k k0 k4 _ _ _ _ _ hc.1 hc.2.1 hc.2.2 (by omega) (by omega) H0 H1 H2 H3 H4 w
 · rw [ht] at H4
   have hw:Ieee.single.word s (q'+Bool.true.toNat)=(if s then (q':Int)+1+2147483648 else (q':Int)+1).toNat:=by
    unfold Ieee.Format.word;rw [sSign];cases s <;> simp <;> omega
   rw [hw]
   cases s
   · exact nar_fin_ft _ _ k k0 k4 _ _ _ _ _ hc.1 hc.2.1 hc.2.2 (by omega) (by omega) H0 H1 H2 H3 H4 w
   · exact nar_fin_tt _ _ k k0 k4 _ _ _ _ _ hc.1 hc.2.1 hc.2.2 (by omega) (by omega) H0 H1 H2 H3 H4 w
theorem narrow_zero (s:Bool) (k:Int) (k0:0≤k) (k4:k≤4) :
 ∀ w,Calls Tryz.prog 83 #[.float .f64 (bw s 0 0),.int .i64 k] w fun r w'=>r=.returned (.tuple #[.float .f32 (Ieee.single.word s 0),.int .i64 0])∧Below w.heap.size w w':=by
 have h:∀ w,Calls Tryz.prog 125 #[.float .f64 (bw s 0 0)] w fun r w'=>r=.returned (.agg #[.bool s,.int .i64 0,.int .i64 (-1074),.int .u64 0])∧Below w.heap.size w w':=by
  intro w;rw [←splitV_nought s 0 0 rfl (by simp)];exact Split_any s 0 0 (by omega) (by omega) w
 have cv:floatToFloatBits .f64 (bw s 0 0) .f32=some (Ieee.single.word s 0):=by cases s <;> decide
 exact nar_zero _ _ k k0 k4 s _ _ h (fun w=>run_convert_float_float w _ _ .f64 .f32 _ _ (by kernel_rfl) Tryz.underlying39 cv)
end B
namespace S
open Go.RowKit
theorem vs_lt {q r:Nat}(h:q<r):B.val Ieee.single q*2^B.gp<B.val Ieee.single r*2^B.gp:=Nat.mul_lt_mul_of_pos_right ((B.val_lt_iff Ieee.single).2 h) (Nat.two_pow_pos _)
theorem word32 (s:Bool) (K:Nat):Ieee.single.word s K=K+(if s then 2147483648 else 0):=by
 unfold Ieee.Format.word;rw [B.sSign];cases s <;> simp <;> omega
theorem GP_gp:GP=B.gp:=by decide
theorem narrow_exact (s:Bool) (W K:Nat) (hW:W<9218868437227405312) (hK:K≤2139095040) (hv:B.val Ieee.double W=B.val Ieee.single K*2^GP) (w:World) :
 Calls Tryz.prog 83 #[.float .f64 (W+(if s then 9223372036854775808 else 0)),.int .i64 0] w fun r w'=>r=.returned (.tuple #[.float .f32 (K+(if s then 2147483648 else 0)),.int .i64 0])∧Below w.heap.size w w':=by
 rw [←word32];obtain ⟨e,he⟩:∃ e,W/4503599627370496=e:=⟨_,rfl⟩;obtain ⟨f,hf⟩:∃ f,W%4503599627370496=f:=⟨_,rfl⟩;have hw:W=e*4503599627370496+f:=by omega
 have hb:W+(if s then 9223372036854775808 else 0)=B.bw s e f:=by
  unfold B.bw
  cases s <;> simp <;> omega
 rw [hb];have hv2:B.val Ieee.double (e*4503599627370496+f)=B.val Ieee.single K*2^B.gp:=by rw [←hw,hv,GP_gp]
 by_cases h0:W=0
 · have hK0:K=0:=by
    by_cases h:K=0
    · exact h
    · exfalso
      have:=vs_lt (q:=0) (r:=K) (by omega)
      rw [←hv2,←hw,h0,B.val_zero Ieee.double,B.val_zero Ieee.single,Nat.zero_mul] at this;exact Nat.lt_irrefl _ this
   subst hK0;obtain rfl:e=0:=by omega
   obtain rfl:f=0:=by omega
   exact B.narrow_zero s 0 (by omega) (by omega) w
 · have hK0:K≠0:=by
    intro h;have:B.val Ieee.double 0<B.val Ieee.double W:=(B.val_lt_iff Ieee.double).2 (by omega)
    rw [hw,hv2,h,B.val_zero Ieee.double,B.val_zero Ieee.single,Nat.zero_mul] at this;exact Nat.lt_irrefl _ this
   by_cases hi:K=2139095040
   · have hlt:=vs_lt (q:=2139095039) (r:=K) (by omega)
     have F:B.Floor (B.val Ieee.double (e*4503599627370496+f)) 2139095039:=⟨Nat.le_refl _,by rw [hv2];exact Nat.le_of_lt hlt,.inl rfl⟩
     have h:=B.narrow_fin s e f 2139095039 0 (by omega) (by omega) (by omega) (by omega) (by omega) F w
     have hn:B.nr (B.val Ieee.double (e*4503599627370496+f)) 2139095039 0 s=K:=by
      unfold B.nr B.tkS;rw [hv2,show (2139095039+1:Nat)=K by omega]
      have hway:B.wayS 0 s=2:=by unfold B.wayS;rw [if_pos rfl]
      rw [hway,if_neg (Nat.ne_of_gt hlt),if_neg (by decide),if_pos rfl,decide_eq_true (by omega),Bool.true_or]
      simp only [Bool.toNat_true];omega
     rw [hn] at h;exact h
   · have F:B.Floor (B.val Ieee.double (e*4503599627370496+f)) K:=⟨by omega,by rw [hv2];exact Nat.le_refl _,.inr (by rw [hv2];exact vs_lt (by omega))⟩
     have h:=B.narrow_fin s e f K 0 (by omega) (by omega) (by omega) (by omega) (by omega) F w
     have hn:B.nr (B.val Ieee.double (e*4503599627370496+f)) K 0 s=K:=by
      unfold B.nr B.tkS;rw [if_pos hv2];rfl
     rw [hn] at h;exact h
end S
section
open Go.RowKit
def Zk (w:World) (g:Nat) (dg ls En:Int):Prop:=w.heap[g]?=some (.cells #[.int .i64 dg,.int .i64 ls,.int .u64 En] 73 (0,0))
theorem Zk.lt {w:World}{g:Nat}{dg ls En:Int}(h:Zk w g dg ls En):g<w.heap.size:=(Array.getElem?_eq_some_iff.1 h).1
theorem Zk.below {w w':World}{g:Nat}{dg ls En:Int}(h:Zk w g dg ls En) (hb:Below w.heap.size w w'):Zk w' g dg ls En:=by
 unfold Zk;rw [hb.block g h.lt];exact h
theorem Zk.facts {w:World}{g:Nat}{dg ls En:Int}(h:Zk w g dg ls En):w.cell? ⟨g,0,none⟩=some (.int .i64 dg)∧w.cell? ⟨g,1,none⟩=some (.int .i64 ls)∧w.cell? ⟨g,2,none⟩=some (.int .u64 En):=by
 unfold Zk at h;simp [World.cell?,h]
end
section
open Go.RowKit
theorem rSign_any3 {w:World}{a:Option Addr}{n c:Nat}{xs:List Nat}(h1:Arg w a n c xs) (ng:Bool) (e:Int) :
 Calls Tryz.prog 98 #[.agg #[.bool ng,.slice a n c,.int .i64 e]] w fun r w'=>r=.returned (.int .i64 (sgn ng (val xs)))∧Below w.heap.size w w':=by
 have hB:Below w.heap.size w (w.alloc (.cells #[.bool ng,.slice a n c,.int .i64 e] 27)):=below_alloc w _;have A1:=h1.below hB;have hbig:=h1.big;have H1:=hid (rLen_any xs a n c _ _ A1.len (by omega) A1.wf A1.rd)
 obtain ⟨X,hX⟩:∃ X,val xs=X:=⟨_,rfl⟩;rw [hX] at H1 ⊢;have SB:=sd hB;clear hB A1 h1 hX hbig;unfold sgn
 by_cases h0:X=0
 · rw [if_pos h0]
   have hb:bl X=0:=by rw [h0,bl_zero]
   rw [hb] at H1;clear h0 hb;go_enter Tryz.func98,Tryz.ntmps98
   go_wp2_with fail
   refine H1.out.mono ?_;rintro r w1 ⟨rfl,rfl⟩;go_wp2;go_ret;exact ⟨rfl,SB.out⟩
 · rw [if_neg h0]
   obtain ⟨b,hb⟩:∃ b,bl X=b:=⟨_,rfl⟩;have hb0:((b:Int)==0)=false:=by have:=bl_pos X h0;simp;omega
   rw [hb] at H1;clear h0 hb
   cases ng
   · simp only [Bool.false_eq_true,if_false]
     go_enter Tryz.func98,Tryz.ntmps98
     go_wp2_with fail
     refine H1.out.mono ?_;rintro r w1 ⟨rfl,rfl⟩;go_wp2;go_ret;exact ⟨rfl,SB.out⟩
   · simp only [if_true]
     go_enter Tryz.func98,Tryz.ntmps98
     go_wp2_with fail
     refine H1.out.mono ?_;rintro r w1 ⟨rfl,rfl⟩;go_wp2;go_ret;exact ⟨rfl,SB.out⟩
theorem moved_raw {w:World}{a:Option Addr}{l c:Nat}{xs:List Nat}{X:Nat}(k:Nat) (h1:Arg w a l c xs) (hX:val xs=X) (hl:l≤2000000) (hk:k≤64000000) :
 Calls Tryz.prog 107 #[.slice a l c,.int .i64 (k:Nat)] w fun r w'=>∃ v,r=.returned v∧Nt w.heap.size w' v (X*2^k)∧Below w.heap.size w w':=by
 obtain ⟨q,hq⟩:∃ q,q=k/32:=⟨_,rfl⟩;obtain ⟨s,hs⟩:∃ s,s=k%32:=⟨_,rfl⟩;have e1:(k:Int)/32=(q:Int):=by omega
 have e2:(k:Int)%32=(s:Int):=by omega
 have hqb:q≤2000000:=by omega
 have hs32:s<32:=by omega
 obtain ⟨W1,hW1⟩:∃ W,W=w.alloc (.cells (madeCells #[.int .u32 0] q) 23):=⟨_,rfl⟩;have hO1:Own W1 w.heap.size (List.replicate q 0):=by rw [hW1];exact Own.made w q
 have hB1:Below w.heap.size w W1:=by rw [hW1];exact (Below.refl _ _).alloc (Nat.le_refl _) _
 have hmk:=make_words (q:Int) q rfl (by omega) w
 rw [←hW1] at hmk;have hR:=own_row_made hO1 (by simp;omega)
 simp only [List.length_replicate] at hR;have A1:=h1.below hB1;obtain ⟨v',w2,hap,hown,hgrow⟩:=append_words W1 w.heap.size _ q (List.replicate q 0) xs a l c W1.heap.size 25 hR A1.len A1.rd A1.nil (by omega) hB1.size
 have hB2:Below w.heap.size w w2:=hB1.grown hgrow hB1.size (fun k hk=>by simp [Value.ownBlock] at hk;omega)
 obtain ⟨a2,c2,rfl,hc2,hl2,hnil2,hRd2⟩:=Rw.words hown;have AO:Arg w2 a2 (q+l) c2 (List.replicate q 0++xs):=⟨hl2,hc2,by omega,(Wf.zeros q).append h1.wf,hRd2,hnil2⟩
 have hval:val (List.replicate q 0++xs)=X*pw q:=by
  rw [val_append,val_zeros,hX,List.length_replicate,Nat.zero_add,Nat.mul_comm]
 have hpw:pw q*2^s=2^k:=by
  have:pw q=2^(32*q):=by unfold pw;rw [Nat.pow_mul]
  rw [this,←Nat.pow_add]
  congr 1
  omega
 have hps:=pow_small s hs32;obtain ⟨p,hp⟩:∃ p,p=2^s:=⟨_,rfl⟩
 have e3:(2:Int)^s=(p:Int):=by
  have h5:((2^s:Nat):Int)=(2:Int)^s:=by simp
  rw [←h5,←hp]
 have hpl:p<4294967296:=by omega
 have T1:=hid (rTimes_arg (V:=X*2^k) (AO.below (below_alloc w2 _)) (lit_arg w2 p (by omega)) (by omega) (by rw [hval];simp only [val];rw [←hpw,hp,Nat.mul_assoc];simp))
 have HAP:=hid hap;have hs2:=hB2.size;have S1:=sd hB2;clear hap hown hgrow hB2 hl2 hnil2 hRd2 AO hval hpw A1 hR hO1 hB1 h1 hW1 hq hs hps hp hX;go_enter Tryz.func107,Tryz.ntmps107
 go_wp2_with (at_builtin;refine wpList_append_run2 rfl (.tmp 39) (.tmp 40) 25 rfl _ _ rfl rfl _ _ HAP.out ?_)
 refine T1.out.mono ?_;rintro r u3 ⟨v3,rfl,hN3,hb3⟩;have S2:=(sd (ai hN3 hb3));clear hN3 hb3;go_wp2;go_ret;obtain ⟨hN3,hb3⟩:=S2.out;exact ⟨v3,rfl,hN3.mono (by simp;omega),S1.out.trans (((below_alloc w2 _).trans (hb3.mono (by simp))).mono hs2)⟩
theorem ag_zero1 {w:World}{a b:Option Addr}{n c m d:Nat}(e f:Int) (x y:Nat) (bx:x≤1125899906842624) (by':y≤1125899906842624) (hx:x=0) (z:Int)
 (H1:Hid (Calls Tryz.prog 39 #[.slice a n c] w fun r w'=>r=.returned (.int .i64 (x:Nat))∧w'=w))
 (H2:Hid (Calls Tryz.prog 39 #[.slice b m d] w fun r w'=>r=.returned (.int .i64 (y:Nat))∧w'=w))
 (HC:Hid (Calls Tryz.prog 143 #[.slice a n c,.slice b m d] w fun r w'=>r=.returned (.int .i64 z)∧Below w.heap.size w w')):Calls Tryz.prog 103 #[.slice a n c,.int .i64 e,.slice b m d,.int .i64 f] w fun r w'=>r=.returned (.int .i64 z)∧Below w.heap.size w w':=by
 have ex:IntKind.u64.wrap (x:Int)=(x:Int):=by rw [IntKind.wrap_u64];omega
 have ey:IntKind.u64.wrap (y:Int)=(y:Int):=by rw [IntKind.wrap_u64];omega
 subst hx;go_enter Tryz.func103,Tryz.ntmps103
 go_wp2_with fail
 refine H1.out.mono ?_;rintro r ww ⟨rfl,hw⟩;rw [hw];clear hw ww
 go_wp2_with fail
 refine H2.out.mono ?_;rintro r ww ⟨rfl,hw⟩;rw [hw];clear hw ww
 go_wp2_with fail
 refine HC.out.mono ?_;rintro r u1 ⟨rfl,hb⟩;have S1:=sd hb;clear hb;go_wp2;go_ret;exact ⟨rfl,S1.out⟩
theorem ag_zero2 {w:World}{a b:Option Addr}{n c m d:Nat}(e f:Int) (x y:Nat) (bx:x≤1125899906842624) (by':y≤1125899906842624) (hx:((x:Int)==0)=false) (hy:y=0) (z:Int)
 (H1:Hid (Calls Tryz.prog 39 #[.slice a n c] w fun r w'=>r=.returned (.int .i64 (x:Nat))∧w'=w))
 (H2:Hid (Calls Tryz.prog 39 #[.slice b m d] w fun r w'=>r=.returned (.int .i64 (y:Nat))∧w'=w))
 (HC:Hid (Calls Tryz.prog 143 #[.slice a n c,.slice b m d] w fun r w'=>r=.returned (.int .i64 z)∧Below w.heap.size w w')):Calls Tryz.prog 103 #[.slice a n c,.int .i64 e,.slice b m d,.int .i64 f] w fun r w'=>r=.returned (.int .i64 z)∧Below w.heap.size w w':=by
 have ex:IntKind.u64.wrap (x:Int)=(x:Int):=by rw [IntKind.wrap_u64];omega
 have ey:IntKind.u64.wrap (y:Int)=(y:Int):=by rw [IntKind.wrap_u64];omega
 subst hy;go_enter Tryz.func103,Tryz.ntmps103
 go_wp2_with fail
 refine H1.out.mono ?_;rintro r ww ⟨rfl,hw⟩;rw [hw];clear hw ww
 go_wp2_with fail
 refine H2.out.mono ?_;rintro r ww ⟨rfl,hw⟩;rw [hw];clear hw ww
 go_wp2_with fail
 refine HC.out.mono ?_;rintro r u1 ⟨rfl,hb⟩;have S1:=sd hb;clear hb;go_wp2;go_ret;exact ⟨rfl,S1.out⟩
theorem ag_turn {w:World}{a b:Option Addr}{n c m d:Nat}(e f:Int) (x y:Nat) (bx:x≤1125899906842624) (by':y≤1125899906842624) (hx:((x:Int)==0)=false) (hy:((y:Int)==0)=false) (hlt:e<f) (z:Int) (hz0:-1≤z) (hz1:z≤1)
 (H1:Hid (Calls Tryz.prog 39 #[.slice a n c] w fun r w'=>r=.returned (.int .i64 (x:Nat))∧w'=w))
 (H2:Hid (Calls Tryz.prog 39 #[.slice b m d] w fun r w'=>r=.returned (.int .i64 (y:Nat))∧w'=w))
 (HR:Hid (Calls Tryz.prog 103 #[.slice b m d,.int .i64 f,.slice a n c,.int .i64 e] w fun r w'=>r=.returned (.int .i64 z)∧Below w.heap.size w w')):Calls Tryz.prog 103 #[.slice a n c,.int .i64 e,.slice b m d,.int .i64 f] w fun r w'=>r=.returned (.int .i64 (-z))∧Below w.heap.size w w':=by
 have ex:IntKind.u64.wrap (x:Int)=(x:Int):=by rw [IntKind.wrap_u64];omega
 have ey:IntKind.u64.wrap (y:Int)=(y:Int):=by rw [IntKind.wrap_u64];omega
 go_enter Tryz.func103,Tryz.ntmps103
 go_wp2_with fail
 refine H1.out.mono ?_;rintro r ww ⟨rfl,hw⟩;rw [hw];clear hw ww
 go_wp2_with fail
 refine H2.out.mono ?_;rintro r ww ⟨rfl,hw⟩;rw [hw];clear hw ww
 go_wp2_with fail
 refine HR.out.mono ?_;rintro r u1 ⟨rfl,hb⟩;have S1:=sd hb;clear hb;go_wp2;go_ret;exact ⟨rfl,S1.out⟩
theorem ag_far {w:World}{a b:Option Addr}{n c m d:Nat}(e f:Int) (x y:Nat) (bx:x≤1125899906842624) (by':y≤1125899906842624) (hx:((x:Int)==0)=false) (hy:((y:Int)==0)=false) (hge:decide (e<f)=false) (dd:Nat) (hap:IntKind.u64.wrap (IntKind.u64.wrap e-IntKind.u64.wrap f)=(dd:Int)) (hd:1099511627776<dd)
 (H1:Hid (Calls Tryz.prog 39 #[.slice a n c] w fun r w'=>r=.returned (.int .i64 (x:Nat))∧w'=w))
 (H2:Hid (Calls Tryz.prog 39 #[.slice b m d] w fun r w'=>r=.returned (.int .i64 (y:Nat))∧w'=w)):Calls Tryz.prog 103 #[.slice a n c,.int .i64 e,.slice b m d,.int .i64 f] w fun r w'=>r=.returned (.int .i64 1)∧Below w.heap.size w w':=by
 have hd2:(1099511627776:Int)<(dd:Int):=by omega
 have ex:IntKind.u64.wrap (x:Int)=(x:Int):=by rw [IntKind.wrap_u64];omega
 have ey:IntKind.u64.wrap (y:Int)=(y:Int):=by rw [IntKind.wrap_u64];omega
 go_enter Tryz.func103,Tryz.ntmps103
 go_wp2_with fail
 refine H1.out.mono ?_;rintro r ww ⟨rfl,hw⟩;rw [hw];clear hw ww
 go_wp2_with fail
 refine H2.out.mono ?_;rintro r ww ⟨rfl,hw⟩;rw [hw];clear hw ww;go_wp2;go_ret;exact ⟨rfl,Below.refl _ _⟩
theorem ag_more {w:World}{a b:Option Addr}{n c m d:Nat}(e f:Int) (x y:Nat) (bx:x≤1125899906842624) (by':y≤1125899906842624) (hx:((x:Int)==0)=false) (hy:((y:Int)==0)=false) (hge:decide (e<f)=false) (dd:Nat) (hap:IntKind.u64.wrap (IntKind.u64.wrap e-IntKind.u64.wrap f)=(dd:Int)) (hd:dd≤1099511627776) (h1:y<x+dd)
 (H1:Hid (Calls Tryz.prog 39 #[.slice a n c] w fun r w'=>r=.returned (.int .i64 (x:Nat))∧w'=w))
 (H2:Hid (Calls Tryz.prog 39 #[.slice b m d] w fun r w'=>r=.returned (.int .i64 (y:Nat))∧w'=w)):Calls Tryz.prog 103 #[.slice a n c,.int .i64 e,.slice b m d,.int .i64 f] w fun r w'=>r=.returned (.int .i64 1)∧Below w.heap.size w w':=by
 have hd2:decide ((1099511627776:Int)<(dd:Int))=false:=decide_eq_false (by omega)
 have hd3:decide (1099511627776<dd)=false:=decide_eq_false (by omega)
 have es:IntKind.u64.wrap ((x:Int)+(dd:Int))=(x:Int)+(dd:Int):=by rw [IntKind.wrap_u64];omega
 have h2:(y:Int)<(x:Int)+(dd:Int):=by omega
 have ex:IntKind.u64.wrap (x:Int)=(x:Int):=by rw [IntKind.wrap_u64];omega
 have ey:IntKind.u64.wrap (y:Int)=(y:Int):=by rw [IntKind.wrap_u64];omega
 go_enter Tryz.func103,Tryz.ntmps103
 go_wp2_with fail
 refine H1.out.mono ?_;rintro r ww ⟨rfl,hw⟩;rw [hw];clear hw ww
 go_wp2_with fail
 refine H2.out.mono ?_;rintro r ww ⟨rfl,hw⟩;rw [hw];clear hw ww;go_wp2;go_ret;exact ⟨rfl,Below.refl _ _⟩
theorem ag_less {w:World}{a b:Option Addr}{n c m d:Nat}(e f:Int) (x y:Nat) (bx:x≤1125899906842624) (by':y≤1125899906842624) (hx:((x:Int)==0)=false) (hy:((y:Int)==0)=false) (hge:decide (e<f)=false) (dd:Nat) (hap:IntKind.u64.wrap (IntKind.u64.wrap e-IntKind.u64.wrap f)=(dd:Int)) (hd:dd≤1099511627776) (h1:x+dd<y)
 (H1:Hid (Calls Tryz.prog 39 #[.slice a n c] w fun r w'=>r=.returned (.int .i64 (x:Nat))∧w'=w))
 (H2:Hid (Calls Tryz.prog 39 #[.slice b m d] w fun r w'=>r=.returned (.int .i64 (y:Nat))∧w'=w)):Calls Tryz.prog 103 #[.slice a n c,.int .i64 e,.slice b m d,.int .i64 f] w fun r w'=>r=.returned (.int .i64 (-1))∧Below w.heap.size w w':=by
 have hd2:decide ((1099511627776:Int)<(dd:Int))=false:=decide_eq_false (by omega)
 have hd3:decide (1099511627776<dd)=false:=decide_eq_false (by omega)
 have es:IntKind.u64.wrap ((x:Int)+(dd:Int))=(x:Int)+(dd:Int):=by rw [IntKind.wrap_u64];omega
 have h2:(x:Int)+(dd:Int)<(y:Int):=by omega
 have h3:decide ((y:Int)<(x:Int)+(dd:Int))=false:=decide_eq_false (by omega)
 have h4:decide (y<x+dd)=false:=decide_eq_false (by omega)
 have ex:IntKind.u64.wrap (x:Int)=(x:Int):=by rw [IntKind.wrap_u64];omega
 have ey:IntKind.u64.wrap (y:Int)=(y:Int):=by rw [IntKind.wrap_u64];omega
 go_enter Tryz.func103,Tryz.ntmps103
 go_wp2_with fail
 refine H1.out.mono ?_;rintro r ww ⟨rfl,hw⟩;rw [hw];clear hw ww
 go_wp2_with fail
 refine H2.out.mono ?_;rintro r ww ⟨rfl,hw⟩;rw [hw];clear hw ww;go_wp2;go_ret;exact ⟨rfl,Below.refl _ _⟩
theorem ag_even {w:World}{a b:Option Addr}{n c m d:Nat}(e f:Int) (x y:Nat) (bx:x≤1125899906842624) (by':y≤1125899906842624) (hx:((x:Int)==0)=false) (hy:((y:Int)==0)=false) (hge:decide (e<f)=false) (dd:Nat) (hap:IntKind.u64.wrap (IntKind.u64.wrap e-IntKind.u64.wrap f)=(dd:Int)) (hd:dd≤64000000) (h1:x+dd=y) (P:Nat) (lP:(ws P).length≤35184372088832) (z:Int)
 (H1:Hid (Calls Tryz.prog 39 #[.slice a n c] w fun r w'=>r=.returned (.int .i64 (x:Nat))∧w'=w))
 (H2:Hid (Calls Tryz.prog 39 #[.slice b m d] w fun r w'=>r=.returned (.int .i64 (y:Nat))∧w'=w))
 (HM:Hid (Calls Tryz.prog 107 #[.slice a n c,.int .i64 (dd:Nat)] w fun r w'=>∃ v,r=.returned v∧Nt w.heap.size w' v P∧Below w.heap.size w w'))
 (HC:Hid (∀ u p q,Below w.heap.size w u→Arg u p (ws P).length q (ws P)→Calls Tryz.prog 143 #[.slice p (ws P).length q,.slice b m d] u fun r w'=>r=.returned (.int .i64 z)∧Below u.heap.size u w')):Calls Tryz.prog 103 #[.slice a n c,.int .i64 e,.slice b m d,.int .i64 f] w fun r w'=>r=.returned (.int .i64 z)∧Below w.heap.size w w':=by
 have hd2:decide ((1099511627776:Int)<(dd:Int))=false:=decide_eq_false (by omega)
 have hd3:decide (1099511627776<dd)=false:=decide_eq_false (by omega)
 have es:IntKind.u64.wrap ((x:Int)+(dd:Int))=(x:Int)+(dd:Int):=by rw [IntKind.wrap_u64];omega
 have h2:decide ((x:Int)+(dd:Int)<(y:Int))=false:=decide_eq_false (by omega)
 have h3:decide ((y:Int)<(x:Int)+(dd:Int))=false:=decide_eq_false (by omega)
 have h4:decide (y<x+dd)=false:=decide_eq_false (by omega)
 have h5:decide (x+dd<y)=false:=decide_eq_false (by omega)
 have ed:IntKind.i64.wrap (dd:Int)=(dd:Int):=by rw [IntKind.wrap_i64];omega
 clear h1;have ex:IntKind.u64.wrap (x:Int)=(x:Int):=by rw [IntKind.wrap_u64];omega
 have ey:IntKind.u64.wrap (y:Int)=(y:Int):=by rw [IntKind.wrap_u64];omega
 go_enter Tryz.func103,Tryz.ntmps103
 go_wp2_with fail
 refine H1.out.mono ?_;rintro r ww ⟨rfl,hw⟩;rw [hw];clear hw ww
 go_wp2_with fail
 refine H2.out.mono ?_;rintro r ww ⟨rfl,hw⟩;rw [hw];clear hw ww
 go_wp2_with fail
 refine HM.out.mono ?_;rintro r u1 ⟨v,rfl,hN,hb⟩;obtain ⟨a1,c1,rfl,A1⟩:=hN.arg lP;have HC1:=hid (HC.out u1 a1 c1 hb A1);have hs1:=hb.size;have S1:=sd hb;clear hN hb A1
 go_wp2_with fail
 refine HC1.out.mono ?_;rintro r u2 ⟨rfl,hb⟩;have S2:=sd (S1.out.trans (hb.mono hs1));clear hb;go_wp2;go_ret;exact ⟨rfl,S2.out⟩
def agV (X:Nat) (e:Int) (Y:Nat) (f:Int):Int:=if X=0∨Y=0 then cmpI X Y else cmpP X e Y f
theorem against_ge {w:World}{a b:Option Addr}{n c m d:Nat}{xs ys:List Nat}(h1:Arg w a n c xs) (h2:Arg w b m d ys) (hn:n≤2000000) (hm:m≤2000000) (e f:Int) (he0:-9223372036854775808≤e) (he1:e≤9223372036854775807) (hf0:-9223372036854775808≤f) (hf1:f≤9223372036854775807) (h:f≤e) (hX:val xs≠0) (hY:val ys≠0) :
 Calls Tryz.prog 103 #[.slice a n c,.int .i64 e,.slice b m d,.int .i64 f] w fun r w'=>r=.returned (.int .i64 (cmpP (val xs) e (val ys) f))∧Below w.heap.size w w':=by
 have b1:=h1.big;have b2:=h2.big;have L1:=hid (rLen_any xs a n c w.heap.size w h1.len (by omega) h1.wf h1.rd)
 have L2:=hid (rLen_any ys b m d w.heap.size w h2.len (by omega) h2.wf h2.rd)
 have x0:(((bl (val xs):Nat):Int)==0)=false:=by have:=bl_pos _ hX;simp;omega
 have y0:(((bl (val ys):Nat):Int)==0)=false:=by have:=bl_pos _ hY;simp;omega
 have hap:=u64_apart e f he0 he1 hf0 hf1 h;have hge:decide (e<f)=false:=decide_eq_false (by omega)
 have c1:=bl_arg h1
 have c2:bl (val ys)≤64000000:=by
  have:=val_lt ys h2.wf;rw [←h2.len] at this;have:=bl_pw _ _ this;omega
 unfold cmpP;rw [if_neg (by omega)]
 obtain ⟨dd,hdd⟩:∃ dd,(e-f).toNat=dd:=⟨_,rfl⟩;rw [hdd] at hap ⊢;have hb:=bl_up (val xs) dd hX
 by_cases k1:1099511627776<dd
 · have:cmpI (val xs*2^dd) (val ys)=1:=by
    rw [cmpI_bl (by omega),hb];unfold cmpI;rw [if_neg (by omega),if_pos (by omega)]
   rw [this];exact ag_far e f _ _ c1 (by omega) x0 y0 hge dd hap k1 L1 L2
 · by_cases k2:bl (val ys)<bl (val xs)+dd
   · have:cmpI (val xs*2^dd) (val ys)=1:=by
      rw [cmpI_bl (by omega),hb];unfold cmpI;rw [if_neg (by omega),if_pos (by omega)]
     rw [this];exact ag_more e f _ _ c1 (by omega) x0 y0 hge dd hap (by omega) k2 L1 L2
   · by_cases k3:bl (val xs)+dd<bl (val ys)
     · have:cmpI (val xs*2^dd) (val ys)=-1:=by
        rw [cmpI_bl (by omega),hb];unfold cmpI;rw [if_pos (by omega)]
       rw [this];exact ag_less e f _ _ c1 (by omega) x0 y0 hge dd hap (by omega) k3 L1 L2
     · have lP:(ws (val xs*2^dd)).length≤35184372088832:=by rw [ws_len_bl,hb];omega
       obtain ⟨P,hP⟩:∃ P,val xs*2^dd=P:=⟨_,rfl⟩;have HM:=hid (moved_raw (X:=val xs) dd h1 rfl hn (by omega))
       rw [hP] at HM lP ⊢;exact ag_even e f _ _ c1 (by omega) x0 y0 hge dd hap (by omega) (by omega) P lP _ L1 L2 HM (hid fun u p q hu hA=>rCmp_arg hA (h2.below hu) _ (by rw [val_ws]))
theorem against_any {w:World}{a b:Option Addr}{n c m d:Nat}{xs ys:List Nat}(h1:Arg w a n c xs) (h2:Arg w b m d ys) (hn:n≤2000000) (hm:m≤2000000) (e f:Int) (he0:-9223372036854775808≤e) (he1:e≤9223372036854775807) (hf0:-9223372036854775808≤f) (hf1:f≤9223372036854775807) :
 Calls Tryz.prog 103 #[.slice a n c,.int .i64 e,.slice b m d,.int .i64 f] w fun r w'=>r=.returned (.int .i64 (agV (val xs) e (val ys) f))∧Below w.heap.size w w':=by
 have b1:=h1.big;have b2:=h2.big;have L1:=hid (rLen_any xs a n c w.heap.size w h1.len (by omega) h1.wf h1.rd)
 have L2:=hid (rLen_any ys b m d w.heap.size w h2.len (by omega) h2.wf h2.rd)
 have c1:=bl_arg h1;have c2:=bl_arg h2;unfold agV
 by_cases hX:val xs=0
 · rw [if_pos (.inl hX)]
   exact ag_zero1 e f _ _ c1 c2 (by rw [hX,bl_zero]) _ L1 L2 (hid (rCmp_arg h1 h2 _ rfl))
 · have x0:(((bl (val xs):Nat):Int)==0)=false:=by have:=bl_pos _ hX;simp;omega
   by_cases hY:val ys=0
   · rw [if_pos (.inr hY)]
     exact ag_zero2 e f _ _ c1 c2 x0 (by rw [hY,bl_zero]) _ L1 L2 (hid (rCmp_arg h1 h2 _ rfl))
   · have y0:(((bl (val ys):Nat):Int)==0)=false:=by have:=bl_pos _ hY;simp;omega
     rw [if_neg (fun h=>h.elim hX hY)]
     by_cases h:e<f
     · have hr:=cmpP_range (val ys) f (val xs) e
       have:=ag_turn e f _ _ c1 c2 x0 y0 h (cmpP (val ys) f (val xs) e) (by omega) (by omega) L1 L2 (hid (against_ge h2 h1 hm hn f e hf0 hf1 he0 he1 (by omega) hY hX))
       rw [cmpP_neg] at this;exact this
     · exact against_ge h1 h2 hn hm e f he0 he1 hf0 hf1 (by omega) hX hY
end
section
open Go.RowKit
theorem agV_z (X:Nat) (e:Int) (Y:Nat) (f B:Int) (h1:B≤e) (h2:B≤f):agV X e Y f=cmpZ ((X*2^(e-B).toNat:Nat):Int) ((Y*2^(f-B).toNat:Nat):Int):=by
 rw [cmpZ_nat];unfold agV
 by_cases h:X=0∨Y=0
 · rw [if_pos h]
   have p1:=pos_iff X (e-B).toNat;have p2:=pos_iff Y (f-B).toNat;generalize X*2^(e-B).toNat=P at p1 ⊢;generalize Y*2^(f-B).toNat=Q at p2 ⊢
   have q1:X=0∧P=0∨X≠0∧P≠0:=by
    by_cases h:X=0
    · exact .inl ⟨h,p1.2 h⟩
    · exact .inr ⟨h,fun k=>h (p1.1 k)⟩
   have q2:Y=0∧Q=0∨Y≠0∧Q≠0:=by
    by_cases h:Y=0
    · exact .inl ⟨h,p2.2 h⟩
    · exact .inr ⟨h,fun k=>h (p2.1 k)⟩
   clear p1 p2;unfold cmpI
   rcases h with h|h
   · rcases q1 with ⟨a,b⟩ | ⟨a,b⟩
     · rcases q2 with ⟨c,d⟩ | ⟨c,d⟩
       · rw [a,b,c,d]
       · rw [a,b,if_pos (by omega),if_pos (by omega)]
     · exact absurd h a
   · rcases q2 with ⟨c,d⟩ | ⟨c,d⟩
     · rcases q1 with ⟨a,b⟩ | ⟨a,b⟩
       · rw [a,b,c,d]
       · rw [c,d,if_neg (by omega),if_pos (by omega),if_neg (by omega),if_pos (by omega)]
     · exact absurd h c
 · rw [if_neg h]
   exact cmpP_base X e Y f B h1 h2
theorem num64_vK (k:Nat) (B:Int) (hB:B≤-1074):(num64 k).1*2^((num64 k).2-B).toNat=vK k*2^(-1074-B).toNat∧(num64 k).1<9007199254740992∧B≤(num64 k).2∧((num64 k).1=0↔k=0):=by
 unfold num64
 by_cases h:k/4503599627370496=0
 · rw [if_pos h]
   refine ⟨?_,by simp only;omega,by simp only;omega,by simp only;omega⟩
   simp only;have:=vK_word 0 k (.inl rfl) (by omega)
   rw [Nat.zero_mul,Nat.zero_add,Nat.pow_zero,Nat.mul_one] at this;rw [this,show k%4503599627370496=k by omega]
 · rw [if_neg h]
   obtain ⟨q,hq⟩:∃ q,k/4503599627370496=q:=⟨_,rfl⟩;obtain ⟨f,hf⟩:∃ f,k%4503599627370496=f:=⟨_,rfl⟩;rw [hq,hf];refine ⟨?_,by simp only;omega,by simp only;omega,by simp only;omega⟩
   simp only;have:=vK_word (q-1) (4503599627370496+f) (.inr (by omega)) (by omega)
   rw [show (q-1)*4503599627370496+(4503599627370496+f)=k by omega] at this
   rw [this,Nat.mul_assoc,←Nat.pow_add,show (-1074+(q:Int)-1-B).toNat=q-1+(-1074-B).toNat by omega]
end
namespace S
open Go.RowKit
def rW (mode:Int) (n:Bool) (X:Nat) (e:Int):Nat:=if X=0 then 0 else rndK mode n X e
def num32 (k:Nat):Nat×Int:=if k/8388608=0 then (k%8388608,-149) else (8388608+k%8388608,-149+((k/8388608:Nat):Int)-1)
theorem rNumber32_low (K:Int) (V:Nat) (w:World) (e1:K/8388608=0) (hK0:0≤K) (hK1:K≤2139095040)
 (HO:Hid (∀ u,Calls Tryz.prog 76 #[.int .u64 (K%8388608)] u fun r w'=>∃ v,r=.returned v∧Nt u.heap.size w' v V∧Below u.heap.size u w')) :
 Calls Tryz.prog 130 #[.agg #[.int .i64 24,.int .i64 (-149),.int .u64 2139095040],.int .u64 K] w fun r w'=>∃ v,r=.returned (.tuple #[v,.int .i64 (-149)])∧Nt w.heap.size w' v V∧Below w.heap.size w w':=by
 obtain ⟨W1,hW1⟩:∃ W,W=w.alloc (.cells #[.int .i64 24,.int .i64 (-149),.int .u64 2139095040] 73):=⟨_,rfl⟩;have P:W1.heap[w.heap.size]?=some (.cells #[.int .i64 24,.int .i64 (-149),.int .u64 2139095040] 73 (0,0)):=by rw [hW1,heap_alloc_new]
 have p1:W1.cell? ⟨w.heap.size,1,none⟩=some (.int .i64 (-149)):=by simp [World.cell?,P]
 have hz:w.heap.size<W1.heap.size:=by rw [hW1];simp
 have HB:=sd (show Below w.heap.size w W1 by rw [hW1];exact below_alloc w _)
 go_enter Tryz.func130,Tryz.ntmps130;go_wp2;rw [←hW1];clear hW1 P e1
 go_region_held3 (fun w'=>w'.cell? ⟨w.heap.size,1,none⟩=some (.int .i64 (-149))) (go_keep) (first | (go_at_call 76;refine (HO.out _).mono ?_;rintro r w2 ⟨v,rfl,hN,hb⟩;have hb2:Below W1.heap.size W1 w2:=(by first | exact hb | exact ((Below.refl _ W1).drew).trans (hb.mono (Nat.le_refl _)));have p2:w2.cell? ⟨w.heap.size,1,none⟩=some (.int .i64 (-149)):=(hb2.cell (p:=⟨w.heap.size,1,none⟩) hz).trans p1;have S2:=(sd (ai hb2 hN));clear hb hb2 hN))
 all_goals (
  go_wp2
  go_simp
  go_ret2
  exact ⟨v,rfl,S2.out.2.mono (Nat.le_of_lt hz),HB.out.trans (S2.out.1.mono (Nat.le_of_lt hz))⟩)
theorem rNumber32_high (K q f g x y:Int) (V:Nat) (w:World) (e1:K/8388608=q) (e2:K%8388608=f) (e3:IntKind.u64.wrap (8388608+f)=g) (e4:IntKind.i64.wrap q=q) (e5:IntKind.i64.wrap (-149+q)=x) (e6:IntKind.i64.wrap (x-1)=y) (hK0:0≤K) (hK1:K≤2139095040) (hq0:(q==0)=false)
 (HO:Hid (∀ u,Calls Tryz.prog 76 #[.int .u64 g] u fun r w'=>∃ v,r=.returned v∧Nt u.heap.size w' v V∧Below u.heap.size u w')) :
 Calls Tryz.prog 130 #[.agg #[.int .i64 24,.int .i64 (-149),.int .u64 2139095040],.int .u64 K] w fun r w'=>∃ v,r=.returned (.tuple #[v,.int .i64 y])∧Nt w.heap.size w' v V∧Below w.heap.size w w':=by
 obtain ⟨W1,hW1⟩:∃ W,W=w.alloc (.cells #[.int .i64 24,.int .i64 (-149),.int .u64 2139095040] 73):=⟨_,rfl⟩;have P:W1.heap[w.heap.size]?=some (.cells #[.int .i64 24,.int .i64 (-149),.int .u64 2139095040] 73 (0,0)):=by rw [hW1,heap_alloc_new]
 have p1:W1.cell? ⟨w.heap.size,1,none⟩=some (.int .i64 (-149)):=by simp [World.cell?,P]
 have hz:w.heap.size<W1.heap.size:=by rw [hW1];simp
 have HB:=sd (show Below w.heap.size w W1 by rw [hW1];exact below_alloc w _)
 go_enter Tryz.func130,Tryz.ntmps130;go_wp2;rw [←hW1]
 try simp only [e1,e2]
 clear hW1 P e1 e2 hK0 hK1
 go_region_held3 (fun w'=>w'.cell? ⟨w.heap.size,1,none⟩=some (.int .i64 (-149))) (go_keep) (first | (go_at_call 76;refine (HO.out _).mono ?_;rintro r w2 ⟨v,rfl,hN,hb⟩;have hb2:Below W1.heap.size W1 w2:=(by first | exact hb | exact ((Below.refl _ W1).drew).trans (hb.mono (Nat.le_refl _)));have p2:w2.cell? ⟨w.heap.size,1,none⟩=some (.int .i64 (-149)):=(hb2.cell (p:=⟨w.heap.size,1,none⟩) hz).trans p1;have S2:=(sd (ai hb2 hN));clear hb hb2 hN))
 all_goals (
  go_wp2
  go_simp
  go_ret2
  exact ⟨v,rfl,S2.out.2.mono (Nat.le_of_lt hz),HB.out.trans (S2.out.1.mono (Nat.le_of_lt hz))⟩)
theorem rNumber32 (k:Nat) (hk:k≤2139095040) (w:World) :
 Calls Tryz.prog 130 #[.agg #[.int .i64 24,.int .i64 (-149),.int .u64 2139095040],.int .u64 (k:Nat)] w fun r w'=>∃ v,r=.returned (.tuple #[v,.int .i64 (num32 k).2])∧Nt w.heap.size w' v (num32 k).1∧Below w.heap.size w w':=by
 unfold num32
 by_cases h0:k/8388608=0
 · rw [if_pos h0]
   exact rNumber32_low (k:Int) (k%8388608) w (by omega) (by omega) (by omega) (hid fun u=>by simpa using rOf_any (k%8388608) u (by omega))
 · rw [if_neg h0]
   have hw:∀ n:Int,0≤n→n<18446744073709551616→IntKind.u64.wrap n=n:=fun n h1 h2=>by simp [IntKind.wrap,IntKind.bits,IntKind.signed];omega
   have hv:∀ n:Int,-4000≤n→n<4000→IntKind.i64.wrap n=n:=fun n h1 h2=>by simp [IntKind.wrap,IntKind.bits,IntKind.signed];omega
   have e3:(8388608:Int)+((k%8388608:Nat):Int)=((8388608+k%8388608:Nat):Int):=by omega
   exact rNumber32_high (k:Int) ((k/8388608:Nat):Int) ((k%8388608:Nat):Int) ((8388608+k%8388608:Nat):Int) (-149+((k/8388608:Nat):Int)) (-149+((k/8388608:Nat):Int)-1) (8388608+k%8388608) w (by omega) (by omega) (by rw [e3];exact hw _ (by omega) (by omega)) (hv _ (by omega) (by omega)) (hv _ (by omega) (by omega)) (hv _ (by omega) (by omega)) (by omega) (by omega) (beq_eq_false_iff_ne.2 (by omega)) (hid fun u=>rOf_any _ u (by omega))
theorem of32_any (w:World):Calls Tryz.prog 52 #[] w fun r w'=>r=.returned (.agg #[.int .i64 24,.int .i64 (-149),.int .u64 2139095040])∧Below w.heap.size w w':=by
 go_enter Tryz.func52,Tryz.ntmps52;go_wp2;exact bodyPost_ret (v:=.agg #[.int .i64 24,.int .i64 (-149),.int .u64 2139095040]) (by simp [results,Tryz.results52,go_sem]) rfl ⟨rfl,by repeat (first | exact Below.refl _ _ | refine Below.alloc ?_ (by first | omega | simp) _ | refine Below.setC ?_ _ _ _ (by omega) (by simp))⟩
theorem num32_vK (k:Nat) (B:Int) (hB:B≤-149):(num32 k).1*2^((num32 k).2-B).toNat=vK k*2^(-149-B).toNat∧(num32 k).1<16777216∧B≤(num32 k).2∧((num32 k).1=0↔k=0):=by
 unfold num32
 by_cases h:k/8388608=0
 · rw [if_pos h]
   refine ⟨?_,by simp only;omega,by simp only;omega,by simp only;omega⟩
   simp only;have:=vK_word 0 k (.inl rfl) (by omega)
   rw [Nat.zero_mul,Nat.zero_add,Nat.pow_zero,Nat.mul_one] at this;rw [this,show k%8388608=k by omega]
 · rw [if_neg h]
   obtain ⟨q,hq⟩:∃ q,k/8388608=q:=⟨_,rfl⟩;obtain ⟨f,hf⟩:∃ f,k%8388608=f:=⟨_,rfl⟩;rw [hq,hf];refine ⟨?_,by simp only;omega,by simp only;omega,by simp only;omega⟩
   simp only;have:=vK_word (q-1) (8388608+f) (.inr (by omega)) (by omega)
   rw [show (q-1)*8388608+(8388608+f)=k by omega] at this
   rw [this,Nat.mul_assoc,←Nat.pow_add,show (-149+(q:Int)-1-B).toNat=q-1+(-149-B).toNat by omega]
end S
namespace S
open Go.RowKit
def rndS (o:Option (Bool×Nat×Int)) (mode:Int):Nat×Int :=
 if mode<0∨4<mode then (0,1)
 else match o with
  | none=>(0,2)
  | some (n,X,e)=>(rW mode n X e+(if n then 2147483648 else 0),0)
theorem rW_le (mode:Int) {n:Bool}{X:Nat}{e:Int}(F:Frm n X e):rW mode n X e≤2139095040:=by
 unfold rW
 split
 · omega
 · rename_i hX
   have L:=lies X e (frm_odd F hX) F.down F.up (-1048576) F.down (by omega)
   have:=L.fin;rw [rndK_eq];unfold rK
   split
   · omega
   · split <;> omega
end S
namespace S
open Go.RowKit
theorem Round32_err {w:World}{a:Option Addr}{l c:Nat}(n:Bool) (e mode er:Int) (her:(er != 0)=true)
 (HR:Hid (∀ u,Below w.heap.size w u→Calls Tryz.prog 79 #[.agg #[.bool n,.slice a l c,.int .i64 e],.int .i64 mode,.agg #[.int .i64 24,.int .i64 (-149),.int .i64 128]] u fun r w'=>r=.returned (.tuple #[.float .f64 0,.int .i64 er])∧Below u.heap.size u w')) :
 Calls Tryz.prog 47 #[.agg #[.bool n,.slice a l c,.int .i64 e],.int .i64 mode] w fun r w'=>r=.returned (.tuple #[.float .f32 0,.int .i64 er])∧Below w.heap.size w w':=by
 have hb0:=below_alloc w (.cells #[.bool n,.slice a l c,.int .i64 e] 27);have H:=hid (HR.out _ hb0);have S0:=sd hb0;clear hb0 HR;go_enter Tryz.func47,Tryz.ntmps47
 go_wp2_with fail
 refine H.out.mono ?_;rintro r u1 ⟨rfl,hb⟩;have S1:=sd hb;clear hb;go_wp2
 go_ret2
 exact ⟨rfl,S0.out.trans (S1.out.mono (by simp))⟩
theorem Round32_ok {w:World}{a:Option Addr}{l c:Nat}(n:Bool) (e mode:Int) (x K:Nat)
 (HR:Hid (∀ u,Below w.heap.size w u→Calls Tryz.prog 79 #[.agg #[.bool n,.slice a l c,.int .i64 e],.int .i64 mode,.agg #[.int .i64 24,.int .i64 (-149),.int .i64 128]] u fun r w'=>r=.returned (.tuple #[.float .f64 x,.int .i64 0])∧Below u.heap.size u w'))
 (HN:Hid (∀ u,Calls Tryz.prog 83 #[.float .f64 x,.int .i64 0] u fun r w'=>r=.returned (.tuple #[.float .f32 K,.int .i64 0])∧Below u.heap.size u w')) :
 Calls Tryz.prog 47 #[.agg #[.bool n,.slice a l c,.int .i64 e],.int .i64 mode] w fun r w'=>r=.returned (.tuple #[.float .f32 K,.int .i64 0])∧Below w.heap.size w w':=by
 have hb0:=below_alloc w (.cells #[.bool n,.slice a l c,.int .i64 e] 27);have H:=hid (HR.out _ hb0);have S0:=sd hb0;clear hb0 HR;go_enter Tryz.func47,Tryz.ntmps47
 go_wp2_with fail
 refine H.out.mono ?_;rintro r u1 ⟨rfl,hb⟩;have S1:=sd (S0.out.trans (hb.mono (by simp)))
 have H2:=hid (HN.out u1);clear hb H HN S0
 go_wp2_with fail
 refine H2.out.mono ?_;rintro r u2 ⟨rfl,hb⟩;have S2:=sd (S1.out.trans (hb.mono S1.out.size));clear hb H2 S1;go_wp2
 go_ret2
 exact ⟨rfl,S2.out⟩
theorem Round32_any {w:World}{a:Option Addr}{l c:Nat}{xs:List Nat}(hA:Arg w a l c xs) (hT:Tab w) (n:Bool) (e mode:Int) (he0:-9223372036854775808≤e) (he1:e≤9223372036854775807) :
 Calls Tryz.prog 47 #[.agg #[.bool n,.slice a l c,.int .i64 e],.int .i64 mode] w fun r w'=>r=.returned (.tuple #[.float .f32 (rndS (mkS n (val xs) e) mode).1,.int .i64 (rndS (mkS n (val xs) e) mode).2])∧Below w.heap.size w w':=by
 unfold rndS
 by_cases hm:mode<0∨4<mode
 · rw [if_pos hm]
   exact Round32_err n e mode 1 (by decide) (hid fun u hu=>round_mode n a l c e mode u hm)
 · rw [if_neg hm]
   have HF:∀ v,Below w.heap.size w v→Calls Tryz.prog 94 #[.agg #[.bool n,.slice a l c,.int .i64 e]] v fun r w'=>DAns v.heap.size w' r (mkS n (val xs) e)∧Below v.heap.size v w':=fun v hv=>form_any (hA.below hv) (hT.belows hv) n e he0 he1
   cases ho:mkS n (val xs) e with
   | none =>
     rw [ho] at HF;exact Round32_err n e mode 2 (by decide) (hid fun u hu=>round_err n e mode false 0 0 2 (by rw [ws_zero];simp) (by omega) (by omega) rfl (hid fun v hv=>HF v (hu.trans (hv.mono hu.size))))
   | some d =>
     obtain ⟨n1,X,e1⟩:=d;have FX:=mkS_frm ho;simp only
     by_cases hX:X=0
     · have hn:n1=false:=by rcases FX.odd with k | ⟨_,k,_⟩;omega;exact k
       have hr:rW mode n1 X e1+(if n1 then 2147483648 else 0)=0:=by unfold rW;rw [if_pos hX,hn];rfl
       rw [hr];rw [ho] at HF;refine Round32_ok n e mode 0 0 (hid fun u hu=>round_none n e mode n1 X e1 ((ws_len_zero X).2 hX) (by omega) (by omega) (hid fun v hv=>HF v (hu.trans (hv.mono hu.size)))) (hid fun u=>?_)
       have h:=narrow_exact false 0 0 (by omega) (by omega) (by rw [B.val_zero Ieee.double,B.val_zero Ieee.single,Nat.zero_mul]) u
       exact h
     · have hle:=rW_le mode FX
       have hrw:rW mode n1 X e1=rndK mode n1 X e1:=by unfold rW;rw [if_neg hX]
       obtain ⟨W,hW,hv,_⟩:=round_some hA hT n e mode he0 he1 (by omega) (by omega) n1 X e1 ho hX
       refine Round32_ok n e mode (W+(if n1 then 9223372036854775808 else 0)) _ (hid fun u hu=>?_) (hid fun u=>narrow_exact n1 W (rW mode n1 X e1) hW hle (by rw [hrw];exact hv) u)
       obtain ⟨W',hW',hv',HC⟩:=round_some (hA.below hu) (hT.belows hu) n e mode he0 he1 (by omega) (by omega) n1 X e1 ho hX
       have:W'=W:=by
        have e1:B.val Ieee.double W'=B.val Ieee.double W:=hv'.trans hv.symm
        rcases Nat.lt_trichotomy W' W with h|h|h
        · have:=(B.val_lt_iff Ieee.double).2 h;omega
        · exact h
        · have:=(B.val_lt_iff Ieee.double).2 h;omega
       rw [this] at HC;exact HC
end S
end Go.Proofs.YtdimlelcgapobaaGreatDoor
