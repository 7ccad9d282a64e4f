import Derived.Test.YtjldfhecnaiinaaGreatDoorS9x
import Derived.Deep.RegionWith
import Derived.Test.YtjldfhecnaiinaaGreatDoorW45x
import Derived.Test.YtjldfhecnaiinaaGreatDoorS7x
import Derived.Laws.StructEq
import Derived.BigQuiet
import Derived.Deep.RegionHeld3
import Derived.Deep.Cut
import Derived.Test.YtjldfhecnaiinaaGreatDoorM1x
import Derived.Laws.FloatArith
set_option linter.unusedVariables false
set_option linter.unusedSimpArgs false
set_option maxHeartbeats 16000000
set_option maxRecDepth 20000
namespace Go.Proofs.YtjldfhecnaiinaaGreatDoor
section
open Go.RowKit
open Go.Proofs.YtjldfhecnaiinaaGreatDoor.B (f64bits f64frombits bw bcell)
attribute [local go_sem] f64bits f64frombits
theorem Verdict_any (n u d m p l a b:Int) (w:World):Calls Tryz.prog 29 #[.agg #[.int .i64 n,.int .i64 u,.int .i64 d,.int .i64 m,.int .i64 p,.int .i64 l],.agg #[.int .i64 a,.int .i64 b]] w fun r w'=>r=.returned (.tuple #[.float .f64 (vd (snd n u d m p l&&may a b) n u d a b).1,.bool (vd (snd n u d m p l&&may a b) n u d a b).2])∧Below w.heap.size w w':=by
 have HS:=hid (sound_any n u d m p l);have HM:=hid (May_any a b);have HN:=hid (B.nan_any);have HU:=hid (mInf_up);have HD:=hid (mInf_down)
 rcases hs:snd n u d m p l with _|_
 · rw [hs] at HS
   rw [Bool.false_and];have hv:vd false n u d a b=(0,false):=by unfold vd;rw [if_pos rfl]
   rw [hv];clear hs hv;go_enter Tryz.func29,Tryz.ntmps29
   go_wp2_with fail
   refine (HS.out _).mono ?_;rintro r w1 ⟨rfl,hb1⟩;have hz1:=hb1.size;simp at hz1;obtain ⟨hc1,hf1⟩:=bcell hb1;have B1:=qsd hb1;clear hb1;go_wp2
   go_ret2
   exact ⟨by first | rfl | simp,(((Below.refl _ w).alloc (Nat.le_refl _) _).alloc (by simp) _).trans (B1.out.mono (by simp;omega))⟩
 rcases hm:may a b with _|_
 · rw [hs] at HS
   rw [hm] at HM;have hv:vd (true&&false) n u d a b=(0,false):=if_pos rfl;rw [hv];clear hs hm hv;go_enter Tryz.func29,Tryz.ntmps29
   go_wp2_with fail
   refine (HS.out _).mono ?_;rintro r w1 ⟨rfl,hb1⟩;have hz1:=hb1.size;simp at hz1;obtain ⟨hc1,hf1⟩:=bcell hb1;have B1:=qsd hb1;clear hb1
   go_wp2_with fail
   refine (HM.out _).mono ?_;rintro r w2 ⟨rfl,hb2⟩;have hz2:=hb2.size;obtain ⟨hc2,hf2⟩:=bcell hb2;have hc3:∀ b o,b<w.heap.size+1+1→w2.cell? ⟨b,o,none⟩=w1.cell? ⟨b,o,none⟩:=fun b o h=>hc2 b o (by omega)
   have B2:=qsd hb2;clear hb2 hc2 hf2;go_wp2
   go_ret2
   exact ⟨by first | rfl | simp,((((Below.refl _ w).alloc (Nat.le_refl _) _).alloc (by simp) _).trans (B1.out.mono (by simp;omega))).trans (B2.out.mono (by omega))⟩
 rw [hs] at HS;rw [hm] at HM;rw [Bool.true_and];clear hs hm
 have way1:0<n→a=0→Calls Tryz.prog 29 #[.agg #[.int .i64 n,.int .i64 u,.int .i64 d,.int .i64 m,.int .i64 p,.int .i64 l],.agg #[.int .i64 a,.int .i64 b]] w fun r w'=>r=.returned (.tuple #[.float .f64 (vd true n u d a b).1,.bool (vd true n u d a b).2])∧Below w.heap.size w w':=by
  intro p1 p2;have hv:vd true n u d a b=(9221120237041090560,true):=by unfold vd;rw [if_neg (by decide),if_pos ⟨p1,p2⟩]
  rw [hv];clear hv;have q1:0<n:=p1;have q2:a=0:=p2;subst q2;go_enter Tryz.func29,Tryz.ntmps29
  go_wp2_with fail
  refine (HS.out _).mono ?_;rintro r w1 ⟨rfl,hb1⟩;have hz1:=hb1.size;simp at hz1;obtain ⟨hc1,hf1⟩:=bcell hb1;have B1:=qsd hb1;clear hb1
  go_wp2_with fail
  refine (HM.out _).mono ?_;rintro r w2 ⟨rfl,hb2⟩;have hz2:=hb2.size;obtain ⟨hc2,hf2⟩:=bcell hb2;have hc3:∀ b o,b<w.heap.size+1+1→w2.cell? ⟨b,o,none⟩=w1.cell? ⟨b,o,none⟩:=fun b o h=>hc2 b o (by omega)
  have B2:=qsd hb2;clear hb2 hc2 hf2
  go_wp2_with fail
  refine (HN.out _).mono ?_;rintro r w3 ⟨rfl,rfl⟩;go_wp2
  go_ret2
  exact ⟨by first | rfl | simp,((((Below.refl _ w).alloc (Nat.le_refl _) _).alloc (by simp) _).trans (B1.out.mono (by simp;omega))).trans (B2.out.mono (by omega))⟩
 have way2:0<n→¬ (a=0)→¬ (b=0)→Calls Tryz.prog 29 #[.agg #[.int .i64 n,.int .i64 u,.int .i64 d,.int .i64 m,.int .i64 p,.int .i64 l],.agg #[.int .i64 a,.int .i64 b]] w fun r w'=>r=.returned (.tuple #[.float .f64 (vd true n u d a b).1,.bool (vd true n u d a b).2])∧Below w.heap.size w w':=by
  intro p1 p2 p3;have hv:vd true n u d a b=(0,false):=by unfold vd;rw [if_neg (by decide),if_neg (fun h=>p2 h.2),if_pos p3]
  rw [hv];clear hv;have q1:0<n:=p1;have q2:(a==0)=false:=by rw [beq_eq_false_iff_ne];exact p2
  have q3:(b==0)=false:=by rw [beq_eq_false_iff_ne];exact p3
  go_enter Tryz.func29,Tryz.ntmps29
  go_wp2_with fail
  refine (HS.out _).mono ?_;rintro r w1 ⟨rfl,hb1⟩;have hz1:=hb1.size;simp at hz1;obtain ⟨hc1,hf1⟩:=bcell hb1;have B1:=qsd hb1;clear hb1
  go_wp2_with fail
  refine (HM.out _).mono ?_;rintro r w2 ⟨rfl,hb2⟩;have hz2:=hb2.size;obtain ⟨hc2,hf2⟩:=bcell hb2;have hc3:∀ b o,b<w.heap.size+1+1→w2.cell? ⟨b,o,none⟩=w1.cell? ⟨b,o,none⟩:=fun b o h=>hc2 b o (by omega)
  have B2:=qsd hb2;clear hb2 hc2 hf2;go_wp2
  go_ret2
  exact ⟨by first | rfl | simp,((((Below.refl _ w).alloc (Nat.le_refl _) _).alloc (by simp) _).trans (B1.out.mono (by simp;omega))).trans (B2.out.mono (by omega))⟩
 have way3:0<n→¬ (a=0)→b=0→0<u→0<d→Calls Tryz.prog 29 #[.agg #[.int .i64 n,.int .i64 u,.int .i64 d,.int .i64 m,.int .i64 p,.int .i64 l],.agg #[.int .i64 a,.int .i64 b]] w fun r w'=>r=.returned (.tuple #[.float .f64 (vd true n u d a b).1,.bool (vd true n u d a b).2])∧Below w.heap.size w w':=by
  intro p1 p2 p3 p4 p5;have hv:vd true n u d a b=(9221120237041090560,true):=by unfold vd;rw [if_neg (by decide),if_neg (fun h=>p2 h.2),if_neg (not_not_intro p3),if_pos ⟨p4,p5⟩]
  rw [hv];clear hv;have q1:0<n:=p1;have q2:(a==0)=false:=by rw [beq_eq_false_iff_ne];exact p2
  have q3:b=0:=p3;have q4:0<u:=p4;have q5:0<d:=p5;subst q3;go_enter Tryz.func29,Tryz.ntmps29
  go_wp2_with fail
  refine (HS.out _).mono ?_;rintro r w1 ⟨rfl,hb1⟩;have hz1:=hb1.size;simp at hz1;obtain ⟨hc1,hf1⟩:=bcell hb1;have B1:=qsd hb1;clear hb1
  go_wp2_with fail
  refine (HM.out _).mono ?_;rintro r w2 ⟨rfl,hb2⟩;have hz2:=hb2.size;obtain ⟨hc2,hf2⟩:=bcell hb2;have hc3:∀ b o,b<w.heap.size+1+1→w2.cell? ⟨b,o,none⟩=w1.cell? ⟨b,o,none⟩:=fun b o h=>hc2 b o (by omega)
  have B2:=qsd hb2;clear hb2 hc2 hf2
  go_wp2_with fail
  refine (HN.out _).mono ?_;rintro r w3 ⟨rfl,rfl⟩;go_wp2
  go_ret2
  exact ⟨by first | rfl | simp,((((Below.refl _ w).alloc (Nat.le_refl _) _).alloc (by simp) _).trans (B1.out.mono (by simp;omega))).trans (B2.out.mono (by omega))⟩
 have way4:0<n→¬ (a=0)→b=0→0<u→¬ (0<d)→Calls Tryz.prog 29 #[.agg #[.int .i64 n,.int .i64 u,.int .i64 d,.int .i64 m,.int .i64 p,.int .i64 l],.agg #[.int .i64 a,.int .i64 b]] w fun r w'=>r=.returned (.tuple #[.float .f64 (vd true n u d a b).1,.bool (vd true n u d a b).2])∧Below w.heap.size w w':=by
  intro p1 p2 p3 p4 p5;have hv:vd true n u d a b=(9218868437227405312,true):=by unfold vd;rw [if_neg (by decide),if_neg (fun h=>p2 h.2),if_neg (not_not_intro p3),if_neg (fun h=>p5 h.2),if_pos p4]
  rw [hv];clear hv;have q1:0<n:=p1;have q2:(a==0)=false:=by rw [beq_eq_false_iff_ne];exact p2
  have q3:b=0:=p3;have q4:0<u:=p4;have q5:decide (0<d)=false:=decide_eq_false p5;subst q3;go_enter Tryz.func29,Tryz.ntmps29
  go_wp2_with fail
  refine (HS.out _).mono ?_;rintro r w1 ⟨rfl,hb1⟩;have hz1:=hb1.size;simp at hz1;obtain ⟨hc1,hf1⟩:=bcell hb1;have B1:=qsd hb1;clear hb1
  go_wp2_with fail
  refine (HM.out _).mono ?_;rintro r w2 ⟨rfl,hb2⟩;have hz2:=hb2.size;obtain ⟨hc2,hf2⟩:=bcell hb2;have hc3:∀ b o,b<w.heap.size+1+1→w2.cell? ⟨b,o,none⟩=w1.cell? ⟨b,o,none⟩:=fun b o h=>hc2 b o (by omega)
  have B2:=qsd hb2;clear hb2 hc2 hf2
  go_wp2_with fail
  refine (HU.out _).mono ?_;rintro r w3 ⟨rfl,rfl⟩;go_wp2
  go_ret2
  exact ⟨by first | rfl | simp,((((Below.refl _ w).alloc (Nat.le_refl _) _).alloc (by simp) _).trans (B1.out.mono (by simp;omega))).trans (B2.out.mono (by omega))⟩
 have way5:0<n→¬ (a=0)→b=0→¬ (0<u)→0<d→Calls Tryz.prog 29 #[.agg #[.int .i64 n,.int .i64 u,.int .i64 d,.int .i64 m,.int .i64 p,.int .i64 l],.agg #[.int .i64 a,.int .i64 b]] w fun r w'=>r=.returned (.tuple #[.float .f64 (vd true n u d a b).1,.bool (vd true n u d a b).2])∧Below w.heap.size w w':=by
  intro p1 p2 p3 p4 p5;have hv:vd true n u d a b=(18442240474082181120,true):=by unfold vd;rw [if_neg (by decide),if_neg (fun h=>p2 h.2),if_neg (not_not_intro p3),if_neg (fun h=>p4 h.1),if_neg p4,if_pos p5]
  rw [hv];clear hv;have q1:0<n:=p1;have q2:(a==0)=false:=by rw [beq_eq_false_iff_ne];exact p2
  have q3:b=0:=p3;have q4:decide (0<u)=false:=decide_eq_false p4;have q5:0<d:=p5;subst q3;go_enter Tryz.func29,Tryz.ntmps29
  go_wp2_with fail
  refine (HS.out _).mono ?_;rintro r w1 ⟨rfl,hb1⟩;have hz1:=hb1.size;simp at hz1;obtain ⟨hc1,hf1⟩:=bcell hb1;have B1:=qsd hb1;clear hb1
  go_wp2_with fail
  refine (HM.out _).mono ?_;rintro r w2 ⟨rfl,hb2⟩;have hz2:=hb2.size;obtain ⟨hc2,hf2⟩:=bcell hb2;have hc3:∀ b o,b<w.heap.size+1+1→w2.cell? ⟨b,o,none⟩=w1.cell? ⟨b,o,none⟩:=fun b o h=>hc2 b o (by omega)
  have B2:=qsd hb2;clear hb2 hc2 hf2
  go_wp2_with fail
  refine (HD.out _).mono ?_;rintro r w3 ⟨rfl,rfl⟩;go_wp2
  go_ret2
  exact ⟨by first | rfl | simp,((((Below.refl _ w).alloc (Nat.le_refl _) _).alloc (by simp) _).trans (B1.out.mono (by simp;omega))).trans (B2.out.mono (by omega))⟩
 have way6:0<n→¬ (a=0)→b=0→¬ (0<u)→¬ (0<d)→Calls Tryz.prog 29 #[.agg #[.int .i64 n,.int .i64 u,.int .i64 d,.int .i64 m,.int .i64 p,.int .i64 l],.agg #[.int .i64 a,.int .i64 b]] w fun r w'=>r=.returned (.tuple #[.float .f64 (vd true n u d a b).1,.bool (vd true n u d a b).2])∧Below w.heap.size w w':=by
  intro p1 p2 p3 p4 p5;have hv:vd true n u d a b=(0,false):=by unfold vd;rw [if_neg (by decide),if_neg (fun h=>p2 h.2),if_neg (not_not_intro p3),if_neg (fun h=>p4 h.1),if_neg p4,if_neg p5]
  rw [hv];clear hv;have q1:0<n:=p1;have q2:(a==0)=false:=by rw [beq_eq_false_iff_ne];exact p2
  have q3:b=0:=p3;have q4:decide (0<u)=false:=decide_eq_false p4;have q5:decide (0<d)=false:=decide_eq_false p5;subst q3;go_enter Tryz.func29,Tryz.ntmps29
  go_wp2_with fail
  refine (HS.out _).mono ?_;rintro r w1 ⟨rfl,hb1⟩;have hz1:=hb1.size;simp at hz1;obtain ⟨hc1,hf1⟩:=bcell hb1;have B1:=qsd hb1;clear hb1
  go_wp2_with fail
  refine (HM.out _).mono ?_;rintro r w2 ⟨rfl,hb2⟩;have hz2:=hb2.size;obtain ⟨hc2,hf2⟩:=bcell hb2;have hc3:∀ b o,b<w.heap.size+1+1→w2.cell? ⟨b,o,none⟩=w1.cell? ⟨b,o,none⟩:=fun b o h=>hc2 b o (by omega)
  have B2:=qsd hb2;clear hb2 hc2 hf2;go_wp2
  go_ret2
  exact ⟨by first | rfl | simp,((((Below.refl _ w).alloc (Nat.le_refl _) _).alloc (by simp) _).trans (B1.out.mono (by simp;omega))).trans (B2.out.mono (by omega))⟩
 have way7:¬ (0<n)→¬ (b=0)→Calls Tryz.prog 29 #[.agg #[.int .i64 n,.int .i64 u,.int .i64 d,.int .i64 m,.int .i64 p,.int .i64 l],.agg #[.int .i64 a,.int .i64 b]] w fun r w'=>r=.returned (.tuple #[.float .f64 (vd true n u d a b).1,.bool (vd true n u d a b).2])∧Below w.heap.size w w':=by
  intro p1 p3;have hv:vd true n u d a b=(0,false):=by unfold vd;rw [if_neg (by decide),if_neg (fun h=>p1 h.1),if_pos p3]
  rw [hv];clear hv;have q1:decide (0<n)=false:=decide_eq_false p1;have q3:(b==0)=false:=by rw [beq_eq_false_iff_ne];exact p3
  go_enter Tryz.func29,Tryz.ntmps29
  go_wp2_with fail
  refine (HS.out _).mono ?_;rintro r w1 ⟨rfl,hb1⟩;have hz1:=hb1.size;simp at hz1;obtain ⟨hc1,hf1⟩:=bcell hb1;have B1:=qsd hb1;clear hb1
  go_wp2_with fail
  refine (HM.out _).mono ?_;rintro r w2 ⟨rfl,hb2⟩;have hz2:=hb2.size;obtain ⟨hc2,hf2⟩:=bcell hb2;have hc3:∀ b o,b<w.heap.size+1+1→w2.cell? ⟨b,o,none⟩=w1.cell? ⟨b,o,none⟩:=fun b o h=>hc2 b o (by omega)
  have B2:=qsd hb2;clear hb2 hc2 hf2;go_wp2
  go_ret2
  exact ⟨by first | rfl | simp,((((Below.refl _ w).alloc (Nat.le_refl _) _).alloc (by simp) _).trans (B1.out.mono (by simp;omega))).trans (B2.out.mono (by omega))⟩
 have way8:¬ (0<n)→b=0→0<u→0<d→Calls Tryz.prog 29 #[.agg #[.int .i64 n,.int .i64 u,.int .i64 d,.int .i64 m,.int .i64 p,.int .i64 l],.agg #[.int .i64 a,.int .i64 b]] w fun r w'=>r=.returned (.tuple #[.float .f64 (vd true n u d a b).1,.bool (vd true n u d a b).2])∧Below w.heap.size w w':=by
  intro p1 p3 p4 p5;have hv:vd true n u d a b=(9221120237041090560,true):=by unfold vd;rw [if_neg (by decide),if_neg (fun h=>p1 h.1),if_neg (not_not_intro p3),if_pos ⟨p4,p5⟩]
  rw [hv];clear hv;have q1:decide (0<n)=false:=decide_eq_false p1;have q3:b=0:=p3;have q4:0<u:=p4;have q5:0<d:=p5;subst q3;go_enter Tryz.func29,Tryz.ntmps29
  go_wp2_with fail
  refine (HS.out _).mono ?_;rintro r w1 ⟨rfl,hb1⟩;have hz1:=hb1.size;simp at hz1;obtain ⟨hc1,hf1⟩:=bcell hb1;have B1:=qsd hb1;clear hb1
  go_wp2_with fail
  refine (HM.out _).mono ?_;rintro r w2 ⟨rfl,hb2⟩;have hz2:=hb2.size;obtain ⟨hc2,hf2⟩:=bcell hb2;have hc3:∀ b o,b<w.heap.size+1+1→w2.cell? ⟨b,o,none⟩=w1.cell? ⟨b,o,none⟩:=fun b o h=>hc2 b o (by omega)
  have B2:=qsd hb2;clear hb2 hc2 hf2
  go_wp2_with fail
  refine (HN.out _).mono ?_;rintro r w3 ⟨rfl,rfl⟩;go_wp2
  go_ret2
  exact ⟨by first | rfl | simp,((((Below.refl _ w).alloc (Nat.le_refl _) _).alloc (by simp) _).trans (B1.out.mono (by simp;omega))).trans (B2.out.mono (by omega))⟩
 have way9:¬ (0<n)→b=0→0<u→¬ (0<d)→Calls Tryz.prog 29 #[.agg #[.int .i64 n,.int .i64 u,.int .i64 d,.int .i64 m,.int .i64 p,.int .i64 l],.agg #[.int .i64 a,.int .i64 b]] w fun r w'=>r=.returned (.tuple #[.float .f64 (vd true n u d a b).1,.bool (vd true n u d a b).2])∧Below w.heap.size w w':=by
  intro p1 p3 p4 p5;have hv:vd true n u d a b=(9218868437227405312,true):=by unfold vd;rw [if_neg (by decide),if_neg (fun h=>p1 h.1),if_neg (not_not_intro p3),if_neg (fun h=>p5 h.2),if_pos p4]
  rw [hv];clear hv;have q1:decide (0<n)=false:=decide_eq_false p1;have q3:b=0:=p3;have q4:0<u:=p4;have q5:decide (0<d)=false:=decide_eq_false p5;subst q3;go_enter Tryz.func29,Tryz.ntmps29
  go_wp2_with fail
  refine (HS.out _).mono ?_;rintro r w1 ⟨rfl,hb1⟩;have hz1:=hb1.size;simp at hz1;obtain ⟨hc1,hf1⟩:=bcell hb1;have B1:=qsd hb1;clear hb1
  go_wp2_with fail
  refine (HM.out _).mono ?_;rintro r w2 ⟨rfl,hb2⟩;have hz2:=hb2.size;obtain ⟨hc2,hf2⟩:=bcell hb2;have hc3:∀ b o,b<w.heap.size+1+1→w2.cell? ⟨b,o,none⟩=w1.cell? ⟨b,o,none⟩:=fun b o h=>hc2 b o (by omega)
  have B2:=qsd hb2;clear hb2 hc2 hf2
  go_wp2_with fail
  refine (HU.out _).mono ?_;rintro r w3 ⟨rfl,rfl⟩;go_wp2
  go_ret2
  exact ⟨by first | rfl | simp,((((Below.refl _ w).alloc (Nat.le_refl _) _).alloc (by simp) _).trans (B1.out.mono (by simp;omega))).trans (B2.out.mono (by omega))⟩
 have way10:¬ (0<n)→b=0→¬ (0<u)→0<d→Calls Tryz.prog 29 #[.agg #[.int .i64 n,.int .i64 u,.int .i64 d,.int .i64 m,.int .i64 p,.int .i64 l],.agg #[.int .i64 a,.int .i64 b]] w fun r w'=>r=.returned (.tuple #[.float .f64 (vd true n u d a b).1,.bool (vd true n u d a b).2])∧Below w.heap.size w w':=by
  intro p1 p3 p4 p5;have hv:vd true n u d a b=(18442240474082181120,true):=by unfold vd;rw [if_neg (by decide),if_neg (fun h=>p1 h.1),if_neg (not_not_intro p3),if_neg (fun h=>p4 h.1),if_neg p4,if_pos p5]
  rw [hv];clear hv;have q1:decide (0<n)=false:=decide_eq_false p1;have q3:b=0:=p3;have q4:decide (0<u)=false:=decide_eq_false p4;have q5:0<d:=p5;subst q3;go_enter Tryz.func29,Tryz.ntmps29
  go_wp2_with fail
  refine (HS.out _).mono ?_;rintro r w1 ⟨rfl,hb1⟩;have hz1:=hb1.size;simp at hz1;obtain ⟨hc1,hf1⟩:=bcell hb1;have B1:=qsd hb1;clear hb1
  go_wp2_with fail
  refine (HM.out _).mono ?_;rintro r w2 ⟨rfl,hb2⟩;have hz2:=hb2.size;obtain ⟨hc2,hf2⟩:=bcell hb2;have hc3:∀ b o,b<w.heap.size+1+1→w2.cell? ⟨b,o,none⟩=w1.cell? ⟨b,o,none⟩:=fun b o h=>hc2 b o (by omega)
  have B2:=qsd hb2;clear hb2 hc2 hf2
  go_wp2_with fail
  refine (HD.out _).mono ?_;rintro r w3 ⟨rfl,rfl⟩;go_wp2
  go_ret2
  exact ⟨by first | rfl | simp,((((Below.refl _ w).alloc (Nat.le_refl _) _).alloc (by simp) _).trans (B1.out.mono (by simp;omega))).trans (B2.out.mono (by omega))⟩
 have way11:¬ (0<n)→b=0→¬ (0<u)→¬ (0<d)→Calls Tryz.prog 29 #[.agg #[.int .i64 n,.int .i64 u,.int .i64 d,.int .i64 m,.int .i64 p,.int .i64 l],.agg #[.int .i64 a,.int .i64 b]] w fun r w'=>r=.returned (.tuple #[.float .f64 (vd true n u d a b).1,.bool (vd true n u d a b).2])∧Below w.heap.size w w':=by
  intro p1 p3 p4 p5;have hv:vd true n u d a b=(0,false):=by unfold vd;rw [if_neg (by decide),if_neg (fun h=>p1 h.1),if_neg (not_not_intro p3),if_neg (fun h=>p4 h.1),if_neg p4,if_neg p5]
  rw [hv];clear hv;have q1:decide (0<n)=false:=decide_eq_false p1;have q3:b=0:=p3;have q4:decide (0<u)=false:=decide_eq_false p4;have q5:decide (0<d)=false:=decide_eq_false p5;subst q3;go_enter Tryz.func29,Tryz.ntmps29
  go_wp2_with fail
  refine (HS.out _).mono ?_;rintro r w1 ⟨rfl,hb1⟩;have hz1:=hb1.size;simp at hz1;obtain ⟨hc1,hf1⟩:=bcell hb1;have B1:=qsd hb1;clear hb1
  go_wp2_with fail
  refine (HM.out _).mono ?_;rintro r w2 ⟨rfl,hb2⟩;have hz2:=hb2.size;obtain ⟨hc2,hf2⟩:=bcell hb2;have hc3:∀ b o,b<w.heap.size+1+1→w2.cell? ⟨b,o,none⟩=w1.cell? ⟨b,o,none⟩:=fun b o h=>hc2 b o (by omega)
  have B2:=qsd hb2;clear hb2 hc2 hf2;go_wp2
  go_ret2
  exact ⟨by first | rfl | simp,((((Below.refl _ w).alloc (Nat.le_refl _) _).alloc (by simp) _).trans (B1.out.mono (by simp;omega))).trans (B2.out.mono (by omega))⟩
 by_cases p1:0<n
 · by_cases p2:a=0
   · exact way1 p1 p2
   · by_cases p3:b=0
     · by_cases p4:0<u <;> by_cases p5:0<d
       · exact way3 p1 p2 p3 p4 p5
       · exact way4 p1 p2 p3 p4 p5
       · exact way5 p1 p2 p3 p4 p5
       · exact way6 p1 p2 p3 p4 p5
     · exact way2 p1 p2 p3
 · by_cases p3:b=0
   · by_cases p4:0<u <;> by_cases p5:0<d
     · exact way8 p1 p3 p4 p5
     · exact way9 p1 p3 p4 p5
     · exact way10 p1 p3 p4 p5
     · exact way11 p1 p3 p4 p5
   · exact way7 p1 p3
end
section
open Go.RowKit
open Go.Proofs.YtjldfhecnaiinaaGreatDoor.B (f64bits f64frombits bw bcell)
attribute [local go_sem] f64bits f64frombits
theorem Nought_any (n u d m p l mode:Int) (w:World):Calls Tryz.prog 71 #[.agg #[.int .i64 n,.int .i64 u,.int .i64 d,.int .i64 m,.int .i64 p,.int .i64 l],.int .i64 mode] w fun r w'=>r=.returned (.float .f64 (nt (snd n u d m p l) n u d m p l mode))∧Below w.heap.size w w':=by
 have HS:=hid (sound_any n u d m p l);have HM:=hid (minus_any)
 rcases hs:snd n u d m p l with _|_
 · rw [hs] at HS
   have hv:nt false n u d m p l mode=0:=if_pos rfl;rw [hv];clear hs hv;go_enter Tryz.func71,Tryz.ntmps71
   go_wp2_with fail
   refine (HS.out _).mono ?_;rintro r w1 ⟨rfl,hb1⟩;have hz1:=hb1.size;simp at hz1;obtain ⟨hc1,hf1⟩:=bcell hb1;have B1:=qsd hb1;clear hb1;go_wp2;go_ret;exact ⟨by first | rfl | simp,((Below.refl _ w).alloc (Nat.le_refl _) _).trans (B1.out.mono (by simp))⟩
 have bd:=snd_bd hs;rw [hs] at HS;obtain ⟨f,hf⟩:∃ f,l-n-u-d=f:=⟨_,rfl⟩;have hfb:-9223372036854775808≤f∧f≤9223372036854775807:=by omega
 have hb1:0≤n∧n≤1099511627776:=bd.1;have hb2:0≤u∧u≤1099511627776:=bd.2.1;have hb3:0≤d∧d≤1099511627776:=bd.2.2.1;have hb4:0≤l∧l≤1099511627776:=bd.2.2.2;unfold nt;rw [if_neg (by decide),hf]
 clear hs bd
 by_cases p1:f=0
 · rw [if_pos p1]
   have q1:(f==0)=true:=by rw [beq_iff_eq];exact p1
   clear p1;go_enter Tryz.func71,Tryz.ntmps71
   go_wp2_with fail
   refine (HS.out _).mono ?_;rintro r w1 ⟨rfl,hb1⟩;have hz1:=hb1.size;simp at hz1;obtain ⟨hc1,hf1⟩:=bcell hb1;have B1:=qsd hb1;clear hb1
   go_wp2_with fail
   refine (HM.out _).mono ?_;rintro r w3 ⟨rfl,rfl⟩;go_wp2;go_ret;exact ⟨by first | rfl | simp,((Below.refl _ w).alloc (Nat.le_refl _) _).trans (B1.out.mono (by simp))⟩
 rw [if_neg p1];have q1:(f==0)=false:=by rw [beq_eq_false_iff_ne];exact p1
 clear p1
 by_cases p2:m=f
 · rw [if_pos p2]
   have q2:(m==f)=true:=by rw [beq_iff_eq];exact p2
   clear p2;go_enter Tryz.func71,Tryz.ntmps71
   go_wp2_with fail
   refine (HS.out _).mono ?_;rintro r w1 ⟨rfl,hb1⟩;have hz1:=hb1.size;simp at hz1;obtain ⟨hc1,hf1⟩:=bcell hb1;have B1:=qsd hb1;clear hb1
   go_wp2_with fail
   refine (HM.out _).mono ?_;rintro r w3 ⟨rfl,rfl⟩;go_wp2;go_ret;exact ⟨by first | rfl | simp,((Below.refl _ w).alloc (Nat.le_refl _) _).trans (B1.out.mono (by simp))⟩
 rw [if_neg p2];have q2:(m==f)=false:=by rw [beq_eq_false_iff_ne];exact p2
 clear p2
 by_cases p3:p=f
 · rw [if_pos p3]
   have q3:(p==f)=true:=by rw [beq_iff_eq];exact p3
   clear p3;go_enter Tryz.func71,Tryz.ntmps71
   go_wp2_with fail
   refine (HS.out _).mono ?_;rintro r w1 ⟨rfl,hb1⟩;have hz1:=hb1.size;simp at hz1;obtain ⟨hc1,hf1⟩:=bcell hb1;have B1:=qsd hb1;clear hb1
   go_wp2_with fail
   refine (HM.out _).mono ?_;rintro r w3 ⟨rfl,rfl⟩;go_wp2;go_ret;exact ⟨by first | rfl | simp,((Below.refl _ w).alloc (Nat.le_refl _) _).trans (B1.out.mono (by simp))⟩
 rw [if_neg p3];have q3:(p==f)=false:=by rw [beq_eq_false_iff_ne];exact p3
 clear p3
 by_cases p4:mode=3
 · rw [if_pos p4]
   subst p4;go_enter Tryz.func71,Tryz.ntmps71
   go_wp2_with fail
   refine (HS.out _).mono ?_;rintro r w1 ⟨rfl,hb1⟩;have hz1:=hb1.size;simp at hz1;obtain ⟨hc1,hf1⟩:=bcell hb1;have B1:=qsd hb1;clear hb1
   go_wp2_with fail
   refine (HM.out _).mono ?_;rintro r w3 ⟨rfl,rfl⟩;go_wp2;go_ret;exact ⟨by first | rfl | simp,((Below.refl _ w).alloc (Nat.le_refl _) _).trans (B1.out.mono (by simp))⟩
 · rw [if_neg p4]
   have q4:(mode==3)=false:=by rw [beq_eq_false_iff_ne];exact p4
   clear p4;go_enter Tryz.func71,Tryz.ntmps71
   go_wp2_with fail
   refine (HS.out _).mono ?_;rintro r w1 ⟨rfl,hb1⟩;have hz1:=hb1.size;simp at hz1;obtain ⟨hc1,hf1⟩:=bcell hb1;have B1:=qsd hb1;clear hb1
   go_wp2_with fail
   refine (HM.out _).mono ?_;rintro r w3 ⟨rfl,rfl⟩;go_wp2;go_ret;exact ⟨by first | rfl | simp,((Below.refl _ w).alloc (Nat.le_refl _) _).trans (B1.out.mono (by simp))⟩
end
section
open Go.RowKit
theorem rMade_any {w:World}{a:Option Addr}{n c:Nat}{xs:List Nat}(h1:Arg w a n c xs) (hn:n≤2000000) (neg:Bool) (e:Int) (he0:-9223372036854775808≤e) (he1:e≤9223372036854775807) :
 Calls Tryz.prog 59 #[.agg #[.bool neg,.slice a n c,.int .i64 e]] w fun r w'=>FAns w.heap.size w' r (mkS neg (val xs) e)∧Below w.heap.size w w':=by
 have HB:=qsd (show Below w.heap.size w ((w.alloc (.cells #[.bool neg,.slice a n c,.int .i64 e] 41)).alloc (.cells #[.bool false,.slice none 0 0,.int .i64 0] 41)) from (((Below.refl _ _).alloc (Nat.le_refl _) _).alloc (by simp) _))
 have H1:=hid (rForm_any (h1.below HB.out) hn neg e he0 he1);have hl:=mkS_len neg (val xs) e;obtain ⟨o,ho⟩:∃ o,mkS neg (val xs) e=o:=⟨_,rfl⟩;rw [ho] at H1 hl ⊢;unfold FAns at H1 ⊢;obtain ⟨dn,hdn⟩:∃ d,dN o=d:=⟨_,rfl⟩;obtain ⟨X,hdx⟩:∃ d,dX o=d:=⟨_,rfl⟩;obtain ⟨de,hde⟩:∃ d,dE o=d:=⟨_,rfl⟩;obtain ⟨er,her⟩:∃ d,o.isSome=d:=⟨_,rfl⟩;rw [hdn,hdx,hde,her] at H1 ⊢;rw [hdx] at hl;clear h1 ho hdn hdx hde her hn he0 he1;go_enter Tryz.func59,Tryz.ntmps59
 go_wp2_with fail
 refine H1.out.mono ?_;rintro r w2 ⟨⟨v,rfl,hN⟩,hb⟩;obtain ⟨a2,c2,rfl,_⟩:=hN.arg (by omega)
 obtain ⟨hc,hf⟩:=bcell hb;have HF:=qsd (Fin.of 2 HB.out (by simp) hN hb)
 have hz:w.heap.size+1<w2.heap.size:=by have:=hb.size;simp at this;omega
 clear hN hb;go_wp2;exact bodyPost_ret (v:=.tuple #[.agg #[.bool dn,.slice a2 (ws X).length c2,.int .i64 de],.bool er]) (by simp [results,Tryz.results59,go_sem,hc]) rfl (Fin.dans (m:=w.heap.size+2) (by repeat (first | exact HF.out | refine Fin.alloc ?_ _ | refine Fin.set ?_ _ _ _ (by omega) (by omega))) (by omega))
theorem form_any {w:World}{a:Option Addr}{n c:Nat}{xs:List Nat}(h1:Arg w a n c xs) (hT:Tab w) (neg:Bool) (e:Int) (he0:-9223372036854775808≤e) (he1:e≤9223372036854775807) :
 Calls Tryz.prog 84 #[.agg #[.bool neg,.slice a n c,.int .i64 e]] w fun r w'=>DAns w.heap.size w' r (mkS neg (val xs) e)∧Below w.heap.size w w':=by
 have HB:=qsd (show Below w.heap.size w ((w.alloc (.cells #[.bool neg,.slice a n c,.int .i64 e] 41)).alloc (.cells #[.bool false,.slice none 0 0,.int .i64 0] 41)) from (((Below.refl _ _).alloc (Nat.le_refl _) _).alloc (by simp) _))
 have H1:=hid (Make_any (h1.below HB.out) (hT.belows HB.out) neg e he0 he1);have hl:=mkS_len neg (val xs) e;obtain ⟨o,ho⟩:∃ o,mkS neg (val xs) e=o:=⟨_,rfl⟩;rw [ho] at H1 hl ⊢;unfold DAns at H1 ⊢;obtain ⟨dn,hdn⟩:∃ d,dN o=d:=⟨_,rfl⟩;obtain ⟨X,hdx⟩:∃ d,dX o=d:=⟨_,rfl⟩;obtain ⟨de,hde⟩:∃ d,dE o=d:=⟨_,rfl⟩;obtain ⟨er,her⟩:∃ d,erS o=d:=⟨_,rfl⟩;rw [hdn,hdx,hde,her] at H1 ⊢;rw [hdx] at hl;clear h1 ho hdn hdx hde her hT he0 he1;go_enter Tryz.func84,Tryz.ntmps84
 go_wp2_with fail
 refine H1.out.mono ?_;rintro r w2 ⟨⟨v,rfl,hN⟩,hb⟩;obtain ⟨a2,c2,rfl,_⟩:=hN.arg (by omega)
 obtain ⟨hc,hf⟩:=bcell hb;have HF:=qsd (Fin.of 2 HB.out (by simp) hN hb)
 have hz:w.heap.size+1<w2.heap.size:=by have:=hb.size;simp at this;omega
 clear hN hb;go_wp2;exact bodyPost_ret (v:=.tuple #[.agg #[.bool dn,.slice a2 (ws X).length c2,.int .i64 de],.int .i64 er]) (by simp [results,Tryz.results84,go_sem,hc]) rfl (Fin.dans (m:=w.heap.size+2) (by repeat (first | exact HF.out | refine Fin.alloc ?_ _ | refine Fin.set ?_ _ _ _ (by omega) (by omega))) (by omega))
def DVal (lo:Nat) (w:World) (r:Ending) (o:Option (Bool×Nat×Int)):Prop :=
 ∃ v,r=.returned (.agg #[.bool (dN o),v,.int .i64 (dE o)])∧Nt lo w v (dX o)
theorem Fin.dval {lo m:Nat}{w0 w:World}{n:Bool}{v:Value}{X:Nat}{e:Int}(H:Fin lo m w0 w v X) (h:lo≤m) :
 (∃ v',Ending.returned (.agg #[.bool n,v,.int .i64 e])=.returned (.agg #[.bool n,v',.int .i64 e])∧Nt lo w v' X)∧Below lo w0 w:=⟨⟨v,rfl,H.nt.mono h⟩,H.bel⟩
theorem turned_any (a:Option Addr) (n c:Nat) (neg:Bool) (e:Int) (w:World) :
 Calls Tryz.prog 85 #[.agg #[.bool neg,.slice a n c,.int .i64 e]] w fun r w'=>r=.returned (.agg #[.bool (!neg),.slice a n c,.int .i64 e])∧Below w.heap.size w w':=by
 go_enter Tryz.func85,Tryz.ntmps85;go_wp2;exact bodyPost_ret (v:=.agg #[.bool (!neg),.slice a n c,.int .i64 e]) (by simp [results,Tryz.results85,go_sem]) rfl ⟨rfl,by repeat (first | exact Below.refl _ _ | refine Below.alloc ?_ (by first | omega | simp) _ | refine Below.setC ?_ _ _ _ (by omega) (by simp))⟩
theorem Neg_any {w:World}{a:Option Addr}{n c:Nat}{xs:List Nat}(h1:Arg w a n c xs) (hT:Tab w) (neg:Bool) (e:Int) (he0:-9223372036854775808≤e) (he1:e≤9223372036854775807) :
 Calls Tryz.prog 45 #[.agg #[.bool neg,.slice a n c,.int .i64 e]] w fun r w'=>DVal w.heap.size w' r (mkS (!neg) (val xs) e)∧Below w.heap.size w w':=by
 have HB:=qsd (show Below w.heap.size w ((w.alloc (.cells #[.bool neg,.slice a n c,.int .i64 e] 41)).alloc (.cells #[.bool false,.slice none 0 0,.int .i64 0] 41)) from (((Below.refl _ _).alloc (Nat.le_refl _) _).alloc (by simp) _))
 have T1:=hid (turned_any a n c neg e ((w.alloc (.cells #[.bool neg,.slice a n c,.int .i64 e] 41)).alloc (.cells #[.bool false,.slice none 0 0,.int .i64 0] 41)))
 have F1:Hid (∀ u,Below w.heap.size w u→Calls Tryz.prog 84 #[.agg #[.bool (!neg),.slice a n c,.int .i64 e]] u fun r w'=>DAns u.heap.size w' r (mkS (!neg) (val xs) e)∧Below u.heap.size u w') :=
  fun u hu=>form_any (h1.below hu) (hT.belows hu) (!neg) e he0 he1
 have hl:=mkS_len (!neg) (val xs) e;obtain ⟨o,ho⟩:∃ o,mkS (!neg) (val xs) e=o:=⟨_,rfl⟩;rw [ho] at F1 hl ⊢;unfold DAns at F1;unfold DVal;obtain ⟨dn,hdn⟩:∃ d,dN o=d:=⟨_,rfl⟩;obtain ⟨X,hdx⟩:∃ d,dX o=d:=⟨_,rfl⟩;obtain ⟨de,hde⟩:∃ d,dE o=d:=⟨_,rfl⟩;obtain ⟨er,her⟩:∃ d,erS o=d:=⟨_,rfl⟩;rw [hdn,hdx,hde,her] at F1;rw [hdn,hdx,hde];rw [hdx] at hl;clear h1 ho hdn hdx hde her hT he0 he1;go_enter Tryz.func45,Tryz.ntmps45
 go_wp2_with fail
 refine T1.out.mono ?_;rintro r w1 ⟨rfl,hb1⟩;have hbw:=HB.out.trans (hb1.mono (by simp;omega))
 have H1:=hid (F1.out w1 hbw);have hz1:w.heap.size+2≤w1.heap.size:=by have:=hb1.size;simp at this;omega
 have SB1:=(qsd (ai hb1 hbw));clear hb1 hbw
 go_wp2_with fail
 refine H1.out.mono ?_;rintro r w2 ⟨⟨v,rfl,hN⟩,hb⟩;obtain ⟨a2,c2,rfl,_⟩:=hN.arg (by omega)
 have hbb:=SB1.out.1.trans (hb.mono (by simp;omega))
 obtain ⟨hc,hf⟩:=bcell hbb;have HF:=qsd (show Fin w.heap.size (w.heap.size+2) w w2 (.slice a2 (ws X).length c2) X from ⟨hN.mono hz1,SB1.out.2.trans (hb.mono (by omega)),by have:=hb.size;omega⟩)
 have hz:w.heap.size+1<w2.heap.size:=by have:=hb.size;omega
 clear hN hb hbb;go_wp2;exact bodyPost_ret (v:=.agg #[.bool dn,.slice a2 (ws X).length c2,.int .i64 de]) (by simp [results,Tryz.results45,go_sem,hc,hz]) rfl (Fin.dval (m:=w.heap.size+2) (by repeat (first | exact HF.out | refine Fin.alloc ?_ _ | refine Fin.set ?_ _ _ _ (by omega) (by omega))) (by omega))
end
namespace B
open Go.RowKit
attribute [local go_sem] f64bits f64frombits
theorem eqParts (a c:Bool) (k l x y f g:Int) (w:World):(Op.equalIn 10000 128 (.agg #[.bool a,.int .i64 k,.int .i64 x,.int .u64 f]) (.agg #[.bool c,.int .i64 l,.int .i64 y,.int .u64 g])).run Tryz.prog w=.ok (a==c&&(k==l&&(x==y&&f==g))) w:=by
 have u3:=Tryz.underlying3;have u4:=Tryz.underlying4;have u23:=Tryz.underlying57;have hS:Tryz.prog.underlying 128=some (.struct (Tryz.prog.fieldsOf 128)):=by kernel_rfl
 have hp:Tryz.prog.stoodInHeld 128=false:=by kernel_rfl
 rw [show (10000:Nat)=9999+1 from rfl,run_equalIn_agg w 9999 128 _ _ hS hp]
 simp only [Program.fieldsOf,Tryz.underlying128]
 go_simp
 by_cases h1:a=c <;> by_cases h2:k=l <;> by_cases h3:x=y <;> by_cases h4:f=g <;> simp [h1,h2,h3,h4]
attribute [local go_sem] eqParts
theorem fld0 (a:Bool) (k x f:Int) (w:World):(Instr.field 128 (.agg #[.bool a,.int .i64 k,.int .i64 x,.int .u64 f]) 0).run Tryz.prog w=.ok (.bool a) w:=by kernel_rfl
theorem fld1 (a:Bool) (k x f:Int) (w:World):(Instr.field 128 (.agg #[.bool a,.int .i64 k,.int .i64 x,.int .u64 f]) 1).run Tryz.prog w=.ok (.int .i64 k) w:=by kernel_rfl
theorem fld2 (a:Bool) (k x f:Int) (w:World):(Instr.field 128 (.agg #[.bool a,.int .i64 k,.int .i64 x,.int .u64 f]) 2).run Tryz.prog w=.ok (.int .i64 x) w:=by kernel_rfl
theorem fld3 (a:Bool) (k x f:Int) (w:World):(Instr.field 128 (.agg #[.bool a,.int .i64 k,.int .i64 x,.int .u64 f]) 3).run Tryz.prog w=.ok (.int .u64 f) w:=by kernel_rfl
attribute [local go_sem] fld0 fld1 fld2 fld3
theorem parts_lit (s:Bool) (e f:Nat) (he:e<2048) (hf:f<4503599627370496) (w:World) :
 Calls Tryz.prog 164 #[.int .u64 (bw s e f),.int .i64 11,.int .i64 52] w fun r w'=>r=.returned (.agg #[.bool (ng s e f),.int .i64 (cls e f),.int .i64 (xp e),.int .u64 (fr e f)])∧Below w.heap.size w w' :=
 parts_any s e f he hf w
theorem cb_bw (s:Bool) (e f:Nat) (he:e<2048) (hf:f<4503599627370496):∃ t u v,u<2048∧v<4503599627370496∧cb s e f=bw t u v∧(Value.agg #[.bool (ng t u v),.int .i64 (cls u v),.int .i64 (xp u),.int .u64 (fr u v)])=(.agg #[.bool (ng s e f),.int .i64 (cls e f),.int .i64 (xp e),.int .u64 (fr e f)]):=by
 by_cases h:e=2047∧f≠0
 · refine ⟨false,2047,2251799813685248,by omega,by omega,?_,?_⟩
   · rw [cb_odd s e f h];rfl
   · obtain ⟨rfl,h2⟩:=h
     simp [ng,cls,xp,fr,h2]
 · exact ⟨s,e,f,he,hf,cb_else s e f h,rfl⟩
theorem rSplit_any (s:Bool) (e f:Nat) (he:e<2048) (hf:f<4503599627370496) (w:World) :
 Calls Tryz.prog 129 #[.float .f64 (bw s e f)] w fun r w'=>r=.returned (.agg #[.bool (ng s e f),.int .i64 (cls e f),.int .i64 (xp e),.int .u64 (fr e f)])∧Below w.heap.size w w':=by
 obtain ⟨t,u,v,hu,hv,hE,hV⟩:=cb_bw s e f he hf;have HE:Hid (cb s e f=bw t u v):=hE;rw [←hV];clear hE hV;go_enter Tryz.func129,Tryz.ntmps129
 go_wp2_with (first
  | (go_at_call 165;refine (rBits_any s e f he hf _).mono ?_;rintro r w1 ⟨rfl,rfl⟩;rw [HE.out])
  | (go_at_call 164;refine (parts_lit t u v hu hv _).mono ?_;rintro r w1 ⟨rfl,hb⟩;(obtain ⟨hc,hfz⟩:=bcell hb;have hz:w.heap.size<w1.heap.size:=by (have:=hb.size;simp at this;omega))))
 exact bodyPost_ret (v:=.agg #[.bool (ng t u v),.int .i64 (cls u v),.int .i64 (xp u),.int .u64 (fr u v)]) (by simp [results,Tryz.results129,go_sem,hc]) rfl ⟨rfl,(by repeat (first | exact Below.refl _ _ | exact ((Below.refl _ _).alloc (Nat.le_refl _) _).trans (hb.mono (by simp)) | exact Nat.le_refl _ | (simp;done) | (simp;omega) | refine Below.alloc ?_ ?_ _ | refine Below.setCell ?_ ?_ _ | refine Below.drew ?_))⟩
theorem rClass_any (s:Bool) (e f:Nat) (he:e<2048) (hf:f<4503599627370496) (w:World) :
 Calls Tryz.prog 89 #[.float .f64 (bw s e f)] w fun r w'=>r=.returned (.int .i64 (cls e f))∧Below w.heap.size w w':=by
 go_enter Tryz.func89,Tryz.ntmps89
 go_wp2_with (go_at_call 129;refine (rSplit_any s e f he hf _).mono ?_;rintro r w1 ⟨rfl,hb⟩)
 go_ret;exact ⟨rfl,hb⟩
theorem Same_any (s t:Bool) (e f u v:Nat) (he:e<2048) (hf:f<4503599627370496) (hu:u<2048) (hv:v<4503599627370496) (w:World) :
 Calls Tryz.prog 142 #[.float .f64 (bw s e f),.float .f64 (bw t u v)] w fun r w'=>r=.returned (.bool (decide (cb s e f=cb t u v)))∧w'=w:=by
 cases h1:odd e f
 · cases h2:odd u v
   · have h3:((bw s e f:Int)==(bw t u v:Int))=decide (cb s e f=cb t u v):=by
      rw [cb_else s e f (not_odd e f h1),cb_else t u v (not_odd u v h2),Bool.eq_iff_iff];simp;omega
     go_enter Tryz.func142,Tryz.ntmps142
     go_wp2_with fail
     refine (isNaN_any s e f he hf _).mono ?_;rintro r w1 ⟨rfl,rfl⟩
     go_wp2_with fail
     refine (isNaN_any t u v hu hv _).mono ?_;rintro r w1 ⟨rfl,rfl⟩
     go_wp2_with fail
     go_ret;exact ⟨rfl,rfl⟩
   · have h3:decide (cb s e f=cb t u v)=false:=by
      rw [cb_else s e f (not_odd e f h1),cb_odd t u v (is_odd u v h2)];exact decide_eq_false (bw_ne_nan s e f he hf h1)
     rw [h3];clear h3;go_enter Tryz.func142,Tryz.ntmps142
     go_wp2_with fail
     refine (isNaN_any s e f he hf _).mono ?_;rintro r w1 ⟨rfl,rfl⟩
     go_wp2_with fail
     refine (isNaN_any t u v hu hv _).mono ?_;rintro r w1 ⟨rfl,rfl⟩
     go_wp2_with fail
     refine (isNaN_any s e f he hf _).mono ?_;rintro r w1 ⟨rfl,rfl⟩
     go_wp2_with fail
     go_ret;exact ⟨rfl,rfl⟩
 · have h3:decide (cb s e f=cb t u v)=odd u v:=by
    rw [cb_odd s e f (is_odd e f h1)]
    cases h2:odd u v
    · rw [cb_else t u v (not_odd u v h2)]
      exact decide_eq_false (fun h=>bw_ne_nan t u v hu hv h2 h.symm)
    · rw [cb_odd t u v (is_odd u v h2)];rfl
   rw [h3];clear h3;go_enter Tryz.func142,Tryz.ntmps142
   go_wp2_with fail
   refine (isNaN_any s e f he hf _).mono ?_;rintro r w1 ⟨rfl,rfl⟩
   go_wp2_with fail
   refine (isNaN_any s e f he hf _).mono ?_;rintro r w1 ⟨rfl,rfl⟩
   go_wp2_with fail
   refine (isNaN_any t u v hu hv _).mono ?_;rintro r w1 ⟨rfl,rfl⟩
   go_wp2_with fail
   go_ret;exact ⟨rfl,rfl⟩
end B
namespace B
open Go.RowKit
attribute [local go_sem] f64bits f64frombits
theorem ret_bool {a b:Bool}(h:a=b):Ending.returned (.bool a)=.returned (.bool b):=by rw [h]
theorem sign_any (s:Bool) (e f:Nat) (he:e<2048) (hf:f<4503599627370496) (w:World) :
 Calls Tryz.prog 144 #[.float .f64 (bw s e f)] w fun r w'=>r=.returned (.bool s)∧w'=w:=by
 have hl:=bw_lt s e f he hf
 cases s
 · have h1:bw false e f<9223372036854775808:=by unfold bw;simp only [Bool.toNat_false];omega
   go_enter Tryz.func144,Tryz.ntmps144;go_wp2;go_ret;exact ⟨ret_bool (decide_eq_false (by omega)),rfl⟩
 · have h1:9223372036854775808≤bw true e f:=by unfold bw;simp only [Bool.toNat_true];omega
   go_enter Tryz.func144,Tryz.ntmps144;go_wp2;go_ret;exact ⟨ret_bool (decide_eq_true (by unfold wrap64;omega)),rfl⟩
theorem abs_any (s:Bool) (e f:Nat) (he:e<2048) (hf:f<4503599627370496) (w:World) :
 Calls Tryz.prog 222 #[.float .f64 (bw s e f)] w fun r w'=>r=.returned (.float .f64 (bw false e f))∧w'=w:=by
 have h1:=abs_bw s e f he hf;go_enter Tryz.func222,Tryz.ntmps222;go_wp2;go_ret;exact ⟨rfl,rfl⟩
theorem order_any (s t:Bool) (e f u v:Nat) (he:e<2048) (hf:f<4503599627370496) (hu:u<2048) (hv:v<4503599627370496) (w:World) :
 Calls Tryz.prog 106 #[.float .f64 (bw s e f),.float .f64 (bw t u v)] w fun r w'=>r=.returned (.int .i64 (oc (ky s e f) (ky t u v)))∧w'=w:=by
 have HS:=Same_any s t e f u v he hf hu hv;have hgt:=gt_f64 s t e f u v he hf hu hv;have hlt:=lt_f64 s t e f u v he hf hu hv
 cases hd:decide (cb s e f=cb t u v)
 · rw [hd] at HS
   have H2:Hid (∀ w,Calls Tryz.prog 142 #[.float .f64 (bw s e f),.float .f64 (bw t u v)] w fun r w'=>r=.returned (.bool false)∧w'=w):=HS
   have hne:=of_decide_eq_false hd;clear HS hd
   cases h1:odd e f
   · cases h2:odd u v
     · rw [h1,h2] at hgt hlt
       simp only [Bool.not_false,Bool.true_and] at hgt hlt;rw [cb_else s e f (not_odd e f h1),cb_else t u v (not_odd u v h2)] at hne
       by_cases c1:pl t u v<pl s e f
       · rw [oc_gt (ky_of_pl t s u v e f h2 h1 c1)]
         rw [decide_eq_true c1] at hgt;clear hne c1 hlt;go_enter Tryz.func106,Tryz.ntmps106
         go_wp2_with fail
         refine (H2.out _).mono ?_;rintro r w1 ⟨rfl,rfl⟩
         go_wp2_with fail
         refine (isNaN_any s e f he hf _).mono ?_;rintro r w1 ⟨rfl,rfl⟩
         go_wp2_with fail
         go_ret;exact ⟨rfl,rfl⟩
       · by_cases c2:pl s e f<pl t u v
         · rw [oc_lt (ky_of_pl s t e f u v h1 h2 c2)]
           rw [decide_eq_true c2] at hlt;rw [decide_eq_false c1] at hgt;clear hne c1 c2;go_enter Tryz.func106,Tryz.ntmps106
           go_wp2_with fail
           refine (H2.out _).mono ?_;rintro r w1 ⟨rfl,rfl⟩
           go_wp2_with fail
           refine (isNaN_any s e f he hf _).mono ?_;rintro r w1 ⟨rfl,rfl⟩
           go_wp2_with fail
           refine (isNaN_any t u v hu hv _).mono ?_;rintro r w1 ⟨rfl,rfl⟩
           go_wp2_with fail
           go_ret;exact ⟨rfl,rfl⟩
         · rw [decide_eq_false c1] at hgt
           rw [decide_eq_false c2] at hlt;have hk:=ky_zero s t e f u v h1 h2 hne (by omega)
           clear hne c1 c2
           cases s
           · rw [oc_gt (hk.1 rfl)]
             clear hk;go_enter Tryz.func106,Tryz.ntmps106
             go_wp2_with fail
             refine (H2.out _).mono ?_;rintro r w1 ⟨rfl,rfl⟩
             go_wp2_with fail
             refine (isNaN_any false e f he hf _).mono ?_;rintro r w1 ⟨rfl,rfl⟩
             go_wp2_with fail
             refine (isNaN_any t u v hu hv _).mono ?_;rintro r w1 ⟨rfl,rfl⟩
             go_wp2_with fail
             refine (sign_any false e f he hf _).mono ?_;rintro r w1 ⟨rfl,rfl⟩
             go_wp2_with fail
             go_ret;exact ⟨rfl,rfl⟩
           · rw [oc_lt (hk.2 rfl)]
             clear hk;go_enter Tryz.func106,Tryz.ntmps106
             go_wp2_with fail
             refine (H2.out _).mono ?_;rintro r w1 ⟨rfl,rfl⟩
             go_wp2_with fail
             refine (isNaN_any true e f he hf _).mono ?_;rintro r w1 ⟨rfl,rfl⟩
             go_wp2_with fail
             refine (isNaN_any t u v hu hv _).mono ?_;rintro r w1 ⟨rfl,rfl⟩
             go_wp2_with fail
             refine (sign_any true e f he hf _).mono ?_;rintro r w1 ⟨rfl,rfl⟩
             go_wp2_with fail
             go_ret;exact ⟨rfl,rfl⟩
     · rw [ky_odd t u v h2,oc_lt (ky_lt s e f he hf h1)]
       rw [h1,h2] at hgt hlt;simp only [Bool.not_false,Bool.true_and,Bool.not_true,Bool.false_and] at hgt hlt;clear hne hlt;go_enter Tryz.func106,Tryz.ntmps106
       go_wp2_with fail
       refine (H2.out _).mono ?_;rintro r w1 ⟨rfl,rfl⟩
       go_wp2_with fail
       refine (isNaN_any s e f he hf _).mono ?_;rintro r w1 ⟨rfl,rfl⟩
       go_wp2_with fail
       refine (isNaN_any t u v hu hv _).mono ?_;rintro r w1 ⟨rfl,rfl⟩
       go_wp2_with fail
       go_ret;exact ⟨rfl,rfl⟩
   · have h2:odd u v=false:=by
      cases h2:odd u v
      · rfl
      · exact absurd ((cb_odd s e f (is_odd e f h1)).trans (cb_odd t u v (is_odd u v h2)).symm) hne
     rw [ky_odd s e f h1,oc_gt (ky_lt t u v hu hv h2)];clear hne hgt hlt;go_enter Tryz.func106,Tryz.ntmps106
     go_wp2_with fail
     refine (H2.out _).mono ?_;rintro r w1 ⟨rfl,rfl⟩
     go_wp2_with fail
     refine (isNaN_any s e f he hf _).mono ?_;rintro r w1 ⟨rfl,rfl⟩
     go_wp2_with fail
     go_ret;exact ⟨rfl,rfl⟩
 · rw [hd] at HS
   have H2:Hid (∀ w,Calls Tryz.prog 142 #[.float .f64 (bw s e f),.float .f64 (bw t u v)] w fun r w'=>r=.returned (.bool true)∧w'=w):=HS
   rw [oc_eq (ky_of_cb s t e f u v he hf hu hv (of_decide_eq_true hd))];clear HS hd hgt hlt;go_enter Tryz.func106,Tryz.ntmps106
   go_wp2_with fail
   refine (H2.out _).mono ?_;rintro r w1 ⟨rfl,rfl⟩
   go_wp2_with fail
   go_ret;exact ⟨rfl,rfl⟩
end B
section
open Go.RowKit
attribute [local go_sem] B.eqParts B.fld0 B.fld1 B.fld2 B.fld3
def ofR (s:Bool) (e f:Nat):Option (Bool×Nat×Int):=if e=2047 then none else mkS s (if e=0 then f else f+4503599627370496) (if e=0 then -1074 else (e:Int)-1075)
def ofE (e:Nat):Int:=if e=2047 then 30 else 0
def OAns (lo:Nat) (w:World) (r:Ending) (o:Option (Bool×Nat×Int)) (er:Int):Prop :=
 ∃ v,r=.returned (.tuple #[.agg #[.bool (dN o),v,.int .i64 (dE o)],.int .i64 er])∧Nt lo w v (dX o)
theorem bl_le53 (X:Nat) (h:X<9007199254740992):bl X≤53:=by
 by_cases h0:X=0
 · subst h0;rw [bl_zero];omega
 · have:=(Nat.pow_lt_pow_iff_right (a:=2) (by omega)).1 (Nat.lt_of_le_of_lt (bl_ge X h0) (show X<2^53 from h))
   omega
theorem of_some (s:Bool) (X:Nat) (x:Int) (hX:X<9007199254740992) (h0:-1100≤x) (h1:x≤1000):∃ d,mkS s X x=some d:=by
 unfold mkS
 by_cases h:X=0
 · rw [if_pos h];exact ⟨_,rfl⟩
 · rw [if_neg h]
   obtain ⟨m,_,_,hb⟩:=odd_part X h;have:=bl_le53 X hX;rw [if_neg (by omega)]
   exact ⟨_,rfl⟩
end
section
open Go.RowKit
attribute [local go_sem] B.f64bits B.f64frombits
def num64 (k:Nat):Nat×Int:=if k/4503599627370496=0 then (k%4503599627370496,-1074) else (4503599627370496+k%4503599627370496,-1074+((k/4503599627370496:Nat):Int)-1)
theorem rNumber64_low (K:Int) (V:Nat) (w:World) (e1:K/4503599627370496=0) (hK0:0≤K) (hK1:K≤9218868437227405312)
 (HO:Hid (∀ u,Calls Tryz.prog 103 #[.int .u64 (K%4503599627370496)] u fun r w'=>∃ v,r=.returned v∧Nt u.heap.size w' v V∧Below u.heap.size u w')) :
 Calls Tryz.prog 130 #[.agg #[.int .i64 53,.int .i64 (-1074),.int .u64 9218868437227405312],.int .u64 K] w fun r w'=>∃ v,r=.returned (.tuple #[v,.int .i64 (-1074)])∧Nt w.heap.size w' v V∧Below w.heap.size w w':=by
 obtain ⟨W1,hW1⟩:∃ W,W=w.alloc (.cells #[.int .i64 53,.int .i64 (-1074),.int .u64 9218868437227405312] 110):=⟨_,rfl⟩;have P:W1.heap[w.heap.size]?=some (.cells #[.int .i64 53,.int .i64 (-1074),.int .u64 9218868437227405312] 110 (0,0)):=by rw [hW1,heap_alloc_new]
 have p1:W1.cell? ⟨w.heap.size,1,none⟩=some (.int .i64 (-1074)):=by simp [World.cell?,P]
 have hz:w.heap.size<W1.heap.size:=by rw [hW1];simp
 have HB:=qsd (show Below w.heap.size w W1 by rw [hW1];exact below_alloc w _)
 go_enter Tryz.func130,Tryz.ntmps130;go_wp2;rw [←hW1];clear hW1 P e1
 go_region_held3 (fun w'=>w'.cell? ⟨w.heap.size,1,none⟩=some (.int .i64 (-1074))) (go_keep) (first | (go_at_call 103;refine (HO.out _).mono ?_;rintro r w2 ⟨v,rfl,hN,hb⟩;have hb2:Below W1.heap.size W1 w2:=(by first | exact hb | exact ((Below.refl _ W1).drew).trans (hb.mono (Nat.le_refl _)));have p2:w2.cell? ⟨w.heap.size,1,none⟩=some (.int .i64 (-1074)):=(hb2.cell (p:=⟨w.heap.size,1,none⟩) hz).trans p1;have S2:=(qsd (ai hb2 hN));clear hb hb2 hN))
 all_goals (
  go_wp2
  go_simp
  go_ret2
  exact ⟨v,rfl,S2.out.2.mono (Nat.le_of_lt hz),HB.out.trans (S2.out.1.mono (Nat.le_of_lt hz))⟩)
theorem rNumber64_high (K q f g x y:Int) (V:Nat) (w:World) (e1:K/4503599627370496=q) (e2:K%4503599627370496=f) (e3:IntKind.u64.wrap (4503599627370496+f)=g) (e4:IntKind.i64.wrap q=q) (e5:IntKind.i64.wrap (-1074+q)=x) (e6:IntKind.i64.wrap (x-1)=y) (hK0:0≤K) (hK1:K≤9218868437227405312) (hq0:(q==0)=false)
 (HO:Hid (∀ u,Calls Tryz.prog 103 #[.int .u64 g] u fun r w'=>∃ v,r=.returned v∧Nt u.heap.size w' v V∧Below u.heap.size u w')) :
 Calls Tryz.prog 130 #[.agg #[.int .i64 53,.int .i64 (-1074),.int .u64 9218868437227405312],.int .u64 K] w fun r w'=>∃ v,r=.returned (.tuple #[v,.int .i64 y])∧Nt w.heap.size w' v V∧Below w.heap.size w w':=by
 obtain ⟨W1,hW1⟩:∃ W,W=w.alloc (.cells #[.int .i64 53,.int .i64 (-1074),.int .u64 9218868437227405312] 110):=⟨_,rfl⟩;have P:W1.heap[w.heap.size]?=some (.cells #[.int .i64 53,.int .i64 (-1074),.int .u64 9218868437227405312] 110 (0,0)):=by rw [hW1,heap_alloc_new]
 have p1:W1.cell? ⟨w.heap.size,1,none⟩=some (.int .i64 (-1074)):=by simp [World.cell?,P]
 have hz:w.heap.size<W1.heap.size:=by rw [hW1];simp
 have HB:=qsd (show Below w.heap.size w W1 by rw [hW1];exact below_alloc w _)
 go_enter Tryz.func130,Tryz.ntmps130;go_wp2;rw [←hW1]
 try simp only [e1,e2]
 clear hW1 P e1 e2 hK0 hK1
 go_region_held3 (fun w'=>w'.cell? ⟨w.heap.size,1,none⟩=some (.int .i64 (-1074))) (go_keep) (first | (go_at_call 103;refine (HO.out _).mono ?_;rintro r w2 ⟨v,rfl,hN,hb⟩;have hb2:Below W1.heap.size W1 w2:=(by first | exact hb | exact ((Below.refl _ W1).drew).trans (hb.mono (Nat.le_refl _)));have p2:w2.cell? ⟨w.heap.size,1,none⟩=some (.int .i64 (-1074)):=(hb2.cell (p:=⟨w.heap.size,1,none⟩) hz).trans p1;have S2:=(qsd (ai hb2 hN));clear hb hb2 hN))
 all_goals (
  go_wp2
  go_simp
  go_ret2
  exact ⟨v,rfl,S2.out.2.mono (Nat.le_of_lt hz),HB.out.trans (S2.out.1.mono (Nat.le_of_lt hz))⟩)
theorem rNumber64 (k:Nat) (hk:k≤9218868437227405312) (w:World) :
 Calls Tryz.prog 130 #[.agg #[.int .i64 53,.int .i64 (-1074),.int .u64 9218868437227405312],.int .u64 (k:Nat)] w fun r w'=>∃ v,r=.returned (.tuple #[v,.int .i64 (num64 k).2])∧Nt w.heap.size w' v (num64 k).1∧Below w.heap.size w w':=by
 unfold num64
 by_cases h0:k/4503599627370496=0
 · rw [if_pos h0]
   exact rNumber64_low (k:Int) (k%4503599627370496) w (by omega) (by omega) (by omega) (hid fun u=>by simpa using rOf_any (k%4503599627370496) u (by omega))
 · rw [if_neg h0]
   have hw:∀ n:Int,0≤n→n<18446744073709551616→IntKind.u64.wrap n=n:=fun n h1 h2=>by simp [IntKind.wrap,IntKind.bits,IntKind.signed];omega
   have hv:∀ n:Int,-4000≤n→n<4000→IntKind.i64.wrap n=n:=fun n h1 h2=>by simp [IntKind.wrap,IntKind.bits,IntKind.signed];omega
   have e3:(4503599627370496:Int)+((k%4503599627370496:Nat):Int)=((4503599627370496+k%4503599627370496:Nat):Int):=by omega
   exact rNumber64_high (k:Int) ((k/4503599627370496:Nat):Int) ((k%4503599627370496:Nat):Int) ((4503599627370496+k%4503599627370496:Nat):Int) (-1074+((k/4503599627370496:Nat):Int)) (-1074+((k/4503599627370496:Nat):Int)-1) (4503599627370496+k%4503599627370496) w (by omega) (by omega) (by rw [e3];exact hw _ (by omega) (by omega)) (hv _ (by omega) (by omega)) (hv _ (by omega) (by omega)) (hv _ (by omega) (by omega)) (by omega) (by omega) (beq_eq_false_iff_ne.2 (by omega)) (hid fun u=>rOf_any _ u (by omega))
theorem num64_bits (e f:Nat) (hf:f<4503599627370496):num64 (e*4503599627370496+f)=(if e=0 then f else f+4503599627370496,if e=0 then -1074 else (e:Int)-1075):=by
 have h1:(e*4503599627370496+f)/4503599627370496=e:=by omega
 have h2:(e*4503599627370496+f)%4503599627370496=f:=by omega
 unfold num64;rw [h1,h2]
 by_cases h:e=0
 · rw [if_pos h,if_pos h,if_pos h]
 · rw [if_neg h,if_neg h,if_neg h]
   refine Prod.ext (by simp;omega) (by simp;omega)
theorem of64_any (w:World):Calls Tryz.prog 90 #[] w fun r w'=>r=.returned (.agg #[.int .i64 53,.int .i64 (-1074),.int .u64 9218868437227405312])∧Below w.heap.size w w':=by
 go_enter Tryz.func90,Tryz.ntmps90;go_wp2;exact bodyPost_ret (v:=.agg #[.int .i64 53,.int .i64 (-1074),.int .u64 9218868437227405312]) (by simp [results,Tryz.results90,go_sem]) rfl ⟨rfl,by repeat (first | exact Below.refl _ _ | refine Below.alloc ?_ (by first | omega | simp) _ | refine Below.setC ?_ _ _ _ (by omega) (by simp))⟩
theorem rBits_wild (neg:Bool) (k:Int) (w:World) (hk:9218868437227405312≤k) (hk2:k<9223372036854775808) :
 Calls Tryz.prog 91 #[.agg #[.int .i64 53,.int .i64 (-1074),.int .u64 9218868437227405312],.bool neg,.int .u64 k] w fun r w'=>r=.returned (.tuple #[.agg #[.bool false,.slice none 0 0,.int .i64 0],.bool false])∧Below w.heap.size w w':=by
 have HB:=qsd (show Below w.heap.size w ((w.alloc (.cells #[.int .i64 53,.int .i64 (-1074),.int .u64 9218868437227405312] 110)).alloc (.cells #[.bool false,.slice none 0 0,.int .i64 0] 41)) from (below_alloc w _).alloc (by simp) _)
 go_enter Tryz.func91,Tryz.ntmps91;go_wp2;exact bodyPost_ret (v:=.tuple #[.agg #[.bool false,.slice none 0 0,.int .i64 0],.bool false]) (by simp [results,Tryz.results91,go_sem]) rfl ⟨rfl,HB.out⟩
theorem rBits_core (neg:Bool) (k:Int) (F:Nat) (x:Int) (w:World) (hk:k<9218868437227405312) (hF:F<9007199254740992) (hx0:-1100≤x) (hx1:x≤1000)
 (HN0:Hid (∀ u,Calls Tryz.prog 130 #[.agg #[.int .i64 53,.int .i64 (-1074),.int .u64 9218868437227405312],.int .u64 k] u fun r w'=>∃ v,r=.returned (.tuple #[v,.int .i64 x])∧Nt u.heap.size w' v F∧Below u.heap.size u w')) :
 Calls Tryz.prog 91 #[.agg #[.int .i64 53,.int .i64 (-1074),.int .u64 9218868437227405312],.bool neg,.int .u64 k] w fun r w'=>FAns w.heap.size w' r (mkS neg F x)∧Below w.heap.size w w':=by
 have HB:=qsd (show Below w.heap.size w ((w.alloc (.cells #[.int .i64 53,.int .i64 (-1074),.int .u64 9218868437227405312] 110)).alloc (.cells #[.bool false,.slice none 0 0,.int .i64 0] 41)) from (below_alloc w _).alloc (by simp) _)
 have HN:=hid (HN0.out ((w.alloc (.cells #[.int .i64 53,.int .i64 (-1074),.int .u64 9218868437227405312] 110)).alloc (.cells #[.bool false,.slice none 0 0,.int .i64 0] 41)));have hl:=mkS_len neg F x;have hFl:(ws F).length≤100:=by have:=ws_len_bl F;have:=bl_le53 F hF;omega
 have HM:Hid (∀ (u:World) (a:Option Addr) (c:Nat),Arg u a (ws F).length c (ws F)→Calls Tryz.prog 98 #[.bool neg,.slice a (ws F).length c,.int .i64 x] u fun r w'=>FAns u.heap.size w' r (mkS neg F x)∧Below u.heap.size u w'):=by
  intro u a c hA;have:=rForm_any hA (by omega) neg x (by omega) (by omega)
  rw [val_ws] at this;exact this
 obtain ⟨o,ho⟩:∃ o,mkS neg F x=o:=⟨_,rfl⟩;rw [ho] at HM hl ⊢;unfold FAns at HM ⊢;obtain ⟨dn,hdn⟩:∃ d,dN o=d:=⟨_,rfl⟩;obtain ⟨X,hdx⟩:∃ d,dX o=d:=⟨_,rfl⟩;obtain ⟨de,hde⟩:∃ d,dE o=d:=⟨_,rfl⟩;obtain ⟨er,her⟩:∃ d,o.isSome=d:=⟨_,rfl⟩;rw [hdn,hdx,hde,her] at HM ⊢;rw [hdx] at hl;clear ho hdn hdx hde her hF hx0 hx1 HN0;go_enter Tryz.func91,Tryz.ntmps91
 go_wp2_with fail
 refine HN.out.mono ?_;rintro r w2 ⟨v,rfl,hN,hb⟩;obtain ⟨a2,c2,rfl,A2⟩:=hN.arg (by omega)
 obtain ⟨hc,hf⟩:=bcell hb;have hz:w.heap.size+1<w2.heap.size:=by have:=hb.size;simp at this;omega
 have H2:=hid (HM.out w2 a2 c2 A2);have S2:=qsd (HB.out.trans (hb.mono (by simp;omega)))
 clear hN hb A2
 go_wp2_with fail
 refine H2.out.mono ?_;rintro r w3 ⟨⟨v3,rfl,hN⟩,hb⟩;obtain ⟨a3,c3,rfl,_⟩:=hN.arg (by omega)
 obtain ⟨hc3,hf3⟩:=bcell hb;have HF:=qsd (show Fin w.heap.size w2.heap.size w w3 (.slice a3 (ws X).length c3) X from ⟨hN,S2.out.trans (hb.mono (by omega)),by have:=hb.size;omega⟩)
 clear hN hb;go_wp2;exact bodyPost_ret (v:=.tuple #[.agg #[.bool dn,.slice a3 (ws X).length c3,.int .i64 de],.bool er]) (by simp [results,Tryz.results91,go_sem,hc,hc3,hz]) rfl (Fin.dans (m:=w2.heap.size) (by repeat (first | exact HF.out | refine Fin.alloc ?_ _ | refine Fin.set ?_ _ _ _ (by omega) (by omega))) (by omega))
theorem rBits_any (neg:Bool) (k:Nat) (w:World) (hk:k<9218868437227405312) :
 Calls Tryz.prog 91 #[.agg #[.int .i64 53,.int .i64 (-1074),.int .u64 9218868437227405312],.bool neg,.int .u64 (k:Nat)] w fun r w'=>FAns w.heap.size w' r (mkS neg (num64 k).1 (num64 k).2)∧Below w.heap.size w w':=by
 have hb1:(num64 k).1<9007199254740992∧-1100≤(num64 k).2∧(num64 k).2≤1000:=by unfold num64;split <;> simp <;> omega
 exact rBits_core neg (k:Int) _ _ w (by omega) hb1.1 hb1.2.1 hb1.2.2 (hid fun u=>rNumber64 k (by omega) u)
end
section
open Go.RowKit
attribute [local go_sem] B.f64bits B.f64frombits
theorem rOf_core (s:Bool) (b:Nat) (k:Int) (dn:Bool) (X:Nat) (de:Int) (er:Bool) (w:World) (hl:(ws X).length≤8192)
 (e1:((b:Int)/9223372036854775808==1)=s) (e2:IntKind.u64.wrap ((b:Int)*2)/2=k) (hX:er=false→dn=false∧X=0∧de=0)
 (hO:Hid (∀ u,Calls Tryz.prog 90 #[] u fun r w'=>r=.returned (.agg #[.int .i64 53,.int .i64 (-1074),.int .u64 9218868437227405312])∧Below u.heap.size u w'))
 (HW:Hid (∀ u,Calls Tryz.prog 91 #[.agg #[.int .i64 53,.int .i64 (-1074),.int .u64 9218868437227405312],.bool s,.int .u64 k] u fun r w'=>(∃ v,r=.returned (.tuple #[.agg #[.bool dn,v,.int .i64 de],.bool er])∧Nt u.heap.size w' v X)∧Below u.heap.size u w')) :
 Calls Tryz.prog 48 #[.float .f64 b] w fun r w'=>(∃ v,r=.returned (.tuple #[.agg #[.bool dn,v,.int .i64 de],.int .i64 (if er then 0 else 30)])∧Nt w.heap.size w' v X)∧Below w.heap.size w w':=by
 go_enter Tryz.func48,Tryz.ntmps48
 go_wp2_with fail
 refine (Calls.mono (hO.out _)) ?_;rintro r w1 ⟨rfl,hb1⟩;have hz:w.heap.size<w1.heap.size:=by have:=hb1.size;simp at this;omega
 have S1:=qsd ((below_alloc w (.cells #[.bool false,.slice none 0 0,.int .i64 0] 41)).trans (hb1.mono (by simp)))
 obtain ⟨hc,hf⟩:=bcell hb1;clear hb1
 go_wp2_with fail
 try simp only [e1,e2]
 refine (Calls.mono (HW.out _)) ?_;rintro r w2 ⟨⟨v,rfl,hN⟩,hb2⟩;obtain ⟨a2,c2,rfl,_⟩:=hN.arg (by omega)
 obtain ⟨hc2,hf2⟩:=bcell hb2;have hz2:w.heap.size<w2.heap.size:=by have:=hb2.size;omega
 have HF:=qsd (show Fin w.heap.size w1.heap.size w w2 (.slice a2 (ws X).length c2) X from ⟨hN,S1.out.trans (hb2.mono (by omega)),by omega⟩)
 clear hN hb2 e1 e2
 cases er
 · obtain ⟨rfl,rfl,rfl⟩:=hX rfl
   clear hX;go_wp2;exact bodyPost_ret (v:=.tuple #[.agg #[.bool false,.slice none 0 0,.int .i64 0],.int .i64 30]) (by simp [results,Tryz.results48,go_sem,hc,hc2,hz,hz2]) rfl (Fin.dnil (m:=w1.heap.size) (v:=.slice a2 (ws 0).length c2) (X:=0) (by repeat (first | exact HF.out | refine Fin.alloc ?_ _ | refine Fin.set ?_ _ _ _ (by omega) (by omega))))
 · clear hX
   go_wp2;exact bodyPost_ret (v:=.tuple #[.agg #[.bool dn,.slice a2 (ws X).length c2,.int .i64 de],.int .i64 0]) (by simp [results,Tryz.results48,go_sem,hc,hc2,hz,hz2]) rfl (Fin.dans (m:=w1.heap.size) (by repeat (first | exact HF.out | refine Fin.alloc ?_ _ | refine Fin.set ?_ _ _ _ (by omega) (by omega))) (by omega))
theorem rOf3_any (s:Bool) (e f:Nat) (he:e<2048) (hf:f<4503599627370496) (w:World) :
 Calls Tryz.prog 48 #[.float .f64 (B.bw s e f)] w fun r w'=>OAns w.heap.size w' r (ofR s e f) (ofE e)∧Below w.heap.size w w':=by
 have hbl:=B.bw_lt s e f he hf;have hb1:(B.bw s e f:Int)=(if s then 9223372036854775808 else 0)+((e*4503599627370496+f:Nat):Int):=by unfold B.bw;cases s <;> simp <;> omega
 obtain ⟨b,hb⟩:∃ b,B.bw s e f=b:=⟨_,rfl⟩;obtain ⟨k,hk⟩:∃ k,e*4503599627370496+f=k:=⟨_,rfl⟩;rw [hb,hk] at hb1;rw [hb] at hbl ⊢;have hk2:k<9223372036854775808:=by omega
 have e1:((b:Int)/9223372036854775808==1)=s:=by cases s <;> simp at hb1 ⊢ <;> omega
 have e2:IntKind.u64.wrap ((b:Int)*2)/2=(k:Int):=by
  simp [IntKind.wrap,IntKind.bits,IntKind.signed]
  cases s <;> simp at hb1 <;> omega
 unfold ofR ofE
 by_cases h7:e=2047
 · rw [if_pos h7,if_pos h7]
   exact rOf_core s b (k:Int) false 0 0 false w (by rw [ws_zero];simp) e1 e2 (fun _=>⟨rfl,rfl,rfl⟩) (hid fun u=>of64_any u)
    (hid fun u=>(rBits_wild s (k:Int) u (by omega) (by omega)).mono fun r w' ⟨h1,h2⟩=>⟨⟨_,h1,Nt.nil _ _⟩,h2⟩)
 · rw [if_neg h7,if_neg h7]
   have hn:=num64_bits e f hf;rw [hk] at hn;have hF:(if e=0 then f else f+4503599627370496)<9007199254740992:=by split <;> omega
   have hx0:(-1100:Int)≤(if e=0 then -1074 else (e:Int)-1075):=by split <;> omega
   have hx1:(if e=0 then -1074 else (e:Int)-1075)≤(1000:Int):=by split <;> omega
   obtain ⟨d,hd⟩:=of_some s _ _ hF hx0 hx1;have hl:=mkS_len s (if e=0 then f else f+4503599627370496) (if e=0 then -1074 else (e:Int)-1075)
   have hB:∀ u,_:=fun u=>rBits_any s k u (by omega)
   rw [hn] at hB;simp only [] at hB;rw [hd] at hB hl ⊢;exact rOf_core s b (k:Int) _ _ _ true w hl e1 e2 (fun h=>by cases h) (hid fun u=>of64_any u) (hid hB)
end
section
open Go.RowKit
theorem Int_core_neg (n:Int) (m:Nat) (X:Nat) (dn:Bool) (de:Int) (er:Int) (w:World) (h0:n<0) (h1:-9223372036854775808≤n) (hm:(ws m).length≤100) (hl:(ws X).length≤8192) (e1:IntKind.u64.wrap (-IntKind.u64.wrap n)=(m:Int))
 (HO:Hid (∀ u,Calls Tryz.prog 102 #[.int .u64 (m:Int)] u fun r w'=>∃ v,r=.returned v∧Nt u.heap.size w' v m∧Below u.heap.size u w'))
 (HM:Hid (∀ (u:World) (a:Option Addr) (c:Nat),Below w.heap.size w u→Arg u a (ws m).length c (ws m)→Calls Tryz.prog 101 #[.bool true,.slice a (ws m).length c,.int .i64 0] u fun r w'=>(∃ v,r=.returned (.tuple #[.agg #[.bool dn,v,.int .i64 de],.int .i64 er])∧Nt u.heap.size w' v X)∧Below u.heap.size u w')) :
 Calls Tryz.prog 57 #[.int .i64 n] w fun r w'=>(∃ v,r=.returned (.agg #[.bool dn,v,.int .i64 de])∧Nt w.heap.size w' v X)∧Below w.heap.size w w':=by
 go_enter Tryz.func57,Tryz.ntmps57
 go_wp2_with fail
 try rw [e1]
 refine (Calls.mono (HO.out _)) ?_;rintro r w1 ⟨v,rfl,hN,hb⟩;obtain ⟨a1,c1,rfl,A1⟩:=hN.arg (by omega)
 have hz:w.heap.size<w1.heap.size:=by have:=hb.size;simp at this;omega
 have hbw:Below w.heap.size w w1:=(below_alloc w (.cells #[.bool false,.slice none 0 0,.int .i64 0] 41)).trans (hb.mono (by simp))
 have S1:=qsd hbw;have H2:=hid (HM.out w1 a1 c1 hbw A1);obtain ⟨hc,hf⟩:=bcell hb;clear hN hb A1 hbw
 go_wp2_with fail
 refine H2.out.mono ?_;rintro r w2 ⟨⟨v,rfl,hN⟩,hb2⟩;obtain ⟨a2,c2,rfl,_⟩:=hN.arg (by omega)
 obtain ⟨hc2,hf2⟩:=bcell hb2;have hz2:w.heap.size<w2.heap.size:=by have:=hb2.size;omega
 have HF:=qsd (show Fin w.heap.size w1.heap.size w w2 (.slice a2 (ws X).length c2) X from ⟨hN,S1.out.trans (hb2.mono (by omega)),by omega⟩)
 clear hN hb2;go_wp2;exact bodyPost_ret (v:=.agg #[.bool dn,.slice a2 (ws X).length c2,.int .i64 de]) (by simp [results,Tryz.results57,go_sem,hc,hc2,hz,hz2]) rfl (Fin.dval (m:=w1.heap.size) (by repeat (first | exact HF.out | refine Fin.alloc ?_ _ | refine Fin.set ?_ _ _ _ (by omega) (by omega))) (by omega))
theorem Int_core_pos (n:Int) (m:Nat) (X:Nat) (dn:Bool) (de:Int) (er:Int) (w:World) (h0:0≤n) (h1:n≤9223372036854775807) (hd:decide (n<0)=false) (hm:(ws m).length≤100) (hl:(ws X).length≤8192) (e1:IntKind.u64.wrap n=n)
 (HO:Hid (∀ u,Calls Tryz.prog 102 #[.int .u64 n] u fun r w'=>∃ v,r=.returned v∧Nt u.heap.size w' v m∧Below u.heap.size u w'))
 (HM:Hid (∀ (u:World) (a:Option Addr) (c:Nat),Below w.heap.size w u→Arg u a (ws m).length c (ws m)→Calls Tryz.prog 101 #[.bool false,.slice a (ws m).length c,.int .i64 0] u fun r w'=>(∃ v,r=.returned (.tuple #[.agg #[.bool dn,v,.int .i64 de],.int .i64 er])∧Nt u.heap.size w' v X)∧Below u.heap.size u w')) :
 Calls Tryz.prog 57 #[.int .i64 n] w fun r w'=>(∃ v,r=.returned (.agg #[.bool dn,v,.int .i64 de])∧Nt w.heap.size w' v X)∧Below w.heap.size w w':=by
 go_enter Tryz.func57,Tryz.ntmps57
 go_wp2_with fail
 try rw [e1]
 refine (Calls.mono (HO.out _)) ?_;rintro r w1 ⟨v,rfl,hN,hb⟩;obtain ⟨a1,c1,rfl,A1⟩:=hN.arg (by omega)
 have hz:w.heap.size<w1.heap.size:=by have:=hb.size;simp at this;omega
 have hbw:Below w.heap.size w w1:=(below_alloc w (.cells #[.bool false,.slice none 0 0,.int .i64 0] 41)).trans (hb.mono (by simp))
 have S1:=qsd hbw;have H2:=hid (HM.out w1 a1 c1 hbw A1);obtain ⟨hc,hf⟩:=bcell hb;clear hN hb A1 hbw
 go_wp2_with fail
 refine H2.out.mono ?_;rintro r w2 ⟨⟨v,rfl,hN⟩,hb2⟩;obtain ⟨a2,c2,rfl,_⟩:=hN.arg (by omega)
 obtain ⟨hc2,hf2⟩:=bcell hb2;have hz2:w.heap.size<w2.heap.size:=by have:=hb2.size;omega
 have HF:=qsd (show Fin w.heap.size w1.heap.size w w2 (.slice a2 (ws X).length c2) X from ⟨hN,S1.out.trans (hb2.mono (by omega)),by omega⟩)
 clear hN hb2;go_wp2;exact bodyPost_ret (v:=.agg #[.bool dn,.slice a2 (ws X).length c2,.int .i64 de]) (by simp [results,Tryz.results57,go_sem,hc,hc2,hz,hz2]) rfl (Fin.dval (m:=w1.heap.size) (by repeat (first | exact HF.out | refine Fin.alloc ?_ _ | refine Fin.set ?_ _ _ _ (by omega) (by omega))) (by omega))
theorem rInt_core_neg (n:Int) (m:Nat) (X:Nat) (dn:Bool) (de:Int) (er:Bool) (w:World) (h0:n<0) (h1:-9223372036854775808≤n) (hm:(ws m).length≤100) (hl:(ws X).length≤8192) (e1:IntKind.u64.wrap (-IntKind.u64.wrap n)=(m:Int))
 (HO:Hid (∀ u,Calls Tryz.prog 103 #[.int .u64 (m:Int)] u fun r w'=>∃ v,r=.returned v∧Nt u.heap.size w' v m∧Below u.heap.size u w'))
 (HM:Hid (∀ (u:World) (a:Option Addr) (c:Nat),Below w.heap.size w u→Arg u a (ws m).length c (ws m)→Calls Tryz.prog 98 #[.bool true,.slice a (ws m).length c,.int .i64 0] u fun r w'=>(∃ v,r=.returned (.tuple #[.agg #[.bool dn,v,.int .i64 de],.bool er])∧Nt u.heap.size w' v X)∧Below u.heap.size u w')) :
 Calls Tryz.prog 60 #[.int .i64 n] w fun r w'=>(∃ v,r=.returned (.agg #[.bool dn,v,.int .i64 de])∧Nt w.heap.size w' v X)∧Below w.heap.size w w':=by
 go_enter Tryz.func60,Tryz.ntmps60
 go_wp2_with fail
 try rw [e1]
 refine (Calls.mono (HO.out _)) ?_;rintro r w1 ⟨v,rfl,hN,hb⟩;obtain ⟨a1,c1,rfl,A1⟩:=hN.arg (by omega)
 have hz:w.heap.size<w1.heap.size:=by have:=hb.size;simp at this;omega
 have hbw:Below w.heap.size w w1:=(below_alloc w (.cells #[.bool false,.slice none 0 0,.int .i64 0] 41)).trans (hb.mono (by simp))
 have S1:=qsd hbw;have H2:=hid (HM.out w1 a1 c1 hbw A1);obtain ⟨hc,hf⟩:=bcell hb;clear hN hb A1 hbw
 go_wp2_with fail
 refine H2.out.mono ?_;rintro r w2 ⟨⟨v,rfl,hN⟩,hb2⟩;obtain ⟨a2,c2,rfl,_⟩:=hN.arg (by omega)
 obtain ⟨hc2,hf2⟩:=bcell hb2;have hz2:w.heap.size<w2.heap.size:=by have:=hb2.size;omega
 have HF:=qsd (show Fin w.heap.size w1.heap.size w w2 (.slice a2 (ws X).length c2) X from ⟨hN,S1.out.trans (hb2.mono (by omega)),by omega⟩)
 clear hN hb2;go_wp2;exact bodyPost_ret (v:=.agg #[.bool dn,.slice a2 (ws X).length c2,.int .i64 de]) (by simp [results,Tryz.results60,go_sem,hc,hc2,hz,hz2]) rfl (Fin.dval (m:=w1.heap.size) (by repeat (first | exact HF.out | refine Fin.alloc ?_ _ | refine Fin.set ?_ _ _ _ (by omega) (by omega))) (by omega))
theorem rInt_core_pos (n:Int) (m:Nat) (X:Nat) (dn:Bool) (de:Int) (er:Bool) (w:World) (h0:0≤n) (h1:n≤9223372036854775807) (hd:decide (n<0)=false) (hm:(ws m).length≤100) (hl:(ws X).length≤8192) (e1:IntKind.u64.wrap n=n)
 (HO:Hid (∀ u,Calls Tryz.prog 103 #[.int .u64 n] u fun r w'=>∃ v,r=.returned v∧Nt u.heap.size w' v m∧Below u.heap.size u w'))
 (HM:Hid (∀ (u:World) (a:Option Addr) (c:Nat),Below w.heap.size w u→Arg u a (ws m).length c (ws m)→Calls Tryz.prog 98 #[.bool false,.slice a (ws m).length c,.int .i64 0] u fun r w'=>(∃ v,r=.returned (.tuple #[.agg #[.bool dn,v,.int .i64 de],.bool er])∧Nt u.heap.size w' v X)∧Below u.heap.size u w')) :
 Calls Tryz.prog 60 #[.int .i64 n] w fun r w'=>(∃ v,r=.returned (.agg #[.bool dn,v,.int .i64 de])∧Nt w.heap.size w' v X)∧Below w.heap.size w w':=by
 go_enter Tryz.func60,Tryz.ntmps60
 go_wp2_with fail
 try rw [e1]
 refine (Calls.mono (HO.out _)) ?_;rintro r w1 ⟨v,rfl,hN,hb⟩;obtain ⟨a1,c1,rfl,A1⟩:=hN.arg (by omega)
 have hz:w.heap.size<w1.heap.size:=by have:=hb.size;simp at this;omega
 have hbw:Below w.heap.size w w1:=(below_alloc w (.cells #[.bool false,.slice none 0 0,.int .i64 0] 41)).trans (hb.mono (by simp))
 have S1:=qsd hbw;have H2:=hid (HM.out w1 a1 c1 hbw A1);obtain ⟨hc,hf⟩:=bcell hb;clear hN hb A1 hbw
 go_wp2_with fail
 refine H2.out.mono ?_;rintro r w2 ⟨⟨v,rfl,hN⟩,hb2⟩;obtain ⟨a2,c2,rfl,_⟩:=hN.arg (by omega)
 obtain ⟨hc2,hf2⟩:=bcell hb2;have hz2:w.heap.size<w2.heap.size:=by have:=hb2.size;omega
 have HF:=qsd (show Fin w.heap.size w1.heap.size w w2 (.slice a2 (ws X).length c2) X from ⟨hN,S1.out.trans (hb2.mono (by omega)),by omega⟩)
 clear hN hb2;go_wp2;exact bodyPost_ret (v:=.agg #[.bool dn,.slice a2 (ws X).length c2,.int .i64 de]) (by simp [results,Tryz.results60,go_sem,hc,hc2,hz,hz2]) rfl (Fin.dval (m:=w1.heap.size) (by repeat (first | exact HF.out | refine Fin.alloc ?_ _ | refine Fin.set ?_ _ _ _ (by omega) (by omega))) (by omega))
theorem natAbs_len (n:Int) (h0:-9223372036854775808≤n) (h1:n≤9223372036854775807):(ws n.natAbs).length≤100:=by
 have:=(ws_len_le n.natAbs 2).2 (by rw [show pw 2=18446744073709551616 from rfl];omega)
 omega
theorem Int_any (n:Int) (w:World) (hT:Tab w) (h0:-9223372036854775808≤n) (h1:n≤9223372036854775807) :
 Calls Tryz.prog 57 #[.int .i64 n] w fun r w'=>DVal w.heap.size w' r (mkS (decide (n<0)) n.natAbs 0)∧Below w.heap.size w w':=by
 have hl:=natAbs_len n h0 h1
 have HM:∀ (s:Bool) (u:World) (a:Option Addr) (c:Nat),Below w.heap.size w u→Arg u a (ws n.natAbs).length c (ws n.natAbs)→Calls Tryz.prog 101 #[.bool s,.slice a (ws n.natAbs).length c,.int .i64 0] u fun r w'=>DAns u.heap.size w' r (mkS s n.natAbs 0)∧Below u.heap.size u w':=by
  intro s u a c hu hA;have:=Make_any hA (hT.belows hu) s 0 (by omega) (by omega)
  rw [val_ws] at this;exact this
 by_cases hn:n<0
 · rw [decide_eq_true hn]
   exact Int_core_neg n n.natAbs _ _ _ _ w hn h0 hl (mkS_len _ _ _) (by simp [IntKind.wrap,IntKind.bits,IntKind.signed];omega) (hid fun u=>of_any _ u (by omega)) (hid (HM true))
 · rw [decide_eq_false hn]
   have e:((n.natAbs:Nat):Int)=n:=by omega
   exact Int_core_pos n n.natAbs _ _ _ _ w (by omega) h1 (decide_eq_false hn) hl (mkS_len _ _ _) (by simp [IntKind.wrap,IntKind.bits,IntKind.signed];omega) (hid fun u=>by have:=of_any n.natAbs u (by omega);rw [e] at this;exact this) (hid (HM false))
theorem rInt_any (n:Int) (w:World) (h0:-9223372036854775808≤n) (h1:n≤9223372036854775807) :
 Calls Tryz.prog 60 #[.int .i64 n] w fun r w'=>DVal w.heap.size w' r (mkS (decide (n<0)) n.natAbs 0)∧Below w.heap.size w w':=by
 have hl:=natAbs_len n h0 h1
 have HM:∀ (s:Bool) (u:World) (a:Option Addr) (c:Nat),Below w.heap.size w u→Arg u a (ws n.natAbs).length c (ws n.natAbs)→Calls Tryz.prog 98 #[.bool s,.slice a (ws n.natAbs).length c,.int .i64 0] u fun r w'=>FAns u.heap.size w' r (mkS s n.natAbs 0)∧Below u.heap.size u w':=by
  intro s u a c hu hA;have:=rForm_any hA (by omega) s 0 (by omega) (by omega)
  rw [val_ws] at this;exact this
 by_cases hn:n<0
 · rw [decide_eq_true hn]
   exact rInt_core_neg n n.natAbs _ _ _ _ w hn h0 hl (mkS_len _ _ _) (by simp [IntKind.wrap,IntKind.bits,IntKind.signed];omega) (hid fun u=>rOf_any _ u (by omega)) (hid (HM true))
 · rw [decide_eq_false hn]
   have e:((n.natAbs:Nat):Int)=n:=by omega
   exact rInt_core_pos n n.natAbs _ _ _ _ w (by omega) h1 (decide_eq_false hn) hl (mkS_len _ _ _) (by simp [IntKind.wrap,IntKind.bits,IntKind.signed];omega) (hid fun u=>by have:=rOf_any n.natAbs u (by omega);rw [e] at this;exact this) (hid (HM false))
end
section
open Go.RowKit
theorem Nt.arg' {lo:Nat}{w:World}{a:Option Addr}{n c X:Nat}(h:Nt lo w (.slice a n c) X) (hs:(ws X).length≤35184372088832):n=(ws X).length∧Arg w a (ws X).length c (ws X):=by
 obtain ⟨a',c',e,A⟩:=h.arg hs
 cases e
 exact ⟨rfl,A⟩
end
section
open Go.RowKit
theorem len8 {X:Nat}(h:bl X≤262144):(ws X).length≤8192:=by rw [ws_len_bl];omega
theorem notLG {X:Nat}(h:bl X≤262144):¬ LG X:=by rw [LG_bl];omega
theorem bl_mono {X Y:Nat}(h:X≤Y):bl X≤bl Y:=by
 by_cases h0:bl X=0
 · omega
 · have h1:=(bl_gt X (bl X-1)).1 (by omega)
   have:=(bl_gt Y (bl X-1)).2 (Nat.le_trans h1 h);omega
end
section
open Go.RowKit
def Dk (w:World) (g:Nat) (n:Bool) (v:Value) (e:Int):Prop:=w.heap[g]?=some (.cells #[.bool n,v,.int .i64 e] 41 (0,0))
theorem Dk.lt {w:World}{g:Nat}{n:Bool}{v:Value}{e:Int}(h:Dk w g n v e):g<w.heap.size:=(Array.getElem?_eq_some_iff.1 h).1
theorem Dk.below {w w':World}{g:Nat}{n:Bool}{v:Value}{e:Int}(h:Dk w g n v e) (hb:Below w.heap.size w w'):Dk w' g n v e:=by
 unfold Dk;rw [hb.block g h.lt];exact h
theorem Dk.alloc {w:World}{g:Nat}{n:Bool}{v:Value}{e:Int}(h:Dk w g n v e) (o:Obj):Dk (w.alloc o) g n v e:=h.below (below_alloc w o)
theorem Dk.new (w:World) (n:Bool) (v:Value) (e:Int):Dk (w.alloc (.cells #[.bool n,v,.int .i64 e] 41)) w.heap.size n v e:=heap_alloc_new _ _
theorem Dk.facts {w:World}{g:Nat}{n:Bool}{v:Value}{e:Int}(h:Dk w g n v e) :
 w.cell? ⟨g,0,none⟩=some (.bool n)∧w.cell? ⟨g,1,none⟩=some v∧w.cell? ⟨g,2,none⟩=some (.int .i64 e)∧w.frozen? ⟨g,0,none⟩=false∧w.frozen? ⟨g,1,none⟩=false∧w.frozen? ⟨g,2,none⟩=false:=by
 unfold Dk at h;simp [World.cell?,World.frozen?,h]
abbrev st3 (w:World) (g:Nat) (x y z:Value):World:=((w.setCell ⟨g,0,none⟩ x).setCell ⟨g,1,none⟩ y).setCell ⟨g,2,none⟩ z
theorem Dk.set {w:World}{g:Nat}{n:Bool}{v:Value}{e:Int}(h:Dk w g n v e) (m:Bool) (u:Value) (f:Int):Dk (st3 w g (.bool m) u (.int .i64 f)) g m u f:=by
 unfold Dk at h ⊢;simp [st3,World.setCell,Array.getElem?_modify,h]
theorem Fin.drew {lo m:Nat}{w0 w:World}{v:Value}{X:Nat}(H:Fin lo m w0 w v X):Fin lo m w0 w.drew v X:=⟨H.nt,H.bel.drew,H.size⟩
end
section
open Go.RowKit
theorem add_begin (w:World) (n m:Bool) (v u:Value) (e f:Int) (W:World) (hW:W=((w.alloc (.cells #[.bool n,v,.int .i64 e] 41)).alloc (.cells #[.bool m,u,.int .i64 f] 41)).alloc (.cells #[.bool false,.slice none 0 0,.int .i64 0] 41)) :
 Below w.heap.size w W∧W.heap.size=w.heap.size+3∧Dk W w.heap.size n v e∧Dk W (w.heap.size+1) m u f∧Dk W (w.heap.size+1+1) false (.slice none 0 0) 0:=by
 subst hW;refine ⟨((below_alloc w _).alloc (by simp) _).alloc (by simp;omega) _,by simp,((Dk.new w n v e).alloc _).alloc _,?_,?_⟩
 · have:=(Dk.new (w.alloc (.cells #[.bool n,v,.int .i64 e] 41)) m u f).alloc (.cells #[.bool false,.slice none 0 0,.int .i64 0] 41);simpa using this
 · have:=Dk.new ((w.alloc (.cells #[.bool n,v,.int .i64 e] 41)).alloc (.cells #[.bool m,u,.int .i64 f] 41)) false (.slice none 0 0) 0;simpa using this
end
section
open Go.RowKit
def addUp (n:Bool) (X:Nat) (e:Int) (m:Bool) (Y:Nat) (f:Int):Option (Bool×Nat×Int) :=
 if 262144<bl X+(e-f).toNat then none
 else if n=m then mkS n (X*2^(e-f).toNat+Y) f
 else if Y≤X*2^(e-f).toNat then mkS n (X*2^(e-f).toNat-Y) f
 else mkS (!n) (Y-X*2^(e-f).toNat) f
def addF (x y:Bool×Nat×Int):Option (Bool×Nat×Int) :=
 if x.2.1=0 then some y else if y.2.1=0 then some x
 else if x.2.2<y.2.2 then addUp y.1 y.2.1 y.2.2 x.1 x.2.1 x.2.2 else addUp x.1 x.2.1 x.2.2 y.1 y.2.1 y.2.2
def addD (o p:Option (Bool×Nat×Int)):Option (Bool×Nat×Int) :=
 match o,p with
 | some x,some y=>addF x y
 | _,_=>none
theorem shift_up (X:Nat) (b:Int) (h0:0≤b) (hX:X≠0) (hl:bl X≤262144):shiftS X b=if 262144<bl X+b.toNat then (0,2) else (X*2^b.toNat,0):=by
 unfold shiftS;rw [if_neg (notLG hl),if_neg hX,if_neg (by omega)]
 by_cases h:262144<bl X+b.toNat
 · rw [if_pos h,if_pos (by omega)]
 · rw [if_neg h,if_neg (by omega)]
theorem bl_up (X b:Nat) (hX:X≠0):bl (X*2^b)=bl X+b:=by rw [Nat.mul_comm,bl_mul_pow b X hX];omega
theorem len_ne {X:Nat}(h:X≠0):((((ws X).length:Nat):Int)==0)=false:=beq_eq_false_iff_ne.2 (by have:(ws X).length≠0:=fun e=>h ((ws_len_zero X).1 e);omega)
end
namespace B
open Ieee
theorem val_at (f:Format) (j c:Nat) (h:j=0∨f.binade≤c) (hc:c≤2*f.binade):val f (j*f.binade+c)=c*2^j:=by
 have hb:=binade_pos f;unfold val;generalize f.binade=B at *
 by_cases h1:c<B
 · have hj:j=0:=by omega
   subst hj;rw [Nat.zero_mul,Nat.zero_add,if_pos h1,Nat.pow_zero,Nat.mul_one]
 · have h2:¬ j*B+c<B:=by
    have:=Nat.zero_le (j*B);omega
   rw [if_neg h2]
   by_cases h3:c=2*B
   · subst h3
     have e:j*B+2*B=(j+2)*B:=by rw [Nat.add_mul]
     rw [e,Nat.mul_mod_left,Nat.mul_div_cancel _ hb,Nat.add_zero,show j+2-1=j+1 from rfl,Nat.pow_succ,Nat.mul_comm 2 B,Nat.mul_assoc,Nat.mul_comm 2]
   · have e:j*B+c=B*(j+1)+(c-B):=by
      rw [Nat.mul_succ,Nat.mul_comm j];omega
     have e1:(j*B+c)%B=c-B:=by rw [e,Nat.mul_add_mod,Nat.mod_eq_of_lt (by omega)]
     have e2:(j*B+c)/B=j+1:=by rw [e,Nat.mul_add_div hb,Nat.div_eq_of_lt (by omega)]
     rw [e1,e2,Nat.add_sub_cancel,show B+(c-B)=c from by omega]
theorem nearest_near (f:Format) (neg:Bool) (mag k a:Nat) (hm:mag≠0) :
 ∃ R,f.nearest neg mag (f.leastPlace+(k:Int)-(a:Int))=f.word neg (min R f.infRung) ∧
   (val f R*2^a≤mag*2^k→mag*2^k<val f (R+1)*2^a) ∧
   (mag*2^k<val f R*2^a→0<R∧val f (R-1)*2^a<mag*2^k):=by
 unfold Format.nearest;rw [if_neg hm];simp only [cut_even,Nat.shiftLeft_eq];have hl:=(Nat.log2_eq_iff hm (k:=mag.log2)).1 rfl;generalize mag.log2=L at *;have hB:f.binade=2^f.fractionBits:=rfl;have hb:=binade_pos f
 obtain ⟨j,hj⟩:∃ j:Nat,max (f.leastPlace+(k:Int)-(a:Int)+(L:Int)-(f.fractionBits:Int)) f.leastPlace=f.leastPlace+j :=
  ⟨(max (f.leastPlace+(k:Int)-(a:Int)+(L:Int)-(f.fractionBits:Int)) f.leastPlace-f.leastPlace).toNat,by omega⟩
 have hj1:k+L≤a+f.fractionBits+j:=by omega
 have hj2:j=0∨k+L=a+f.fractionBits+j:=by omega
 rw [hj];have e3:(f.leastPlace+(j:Int)-f.leastPlace).toNat=j:=by omega
 have e1:(f.leastPlace+(k:Int)-(a:Int)-(f.leastPlace+(j:Int))).toNat=k-(a+j):=by omega
 have e2:(f.leastPlace+(j:Int)-(f.leastPlace+(k:Int)-(a:Int))).toNat=a+j-k:=by omega
 rw [e1,e2,e3];have hg:0<2^(a+j-k):=Nat.two_pow_pos _
 -- V*g=m'*2^(a+j)
 have hV:mag*2^k*2^(a+j-k)=mag*2^(k-(a+j))*2^(a+j):=by
  rw [Nat.mul_assoc,Nat.mul_assoc,←Nat.pow_add,←Nat.pow_add]
  congr 2;omega
 have up:mag*2^(k-(a+j))<2*f.binade*2^(a+j-k):=by
  have:2*f.binade=2^(f.fractionBits+1):=by rw [hB,Nat.pow_succ,Nat.mul_comm]
  rw [this,←Nat.pow_add];refine Nat.lt_of_lt_of_le (Nat.mul_lt_mul_of_pos_right hl.2 (Nat.two_pow_pos _)) ?_;rw [←Nat.pow_add];exact Nat.pow_le_pow_right (by omega) (by omega)
 have dn:j=0∨f.binade*2^(a+j-k)≤mag*2^(k-(a+j)):=by
  rcases hj2 with h|h
  · exact Or.inl h
  · right
    refine Nat.le_trans ?_ (Nat.mul_le_mul_right _ hl.1);rw [hB,←Nat.pow_add,←Nat.pow_add];exact Nat.pow_le_pow_right (by omega) (by omega)
 generalize hm':mag*2^(k-(a+j))=m' at *;generalize 2^(a+j-k)=g at *;generalize mag*2^k=V at *;have hdm:=Nat.div_add_mod m' g;have hmod:=Nat.mod_lt m' hg;have hlow:m'/g<2*f.binade:=(Nat.div_lt_iff_lt_mul hg).2 up
 have hlow2:j=0∨f.binade≤m'/g:=by
  rcases dn with h|h
  · exact Or.inl h
  · exact Or.inr ((Nat.le_div_iff_mul_le hg).2 h)
 have hp2:0<2^(a+j):=Nat.two_pow_pos _
 -- the bounds
 have b1:m'/g*2^(a+j)≤V:=by
  refine Nat.le_of_mul_le_mul_right ?_ hg;rw [hV,Nat.mul_right_comm];exact Nat.mul_le_mul_right _ (by rw [Nat.mul_comm];omega)
 have b2:V<(m'/g+1)*2^(a+j):=by
  refine Nat.lt_of_mul_lt_mul_right (a:=g) ?_;rw [hV,Nat.mul_right_comm];refine Nat.mul_lt_mul_of_pos_right ?_ hp2;rw [Nat.add_mul,Nat.one_mul,Nat.mul_comm];omega
 have b3:m'%g≠0→m'/g*2^(a+j)<V:=by
  intro hr;refine Nat.lt_of_mul_lt_mul_right (a:=g) ?_;rw [hV,Nat.mul_right_comm];refine Nat.mul_lt_mul_of_pos_right ?_ hp2;rw [Nat.mul_comm];omega
 have v0:val f (j*f.binade+m'/g)*2^a=m'/g*2^(a+j):=by
  rw [val_at f j _ hlow2 (by omega),Nat.mul_assoc,←Nat.pow_add,Nat.add_comm j a]
 have v1:val f (j*f.binade+(m'/g+1))*2^a=(m'/g+1)*2^(a+j):=by
  rw [val_at f j _ (by omega) (by omega),Nat.mul_assoc,←Nat.pow_add,Nat.add_comm j a]
 refine ⟨j*f.binade+rte m' g,rfl,?_,?_⟩
 · unfold rte
   cases hc:(decide (g<2*(m'%g)) || (g==2*(m'%g)&&m'/g%2==1))
   · intro _
     simp only [Bool.toNat_false,Nat.add_zero];rw [Nat.add_assoc,v1];exact b2
   · intro h
     simp only [Bool.toNat_true] at h;rw [v1] at h;omega
 · unfold rte
   cases hc:(decide (g<2*(m'%g)) || (g==2*(m'%g)&&m'/g%2==1))
   · intro h
     simp only [Bool.toNat_false,Nat.add_zero] at h;rw [v0] at h;omega
   · intro _
     simp only [Bool.toNat_true];refine ⟨Nat.succ_pos _,?_⟩;rw [show j*f.binade+(m'/g+1)-1=j*f.binade+m'/g from rfl,v0]
     refine b3 (fun hr=>?_)
     rw [hr] at hc;simp at hc;omega
theorem nearest_exact2 (f:Format) (neg:Bool) (mag k a r:Nat) (hr:r<f.infRung) (h:mag*2^k=val f r*2^a) (hm:mag≠0) :
 f.nearest neg mag (f.leastPlace+(k:Int)-(a:Int))=f.word neg r:=by
 obtain ⟨R,e,h1,h2⟩:=nearest_near f neg mag k a hm;have hp:0<2^a:=Nat.two_pow_pos _
 have:R=r:=by
  by_cases c:val f R*2^a≤mag*2^k
  · have c2:=h1 c
    rw [h] at c c2;have d1:=Nat.le_of_mul_le_mul_right c hp;have d2:=(val_lt_iff f).1 (Nat.lt_of_mul_lt_mul_right c2);have d3:¬ r<R:=fun hh=>by have:=val_lt f hh;omega
    omega
  · have c2:=h2 (by omega)
    rw [h] at c c2;have d1:=(val_lt_iff f).1 (Nat.lt_of_mul_lt_mul_right (a:=2^a) (Nat.lt_of_not_le c));have d2:=(val_lt_iff f).1 (Nat.lt_of_mul_lt_mul_right c2.2);omega
 rw [e,this,Nat.min_eq_left (by omega)]
end B
namespace B
open Go.RowKit
attribute [local go_sem] f64bits f64frombits
theorem mul_exact (f:Ieee.Format) (hs:f.infRung<f.signWeight) (s t:Bool) (r u v a:Nat) (ha:f.leastPlace=-(a:Int)) (hr:r<f.infRung) (hu:u<f.infRung) (hv:v<f.infRung)
 (h:val f r*val f u=val f v*2^a) (h0:val f r≠0) (h1:val f u≠0):f.mul (f.word s r) (f.word t u)=some (f.word (s ^^ t) v):=by
 obtain ⟨m,k,e1,v1⟩:=read_word f s r hr hs;obtain ⟨n,j,e2,v2⟩:=read_word f t u hu hs;unfold Ieee.Format.mul;rw [e1,e2]
 show some (f.nearest (s ^^ t) (m*n) (f.leastPlace+k+(f.leastPlace+j)))=_
 have e:f.leastPlace+(k:Int)+(f.leastPlace+(j:Int))=f.leastPlace+((k+j:Nat):Int)-(a:Int):=by omega
 have hmn:m*n≠0:=by
  intro h2
  rcases Nat.mul_eq_zero.1 h2 with h3|h3
  · subst h3;simp at v1;exact h0 v1.symm
  · subst h3;simp at v2;exact h1 v2.symm
 rw [e,nearest_exact2 f _ (m*n) (k+j) a v hv ?_ hmn];rw [←h,←v1,←v2,Nat.pow_add]
 grind
theorem and_high (a:Nat) (h:a<2^63):a &&& 2^63=0:=by
 apply Nat.eq_of_testBit_eq
 intro i;rw [Nat.testBit_and,Nat.testBit_two_pow,Nat.zero_testBit]
 by_cases hi:63=i
 · subst hi;rw [Nat.testBit_lt_two_pow h];rfl
 · simp [hi]
theorem mask_clear (e g:Nat) (he:e<2048) (hg:g<4503599627370496):bits .andNot .u64 ((bw false e g:Nat):Int) 9218868437227405312=(g:Int):=by
 have h:=u64_andNot_nat (bw false e g) 9218868437227405312 (bw_lt false e g he hg) (by omega)
 rw [show (((9218868437227405312:Nat)):Int)=9218868437227405312 from rfl] at h
 rw [h];have hb:bw false e g=e*4503599627370496+g:=by unfold bw;simp
 have hlt:bw false e g<2^63:=by rw [hb];omega
 have e1:18446744073709551615-9218868437227405312=2^63 ||| (2^52-1):=by decide
 rw [e1,Nat.and_or_distrib_left,Nat.and_two_pow_sub_one_eq_mod,and_high _ hlt,Nat.zero_or,hb];omega
theorem join_exp (E g:Nat) (hE:E<2048) (hg:g<4503599627370496):bits .or .u64 (g:Int) ((E:Int)*4503599627370496)=((bw false E g:Nat):Int):=by
 have hc:bits .or .u64 (g:Int) ((E:Int)*4503599627370496)=bits .or .u64 ((E:Int)*4503599627370496) (g:Int):=by simp only [bits,BitVec.or_comm]
 rw [hc,bits_join .u64 64 (by decide) wraps_u64 52 ((E:Int)*4503599627370496) (g:Int) (by omega) (by omega) (by omega) (by omega) (by omega) (by omega)]
 unfold bw;simp
theorem isInf0 (e g:Nat) (he:e<2047) (hg:g<4503599627370496) (w:World) :
 Calls Tryz.prog 214 #[.float .f64 (bw false e g),.int .i64 0] w fun r w'=>r=.returned (.bool false)∧w'=w:=by
 have H:=hid (abs_any false e g (by omega) hg w)
 have h1:=gt_max false e g (by omega) hg
 have h2:(!false&&(e==2047&&g==0))=false:=by simp;omega
 rw [h2] at h1;generalize bw false e g=b at *;go_enter Tryz.func214,Tryz.ntmps214
 go_wp2_with fail
 refine H.out.mono ?_;rintro r w1 ⟨rfl,rfl⟩;go_wp2;go_ret;exact ⟨rfl,rfl⟩
theorem normalize_any (e g:Nat) (h0:0<e) (he:e<2047) (hg:g<4503599627370496) (w:World) :
 Calls Tryz.prog 215 #[.float .f64 (bw false e g)] w fun r w'=>r=.returned (.tuple #[.float .f64 (bw false e g),.int .i64 0])∧w'=w:=by
 have H:=hid (abs_any false e g (by omega) hg w)
 have h1:=lt_f64 false false e g 1 0 (by omega) hg (by omega) (by omega)
 have h3:(!odd e g&&(!odd 1 0&&decide (pl false e g<pl false 1 0)))=false:=by
  have:¬ pl false e g<pl false 1 0:=by unfold pl sg;simp;omega
  simp [this]
 rw [h3,show bw false 1 0=4503599627370496 from rfl] at h1
 generalize bw false e g=b at *;clear h3;go_enter Tryz.func215,Tryz.ntmps215
 go_wp2_with fail
 refine H.out.mono ?_;rintro r w1 ⟨rfl,rfl⟩;go_wp2
 go_ret2
 exact ⟨rfl,rfl⟩
theorem inf_any (w:World):Calls Tryz.prog 70 #[.int .i64 1] w fun r w'=>r=.returned (.float .f64 9218868437227405312)∧w'=w:=by
 go_enter Tryz.func70,Tryz.ntmps70;go_wp2;go_ret;exact ⟨rfl,rfl⟩
theorem copysign_neg (e g:Nat) (he:e<2048) (hg:g<4503599627370496) (w:World) :
 Calls Tryz.prog 112 #[.float .f64 (bw false e g),.float .f64 13830554455654793216] w fun r w'=>r=.returned (.float .f64 (bw true e g))∧w'=w:=by
 have h1:=abs_bw false e g he hg;have h2:bits .and .u64 13830554455654793216 9223372036854775808=9223372036854775808:=by decide
 have hb:bw false e g=e*4503599627370496+g:=by unfold bw;simp
 have h3:=or_sign ((bw false e g:Nat):Int) (by omega) (by rw [hb];omega)
 have h4:((bw false e g:Nat):Int)+9223372036854775808=((bw true e g:Nat):Int):=by unfold bw;simp;omega
 rw [h4] at h3;generalize bw false e g=b at *;generalize bw true e g=d at *;clear hb h4;go_enter Tryz.func112,Tryz.ntmps112;go_wp2;go_ret;exact ⟨by simp,rfl⟩
end B
end Go.Proofs.YtjldfhecnaiinaaGreatDoor
