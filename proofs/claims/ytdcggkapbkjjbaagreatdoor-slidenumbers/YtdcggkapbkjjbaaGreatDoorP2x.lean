import Derived.Test.YtdcggkapbkjjbaaGreatDoorS11ax
import Derived.Deep.RegionWith
import Derived.Test.YtdcggkapbkjjbaaGreatDoorBIeeex
import Derived.Laws.StructEq
import Derived.BigQuiet
import Derived.Deep.RegionHeld3
set_option linter.unusedVariables false
set_option linter.unusedSimpArgs false
set_option maxHeartbeats 16000000
set_option maxRecDepth 20000
namespace Go.Proofs.YtdcggkapbkjjbaaGreatDoor
section
open Go.RowKit
open Go.Proofs.YtdcggkapbkjjbaaGreatDoor.B (f64bits f64frombits bw bcell)
attribute [local go_sem] f64bits f64frombits
theorem Verdict_any (n u d m p l a b:Int) (w:World):Calls Tryz.prog 35 #[.agg #[.int .i64 n,.int .i64 u,.int .i64 d,.int .i64 m,.int .i64 p,.int .i64 l],.agg #[.int .i64 a,.int .i64 b]] w fun r w'=>r=.returned (.tuple #[.float .f64 (vd (snd n u d m p l&&may a b) n u d a b).1,.bool (vd (snd n u d m p l&&may a b) n u d a b).2])∧Below w.heap.size w w':=by
 have HS:=hid (sound_any n u d m p l);have HM:=hid (May_any a b);have HN:=hid (B.nan_any);have HU:=hid (mInf_up);have HD:=hid (mInf_down)
 rcases hs:snd n u d m p l with _|_
 · rw [hs] at HS
   rw [Bool.false_and];have hv:vd false n u d a b=(0,false):=by unfold vd;rw [if_pos rfl]
   rw [hv];clear hs hv;go_enter Tryz.func35,Tryz.ntmps35
   go_wp2_with fail
   refine (HS.out _).mono ?_;rintro r w1 ⟨rfl,hb1⟩;have hz1:=hb1.size;simp at hz1;obtain ⟨hc1,hf1⟩:=bcell hb1;have B1:=qsd hb1;clear hb1;go_wp2
   go_ret2
   exact ⟨by first | rfl | simp,(((Below.refl _ w).alloc (Nat.le_refl _) _).alloc (by simp) _).trans (B1.out.mono (by simp;omega))⟩
 rcases hm:may a b with _|_
 · rw [hs] at HS
   rw [hm] at HM;have hv:vd (true&&false) n u d a b=(0,false):=if_pos rfl;rw [hv];clear hs hm hv;go_enter Tryz.func35,Tryz.ntmps35
   go_wp2_with fail
   refine (HS.out _).mono ?_;rintro r w1 ⟨rfl,hb1⟩;have hz1:=hb1.size;simp at hz1;obtain ⟨hc1,hf1⟩:=bcell hb1;have B1:=qsd hb1;clear hb1
   go_wp2_with fail
   refine (HM.out _).mono ?_;rintro r w2 ⟨rfl,hb2⟩;have hz2:=hb2.size;obtain ⟨hc2,hf2⟩:=bcell hb2;have hc3:∀ b o,b<w.heap.size+1+1→w2.cell? ⟨b,o,none⟩=w1.cell? ⟨b,o,none⟩:=fun b o h=>hc2 b o (by omega)
   have B2:=qsd hb2;clear hb2 hc2 hf2;go_wp2
   go_ret2
   exact ⟨by first | rfl | simp,((((Below.refl _ w).alloc (Nat.le_refl _) _).alloc (by simp) _).trans (B1.out.mono (by simp;omega))).trans (B2.out.mono (by omega))⟩
 rw [hs] at HS;rw [hm] at HM;rw [Bool.true_and];clear hs hm
 have way1:0<n→a=0→Calls Tryz.prog 35 #[.agg #[.int .i64 n,.int .i64 u,.int .i64 d,.int .i64 m,.int .i64 p,.int .i64 l],.agg #[.int .i64 a,.int .i64 b]] w fun r w'=>r=.returned (.tuple #[.float .f64 (vd true n u d a b).1,.bool (vd true n u d a b).2])∧Below w.heap.size w w':=by
  intro p1 p2;have hv:vd true n u d a b=(9221120237041090560,true):=by unfold vd;rw [if_neg (by decide),if_pos ⟨p1,p2⟩]
  rw [hv];clear hv;have q1:0<n:=p1;have q2:a=0:=p2;subst q2;go_enter Tryz.func35,Tryz.ntmps35
  go_wp2_with fail
  refine (HS.out _).mono ?_;rintro r w1 ⟨rfl,hb1⟩;have hz1:=hb1.size;simp at hz1;obtain ⟨hc1,hf1⟩:=bcell hb1;have B1:=qsd hb1;clear hb1
  go_wp2_with fail
  refine (HM.out _).mono ?_;rintro r w2 ⟨rfl,hb2⟩;have hz2:=hb2.size;obtain ⟨hc2,hf2⟩:=bcell hb2;have hc3:∀ b o,b<w.heap.size+1+1→w2.cell? ⟨b,o,none⟩=w1.cell? ⟨b,o,none⟩:=fun b o h=>hc2 b o (by omega)
  have B2:=qsd hb2;clear hb2 hc2 hf2
  go_wp2_with fail
  refine (HN.out _).mono ?_;rintro r w3 ⟨rfl,rfl⟩;go_wp2
  go_ret2
  exact ⟨by first | rfl | simp,((((Below.refl _ w).alloc (Nat.le_refl _) _).alloc (by simp) _).trans (B1.out.mono (by simp;omega))).trans (B2.out.mono (by omega))⟩
 have way2:0<n→¬ (a=0)→¬ (b=0)→Calls Tryz.prog 35 #[.agg #[.int .i64 n,.int .i64 u,.int .i64 d,.int .i64 m,.int .i64 p,.int .i64 l],.agg #[.int .i64 a,.int .i64 b]] w fun r w'=>r=.returned (.tuple #[.float .f64 (vd true n u d a b).1,.bool (vd true n u d a b).2])∧Below w.heap.size w w':=by
  intro p1 p2 p3;have hv:vd true n u d a b=(0,false):=by unfold vd;rw [if_neg (by decide),if_neg (fun h=>p2 h.2),if_pos p3]
  rw [hv];clear hv;have q1:0<n:=p1;have q2:(a==0)=false:=by rw [beq_eq_false_iff_ne];exact p2
  have q3:(b==0)=false:=by rw [beq_eq_false_iff_ne];exact p3
  go_enter Tryz.func35,Tryz.ntmps35
  go_wp2_with fail
  refine (HS.out _).mono ?_;rintro r w1 ⟨rfl,hb1⟩;have hz1:=hb1.size;simp at hz1;obtain ⟨hc1,hf1⟩:=bcell hb1;have B1:=qsd hb1;clear hb1
  go_wp2_with fail
  refine (HM.out _).mono ?_;rintro r w2 ⟨rfl,hb2⟩;have hz2:=hb2.size;obtain ⟨hc2,hf2⟩:=bcell hb2;have hc3:∀ b o,b<w.heap.size+1+1→w2.cell? ⟨b,o,none⟩=w1.cell? ⟨b,o,none⟩:=fun b o h=>hc2 b o (by omega)
  have B2:=qsd hb2;clear hb2 hc2 hf2;go_wp2
  go_ret2
  exact ⟨by first | rfl | simp,((((Below.refl _ w).alloc (Nat.le_refl _) _).alloc (by simp) _).trans (B1.out.mono (by simp;omega))).trans (B2.out.mono (by omega))⟩
 have way3:0<n→¬ (a=0)→b=0→0<u→0<d→Calls Tryz.prog 35 #[.agg #[.int .i64 n,.int .i64 u,.int .i64 d,.int .i64 m,.int .i64 p,.int .i64 l],.agg #[.int .i64 a,.int .i64 b]] w fun r w'=>r=.returned (.tuple #[.float .f64 (vd true n u d a b).1,.bool (vd true n u d a b).2])∧Below w.heap.size w w':=by
  intro p1 p2 p3 p4 p5;have hv:vd true n u d a b=(9221120237041090560,true):=by unfold vd;rw [if_neg (by decide),if_neg (fun h=>p2 h.2),if_neg (not_not_intro p3),if_pos ⟨p4,p5⟩]
  rw [hv];clear hv;have q1:0<n:=p1;have q2:(a==0)=false:=by rw [beq_eq_false_iff_ne];exact p2
  have q3:b=0:=p3;have q4:0<u:=p4;have q5:0<d:=p5;subst q3;go_enter Tryz.func35,Tryz.ntmps35
  go_wp2_with fail
  refine (HS.out _).mono ?_;rintro r w1 ⟨rfl,hb1⟩;have hz1:=hb1.size;simp at hz1;obtain ⟨hc1,hf1⟩:=bcell hb1;have B1:=qsd hb1;clear hb1
  go_wp2_with fail
  refine (HM.out _).mono ?_;rintro r w2 ⟨rfl,hb2⟩;have hz2:=hb2.size;obtain ⟨hc2,hf2⟩:=bcell hb2;have hc3:∀ b o,b<w.heap.size+1+1→w2.cell? ⟨b,o,none⟩=w1.cell? ⟨b,o,none⟩:=fun b o h=>hc2 b o (by omega)
  have B2:=qsd hb2;clear hb2 hc2 hf2
  go_wp2_with fail
  refine (HN.out _).mono ?_;rintro r w3 ⟨rfl,rfl⟩;go_wp2
  go_ret2
  exact ⟨by first | rfl | simp,((((Below.refl _ w).alloc (Nat.le_refl _) _).alloc (by simp) _).trans (B1.out.mono (by simp;omega))).trans (B2.out.mono (by omega))⟩
 have way4:0<n→¬ (a=0)→b=0→0<u→¬ (0<d)→Calls Tryz.prog 35 #[.agg #[.int .i64 n,.int .i64 u,.int .i64 d,.int .i64 m,.int .i64 p,.int .i64 l],.agg #[.int .i64 a,.int .i64 b]] w fun r w'=>r=.returned (.tuple #[.float .f64 (vd true n u d a b).1,.bool (vd true n u d a b).2])∧Below w.heap.size w w':=by
  intro p1 p2 p3 p4 p5;have hv:vd true n u d a b=(9218868437227405312,true):=by unfold vd;rw [if_neg (by decide),if_neg (fun h=>p2 h.2),if_neg (not_not_intro p3),if_neg (fun h=>p5 h.2),if_pos p4]
  rw [hv];clear hv;have q1:0<n:=p1;have q2:(a==0)=false:=by rw [beq_eq_false_iff_ne];exact p2
  have q3:b=0:=p3;have q4:0<u:=p4;have q5:decide (0<d)=false:=decide_eq_false p5;subst q3;go_enter Tryz.func35,Tryz.ntmps35
  go_wp2_with fail
  refine (HS.out _).mono ?_;rintro r w1 ⟨rfl,hb1⟩;have hz1:=hb1.size;simp at hz1;obtain ⟨hc1,hf1⟩:=bcell hb1;have B1:=qsd hb1;clear hb1
  go_wp2_with fail
  refine (HM.out _).mono ?_;rintro r w2 ⟨rfl,hb2⟩;have hz2:=hb2.size;obtain ⟨hc2,hf2⟩:=bcell hb2;have hc3:∀ b o,b<w.heap.size+1+1→w2.cell? ⟨b,o,none⟩=w1.cell? ⟨b,o,none⟩:=fun b o h=>hc2 b o (by omega)
  have B2:=qsd hb2;clear hb2 hc2 hf2
  go_wp2_with fail
  refine (HU.out _).mono ?_;rintro r w3 ⟨rfl,rfl⟩;go_wp2
  go_ret2
  exact ⟨by first | rfl | simp,((((Below.refl _ w).alloc (Nat.le_refl _) _).alloc (by simp) _).trans (B1.out.mono (by simp;omega))).trans (B2.out.mono (by omega))⟩
 have way5:0<n→¬ (a=0)→b=0→¬ (0<u)→0<d→Calls Tryz.prog 35 #[.agg #[.int .i64 n,.int .i64 u,.int .i64 d,.int .i64 m,.int .i64 p,.int .i64 l],.agg #[.int .i64 a,.int .i64 b]] w fun r w'=>r=.returned (.tuple #[.float .f64 (vd true n u d a b).1,.bool (vd true n u d a b).2])∧Below w.heap.size w w':=by
  intro p1 p2 p3 p4 p5;have hv:vd true n u d a b=(18442240474082181120,true):=by unfold vd;rw [if_neg (by decide),if_neg (fun h=>p2 h.2),if_neg (not_not_intro p3),if_neg (fun h=>p4 h.1),if_neg p4,if_pos p5]
  rw [hv];clear hv;have q1:0<n:=p1;have q2:(a==0)=false:=by rw [beq_eq_false_iff_ne];exact p2
  have q3:b=0:=p3;have q4:decide (0<u)=false:=decide_eq_false p4;have q5:0<d:=p5;subst q3;go_enter Tryz.func35,Tryz.ntmps35
  go_wp2_with fail
  refine (HS.out _).mono ?_;rintro r w1 ⟨rfl,hb1⟩;have hz1:=hb1.size;simp at hz1;obtain ⟨hc1,hf1⟩:=bcell hb1;have B1:=qsd hb1;clear hb1
  go_wp2_with fail
  refine (HM.out _).mono ?_;rintro r w2 ⟨rfl,hb2⟩;have hz2:=hb2.size;obtain ⟨hc2,hf2⟩:=bcell hb2;have hc3:∀ b o,b<w.heap.size+1+1→w2.cell? ⟨b,o,none⟩=w1.cell? ⟨b,o,none⟩:=fun b o h=>hc2 b o (by omega)
  have B2:=qsd hb2;clear hb2 hc2 hf2
  go_wp2_with fail
  refine (HD.out _).mono ?_;rintro r w3 ⟨rfl,rfl⟩;go_wp2
  go_ret2
  exact ⟨by first | rfl | simp,((((Below.refl _ w).alloc (Nat.le_refl _) _).alloc (by simp) _).trans (B1.out.mono (by simp;omega))).trans (B2.out.mono (by omega))⟩
 have way6:0<n→¬ (a=0)→b=0→¬ (0<u)→¬ (0<d)→Calls Tryz.prog 35 #[.agg #[.int .i64 n,.int .i64 u,.int .i64 d,.int .i64 m,.int .i64 p,.int .i64 l],.agg #[.int .i64 a,.int .i64 b]] w fun r w'=>r=.returned (.tuple #[.float .f64 (vd true n u d a b).1,.bool (vd true n u d a b).2])∧Below w.heap.size w w':=by
  intro p1 p2 p3 p4 p5;have hv:vd true n u d a b=(0,false):=by unfold vd;rw [if_neg (by decide),if_neg (fun h=>p2 h.2),if_neg (not_not_intro p3),if_neg (fun h=>p4 h.1),if_neg p4,if_neg p5]
  rw [hv];clear hv;have q1:0<n:=p1;have q2:(a==0)=false:=by rw [beq_eq_false_iff_ne];exact p2
  have q3:b=0:=p3;have q4:decide (0<u)=false:=decide_eq_false p4;have q5:decide (0<d)=false:=decide_eq_false p5;subst q3;go_enter Tryz.func35,Tryz.ntmps35
  go_wp2_with fail
  refine (HS.out _).mono ?_;rintro r w1 ⟨rfl,hb1⟩;have hz1:=hb1.size;simp at hz1;obtain ⟨hc1,hf1⟩:=bcell hb1;have B1:=qsd hb1;clear hb1
  go_wp2_with fail
  refine (HM.out _).mono ?_;rintro r w2 ⟨rfl,hb2⟩;have hz2:=hb2.size;obtain ⟨hc2,hf2⟩:=bcell hb2;have hc3:∀ b o,b<w.heap.size+1+1→w2.cell? ⟨b,o,none⟩=w1.cell? ⟨b,o,none⟩:=fun b o h=>hc2 b o (by omega)
  have B2:=qsd hb2;clear hb2 hc2 hf2;go_wp2
  go_ret2
  exact ⟨by first | rfl | simp,((((Below.refl _ w).alloc (Nat.le_refl _) _).alloc (by simp) _).trans (B1.out.mono (by simp;omega))).trans (B2.out.mono (by omega))⟩
 have way7:¬ (0<n)→¬ (b=0)→Calls Tryz.prog 35 #[.agg #[.int .i64 n,.int .i64 u,.int .i64 d,.int .i64 m,.int .i64 p,.int .i64 l],.agg #[.int .i64 a,.int .i64 b]] w fun r w'=>r=.returned (.tuple #[.float .f64 (vd true n u d a b).1,.bool (vd true n u d a b).2])∧Below w.heap.size w w':=by
  intro p1 p3;have hv:vd true n u d a b=(0,false):=by unfold vd;rw [if_neg (by decide),if_neg (fun h=>p1 h.1),if_pos p3]
  rw [hv];clear hv;have q1:decide (0<n)=false:=decide_eq_false p1;have q3:(b==0)=false:=by rw [beq_eq_false_iff_ne];exact p3
  go_enter Tryz.func35,Tryz.ntmps35
  go_wp2_with fail
  refine (HS.out _).mono ?_;rintro r w1 ⟨rfl,hb1⟩;have hz1:=hb1.size;simp at hz1;obtain ⟨hc1,hf1⟩:=bcell hb1;have B1:=qsd hb1;clear hb1
  go_wp2_with fail
  refine (HM.out _).mono ?_;rintro r w2 ⟨rfl,hb2⟩;have hz2:=hb2.size;obtain ⟨hc2,hf2⟩:=bcell hb2;have hc3:∀ b o,b<w.heap.size+1+1→w2.cell? ⟨b,o,none⟩=w1.cell? ⟨b,o,none⟩:=fun b o h=>hc2 b o (by omega)
  have B2:=qsd hb2;clear hb2 hc2 hf2;go_wp2
  go_ret2
  exact ⟨by first | rfl | simp,((((Below.refl _ w).alloc (Nat.le_refl _) _).alloc (by simp) _).trans (B1.out.mono (by simp;omega))).trans (B2.out.mono (by omega))⟩
 have way8:¬ (0<n)→b=0→0<u→0<d→Calls Tryz.prog 35 #[.agg #[.int .i64 n,.int .i64 u,.int .i64 d,.int .i64 m,.int .i64 p,.int .i64 l],.agg #[.int .i64 a,.int .i64 b]] w fun r w'=>r=.returned (.tuple #[.float .f64 (vd true n u d a b).1,.bool (vd true n u d a b).2])∧Below w.heap.size w w':=by
  intro p1 p3 p4 p5;have hv:vd true n u d a b=(9221120237041090560,true):=by unfold vd;rw [if_neg (by decide),if_neg (fun h=>p1 h.1),if_neg (not_not_intro p3),if_pos ⟨p4,p5⟩]
  rw [hv];clear hv;have q1:decide (0<n)=false:=decide_eq_false p1;have q3:b=0:=p3;have q4:0<u:=p4;have q5:0<d:=p5;subst q3;go_enter Tryz.func35,Tryz.ntmps35
  go_wp2_with fail
  refine (HS.out _).mono ?_;rintro r w1 ⟨rfl,hb1⟩;have hz1:=hb1.size;simp at hz1;obtain ⟨hc1,hf1⟩:=bcell hb1;have B1:=qsd hb1;clear hb1
  go_wp2_with fail
  refine (HM.out _).mono ?_;rintro r w2 ⟨rfl,hb2⟩;have hz2:=hb2.size;obtain ⟨hc2,hf2⟩:=bcell hb2;have hc3:∀ b o,b<w.heap.size+1+1→w2.cell? ⟨b,o,none⟩=w1.cell? ⟨b,o,none⟩:=fun b o h=>hc2 b o (by omega)
  have B2:=qsd hb2;clear hb2 hc2 hf2
  go_wp2_with fail
  refine (HN.out _).mono ?_;rintro r w3 ⟨rfl,rfl⟩;go_wp2
  go_ret2
  exact ⟨by first | rfl | simp,((((Below.refl _ w).alloc (Nat.le_refl _) _).alloc (by simp) _).trans (B1.out.mono (by simp;omega))).trans (B2.out.mono (by omega))⟩
 have way9:¬ (0<n)→b=0→0<u→¬ (0<d)→Calls Tryz.prog 35 #[.agg #[.int .i64 n,.int .i64 u,.int .i64 d,.int .i64 m,.int .i64 p,.int .i64 l],.agg #[.int .i64 a,.int .i64 b]] w fun r w'=>r=.returned (.tuple #[.float .f64 (vd true n u d a b).1,.bool (vd true n u d a b).2])∧Below w.heap.size w w':=by
  intro p1 p3 p4 p5;have hv:vd true n u d a b=(9218868437227405312,true):=by unfold vd;rw [if_neg (by decide),if_neg (fun h=>p1 h.1),if_neg (not_not_intro p3),if_neg (fun h=>p5 h.2),if_pos p4]
  rw [hv];clear hv;have q1:decide (0<n)=false:=decide_eq_false p1;have q3:b=0:=p3;have q4:0<u:=p4;have q5:decide (0<d)=false:=decide_eq_false p5;subst q3;go_enter Tryz.func35,Tryz.ntmps35
  go_wp2_with fail
  refine (HS.out _).mono ?_;rintro r w1 ⟨rfl,hb1⟩;have hz1:=hb1.size;simp at hz1;obtain ⟨hc1,hf1⟩:=bcell hb1;have B1:=qsd hb1;clear hb1
  go_wp2_with fail
  refine (HM.out _).mono ?_;rintro r w2 ⟨rfl,hb2⟩;have hz2:=hb2.size;obtain ⟨hc2,hf2⟩:=bcell hb2;have hc3:∀ b o,b<w.heap.size+1+1→w2.cell? ⟨b,o,none⟩=w1.cell? ⟨b,o,none⟩:=fun b o h=>hc2 b o (by omega)
  have B2:=qsd hb2;clear hb2 hc2 hf2
  go_wp2_with fail
  refine (HU.out _).mono ?_;rintro r w3 ⟨rfl,rfl⟩;go_wp2
  go_ret2
  exact ⟨by first | rfl | simp,((((Below.refl _ w).alloc (Nat.le_refl _) _).alloc (by simp) _).trans (B1.out.mono (by simp;omega))).trans (B2.out.mono (by omega))⟩
 have way10:¬ (0<n)→b=0→¬ (0<u)→0<d→Calls Tryz.prog 35 #[.agg #[.int .i64 n,.int .i64 u,.int .i64 d,.int .i64 m,.int .i64 p,.int .i64 l],.agg #[.int .i64 a,.int .i64 b]] w fun r w'=>r=.returned (.tuple #[.float .f64 (vd true n u d a b).1,.bool (vd true n u d a b).2])∧Below w.heap.size w w':=by
  intro p1 p3 p4 p5;have hv:vd true n u d a b=(18442240474082181120,true):=by unfold vd;rw [if_neg (by decide),if_neg (fun h=>p1 h.1),if_neg (not_not_intro p3),if_neg (fun h=>p4 h.1),if_neg p4,if_pos p5]
  rw [hv];clear hv;have q1:decide (0<n)=false:=decide_eq_false p1;have q3:b=0:=p3;have q4:decide (0<u)=false:=decide_eq_false p4;have q5:0<d:=p5;subst q3;go_enter Tryz.func35,Tryz.ntmps35
  go_wp2_with fail
  refine (HS.out _).mono ?_;rintro r w1 ⟨rfl,hb1⟩;have hz1:=hb1.size;simp at hz1;obtain ⟨hc1,hf1⟩:=bcell hb1;have B1:=qsd hb1;clear hb1
  go_wp2_with fail
  refine (HM.out _).mono ?_;rintro r w2 ⟨rfl,hb2⟩;have hz2:=hb2.size;obtain ⟨hc2,hf2⟩:=bcell hb2;have hc3:∀ b o,b<w.heap.size+1+1→w2.cell? ⟨b,o,none⟩=w1.cell? ⟨b,o,none⟩:=fun b o h=>hc2 b o (by omega)
  have B2:=qsd hb2;clear hb2 hc2 hf2
  go_wp2_with fail
  refine (HD.out _).mono ?_;rintro r w3 ⟨rfl,rfl⟩;go_wp2
  go_ret2
  exact ⟨by first | rfl | simp,((((Below.refl _ w).alloc (Nat.le_refl _) _).alloc (by simp) _).trans (B1.out.mono (by simp;omega))).trans (B2.out.mono (by omega))⟩
 have way11:¬ (0<n)→b=0→¬ (0<u)→¬ (0<d)→Calls Tryz.prog 35 #[.agg #[.int .i64 n,.int .i64 u,.int .i64 d,.int .i64 m,.int .i64 p,.int .i64 l],.agg #[.int .i64 a,.int .i64 b]] w fun r w'=>r=.returned (.tuple #[.float .f64 (vd true n u d a b).1,.bool (vd true n u d a b).2])∧Below w.heap.size w w':=by
  intro p1 p3 p4 p5;have hv:vd true n u d a b=(0,false):=by unfold vd;rw [if_neg (by decide),if_neg (fun h=>p1 h.1),if_neg (not_not_intro p3),if_neg (fun h=>p4 h.1),if_neg p4,if_neg p5]
  rw [hv];clear hv;have q1:decide (0<n)=false:=decide_eq_false p1;have q3:b=0:=p3;have q4:decide (0<u)=false:=decide_eq_false p4;have q5:decide (0<d)=false:=decide_eq_false p5;subst q3;go_enter Tryz.func35,Tryz.ntmps35
  go_wp2_with fail
  refine (HS.out _).mono ?_;rintro r w1 ⟨rfl,hb1⟩;have hz1:=hb1.size;simp at hz1;obtain ⟨hc1,hf1⟩:=bcell hb1;have B1:=qsd hb1;clear hb1
  go_wp2_with fail
  refine (HM.out _).mono ?_;rintro r w2 ⟨rfl,hb2⟩;have hz2:=hb2.size;obtain ⟨hc2,hf2⟩:=bcell hb2;have hc3:∀ b o,b<w.heap.size+1+1→w2.cell? ⟨b,o,none⟩=w1.cell? ⟨b,o,none⟩:=fun b o h=>hc2 b o (by omega)
  have B2:=qsd hb2;clear hb2 hc2 hf2;go_wp2
  go_ret2
  exact ⟨by first | rfl | simp,((((Below.refl _ w).alloc (Nat.le_refl _) _).alloc (by simp) _).trans (B1.out.mono (by simp;omega))).trans (B2.out.mono (by omega))⟩
 by_cases p1:0<n
 · by_cases p2:a=0
   · exact way1 p1 p2
   · by_cases p3:b=0
     · by_cases p4:0<u <;> by_cases p5:0<d
       · exact way3 p1 p2 p3 p4 p5
       · exact way4 p1 p2 p3 p4 p5
       · exact way5 p1 p2 p3 p4 p5
       · exact way6 p1 p2 p3 p4 p5
     · exact way2 p1 p2 p3
 · by_cases p3:b=0
   · by_cases p4:0<u <;> by_cases p5:0<d
     · exact way8 p1 p3 p4 p5
     · exact way9 p1 p3 p4 p5
     · exact way10 p1 p3 p4 p5
     · exact way11 p1 p3 p4 p5
   · exact way7 p1 p3
end
section
open Go.RowKit
open Go.Proofs.YtdcggkapbkjjbaaGreatDoor.B (f64bits f64frombits bw bcell)
attribute [local go_sem] f64bits f64frombits
theorem Nought_any (n u d m p l mode:Int) (w:World):Calls Tryz.prog 39 #[.agg #[.int .i64 n,.int .i64 u,.int .i64 d,.int .i64 m,.int .i64 p,.int .i64 l],.int .i64 mode] w fun r w'=>r=.returned (.float .f64 (nt (snd n u d m p l) n u d m p l mode))∧Below w.heap.size w w':=by
 have HS:=hid (sound_any n u d m p l);have HM:=hid (minus_any)
 rcases hs:snd n u d m p l with _|_
 · rw [hs] at HS
   have hv:nt false n u d m p l mode=0:=if_pos rfl;rw [hv];clear hs hv;go_enter Tryz.func39,Tryz.ntmps39
   go_wp2_with fail
   refine (HS.out _).mono ?_;rintro r w1 ⟨rfl,hb1⟩;have hz1:=hb1.size;simp at hz1;obtain ⟨hc1,hf1⟩:=bcell hb1;have B1:=qsd hb1;clear hb1;go_wp2;go_ret;exact ⟨by first | rfl | simp,((Below.refl _ w).alloc (Nat.le_refl _) _).trans (B1.out.mono (by simp))⟩
 have bd:=snd_bd hs;rw [hs] at HS;obtain ⟨f,hf⟩:∃ f,l-n-u-d=f:=⟨_,rfl⟩;have hfb:-9223372036854775808≤f∧f≤9223372036854775807:=by omega
 have hb1:0≤n∧n≤1099511627776:=bd.1;have hb2:0≤u∧u≤1099511627776:=bd.2.1;have hb3:0≤d∧d≤1099511627776:=bd.2.2.1;have hb4:0≤l∧l≤1099511627776:=bd.2.2.2;unfold nt;rw [if_neg (by decide),hf]
 clear hs bd
 by_cases p1:f=0
 · rw [if_pos p1]
   have q1:(f==0)=true:=by rw [beq_iff_eq];exact p1
   clear p1;go_enter Tryz.func39,Tryz.ntmps39
   go_wp2_with fail
   refine (HS.out _).mono ?_;rintro r w1 ⟨rfl,hb1⟩;have hz1:=hb1.size;simp at hz1;obtain ⟨hc1,hf1⟩:=bcell hb1;have B1:=qsd hb1;clear hb1
   go_wp2_with fail
   refine (HM.out _).mono ?_;rintro r w3 ⟨rfl,rfl⟩;go_wp2;go_ret;exact ⟨by first | rfl | simp,((Below.refl _ w).alloc (Nat.le_refl _) _).trans (B1.out.mono (by simp))⟩
 rw [if_neg p1];have q1:(f==0)=false:=by rw [beq_eq_false_iff_ne];exact p1
 clear p1
 by_cases p2:m=f
 · rw [if_pos p2]
   have q2:(m==f)=true:=by rw [beq_iff_eq];exact p2
   clear p2;go_enter Tryz.func39,Tryz.ntmps39
   go_wp2_with fail
   refine (HS.out _).mono ?_;rintro r w1 ⟨rfl,hb1⟩;have hz1:=hb1.size;simp at hz1;obtain ⟨hc1,hf1⟩:=bcell hb1;have B1:=qsd hb1;clear hb1
   go_wp2_with fail
   refine (HM.out _).mono ?_;rintro r w3 ⟨rfl,rfl⟩;go_wp2;go_ret;exact ⟨by first | rfl | simp,((Below.refl _ w).alloc (Nat.le_refl _) _).trans (B1.out.mono (by simp))⟩
 rw [if_neg p2];have q2:(m==f)=false:=by rw [beq_eq_false_iff_ne];exact p2
 clear p2
 by_cases p3:p=f
 · rw [if_pos p3]
   have q3:(p==f)=true:=by rw [beq_iff_eq];exact p3
   clear p3;go_enter Tryz.func39,Tryz.ntmps39
   go_wp2_with fail
   refine (HS.out _).mono ?_;rintro r w1 ⟨rfl,hb1⟩;have hz1:=hb1.size;simp at hz1;obtain ⟨hc1,hf1⟩:=bcell hb1;have B1:=qsd hb1;clear hb1
   go_wp2_with fail
   refine (HM.out _).mono ?_;rintro r w3 ⟨rfl,rfl⟩;go_wp2;go_ret;exact ⟨by first | rfl | simp,((Below.refl _ w).alloc (Nat.le_refl _) _).trans (B1.out.mono (by simp))⟩
 rw [if_neg p3];have q3:(p==f)=false:=by rw [beq_eq_false_iff_ne];exact p3
 clear p3
 by_cases p4:mode=3
 · rw [if_pos p4]
   subst p4;go_enter Tryz.func39,Tryz.ntmps39
   go_wp2_with fail
   refine (HS.out _).mono ?_;rintro r w1 ⟨rfl,hb1⟩;have hz1:=hb1.size;simp at hz1;obtain ⟨hc1,hf1⟩:=bcell hb1;have B1:=qsd hb1;clear hb1
   go_wp2_with fail
   refine (HM.out _).mono ?_;rintro r w3 ⟨rfl,rfl⟩;go_wp2;go_ret;exact ⟨by first | rfl | simp,((Below.refl _ w).alloc (Nat.le_refl _) _).trans (B1.out.mono (by simp))⟩
 · rw [if_neg p4]
   have q4:(mode==3)=false:=by rw [beq_eq_false_iff_ne];exact p4
   clear p4;go_enter Tryz.func39,Tryz.ntmps39
   go_wp2_with fail
   refine (HS.out _).mono ?_;rintro r w1 ⟨rfl,hb1⟩;have hz1:=hb1.size;simp at hz1;obtain ⟨hc1,hf1⟩:=bcell hb1;have B1:=qsd hb1;clear hb1
   go_wp2_with fail
   refine (HM.out _).mono ?_;rintro r w3 ⟨rfl,rfl⟩;go_wp2;go_ret;exact ⟨by first | rfl | simp,((Below.refl _ w).alloc (Nat.le_refl _) _).trans (B1.out.mono (by simp))⟩
end
section
open Go.RowKit
def ahd (V:Int) (s:Sp) (mode a b:Int):Nat×Bool×Int :=
 if (vd (snd s.n s.u s.d s.m s.p s.a&&may a b) s.n s.u s.d a b).2 then ((vd (snd s.n s.u s.d s.m s.p s.a&&may a b) s.n s.u s.d a b).1,true,0)
 else if V=0 then (nt (snd s.n s.u s.d s.m s.p s.a) s.n s.u s.d s.m s.p s.a mode,true,0) else (0,false,0)
theorem zero_words (L:List Nat) (V:Int) (hl:L.length=133) (hL:Wf L) (hv:(val L:Int)=V%(PB:Int)) (h0:-(HB:Int)<V) (h1:V<(HB:Int)):decide (L=List.replicate 133 0)=decide (V=0):=by
 rw [decide_eq_decide];have e:=PB_HB
 constructor
 · intro h
   rw [h,val_zeros] at hv;have h2:=Int.emod_emod_of_dvd V (Int.dvd_refl (PB:Int));have h3:(PB:Int) ∣ V:=Int.dvd_of_emod_eq_zero (by simpa using hv.symm)
   obtain ⟨k,hk⟩:=h3
   by_cases hk0:k=0
   · rw [hk,hk0];simp
   · have hp:=HB_pos
     have:(PB:Int)≤V∨V≤-(PB:Int):=by
      rcases Int.lt_or_gt_of_ne hk0 with h|h
      · right
        have:(PB:Int)*k≤(PB:Int)*(-1):=Int.mul_le_mul_of_nonneg_left (by omega) (by omega)
        omega
      · left
        have:(PB:Int)*1≤(PB:Int)*k:=Int.mul_le_mul_of_nonneg_left (by omega) (by omega)
        omega
     omega
 · rintro rfl
   refine val_inj (by simp [hl]) hL (Wf.zeros 133) ?_
   rw [val_zeros];simpa using hv
end
section
open Go.RowKit
theorem form_any {w:World}{a:Option Addr}{n c:Nat}{xs:List Nat}(h1:Arg w a n c xs) (hT:Tab w) (neg:Bool) (e:Int) (he0:-9223372036854775808≤e) (he1:e≤9223372036854775807) :
 Calls Tryz.prog 148 #[.agg #[.bool neg,.slice a n c,.int .i64 e]] w fun r w'=>DAns w.heap.size w' r (mkS neg (val xs) e)∧Below w.heap.size w w':=by
 have HB:=qsd (show Below w.heap.size w ((w.alloc (.cells #[.bool neg,.slice a n c,.int .i64 e] 81)).alloc (.cells #[.bool false,.slice none 0 0,.int .i64 0] 81)) from (((Below.refl _ _).alloc (Nat.le_refl _) _).alloc (by simp) _))
 have H1:=hid (Make_any (h1.below HB.out) (hT.belows HB.out) neg e he0 he1);have hl:=mkS_len neg (val xs) e;obtain ⟨o,ho⟩:∃ o,mkS neg (val xs) e=o:=⟨_,rfl⟩;rw [ho] at H1 hl ⊢;unfold DAns at H1 ⊢;obtain ⟨dn,hdn⟩:∃ d,dN o=d:=⟨_,rfl⟩;obtain ⟨X,hdx⟩:∃ d,dX o=d:=⟨_,rfl⟩;obtain ⟨de,hde⟩:∃ d,dE o=d:=⟨_,rfl⟩;obtain ⟨er,her⟩:∃ d,erS o=d:=⟨_,rfl⟩;rw [hdn,hdx,hde,her] at H1 ⊢;rw [hdx] at hl;clear h1 ho hdn hdx hde her hT he0 he1;go_enter Tryz.func148,Tryz.ntmps148
 go_wp2_with fail
 refine H1.out.mono ?_;rintro r w2 ⟨⟨v,rfl,hN⟩,hb⟩;obtain ⟨a2,c2,rfl,_⟩:=hN.arg (by omega)
 obtain ⟨hc,hf⟩:=bcell hb;have HF:=qsd (Fin.of 2 HB.out (by simp) hN hb)
 have hz:w.heap.size+1<w2.heap.size:=by have:=hb.size;simp at this;omega
 clear hN hb;go_wp2;exact bodyPost_ret (v:=.tuple #[.agg #[.bool dn,.slice a2 (ws X).length c2,.int .i64 de],.int .i64 er]) (by simp [results,Tryz.results148,go_sem,hc]) rfl (Fin.dans (m:=w.heap.size+2) (by repeat (first | exact HF.out | refine Fin.alloc ?_ _ | refine Fin.set ?_ _ _ _ (by omega) (by omega))) (by omega))
def DVal (lo:Nat) (w:World) (r:Ending) (o:Option (Bool×Nat×Int)):Prop :=
 ∃ v,r=.returned (.agg #[.bool (dN o),v,.int .i64 (dE o)])∧Nt lo w v (dX o)
theorem Fin.dval {lo m:Nat}{w0 w:World}{n:Bool}{v:Value}{X:Nat}{e:Int}(H:Fin lo m w0 w v X) (h:lo≤m) :
 (∃ v',Ending.returned (.agg #[.bool n,v,.int .i64 e])=.returned (.agg #[.bool n,v',.int .i64 e])∧Nt lo w v' X)∧Below lo w0 w:=⟨⟨v,rfl,H.nt.mono h⟩,H.bel⟩
theorem turned_any (a:Option Addr) (n c:Nat) (neg:Bool) (e:Int) (w:World) :
 Calls Tryz.prog 159 #[.agg #[.bool neg,.slice a n c,.int .i64 e]] w fun r w'=>r=.returned (.agg #[.bool (!neg),.slice a n c,.int .i64 e])∧Below w.heap.size w w':=by
 go_enter Tryz.func159,Tryz.ntmps159;go_wp2;exact bodyPost_ret (v:=.agg #[.bool (!neg),.slice a n c,.int .i64 e]) (by simp [results,Tryz.results159,go_sem]) rfl ⟨rfl,by repeat (first | exact Below.refl _ _ | refine Below.alloc ?_ (by first | omega | simp) _ | refine Below.setC ?_ _ _ _ (by omega) (by simp))⟩
end
namespace B
open Go.RowKit
attribute [local go_sem] f64bits f64frombits
theorem eqParts (a c:Bool) (k l x y f g:Int) (w:World):(Op.equalIn 10000 177 (.agg #[.bool a,.int .i64 k,.int .i64 x,.int .u64 f]) (.agg #[.bool c,.int .i64 l,.int .i64 y,.int .u64 g])).run Tryz.prog w=.ok (a==c&&(k==l&&(x==y&&f==g))) w:=by
 have u3:=Tryz.underlying3;have u4:=Tryz.underlying4;have u23:=Tryz.underlying31;have hS:Tryz.prog.underlying 177=some (.struct (Tryz.prog.fieldsOf 177)):=by kernel_rfl
 have hp:Tryz.prog.stoodInHeld 177=false:=by kernel_rfl
 rw [show (10000:Nat)=9999+1 from rfl,run_equalIn_agg w 9999 177 _ _ hS hp]
 simp only [Program.fieldsOf,Tryz.underlying177]
 go_simp
 by_cases h1:a=c <;> by_cases h2:k=l <;> by_cases h3:x=y <;> by_cases h4:f=g <;> simp [h1,h2,h3,h4]
attribute [local go_sem] eqParts
theorem fld0 (a:Bool) (k x f:Int) (w:World):(Instr.field 177 (.agg #[.bool a,.int .i64 k,.int .i64 x,.int .u64 f]) 0).run Tryz.prog w=.ok (.bool a) w:=by kernel_rfl
theorem fld1 (a:Bool) (k x f:Int) (w:World):(Instr.field 177 (.agg #[.bool a,.int .i64 k,.int .i64 x,.int .u64 f]) 1).run Tryz.prog w=.ok (.int .i64 k) w:=by kernel_rfl
theorem fld2 (a:Bool) (k x f:Int) (w:World):(Instr.field 177 (.agg #[.bool a,.int .i64 k,.int .i64 x,.int .u64 f]) 2).run Tryz.prog w=.ok (.int .i64 x) w:=by kernel_rfl
theorem fld3 (a:Bool) (k x f:Int) (w:World):(Instr.field 177 (.agg #[.bool a,.int .i64 k,.int .i64 x,.int .u64 f]) 3).run Tryz.prog w=.ok (.int .u64 f) w:=by kernel_rfl
attribute [local go_sem] fld0 fld1 fld2 fld3
theorem Same_any (s t:Bool) (e f u v:Nat) (he:e<2048) (hf:f<4503599627370496) (hu:u<2048) (hv:v<4503599627370496) (w:World) :
 Calls Tryz.prog 145 #[.float .f64 (bw s e f),.float .f64 (bw t u v)] w fun r w'=>r=.returned (.bool (decide (cb s e f=cb t u v)))∧w'=w:=by
 cases h1:odd e f
 · cases h2:odd u v
   · have h3:((bw s e f:Int)==(bw t u v:Int))=decide (cb s e f=cb t u v):=by
      rw [cb_else s e f (not_odd e f h1),cb_else t u v (not_odd u v h2),Bool.eq_iff_iff];simp;omega
     go_enter Tryz.func145,Tryz.ntmps145
     go_wp2_with fail
     refine (isNaN_any s e f he hf _).mono ?_;rintro r w1 ⟨rfl,rfl⟩
     go_wp2_with fail
     refine (isNaN_any t u v hu hv _).mono ?_;rintro r w1 ⟨rfl,rfl⟩
     go_wp2_with fail
     go_ret;exact ⟨rfl,rfl⟩
   · have h3:decide (cb s e f=cb t u v)=false:=by
      rw [cb_else s e f (not_odd e f h1),cb_odd t u v (is_odd u v h2)];exact decide_eq_false (bw_ne_nan s e f he hf h1)
     rw [h3];clear h3;go_enter Tryz.func145,Tryz.ntmps145
     go_wp2_with fail
     refine (isNaN_any s e f he hf _).mono ?_;rintro r w1 ⟨rfl,rfl⟩
     go_wp2_with fail
     refine (isNaN_any t u v hu hv _).mono ?_;rintro r w1 ⟨rfl,rfl⟩
     go_wp2_with fail
     refine (isNaN_any s e f he hf _).mono ?_;rintro r w1 ⟨rfl,rfl⟩
     go_wp2_with fail
     go_ret;exact ⟨rfl,rfl⟩
 · have h3:decide (cb s e f=cb t u v)=odd u v:=by
    rw [cb_odd s e f (is_odd e f h1)]
    cases h2:odd u v
    · rw [cb_else t u v (not_odd u v h2)]
      exact decide_eq_false (fun h=>bw_ne_nan t u v hu hv h2 h.symm)
    · rw [cb_odd t u v (is_odd u v h2)];rfl
   rw [h3];clear h3;go_enter Tryz.func145,Tryz.ntmps145
   go_wp2_with fail
   refine (isNaN_any s e f he hf _).mono ?_;rintro r w1 ⟨rfl,rfl⟩
   go_wp2_with fail
   refine (isNaN_any s e f he hf _).mono ?_;rintro r w1 ⟨rfl,rfl⟩
   go_wp2_with fail
   refine (isNaN_any t u v hu hv _).mono ?_;rintro r w1 ⟨rfl,rfl⟩
   go_wp2_with fail
   go_ret;exact ⟨rfl,rfl⟩
end B
namespace B
open Go.RowKit
attribute [local go_sem] f64bits f64frombits
theorem ret_bool {a b:Bool}(h:a=b):Ending.returned (.bool a)=.returned (.bool b):=by rw [h]
theorem sign_any (s:Bool) (e f:Nat) (he:e<2048) (hf:f<4503599627370496) (w:World) :
 Calls Tryz.prog 147 #[.float .f64 (bw s e f)] w fun r w'=>r=.returned (.bool s)∧w'=w:=by
 have hl:=bw_lt s e f he hf
 cases s
 · have h1:bw false e f<9223372036854775808:=by unfold bw;simp only [Bool.toNat_false];omega
   go_enter Tryz.func147,Tryz.ntmps147;go_wp2;go_ret;exact ⟨ret_bool (decide_eq_false (by omega)),rfl⟩
 · have h1:9223372036854775808≤bw true e f:=by unfold bw;simp only [Bool.toNat_true];omega
   go_enter Tryz.func147,Tryz.ntmps147;go_wp2;go_ret;exact ⟨ret_bool (decide_eq_true (by unfold wrap64;omega)),rfl⟩
theorem abs_any (s:Bool) (e f:Nat) (he:e<2048) (hf:f<4503599627370496) (w:World) :
 Calls Tryz.prog 225 #[.float .f64 (bw s e f)] w fun r w'=>r=.returned (.float .f64 (bw false e f))∧w'=w:=by
 have h1:=abs_bw s e f he hf;go_enter Tryz.func225,Tryz.ntmps225;go_wp2;go_ret;exact ⟨rfl,rfl⟩
theorem order_any (s t:Bool) (e f u v:Nat) (he:e<2048) (hf:f<4503599627370496) (hu:u<2048) (hv:v<4503599627370496) (w:World) :
 Calls Tryz.prog 98 #[.float .f64 (bw s e f),.float .f64 (bw t u v)] w fun r w'=>r=.returned (.int .i64 (oc (ky s e f) (ky t u v)))∧w'=w:=by
 have HS:=Same_any s t e f u v he hf hu hv;have hgt:=gt_f64 s t e f u v he hf hu hv;have hlt:=lt_f64 s t e f u v he hf hu hv
 cases hd:decide (cb s e f=cb t u v)
 · rw [hd] at HS
   have H2:Hid (∀ w,Calls Tryz.prog 145 #[.float .f64 (bw s e f),.float .f64 (bw t u v)] w fun r w'=>r=.returned (.bool false)∧w'=w):=HS
   have hne:=of_decide_eq_false hd;clear HS hd
   cases h1:odd e f
   · cases h2:odd u v
     · rw [h1,h2] at hgt hlt
       simp only [Bool.not_false,Bool.true_and] at hgt hlt;rw [cb_else s e f (not_odd e f h1),cb_else t u v (not_odd u v h2)] at hne
       by_cases c1:pl t u v<pl s e f
       · rw [oc_gt (ky_of_pl t s u v e f h2 h1 c1)]
         rw [decide_eq_true c1] at hgt;clear hne c1 hlt;go_enter Tryz.func98,Tryz.ntmps98
         go_wp2_with fail
         refine (H2.out _).mono ?_;rintro r w1 ⟨rfl,rfl⟩
         go_wp2_with fail
         refine (isNaN_any s e f he hf _).mono ?_;rintro r w1 ⟨rfl,rfl⟩
         go_wp2_with fail
         go_ret;exact ⟨rfl,rfl⟩
       · by_cases c2:pl s e f<pl t u v
         · rw [oc_lt (ky_of_pl s t e f u v h1 h2 c2)]
           rw [decide_eq_true c2] at hlt;rw [decide_eq_false c1] at hgt;clear hne c1 c2;go_enter Tryz.func98,Tryz.ntmps98
           go_wp2_with fail
           refine (H2.out _).mono ?_;rintro r w1 ⟨rfl,rfl⟩
           go_wp2_with fail
           refine (isNaN_any s e f he hf _).mono ?_;rintro r w1 ⟨rfl,rfl⟩
           go_wp2_with fail
           refine (isNaN_any t u v hu hv _).mono ?_;rintro r w1 ⟨rfl,rfl⟩
           go_wp2_with fail
           go_ret;exact ⟨rfl,rfl⟩
         · rw [decide_eq_false c1] at hgt
           rw [decide_eq_false c2] at hlt;have hk:=ky_zero s t e f u v h1 h2 hne (by omega)
           clear hne c1 c2
           cases s
           · rw [oc_gt (hk.1 rfl)]
             clear hk;go_enter Tryz.func98,Tryz.ntmps98
             go_wp2_with fail
             refine (H2.out _).mono ?_;rintro r w1 ⟨rfl,rfl⟩
             go_wp2_with fail
             refine (isNaN_any false e f he hf _).mono ?_;rintro r w1 ⟨rfl,rfl⟩
             go_wp2_with fail
             refine (isNaN_any t u v hu hv _).mono ?_;rintro r w1 ⟨rfl,rfl⟩
             go_wp2_with fail
             refine (sign_any false e f he hf _).mono ?_;rintro r w1 ⟨rfl,rfl⟩
             go_wp2_with fail
             go_ret;exact ⟨rfl,rfl⟩
           · rw [oc_lt (hk.2 rfl)]
             clear hk;go_enter Tryz.func98,Tryz.ntmps98
             go_wp2_with fail
             refine (H2.out _).mono ?_;rintro r w1 ⟨rfl,rfl⟩
             go_wp2_with fail
             refine (isNaN_any true e f he hf _).mono ?_;rintro r w1 ⟨rfl,rfl⟩
             go_wp2_with fail
             refine (isNaN_any t u v hu hv _).mono ?_;rintro r w1 ⟨rfl,rfl⟩
             go_wp2_with fail
             refine (sign_any true e f he hf _).mono ?_;rintro r w1 ⟨rfl,rfl⟩
             go_wp2_with fail
             go_ret;exact ⟨rfl,rfl⟩
     · rw [ky_odd t u v h2,oc_lt (ky_lt s e f he hf h1)]
       rw [h1,h2] at hgt hlt;simp only [Bool.not_false,Bool.true_and,Bool.not_true,Bool.false_and] at hgt hlt;clear hne hlt;go_enter Tryz.func98,Tryz.ntmps98
       go_wp2_with fail
       refine (H2.out _).mono ?_;rintro r w1 ⟨rfl,rfl⟩
       go_wp2_with fail
       refine (isNaN_any s e f he hf _).mono ?_;rintro r w1 ⟨rfl,rfl⟩
       go_wp2_with fail
       refine (isNaN_any t u v hu hv _).mono ?_;rintro r w1 ⟨rfl,rfl⟩
       go_wp2_with fail
       go_ret;exact ⟨rfl,rfl⟩
   · have h2:odd u v=false:=by
      cases h2:odd u v
      · rfl
      · exact absurd ((cb_odd s e f (is_odd e f h1)).trans (cb_odd t u v (is_odd u v h2)).symm) hne
     rw [ky_odd s e f h1,oc_gt (ky_lt t u v hu hv h2)];clear hne hgt hlt;go_enter Tryz.func98,Tryz.ntmps98
     go_wp2_with fail
     refine (H2.out _).mono ?_;rintro r w1 ⟨rfl,rfl⟩
     go_wp2_with fail
     refine (isNaN_any s e f he hf _).mono ?_;rintro r w1 ⟨rfl,rfl⟩
     go_wp2_with fail
     go_ret;exact ⟨rfl,rfl⟩
 · rw [hd] at HS
   have H2:Hid (∀ w,Calls Tryz.prog 145 #[.float .f64 (bw s e f),.float .f64 (bw t u v)] w fun r w'=>r=.returned (.bool true)∧w'=w):=HS
   rw [oc_eq (ky_of_cb s t e f u v he hf hu hv (of_decide_eq_true hd))];clear HS hd hgt hlt;go_enter Tryz.func98,Tryz.ntmps98
   go_wp2_with fail
   refine (H2.out _).mono ?_;rintro r w1 ⟨rfl,rfl⟩
   go_wp2_with fail
   go_ret;exact ⟨rfl,rfl⟩
end B
section
open Go.RowKit
theorem Int_core_neg (n:Int) (m:Nat) (X:Nat) (dn:Bool) (de:Int) (er:Int) (w:World) (h0:n<0) (h1:-9223372036854775808≤n) (hm:(ws m).length≤100) (hl:(ws X).length≤8192) (e1:IntKind.u64.wrap (-IntKind.u64.wrap n)=(m:Int))
 (HO:Hid (∀ u,Calls Tryz.prog 113 #[.int .u64 (m:Int)] u fun r w'=>∃ v,r=.returned v∧Nt u.heap.size w' v m∧Below u.heap.size u w'))
 (HM:Hid (∀ (u:World) (a:Option Addr) (c:Nat),Below w.heap.size w u→Arg u a (ws m).length c (ws m)→Calls Tryz.prog 67 #[.bool true,.slice a (ws m).length c,.int .i64 0] u fun r w'=>(∃ v,r=.returned (.tuple #[.agg #[.bool dn,v,.int .i64 de],.int .i64 er])∧Nt u.heap.size w' v X)∧Below u.heap.size u w')) :
 Calls Tryz.prog 76 #[.int .i64 n] w fun r w'=>(∃ v,r=.returned (.agg #[.bool dn,v,.int .i64 de])∧Nt w.heap.size w' v X)∧Below w.heap.size w w':=by
 go_enter Tryz.func76,Tryz.ntmps76
 go_wp2_with fail
 try rw [e1]
 refine (Calls.mono (HO.out _)) ?_;rintro r w1 ⟨v,rfl,hN,hb⟩;obtain ⟨a1,c1,rfl,A1⟩:=hN.arg (by omega)
 have hz:w.heap.size<w1.heap.size:=by have:=hb.size;simp at this;omega
 have hbw:Below w.heap.size w w1:=(below_alloc w (.cells #[.bool false,.slice none 0 0,.int .i64 0] 81)).trans (hb.mono (by simp))
 have S1:=qsd hbw;have H2:=hid (HM.out w1 a1 c1 hbw A1);obtain ⟨hc,hf⟩:=bcell hb;clear hN hb A1 hbw
 go_wp2_with fail
 refine H2.out.mono ?_;rintro r w2 ⟨⟨v,rfl,hN⟩,hb2⟩;obtain ⟨a2,c2,rfl,_⟩:=hN.arg (by omega)
 obtain ⟨hc2,hf2⟩:=bcell hb2;have hz2:w.heap.size<w2.heap.size:=by have:=hb2.size;omega
 have HF:=qsd (show Fin w.heap.size w1.heap.size w w2 (.slice a2 (ws X).length c2) X from ⟨hN,S1.out.trans (hb2.mono (by omega)),by omega⟩)
 clear hN hb2;go_wp2;exact bodyPost_ret (v:=.agg #[.bool dn,.slice a2 (ws X).length c2,.int .i64 de]) (by simp [results,Tryz.results76,go_sem,hc,hc2,hz,hz2]) rfl (Fin.dval (m:=w1.heap.size) (by repeat (first | exact HF.out | refine Fin.alloc ?_ _ | refine Fin.set ?_ _ _ _ (by omega) (by omega))) (by omega))
theorem Int_core_pos (n:Int) (m:Nat) (X:Nat) (dn:Bool) (de:Int) (er:Int) (w:World) (h0:0≤n) (h1:n≤9223372036854775807) (hd:decide (n<0)=false) (hm:(ws m).length≤100) (hl:(ws X).length≤8192) (e1:IntKind.u64.wrap n=n)
 (HO:Hid (∀ u,Calls Tryz.prog 113 #[.int .u64 n] u fun r w'=>∃ v,r=.returned v∧Nt u.heap.size w' v m∧Below u.heap.size u w'))
 (HM:Hid (∀ (u:World) (a:Option Addr) (c:Nat),Below w.heap.size w u→Arg u a (ws m).length c (ws m)→Calls Tryz.prog 67 #[.bool false,.slice a (ws m).length c,.int .i64 0] u fun r w'=>(∃ v,r=.returned (.tuple #[.agg #[.bool dn,v,.int .i64 de],.int .i64 er])∧Nt u.heap.size w' v X)∧Below u.heap.size u w')) :
 Calls Tryz.prog 76 #[.int .i64 n] w fun r w'=>(∃ v,r=.returned (.agg #[.bool dn,v,.int .i64 de])∧Nt w.heap.size w' v X)∧Below w.heap.size w w':=by
 go_enter Tryz.func76,Tryz.ntmps76
 go_wp2_with fail
 try rw [e1]
 refine (Calls.mono (HO.out _)) ?_;rintro r w1 ⟨v,rfl,hN,hb⟩;obtain ⟨a1,c1,rfl,A1⟩:=hN.arg (by omega)
 have hz:w.heap.size<w1.heap.size:=by have:=hb.size;simp at this;omega
 have hbw:Below w.heap.size w w1:=(below_alloc w (.cells #[.bool false,.slice none 0 0,.int .i64 0] 81)).trans (hb.mono (by simp))
 have S1:=qsd hbw;have H2:=hid (HM.out w1 a1 c1 hbw A1);obtain ⟨hc,hf⟩:=bcell hb;clear hN hb A1 hbw
 go_wp2_with fail
 refine H2.out.mono ?_;rintro r w2 ⟨⟨v,rfl,hN⟩,hb2⟩;obtain ⟨a2,c2,rfl,_⟩:=hN.arg (by omega)
 obtain ⟨hc2,hf2⟩:=bcell hb2;have hz2:w.heap.size<w2.heap.size:=by have:=hb2.size;omega
 have HF:=qsd (show Fin w.heap.size w1.heap.size w w2 (.slice a2 (ws X).length c2) X from ⟨hN,S1.out.trans (hb2.mono (by omega)),by omega⟩)
 clear hN hb2;go_wp2;exact bodyPost_ret (v:=.agg #[.bool dn,.slice a2 (ws X).length c2,.int .i64 de]) (by simp [results,Tryz.results76,go_sem,hc,hc2,hz,hz2]) rfl (Fin.dval (m:=w1.heap.size) (by repeat (first | exact HF.out | refine Fin.alloc ?_ _ | refine Fin.set ?_ _ _ _ (by omega) (by omega))) (by omega))
theorem natAbs_len (n:Int) (h0:-9223372036854775808≤n) (h1:n≤9223372036854775807):(ws n.natAbs).length≤100:=by
 have:=(ws_len_le n.natAbs 2).2 (by rw [show pw 2=18446744073709551616 from rfl];omega)
 omega
theorem Int_any (n:Int) (w:World) (hT:Tab w) (h0:-9223372036854775808≤n) (h1:n≤9223372036854775807) :
 Calls Tryz.prog 76 #[.int .i64 n] w fun r w'=>DVal w.heap.size w' r (mkS (decide (n<0)) n.natAbs 0)∧Below w.heap.size w w':=by
 have hl:=natAbs_len n h0 h1
 have HM:∀ (s:Bool) (u:World) (a:Option Addr) (c:Nat),Below w.heap.size w u→Arg u a (ws n.natAbs).length c (ws n.natAbs)→Calls Tryz.prog 67 #[.bool s,.slice a (ws n.natAbs).length c,.int .i64 0] u fun r w'=>DAns u.heap.size w' r (mkS s n.natAbs 0)∧Below u.heap.size u w':=by
  intro s u a c hu hA;have:=Make_any hA (hT.belows hu) s 0 (by omega) (by omega)
  rw [val_ws] at this;exact this
 by_cases hn:n<0
 · rw [decide_eq_true hn]
   exact Int_core_neg n n.natAbs _ _ _ _ w hn h0 hl (mkS_len _ _ _) (by simp [IntKind.wrap,IntKind.bits,IntKind.signed];omega) (hid fun u=>of_any _ u (by omega)) (hid (HM true))
 · rw [decide_eq_false hn]
   have e:((n.natAbs:Nat):Int)=n:=by omega
   exact Int_core_pos n n.natAbs _ _ _ _ w (by omega) h1 (decide_eq_false hn) hl (mkS_len _ _ _) (by simp [IntKind.wrap,IntKind.bits,IntKind.signed];omega) (hid fun u=>by have:=of_any n.natAbs u (by omega);rw [e] at this;exact this) (hid (HM false))
end
section
open Go.RowKit
theorem Nt.arg' {lo:Nat}{w:World}{a:Option Addr}{n c X:Nat}(h:Nt lo w (.slice a n c) X) (hs:(ws X).length≤35184372088832):n=(ws X).length∧Arg w a (ws X).length c (ws X):=by
 obtain ⟨a',c',e,A⟩:=h.arg hs
 cases e
 exact ⟨rfl,A⟩
end
section
open Go.RowKit
theorem len8 {X:Nat}(h:bl X≤262144):(ws X).length≤8192:=by rw [ws_len_bl];omega
theorem notLG {X:Nat}(h:bl X≤262144):¬ LG X:=by rw [LG_bl];omega
theorem bl_mono {X Y:Nat}(h:X≤Y):bl X≤bl Y:=by
 by_cases h0:bl X=0
 · omega
 · have h1:=(bl_gt X (bl X-1)).1 (by omega)
   have:=(bl_gt Y (bl X-1)).2 (Nat.le_trans h1 h);omega
theorem bl_le {X k:Nat}(h:X<2^k):bl X≤k:=by
 by_cases h0:k<bl X
 · have:=(bl_gt X k).1 h0;omega
 · omega
theorem shift_half {X:Nat}(h:bl X≤262144):shiftS X (-1)=(X/2,0):=by
 unfold shiftS;rw [if_neg (notLG h)]
 by_cases h0:X=0
 · rw [if_pos h0,h0]
 · rw [if_neg h0,if_pos (by omega)];rfl
theorem half_bl {X k:Nat}(h:bl X≤k+1):X/2<2^k:=by
 have h1:=bl_lt X;have h2:2^bl X≤2^(k+1):=Nat.pow_le_pow_right (by omega) h
 rw [Nat.pow_succ] at h2;omega
theorem even_half {P Q:Nat}(hP:P%2=1) (hQ:Q%2=1) (bP:bl P≤262144) (bQ:bl Q≤262144):bl (P/2+Q/2)≤262144∧bl (P/2+Q/2+1)≤262144∧2*(P/2+Q/2+1)=P+Q:=by
 have h1:=half_bl (X:=P) (k:=262143) bP;have h2:=half_bl (X:=Q) (k:=262143) bQ;have key:∀ k:Nat,P/2<2^k→Q/2<2^k→P/2+Q/2+1<2^(k+1):=by intro k;rw [Nat.pow_succ];omega
 have h3:=key _ h1 h2;have h4:=bl_le h3;exact ⟨Nat.le_trans (bl_mono (by omega)) h4,h4,by omega⟩
theorem evenSum_any {w:World}{a b:Option Addr}{l c k d:Nat}{xs ys:List Nat}(h1:Arg w a l c xs) (h2:Arg w b k d ys) (hT:Tab w) (neg:Bool) (e:Int) (he0:-1048576≤e) (he1:e≤1048576)
 (P Q:Nat) (hP:val xs=P) (hQ:val ys=Q) (oP:P%2=1) (oQ:Q%2=1) (bP:bl P≤262144) (bQ:bl Q≤262144) :
 Calls Tryz.prog 236 #[.bool neg,.slice a l c,.slice b k d,.int .i64 e] w fun r w'=>DAns w.heap.size w' r (mkS neg (P+Q) e)∧Below w.heap.size w w':=by
 obtain ⟨b3,b4,e5⟩:=even_half oP oQ bP bQ;rw [←e5,mkS_double];obtain ⟨P2,hP2⟩:∃ x,P/2=x:=⟨_,rfl⟩;obtain ⟨Q2,hQ2⟩:∃ x,Q/2=x:=⟨_,rfl⟩;have l1:(ws P2).length≤8192:=by rw [←hP2];exact len8 (Nat.le_trans (bl_mono (Nat.div_le_self _ _)) bP)
 have l2:(ws Q2).length≤8192:=by rw [←hQ2];exact len8 (Nat.le_trans (bl_mono (Nat.div_le_self _ _)) bQ)
 have s1:=shift_half bP;have s2:=shift_half bQ;rw [hP2] at s1 b3 b4 ⊢;rw [hQ2] at s2 b3 b4 ⊢;obtain ⟨V,hV⟩:∃ x,P2+Q2=x:=⟨_,rfl⟩;rw [hV] at b3 b4 ⊢;obtain ⟨H1,hH1⟩:∃ x,V+1=x:=⟨_,rfl⟩;rw [hH1] at b4 ⊢;have l3:(ws V).length≤8192:=len8 b3;have l4:(ws H1).length≤8192:=len8 b4;have l5:(ws 1).length≤8192:=by rw [ws_one];simp
 have HX:=(qsd (ai h1 (ai h2 (ai hT (ai hP (ai hQ (ai s1 (ai s2 (ai hV (ai hH1 (ai b3 b4)))))))))));clear h1 h2 hT hP hQ oP oQ bP bQ e5 hP2 hQ2 s1 s2 hV hH1 b3 b4;unfold DAns;have hl:=mkS_len neg H1 (e+1);obtain ⟨o,ho⟩:∃ o,mkS neg H1 (e+1)=o:=⟨_,rfl⟩;rw [ho] at hl ⊢;obtain ⟨dn,hdn⟩:∃ d,dN o=d:=⟨_,rfl⟩;obtain ⟨X,hX⟩:∃ d,dX o=d:=⟨_,rfl⟩;obtain ⟨de,hde⟩:∃ d,dE o=d:=⟨_,rfl⟩;obtain ⟨er,her⟩:∃ d,erS o=d:=⟨_,rfl⟩;rw [hdn,hX,hde,her];rw [hX] at hl;have HS:=(qsd (ai ho (ai hdn (ai hX (ai hde her)))));clear ho hdn hX hde her;have S0:=qsd (show Below (w.alloc (.cells #[.bool false,.slice none 0 0,.int .i64 0] 81)).heap.size (w.alloc (.cells #[.bool false,.slice none 0 0,.int .i64 0] 81)) (w.alloc (.cells #[.bool false,.slice none 0 0,.int .i64 0] 81)) from Below.refl _ _)
 have B0:=qsd (show Below w.heap.size w (w.alloc (.cells #[.bool false,.slice none 0 0,.int .i64 0] 81)) from below_alloc w _)
 go_enter Tryz.func236,Tryz.ntmps236;obtain C:=S0.out;have BW:Below w.heap.size w (w.alloc (.cells #[.bool false,.slice none 0 0,.int .i64 0] 81)):=B0.out.trans (C.mono (by simp))
 have H:=hid (Shift_arg (V:=P2) (-1) (HX.out.1.below BW) (by rw [HX.out.2.2.2.1];exact HX.out.2.2.2.2.2.1) (by omega) (by omega))
 clear C BW
 go_wp2_with fail
 refine H.out.mono ?_;rintro r u1 ⟨v,rfl,hN,hb⟩;obtain ⟨a1,c1,rfl,_⟩:=hN.arg (by omega)
 obtain C:=S0.out;have hz1:=C.size;have S1:=(qsd (ai (C.trans (hb.mono C.size)) (hN.mono C.size)));clear C hb H hN;obtain ⟨C,N1⟩:=S1.out;have BW:Below w.heap.size w u1:=B0.out.trans (C.mono (by simp))
 have H:=hid (Shift_arg (V:=Q2) (-1) (HX.out.2.1.below BW) (by rw [HX.out.2.2.2.2.1];exact HX.out.2.2.2.2.2.2.1) (by omega) (by omega))
 clear C BW N1
 go_wp2_with fail
 refine H.out.mono ?_;rintro r u2 ⟨v,rfl,hN,hb⟩;obtain ⟨a2,c2,rfl,_⟩:=hN.arg (by omega)
 obtain ⟨C,N1⟩:=S1.out;have hz2:=C.size;have S2:=(qsd (ai (C.trans (hb.mono C.size)) (ai (N1.below hb) (hN.mono C.size))));clear C hb H hN N1;obtain ⟨C,N1,N2⟩:=S2.out;have BW:Below w.heap.size w u2:=B0.out.trans (C.mono (by simp))
 have H:=hid (Add_arg (V:=V) (N1.arg' (by omega)).2 (N2.arg' (by omega)).2 (by rw [val_ws,val_ws];exact addS_ok (notLG HX.out.2.2.2.2.2.2.2.2.2.1) HX.out.2.2.2.2.2.2.2.1))
 clear C BW N1 N2
 go_wp2_with fail
 refine H.out.mono ?_;rintro r u3 ⟨v,rfl,hN,hb⟩;obtain ⟨a3,c3,rfl,_⟩:=hN.arg (by omega)
 obtain ⟨C,N1,N2⟩:=S2.out;have hz3:=C.size;have S3:=(qsd (ai (C.trans (hb.mono C.size)) (ai (N1.below hb) (ai (N2.below hb) (hN.mono C.size)))));clear C hb H hN N1 N2;obtain ⟨C,N1,N2,N3⟩:=S3.out;have BW:Below w.heap.size w u3:=B0.out.trans (C.mono (by simp))
 have H:=hid (of_any 1 u3 (by omega))
 clear C BW N1 N2 N3
 go_wp2_with fail
 refine H.out.mono ?_;rintro r u4 ⟨v,rfl,hN,hb⟩;obtain ⟨a4,c4,rfl,_⟩:=hN.arg (by omega)
 obtain ⟨C,N1,N2,N3⟩:=S3.out;have hz4:=C.size;have S4:=(qsd (ai (C.trans (hb.mono C.size)) (ai (N1.below hb) (ai (N2.below hb) (ai (N3.below hb) (hN.mono C.size))))));clear C hb H hN N1 N2 N3;obtain ⟨C,N1,N2,N3,N4⟩:=S4.out;have BW:Below w.heap.size w u4:=B0.out.trans (C.mono (by simp))
 have H:=hid (Add_arg (V:=H1) (N3.arg' (by omega)).2 (N4.arg' (by omega)).2 (by rw [val_ws,val_ws];exact addS_ok (notLG HX.out.2.2.2.2.2.2.2.2.2.2) HX.out.2.2.2.2.2.2.2.2.1))
 clear C BW N1 N2 N3 N4
 go_wp2_with fail
 refine H.out.mono ?_;rintro r u5 ⟨v,rfl,hN,hb⟩;obtain ⟨a5,c5,rfl,_⟩:=hN.arg (by omega)
 obtain ⟨C,N1,N2,N3,N4⟩:=S4.out;have hz5:=C.size;have S5:=(qsd (ai (C.trans (hb.mono C.size)) (ai (N1.below hb) (ai (N2.below hb) (ai (N3.below hb) (ai (N4.below hb) (hN.mono C.size)))))));clear C hb H hN N1 N2 N3 N4;obtain ⟨C,N1,N2,N3,N4,N5⟩:=S5.out;have BW:Below w.heap.size w u5:=B0.out.trans (C.mono (by simp))
 have H0:=show Calls Tryz.prog 67 #[.bool neg,.slice a5 (ws H1).length c5,.int .i64 (e+1)] u5 fun r w'=>DAns u5.heap.size w' r (mkS neg H1 (e+1))∧Below u5.heap.size u5 w' from by have:=Make_any (N5.arg' (by omega)).2 (HX.out.2.2.1.belows BW) neg (e+1) (by omega) (by omega);rw [val_ws] at this;exact this
 unfold DAns at H0;rw [HS.out.1,HS.out.2.1,HS.out.2.2.1,HS.out.2.2.2.1,HS.out.2.2.2.2] at H0;have H:=hid H0;clear C BW H0 N1 N2 N3 N4 N5
 go_wp2_with fail
 refine H.out.mono ?_;rintro r uu ⟨⟨v,rfl,hN⟩,hb⟩;obtain ⟨aa,cc,rfl,_⟩:=hN.arg (by omega)
 obtain ⟨C,N1,N2,N3,N4,N5⟩:=S5.out;have hbb:=C.trans (hb.mono C.size);obtain ⟨hc,hf⟩:=bcell hbb;have HF:=qsd (Fin.of 1 B0.out (by simp) (hN.mono C.size) hbb)
 have hz:w.heap.size<uu.heap.size:=by have:=hbb.size;simp at this;omega
 clear C hb hN hbb H N1 N2 N3 N4 N5;go_wp2;exact bodyPost_ret (v:=.tuple #[.agg #[.bool dn,.slice aa (ws X).length cc,.int .i64 de],.int .i64 er]) (by simp [results,Tryz.results236,go_sem,hc]) rfl (Fin.dans (m:=w.heap.size+1) (by repeat (first | exact HF.out | refine Fin.alloc ?_ _ | refine Fin.set ?_ _ _ _ (by omega) (by omega))) (by omega))
theorem sum_odd {w:World}{a b:Option Addr}{l c k d:Nat}{xs ys:List Nat}(h1:Arg w a l c xs) (h2:Arg w b k d ys) (hT:Tab w) (neg:Bool) (e:Int) (he0:-1048576≤e) (he1:e≤1048576)
 (P Q:Nat) (hP:val xs=P) (hQ:val ys=Q) (oP:P%2=1) (oQ:Q%2=1) (bP:bl P≤262144) (bQ:bl Q≤262144) :
 Calls Tryz.prog 204 #[.bool neg,.slice a l c,.slice b k d,.int .i64 e] w fun r w'=>DAns w.heap.size w' r (mkS neg (P+Q) e)∧Below w.heap.size w w':=by
 have HX:=(qsd (ai h1 (ai h2 (ai hT (ai hP (ai hQ (ai oP (ai oQ (ai bP bQ)))))))));clear h1 h2 hT hP hQ oP oQ bP bQ;unfold DAns;have hl:=mkS_len neg (P+Q) e;obtain ⟨o,ho⟩:∃ o,mkS neg (P+Q) e=o:=⟨_,rfl⟩;rw [ho] at hl ⊢;obtain ⟨dn,hdn⟩:∃ d,dN o=d:=⟨_,rfl⟩;obtain ⟨X,hX⟩:∃ d,dX o=d:=⟨_,rfl⟩;obtain ⟨de,hde⟩:∃ d,dE o=d:=⟨_,rfl⟩;obtain ⟨er,her⟩:∃ d,erS o=d:=⟨_,rfl⟩;rw [hdn,hX,hde,her];rw [hX] at hl;have HS:=(qsd (ai ho (ai hdn (ai hX (ai hde her)))));clear ho hdn hX hde her;have S0:=qsd (show Below (w.alloc (.cells #[.bool false,.slice none 0 0,.int .i64 0] 81)).heap.size (w.alloc (.cells #[.bool false,.slice none 0 0,.int .i64 0] 81)) (w.alloc (.cells #[.bool false,.slice none 0 0,.int .i64 0] 81)) from Below.refl _ _)
 have B0:=qsd (show Below w.heap.size w (w.alloc (.cells #[.bool false,.slice none 0 0,.int .i64 0] 81)) from below_alloc w _)
 go_enter Tryz.func204,Tryz.ntmps204;obtain C:=S0.out;have BW:Below w.heap.size w (w.alloc (.cells #[.bool false,.slice none 0 0,.int .i64 0] 81)):=B0.out.trans (C.mono (by simp))
 have H:=hid (show Calls Tryz.prog 195 #[.slice a l c,.int .i64 0] (w.alloc (.cells #[.bool false,.slice none 0 0,.int .i64 0] 81)) fun r w'=>r=.returned (.bool true)∧w'=(w.alloc (.cells #[.bool false,.slice none 0 0,.int .i64 0] 81)) from by have A:=HX.out.1.below BW;have:=bit_any xs a l c _ 0 _ A.len A.wf A.rd (by omega);rw [Nat.pow_zero,Nat.div_one,HX.out.2.2.2.1,HX.out.2.2.2.2.2.1] at this;exact this)
 clear C BW
 go_wp2_with fail
 refine H.out.mono ?_;rintro r ww ⟨rfl,hw⟩;rw [hw];clear H hw ww;obtain C:=S0.out;have BW:Below w.heap.size w (w.alloc (.cells #[.bool false,.slice none 0 0,.int .i64 0] 81)):=B0.out.trans (C.mono (by simp))
 have H0:=evenSum_any (HX.out.1.below BW) (HX.out.2.1.below BW) (HX.out.2.2.1.belows BW) neg e he0 he1 P Q HX.out.2.2.2.1 HX.out.2.2.2.2.1 HX.out.2.2.2.2.2.1 HX.out.2.2.2.2.2.2.1 HX.out.2.2.2.2.2.2.2.1 HX.out.2.2.2.2.2.2.2.2;unfold DAns at H0;rw [HS.out.1,HS.out.2.1,HS.out.2.2.1,HS.out.2.2.2.1,HS.out.2.2.2.2] at H0;have H:=hid H0;clear C BW H0
 go_wp2_with fail
 refine H.out.mono ?_;rintro r uu ⟨⟨v,rfl,hN⟩,hb⟩;obtain ⟨aa,cc,rfl,_⟩:=hN.arg (by omega)
 obtain C:=S0.out;have hbb:=C.trans (hb.mono C.size);obtain ⟨hc,hf⟩:=bcell hbb;have HF:=qsd (Fin.of 1 B0.out (by simp) (hN.mono C.size) hbb)
 have hz:w.heap.size<uu.heap.size:=by have:=hbb.size;simp at this;omega
 clear C hb hN hbb H;go_wp2;exact bodyPost_ret (v:=.tuple #[.agg #[.bool dn,.slice aa (ws X).length cc,.int .i64 de],.int .i64 er]) (by simp [results,Tryz.results204,go_sem,hc]) rfl (Fin.dans (m:=w.heap.size+1) (by repeat (first | exact HF.out | refine Fin.alloc ?_ _ | refine Fin.set ?_ _ _ _ (by omega) (by omega))) (by omega))
theorem sum_even {w:World}{a b:Option Addr}{l c k d:Nat}{xs ys:List Nat}(h1:Arg w a l c xs) (h2:Arg w b k d ys) (hT:Tab w) (neg:Bool) (e:Int) (he0:-1048576≤e) (he1:e≤1048576)
 (P Q:Nat) (hP:val xs=P) (hQ:val ys=Q) (oP:P%2=0) (hs:bl (P+Q)≤262144) :
 Calls Tryz.prog 204 #[.bool neg,.slice a l c,.slice b k d,.int .i64 e] w fun r w'=>DAns w.heap.size w' r (mkS neg (P+Q) e)∧Below w.heap.size w w':=by
 obtain ⟨V,hV⟩:∃ x,P+Q=x:=⟨_,rfl⟩;rw [hV] at hs ⊢;have l1:=len8 hs;have HX:=(qsd (ai h1 (ai h2 (ai hT (ai hP (ai hQ (ai oP (ai hs hV))))))));clear h1 h2 hT hP hQ oP hs hV;unfold DAns;have hl:=mkS_len neg V e;obtain ⟨o,ho⟩:∃ o,mkS neg V e=o:=⟨_,rfl⟩;rw [ho] at hl ⊢;obtain ⟨dn,hdn⟩:∃ d,dN o=d:=⟨_,rfl⟩;obtain ⟨X,hX⟩:∃ d,dX o=d:=⟨_,rfl⟩;obtain ⟨de,hde⟩:∃ d,dE o=d:=⟨_,rfl⟩;obtain ⟨er,her⟩:∃ d,erS o=d:=⟨_,rfl⟩;rw [hdn,hX,hde,her];rw [hX] at hl;have HS:=(qsd (ai ho (ai hdn (ai hX (ai hde her)))));clear ho hdn hX hde her;have S0:=qsd (show Below (w.alloc (.cells #[.bool false,.slice none 0 0,.int .i64 0] 81)).heap.size (w.alloc (.cells #[.bool false,.slice none 0 0,.int .i64 0] 81)) (w.alloc (.cells #[.bool false,.slice none 0 0,.int .i64 0] 81)) from Below.refl _ _)
 have B0:=qsd (show Below w.heap.size w (w.alloc (.cells #[.bool false,.slice none 0 0,.int .i64 0] 81)) from below_alloc w _)
 go_enter Tryz.func204,Tryz.ntmps204;obtain C:=S0.out;have BW:Below w.heap.size w (w.alloc (.cells #[.bool false,.slice none 0 0,.int .i64 0] 81)):=B0.out.trans (C.mono (by simp))
 have H:=hid (show Calls Tryz.prog 195 #[.slice a l c,.int .i64 0] (w.alloc (.cells #[.bool false,.slice none 0 0,.int .i64 0] 81)) fun r w'=>r=.returned (.bool false)∧w'=(w.alloc (.cells #[.bool false,.slice none 0 0,.int .i64 0] 81)) from by have A:=HX.out.1.below BW;have:=bit_any xs a l c _ 0 _ A.len A.wf A.rd (by omega);rw [Nat.pow_zero,Nat.div_one,HX.out.2.2.2.1,HX.out.2.2.2.2.2.1] at this;exact this)
 clear C BW
 go_wp2_with fail
 refine H.out.mono ?_;rintro r ww ⟨rfl,hw⟩;rw [hw];clear H hw ww;obtain C:=S0.out;have BW:Below w.heap.size w (w.alloc (.cells #[.bool false,.slice none 0 0,.int .i64 0] 81)):=B0.out.trans (C.mono (by simp))
 have H:=hid (Add_arg (V:=V) (HX.out.1.below BW) (HX.out.2.1.below BW) (by rw [HX.out.2.2.2.1,HX.out.2.2.2.2.1];exact addS_ok (notLG HX.out.2.2.2.2.2.2.1) HX.out.2.2.2.2.2.2.2))
 clear C BW
 go_wp2_with fail
 refine H.out.mono ?_;rintro r u1 ⟨v,rfl,hN,hb⟩;obtain ⟨a1,c1,rfl,_⟩:=hN.arg (by omega)
 obtain C:=S0.out;have hz1:=C.size;have S1:=(qsd (ai (C.trans (hb.mono C.size)) (hN.mono C.size)));clear C hb H hN;obtain ⟨C,N1⟩:=S1.out;have BW:Below w.heap.size w u1:=B0.out.trans (C.mono (by simp))
 have H0:=show Calls Tryz.prog 67 #[.bool neg,.slice a1 (ws V).length c1,.int .i64 e] u1 fun r w'=>DAns u1.heap.size w' r (mkS neg V e)∧Below u1.heap.size u1 w' from by have:=Make_any (N1.arg' (by omega)).2 (HX.out.2.2.1.belows BW) neg e (by omega) (by omega);rw [val_ws] at this;exact this
 unfold DAns at H0;rw [HS.out.1,HS.out.2.1,HS.out.2.2.1,HS.out.2.2.2.1,HS.out.2.2.2.2] at H0;have H:=hid H0;clear C BW H0 N1
 go_wp2_with fail
 refine H.out.mono ?_;rintro r uu ⟨⟨v,rfl,hN⟩,hb⟩;obtain ⟨aa,cc,rfl,_⟩:=hN.arg (by omega)
 obtain ⟨C,N1⟩:=S1.out;have hbb:=C.trans (hb.mono C.size);obtain ⟨hc,hf⟩:=bcell hbb;have HF:=qsd (Fin.of 1 B0.out (by simp) (hN.mono C.size) hbb)
 have hz:w.heap.size<uu.heap.size:=by have:=hbb.size;simp at this;omega
 clear C hb hN hbb H N1;go_wp2;exact bodyPost_ret (v:=.tuple #[.agg #[.bool dn,.slice aa (ws X).length cc,.int .i64 de],.int .i64 er]) (by simp [results,Tryz.results204,go_sem,hc]) rfl (Fin.dans (m:=w.heap.size+1) (by repeat (first | exact HF.out | refine Fin.alloc ?_ _ | refine Fin.set ?_ _ _ _ (by omega) (by omega))) (by omega))
theorem wAdd_long {w:World}{a b:Option Addr}{n c m d:Nat}{xs ys:List Nat}(h1:Arg w a n c xs) (h2:Arg w b m d ys) (h:LG (val xs+val ys)) :
 Calls Tryz.prog 200 #[.slice a n c,.slice b m d] w fun r w'=>∃ v,r=.returned (.tuple #[v,.int .i64 2])∧Nt w.heap.size w' v 0∧Below w.heap.size w w' :=
 (Add_any xs ys a b n c m d w.heap.size w h1.len h2.len h1.cap h2.cap (by have:=h1.big;omega) (by have:=h2.big;omega) h1.wf h2.wf h1.rd h2.rd (Nat.le_refl _)).mono fun r w' ⟨⟨v,h3,h4⟩,h5⟩=>by
  have e:addS (val xs) (val ys)=(0,2):=by unfold addS;rw [if_pos h]
  rw [e] at h3 h4;exact ⟨v,h3,h4,h5⟩
theorem sum_long {w:World}{a b:Option Addr}{l c k d:Nat}{xs ys:List Nat}(h1:Arg w a l c xs) (h2:Arg w b k d ys) (hT:Tab w) (neg:Bool) (e:Int) (he0:-1048576≤e) (he1:e≤1048576)
 (P Q:Nat) (hP:val xs=P) (hQ:val ys=Q) (oP:P%2=0) (hs:262144<bl (P+Q)) :
 Calls Tryz.prog 204 #[.bool neg,.slice a l c,.slice b k d,.int .i64 e] w fun r w'=>DAns w.heap.size w' r none∧Below w.heap.size w w':=by
 have l0:(ws 0).length=0:=by rw [ws_zero];rfl
 have HX:=(qsd (ai h1 (ai h2 (ai hT (ai hP (ai hQ (ai oP hs)))))));clear h1 h2 hT hP hQ oP hs;have S0:=qsd (show Below (w.alloc (.cells #[.bool false,.slice none 0 0,.int .i64 0] 81)).heap.size (w.alloc (.cells #[.bool false,.slice none 0 0,.int .i64 0] 81)) (w.alloc (.cells #[.bool false,.slice none 0 0,.int .i64 0] 81)) from Below.refl _ _)
 have B0:=qsd (show Below w.heap.size w (w.alloc (.cells #[.bool false,.slice none 0 0,.int .i64 0] 81)) from below_alloc w _)
 go_enter Tryz.func204,Tryz.ntmps204;obtain C:=S0.out;have BW:Below w.heap.size w (w.alloc (.cells #[.bool false,.slice none 0 0,.int .i64 0] 81)):=B0.out.trans (C.mono (by simp))
 have H:=hid (show Calls Tryz.prog 195 #[.slice a l c,.int .i64 0] (w.alloc (.cells #[.bool false,.slice none 0 0,.int .i64 0] 81)) fun r w'=>r=.returned (.bool false)∧w'=(w.alloc (.cells #[.bool false,.slice none 0 0,.int .i64 0] 81)) from by have A:=HX.out.1.below BW;have:=bit_any xs a l c _ 0 _ A.len A.wf A.rd (by omega);rw [Nat.pow_zero,Nat.div_one,HX.out.2.2.2.1,HX.out.2.2.2.2.2.1] at this;exact this)
 clear C BW
 go_wp2_with fail
 refine H.out.mono ?_;rintro r ww ⟨rfl,hw⟩;rw [hw];clear H hw ww;obtain C:=S0.out;have BW:Below w.heap.size w (w.alloc (.cells #[.bool false,.slice none 0 0,.int .i64 0] 81)):=B0.out.trans (C.mono (by simp))
 have H:=hid (wAdd_long (HX.out.1.below BW) (HX.out.2.1.below BW) (by rw [HX.out.2.2.2.1,HX.out.2.2.2.2.1,LG_bl];exact HX.out.2.2.2.2.2.2))
 clear C BW
 go_wp2_with fail
 refine H.out.mono ?_;rintro r u1 ⟨v,rfl,hN,hb⟩;obtain ⟨a1,c1,rfl,_⟩:=hN.arg (by omega)
 obtain C:=S0.out;have hz1:=C.size;have S1:=(qsd (ai (C.trans (hb.mono C.size)) (hN.mono C.size)));clear C hb H hN;obtain ⟨C,N1⟩:=S1.out;obtain ⟨hc,hf⟩:=bcell C;have HF:=qsd (show Fin w.heap.size (w.heap.size+1) w u1 (.slice none 0 0) 0 from ⟨Nt.nil _ _,B0.out.trans (C.mono (by simp)),by have:=C.size;simp at this;omega⟩)
 have hz:w.heap.size<u1.heap.size:=by have:=C.size;simp at this;omega
 clear C N1;go_wp2;exact bodyPost_ret (v:=.tuple #[.agg #[.bool false,.slice none 0 0,.int .i64 0],.int .i64 2]) (by simp [results,Tryz.results204,go_sem,hc]) rfl (Fin.dans (m:=w.heap.size+1) (by repeat (first | exact HF.out | refine Fin.alloc ?_ _ | refine Fin.set ?_ _ _ _ (by omega) (by omega))) (by omega))
theorem sum_any {w:World}{a b:Option Addr}{l c k d:Nat}{xs ys:List Nat}(h1:Arg w a l c xs) (h2:Arg w b k d ys) (hT:Tab w) (neg:Bool) (e:Int) (he0:-1048576≤e) (he1:e≤1048576)
 (P Q:Nat) (hP:val xs=P) (hQ:val ys=Q) (oQ:Q%2=1) (bP:bl P≤262144) (bQ:bl Q≤262144) :
 Calls Tryz.prog 204 #[.bool neg,.slice a l c,.slice b k d,.int .i64 e] w fun r w'=>DAns w.heap.size w' r (mkS neg (P+Q) e)∧Below w.heap.size w w':=by
 rcases Nat.mod_two_eq_zero_or_one P with oP|oP
 · by_cases hs:bl (P+Q)≤262144
   · exact sum_even h1 h2 hT neg e he0 he1 P Q hP hQ oP hs
   · have e1:mkS neg (P+Q) e=none:=by rw [mkS_odd _ _ _ (by omega),if_pos (.inl (by omega))]
     rw [e1];exact sum_long h1 h2 hT neg e he0 he1 P Q hP hQ oP (by omega)
 · exact sum_odd h1 h2 hT neg e he0 he1 P Q hP hQ oP oQ bP bQ
theorem diff_low {w:World}{a b:Option Addr}{l c k d:Nat}{xs ys:List Nat}(h1:Arg w a l c xs) (h2:Arg w b k d ys) (hT:Tab w) (neg:Bool) (e:Int) (he0:-1048576≤e) (he1:e≤1048576)
 (P Q:Nat) (hP:val xs=P) (hQ:val ys=Q) (bP:bl P≤262144) (bQ:bl Q≤262144) (hlt:P<Q) :
 Calls Tryz.prog 205 #[.bool neg,.slice a l c,.slice b k d,.int .i64 e] w fun r w'=>DAns w.heap.size w' r (mkS (!neg) (Q-P) e)∧Below w.heap.size w w':=by
 obtain ⟨z,hz0⟩:∃ z,cmpI P Q=z:=⟨_,rfl⟩;have hzz:z=-1:=by rw [←hz0];exact cmpI_lt hlt
 obtain ⟨V,hV⟩:∃ x,Q-P=x:=⟨_,rfl⟩;have bV:bl V≤262144:=by rw [←hV];exact Nat.le_trans (bl_mono (Nat.sub_le _ _)) bQ
 rw [hV];have l1:=len8 bV;have hsub:V+P=Q:=by omega
 have HX:=(qsd (ai h1 (ai h2 (ai hT (ai hP (ai hQ (ai hz0 (ai hsub (ai bP bQ)))))))));subst hzz;clear h1 h2 hT hP hQ hz0 hsub bP bQ hlt hV bV;unfold DAns;have hl:=mkS_len (!neg) V e;obtain ⟨o,ho⟩:∃ o,mkS (!neg) V e=o:=⟨_,rfl⟩;rw [ho] at hl ⊢;obtain ⟨dn,hdn⟩:∃ d,dN o=d:=⟨_,rfl⟩;obtain ⟨X,hX⟩:∃ d,dX o=d:=⟨_,rfl⟩;obtain ⟨de,hde⟩:∃ d,dE o=d:=⟨_,rfl⟩;obtain ⟨er,her⟩:∃ d,erS o=d:=⟨_,rfl⟩;rw [hdn,hX,hde,her];rw [hX] at hl;have HS:=(qsd (ai ho (ai hdn (ai hX (ai hde her)))));clear ho hdn hX hde her;have S0:=qsd (show Below (w.alloc (.cells #[.bool false,.slice none 0 0,.int .i64 0] 81)).heap.size (w.alloc (.cells #[.bool false,.slice none 0 0,.int .i64 0] 81)) (w.alloc (.cells #[.bool false,.slice none 0 0,.int .i64 0] 81)) from Below.refl _ _)
 have B0:=qsd (show Below w.heap.size w (w.alloc (.cells #[.bool false,.slice none 0 0,.int .i64 0] 81)) from below_alloc w _)
 go_enter Tryz.func205,Tryz.ntmps205;obtain C:=S0.out;have BW:Below w.heap.size w (w.alloc (.cells #[.bool false,.slice none 0 0,.int .i64 0] 81)):=B0.out.trans (C.mono (by simp))
 have H:=hid (show Calls Tryz.prog 234 #[.slice a l c,.slice b k d] (w.alloc (.cells #[.bool false,.slice none 0 0,.int .i64 0] 81)) fun r w'=>r=.returned (.int .i64 (-1))∧Below (w.alloc (.cells #[.bool false,.slice none 0 0,.int .i64 0] 81)).heap.size (w.alloc (.cells #[.bool false,.slice none 0 0,.int .i64 0] 81)) w' from Cmp_arg (HX.out.1.below BW) (HX.out.2.1.below BW) (-1) (by rw [HX.out.2.2.2.1,HX.out.2.2.2.2.1];exact HX.out.2.2.2.2.2.1))
 clear C BW
 go_wp2_with fail
 refine H.out.mono ?_;rintro r u1 ⟨rfl,hb⟩;obtain C:=S0.out;have hz1:=C.size;have S1:=qsd (C.trans (hb.mono C.size));clear C hb H;obtain C:=S1.out;have BW:Below w.heap.size w u1:=B0.out.trans (C.mono (by simp))
 have H:=hid (Sub_arg (V:=V) (HX.out.2.1.below BW) (HX.out.1.below BW) (by rw [HX.out.2.2.2.2.1,HX.out.2.2.2.1];exact subS_ok (notLG HX.out.2.2.2.2.2.2.2.2) (notLG HX.out.2.2.2.2.2.2.2.1) HX.out.2.2.2.2.2.2.1))
 clear C BW
 go_wp2_with fail
 refine H.out.mono ?_;rintro r u2 ⟨v,rfl,hN,hb⟩;obtain ⟨a2,c2,rfl,_⟩:=hN.arg (by omega)
 obtain C:=S1.out;have hz2:=C.size;have S2:=(qsd (ai (C.trans (hb.mono C.size)) (hN.mono C.size)));clear C hb H hN;obtain ⟨C,N2⟩:=S2.out;have BW:Below w.heap.size w u2:=B0.out.trans (C.mono (by simp))
 have H0:=show Calls Tryz.prog 67 #[.bool (!neg),.slice a2 (ws V).length c2,.int .i64 e] u2 fun r w'=>DAns u2.heap.size w' r (mkS (!neg) V e)∧Below u2.heap.size u2 w' from by have:=Make_any (N2.arg' (by omega)).2 (HX.out.2.2.1.belows BW) (!neg) e (by omega) (by omega);rw [val_ws] at this;exact this
 unfold DAns at H0;rw [HS.out.1,HS.out.2.1,HS.out.2.2.1,HS.out.2.2.2.1,HS.out.2.2.2.2] at H0;have H:=hid H0;clear C BW H0 N2
 go_wp2_with fail
 refine H.out.mono ?_;rintro r uu ⟨⟨v,rfl,hN⟩,hb⟩;obtain ⟨aa,cc,rfl,_⟩:=hN.arg (by omega)
 obtain ⟨C,N2⟩:=S2.out;have hbb:=C.trans (hb.mono C.size);obtain ⟨hc,hf⟩:=bcell hbb;have HF:=qsd (Fin.of 1 B0.out (by simp) (hN.mono C.size) hbb)
 have hz:w.heap.size<uu.heap.size:=by have:=hbb.size;simp at this;omega
 clear C hb hN hbb H N2;go_wp2;exact bodyPost_ret (v:=.tuple #[.agg #[.bool dn,.slice aa (ws X).length cc,.int .i64 de],.int .i64 er]) (by simp [results,Tryz.results205,go_sem,hc]) rfl (Fin.dans (m:=w.heap.size+1) (by repeat (first | exact HF.out | refine Fin.alloc ?_ _ | refine Fin.set ?_ _ _ _ (by omega) (by omega))) (by omega))
theorem diff_high {w:World}{a b:Option Addr}{l c k d:Nat}{xs ys:List Nat}(h1:Arg w a l c xs) (h2:Arg w b k d ys) (hT:Tab w) (neg:Bool) (e:Int) (he0:-1048576≤e) (he1:e≤1048576)
 (P Q:Nat) (hP:val xs=P) (hQ:val ys=Q) (bP:bl P≤262144) (bQ:bl Q≤262144) (hlt:Q≤P) :
 Calls Tryz.prog 205 #[.bool neg,.slice a l c,.slice b k d,.int .i64 e] w fun r w'=>DAns w.heap.size w' r (mkS neg (P-Q) e)∧Below w.heap.size w w':=by
 obtain ⟨z,hz0⟩:∃ z,cmpI P Q=z:=⟨_,rfl⟩;have hzz:0≤z:=by rw [←hz0];exact cmpI_ge hlt
 obtain ⟨V,hV⟩:∃ x,P-Q=x:=⟨_,rfl⟩;have bV:bl V≤262144:=by rw [←hV];exact Nat.le_trans (bl_mono (Nat.sub_le _ _)) bP
 rw [hV];have l1:=len8 bV;have hsub:V+Q=P:=by omega
 have HX:=(qsd (ai h1 (ai h2 (ai hT (ai hP (ai hQ (ai hz0 (ai hsub (ai bP bQ)))))))));have hzf:decide (z<0)=false:=decide_eq_false (by omega)
 clear h1 h2 hT hP hQ hz0 hsub bP bQ hlt hV bV;unfold DAns;have hl:=mkS_len neg V e;obtain ⟨o,ho⟩:∃ o,mkS neg V e=o:=⟨_,rfl⟩;rw [ho] at hl ⊢;obtain ⟨dn,hdn⟩:∃ d,dN o=d:=⟨_,rfl⟩;obtain ⟨X,hX⟩:∃ d,dX o=d:=⟨_,rfl⟩;obtain ⟨de,hde⟩:∃ d,dE o=d:=⟨_,rfl⟩;obtain ⟨er,her⟩:∃ d,erS o=d:=⟨_,rfl⟩;rw [hdn,hX,hde,her];rw [hX] at hl;have HS:=(qsd (ai ho (ai hdn (ai hX (ai hde her)))));clear ho hdn hX hde her;have S0:=qsd (show Below (w.alloc (.cells #[.bool false,.slice none 0 0,.int .i64 0] 81)).heap.size (w.alloc (.cells #[.bool false,.slice none 0 0,.int .i64 0] 81)) (w.alloc (.cells #[.bool false,.slice none 0 0,.int .i64 0] 81)) from Below.refl _ _)
 have B0:=qsd (show Below w.heap.size w (w.alloc (.cells #[.bool false,.slice none 0 0,.int .i64 0] 81)) from below_alloc w _)
 go_enter Tryz.func205,Tryz.ntmps205;obtain C:=S0.out;have BW:Below w.heap.size w (w.alloc (.cells #[.bool false,.slice none 0 0,.int .i64 0] 81)):=B0.out.trans (C.mono (by simp))
 have H:=hid (show Calls Tryz.prog 234 #[.slice a l c,.slice b k d] (w.alloc (.cells #[.bool false,.slice none 0 0,.int .i64 0] 81)) fun r w'=>r=.returned (.int .i64 z)∧Below (w.alloc (.cells #[.bool false,.slice none 0 0,.int .i64 0] 81)).heap.size (w.alloc (.cells #[.bool false,.slice none 0 0,.int .i64 0] 81)) w' from Cmp_arg (HX.out.1.below BW) (HX.out.2.1.below BW) z (by rw [HX.out.2.2.2.1,HX.out.2.2.2.2.1];exact HX.out.2.2.2.2.2.1))
 clear C BW
 go_wp2_with fail
 refine H.out.mono ?_;rintro r u1 ⟨rfl,hb⟩;obtain C:=S0.out;have hz1:=C.size;have S1:=qsd (C.trans (hb.mono C.size));clear C hb H;obtain C:=S1.out;have BW:Below w.heap.size w u1:=B0.out.trans (C.mono (by simp))
 have H:=hid (Sub_arg (V:=V) (HX.out.1.below BW) (HX.out.2.1.below BW) (by rw [HX.out.2.2.2.1,HX.out.2.2.2.2.1];exact subS_ok (notLG HX.out.2.2.2.2.2.2.2.1) (notLG HX.out.2.2.2.2.2.2.2.2) HX.out.2.2.2.2.2.2.1))
 clear C BW
 go_wp2_with fail
 refine H.out.mono ?_;rintro r u2 ⟨v,rfl,hN,hb⟩;obtain ⟨a2,c2,rfl,_⟩:=hN.arg (by omega)
 obtain C:=S1.out;have hz2:=C.size;have S2:=(qsd (ai (C.trans (hb.mono C.size)) (hN.mono C.size)));clear C hb H hN;obtain ⟨C,N2⟩:=S2.out;have BW:Below w.heap.size w u2:=B0.out.trans (C.mono (by simp))
 have H0:=show Calls Tryz.prog 67 #[.bool neg,.slice a2 (ws V).length c2,.int .i64 e] u2 fun r w'=>DAns u2.heap.size w' r (mkS neg V e)∧Below u2.heap.size u2 w' from by have:=Make_any (N2.arg' (by omega)).2 (HX.out.2.2.1.belows BW) neg e (by omega) (by omega);rw [val_ws] at this;exact this
 unfold DAns at H0;rw [HS.out.1,HS.out.2.1,HS.out.2.2.1,HS.out.2.2.2.1,HS.out.2.2.2.2] at H0;have H:=hid H0;clear C BW H0 N2
 go_wp2_with fail
 refine H.out.mono ?_;rintro r uu ⟨⟨v,rfl,hN⟩,hb⟩;obtain ⟨aa,cc,rfl,_⟩:=hN.arg (by omega)
 obtain ⟨C,N2⟩:=S2.out;have hbb:=C.trans (hb.mono C.size);obtain ⟨hc,hf⟩:=bcell hbb;have HF:=qsd (Fin.of 1 B0.out (by simp) (hN.mono C.size) hbb)
 have hz:w.heap.size<uu.heap.size:=by have:=hbb.size;simp at this;omega
 clear C hb hN hbb H N2;go_wp2;exact bodyPost_ret (v:=.tuple #[.agg #[.bool dn,.slice aa (ws X).length cc,.int .i64 de],.int .i64 er]) (by simp [results,Tryz.results205,go_sem,hc]) rfl (Fin.dans (m:=w.heap.size+1) (by repeat (first | exact HF.out | refine Fin.alloc ?_ _ | refine Fin.set ?_ _ _ _ (by omega) (by omega))) (by omega))
end
end Go.Proofs.YtdcggkapbkjjbaaGreatDoor
