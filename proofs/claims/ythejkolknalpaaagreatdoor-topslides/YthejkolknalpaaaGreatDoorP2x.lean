import Derived.Test.YthejkolknalpaaaGreatDoorS11ax
import Derived.Deep.RegionWith
import Derived.Test.YthejkolknalpaaaGreatDoorBIeeex
import Derived.Laws.StructEq
import Derived.BigQuiet
import Derived.Deep.RegionHeld3
set_option linter.unusedVariables false
set_option linter.unusedSimpArgs false
set_option maxHeartbeats 16000000
set_option maxRecDepth 20000
namespace Go.Proofs.YthejkolknalpaaaGreatDoor
section
open Go.RowKit
open Go.Proofs.YthejkolknalpaaaGreatDoor.B (f64bits f64frombits bw bcell)
attribute [local go_sem] f64bits f64frombits
theorem Verdict_any (n u d m p l a b:Int) (w:World):Calls Tryz.prog 31 #[.agg #[.int .i64 n,.int .i64 u,.int .i64 d,.int .i64 m,.int .i64 p,.int .i64 l],.agg #[.int .i64 a,.int .i64 b]] w fun r w'=>r=.returned (.tuple #[.float .f64 (vd (snd n u d m p l&&may a b) n u d a b).1,.bool (vd (snd n u d m p l&&may a b) n u d a b).2])∧Below w.heap.size w w':=by
 have HS:=hid (sound_any n u d m p l);have HM:=hid (May_any a b);have HN:=hid (B.nan_any);have HU:=hid (mInf_up);have HD:=hid (mInf_down)
 rcases hs:snd n u d m p l with _|_
 · rw [hs] at HS
   rw [Bool.false_and];have hv:vd false n u d a b=(0,false):=by unfold vd;rw [if_pos rfl]
   rw [hv];clear hs hv;go_enter Tryz.func31,Tryz.ntmps31
   go_wp2_with fail
   refine (HS.out _).mono ?_;rintro r w1 ⟨rfl,hb1⟩;have hz1:=hb1.size;simp at hz1;obtain ⟨hc1,hf1⟩:=bcell hb1;have B1:=qsd hb1;clear hb1;go_wp2
   go_ret2
   exact ⟨by first | rfl | simp,(((Below.refl _ w).alloc (Nat.le_refl _) _).alloc (by simp) _).trans (B1.out.mono (by simp;omega))⟩
 rcases hm:may a b with _|_
 · rw [hs] at HS
   rw [hm] at HM;have hv:vd (true&&false) n u d a b=(0,false):=if_pos rfl;rw [hv];clear hs hm hv;go_enter Tryz.func31,Tryz.ntmps31
   go_wp2_with fail
   refine (HS.out _).mono ?_;rintro r w1 ⟨rfl,hb1⟩;have hz1:=hb1.size;simp at hz1;obtain ⟨hc1,hf1⟩:=bcell hb1;have B1:=qsd hb1;clear hb1
   go_wp2_with fail
   refine (HM.out _).mono ?_;rintro r w2 ⟨rfl,hb2⟩;have hz2:=hb2.size;obtain ⟨hc2,hf2⟩:=bcell hb2;have hc3:∀ b o,b<w.heap.size+1+1→w2.cell? ⟨b,o,none⟩=w1.cell? ⟨b,o,none⟩:=fun b o h=>hc2 b o (by omega)
   have B2:=qsd hb2;clear hb2 hc2 hf2;go_wp2
   go_ret2
   exact ⟨by first | rfl | simp,((((Below.refl _ w).alloc (Nat.le_refl _) _).alloc (by simp) _).trans (B1.out.mono (by simp;omega))).trans (B2.out.mono (by omega))⟩
 rw [hs] at HS;rw [hm] at HM;rw [Bool.true_and];clear hs hm
 have way1:0<n→a=0→Calls Tryz.prog 31 #[.agg #[.int .i64 n,.int .i64 u,.int .i64 d,.int .i64 m,.int .i64 p,.int .i64 l],.agg #[.int .i64 a,.int .i64 b]] w fun r w'=>r=.returned (.tuple #[.float .f64 (vd true n u d a b).1,.bool (vd true n u d a b).2])∧Below w.heap.size w w':=by
  intro p1 p2;have hv:vd true n u d a b=(9221120237041090560,true):=by unfold vd;rw [if_neg (by decide),if_pos ⟨p1,p2⟩]
  rw [hv];clear hv;have q1:0<n:=p1;have q2:a=0:=p2;subst q2;go_enter Tryz.func31,Tryz.ntmps31
  go_wp2_with fail
  refine (HS.out _).mono ?_;rintro r w1 ⟨rfl,hb1⟩;have hz1:=hb1.size;simp at hz1;obtain ⟨hc1,hf1⟩:=bcell hb1;have B1:=qsd hb1;clear hb1
  go_wp2_with fail
  refine (HM.out _).mono ?_;rintro r w2 ⟨rfl,hb2⟩;have hz2:=hb2.size;obtain ⟨hc2,hf2⟩:=bcell hb2;have hc3:∀ b o,b<w.heap.size+1+1→w2.cell? ⟨b,o,none⟩=w1.cell? ⟨b,o,none⟩:=fun b o h=>hc2 b o (by omega)
  have B2:=qsd hb2;clear hb2 hc2 hf2
  go_wp2_with fail
  refine (HN.out _).mono ?_;rintro r w3 ⟨rfl,rfl⟩;go_wp2
  go_ret2
  exact ⟨by first | rfl | simp,((((Below.refl _ w).alloc (Nat.le_refl _) _).alloc (by simp) _).trans (B1.out.mono (by simp;omega))).trans (B2.out.mono (by omega))⟩
 have way2:0<n→¬ (a=0)→¬ (b=0)→Calls Tryz.prog 31 #[.agg #[.int .i64 n,.int .i64 u,.int .i64 d,.int .i64 m,.int .i64 p,.int .i64 l],.agg #[.int .i64 a,.int .i64 b]] w fun r w'=>r=.returned (.tuple #[.float .f64 (vd true n u d a b).1,.bool (vd true n u d a b).2])∧Below w.heap.size w w':=by
  intro p1 p2 p3;have hv:vd true n u d a b=(0,false):=by unfold vd;rw [if_neg (by decide),if_neg (fun h=>p2 h.2),if_pos p3]
  rw [hv];clear hv;have q1:0<n:=p1;have q2:(a==0)=false:=by rw [beq_eq_false_iff_ne];exact p2
  have q3:(b==0)=false:=by rw [beq_eq_false_iff_ne];exact p3
  go_enter Tryz.func31,Tryz.ntmps31
  go_wp2_with fail
  refine (HS.out _).mono ?_;rintro r w1 ⟨rfl,hb1⟩;have hz1:=hb1.size;simp at hz1;obtain ⟨hc1,hf1⟩:=bcell hb1;have B1:=qsd hb1;clear hb1
  go_wp2_with fail
  refine (HM.out _).mono ?_;rintro r w2 ⟨rfl,hb2⟩;have hz2:=hb2.size;obtain ⟨hc2,hf2⟩:=bcell hb2;have hc3:∀ b o,b<w.heap.size+1+1→w2.cell? ⟨b,o,none⟩=w1.cell? ⟨b,o,none⟩:=fun b o h=>hc2 b o (by omega)
  have B2:=qsd hb2;clear hb2 hc2 hf2;go_wp2
  go_ret2
  exact ⟨by first | rfl | simp,((((Below.refl _ w).alloc (Nat.le_refl _) _).alloc (by simp) _).trans (B1.out.mono (by simp;omega))).trans (B2.out.mono (by omega))⟩
 have way3:0<n→¬ (a=0)→b=0→0<u→0<d→Calls Tryz.prog 31 #[.agg #[.int .i64 n,.int .i64 u,.int .i64 d,.int .i64 m,.int .i64 p,.int .i64 l],.agg #[.int .i64 a,.int .i64 b]] w fun r w'=>r=.returned (.tuple #[.float .f64 (vd true n u d a b).1,.bool (vd true n u d a b).2])∧Below w.heap.size w w':=by
  intro p1 p2 p3 p4 p5;have hv:vd true n u d a b=(9221120237041090560,true):=by unfold vd;rw [if_neg (by decide),if_neg (fun h=>p2 h.2),if_neg (not_not_intro p3),if_pos ⟨p4,p5⟩]
  rw [hv];clear hv;have q1:0<n:=p1;have q2:(a==0)=false:=by rw [beq_eq_false_iff_ne];exact p2
  have q3:b=0:=p3;have q4:0<u:=p4;have q5:0<d:=p5;subst q3;go_enter Tryz.func31,Tryz.ntmps31
  go_wp2_with fail
  refine (HS.out _).mono ?_;rintro r w1 ⟨rfl,hb1⟩;have hz1:=hb1.size;simp at hz1;obtain ⟨hc1,hf1⟩:=bcell hb1;have B1:=qsd hb1;clear hb1
  go_wp2_with fail
  refine (HM.out _).mono ?_;rintro r w2 ⟨rfl,hb2⟩;have hz2:=hb2.size;obtain ⟨hc2,hf2⟩:=bcell hb2;have hc3:∀ b o,b<w.heap.size+1+1→w2.cell? ⟨b,o,none⟩=w1.cell? ⟨b,o,none⟩:=fun b o h=>hc2 b o (by omega)
  have B2:=qsd hb2;clear hb2 hc2 hf2
  go_wp2_with fail
  refine (HN.out _).mono ?_;rintro r w3 ⟨rfl,rfl⟩;go_wp2
  go_ret2
  exact ⟨by first | rfl | simp,((((Below.refl _ w).alloc (Nat.le_refl _) _).alloc (by simp) _).trans (B1.out.mono (by simp;omega))).trans (B2.out.mono (by omega))⟩
 have way4:0<n→¬ (a=0)→b=0→0<u→¬ (0<d)→Calls Tryz.prog 31 #[.agg #[.int .i64 n,.int .i64 u,.int .i64 d,.int .i64 m,.int .i64 p,.int .i64 l],.agg #[.int .i64 a,.int .i64 b]] w fun r w'=>r=.returned (.tuple #[.float .f64 (vd true n u d a b).1,.bool (vd true n u d a b).2])∧Below w.heap.size w w':=by
  intro p1 p2 p3 p4 p5;have hv:vd true n u d a b=(9218868437227405312,true):=by unfold vd;rw [if_neg (by decide),if_neg (fun h=>p2 h.2),if_neg (not_not_intro p3),if_neg (fun h=>p5 h.2),if_pos p4]
  rw [hv];clear hv;have q1:0<n:=p1;have q2:(a==0)=false:=by rw [beq_eq_false_iff_ne];exact p2
  have q3:b=0:=p3;have q4:0<u:=p4;have q5:decide (0<d)=false:=decide_eq_false p5;subst q3;go_enter Tryz.func31,Tryz.ntmps31
  go_wp2_with fail
  refine (HS.out _).mono ?_;rintro r w1 ⟨rfl,hb1⟩;have hz1:=hb1.size;simp at hz1;obtain ⟨hc1,hf1⟩:=bcell hb1;have B1:=qsd hb1;clear hb1
  go_wp2_with fail
  refine (HM.out _).mono ?_;rintro r w2 ⟨rfl,hb2⟩;have hz2:=hb2.size;obtain ⟨hc2,hf2⟩:=bcell hb2;have hc3:∀ b o,b<w.heap.size+1+1→w2.cell? ⟨b,o,none⟩=w1.cell? ⟨b,o,none⟩:=fun b o h=>hc2 b o (by omega)
  have B2:=qsd hb2;clear hb2 hc2 hf2
  go_wp2_with fail
  refine (HU.out _).mono ?_;rintro r w3 ⟨rfl,rfl⟩;go_wp2
  go_ret2
  exact ⟨by first | rfl | simp,((((Below.refl _ w).alloc (Nat.le_refl _) _).alloc (by simp) _).trans (B1.out.mono (by simp;omega))).trans (B2.out.mono (by omega))⟩
 have way5:0<n→¬ (a=0)→b=0→¬ (0<u)→0<d→Calls Tryz.prog 31 #[.agg #[.int .i64 n,.int .i64 u,.int .i64 d,.int .i64 m,.int .i64 p,.int .i64 l],.agg #[.int .i64 a,.int .i64 b]] w fun r w'=>r=.returned (.tuple #[.float .f64 (vd true n u d a b).1,.bool (vd true n u d a b).2])∧Below w.heap.size w w':=by
  intro p1 p2 p3 p4 p5;have hv:vd true n u d a b=(18442240474082181120,true):=by unfold vd;rw [if_neg (by decide),if_neg (fun h=>p2 h.2),if_neg (not_not_intro p3),if_neg (fun h=>p4 h.1),if_neg p4,if_pos p5]
  rw [hv];clear hv;have q1:0<n:=p1;have q2:(a==0)=false:=by rw [beq_eq_false_iff_ne];exact p2
  have q3:b=0:=p3;have q4:decide (0<u)=false:=decide_eq_false p4;have q5:0<d:=p5;subst q3;go_enter Tryz.func31,Tryz.ntmps31
  go_wp2_with fail
  refine (HS.out _).mono ?_;rintro r w1 ⟨rfl,hb1⟩;have hz1:=hb1.size;simp at hz1;obtain ⟨hc1,hf1⟩:=bcell hb1;have B1:=qsd hb1;clear hb1
  go_wp2_with fail
  refine (HM.out _).mono ?_;rintro r w2 ⟨rfl,hb2⟩;have hz2:=hb2.size;obtain ⟨hc2,hf2⟩:=bcell hb2;have hc3:∀ b o,b<w.heap.size+1+1→w2.cell? ⟨b,o,none⟩=w1.cell? ⟨b,o,none⟩:=fun b o h=>hc2 b o (by omega)
  have B2:=qsd hb2;clear hb2 hc2 hf2
  go_wp2_with fail
  refine (HD.out _).mono ?_;rintro r w3 ⟨rfl,rfl⟩;go_wp2
  go_ret2
  exact ⟨by first | rfl | simp,((((Below.refl _ w).alloc (Nat.le_refl _) _).alloc (by simp) _).trans (B1.out.mono (by simp;omega))).trans (B2.out.mono (by omega))⟩
 have way6:0<n→¬ (a=0)→b=0→¬ (0<u)→¬ (0<d)→Calls Tryz.prog 31 #[.agg #[.int .i64 n,.int .i64 u,.int .i64 d,.int .i64 m,.int .i64 p,.int .i64 l],.agg #[.int .i64 a,.int .i64 b]] w fun r w'=>r=.returned (.tuple #[.float .f64 (vd true n u d a b).1,.bool (vd true n u d a b).2])∧Below w.heap.size w w':=by
  intro p1 p2 p3 p4 p5;have hv:vd true n u d a b=(0,false):=by unfold vd;rw [if_neg (by decide),if_neg (fun h=>p2 h.2),if_neg (not_not_intro p3),if_neg (fun h=>p4 h.1),if_neg p4,if_neg p5]
  rw [hv];clear hv;have q1:0<n:=p1;have q2:(a==0)=false:=by rw [beq_eq_false_iff_ne];exact p2
  have q3:b=0:=p3;have q4:decide (0<u)=false:=decide_eq_false p4;have q5:decide (0<d)=false:=decide_eq_false p5;subst q3;go_enter Tryz.func31,Tryz.ntmps31
  go_wp2_with fail
  refine (HS.out _).mono ?_;rintro r w1 ⟨rfl,hb1⟩;have hz1:=hb1.size;simp at hz1;obtain ⟨hc1,hf1⟩:=bcell hb1;have B1:=qsd hb1;clear hb1
  go_wp2_with fail
  refine (HM.out _).mono ?_;rintro r w2 ⟨rfl,hb2⟩;have hz2:=hb2.size;obtain ⟨hc2,hf2⟩:=bcell hb2;have hc3:∀ b o,b<w.heap.size+1+1→w2.cell? ⟨b,o,none⟩=w1.cell? ⟨b,o,none⟩:=fun b o h=>hc2 b o (by omega)
  have B2:=qsd hb2;clear hb2 hc2 hf2;go_wp2
  go_ret2
  exact ⟨by first | rfl | simp,((((Below.refl _ w).alloc (Nat.le_refl _) _).alloc (by simp) _).trans (B1.out.mono (by simp;omega))).trans (B2.out.mono (by omega))⟩
 have way7:¬ (0<n)→¬ (b=0)→Calls Tryz.prog 31 #[.agg #[.int .i64 n,.int .i64 u,.int .i64 d,.int .i64 m,.int .i64 p,.int .i64 l],.agg #[.int .i64 a,.int .i64 b]] w fun r w'=>r=.returned (.tuple #[.float .f64 (vd true n u d a b).1,.bool (vd true n u d a b).2])∧Below w.heap.size w w':=by
  intro p1 p3;have hv:vd true n u d a b=(0,false):=by unfold vd;rw [if_neg (by decide),if_neg (fun h=>p1 h.1),if_pos p3]
  rw [hv];clear hv;have q1:decide (0<n)=false:=decide_eq_false p1;have q3:(b==0)=false:=by rw [beq_eq_false_iff_ne];exact p3
  go_enter Tryz.func31,Tryz.ntmps31
  go_wp2_with fail
  refine (HS.out _).mono ?_;rintro r w1 ⟨rfl,hb1⟩;have hz1:=hb1.size;simp at hz1;obtain ⟨hc1,hf1⟩:=bcell hb1;have B1:=qsd hb1;clear hb1
  go_wp2_with fail
  refine (HM.out _).mono ?_;rintro r w2 ⟨rfl,hb2⟩;have hz2:=hb2.size;obtain ⟨hc2,hf2⟩:=bcell hb2;have hc3:∀ b o,b<w.heap.size+1+1→w2.cell? ⟨b,o,none⟩=w1.cell? ⟨b,o,none⟩:=fun b o h=>hc2 b o (by omega)
  have B2:=qsd hb2;clear hb2 hc2 hf2;go_wp2
  go_ret2
  exact ⟨by first | rfl | simp,((((Below.refl _ w).alloc (Nat.le_refl _) _).alloc (by simp) _).trans (B1.out.mono (by simp;omega))).trans (B2.out.mono (by omega))⟩
 have way8:¬ (0<n)→b=0→0<u→0<d→Calls Tryz.prog 31 #[.agg #[.int .i64 n,.int .i64 u,.int .i64 d,.int .i64 m,.int .i64 p,.int .i64 l],.agg #[.int .i64 a,.int .i64 b]] w fun r w'=>r=.returned (.tuple #[.float .f64 (vd true n u d a b).1,.bool (vd true n u d a b).2])∧Below w.heap.size w w':=by
  intro p1 p3 p4 p5;have hv:vd true n u d a b=(9221120237041090560,true):=by unfold vd;rw [if_neg (by decide),if_neg (fun h=>p1 h.1),if_neg (not_not_intro p3),if_pos ⟨p4,p5⟩]
  rw [hv];clear hv;have q1:decide (0<n)=false:=decide_eq_false p1;have q3:b=0:=p3;have q4:0<u:=p4;have q5:0<d:=p5;subst q3;go_enter Tryz.func31,Tryz.ntmps31
  go_wp2_with fail
  refine (HS.out _).mono ?_;rintro r w1 ⟨rfl,hb1⟩;have hz1:=hb1.size;simp at hz1;obtain ⟨hc1,hf1⟩:=bcell hb1;have B1:=qsd hb1;clear hb1
  go_wp2_with fail
  refine (HM.out _).mono ?_;rintro r w2 ⟨rfl,hb2⟩;have hz2:=hb2.size;obtain ⟨hc2,hf2⟩:=bcell hb2;have hc3:∀ b o,b<w.heap.size+1+1→w2.cell? ⟨b,o,none⟩=w1.cell? ⟨b,o,none⟩:=fun b o h=>hc2 b o (by omega)
  have B2:=qsd hb2;clear hb2 hc2 hf2
  go_wp2_with fail
  refine (HN.out _).mono ?_;rintro r w3 ⟨rfl,rfl⟩;go_wp2
  go_ret2
  exact ⟨by first | rfl | simp,((((Below.refl _ w).alloc (Nat.le_refl _) _).alloc (by simp) _).trans (B1.out.mono (by simp;omega))).trans (B2.out.mono (by omega))⟩
 have way9:¬ (0<n)→b=0→0<u→¬ (0<d)→Calls Tryz.prog 31 #[.agg #[.int .i64 n,.int .i64 u,.int .i64 d,.int .i64 m,.int .i64 p,.int .i64 l],.agg #[.int .i64 a,.int .i64 b]] w fun r w'=>r=.returned (.tuple #[.float .f64 (vd true n u d a b).1,.bool (vd true n u d a b).2])∧Below w.heap.size w w':=by
  intro p1 p3 p4 p5;have hv:vd true n u d a b=(9218868437227405312,true):=by unfold vd;rw [if_neg (by decide),if_neg (fun h=>p1 h.1),if_neg (not_not_intro p3),if_neg (fun h=>p5 h.2),if_pos p4]
  rw [hv];clear hv;have q1:decide (0<n)=false:=decide_eq_false p1;have q3:b=0:=p3;have q4:0<u:=p4;have q5:decide (0<d)=false:=decide_eq_false p5;subst q3;go_enter Tryz.func31,Tryz.ntmps31
  go_wp2_with fail
  refine (HS.out _).mono ?_;rintro r w1 ⟨rfl,hb1⟩;have hz1:=hb1.size;simp at hz1;obtain ⟨hc1,hf1⟩:=bcell hb1;have B1:=qsd hb1;clear hb1
  go_wp2_with fail
  refine (HM.out _).mono ?_;rintro r w2 ⟨rfl,hb2⟩;have hz2:=hb2.size;obtain ⟨hc2,hf2⟩:=bcell hb2;have hc3:∀ b o,b<w.heap.size+1+1→w2.cell? ⟨b,o,none⟩=w1.cell? ⟨b,o,none⟩:=fun b o h=>hc2 b o (by omega)
  have B2:=qsd hb2;clear hb2 hc2 hf2
  go_wp2_with fail
  refine (HU.out _).mono ?_;rintro r w3 ⟨rfl,rfl⟩;go_wp2
  go_ret2
  exact ⟨by first | rfl | simp,((((Below.refl _ w).alloc (Nat.le_refl _) _).alloc (by simp) _).trans (B1.out.mono (by simp;omega))).trans (B2.out.mono (by omega))⟩
 have way10:¬ (0<n)→b=0→¬ (0<u)→0<d→Calls Tryz.prog 31 #[.agg #[.int .i64 n,.int .i64 u,.int .i64 d,.int .i64 m,.int .i64 p,.int .i64 l],.agg #[.int .i64 a,.int .i64 b]] w fun r w'=>r=.returned (.tuple #[.float .f64 (vd true n u d a b).1,.bool (vd true n u d a b).2])∧Below w.heap.size w w':=by
  intro p1 p3 p4 p5;have hv:vd true n u d a b=(18442240474082181120,true):=by unfold vd;rw [if_neg (by decide),if_neg (fun h=>p1 h.1),if_neg (not_not_intro p3),if_neg (fun h=>p4 h.1),if_neg p4,if_pos p5]
  rw [hv];clear hv;have q1:decide (0<n)=false:=decide_eq_false p1;have q3:b=0:=p3;have q4:decide (0<u)=false:=decide_eq_false p4;have q5:0<d:=p5;subst q3;go_enter Tryz.func31,Tryz.ntmps31
  go_wp2_with fail
  refine (HS.out _).mono ?_;rintro r w1 ⟨rfl,hb1⟩;have hz1:=hb1.size;simp at hz1;obtain ⟨hc1,hf1⟩:=bcell hb1;have B1:=qsd hb1;clear hb1
  go_wp2_with fail
  refine (HM.out _).mono ?_;rintro r w2 ⟨rfl,hb2⟩;have hz2:=hb2.size;obtain ⟨hc2,hf2⟩:=bcell hb2;have hc3:∀ b o,b<w.heap.size+1+1→w2.cell? ⟨b,o,none⟩=w1.cell? ⟨b,o,none⟩:=fun b o h=>hc2 b o (by omega)
  have B2:=qsd hb2;clear hb2 hc2 hf2
  go_wp2_with fail
  refine (HD.out _).mono ?_;rintro r w3 ⟨rfl,rfl⟩;go_wp2
  go_ret2
  exact ⟨by first | rfl | simp,((((Below.refl _ w).alloc (Nat.le_refl _) _).alloc (by simp) _).trans (B1.out.mono (by simp;omega))).trans (B2.out.mono (by omega))⟩
 have way11:¬ (0<n)→b=0→¬ (0<u)→¬ (0<d)→Calls Tryz.prog 31 #[.agg #[.int .i64 n,.int .i64 u,.int .i64 d,.int .i64 m,.int .i64 p,.int .i64 l],.agg #[.int .i64 a,.int .i64 b]] w fun r w'=>r=.returned (.tuple #[.float .f64 (vd true n u d a b).1,.bool (vd true n u d a b).2])∧Below w.heap.size w w':=by
  intro p1 p3 p4 p5;have hv:vd true n u d a b=(0,false):=by unfold vd;rw [if_neg (by decide),if_neg (fun h=>p1 h.1),if_neg (not_not_intro p3),if_neg (fun h=>p4 h.1),if_neg p4,if_neg p5]
  rw [hv];clear hv;have q1:decide (0<n)=false:=decide_eq_false p1;have q3:b=0:=p3;have q4:decide (0<u)=false:=decide_eq_false p4;have q5:decide (0<d)=false:=decide_eq_false p5;subst q3;go_enter Tryz.func31,Tryz.ntmps31
  go_wp2_with fail
  refine (HS.out _).mono ?_;rintro r w1 ⟨rfl,hb1⟩;have hz1:=hb1.size;simp at hz1;obtain ⟨hc1,hf1⟩:=bcell hb1;have B1:=qsd hb1;clear hb1
  go_wp2_with fail
  refine (HM.out _).mono ?_;rintro r w2 ⟨rfl,hb2⟩;have hz2:=hb2.size;obtain ⟨hc2,hf2⟩:=bcell hb2;have hc3:∀ b o,b<w.heap.size+1+1→w2.cell? ⟨b,o,none⟩=w1.cell? ⟨b,o,none⟩:=fun b o h=>hc2 b o (by omega)
  have B2:=qsd hb2;clear hb2 hc2 hf2;go_wp2
  go_ret2
  exact ⟨by first | rfl | simp,((((Below.refl _ w).alloc (Nat.le_refl _) _).alloc (by simp) _).trans (B1.out.mono (by simp;omega))).trans (B2.out.mono (by omega))⟩
 by_cases p1:0<n
 · by_cases p2:a=0
   · exact way1 p1 p2
   · by_cases p3:b=0
     · by_cases p4:0<u <;> by_cases p5:0<d
       · exact way3 p1 p2 p3 p4 p5
       · exact way4 p1 p2 p3 p4 p5
       · exact way5 p1 p2 p3 p4 p5
       · exact way6 p1 p2 p3 p4 p5
     · exact way2 p1 p2 p3
 · by_cases p3:b=0
   · by_cases p4:0<u <;> by_cases p5:0<d
     · exact way8 p1 p3 p4 p5
     · exact way9 p1 p3 p4 p5
     · exact way10 p1 p3 p4 p5
     · exact way11 p1 p3 p4 p5
   · exact way7 p1 p3
end
section
open Go.RowKit
open Go.Proofs.YthejkolknalpaaaGreatDoor.B (f64bits f64frombits bw bcell)
attribute [local go_sem] f64bits f64frombits
theorem Nought_any (n u d m p l mode:Int) (w:World):Calls Tryz.prog 35 #[.agg #[.int .i64 n,.int .i64 u,.int .i64 d,.int .i64 m,.int .i64 p,.int .i64 l],.int .i64 mode] w fun r w'=>r=.returned (.float .f64 (nt (snd n u d m p l) n u d m p l mode))∧Below w.heap.size w w':=by
 have HS:=hid (sound_any n u d m p l);have HM:=hid (minus_any)
 rcases hs:snd n u d m p l with _|_
 · rw [hs] at HS
   have hv:nt false n u d m p l mode=0:=if_pos rfl;rw [hv];clear hs hv;go_enter Tryz.func35,Tryz.ntmps35
   go_wp2_with fail
   refine (HS.out _).mono ?_;rintro r w1 ⟨rfl,hb1⟩;have hz1:=hb1.size;simp at hz1;obtain ⟨hc1,hf1⟩:=bcell hb1;have B1:=qsd hb1;clear hb1;go_wp2;go_ret;exact ⟨by first | rfl | simp,((Below.refl _ w).alloc (Nat.le_refl _) _).trans (B1.out.mono (by simp))⟩
 have bd:=snd_bd hs;rw [hs] at HS;obtain ⟨f,hf⟩:∃ f,l-n-u-d=f:=⟨_,rfl⟩;have hfb:-9223372036854775808≤f∧f≤9223372036854775807:=by omega
 have hb1:0≤n∧n≤1099511627776:=bd.1;have hb2:0≤u∧u≤1099511627776:=bd.2.1;have hb3:0≤d∧d≤1099511627776:=bd.2.2.1;have hb4:0≤l∧l≤1099511627776:=bd.2.2.2;unfold nt;rw [if_neg (by decide),hf]
 clear hs bd
 by_cases p1:f=0
 · rw [if_pos p1]
   have q1:(f==0)=true:=by rw [beq_iff_eq];exact p1
   clear p1;go_enter Tryz.func35,Tryz.ntmps35
   go_wp2_with fail
   refine (HS.out _).mono ?_;rintro r w1 ⟨rfl,hb1⟩;have hz1:=hb1.size;simp at hz1;obtain ⟨hc1,hf1⟩:=bcell hb1;have B1:=qsd hb1;clear hb1
   go_wp2_with fail
   refine (HM.out _).mono ?_;rintro r w3 ⟨rfl,rfl⟩;go_wp2;go_ret;exact ⟨by first | rfl | simp,((Below.refl _ w).alloc (Nat.le_refl _) _).trans (B1.out.mono (by simp))⟩
 rw [if_neg p1];have q1:(f==0)=false:=by rw [beq_eq_false_iff_ne];exact p1
 clear p1
 by_cases p2:m=f
 · rw [if_pos p2]
   have q2:(m==f)=true:=by rw [beq_iff_eq];exact p2
   clear p2;go_enter Tryz.func35,Tryz.ntmps35
   go_wp2_with fail
   refine (HS.out _).mono ?_;rintro r w1 ⟨rfl,hb1⟩;have hz1:=hb1.size;simp at hz1;obtain ⟨hc1,hf1⟩:=bcell hb1;have B1:=qsd hb1;clear hb1
   go_wp2_with fail
   refine (HM.out _).mono ?_;rintro r w3 ⟨rfl,rfl⟩;go_wp2;go_ret;exact ⟨by first | rfl | simp,((Below.refl _ w).alloc (Nat.le_refl _) _).trans (B1.out.mono (by simp))⟩
 rw [if_neg p2];have q2:(m==f)=false:=by rw [beq_eq_false_iff_ne];exact p2
 clear p2
 by_cases p3:p=f
 · rw [if_pos p3]
   have q3:(p==f)=true:=by rw [beq_iff_eq];exact p3
   clear p3;go_enter Tryz.func35,Tryz.ntmps35
   go_wp2_with fail
   refine (HS.out _).mono ?_;rintro r w1 ⟨rfl,hb1⟩;have hz1:=hb1.size;simp at hz1;obtain ⟨hc1,hf1⟩:=bcell hb1;have B1:=qsd hb1;clear hb1
   go_wp2_with fail
   refine (HM.out _).mono ?_;rintro r w3 ⟨rfl,rfl⟩;go_wp2;go_ret;exact ⟨by first | rfl | simp,((Below.refl _ w).alloc (Nat.le_refl _) _).trans (B1.out.mono (by simp))⟩
 rw [if_neg p3];have q3:(p==f)=false:=by rw [beq_eq_false_iff_ne];exact p3
 clear p3
 by_cases p4:mode=3
 · rw [if_pos p4]
   subst p4;go_enter Tryz.func35,Tryz.ntmps35
   go_wp2_with fail
   refine (HS.out _).mono ?_;rintro r w1 ⟨rfl,hb1⟩;have hz1:=hb1.size;simp at hz1;obtain ⟨hc1,hf1⟩:=bcell hb1;have B1:=qsd hb1;clear hb1
   go_wp2_with fail
   refine (HM.out _).mono ?_;rintro r w3 ⟨rfl,rfl⟩;go_wp2;go_ret;exact ⟨by first | rfl | simp,((Below.refl _ w).alloc (Nat.le_refl _) _).trans (B1.out.mono (by simp))⟩
 · rw [if_neg p4]
   have q4:(mode==3)=false:=by rw [beq_eq_false_iff_ne];exact p4
   clear p4;go_enter Tryz.func35,Tryz.ntmps35
   go_wp2_with fail
   refine (HS.out _).mono ?_;rintro r w1 ⟨rfl,hb1⟩;have hz1:=hb1.size;simp at hz1;obtain ⟨hc1,hf1⟩:=bcell hb1;have B1:=qsd hb1;clear hb1
   go_wp2_with fail
   refine (HM.out _).mono ?_;rintro r w3 ⟨rfl,rfl⟩;go_wp2;go_ret;exact ⟨by first | rfl | simp,((Below.refl _ w).alloc (Nat.le_refl _) _).trans (B1.out.mono (by simp))⟩
end
section
open Go.RowKit
def ahd (V:Int) (s:Sp) (mode a b:Int):Nat×Bool×Int :=
 if (vd (snd s.n s.u s.d s.m s.p s.a&&may a b) s.n s.u s.d a b).2 then ((vd (snd s.n s.u s.d s.m s.p s.a&&may a b) s.n s.u s.d a b).1,true,0)
 else if V=0 then (nt (snd s.n s.u s.d s.m s.p s.a) s.n s.u s.d s.m s.p s.a mode,true,0) else (0,false,0)
theorem zero_words (L:List Nat) (V:Int) (hl:L.length=133) (hL:Wf L) (hv:(val L:Int)=V%(PB:Int)) (h0:-(HB:Int)<V) (h1:V<(HB:Int)):decide (L=List.replicate 133 0)=decide (V=0):=by
 rw [decide_eq_decide];have e:=PB_HB
 constructor
 · intro h
   rw [h,val_zeros] at hv;have h2:=Int.emod_emod_of_dvd V (Int.dvd_refl (PB:Int));have h3:(PB:Int) ∣ V:=Int.dvd_of_emod_eq_zero (by simpa using hv.symm)
   obtain ⟨k,hk⟩:=h3
   by_cases hk0:k=0
   · rw [hk,hk0];simp
   · have hp:=HB_pos
     have:(PB:Int)≤V∨V≤-(PB:Int):=by
      rcases Int.lt_or_gt_of_ne hk0 with h|h
      · right
        have:(PB:Int)*k≤(PB:Int)*(-1):=Int.mul_le_mul_of_nonneg_left (by omega) (by omega)
        omega
      · left
        have:(PB:Int)*1≤(PB:Int)*k:=Int.mul_le_mul_of_nonneg_left (by omega) (by omega)
        omega
     omega
 · rintro rfl
   refine val_inj (by simp [hl]) hL (Wf.zeros 133) ?_
   rw [val_zeros];simpa using hv
theorem form_any {w:World}{a:Option Addr}{n c:Nat}{xs:List Nat}(h1:Arg w a n c xs) (hT:Tab w) (neg:Bool) (e:Int) (he0:-9223372036854775808≤e) (he1:e≤9223372036854775807) :
 Calls Tryz.prog 123 #[.agg #[.bool neg,.slice a n c,.int .i64 e]] w fun r w'=>DAns w.heap.size w' r (mkS neg (val xs) e)∧Below w.heap.size w w':=by
 have HB:=qsd (show Below w.heap.size w ((w.alloc (.cells #[.bool neg,.slice a n c,.int .i64 e] 67)).alloc (.cells #[.bool false,.slice none 0 0,.int .i64 0] 67)) from (((Below.refl _ _).alloc (Nat.le_refl _) _).alloc (by simp) _))
 have H1:=hid (Make_any (h1.below HB.out) (hT.belows HB.out) neg e he0 he1);have hl:=mkS_len neg (val xs) e;obtain ⟨o,ho⟩:∃ o,mkS neg (val xs) e=o:=⟨_,rfl⟩;rw [ho] at H1 hl ⊢;unfold DAns at H1 ⊢;obtain ⟨dn,hdn⟩:∃ d,dN o=d:=⟨_,rfl⟩;obtain ⟨X,hdx⟩:∃ d,dX o=d:=⟨_,rfl⟩;obtain ⟨de,hde⟩:∃ d,dE o=d:=⟨_,rfl⟩;obtain ⟨er,her⟩:∃ d,erS o=d:=⟨_,rfl⟩;rw [hdn,hdx,hde,her] at H1 ⊢;rw [hdx] at hl;clear h1 ho hdn hdx hde her hT he0 he1;go_enter Tryz.func123,Tryz.ntmps123
 go_wp2_with fail
 refine H1.out.mono ?_;rintro r w2 ⟨⟨v,rfl,hN⟩,hb⟩;obtain ⟨a2,c2,rfl,_⟩:=hN.arg (by omega)
 obtain ⟨hc,hf⟩:=bcell hb;have HF:=qsd (Fin.of 2 HB.out (by simp) hN hb)
 have hz:w.heap.size+1<w2.heap.size:=by have:=hb.size;simp at this;omega
 clear hN hb;go_wp2;exact bodyPost_ret (v:=.tuple #[.agg #[.bool dn,.slice a2 (ws X).length c2,.int .i64 de],.int .i64 er]) (by simp [results,Tryz.results123,go_sem,hc]) rfl (Fin.dans (m:=w.heap.size+2) (by repeat (first | exact HF.out | refine Fin.alloc ?_ _ | refine Fin.set ?_ _ _ _ (by omega) (by omega))) (by omega))
def DVal (lo:Nat) (w:World) (r:Ending) (o:Option (Bool×Nat×Int)):Prop :=
 ∃ v,r=.returned (.agg #[.bool (dN o),v,.int .i64 (dE o)])∧Nt lo w v (dX o)
theorem Fin.dval {lo m:Nat}{w0 w:World}{n:Bool}{v:Value}{X:Nat}{e:Int}(H:Fin lo m w0 w v X) (h:lo≤m) :
 (∃ v',Ending.returned (.agg #[.bool n,v,.int .i64 e])=.returned (.agg #[.bool n,v',.int .i64 e])∧Nt lo w v' X)∧Below lo w0 w:=⟨⟨v,rfl,H.nt.mono h⟩,H.bel⟩
theorem turned_any (a:Option Addr) (n c:Nat) (neg:Bool) (e:Int) (w:World) :
 Calls Tryz.prog 131 #[.agg #[.bool neg,.slice a n c,.int .i64 e]] w fun r w'=>r=.returned (.agg #[.bool (!neg),.slice a n c,.int .i64 e])∧Below w.heap.size w w':=by
 go_enter Tryz.func131,Tryz.ntmps131;go_wp2;exact bodyPost_ret (v:=.agg #[.bool (!neg),.slice a n c,.int .i64 e]) (by simp [results,Tryz.results131,go_sem]) rfl ⟨rfl,by repeat (first | exact Below.refl _ _ | refine Below.alloc ?_ (by first | omega | simp) _ | refine Below.setC ?_ _ _ _ (by omega) (by simp))⟩
end
namespace B
open Go.RowKit
attribute [local go_sem] f64bits f64frombits
theorem eqParts (a c:Bool) (k l x y f g:Int) (w:World):(Op.equalIn 10000 151 (.agg #[.bool a,.int .i64 k,.int .i64 x,.int .u64 f]) (.agg #[.bool c,.int .i64 l,.int .i64 y,.int .u64 g])).run Tryz.prog w=.ok (a==c&&(k==l&&(x==y&&f==g))) w:=by
 have u3:=Tryz.underlying3;have u4:=Tryz.underlying4;have u23:=Tryz.underlying84;have hS:Tryz.prog.underlying 151=some (.struct (Tryz.prog.fieldsOf 151)):=by kernel_rfl
 have hp:Tryz.prog.stoodInHeld 151=false:=by kernel_rfl
 rw [show (10000:Nat)=9999+1 from rfl,run_equalIn_agg w 9999 151 _ _ hS hp]
 simp only [Program.fieldsOf,Tryz.underlying151]
 go_simp
 by_cases h1:a=c <;> by_cases h2:k=l <;> by_cases h3:x=y <;> by_cases h4:f=g <;> simp [h1,h2,h3,h4]
attribute [local go_sem] eqParts
theorem fld0 (a:Bool) (k x f:Int) (w:World):(Instr.field 151 (.agg #[.bool a,.int .i64 k,.int .i64 x,.int .u64 f]) 0).run Tryz.prog w=.ok (.bool a) w:=by kernel_rfl
theorem fld1 (a:Bool) (k x f:Int) (w:World):(Instr.field 151 (.agg #[.bool a,.int .i64 k,.int .i64 x,.int .u64 f]) 1).run Tryz.prog w=.ok (.int .i64 k) w:=by kernel_rfl
theorem fld2 (a:Bool) (k x f:Int) (w:World):(Instr.field 151 (.agg #[.bool a,.int .i64 k,.int .i64 x,.int .u64 f]) 2).run Tryz.prog w=.ok (.int .i64 x) w:=by kernel_rfl
theorem fld3 (a:Bool) (k x f:Int) (w:World):(Instr.field 151 (.agg #[.bool a,.int .i64 k,.int .i64 x,.int .u64 f]) 3).run Tryz.prog w=.ok (.int .u64 f) w:=by kernel_rfl
attribute [local go_sem] fld0 fld1 fld2 fld3
theorem Same_any (s t:Bool) (e f u v:Nat) (he:e<2048) (hf:f<4503599627370496) (hu:u<2048) (hv:v<4503599627370496) (w:World) :
 Calls Tryz.prog 22 #[.float .f64 (bw s e f),.float .f64 (bw t u v)] w fun r w'=>r=.returned (.bool (decide (cb s e f=cb t u v)))∧w'=w:=by
 cases h1:odd e f
 · cases h2:odd u v
   · have h3:((bw s e f:Int)==(bw t u v:Int))=decide (cb s e f=cb t u v):=by
      rw [cb_else s e f (not_odd e f h1),cb_else t u v (not_odd u v h2),Bool.eq_iff_iff];simp;omega
     go_enter Tryz.func22,Tryz.ntmps22
     go_wp2_with fail
     refine (isNaN_any s e f he hf _).mono ?_;rintro r w1 ⟨rfl,rfl⟩
     go_wp2_with fail
     refine (isNaN_any t u v hu hv _).mono ?_;rintro r w1 ⟨rfl,rfl⟩
     go_wp2_with fail
     go_ret;exact ⟨rfl,rfl⟩
   · have h3:decide (cb s e f=cb t u v)=false:=by
      rw [cb_else s e f (not_odd e f h1),cb_odd t u v (is_odd u v h2)];exact decide_eq_false (bw_ne_nan s e f he hf h1)
     rw [h3];clear h3;go_enter Tryz.func22,Tryz.ntmps22
     go_wp2_with fail
     refine (isNaN_any s e f he hf _).mono ?_;rintro r w1 ⟨rfl,rfl⟩
     go_wp2_with fail
     refine (isNaN_any t u v hu hv _).mono ?_;rintro r w1 ⟨rfl,rfl⟩
     go_wp2_with fail
     refine (isNaN_any s e f he hf _).mono ?_;rintro r w1 ⟨rfl,rfl⟩
     go_wp2_with fail
     go_ret;exact ⟨rfl,rfl⟩
 · have h3:decide (cb s e f=cb t u v)=odd u v:=by
    rw [cb_odd s e f (is_odd e f h1)]
    cases h2:odd u v
    · rw [cb_else t u v (not_odd u v h2)]
      exact decide_eq_false (fun h=>bw_ne_nan t u v hu hv h2 h.symm)
    · rw [cb_odd t u v (is_odd u v h2)];rfl
   rw [h3];clear h3;go_enter Tryz.func22,Tryz.ntmps22
   go_wp2_with fail
   refine (isNaN_any s e f he hf _).mono ?_;rintro r w1 ⟨rfl,rfl⟩
   go_wp2_with fail
   refine (isNaN_any s e f he hf _).mono ?_;rintro r w1 ⟨rfl,rfl⟩
   go_wp2_with fail
   refine (isNaN_any t u v hu hv _).mono ?_;rintro r w1 ⟨rfl,rfl⟩
   go_wp2_with fail
   go_ret;exact ⟨rfl,rfl⟩
end B
namespace B
open Go.RowKit
attribute [local go_sem] f64bits f64frombits
theorem ret_bool {a b:Bool}(h:a=b):Ending.returned (.bool a)=.returned (.bool b):=by rw [h]
theorem sign_any (s:Bool) (e f:Nat) (he:e<2048) (hf:f<4503599627370496) (w:World) :
 Calls Tryz.prog 24 #[.float .f64 (bw s e f)] w fun r w'=>r=.returned (.bool s)∧w'=w:=by
 have hl:=bw_lt s e f he hf
 cases s
 · have h1:bw false e f<9223372036854775808:=by unfold bw;simp only [Bool.toNat_false];omega
   go_enter Tryz.func24,Tryz.ntmps24;go_wp2;go_ret;exact ⟨ret_bool (decide_eq_false (by omega)),rfl⟩
 · have h1:9223372036854775808≤bw true e f:=by unfold bw;simp only [Bool.toNat_true];omega
   go_enter Tryz.func24,Tryz.ntmps24;go_wp2;go_ret;exact ⟨ret_bool (decide_eq_true (by unfold wrap64;omega)),rfl⟩
theorem abs_any (s:Bool) (e f:Nat) (he:e<2048) (hf:f<4503599627370496) (w:World) :
 Calls Tryz.prog 136 #[.float .f64 (bw s e f)] w fun r w'=>r=.returned (.float .f64 (bw false e f))∧w'=w:=by
 have h1:=abs_bw s e f he hf;go_enter Tryz.func136,Tryz.ntmps136;go_wp2;go_ret;exact ⟨rfl,rfl⟩
theorem order_any (s t:Bool) (e f u v:Nat) (he:e<2048) (hf:f<4503599627370496) (hu:u<2048) (hv:v<4503599627370496) (w:World) :
 Calls Tryz.prog 5 #[.float .f64 (bw s e f),.float .f64 (bw t u v)] w fun r w'=>r=.returned (.int .i64 (oc (ky s e f) (ky t u v)))∧w'=w:=by
 have HS:=Same_any s t e f u v he hf hu hv;have hgt:=gt_f64 s t e f u v he hf hu hv;have hlt:=lt_f64 s t e f u v he hf hu hv
 cases hd:decide (cb s e f=cb t u v)
 · rw [hd] at HS
   have H2:Hid (∀ w,Calls Tryz.prog 22 #[.float .f64 (bw s e f),.float .f64 (bw t u v)] w fun r w'=>r=.returned (.bool false)∧w'=w):=HS
   have hne:=of_decide_eq_false hd;clear HS hd
   cases h1:odd e f
   · cases h2:odd u v
     · rw [h1,h2] at hgt hlt
       simp only [Bool.not_false,Bool.true_and] at hgt hlt;rw [cb_else s e f (not_odd e f h1),cb_else t u v (not_odd u v h2)] at hne
       by_cases c1:pl t u v<pl s e f
       · rw [oc_gt (ky_of_pl t s u v e f h2 h1 c1)]
         rw [decide_eq_true c1] at hgt;clear hne c1 hlt;go_enter Tryz.func5,Tryz.ntmps5
         go_wp2_with fail
         refine (H2.out _).mono ?_;rintro r w1 ⟨rfl,rfl⟩
         go_wp2_with fail
         refine (isNaN_any s e f he hf _).mono ?_;rintro r w1 ⟨rfl,rfl⟩
         go_wp2_with fail
         go_ret;exact ⟨rfl,rfl⟩
       · by_cases c2:pl s e f<pl t u v
         · rw [oc_lt (ky_of_pl s t e f u v h1 h2 c2)]
           rw [decide_eq_true c2] at hlt;rw [decide_eq_false c1] at hgt;clear hne c1 c2;go_enter Tryz.func5,Tryz.ntmps5
           go_wp2_with fail
           refine (H2.out _).mono ?_;rintro r w1 ⟨rfl,rfl⟩
           go_wp2_with fail
           refine (isNaN_any s e f he hf _).mono ?_;rintro r w1 ⟨rfl,rfl⟩
           go_wp2_with fail
           refine (isNaN_any t u v hu hv _).mono ?_;rintro r w1 ⟨rfl,rfl⟩
           go_wp2_with fail
           go_ret;exact ⟨rfl,rfl⟩
         · rw [decide_eq_false c1] at hgt
           rw [decide_eq_false c2] at hlt;have hk:=ky_zero s t e f u v h1 h2 hne (by omega)
           clear hne c1 c2
           cases s
           · rw [oc_gt (hk.1 rfl)]
             clear hk;go_enter Tryz.func5,Tryz.ntmps5
             go_wp2_with fail
             refine (H2.out _).mono ?_;rintro r w1 ⟨rfl,rfl⟩
             go_wp2_with fail
             refine (isNaN_any false e f he hf _).mono ?_;rintro r w1 ⟨rfl,rfl⟩
             go_wp2_with fail
             refine (isNaN_any t u v hu hv _).mono ?_;rintro r w1 ⟨rfl,rfl⟩
             go_wp2_with fail
             refine (sign_any false e f he hf _).mono ?_;rintro r w1 ⟨rfl,rfl⟩
             go_wp2_with fail
             go_ret;exact ⟨rfl,rfl⟩
           · rw [oc_lt (hk.2 rfl)]
             clear hk;go_enter Tryz.func5,Tryz.ntmps5
             go_wp2_with fail
             refine (H2.out _).mono ?_;rintro r w1 ⟨rfl,rfl⟩
             go_wp2_with fail
             refine (isNaN_any true e f he hf _).mono ?_;rintro r w1 ⟨rfl,rfl⟩
             go_wp2_with fail
             refine (isNaN_any t u v hu hv _).mono ?_;rintro r w1 ⟨rfl,rfl⟩
             go_wp2_with fail
             refine (sign_any true e f he hf _).mono ?_;rintro r w1 ⟨rfl,rfl⟩
             go_wp2_with fail
             go_ret;exact ⟨rfl,rfl⟩
     · rw [ky_odd t u v h2,oc_lt (ky_lt s e f he hf h1)]
       rw [h1,h2] at hgt hlt;simp only [Bool.not_false,Bool.true_and,Bool.not_true,Bool.false_and] at hgt hlt;clear hne hlt;go_enter Tryz.func5,Tryz.ntmps5
       go_wp2_with fail
       refine (H2.out _).mono ?_;rintro r w1 ⟨rfl,rfl⟩
       go_wp2_with fail
       refine (isNaN_any s e f he hf _).mono ?_;rintro r w1 ⟨rfl,rfl⟩
       go_wp2_with fail
       refine (isNaN_any t u v hu hv _).mono ?_;rintro r w1 ⟨rfl,rfl⟩
       go_wp2_with fail
       go_ret;exact ⟨rfl,rfl⟩
   · have h2:odd u v=false:=by
      cases h2:odd u v
      · rfl
      · exact absurd ((cb_odd s e f (is_odd e f h1)).trans (cb_odd t u v (is_odd u v h2)).symm) hne
     rw [ky_odd s e f h1,oc_gt (ky_lt t u v hu hv h2)];clear hne hgt hlt;go_enter Tryz.func5,Tryz.ntmps5
     go_wp2_with fail
     refine (H2.out _).mono ?_;rintro r w1 ⟨rfl,rfl⟩
     go_wp2_with fail
     refine (isNaN_any s e f he hf _).mono ?_;rintro r w1 ⟨rfl,rfl⟩
     go_wp2_with fail
     go_ret;exact ⟨rfl,rfl⟩
 · rw [hd] at HS
   have H2:Hid (∀ w,Calls Tryz.prog 22 #[.float .f64 (bw s e f),.float .f64 (bw t u v)] w fun r w'=>r=.returned (.bool true)∧w'=w):=HS
   rw [oc_eq (ky_of_cb s t e f u v he hf hu hv (of_decide_eq_true hd))];clear HS hd hgt hlt;go_enter Tryz.func5,Tryz.ntmps5
   go_wp2_with fail
   refine (H2.out _).mono ?_;rintro r w1 ⟨rfl,rfl⟩
   go_wp2_with fail
   go_ret;exact ⟨rfl,rfl⟩
end B
section
open Go.RowKit
attribute [local go_sem] B.eqParts B.fld0 B.fld1 B.fld2 B.fld3
def ofR (s:Bool) (e f:Nat):Option (Bool×Nat×Int):=if e=2047 then none else mkS s (if e=0 then f else f+4503599627370496) (if e=0 then -1074 else (e:Int)-1075)
def ofE (e:Nat):Int:=if e=2047 then 30 else 0
def OAns (lo:Nat) (w:World) (r:Ending) (o:Option (Bool×Nat×Int)) (er:Int):Prop :=
 ∃ v,r=.returned (.tuple #[.agg #[.bool (dN o),v,.int .i64 (dE o)],.int .i64 er])∧Nt lo w v (dX o)
theorem bl_le53 (X:Nat) (h:X<9007199254740992):bl X≤53:=by
 by_cases h0:X=0
 · subst h0;rw [bl_zero];omega
 · have:=(Nat.pow_lt_pow_iff_right (a:=2) (by omega)).1 (Nat.lt_of_le_of_lt (bl_ge X h0) (show X<2^53 from h))
   omega
theorem of_some (s:Bool) (X:Nat) (x:Int) (hX:X<9007199254740992) (h0:-1100≤x) (h1:x≤1000):∃ d,mkS s X x=some d:=by
 unfold mkS
 by_cases h:X=0
 · rw [if_pos h];exact ⟨_,rfl⟩
 · rw [if_neg h]
   obtain ⟨m,_,_,hb⟩:=odd_part X h;have:=bl_le53 X hX;rw [if_neg (by omega)]
   exact ⟨_,rfl⟩
theorem of_core (s:Bool) (b:Nat) (F:Nat) (k x:Int) (w:World) (hT:Tab w) (hF:F<9007199254740992) (hx0:-1100≤x) (hx1:x≤1000)
 (HA:Hid (∀ u,Calls Tryz.prog 136 #[.float .f64 b] u fun r w'=>r=.returned (.float .f64 (b%9223372036854775808))∧w'=u))
 (HS:Hid (∀ u,Calls Tryz.prog 110 #[.float .f64 (b%9223372036854775808)] u fun r w'=>r=.returned (.agg #[.bool false,.int .i64 k,.int .i64 x,.int .u64 (F:Nat)])∧Below u.heap.size u w'))
 (H0:Hid (∀ u,Calls Tryz.prog 110 #[.float .f64 0] u fun r w'=>r=.returned (.agg #[.bool false,.int .i64 0,.int .i64 (-1074),.int .u64 0])∧Below u.heap.size u w'))
 (hlt:(FloatKind.f64.format.order b 0==some .lt)=s) (k0:(k==0)=false) (k3:(k==3)=false) (k4:(k==4)=false) :
 Calls Tryz.prog 112 #[.float .f64 b] w fun r w'=>DAns w.heap.size w' r (mkS s F x)∧Below w.heap.size w w':=by
 generalize hb2:b%9223372036854775808=b2 at *;clear hb2;have HO:Hid (∀ u,Calls Tryz.prog 103 #[.int .u64 (F:Nat)] u fun r w'=>∃ v,r=.returned v∧Nt u.heap.size w' v F∧Below u.heap.size u w'):=fun u=>of_any F u (by omega)
 have HM:Hid (∀ (u:World) (a:Option Addr) (c:Nat),Tab u→Arg u a (ws F).length c (ws F)→Calls Tryz.prog 63 #[.bool s,.slice a (ws F).length c,.int .i64 x] u fun r w'=>DAns u.heap.size w' r (mkS s F x)∧Below u.heap.size u w'):=by
  intro u a c hTu hA;have:=Make_any hA hTu s x (by omega) (by omega)
  rw [val_ws] at this;exact this
 have hFl:(ws F).length≤100:=by have:=ws_len_bl F;have:=bl_le53 F hF;omega
 have hl:=mkS_len s F x;obtain ⟨o,ho⟩:∃ o,mkS s F x=o:=⟨_,rfl⟩;rw [ho] at HM hl ⊢;unfold DAns at HM ⊢;obtain ⟨dn,hdn⟩:∃ d,dN o=d:=⟨_,rfl⟩;obtain ⟨X,hdx⟩:∃ d,dX o=d:=⟨_,rfl⟩;obtain ⟨de,hde⟩:∃ d,dE o=d:=⟨_,rfl⟩;obtain ⟨er,her⟩:∃ d,erS o=d:=⟨_,rfl⟩;rw [hdn,hdx,hde,her] at HM ⊢;rw [hdx] at hl;have HT:=qsd hT;clear ho hdn hdx hde her hT hF hx0 hx1;go_enter Tryz.func112,Tryz.ntmps112
 go_wp2_with fail
 refine (Calls.mono (HA.out _)) ?_;rintro r w1 ⟨rfl,rfl⟩
 go_wp2_with fail
 refine (Calls.mono (HS.out _)) ?_;rintro r w2 ⟨rfl,hb⟩;obtain ⟨hc,hf⟩:=bcell hb;have hz:w.heap.size<w2.heap.size:=by have:=hb.size;simp at this;omega
 have hbw:Below w.heap.size w w2:=((Below.refl _ _).alloc (Nat.le_refl _) _).trans (hb.mono (by simp))
 have SB:=qsd hbw;clear hb hbw;obtain ⟨W2,hW2⟩:∃ W,W=w2.alloc (.cells #[.bool false,.int .i64 k,.int .i64 x,.int .u64 (F:Nat)] 151):=⟨_,rfl⟩;have hbW:Below w.heap.size w W2:=by rw [hW2];exact SB.out.alloc (by omega) _
 have P:W2.heap[w2.heap.size]?=some (.cells #[.bool false,.int .i64 k,.int .i64 x,.int .u64 (F:Nat)] 151 (0,0)):=by rw [hW2,heap_alloc_new]
 have p0:W2.cell? ⟨w2.heap.size,0,none⟩=some (.bool false):=by simp [World.cell?,P]
 have p1:W2.cell? ⟨w2.heap.size,1,none⟩=some (.int .i64 k):=by simp [World.cell?,P]
 have p2:W2.cell? ⟨w2.heap.size,2,none⟩=some (.int .i64 x):=by simp [World.cell?,P]
 have p3:W2.cell? ⟨w2.heap.size,3,none⟩=some (.int .u64 (F:Nat)):=by simp [World.cell?,P]
 have r0:W2.cell? ⟨w.heap.size,0,none⟩=some (.bool false):=by rw [hW2];go_simp
 have r1:W2.cell? ⟨w.heap.size,1,none⟩=some (.slice none 0 0):=by rw [hW2];go_simp
 have r2:W2.cell? ⟨w.heap.size,2,none⟩=some (.int .i64 0):=by rw [hW2];go_simp
 have f0:W2.frozen? ⟨w.heap.size,0,none⟩=false:=by rw [hW2];go_simp
 have f1:W2.frozen? ⟨w.heap.size,1,none⟩=false:=by rw [hW2];go_simp
 have f2:W2.frozen? ⟨w.heap.size,2,none⟩=false:=by rw [hW2];go_simp
 have hz2:w2.heap.size<W2.heap.size:=by rw [hW2];simp
 have hz3:w.heap.size<W2.heap.size:=by omega
 have SW:=qsd hbW
 go_wp2_with fail
 rw [←hW2];clear hW2 hbW P hc hf SB
 go_region_with (go_at_call 110;refine (H0.out _).mono ?_;rintro r w3 ⟨rfl,hb3⟩;have hb4:Below W2.heap.size W2 w3:=(by first | exact hb3 | exact ((Below.refl _ W2).drew).trans (hb3.mono (Nat.le_refl _)));obtain ⟨hc,hf⟩:=bcell hb4;have S3:=qsd hb4;clear hb3 hb4)
 all_goals (
  go_wp2_with fail
  have hz4:w2.heap.size<w3.heap.size:=by have:=S3.out.size;omega
  have hz5:w.heap.size<w3.heap.size:=by have:=S3.out.size;omega
  go_region_with (first
   | (go_at_call 103
      refine (HO.out _).mono ?_;rintro r w4 ⟨v4,rfl,hN,hb⟩;obtain ⟨a4,c4,rfl,A4⟩:=hN.arg (by omega)
      have hb34:Below w3.heap.size w3 w4:=(by first | exact hb | exact ((Below.refl _ w3).drew).trans (hb.mono (Nat.le_refl _)))
      have T4:Tab w4:=(HT.out.belows SW.out).belows (S3.out.trans (hb34.mono S3.out.size));obtain ⟨hc4,hf4⟩:=bcell hb34;have hz6:w.heap.size<w4.heap.size:=by have:=hb34.size;omega
      have S4:=(qsd (ai hb34 (ai A4 T4)));clear hN hb hb34 A4 T4)
   | (go_at_call 63
      refine (HM.out _ a4 c4 (by first | exact S4.out.2.2 | exact S4.out.2.2) (by first | exact S4.out.2.1 | exact Arg.drew' S4.out.2.1)).mono ?_
      rintro r w5 ⟨⟨v5,rfl,hN⟩,hb⟩;obtain ⟨a5,c5,rfl,_⟩:=hN.arg (by omega)
      have hb45:Below w4.heap.size w4 w5:=(by first | exact hb | exact ((Below.refl _ w4).drew).trans (hb.mono (Nat.le_refl _)))
      obtain ⟨hc5,hf5⟩:=bcell hb45;have HF:=qsd (show Fin w.heap.size w4.heap.size w w5 (.slice a5 (ws X).length c5) X from ⟨hN,((SW.out.trans (S3.out.mono (by omega))).trans (S4.out.1.mono (by omega))).trans (hb45.mono (by omega)),by have:=hb45.size;omega⟩)
      clear hN hb hb45))
  all_goals (
   go_wp2;exact bodyPost_ret (v:=.tuple #[.agg #[.bool dn,.slice a5 (ws X).length c5,.int .i64 de],.int .i64 er]) (by simp [results,Tryz.results112,go_sem,hc5,hc4,hc,hz6,hz5,hz3,r0,r1,r2]) rfl (Fin.dans (m:=w4.heap.size) (by repeat (first | exact HF.out | refine Fin.alloc ?_ _ | refine Fin.set ?_ _ _ _ (by omega) (by omega))) (by omega))))
theorem of_nought (b b2:Nat) (w:World)
 (HA:Hid (∀ u,Calls Tryz.prog 136 #[.float .f64 b] u fun r w'=>r=.returned (.float .f64 b2)∧w'=u))
 (HS:Hid (∀ u,Calls Tryz.prog 110 #[.float .f64 b2] u fun r w'=>r=.returned (.agg #[.bool false,.int .i64 0,.int .i64 (-1074),.int .u64 0])∧Below u.heap.size u w'))
 (H0:Hid (∀ u,Calls Tryz.prog 110 #[.float .f64 0] u fun r w'=>r=.returned (.agg #[.bool false,.int .i64 0,.int .i64 (-1074),.int .u64 0])∧Below u.heap.size u w')) :
 Calls Tryz.prog 112 #[.float .f64 b] w fun r w'=>r=.returned (.tuple #[.agg #[.bool false,.slice none 0 0,.int .i64 0],.int .i64 0])∧Below w.heap.size w w':=by
 go_enter Tryz.func112,Tryz.ntmps112
 go_wp2_with fail
 refine (Calls.mono (HA.out _)) ?_;rintro r w1 ⟨rfl,rfl⟩
 go_wp2_with fail
 refine (Calls.mono (HS.out _)) ?_;rintro r w2 ⟨rfl,hb⟩;obtain ⟨hc,hf⟩:=bcell hb;have hz:w.heap.size<w2.heap.size:=by have:=hb.size;simp at this;omega
 have hbw:Below w.heap.size w w2:=((Below.refl _ _).alloc (Nat.le_refl _) _).trans (hb.mono (by simp))
 have SB:=qsd hbw;clear hb hbw;obtain ⟨W2,hW2⟩:∃ W,W=w2.alloc (.cells #[.bool false,.int .i64 0,.int .i64 (-1074),.int .u64 0] 151):=⟨_,rfl⟩;have hbW:Below w.heap.size w W2:=by rw [hW2];exact SB.out.alloc (by omega) _
 have P:W2.heap[w2.heap.size]?=some (.cells #[.bool false,.int .i64 0,.int .i64 (-1074),.int .u64 0] 151 (0,0)):=by rw [hW2,heap_alloc_new]
 have p0:W2.cell? ⟨w2.heap.size,0,none⟩=some (.bool false):=by simp [World.cell?,P]
 have p1:W2.cell? ⟨w2.heap.size,1,none⟩=some (.int .i64 0):=by simp [World.cell?,P]
 have p2:W2.cell? ⟨w2.heap.size,2,none⟩=some (.int .i64 (-1074)):=by simp [World.cell?,P]
 have p3:W2.cell? ⟨w2.heap.size,3,none⟩=some (.int .u64 0):=by simp [World.cell?,P]
 have r0:W2.cell? ⟨w.heap.size,0,none⟩=some (.bool false):=by rw [hW2];go_simp
 have r1:W2.cell? ⟨w.heap.size,1,none⟩=some (.slice none 0 0):=by rw [hW2];go_simp
 have r2:W2.cell? ⟨w.heap.size,2,none⟩=some (.int .i64 0):=by rw [hW2];go_simp
 have f0:W2.frozen? ⟨w.heap.size,0,none⟩=false:=by rw [hW2];go_simp
 have f1:W2.frozen? ⟨w.heap.size,1,none⟩=false:=by rw [hW2];go_simp
 have f2:W2.frozen? ⟨w.heap.size,2,none⟩=false:=by rw [hW2];go_simp
 have hz2:w2.heap.size<W2.heap.size:=by rw [hW2];simp
 have hz3:w.heap.size<W2.heap.size:=by omega
 have SW:=qsd hbW
 go_wp2_with fail
 rw [←hW2];clear hW2 hbW P hc hf SB
 go_region_with (go_at_call 110;refine (H0.out _).mono ?_;rintro r w3 ⟨rfl,hb3⟩;have hb4:Below W2.heap.size W2 w3:=(by first | exact hb3 | exact ((Below.refl _ W2).drew).trans (hb3.mono (Nat.le_refl _)));obtain ⟨hc,hf⟩:=bcell hb4;have S3:=qsd hb4;clear hb3 hb4)
 all_goals (
  go_wp2;have hbf:=SW.out.trans (S3.out.mono (by omega))
  have hzf:w.heap.size≤w3.heap.size:=by have:=S3.out.size;omega
  exact bodyPost_ret (v:=.tuple #[.agg #[.bool false,.slice none 0 0,.int .i64 0],.int .i64 0]) (by simp [results,Tryz.results112,go_sem,hc,hz3,r0,r1,r2]) rfl ⟨rfl,Below.setC (Below.setC (Below.setC hbf _ _ _ (Nat.le_refl _) hzf) _ _ _ (Nat.le_refl _) (by simpa [World.setCell] using hzf)) _ _ _ (Nat.le_refl _) (by simpa [World.setCell] using hzf)⟩)
theorem of_wild (b b2:Nat) (k:Int) (w:World) (hk:k=3∨k=4)
 (HA:Hid (∀ u,Calls Tryz.prog 136 #[.float .f64 b] u fun r w'=>r=.returned (.float .f64 b2)∧w'=u))
 (HS:Hid (∀ u,Calls Tryz.prog 110 #[.float .f64 b2] u fun r w'=>r=.returned (.agg #[.bool false,.int .i64 k,.int .i64 0,.int .u64 0])∧Below u.heap.size u w'))
 (H0:Hid (∀ u,Calls Tryz.prog 110 #[.float .f64 0] u fun r w'=>r=.returned (.agg #[.bool false,.int .i64 0,.int .i64 (-1074),.int .u64 0])∧Below u.heap.size u w')) :
 Calls Tryz.prog 112 #[.float .f64 b] w fun r w'=>r=.returned (.tuple #[.agg #[.bool false,.slice none 0 0,.int .i64 0],.int .i64 30])∧Below w.heap.size w w':=by
 have k0:(k==0)=false:=by rcases hk with rfl | rfl <;> rfl
 go_enter Tryz.func112,Tryz.ntmps112
 go_wp2_with fail
 refine (Calls.mono (HA.out _)) ?_;rintro r w1 ⟨rfl,rfl⟩
 go_wp2_with fail
 refine (Calls.mono (HS.out _)) ?_;rintro r w2 ⟨rfl,hb⟩;obtain ⟨hc,hf⟩:=bcell hb;have hz:w.heap.size<w2.heap.size:=by have:=hb.size;simp at this;omega
 have hbw:Below w.heap.size w w2:=((Below.refl _ _).alloc (Nat.le_refl _) _).trans (hb.mono (by simp))
 have SB:=qsd hbw;clear hb hbw;obtain ⟨W2,hW2⟩:∃ W,W=w2.alloc (.cells #[.bool false,.int .i64 k,.int .i64 0,.int .u64 0] 151):=⟨_,rfl⟩;have hbW:Below w.heap.size w W2:=by rw [hW2];exact SB.out.alloc (by omega) _
 have P:W2.heap[w2.heap.size]?=some (.cells #[.bool false,.int .i64 k,.int .i64 0,.int .u64 0] 151 (0,0)):=by rw [hW2,heap_alloc_new]
 have p0:W2.cell? ⟨w2.heap.size,0,none⟩=some (.bool false):=by simp [World.cell?,P]
 have p1:W2.cell? ⟨w2.heap.size,1,none⟩=some (.int .i64 k):=by simp [World.cell?,P]
 have p2:W2.cell? ⟨w2.heap.size,2,none⟩=some (.int .i64 0):=by simp [World.cell?,P]
 have p3:W2.cell? ⟨w2.heap.size,3,none⟩=some (.int .u64 0):=by simp [World.cell?,P]
 have r0:W2.cell? ⟨w.heap.size,0,none⟩=some (.bool false):=by rw [hW2];go_simp
 have r1:W2.cell? ⟨w.heap.size,1,none⟩=some (.slice none 0 0):=by rw [hW2];go_simp
 have r2:W2.cell? ⟨w.heap.size,2,none⟩=some (.int .i64 0):=by rw [hW2];go_simp
 have f0:W2.frozen? ⟨w.heap.size,0,none⟩=false:=by rw [hW2];go_simp
 have f1:W2.frozen? ⟨w.heap.size,1,none⟩=false:=by rw [hW2];go_simp
 have f2:W2.frozen? ⟨w.heap.size,2,none⟩=false:=by rw [hW2];go_simp
 have hz2:w2.heap.size<W2.heap.size:=by rw [hW2];simp
 have hz3:w.heap.size<W2.heap.size:=by omega
 have SW:=qsd hbW
 go_wp2_with fail
 rw [←hW2];clear hW2 hbW P hc hf SB
 go_region_with (go_at_call 110;refine (H0.out _).mono ?_;rintro r w3 ⟨rfl,hb3⟩;have hb4:Below W2.heap.size W2 w3:=(by first | exact hb3 | exact ((Below.refl _ W2).drew).trans (hb3.mono (Nat.le_refl _)));obtain ⟨hc,hf⟩:=bcell hb4;have S3:=qsd hb4;clear hb3 hb4)
 all_goals (
  have hbf:=qsd (SW.out.trans (S3.out.mono (by omega)))
  have hzf:w.heap.size≤w3.heap.size:=by have:=S3.out.size;omega
  rcases hk with rfl|rfl
  all_goals (
   go_wp2;exact bodyPost_ret (v:=.tuple #[.agg #[.bool false,.slice none 0 0,.int .i64 0],.int .i64 30]) (by simp [results,Tryz.results112,go_sem,hc,hz3,r0,r1,r2]) rfl ⟨rfl,Below.setC (Below.setC (Below.setC hbf.out _ _ _ (Nat.le_refl _) hzf) _ _ _ (Nat.le_refl _) (by simpa [World.setCell] using hzf)) _ _ _ (Nat.le_refl _) (by simpa [World.setCell] using hzf)⟩))
theorem Of_any (s:Bool) (e f:Nat) (he:e<2048) (hf:f<4503599627370496) (w:World) (hT:Tab w) :
 Calls Tryz.prog 112 #[.float .f64 (B.bw s e f)] w fun r w'=>OAns w.heap.size w' r (ofR s e f) (ofE e)∧Below w.heap.size w w':=by
 have HA:Hid (∀ u,Calls Tryz.prog 136 #[.float .f64 (B.bw s e f)] u fun r w'=>r=.returned (.float .f64 (B.bw false e f))∧w'=u):=fun u=>B.abs_any s e f he hf u
 have HS:∀ u,Calls Tryz.prog 110 #[.float .f64 (B.bw false e f)] u fun r w'=>r=.returned (.agg #[.bool (B.ng false e f),.int .i64 (B.cls e f),.int .i64 (B.xp e),.int .u64 (B.fr e f)])∧Below u.heap.size u w':=fun u=>B.Split_any false e f he hf u
 have H0:Hid (∀ u,Calls Tryz.prog 110 #[.float .f64 0] u fun r w'=>r=.returned (.agg #[.bool false,.int .i64 0,.int .i64 (-1074),.int .u64 0])∧Below u.heap.size u w'):=fun u=>B.Split_any false 0 0 (by omega) (by omega) u
 have hng:B.ng false e f=false:=by unfold B.ng;split <;> rfl
 rw [hng] at HS;unfold ofR ofE
 by_cases h7:e=2047
 · rw [if_pos h7,if_pos h7]
   have h2:B.xp e=0∧B.fr e f=0:=by unfold B.xp B.fr;rw [if_pos h7,if_pos h7];exact ⟨rfl,rfl⟩
   rw [h2.1,h2.2] at HS;have hk:B.cls e f=3∨B.cls e f=4:=by unfold B.cls;rw [if_pos h7];split <;> simp
   exact (of_wild _ _ _ w hk HA (hid HS) H0).mono fun r w' ⟨h1,h3⟩=>⟨⟨_,h1,Nt.nil _ _⟩,h3⟩
 · rw [if_neg h7,if_neg h7]
   have hx:B.xp e=(if e=0 then -1074 else (e:Int)-1075):=by unfold B.xp;rw [if_neg h7]
   have hfr:B.fr e f=(((if e=0 then f else f+4503599627370496:Nat)):Int):=by unfold B.fr;rw [if_neg h7];split <;> simp
   rw [hx,hfr] at HS
   by_cases h0:e=0∧f=0
   · obtain ⟨rfl,rfl⟩:=h0
     rw [show B.cls 0 0=0 from rfl] at HS
     simp only [if_pos,Int.ofNat_zero] at HS;rw [if_pos rfl,mkS_zero];exact (of_nought _ _ w HA (hid HS) H0).mono fun r w' ⟨h1,h3⟩=>⟨⟨_,h1,Nt.nil _ _⟩,h3⟩
   · have hcl:B.cls e f=1∨B.cls e f=2:=by
      unfold B.cls;rw [if_neg h7]
      by_cases h1:e=0
      · rw [if_pos h1,if_neg (fun h=>h0 ⟨h1,h⟩)];simp
      · rw [if_neg h1];simp
     obtain ⟨F,hF⟩:∃ F:Nat,(if e=0 then f else f+4503599627370496:Nat)=F:=⟨_,rfl⟩
     obtain ⟨x,hxx⟩:∃ x:Int,(if e=0 then -1074 else (e:Int)-1075)=x:=⟨_,rfl⟩
     have hFb:F<9007199254740992:=by rw [←hF];split <;> omega
     have hxb:-1100≤x∧x≤1000:=by rw [←hxx];split <;> omega
     rw [hF,hxx] at HS ⊢;have ho:B.odd e f=false:=by unfold B.odd;simp [h7]
     have hz:(e==0&&f==0)=false:=by
      cases h1:(e==0&&f==0)
      · rfl
      · exact absurd (by simpa using h1) h0
     have hb2:B.bw false e f=B.bw s e f%9223372036854775808:=by
      have h1:=B.bw_mod s e f he hf;have h2:(B.bw false e f:Int)=(e:Int)*4503599627370496+f:=by unfold B.bw;simp
      omega
     rw [hb2] at HA HS;obtain ⟨d,hd⟩:=of_some s F x hFb hxb.1 hxb.2;have:=of_core s (B.bw s e f) F (B.cls e f) x w hT hFb hxb.1 hxb.2 HA (hid HS) H0 (B.lt_zero s e f he hf ho hz) (by rcases hcl with h | h <;> rw [h] <;> rfl) (by rcases hcl with h | h <;> rw [h] <;> rfl) (by rcases hcl with h | h <;> rw [h] <;> rfl)
     refine this.mono fun r w' ⟨⟨v,h1,h2⟩,h3⟩=>⟨⟨v,?_,h2⟩,h3⟩
     rw [h1,hd];rfl
end
section
open Go.RowKit
theorem Int_core_neg (n:Int) (m:Nat) (X:Nat) (dn:Bool) (de:Int) (er:Int) (w:World) (h0:n<0) (h1:-9223372036854775808≤n) (hm:(ws m).length≤100) (hl:(ws X).length≤8192) (e1:IntKind.u64.wrap (-IntKind.u64.wrap n)=(m:Int))
 (HO:Hid (∀ u,Calls Tryz.prog 103 #[.int .u64 (m:Int)] u fun r w'=>∃ v,r=.returned v∧Nt u.heap.size w' v m∧Below u.heap.size u w'))
 (HM:Hid (∀ (u:World) (a:Option Addr) (c:Nat),Below w.heap.size w u→Arg u a (ws m).length c (ws m)→Calls Tryz.prog 63 #[.bool true,.slice a (ws m).length c,.int .i64 0] u fun r w'=>(∃ v,r=.returned (.tuple #[.agg #[.bool dn,v,.int .i64 de],.int .i64 er])∧Nt u.heap.size w' v X)∧Below u.heap.size u w')) :
 Calls Tryz.prog 69 #[.int .i64 n] w fun r w'=>(∃ v,r=.returned (.agg #[.bool dn,v,.int .i64 de])∧Nt w.heap.size w' v X)∧Below w.heap.size w w':=by
 go_enter Tryz.func69,Tryz.ntmps69
 go_wp2_with fail
 try rw [e1]
 refine (Calls.mono (HO.out _)) ?_;rintro r w1 ⟨v,rfl,hN,hb⟩;obtain ⟨a1,c1,rfl,A1⟩:=hN.arg (by omega)
 have hz:w.heap.size<w1.heap.size:=by have:=hb.size;simp at this;omega
 have hbw:Below w.heap.size w w1:=(below_alloc w (.cells #[.bool false,.slice none 0 0,.int .i64 0] 67)).trans (hb.mono (by simp))
 have S1:=qsd hbw;have H2:=hid (HM.out w1 a1 c1 hbw A1);obtain ⟨hc,hf⟩:=bcell hb;clear hN hb A1 hbw
 go_wp2_with fail
 refine H2.out.mono ?_;rintro r w2 ⟨⟨v,rfl,hN⟩,hb2⟩;obtain ⟨a2,c2,rfl,_⟩:=hN.arg (by omega)
 obtain ⟨hc2,hf2⟩:=bcell hb2;have hz2:w.heap.size<w2.heap.size:=by have:=hb2.size;omega
 have HF:=qsd (show Fin w.heap.size w1.heap.size w w2 (.slice a2 (ws X).length c2) X from ⟨hN,S1.out.trans (hb2.mono (by omega)),by omega⟩)
 clear hN hb2;go_wp2;exact bodyPost_ret (v:=.agg #[.bool dn,.slice a2 (ws X).length c2,.int .i64 de]) (by simp [results,Tryz.results69,go_sem,hc,hc2,hz,hz2]) rfl (Fin.dval (m:=w1.heap.size) (by repeat (first | exact HF.out | refine Fin.alloc ?_ _ | refine Fin.set ?_ _ _ _ (by omega) (by omega))) (by omega))
theorem Int_core_pos (n:Int) (m:Nat) (X:Nat) (dn:Bool) (de:Int) (er:Int) (w:World) (h0:0≤n) (h1:n≤9223372036854775807) (hd:decide (n<0)=false) (hm:(ws m).length≤100) (hl:(ws X).length≤8192) (e1:IntKind.u64.wrap n=n)
 (HO:Hid (∀ u,Calls Tryz.prog 103 #[.int .u64 n] u fun r w'=>∃ v,r=.returned v∧Nt u.heap.size w' v m∧Below u.heap.size u w'))
 (HM:Hid (∀ (u:World) (a:Option Addr) (c:Nat),Below w.heap.size w u→Arg u a (ws m).length c (ws m)→Calls Tryz.prog 63 #[.bool false,.slice a (ws m).length c,.int .i64 0] u fun r w'=>(∃ v,r=.returned (.tuple #[.agg #[.bool dn,v,.int .i64 de],.int .i64 er])∧Nt u.heap.size w' v X)∧Below u.heap.size u w')) :
 Calls Tryz.prog 69 #[.int .i64 n] w fun r w'=>(∃ v,r=.returned (.agg #[.bool dn,v,.int .i64 de])∧Nt w.heap.size w' v X)∧Below w.heap.size w w':=by
 go_enter Tryz.func69,Tryz.ntmps69
 go_wp2_with fail
 try rw [e1]
 refine (Calls.mono (HO.out _)) ?_;rintro r w1 ⟨v,rfl,hN,hb⟩;obtain ⟨a1,c1,rfl,A1⟩:=hN.arg (by omega)
 have hz:w.heap.size<w1.heap.size:=by have:=hb.size;simp at this;omega
 have hbw:Below w.heap.size w w1:=(below_alloc w (.cells #[.bool false,.slice none 0 0,.int .i64 0] 67)).trans (hb.mono (by simp))
 have S1:=qsd hbw;have H2:=hid (HM.out w1 a1 c1 hbw A1);obtain ⟨hc,hf⟩:=bcell hb;clear hN hb A1 hbw
 go_wp2_with fail
 refine H2.out.mono ?_;rintro r w2 ⟨⟨v,rfl,hN⟩,hb2⟩;obtain ⟨a2,c2,rfl,_⟩:=hN.arg (by omega)
 obtain ⟨hc2,hf2⟩:=bcell hb2;have hz2:w.heap.size<w2.heap.size:=by have:=hb2.size;omega
 have HF:=qsd (show Fin w.heap.size w1.heap.size w w2 (.slice a2 (ws X).length c2) X from ⟨hN,S1.out.trans (hb2.mono (by omega)),by omega⟩)
 clear hN hb2;go_wp2;exact bodyPost_ret (v:=.agg #[.bool dn,.slice a2 (ws X).length c2,.int .i64 de]) (by simp [results,Tryz.results69,go_sem,hc,hc2,hz,hz2]) rfl (Fin.dval (m:=w1.heap.size) (by repeat (first | exact HF.out | refine Fin.alloc ?_ _ | refine Fin.set ?_ _ _ _ (by omega) (by omega))) (by omega))
theorem natAbs_len (n:Int) (h0:-9223372036854775808≤n) (h1:n≤9223372036854775807):(ws n.natAbs).length≤100:=by
 have:=(ws_len_le n.natAbs 2).2 (by rw [show pw 2=18446744073709551616 from rfl];omega)
 omega
theorem Int_any (n:Int) (w:World) (hT:Tab w) (h0:-9223372036854775808≤n) (h1:n≤9223372036854775807) :
 Calls Tryz.prog 69 #[.int .i64 n] w fun r w'=>DVal w.heap.size w' r (mkS (decide (n<0)) n.natAbs 0)∧Below w.heap.size w w':=by
 have hl:=natAbs_len n h0 h1
 have HM:∀ (s:Bool) (u:World) (a:Option Addr) (c:Nat),Below w.heap.size w u→Arg u a (ws n.natAbs).length c (ws n.natAbs)→Calls Tryz.prog 63 #[.bool s,.slice a (ws n.natAbs).length c,.int .i64 0] u fun r w'=>DAns u.heap.size w' r (mkS s n.natAbs 0)∧Below u.heap.size u w':=by
  intro s u a c hu hA;have:=Make_any hA (hT.belows hu) s 0 (by omega) (by omega)
  rw [val_ws] at this;exact this
 by_cases hn:n<0
 · rw [decide_eq_true hn]
   exact Int_core_neg n n.natAbs _ _ _ _ w hn h0 hl (mkS_len _ _ _) (by simp [IntKind.wrap,IntKind.bits,IntKind.signed];omega) (hid fun u=>of_any _ u (by omega)) (hid (HM true))
 · rw [decide_eq_false hn]
   have e:((n.natAbs:Nat):Int)=n:=by omega
   exact Int_core_pos n n.natAbs _ _ _ _ w (by omega) h1 (decide_eq_false hn) hl (mkS_len _ _ _) (by simp [IntKind.wrap,IntKind.bits,IntKind.signed];omega) (hid fun u=>by have:=of_any n.natAbs u (by omega);rw [e] at this;exact this) (hid (HM false))
theorem Nt.arg' {lo:Nat}{w:World}{a:Option Addr}{n c X:Nat}(h:Nt lo w (.slice a n c) X) (hs:(ws X).length≤35184372088832):n=(ws X).length∧Arg w a (ws X).length c (ws X):=by
 obtain ⟨a',c',e,A⟩:=h.arg hs
 cases e
 exact ⟨rfl,A⟩
end
end Go.Proofs.YthejkolknalpaaaGreatDoor
