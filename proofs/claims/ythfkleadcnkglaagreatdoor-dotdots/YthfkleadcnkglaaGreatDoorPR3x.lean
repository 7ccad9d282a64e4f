import Derived.Test.YthfkleadcnkglaaGreatDoorX16x
import Derived.Deep.RegionWith
import Derived.Test.YthfkleadcnkglaaGreatDoorX6x
import Derived.BigQuiet
import Derived.Test.YthfkleadcnkglaaGreatDoorX10x
import Derived.Deep.CutRange
import Derived.ProofKit
import Derived.OpenShut
import Derived.ChangeOld
import Derived.ChangeArms
import Derived.SizedLaws
import Derived.Laws.Cover2
set_option linter.unusedVariables false
set_option linter.unusedSimpArgs false
set_option maxHeartbeats 16000000
set_option maxRecDepth 20000
namespace Go.Proofs.YthfkleadcnkglaaGreatDoor
namespace J
end J
section
open Go.RowKit
open Go.Proofs.YthfkleadcnkglaaGreatDoor.B (f64bits f64frombits bw bcell)
attribute [local go_sem] f64bits f64frombits
theorem rVerdict_any (n u d m p l a b:Int) (w:World):Calls Tryz.prog 95 #[.agg #[.int .i64 n,.int .i64 u,.int .i64 d,.int .i64 m,.int .i64 p,.int .i64 l],.agg #[.int .i64 a,.int .i64 b]] w fun r w'=>r=.returned (.tuple #[.float .f64 (vd (snd n u d m p l&&may a b) n u d a b).1,.bool (vd (snd n u d m p l&&may a b) n u d a b).2])∧Below w.heap.size w w':=by
 have HS:=hid (MayBe_any n u d m p l);have HM:=hid (rMay_any a b);have HN:=hid (TheNaN_any);have HU:=hid (rInf_any false);have HD:=hid (rInf_any true)
 rcases hs:snd n u d m p l with _|_
 · rw [hs] at HS
   rw [Bool.false_and];have hv:vd false n u d a b=(0,false):=by unfold vd;rw [if_pos rfl]
   rw [hv];obtain ⟨mb,hmb⟩:∃ mb,may a b=mb:=⟨_,rfl⟩;rw [hmb] at HM;clear hs hv hmb;go_enter Tryz.func95,Tryz.ntmps95
   go_wp2_with fail
   refine (HS.out _).mono ?_;rintro r w1 ⟨rfl,hb1⟩;have hz1:=hb1.size;simp at hz1;obtain ⟨hc1,hf1⟩:=bcell hb1;have B1:=qsd hb1;clear hb1
   go_wp2_with fail
   refine (HM.out _).mono ?_;rintro r w2 ⟨rfl,hb2⟩;have hz2:=hb2.size;obtain ⟨hc2,hf2⟩:=bcell hb2;have hc3:∀ b o,b<w.heap.size+1+1→w2.cell? ⟨b,o,none⟩=w1.cell? ⟨b,o,none⟩:=fun b o h=>hc2 b o (by omega)
   have B2:=qsd hb2;clear hb2 hc2 hf2;go_wp2
   go_ret2
   exact ⟨by first | rfl | simp,((((Below.refl _ w).alloc (Nat.le_refl _) _).alloc (by simp) _).trans (B1.out.mono (by simp;omega))).trans (B2.out.mono (by omega))⟩
 rcases hm:may a b with _|_
 · rw [hs] at HS
   rw [hm] at HM;have hv:vd (true&&false) n u d a b=(0,false):=if_pos rfl;rw [hv];clear hs hm hv;go_enter Tryz.func95,Tryz.ntmps95
   go_wp2_with fail
   refine (HS.out _).mono ?_;rintro r w1 ⟨rfl,hb1⟩;have hz1:=hb1.size;simp at hz1;obtain ⟨hc1,hf1⟩:=bcell hb1;have B1:=qsd hb1;clear hb1
   go_wp2_with fail
   refine (HM.out _).mono ?_;rintro r w2 ⟨rfl,hb2⟩;have hz2:=hb2.size;obtain ⟨hc2,hf2⟩:=bcell hb2;have hc3:∀ b o,b<w.heap.size+1+1→w2.cell? ⟨b,o,none⟩=w1.cell? ⟨b,o,none⟩:=fun b o h=>hc2 b o (by omega)
   have B2:=qsd hb2;clear hb2 hc2 hf2;go_wp2
   go_ret2
   exact ⟨by first | rfl | simp,((((Below.refl _ w).alloc (Nat.le_refl _) _).alloc (by simp) _).trans (B1.out.mono (by simp;omega))).trans (B2.out.mono (by omega))⟩
 rw [hs] at HS;rw [hm] at HM;rw [Bool.true_and];clear hs hm
 have way1:0<n→a=0→Calls Tryz.prog 95 #[.agg #[.int .i64 n,.int .i64 u,.int .i64 d,.int .i64 m,.int .i64 p,.int .i64 l],.agg #[.int .i64 a,.int .i64 b]] w fun r w'=>r=.returned (.tuple #[.float .f64 (vd true n u d a b).1,.bool (vd true n u d a b).2])∧Below w.heap.size w w':=by
  intro p1 p2;have hv:vd true n u d a b=(9221120237041090560,true):=by unfold vd;rw [if_neg (by decide),if_pos ⟨p1,p2⟩]
  rw [hv];clear hv;have q1:0<n:=p1;have q2:a=0:=p2;subst q2;go_enter Tryz.func95,Tryz.ntmps95
  go_wp2_with fail
  refine (HS.out _).mono ?_;rintro r w1 ⟨rfl,hb1⟩;have hz1:=hb1.size;simp at hz1;obtain ⟨hc1,hf1⟩:=bcell hb1;have B1:=qsd hb1;clear hb1
  go_wp2_with fail
  refine (HM.out _).mono ?_;rintro r w2 ⟨rfl,hb2⟩;have hz2:=hb2.size;obtain ⟨hc2,hf2⟩:=bcell hb2;have hc3:∀ b o,b<w.heap.size+1+1→w2.cell? ⟨b,o,none⟩=w1.cell? ⟨b,o,none⟩:=fun b o h=>hc2 b o (by omega)
  have B2:=qsd hb2;clear hb2 hc2 hf2
  go_wp2_with fail
  refine (HN.out _).mono ?_;rintro r w3 ⟨rfl,rfl⟩;go_wp2
  go_ret2
  exact ⟨by first | rfl | simp,((((Below.refl _ w).alloc (Nat.le_refl _) _).alloc (by simp) _).trans (B1.out.mono (by simp;omega))).trans (B2.out.mono (by omega))⟩
 have way2:0<n→¬ (a=0)→¬ (b=0)→Calls Tryz.prog 95 #[.agg #[.int .i64 n,.int .i64 u,.int .i64 d,.int .i64 m,.int .i64 p,.int .i64 l],.agg #[.int .i64 a,.int .i64 b]] w fun r w'=>r=.returned (.tuple #[.float .f64 (vd true n u d a b).1,.bool (vd true n u d a b).2])∧Below w.heap.size w w':=by
  intro p1 p2 p3;have hv:vd true n u d a b=(0,false):=by unfold vd;rw [if_neg (by decide),if_neg (fun h=>p2 h.2),if_pos p3]
  rw [hv];clear hv;have q1:0<n:=p1;have q2:(a==0)=false:=by rw [beq_eq_false_iff_ne];exact p2
  have q3:(b==0)=false:=by rw [beq_eq_false_iff_ne];exact p3
  go_enter Tryz.func95,Tryz.ntmps95
  go_wp2_with fail
  refine (HS.out _).mono ?_;rintro r w1 ⟨rfl,hb1⟩;have hz1:=hb1.size;simp at hz1;obtain ⟨hc1,hf1⟩:=bcell hb1;have B1:=qsd hb1;clear hb1
  go_wp2_with fail
  refine (HM.out _).mono ?_;rintro r w2 ⟨rfl,hb2⟩;have hz2:=hb2.size;obtain ⟨hc2,hf2⟩:=bcell hb2;have hc3:∀ b o,b<w.heap.size+1+1→w2.cell? ⟨b,o,none⟩=w1.cell? ⟨b,o,none⟩:=fun b o h=>hc2 b o (by omega)
  have B2:=qsd hb2;clear hb2 hc2 hf2;go_wp2
  go_ret2
  exact ⟨by first | rfl | simp,((((Below.refl _ w).alloc (Nat.le_refl _) _).alloc (by simp) _).trans (B1.out.mono (by simp;omega))).trans (B2.out.mono (by omega))⟩
 have way3:0<n→¬ (a=0)→b=0→0<u→0<d→Calls Tryz.prog 95 #[.agg #[.int .i64 n,.int .i64 u,.int .i64 d,.int .i64 m,.int .i64 p,.int .i64 l],.agg #[.int .i64 a,.int .i64 b]] w fun r w'=>r=.returned (.tuple #[.float .f64 (vd true n u d a b).1,.bool (vd true n u d a b).2])∧Below w.heap.size w w':=by
  intro p1 p2 p3 p4 p5;have hv:vd true n u d a b=(9221120237041090560,true):=by unfold vd;rw [if_neg (by decide),if_neg (fun h=>p2 h.2),if_neg (not_not_intro p3),if_pos ⟨p4,p5⟩]
  rw [hv];clear hv;have q1:0<n:=p1;have q2:(a==0)=false:=by rw [beq_eq_false_iff_ne];exact p2
  have q3:b=0:=p3;have q4:0<u:=p4;have q5:0<d:=p5;subst q3;go_enter Tryz.func95,Tryz.ntmps95
  go_wp2_with fail
  refine (HS.out _).mono ?_;rintro r w1 ⟨rfl,hb1⟩;have hz1:=hb1.size;simp at hz1;obtain ⟨hc1,hf1⟩:=bcell hb1;have B1:=qsd hb1;clear hb1
  go_wp2_with fail
  refine (HM.out _).mono ?_;rintro r w2 ⟨rfl,hb2⟩;have hz2:=hb2.size;obtain ⟨hc2,hf2⟩:=bcell hb2;have hc3:∀ b o,b<w.heap.size+1+1→w2.cell? ⟨b,o,none⟩=w1.cell? ⟨b,o,none⟩:=fun b o h=>hc2 b o (by omega)
  have B2:=qsd hb2;clear hb2 hc2 hf2
  go_wp2_with fail
  refine (HN.out _).mono ?_;rintro r w3 ⟨rfl,rfl⟩;go_wp2
  go_ret2
  exact ⟨by first | rfl | simp,((((Below.refl _ w).alloc (Nat.le_refl _) _).alloc (by simp) _).trans (B1.out.mono (by simp;omega))).trans (B2.out.mono (by omega))⟩
 have way4:0<n→¬ (a=0)→b=0→0<u→¬ (0<d)→Calls Tryz.prog 95 #[.agg #[.int .i64 n,.int .i64 u,.int .i64 d,.int .i64 m,.int .i64 p,.int .i64 l],.agg #[.int .i64 a,.int .i64 b]] w fun r w'=>r=.returned (.tuple #[.float .f64 (vd true n u d a b).1,.bool (vd true n u d a b).2])∧Below w.heap.size w w':=by
  intro p1 p2 p3 p4 p5;have hv:vd true n u d a b=(9218868437227405312,true):=by unfold vd;rw [if_neg (by decide),if_neg (fun h=>p2 h.2),if_neg (not_not_intro p3),if_neg (fun h=>p5 h.2),if_pos p4]
  rw [hv];clear hv;have q1:0<n:=p1;have q2:(a==0)=false:=by rw [beq_eq_false_iff_ne];exact p2
  have q3:b=0:=p3;have q4:0<u:=p4;have q5:decide (0<d)=false:=decide_eq_false p5;subst q3;go_enter Tryz.func95,Tryz.ntmps95
  go_wp2_with fail
  refine (HS.out _).mono ?_;rintro r w1 ⟨rfl,hb1⟩;have hz1:=hb1.size;simp at hz1;obtain ⟨hc1,hf1⟩:=bcell hb1;have B1:=qsd hb1;clear hb1
  go_wp2_with fail
  refine (HM.out _).mono ?_;rintro r w2 ⟨rfl,hb2⟩;have hz2:=hb2.size;obtain ⟨hc2,hf2⟩:=bcell hb2;have hc3:∀ b o,b<w.heap.size+1+1→w2.cell? ⟨b,o,none⟩=w1.cell? ⟨b,o,none⟩:=fun b o h=>hc2 b o (by omega)
  have B2:=qsd hb2;clear hb2 hc2 hf2
  go_wp2_with fail
  refine (HU.out _).mono ?_;rintro r w3 ⟨rfl,rfl⟩;go_wp2
  go_ret2
  exact ⟨by first | rfl | simp,((((Below.refl _ w).alloc (Nat.le_refl _) _).alloc (by simp) _).trans (B1.out.mono (by simp;omega))).trans (B2.out.mono (by omega))⟩
 have way5:0<n→¬ (a=0)→b=0→¬ (0<u)→0<d→Calls Tryz.prog 95 #[.agg #[.int .i64 n,.int .i64 u,.int .i64 d,.int .i64 m,.int .i64 p,.int .i64 l],.agg #[.int .i64 a,.int .i64 b]] w fun r w'=>r=.returned (.tuple #[.float .f64 (vd true n u d a b).1,.bool (vd true n u d a b).2])∧Below w.heap.size w w':=by
  intro p1 p2 p3 p4 p5;have hv:vd true n u d a b=(18442240474082181120,true):=by unfold vd;rw [if_neg (by decide),if_neg (fun h=>p2 h.2),if_neg (not_not_intro p3),if_neg (fun h=>p4 h.1),if_neg p4,if_pos p5]
  rw [hv];clear hv;have q1:0<n:=p1;have q2:(a==0)=false:=by rw [beq_eq_false_iff_ne];exact p2
  have q3:b=0:=p3;have q4:decide (0<u)=false:=decide_eq_false p4;have q5:0<d:=p5;subst q3;go_enter Tryz.func95,Tryz.ntmps95
  go_wp2_with fail
  refine (HS.out _).mono ?_;rintro r w1 ⟨rfl,hb1⟩;have hz1:=hb1.size;simp at hz1;obtain ⟨hc1,hf1⟩:=bcell hb1;have B1:=qsd hb1;clear hb1
  go_wp2_with fail
  refine (HM.out _).mono ?_;rintro r w2 ⟨rfl,hb2⟩;have hz2:=hb2.size;obtain ⟨hc2,hf2⟩:=bcell hb2;have hc3:∀ b o,b<w.heap.size+1+1→w2.cell? ⟨b,o,none⟩=w1.cell? ⟨b,o,none⟩:=fun b o h=>hc2 b o (by omega)
  have B2:=qsd hb2;clear hb2 hc2 hf2
  go_wp2_with fail
  refine (HD.out _).mono ?_;rintro r w3 ⟨rfl,rfl⟩;go_wp2
  go_ret2
  exact ⟨by first | rfl | simp,((((Below.refl _ w).alloc (Nat.le_refl _) _).alloc (by simp) _).trans (B1.out.mono (by simp;omega))).trans (B2.out.mono (by omega))⟩
 have way6:0<n→¬ (a=0)→b=0→¬ (0<u)→¬ (0<d)→Calls Tryz.prog 95 #[.agg #[.int .i64 n,.int .i64 u,.int .i64 d,.int .i64 m,.int .i64 p,.int .i64 l],.agg #[.int .i64 a,.int .i64 b]] w fun r w'=>r=.returned (.tuple #[.float .f64 (vd true n u d a b).1,.bool (vd true n u d a b).2])∧Below w.heap.size w w':=by
  intro p1 p2 p3 p4 p5;have hv:vd true n u d a b=(0,false):=by unfold vd;rw [if_neg (by decide),if_neg (fun h=>p2 h.2),if_neg (not_not_intro p3),if_neg (fun h=>p4 h.1),if_neg p4,if_neg p5]
  rw [hv];clear hv;have q1:0<n:=p1;have q2:(a==0)=false:=by rw [beq_eq_false_iff_ne];exact p2
  have q3:b=0:=p3;have q4:decide (0<u)=false:=decide_eq_false p4;have q5:decide (0<d)=false:=decide_eq_false p5;subst q3;go_enter Tryz.func95,Tryz.ntmps95
  go_wp2_with fail
  refine (HS.out _).mono ?_;rintro r w1 ⟨rfl,hb1⟩;have hz1:=hb1.size;simp at hz1;obtain ⟨hc1,hf1⟩:=bcell hb1;have B1:=qsd hb1;clear hb1
  go_wp2_with fail
  refine (HM.out _).mono ?_;rintro r w2 ⟨rfl,hb2⟩;have hz2:=hb2.size;obtain ⟨hc2,hf2⟩:=bcell hb2;have hc3:∀ b o,b<w.heap.size+1+1→w2.cell? ⟨b,o,none⟩=w1.cell? ⟨b,o,none⟩:=fun b o h=>hc2 b o (by omega)
  have B2:=qsd hb2;clear hb2 hc2 hf2;go_wp2
  go_ret2
  exact ⟨by first | rfl | simp,((((Below.refl _ w).alloc (Nat.le_refl _) _).alloc (by simp) _).trans (B1.out.mono (by simp;omega))).trans (B2.out.mono (by omega))⟩
 have way7:¬ (0<n)→¬ (b=0)→Calls Tryz.prog 95 #[.agg #[.int .i64 n,.int .i64 u,.int .i64 d,.int .i64 m,.int .i64 p,.int .i64 l],.agg #[.int .i64 a,.int .i64 b]] w fun r w'=>r=.returned (.tuple #[.float .f64 (vd true n u d a b).1,.bool (vd true n u d a b).2])∧Below w.heap.size w w':=by
  intro p1 p3;have hv:vd true n u d a b=(0,false):=by unfold vd;rw [if_neg (by decide),if_neg (fun h=>p1 h.1),if_pos p3]
  rw [hv];clear hv;have q1:decide (0<n)=false:=decide_eq_false p1;have q3:(b==0)=false:=by rw [beq_eq_false_iff_ne];exact p3
  go_enter Tryz.func95,Tryz.ntmps95
  go_wp2_with fail
  refine (HS.out _).mono ?_;rintro r w1 ⟨rfl,hb1⟩;have hz1:=hb1.size;simp at hz1;obtain ⟨hc1,hf1⟩:=bcell hb1;have B1:=qsd hb1;clear hb1
  go_wp2_with fail
  refine (HM.out _).mono ?_;rintro r w2 ⟨rfl,hb2⟩;have hz2:=hb2.size;obtain ⟨hc2,hf2⟩:=bcell hb2;have hc3:∀ b o,b<w.heap.size+1+1→w2.cell? ⟨b,o,none⟩=w1.cell? ⟨b,o,none⟩:=fun b o h=>hc2 b o (by omega)
  have B2:=qsd hb2;clear hb2 hc2 hf2;go_wp2
  go_ret2
  exact ⟨by first | rfl | simp,((((Below.refl _ w).alloc (Nat.le_refl _) _).alloc (by simp) _).trans (B1.out.mono (by simp;omega))).trans (B2.out.mono (by omega))⟩
 have way8:¬ (0<n)→b=0→0<u→0<d→Calls Tryz.prog 95 #[.agg #[.int .i64 n,.int .i64 u,.int .i64 d,.int .i64 m,.int .i64 p,.int .i64 l],.agg #[.int .i64 a,.int .i64 b]] w fun r w'=>r=.returned (.tuple #[.float .f64 (vd true n u d a b).1,.bool (vd true n u d a b).2])∧Below w.heap.size w w':=by
  intro p1 p3 p4 p5;have hv:vd true n u d a b=(9221120237041090560,true):=by unfold vd;rw [if_neg (by decide),if_neg (fun h=>p1 h.1),if_neg (not_not_intro p3),if_pos ⟨p4,p5⟩]
  rw [hv];clear hv;have q1:decide (0<n)=false:=decide_eq_false p1;have q3:b=0:=p3;have q4:0<u:=p4;have q5:0<d:=p5;subst q3;go_enter Tryz.func95,Tryz.ntmps95
  go_wp2_with fail
  refine (HS.out _).mono ?_;rintro r w1 ⟨rfl,hb1⟩;have hz1:=hb1.size;simp at hz1;obtain ⟨hc1,hf1⟩:=bcell hb1;have B1:=qsd hb1;clear hb1
  go_wp2_with fail
  refine (HM.out _).mono ?_;rintro r w2 ⟨rfl,hb2⟩;have hz2:=hb2.size;obtain ⟨hc2,hf2⟩:=bcell hb2;have hc3:∀ b o,b<w.heap.size+1+1→w2.cell? ⟨b,o,none⟩=w1.cell? ⟨b,o,none⟩:=fun b o h=>hc2 b o (by omega)
  have B2:=qsd hb2;clear hb2 hc2 hf2
  go_wp2_with fail
  refine (HN.out _).mono ?_;rintro r w3 ⟨rfl,rfl⟩;go_wp2
  go_ret2
  exact ⟨by first | rfl | simp,((((Below.refl _ w).alloc (Nat.le_refl _) _).alloc (by simp) _).trans (B1.out.mono (by simp;omega))).trans (B2.out.mono (by omega))⟩
 have way9:¬ (0<n)→b=0→0<u→¬ (0<d)→Calls Tryz.prog 95 #[.agg #[.int .i64 n,.int .i64 u,.int .i64 d,.int .i64 m,.int .i64 p,.int .i64 l],.agg #[.int .i64 a,.int .i64 b]] w fun r w'=>r=.returned (.tuple #[.float .f64 (vd true n u d a b).1,.bool (vd true n u d a b).2])∧Below w.heap.size w w':=by
  intro p1 p3 p4 p5;have hv:vd true n u d a b=(9218868437227405312,true):=by unfold vd;rw [if_neg (by decide),if_neg (fun h=>p1 h.1),if_neg (not_not_intro p3),if_neg (fun h=>p5 h.2),if_pos p4]
  rw [hv];clear hv;have q1:decide (0<n)=false:=decide_eq_false p1;have q3:b=0:=p3;have q4:0<u:=p4;have q5:decide (0<d)=false:=decide_eq_false p5;subst q3;go_enter Tryz.func95,Tryz.ntmps95
  go_wp2_with fail
  refine (HS.out _).mono ?_;rintro r w1 ⟨rfl,hb1⟩;have hz1:=hb1.size;simp at hz1;obtain ⟨hc1,hf1⟩:=bcell hb1;have B1:=qsd hb1;clear hb1
  go_wp2_with fail
  refine (HM.out _).mono ?_;rintro r w2 ⟨rfl,hb2⟩;have hz2:=hb2.size;obtain ⟨hc2,hf2⟩:=bcell hb2;have hc3:∀ b o,b<w.heap.size+1+1→w2.cell? ⟨b,o,none⟩=w1.cell? ⟨b,o,none⟩:=fun b o h=>hc2 b o (by omega)
  have B2:=qsd hb2;clear hb2 hc2 hf2
  go_wp2_with fail
  refine (HU.out _).mono ?_;rintro r w3 ⟨rfl,rfl⟩;go_wp2
  go_ret2
  exact ⟨by first | rfl | simp,((((Below.refl _ w).alloc (Nat.le_refl _) _).alloc (by simp) _).trans (B1.out.mono (by simp;omega))).trans (B2.out.mono (by omega))⟩
 have way10:¬ (0<n)→b=0→¬ (0<u)→0<d→Calls Tryz.prog 95 #[.agg #[.int .i64 n,.int .i64 u,.int .i64 d,.int .i64 m,.int .i64 p,.int .i64 l],.agg #[.int .i64 a,.int .i64 b]] w fun r w'=>r=.returned (.tuple #[.float .f64 (vd true n u d a b).1,.bool (vd true n u d a b).2])∧Below w.heap.size w w':=by
  intro p1 p3 p4 p5;have hv:vd true n u d a b=(18442240474082181120,true):=by unfold vd;rw [if_neg (by decide),if_neg (fun h=>p1 h.1),if_neg (not_not_intro p3),if_neg (fun h=>p4 h.1),if_neg p4,if_pos p5]
  rw [hv];clear hv;have q1:decide (0<n)=false:=decide_eq_false p1;have q3:b=0:=p3;have q4:decide (0<u)=false:=decide_eq_false p4;have q5:0<d:=p5;subst q3;go_enter Tryz.func95,Tryz.ntmps95
  go_wp2_with fail
  refine (HS.out _).mono ?_;rintro r w1 ⟨rfl,hb1⟩;have hz1:=hb1.size;simp at hz1;obtain ⟨hc1,hf1⟩:=bcell hb1;have B1:=qsd hb1;clear hb1
  go_wp2_with fail
  refine (HM.out _).mono ?_;rintro r w2 ⟨rfl,hb2⟩;have hz2:=hb2.size;obtain ⟨hc2,hf2⟩:=bcell hb2;have hc3:∀ b o,b<w.heap.size+1+1→w2.cell? ⟨b,o,none⟩=w1.cell? ⟨b,o,none⟩:=fun b o h=>hc2 b o (by omega)
  have B2:=qsd hb2;clear hb2 hc2 hf2
  go_wp2_with fail
  refine (HD.out _).mono ?_;rintro r w3 ⟨rfl,rfl⟩;go_wp2
  go_ret2
  exact ⟨by first | rfl | simp,((((Below.refl _ w).alloc (Nat.le_refl _) _).alloc (by simp) _).trans (B1.out.mono (by simp;omega))).trans (B2.out.mono (by omega))⟩
 have way11:¬ (0<n)→b=0→¬ (0<u)→¬ (0<d)→Calls Tryz.prog 95 #[.agg #[.int .i64 n,.int .i64 u,.int .i64 d,.int .i64 m,.int .i64 p,.int .i64 l],.agg #[.int .i64 a,.int .i64 b]] w fun r w'=>r=.returned (.tuple #[.float .f64 (vd true n u d a b).1,.bool (vd true n u d a b).2])∧Below w.heap.size w w':=by
  intro p1 p3 p4 p5;have hv:vd true n u d a b=(0,false):=by unfold vd;rw [if_neg (by decide),if_neg (fun h=>p1 h.1),if_neg (not_not_intro p3),if_neg (fun h=>p4 h.1),if_neg p4,if_neg p5]
  rw [hv];clear hv;have q1:decide (0<n)=false:=decide_eq_false p1;have q3:b=0:=p3;have q4:decide (0<u)=false:=decide_eq_false p4;have q5:decide (0<d)=false:=decide_eq_false p5;subst q3;go_enter Tryz.func95,Tryz.ntmps95
  go_wp2_with fail
  refine (HS.out _).mono ?_;rintro r w1 ⟨rfl,hb1⟩;have hz1:=hb1.size;simp at hz1;obtain ⟨hc1,hf1⟩:=bcell hb1;have B1:=qsd hb1;clear hb1
  go_wp2_with fail
  refine (HM.out _).mono ?_;rintro r w2 ⟨rfl,hb2⟩;have hz2:=hb2.size;obtain ⟨hc2,hf2⟩:=bcell hb2;have hc3:∀ b o,b<w.heap.size+1+1→w2.cell? ⟨b,o,none⟩=w1.cell? ⟨b,o,none⟩:=fun b o h=>hc2 b o (by omega)
  have B2:=qsd hb2;clear hb2 hc2 hf2;go_wp2
  go_ret2
  exact ⟨by first | rfl | simp,((((Below.refl _ w).alloc (Nat.le_refl _) _).alloc (by simp) _).trans (B1.out.mono (by simp;omega))).trans (B2.out.mono (by omega))⟩
 by_cases p1:0<n
 · by_cases p2:a=0
   · exact way1 p1 p2
   · by_cases p3:b=0
     · by_cases p4:0<u <;> by_cases p5:0<d
       · exact way3 p1 p2 p3 p4 p5
       · exact way4 p1 p2 p3 p4 p5
       · exact way5 p1 p2 p3 p4 p5
       · exact way6 p1 p2 p3 p4 p5
     · exact way2 p1 p2 p3
 · by_cases p3:b=0
   · by_cases p4:0<u <;> by_cases p5:0<d
     · exact way8 p1 p3 p4 p5
     · exact way9 p1 p3 p4 p5
     · exact way10 p1 p3 p4 p5
     · exact way11 p1 p3 p4 p5
   · exact way7 p1 p3
open Go.RowKit
open Go.Proofs.YthfkleadcnkglaaGreatDoor.B (f64bits f64frombits bw bcell)
attribute [local go_sem] f64bits f64frombits
theorem rNought_any (n u d m p l mode:Int) (w:World):Calls Tryz.prog 96 #[.agg #[.int .i64 n,.int .i64 u,.int .i64 d,.int .i64 m,.int .i64 p,.int .i64 l],.int .i64 mode] w fun r w'=>r=.returned (.float .f64 (nt (snd n u d m p l) n u d m p l mode))∧Below w.heap.size w w':=by
 have HS:=hid (MayBe_any n u d m p l);have HM:=hid (minus_any);have HT:=hid (Zero_any true);have HF:=hid (Zero_any false)
 rcases hs:snd n u d m p l with _|_
 · rw [hs] at HS
   have hv:nt false n u d m p l mode=0:=if_pos rfl;rw [hv];clear hs hv;go_enter Tryz.func96,Tryz.ntmps96
   go_wp2_with fail
   refine (HS.out _).mono ?_;rintro r w1 ⟨rfl,hb1⟩;have hz1:=hb1.size;simp at hz1;obtain ⟨hc1,hf1⟩:=bcell hb1;have B1:=qsd hb1;clear hb1
   go_wp2_with fail
   refine (HF.out _).mono ?_;rintro r w3 ⟨rfl,rfl⟩;go_wp2;go_ret;exact ⟨by first | rfl | simp,((Below.refl _ w).alloc (Nat.le_refl _) _).trans (B1.out.mono (by simp))⟩
 have bd:=snd_bd hs;rw [hs] at HS;obtain ⟨f,hf⟩:∃ f,l-n-u-d=f:=⟨_,rfl⟩;have hfb:-9223372036854775808≤f∧f≤9223372036854775807:=by omega
 have hb1:0≤n∧n≤1099511627776:=bd.1;have hb2:0≤u∧u≤1099511627776:=bd.2.1;have hb3:0≤d∧d≤1099511627776:=bd.2.2.1;have hb4:0≤l∧l≤1099511627776:=bd.2.2.2;unfold nt;rw [if_neg (by decide),hf]
 clear hs bd
 by_cases p1:f=0
 · rw [if_pos p1]
   have q1:(f==0)=true:=by rw [beq_iff_eq];exact p1
   clear p1;go_enter Tryz.func96,Tryz.ntmps96
   go_wp2_with fail
   refine (HS.out _).mono ?_;rintro r w1 ⟨rfl,hb1⟩;have hz1:=hb1.size;simp at hz1;obtain ⟨hc1,hf1⟩:=bcell hb1;have B1:=qsd hb1;clear hb1
   go_wp2_with fail
   refine (HF.out _).mono ?_;rintro r w3 ⟨rfl,rfl⟩;go_wp2;go_ret;exact ⟨by first | rfl | simp,((Below.refl _ w).alloc (Nat.le_refl _) _).trans (B1.out.mono (by simp))⟩
 rw [if_neg p1];have q1:(f==0)=false:=by rw [beq_eq_false_iff_ne];exact p1
 clear p1
 by_cases p2:m=f
 · rw [if_pos p2]
   have q2:(m==f)=true:=by rw [beq_iff_eq];exact p2
   clear p2;go_enter Tryz.func96,Tryz.ntmps96
   go_wp2_with fail
   refine (HS.out _).mono ?_;rintro r w1 ⟨rfl,hb1⟩;have hz1:=hb1.size;simp at hz1;obtain ⟨hc1,hf1⟩:=bcell hb1;have B1:=qsd hb1;clear hb1
   go_wp2_with fail
   refine (HT.out _).mono ?_;rintro r w3 ⟨rfl,rfl⟩;go_wp2;go_ret;exact ⟨by first | rfl | simp,((Below.refl _ w).alloc (Nat.le_refl _) _).trans (B1.out.mono (by simp))⟩
 rw [if_neg p2];have q2:(m==f)=false:=by rw [beq_eq_false_iff_ne];exact p2
 clear p2
 by_cases p3:p=f
 · rw [if_pos p3]
   have q3:(p==f)=true:=by rw [beq_iff_eq];exact p3
   clear p3;go_enter Tryz.func96,Tryz.ntmps96
   go_wp2_with fail
   refine (HS.out _).mono ?_;rintro r w1 ⟨rfl,hb1⟩;have hz1:=hb1.size;simp at hz1;obtain ⟨hc1,hf1⟩:=bcell hb1;have B1:=qsd hb1;clear hb1
   go_wp2_with fail
   refine (HF.out _).mono ?_;rintro r w3 ⟨rfl,rfl⟩;go_wp2;go_ret;exact ⟨by first | rfl | simp,((Below.refl _ w).alloc (Nat.le_refl _) _).trans (B1.out.mono (by simp))⟩
 rw [if_neg p3];have q3:(p==f)=false:=by rw [beq_eq_false_iff_ne];exact p3
 clear p3
 by_cases p4:mode=3
 · rw [if_pos p4]
   subst p4;go_enter Tryz.func96,Tryz.ntmps96
   go_wp2_with fail
   refine (HS.out _).mono ?_;rintro r w1 ⟨rfl,hb1⟩;have hz1:=hb1.size;simp at hz1;obtain ⟨hc1,hf1⟩:=bcell hb1;have B1:=qsd hb1;clear hb1
   go_wp2_with fail
   refine (HT.out _).mono ?_;rintro r w3 ⟨rfl,rfl⟩;go_wp2;go_ret;exact ⟨by first | rfl | simp,((Below.refl _ w).alloc (Nat.le_refl _) _).trans (B1.out.mono (by simp))⟩
 · rw [if_neg p4]
   have q4:(mode==3)=false:=by rw [beq_eq_false_iff_ne];exact p4
   clear p4;go_enter Tryz.func96,Tryz.ntmps96
   go_wp2_with fail
   refine (HS.out _).mono ?_;rintro r w1 ⟨rfl,hb1⟩;have hz1:=hb1.size;simp at hz1;obtain ⟨hc1,hf1⟩:=bcell hb1;have B1:=qsd hb1;clear hb1
   go_wp2_with fail
   refine (HF.out _).mono ?_;rintro r w3 ⟨rfl,rfl⟩;go_wp2;go_ret;exact ⟨by first | rfl | simp,((Below.refl _ w).alloc (Nat.le_refl _) _).trans (B1.out.mono (by simp))⟩
end
section
open Go.RowKit J
attribute [local go_sem] st_float
def rfz (n u d a b:Int):Int:=if 0<n∧a=2 then 60 else if 0<u+d∧b=2 then 61 else 0
theorem rRefused12 (n u d m p l a b:Int) (w:World) (hu:0≤u∧u≤1099511627776) (hd:0≤d∧d≤1099511627776) :
 Calls Tryz.prog 136 #[.agg #[.int .i64 n,.int .i64 u,.int .i64 d,.int .i64 m,.int .i64 p,.int .i64 l],.agg #[.int .i64 a,.int .i64 b]] w fun r w'=>r=.returned (.int .i64 (rfz n u d a b))∧Below w.heap.size w w':=by
 have hne:w.heap.size≠w.heap.size+1:=by omega
 have bb:=qsd ((bel_alloc w (Obj.cells #[.int .i64 n,.int .i64 u,.int .i64 d,.int .i64 m,.int .i64 p,.int .i64 l] 42)).trans ((bel_alloc (w.alloc (Obj.cells #[.int .i64 n,.int .i64 u,.int .i64 d,.int .i64 m,.int .i64 p,.int .i64 l] 42)) (Obj.cells #[.int .i64 a,.int .i64 b] 24)).mono (by simp)))
 obtain ⟨x1,h1⟩:∃ x,decide (0<n)=x:=⟨_,rfl⟩;obtain ⟨x2,h2⟩:∃ x,(a==2)=x:=⟨_,rfl⟩;obtain ⟨x3,h3⟩:∃ x,decide (0<u+d)=x:=⟨_,rfl⟩;obtain ⟨x4,h4⟩:∃ x,(b==2)=x:=⟨_,rfl⟩
 have key:rfz n u d a b=if x1&&x2 then 60 else if x3&&x4 then 61 else 0:=by
  unfold rfz;rw [←h1,←h2,←h3,←h4];simp
 rw [key];clear key
 cases x1
 · cases x3
   · go_enter Tryz.func136,Tryz.ntmps136
     go_wp2;go_ret;exact ⟨by first | rfl | simp,bb.out⟩
   · cases x4
     · go_enter Tryz.func136,Tryz.ntmps136
       go_wp2;go_ret;exact ⟨by first | rfl | simp,bb.out⟩
     · go_enter Tryz.func136,Tryz.ntmps136
       go_wp2;go_ret;exact ⟨by first | rfl | simp,bb.out⟩
 · cases x2
   · cases x3
     · go_enter Tryz.func136,Tryz.ntmps136
       go_wp2;go_ret;exact ⟨by first | rfl | simp,bb.out⟩
     · cases x4
       · go_enter Tryz.func136,Tryz.ntmps136
         go_wp2;go_ret;exact ⟨by first | rfl | simp,bb.out⟩
       · go_enter Tryz.func136,Tryz.ntmps136
         go_wp2;go_ret;exact ⟨by first | rfl | simp,bb.out⟩
   · go_enter Tryz.func136,Tryz.ntmps136
     go_wp2;go_ret;exact ⟨by first | rfl | simp,bb.out⟩
set_option maxRecDepth 100000 in
theorem rrefused12 (g:Nat) (o:Option (Bool×Nat×Int)) (n u d m p l a b mode:Int) (w:World) (hA:La w g o ⟨n,u,d,m,p,l⟩) (hu:0≤u∧u≤1099511627776) (hd:0≤d∧d≤1099511627776) (hm0:0≤mode) (hm1:mode≤4) (hab:may a b=true) :
 Calls Tryz.prog 94 #[.pointer (some ⟨g,0,none⟩),.int .i64 mode,.agg #[.int .i64 a,.int .i64 b]] w fun r w'=>r=.returned (.int .i64 (rfz n u d a b))∧Below w.heap.size w w':=by
 have HM:=hid (fun u:World=>rMay_any a b u)
 rw [hab] at HM;have HR:=hid (fun w':World=>rRefused12 n u d m p l a b w' hu hd)
 have h1:decide (mode<0)=false:=decide_eq_false (by omega)
 have h2:decide (4<mode)=false:=decide_eq_false (by omega)
 obtain ⟨W,hW⟩:∃ W,W=w.alloc (Obj.cells #[.int .i64 a,.int .i64 b] 24):=⟨_,rfl⟩;obtain ⟨g5,hg5⟩:∃ x,x=w.heap.size:=⟨_,rfl⟩
 have K0:Aside (La W g o ⟨n,u,d,m,p,l⟩∧Bl W g5 24 [.int .i64 a,.int .i64 b]∧Below w.heap.size w W):=by
  rw [hW,hg5];exact ⟨hA.below (below_alloc _ _),Bl.new w 24 [_,_],below_alloc _ _⟩
 have HW:=qsd hW;have HG:=qsd hg5;clear hW hg5 hA hab hm0 hm1 hu hd;obtain ⟨ez,hez⟩:∃ e,e=rfz n u d a b:=⟨_,rfl⟩;rw [←hez] at HR ⊢;clear hez;go_enter Tryz.func94,Tryz.ntmps94
 go_upto_region 1 with fail
 rw [←HW.out,←HG.out];clear HW HG;have p0:=K0.out.2.1.cell 0 _ rfl;have p1:=K0.out.2.1.cell 1 _ rfl
 go_wp2_with fail
 refine (HM.out W).mono ?_;rintro r u1 ⟨rfl,hb⟩;have K1:Aside (La u1 g o ⟨n,u,d,m,p,l⟩∧Bl u1 g5 24 [.int .i64 a,.int .i64 b]∧Below w.heap.size w u1):=⟨K0.out.1.below hb,K0.out.2.1.below hb K0.out.2.1.lt,K0.out.2.2.trans (hb.mono K0.out.2.2.size)⟩;clear hb K0 HM p0 p1
 go_upto_region 4 with fail
 have hdr:=(Below.refl u1.heap.size u1).drew;have BD:Aside (La u1.drew g o ⟨n,u,d,m,p,l⟩∧Bl u1.drew g5 24 [.int .i64 a,.int .i64 b]∧Below w.heap.size w u1.drew):=⟨K1.out.1.below hdr,K1.out.2.1.below hdr K1.out.2.1.lt,K1.out.2.2.trans (hdr.mono K1.out.2.2.size)⟩;clear hdr K1;obtain ⟨aV,cV,BV,NV⟩:=BD.out.1;unfold laC at BV;have kS:=qsd (ai BV.facts9.2 (ai (BD.out.2.1.cell 0 _ rfl) (BD.out.2.1.cell 1 _ rfl)));clear BV NV
 go_region_held3 (fun w'=>(w'.cell? ⟨g,3,none⟩=some (.int .i64 n)∧w'.cell? ⟨g,4,none⟩=some (.int .i64 u)∧w'.cell? ⟨g,5,none⟩=some (.int .i64 d)∧w'.cell? ⟨g,6,none⟩=some (.int .i64 m)∧w'.cell? ⟨g,7,none⟩=some (.int .i64 p)∧w'.cell? ⟨g,8,none⟩=some (.int .i64 l))∧w'.cell? ⟨g5,0,none⟩=some (.int .i64 a)∧w'.cell? ⟨g5,1,none⟩=some (.int .i64 b)) (with_reducible exact kS.out) (
  (go_at_call 136
   with_reducible refine (HR.out _).mono ?_
   rintro r v ⟨rfl,hb⟩;have BD:Aside (La v g o ⟨n,u,d,m,p,l⟩∧Bl v g5 24 [.int .i64 a,.int .i64 b]∧Below w.heap.size w v):=⟨BD.out.1.below hb,BD.out.2.1.below hb BD.out.2.1.lt,BD.out.2.2.trans (hb.mono BD.out.2.2.size)⟩;obtain ⟨aV,cV,BV,NV⟩:=BD.out.1;unfold laC at BV;have kS:=qsd (ai BV.facts9.2 (ai (BD.out.2.1.cell 0 _ rfl) (BD.out.2.1.cell 1 _ rfl)));clear hb BV NV))
 go_wp2;go_ret;exact ⟨rfl,BD.out.2.2⟩
end
section
open Go.RowKit J
attribute [local go_sem] st_float
theorem rd_ref {V:Int}{n u d m p l mode a b:Int}(h:rfz n u d a b≠0):rd10 V ⟨n,u,d,m,p,l⟩ mode a b=(0,rfz n u d a b):=by
 unfold rd10;unfold rfz at h ⊢;simp only
 by_cases h1:0<n∧a=2
 · rw [if_pos h1,if_pos h1]
 · rw [if_neg h1] at h ⊢
   rw [if_neg h1]
   by_cases h2:0<u+d∧b=2
   · rw [if_pos h2,if_pos h2]
   · rw [if_neg h2] at h
     exact absurd rfl h
theorem rd_go {V:Int}{n u d m p l mode a b:Int}(h:rfz n u d a b=0):rd10 V ⟨n,u,d,m,p,l⟩ mode a b=rd7 V ⟨n,u,d,m,p,l⟩ mode a b:=by
 unfold rd10;unfold rfz at h;simp only
 by_cases h1:0<n∧a=2
 · rw [if_pos h1] at h;omega
 · rw [if_neg h1] at h
   rw [if_neg h1]
   by_cases h2:0<u+d∧b=2
   · rw [if_pos h2] at h;omega
   · rw [if_neg h2]
theorem ex_none {V:Int}(j:Nat) (hj:j≤90000) (hV:V.natAbs<2^j):((((ws (dX (exV V))).length:Nat):Int)==0)=decide (V=0):=by
 have F:=ex_fm V j (by omega) hV
 by_cases h:V=0
 · subst h
   rw [ex_zero,len00];rfl
 · rw [decide_eq_false h]
   obtain ⟨n,X,e,ho,F',hx⟩:=ex_iv V j (by omega) hV
   have hX:X≠0:=by
    rintro rfl
    rcases F'.odd with q|⟨_,q1,q2⟩
    · omega
    · rw [q1,q2] at ho
      have e1:=val_ex F;rw [ho,show valO (some (false,0,0))=0 from valO_00] at e1
      rcases Int.mul_eq_zero.1 e1.symm with r|r
      · exact h r
      · have:=X_pos;omega
   have hl:¬ (ws X).length≤0:=fun q=>by
    have:=(ws_len_le X 0).1 q;rw [show pw 0=1 from rfl] at this
    omega
   rw [ho]
   show ((((ws X).length:Nat):Int)==0)=false
   have h3:¬ (((ws X).length:Nat):Int)=0:=by omega
   exact beq_eq_false_iff_ne.2 h3
set_option maxRecDepth 100000 in
theorem rRound7 (g:Nat) (V:Int) (n u d m p l a b mode:Int) (w:World) (hA:La w g (exV V) ⟨n,u,d,m,p,l⟩) (j:Nat) (hj:j≤90000) (hV:V.natAbs<2^j) (hu:0≤u∧u≤1099511627776) (hd:0≤d∧d≤1099511627776) (hm0:0≤mode) (hm1:mode≤4) (hab:may a b=true) :
 Calls Tryz.prog 44 #[.pointer (some ⟨g,0,none⟩),.int .i64 mode,.agg #[.int .i64 a,.int .i64 b]] w fun r w'=>r=.returned (.tuple #[.float .f64 (rd10 V ⟨n,u,d,m,p,l⟩ mode a b).1,.int .i64 (rd10 V ⟨n,u,d,m,p,l⟩ mode a b).2])∧Below w.heap.size w w':=by
 obtain ⟨⟨RX,RE⟩,hR⟩:∃ z,z=rd10 V ⟨n,u,d,m,p,l⟩ mode a b:=⟨_,rfl⟩;rw [←hR];simp only;have HF:Hid (∀ u':World,La u' g (exV V) ⟨n,u,d,m,p,l⟩→Calls Tryz.prog 94 #[.pointer (some ⟨g,0,none⟩),.int .i64 mode,.agg #[.int .i64 a,.int .i64 b]] u' fun r w'=>r=.returned (.int .i64 (rfz n u d a b))∧Below u'.heap.size u' w'):=fun u' h=>rrefused12 g (exV V) n u d m p l a b mode u' h hu hd hm0 hm1 hab
 have HV:=hid (fun w':World=>rVerdict_any n u d m p l a b w')
 have HN:=hid (fun w':World=>rNought_any n u d m p l mode w')
 have FV:=qsd (ex_fm V j (by omega) hV)
 have EL:=ex_none j hj hV;have HO:=hid (fun w':World=>rOf10z w')
 obtain ⟨⟨VX,VB⟩,hVD⟩:∃ z,z=vd (snd n u d m p l&&may a b) n u d a b:=⟨_,rfl⟩;rw [←hVD] at HV;simp only at HV;obtain ⟨NX,hNX⟩:∃ z,z=nt (snd n u d m p l) n u d m p l mode:=⟨_,rfl⟩;rw [←hNX] at HN;have C1:Aside (rfz n u d a b≠0→(RX,RE)=(0,rfz n u d a b)):=fun h=>by rw [hR];exact rd_ref h
 have C2:Aside (rfz n u d a b=0→VB=true→(RX,RE)=(VX,0)):=fun h hv=>by
  rw [hR,rd_go h];unfold rd7 ahd;simp only;rw [←hVD];simp only;rw [if_pos hv];rfl
 have C3:Aside (rfz n u d a b=0→VB=false→V=0→(RX,RE)=(NX,0)):=fun h hv h0=>by
  rw [hR,rd_go h];unfold rd7 ahd;simp only;rw [←hVD,←hNX];simp only;rw [hv];simp only [Bool.false_eq_true,if_false,if_pos h0,if_true]
 have C4:Aside (rfz n u d a b=0→VB=false→V≠0→rndS (exV V) mode=(RX,RE)):=fun h hv h0=>by
  rw [hR,rd_go h];unfold rd7 ahd;simp only;rw [←hVD];simp only;rw [hv];simp only [Bool.false_eq_true,if_false,if_neg h0];rw [FV.out.re]
 obtain ⟨ez,hez⟩:∃ e,e=rfz n u d a b:=⟨_,rfl⟩;rw [←hez] at HF C1 C2 C3 C4;obtain ⟨ov,hov⟩:∃ o,o=exV V:=⟨_,rfl⟩;rw [←hov] at hA HF FV EL C4;obtain ⟨W,hW⟩:∃ W,W=w.alloc (Obj.cells #[.int .i64 a,.int .i64 b] 24):=⟨_,rfl⟩;obtain ⟨g5,hg5⟩:∃ x,x=w.heap.size:=⟨_,rfl⟩
 have K0:Aside (La W g ov ⟨n,u,d,m,p,l⟩∧Bl W g5 24 [.int .i64 a,.int .i64 b]∧Below w.heap.size w W):=by
  rw [hW,hg5];exact ⟨hA.below (below_alloc _ _),Bl.new w 24 [_,_],below_alloc _ _⟩
 have HW:=qsd hW;have HG:=qsd hg5;clear hW hg5 hA hab hm0 hm1 hu hd hV hj hR hVD hNX hez hov;go_enter Tryz.func44,Tryz.ntmps44
 go_upto_region 1 with fail
 rw [←HW.out,←HG.out];clear HW HG;have p0:=K0.out.2.1.cell 0 _ rfl;have p1:=K0.out.2.1.cell 1 _ rfl
 go_wp2_with fail
 refine (HF.out W K0.out.1).mono ?_;rintro r u1 ⟨rfl,hb⟩;have K1:Aside (La u1 g ov ⟨n,u,d,m,p,l⟩∧Bl u1 g5 24 [.int .i64 a,.int .i64 b]∧Below w.heap.size w u1):=⟨K0.out.1.below hb,K0.out.2.1.below hb K0.out.2.1.lt,K0.out.2.2.trans (hb.mono K0.out.2.2.size)⟩;clear hb K0 HF p0 p1
 by_cases hz:ez=0
 rotate_left
 · have hz':(ez != 0)=true:=by simpa using hz
   obtain ⟨e1,e2⟩:=Prod.mk.inj (C1.out hz);have EE:=qsd (ai e1 e2);clear e1 e2 hz C1 C2 C3 C4
   go_wp2_with fail
   refine (HO.out _).mono ?_;rintro r u2 ⟨rfl,hu⟩;have hu':=hu.symm;clear hu;subst hu';go_wp2;exact bodyPost_ret (v:=.tuple #[.float .f64 0,.int .i64 ez]) (by simp [results,Tryz.results44,go_sem]) rfl ⟨by rw [EE.out.1,EE.out.2],K1.out.2.2⟩
 subst hz;clear C1
 go_upto_region 4 with fail
 have hdr:=(Below.refl u1.heap.size u1).drew;have BD:Aside (La u1.drew g ov ⟨n,u,d,m,p,l⟩∧Bl u1.drew g5 24 [.int .i64 a,.int .i64 b]∧Below w.heap.size w u1.drew):=⟨K1.out.1.below hdr,K1.out.2.1.below hdr K1.out.2.1.lt,K1.out.2.2.trans (hdr.mono K1.out.2.2.size)⟩;clear hdr K1;obtain ⟨aV,cV,BV,NV⟩:=BD.out.1;unfold laC at BV;have kS:=qsd (ai BV.facts9.2 (ai (BD.out.2.1.cell 0 _ rfl) (BD.out.2.1.cell 1 _ rfl)));clear BV NV
 go_region_held3 (fun w'=>(w'.cell? ⟨g,3,none⟩=some (.int .i64 n)∧w'.cell? ⟨g,4,none⟩=some (.int .i64 u)∧w'.cell? ⟨g,5,none⟩=some (.int .i64 d)∧w'.cell? ⟨g,6,none⟩=some (.int .i64 m)∧w'.cell? ⟨g,7,none⟩=some (.int .i64 p)∧w'.cell? ⟨g,8,none⟩=some (.int .i64 l))∧w'.cell? ⟨g5,0,none⟩=some (.int .i64 a)∧w'.cell? ⟨g5,1,none⟩=some (.int .i64 b)) (with_reducible exact kS.out) (
  (go_at_call 95
   with_reducible refine (HV.out _).mono ?_
   rintro r v ⟨rfl,hb⟩;have BD:Aside (La v g ov ⟨n,u,d,m,p,l⟩∧Bl v g5 24 [.int .i64 a,.int .i64 b]∧Below w.heap.size w v):=⟨BD.out.1.below hb,BD.out.2.1.below hb BD.out.2.1.lt,BD.out.2.2.trans (hb.mono BD.out.2.2.size)⟩;obtain ⟨aV,cV,BV,NV⟩:=BD.out.1;unfold laC at BV;have kS:=qsd (ai BV.facts9.2 (ai (BD.out.2.1.cell 0 _ rfl) (BD.out.2.1.cell 1 _ rfl)));clear hb BV NV))
 clear kS HV
 cases VB
 rotate_left
 · obtain ⟨e1,e2⟩:=Prod.mk.inj (C2.out (by trivial) (by trivial))
   have EE:=qsd (ai e1 e2);clear e1 e2 C2 C3 C4;go_wp2;exact bodyPost_ret (v:=.tuple #[.float .f64 VX,.int .i64 0]) (by simp [results,Tryz.results44,go_sem]) rfl ⟨by rw [EE.out.1,EE.out.2],BD.out.2.2⟩
 clear C2;obtain ⟨aV,cV,BV,NV⟩:=BD.out.1;unfold laC at BV;obtain ⟨⟨v0,v1,v2⟩,v3,v4,v5,v6,v7,v8⟩:=BV.facts9
 by_cases h0:V=0
 · have el:((((ws (dX ov)).length:Nat):Int)==0)=true:=by rw [EL,decide_eq_true h0]
   obtain ⟨e1,e2⟩:=Prod.mk.inj (C3.out (by trivial) (by trivial) h0)
   have EE:=qsd (ai e1 e2);clear e1 e2 C3 C4 EL h0 BV NV
   go_wp2_with fail
   refine (HN.out _).mono ?_;rintro r u2 ⟨rfl,hb⟩;have B:=qsd (BD.out.2.2.trans (hb.mono BD.out.2.2.size));clear hb;go_wp2;exact bodyPost_ret (v:=.tuple #[.float .f64 NX,.int .i64 0]) (by simp [results,Tryz.results44,go_sem]) rfl ⟨by rw [EE.out.1,EE.out.2],B.out⟩
 · have el:((((ws (dX ov)).length:Nat):Int)==0)=false:=by rw [EL,decide_eq_false h0]
   have HR:=hid (rround12 FV.out NV mode (RX,RE) (C4.out (by trivial) (by trivial) h0))
   simp only at HR;clear C3 C4 EL h0 BV NV
   go_wp2_with fail
   refine HR.out.mono ?_;rintro r u2 ⟨rfl,hb⟩;have B:=qsd (BD.out.2.2.trans (hb.mono BD.out.2.2.size));clear hb;go_wp2;exact bodyPost_ret (v:=.tuple #[.float .f64 RX,.int .i64 RE]) (by simp [results,Tryz.results44,go_sem]) rfl ⟨rfl,B.out⟩
end
section
open Go.RowKit J
attribute [local go_sem] st_float
theorem dI_lenk (xs ys:List Nat) (k:Nat):(dI (xs.take k) (ys.take k)).length≤k:=by
 unfold dI;rw [List.length_zipWith,List.length_take];omega
theorem dI_ipp:∀ {xs ys:List Nat},W64 xs→W64 ys→∀ p ∈ dI xs ys,Ip p
 | [],_,_,_,p,hp=>by simp [dI] at hp
 | _::_,[],_,_,p,hp=>by simp [dI] at hp
 | x::xs,y::ys,h1,h2,p,hp=>by
   unfold dI at hp;rw [List.zipWith_cons_cons,List.mem_cons] at hp
   rcases hp with rfl|hp
   · exact ip_prod (h1 x List.mem_cons_self) (h2 y List.mem_cons_self)
   · exact dI_ipp (fun z hz=>h1 z (List.mem_cons_of_mem _ hz)) (fun z hz=>h2 z (List.mem_cons_of_mem _ hz)) p hp
theorem bd12 {V:Int}(n:Nat) (hn:n≤65536) (h:-((n*QB:Nat):Int)≤V∧V≤((n*QB:Nat):Int)) (j:Nat) (hj:j=4238):V.natAbs<2^j:=by
 rw [←HB_two j hj,QB_HB];have h3:n*QB≤65536*QB:=Nat.mul_le_mul_right _ hn;have h5:=QB_pos;omega
theorem dI_bd {xs ys:List Nat}(h1:W64 xs) (h2:W64 ys) (k:Nat) (hk:k≤65536) (j:Nat) (hj:j=4238):(vI (dI (xs.take k) (ys.take k))).natAbs<2^j :=
 bd12 _ (Nat.le_trans (dI_lenk xs ys k) hk) (vI_bd _ (dI_ipp (fun z hz=>h1 z (List.mem_of_mem_take hz)) (fun z hz=>h2 z (List.mem_of_mem_take hz)))) j hj
theorem dI_sp {xs ys:List Nat}(h1:W64 xs) (h2:W64 ys) (k:Nat) (hk:k≤65536):(sI (dI (xs.take k) (ys.take k))).pos∧(sI (dI (xs.take k) (ys.take k))).a≤65536:=by
 obtain ⟨p,q⟩:=sI_pos _ (dI_ipp (xs:=xs.take k) (ys:=ys.take k) (fun z hz=>h1 z (List.mem_of_mem_take hz)) (fun z hz=>h2 z (List.mem_of_mem_take hz)))
 have:=dI_lenk xs ys k;exact ⟨p,by omega⟩
set_option maxRecDepth 100000 in
theorem rDot12 (xs ys:List Nat) (a:Option Addr) (n c:Nat) (a':Option Addr) (n' c':Nat) (mode pa pb:Int) (w:World) (hn:n=xs.length) (hn':n'=ys.length) (hF:Fs w.heap.size w a xs) (hF':Fs w.heap.size w a' ys) (hW:W64 xs) (hW':W64 ys) (hm:n≤17592186043904) :
 Calls Tryz.prog 13 #[.slice a n c,.slice a' n' c',.int .i64 mode,.agg #[.int .i64 pa,.int .i64 pb]] w fun r w'=>r=.returned (.tuple #[.float .f64 (dotR xs ys mode pa pb).1,.int .i64 (dotR xs ys mode pa pb).2])∧Below w.heap.size w w':=by
 have HI:=hid (fun u:World=>rMay12 mode u)
 have HM:=hid (fun u:World=>rMay_any pa pb u)
 obtain ⟨W,hWW⟩:∃ W,W=w.alloc (Obj.cells #[.int .i64 pa,.int .i64 pb] 24):=⟨_,rfl⟩;obtain ⟨g7,hg7⟩:∃ x,x=w.heap.size:=⟨_,rfl⟩
 have K0:Aside (Bl W g7 24 [.int .i64 pa,.int .i64 pb]∧Below w.heap.size w W):=by
  rw [hWW,hg7];exact ⟨Bl.new w 24 [_,_],below_alloc _ _⟩
 have HW:=qsd hWW;have HG:=qsd hg7;clear hWW hg7;have p0:=K0.out.1.cell 0 _ rfl;have p1:=K0.out.1.cell 1 _ rfl
 by_cases hmd:md mode=false
 · rw [hmd] at HI
   have hr:rf12 mode xs.length ys.length=1:=by unfold rf12;rw [if_pos hmd]
   have e:dotR xs ys mode pa pb=(0,1):=by unfold dotR;split;rfl;rw [hr];rfl
   rw [e];clear hmd hr e hn hn' hF hF' hW hW' hm;go_enter Tryz.func13,Tryz.ntmps13
   go_upto_region 1 with fail
   rw [←HW.out,←HG.out];clear HW HG
   go_wp2_with fail
   refine (HI.out _).mono ?_;rintro r w1 ⟨rfl,hu⟩;have hu':=hu.symm;clear hu HI;subst hu'
   go_wp2_with fail
   refine (HM.out _).mono ?_;rintro r w1 ⟨rfl,hb⟩;have K1:Aside (Bl w1 g7 24 [.int .i64 pa,.int .i64 pb]∧Below w.heap.size w w1):=⟨K0.out.1.below hb K0.out.1.lt,K0.out.2.trans (hb.mono K0.out.2.size)⟩;clear hb HM K0 p0 p1;go_wp2;exact bodyPost_ret (v:=.tuple #[.float .f64 0,.int .i64 1]) (by simp [results,Tryz.results13,go_sem]) rfl ⟨rfl,K1.out.2⟩
 have hmt:md mode=true:=by simpa using hmd
 rw [hmt] at HI
 by_cases hmy:may pa pb=false
 · rw [hmy] at HM
   have e:dotR xs ys mode pa pb=(0,1):=by unfold dotR;rw [if_pos hmy]
   rw [e];clear hmd hmt e hmy hn hn' hF hF' hW hW' hm;go_enter Tryz.func13,Tryz.ntmps13
   go_upto_region 1 with fail
   rw [←HW.out,←HG.out];clear HW HG
   go_wp2_with fail
   refine (HI.out _).mono ?_;rintro r w1 ⟨rfl,hu⟩;have hu':=hu.symm;clear hu HI;subst hu'
   go_wp2_with fail
   refine (HM.out _).mono ?_;rintro r w1 ⟨rfl,hb⟩;have K1:Aside (Bl w1 g7 24 [.int .i64 pa,.int .i64 pb]∧Below w.heap.size w w1):=⟨K0.out.1.below hb K0.out.1.lt,K0.out.2.trans (hb.mono K0.out.2.size)⟩;clear hb HM K0 p0 p1;go_wp2;exact bodyPost_ret (v:=.tuple #[.float .f64 0,.int .i64 1]) (by simp [results,Tryz.results13,go_sem]) rfl ⟨rfl,K1.out.2⟩
 have hmyt:may pa pb=true:=by simpa using hmy
 rw [hmyt] at HM
 by_cases hl:65536<xs.length∨65536<ys.length
 · have hr:rf12 mode xs.length ys.length=2:=by unfold rf12;rw [if_neg hmd,if_pos hl]
   have e:dotR xs ys mode pa pb=(0,2):=by unfold dotR;rw [if_neg hmy,hr];rfl
   rw [e];clear hmd hmt hmy hmyt hr e
   by_cases hl1:65536<xs.length
   · have hd:decide ((65536:Int)<(n:Int))=true:=by simp;omega
     clear hn hn' hF hF' hW hW' hm hl hl1;go_enter Tryz.func13,Tryz.ntmps13
     go_upto_region 1 with fail
     rw [←HW.out,←HG.out];clear HW HG
     go_wp2_with fail
     refine (HI.out _).mono ?_;rintro r w1 ⟨rfl,hu⟩;have hu':=hu.symm;clear hu HI;subst hu'
     go_wp2_with fail
     refine (HM.out _).mono ?_;rintro r w1 ⟨rfl,hb⟩;have K1:Aside (Bl w1 g7 24 [.int .i64 pa,.int .i64 pb]∧Below w.heap.size w w1):=⟨K0.out.1.below hb K0.out.1.lt,K0.out.2.trans (hb.mono K0.out.2.size)⟩;clear hb HM K0 p0 p1;go_wp2;exact bodyPost_ret (v:=.tuple #[.float .f64 0,.int .i64 2]) (by simp [results,Tryz.results13,go_sem]) rfl ⟨rfl,K1.out.2⟩
   · have hd:decide ((65536:Int)<(n:Int))=false:=by simp;omega
     have hd':decide ((65536:Int)<(n':Int))=true:=by simp;omega
     clear hn hn' hF hF' hW hW' hm hl hl1;go_enter Tryz.func13,Tryz.ntmps13
     go_upto_region 1 with fail
     rw [←HW.out,←HG.out];clear HW HG
     go_wp2_with fail
     refine (HI.out _).mono ?_;rintro r w1 ⟨rfl,hu⟩;have hu':=hu.symm;clear hu HI;subst hu'
     go_wp2_with fail
     refine (HM.out _).mono ?_;rintro r w1 ⟨rfl,hb⟩;have K1:Aside (Bl w1 g7 24 [.int .i64 pa,.int .i64 pb]∧Below w.heap.size w w1):=⟨K0.out.1.below hb K0.out.1.lt,K0.out.2.trans (hb.mono K0.out.2.size)⟩;clear hb HM K0 p0 p1;go_wp2;exact bodyPost_ret (v:=.tuple #[.float .f64 0,.int .i64 2]) (by simp [results,Tryz.results13,go_sem]) rfl ⟨rfl,K1.out.2⟩
 have hd:decide ((65536:Int)<(n:Int))=false:=by simp;omega
 have hd':decide ((65536:Int)<(n':Int))=false:=by simp;omega
 by_cases hq:xs.length=ys.length
 rotate_left
 · have hr:rf12 mode xs.length ys.length=4:=by unfold rf12;rw [if_neg hmd,if_neg hl,if_pos hq]
   have e:dotR xs ys mode pa pb=(0,4):=by unfold dotR;rw [if_neg hmy,hr];rfl
   have hne:((n:Int) != (n':Int))=true:=by simp;omega
   rw [e];clear hmd hmt hmy hmyt hr e hn hn' hF hF' hW hW' hm hl hq;go_enter Tryz.func13,Tryz.ntmps13
   go_upto_region 1 with fail
   rw [←HW.out,←HG.out];clear HW HG
   go_wp2_with fail
   refine (HI.out _).mono ?_;rintro r w1 ⟨rfl,hu⟩;have hu':=hu.symm;clear hu HI;subst hu'
   go_wp2_with fail
   refine (HM.out _).mono ?_;rintro r w1 ⟨rfl,hb⟩;have K1:Aside (Bl w1 g7 24 [.int .i64 pa,.int .i64 pb]∧Below w.heap.size w w1):=⟨K0.out.1.below hb K0.out.1.lt,K0.out.2.trans (hb.mono K0.out.2.size)⟩;clear hb HM K0 p0 p1;go_wp2;exact bodyPost_ret (v:=.tuple #[.float .f64 0,.int .i64 4]) (by simp [results,Tryz.results13,go_sem]) rfl ⟨rfl,K1.out.2⟩
 obtain rfl:n'=n:=by omega
 have hne:((n':Int) != (n':Int))=false:=by simp
 have hr:rf12 mode xs.length ys.length=0:=by unfold rf12;rw [if_neg hmd,if_neg hl,if_neg (by omega)]
 obtain ⟨hmo0,hmo4,_,_⟩:=rf12_ok hr;have NC:Aside (dotR xs ys mode pa pb=rd10 (vI (dI xs ys)) (sI (dI xs ys)) mode pa pb):=by unfold dotR;rw [if_neg hmy,if_pos hr];exact rfl
 have MO:=qsd (ai hmo0 (ai hmo4 hmyt));have PP:=qsd (ai hn (ai hn' (ai hF (ai hF' (ai hW (ai hW' (show xs.length≤65536 by omega)))))))
 obtain ⟨⟨RX,RE⟩,hR⟩:∃ z,dotR xs ys mode pa pb=z:=⟨_,rfl⟩;rw [hR] at NC ⊢;simp only;clear hmd hmt hmy hmyt hl hn hn' hF hF' hW hW' hR hq hr hmo0 hmo4;go_enter Tryz.func13,Tryz.ntmps13
 go_upto_region 1 with fail
 rw [←HW.out,←HG.out];clear HW HG
 go_wp2_with fail
 refine (HI.out _).mono ?_;rintro r w1 ⟨rfl,hu⟩;have hu':=hu.symm;clear hu HI;subst hu'
 go_wp2_with fail
 refine (HM.out _).mono ?_;rintro r w1 ⟨rfl,hb⟩;have K1:Aside (Bl w1 g7 24 [.int .i64 pa,.int .i64 pb]∧Below w.heap.size w w1):=⟨K0.out.1.below hb K0.out.1.lt,K0.out.2.trans (hb.mono K0.out.2.size)⟩;clear hb HM K0 p0 p1;obtain ⟨W2,hW2⟩:∃ W2,W2=w1.alloc (Obj.cells #[.bool false,.slice none 0 0,.int .i64 0,.int .i64 0,.int .i64 0,.int .i64 0,.int .i64 0,.int .i64 0,.int .i64 0] 65):=⟨_,rfl⟩;obtain ⟨G,hG⟩:∃ G,G=w1.heap.size:=⟨_,rfl⟩
 have H0:Aside (La W2 G o00 ⟨0,0,0,0,0,0⟩∧Bl W2 g7 24 [.int .i64 pa,.int .i64 pb]∧Below w.heap.size w W2∧w.heap.size≤G∧g7<G):=by
  have h7:=K1.out.1.lt;rw [hW2,hG];refine ⟨⟨none,0,?_,?_⟩,K1.out.1.alloc _,K1.out.2.trans ((below_alloc _ _).mono K1.out.2.size),K1.out.2.size,h7⟩
  · unfold laC
    rw [len00];exact Bl.new w1 65 [_,_,_,_,_,_,_,_,_]
  · rw [len00];exact Nt.nil _ _
 have HW2:=qsd hW2;have HG:=qsd hG;clear hW2 hG K1;go_wp2;rw [←HW2.out,←HG.out];clear HW2 HG
 go_loopg [13] n' (fun gk i wr=>∃ k:Nat,gk+k=n'∧i=.int .i64 (k:Nat)∧Aside (La wr G (exV (vI (dI (xs.take k) (ys.take k)))) (sI (dI (xs.take k) (ys.take k)))∧Bl wr g7 24 [.int .i64 pa,.int .i64 pb]∧Below w.heap.size w wr∧w.heap.size≤G∧g7<G))
 case atStart=>exact ⟨0,by omega,by simp,by rw [List.take_zero,List.take_zero,show vI (dI [] [])=0 from rfl,show sI (dI [] [])=⟨0,0,0,0,0,0⟩ from rfl,ex_zero];exact H0.out⟩
 case round =>
  clear H0;obtain ⟨k,hgk,rfl,HL⟩:=hrel
  by_cases hk:k<n'
  · obtain ⟨b,off,hb1,rfl,hcx⟩:=PP.out.2.2.1.atb HL.out.2.2.1 k (by rw [←PP.out.1];exact hk)
    obtain ⟨b',off',hb',rfl,hcy⟩:=PP.out.2.2.2.1.atb HL.out.2.2.1 k (by rw [←PP.out.2.1];exact hk)
    have hln:=PP.out.1;have hln':=PP.out.2.1;have hl65:=PP.out.2.2.2.2.2.2;have ht:=dI_take xs ys k (by omega) (by omega)
    have hx64:=PP.out.2.2.2.2.1.get k;have hy64:=PP.out.2.2.2.2.2.1.get k;obtain ⟨x,hx⟩:∃ x,x=xs.getD k 0:=⟨_,rfl⟩;obtain ⟨y,hy⟩:∃ y,y=ys.getD k 0:=⟨_,rfl⟩;rw [←hx] at hcx ht hx64;rw [←hy] at hcy ht hy64;obtain ⟨j,hj⟩:∃ j,j=4238:=⟨_,rfl⟩;have v0:=dI_bd PP.out.2.2.2.2.1 PP.out.2.2.2.2.2.1 k (by omega) j hj
    have v2:=dI_bd PP.out.2.2.2.2.1 PP.out.2.2.2.2.2.1 (k+1) (by omega) j hj
    have sp:=dI_sp PP.out.2.2.2.2.1 PP.out.2.2.2.2.2.1 k (by omega)
    have vT:(pT x y).natAbs<2^j:=bd12 1 (by omega) (by rw [Nat.one_mul];exact pT_small x y hx64 hy64) j hj
    have e1:vI (dI (xs.take (k+1)) (ys.take (k+1)))=vI (dI (xs.take k) (ys.take k))+pT x y:=by rw [ht,vI_snoc]
    have e2:sI (dI (xs.take (k+1)) (ys.take (k+1)))=(sI (dI (xs.take k) (ys.take k))).cnt (pK x y) 1:=by rw [ht,sI_snoc]
    rw [e1] at v2;obtain ⟨V0,hV0⟩:∃ V,V=vI (dI (xs.take k) (ys.take k)):=⟨_,rfl⟩;obtain ⟨⟨sn,su,sd,sm,sp',sa⟩,hs0⟩:∃ s,s=sI (dI (xs.take k) (ys.take k)):=⟨_,rfl⟩;rw [←hV0] at v0 v2 e1;rw [←hs0] at sp e2;have HL':=HL;rw [←hV0,←hs0] at HL';obtain ⟨⟨s1,s2,s3,s4,s5,s6'⟩,sa'⟩:=sp;simp only at s1 s2 s3 s4 s5 s6' sa';have HP:=hid (fun u:World=>rProd12 x y u hx64 hy64)
    have HA:Hid (∀ (U:World) (kk:Nat) (v:Value) (lo:Nat),La U G (exV V0) ⟨sn,su,sd,sm,sp',sa⟩→kk≤5→kOf kk=pK x y→Nt lo U v (dX (exV (pT x y)))→Calls Tryz.prog 42 #[.pointer (some ⟨G,0,none⟩),.agg #[.int .i64 (kk:Nat),.bool (dN (exV (pT x y))),v,.int .i64 (dE (exV (pT x y)))]] U fun r w'=>r=.returned (.int .i64 0)∧La w' G (exV (V0+pT x y)) ((Sp.mk sn su sd sm sp' sa).cnt (pK x y) 1)∧But G U w'):=fun U kk v lo hLa hkk hko hNt=>by
     have FT:=ex_fm (pT x y) j (by omega) vT
     obtain ⟨q,cq,rfl,hN0⟩:=Lo.shape FT hNt;have:=rAdd7 G V0 (pT x y) sn su sd sm sp' sa kk q cq U hLa (by unfold Sp.ok;simp only;omega) hkk (by omega) hN0 j hj v0 vT v2
     rw [hko] at this;exact this
    have EE:=qsd (ai e1 e2);have hkb:k<4611686018427387904:=by omega
    clear hx hy hj v0 v2 vT e1 e2 hV0 hs0 HL hln hln' hl65 hx64 hy64 ht s1 s2 s3 s4 s5 s6' sa';have hd1:decide ((k:Int)<(n':Nat))=true:=by simp;omega
    go_upto_region 13 with fail
    have hdr:=(Below.refl wr.heap.size wr).drew;have BD:Aside (Below wr.heap.size wr wr.drew):=hdr;have kS:Aside (wr.drew.cell? ⟨b,off+k,none⟩=some (.float .f64 x)∧wr.drew.cell? ⟨b',off'+k,none⟩=some (.float .f64 y)):=⟨hcx,hcy⟩;have hblt:b<wr.heap.size:=Nat.lt_of_lt_of_le hb1 HL'.out.2.2.1.size;have hblt':b'<wr.heap.size:=Nat.lt_of_lt_of_le hb' HL'.out.2.2.1.size;have hbG:b≠G:=by have:=HL'.out.2.2.2.1;omega
    have hbG':b'≠G:=by have:=HL'.out.2.2.2.1;omega
    clear hdr
    go_region_held3 (fun w'=>w'.cell? ⟨b,off+k,none⟩=some (.float .f64 x)∧w'.cell? ⟨b',off'+k,none⟩=some (.float .f64 y)) (with_reducible exact kS.out) (first
     | (go_at_call 42
        with_reducible refine (HA.out _ kk v2 _ Q2.out.1 Q2.out.2.1 Q2.out.2.2.1 Q2.out.2.2.2.1).mono ?_
        rintro r v ⟨rfl,hla,hbt⟩;have Q3:=qsd (ai hla (ai (But.below Q2.out.2.2.2.2.1 hbt Q2.out.2.2.2.2.1.size HL'.out.2.2.2.1) (Bl.but Q2.out.2.2.2.2.2.1 hbt (Nat.ne_of_lt HL'.out.2.2.2.2))));have kS:Aside (v.cell? ⟨b,off+k,none⟩=some (.float .f64 x)∧v.cell? ⟨b',off'+k,none⟩=some (.float .f64 y)):=⟨(World.cell?_of_block (a:=⟨b,off+k,none⟩) (hbt.block b (Nat.lt_of_lt_of_le hblt Q2.out.2.2.2.2.2.2) hbG)).trans kS.out.1,(World.cell?_of_block (a:=⟨b',off'+k,none⟩) (hbt.block b' (Nat.lt_of_lt_of_le hblt' Q2.out.2.2.2.2.2.2) hbG')).trans kS.out.2⟩
        clear hla hbt)
     | (go_at_call 43
        with_reducible refine (HP.out _).mono ?_
        rintro r v ⟨⟨v2,kk,rfl,hk5,hko,hN⟩,hb⟩;have hb0:=BD.out.trans hb;have Q2:=qsd (ai (HL'.out.1.below hb0) (ai hk5 (ai hko (ai hN (ai (HL'.out.2.2.1.trans (hb0.mono HL'.out.2.2.1.size)) (ai (HL'.out.2.1.below hb0 HL'.out.2.1.lt) hb0.size))))));have kS:Aside (v.cell? ⟨b,off+k,none⟩=some (.float .f64 x)∧v.cell? ⟨b',off'+k,none⟩=some (.float .f64 y)):=⟨(hb0.cell (p:=⟨b,off+k,none⟩) hblt).trans hcx,(hb0.cell (p:=⟨b',off'+k,none⟩) hblt').trans hcy⟩;clear hb hN hk5 hko hb0))
    clear kS Q2 HP HA BD
    have H4:Aside (La v G (exV (vI (dI (xs.take (k+1)) (ys.take (k+1))))) (sI (dI (xs.take (k+1)) (ys.take (k+1))))∧Bl v g7 24 [.int .i64 pa,.int .i64 pb]∧Below w.heap.size w v∧w.heap.size≤G∧g7<G):=by
     rw [EE.out.1,EE.out.2];exact ⟨Q3.out.1,Q3.out.2.2,Q3.out.2.1,HL'.out.2.2.2⟩
    clear EE Q3 HL' hcx hcy hblt hblt' hbG hbG' hb1 hb';go_wp2
    go_roundg (gk-1)
    case measure=>omega
    case rel=>exact ⟨k+1,by omega,by first | rfl | simp,H4.out⟩
  · obtain rfl:n'=k:=by omega
    have hd1:decide ((n':Int)<(n':Nat))=false:=by simp
    have e:xs.take n'=xs:=List.take_of_length_le (by rw [←PP.out.1];omega)
    have e':ys.take n'=ys:=List.take_of_length_le (by rw [←PP.out.2.1];omega)
    obtain ⟨j,hj⟩:∃ j,j=4238:=⟨_,rfl⟩;have hle:n'≤65536:=by rw [PP.out.1];exact PP.out.2.2.2.2.2.2
    have v0:=dI_bd PP.out.2.2.2.2.1 PP.out.2.2.2.2.2.1 n' hle j hj;have sp:=dI_sp PP.out.2.2.2.2.1 PP.out.2.2.2.2.2.1 n' hle;rw [e,e'] at HL v0 sp;obtain ⟨⟨sn,su,sd,sm,sp',sa⟩,hs0⟩:∃ s,s=sI (dI xs ys):=⟨_,rfl⟩;rw [←hs0] at HL sp NC;obtain ⟨⟨s1,s2,s3,s4,s5,s6'⟩,sa'⟩:=sp;simp only at s1 s2 s3 s4 s5 s6' sa';have HR:=hid (rRound7 G (vI (dI xs ys)) sn su sd sm sp' sa pa pb mode wr HL.out.1 j (by omega) v0 (by omega) (by omega) MO.out.1 MO.out.2.1 MO.out.2.2)
    rw [←NC.out] at HR;simp only at HR;have p0:=HL.out.2.1.cell 0 _ rfl;have p1:=HL.out.2.1.cell 1 _ rfl;clear e e' hj hle v0 s1 s2 s3 s4 s5 s6' sa' hs0 NC
    go_wp2_with fail
    refine HR.out.mono ?_;rintro r u2 ⟨rfl,hb⟩;have B:=qsd (HL.out.2.2.1.trans (hb.mono HL.out.2.2.1.size));clear hb HL HR;go_wp2;exact bodyPost_ret (v:=.tuple #[.float .f64 RX,.int .i64 RE]) (by simp [results,Tryz.results13,go_sem]) rfl ⟨rfl,B.out⟩
end
section
open Go.RowKit J
attribute [local go_sem] st_float
theorem ord71:(FloatKind.f64.format.order 4634696597773484032 4634696597773484032==some .eq)=true:=by decide +kernel
theorem ord72:(FloatKind.f64.format.order 4634766966517661696 4634766966517661696==some .eq)=true:=by decide +kernel
attribute [local go_sem] ord71 ord72
theorem butN12 {g:Nat}{a w:World}(h:But g a w) (n:Nat):But g a (w.drewN n):=⟨h.os,h.tape,h.output,h.size,h.block⟩
theorem lent2_zeros (xs:List Nat) (n:Nat) (hn:n=xs.length):xs++(List.replicate (n+2) 0).drop n=xs++[0,0]:=by
 rw [List.drop_replicate,show n+2-n=2 by omega];rfl
def lnt (xs:List Nat):List Nat:=xs++[4634696597773484032,4634766966517661696]
theorem lnt_len (xs:List Nat):(lnt xs).length=xs.length+2:=by simp [lnt]
theorem lent2_marks (xs:List Nat) (n:Nat) (hn:n=xs.length):((xs++[0,0]).set n 4634696597773484032).set (n+1) 4634766966517661696=lnt xs:=by
 subst hn;simp [lnt]
theorem rLent12 (xs:List Nat) (ao:Option Addr) (n cap B:Nat) (w:World) (hn:n=xs.length) (hm:n≤17592186043904) (hR:Fs B w ao xs) (hB:B≤w.heap.size) :
 Calls Tryz.prog 10 #[.slice ao n cap] w fun r w'=>r=.returned (.slice (some ⟨w.heap.size,0,none⟩) n (n+2))∧OwnF w' w.heap.size (lnt xs)∧Below w.heap.size w w':=by
 have hmk:=make_floats ((n+2:Nat):Int) (n+2) rfl (by omega)
 have hmk2:=make_floats ((n:Int)+2) (n+2) (by omega) (by omega)
 have HO2:Hid (OwnF (w.alloc (.cells (madeCells #[.float .f64 0] (n+2)) 27)) w.heap.size (List.replicate (n+2) 0)):=OwnF.made w (n+2);obtain ⟨w2,hcp,hO2,hbut⟩:=copy_floats _ w.heap.size (n+2) (n+2) ao n cap B 3 (List.replicate (n+2) 0) xs HO2.out (by simp) hn (hR.below ((Below.refl _ _).alloc hB _)) (by omega)
 rw [lent2_zeros xs n hn] at hO2;have hg1:=hO2.frozen n;have hg2:=hO2.frozen (n+1);have hc1:=hO2.cell n (by simp;omega)
 have hc2:=hO2.cell (n+1) (by simp;omega)
 have HX:=(qsd (ai hO2 (ai hbut hn)));clear hO2 hbut HO2 hn hR;go_enter Tryz.func10,Tryz.ntmps10;go_wp2;go_ret;obtain ⟨hO2,hbut,hn⟩:=HX.out;refine ⟨rfl,?_,?_⟩
 · have h1:=(hO2.set n 4634696597773484032).set (n+1) 4634766966517661696
   rw [lent2_marks xs n hn] at h1;exact h1
 · exact But.below ((Below.refl _ _).alloc (Nat.le_refl _) _) ((hbut.set _ _).set _ _) (by simp) (Nat.le_refl _)
theorem rAsLent12 (xs:List Nat) (ao:Option Addr) (n cap B g:Nat) (w:World) (hn:n=xs.length) (hm:n≤17592186043904) (hR:Fs B w ao xs) (hB:B≤g) (hO:OwnF w g (lnt xs)) :
 Calls Tryz.prog 12 #[.slice (some ⟨g,0,none⟩) n (n+2),.slice ao n cap] w fun r w'=>r=.returned (.bool true)∧But g w w':=by
 have hgl:=hO.lt;have hc1:=hO.cell n (by rw [lnt_len];omega)
 have hc2:=hO.cell (n+1) (by rw [lnt_len];omega)
 have e1:(lnt xs).getD n 0=4634696597773484032:=by subst hn;simp [lnt]
 have e2:(lnt xs).getD (n+1) 0=4634766966517661696:=by subst hn;simp [lnt]
 rw [e1] at hc1;rw [e2] at hc2;have HX:=(qsd (ai hR (ai hO (ai hn (ai hB hgl)))));clear hR hO hn hB e1 e2 hgl;go_enter Tryz.func12,Tryz.ntmps12;go_wp2
 go_loopg [6,7] (n+2) (fun gk gv iv wr=>∃ (k:Nat) (M:List Nat),gk+k=n+2∧gv=.bool true∧iv=.int .i64 (k:Nat)∧Hid (OwnF wr g M) ∧
  Aside (M.length=n+2∧(∀ j,k≤j→M.getD j 0=(lnt xs).getD j 0)∧But g w wr))
 case atStart =>
  obtain ⟨hR,hO,hn,hB,hgl⟩:=HX.out;exact ⟨0,lnt xs,by omega,rfl,rfl,hO,by rw [lnt_len];omega,fun _ _=>rfl,But.refl _ _⟩
 case round =>
  obtain ⟨k,M,hk,rfl,rfl,HM,HA⟩:=hrel
  by_cases hk2:k=n+2
  · obtain rfl:gk=0:=by omega
    subst hk2;go_wp2;go_ret;exact ⟨rfl,HA.out.2.2⟩
  · obtain ⟨hl,hM,hbut⟩:=HA.out
    have hgc:=HM.out.cell k (by omega)
    have hgf:=HM.out.frozen k;have hklt:k<n+2:=by omega
    by_cases hkn:k<n
    · obtain ⟨hR,hO,hn,hB,hgl⟩:=HX.out
      obtain ⟨b,off,hlt,rfl,hcell⟩:=(hR.but hbut (by omega) hB) (by intro e;subst e;simp at hn;omega)
      have hxc:=hcell k (by omega)
      have e3:M.getD k 0=xs.getD k 0:=by
       rw [hM k (Nat.le_refl _)];simp [lnt,List.getD_eq_getElem?_getD,List.getElem?_append_left (show k<xs.length by omega)]
      rw [e3] at hgc;obtain ⟨x,hx1⟩:∃ x,xs.getD k 0=x:=⟨_,rfl⟩;rw [hx1] at hgc hxc;have hd:decide ((n:Int)≤(k:Int))=false:=decide_eq_false (by omega)
      clear hl hM hbut hR hO hn hB hgl hcell e3 hx1;go_wp2
      go_quiet (first | (go_at_call 14;exact Calls.quiet_of_same (alike12 x _)))
      go_wp2
      go_roundg (gk-1)
      case measure=>omega
      case rel =>
       obtain ⟨hl,hM,hbut⟩:=HA.out;refine ⟨k+1,M.set k 4635541022703616000,by omega,by first | rfl | simp,by first | go_num | (congr 1;omega),(HM.out.set k 4635541022703616000).drew,by simp [hl],fun j hj=>?_,((butN12 hbut _).set k _)⟩
       rw [getD_set_ne _ _ _ _ (by omega)]
       exact hM j (by omega)
    · have hd:decide ((n:Int)≤(k:Int))=true:=decide_eq_true (by omega)
      clear hl hM hbut;go_wp2
      go_quiet (fail)
      go_wp2
      go_roundg (gk-1)
      case measure=>omega
      case rel =>
       obtain ⟨hl,hM,hbut⟩:=HA.out;refine ⟨k+1,M.set k 4635541022703616000,by omega,by first | rfl | simp,by first | go_num | (congr 1;omega),(HM.out.set k 4635541022703616000).drew,by simp [hl],fun j hj=>?_,((butN12 hbut _).set k _)⟩
       rw [getD_set_ne _ _ _ _ (by omega)]
       exact hM j (by omega)
end
section
open Go.RowKit J
theorem lent_fs {w:World}{g:Nat}{xs:List Nat}(h:OwnF w g (lnt xs)):Fs w.heap.size w (some ⟨g,0,none⟩) xs:=by
 have:=h.fs h.lt xs.length;rw [show (lnt xs).take xs.length=xs by simp [lnt]] at this
 exact this
end
section
open Go.RowKit J
theorem OwnF.but12 {w w':World}{g h:Nat}{L:List Nat}(ho:OwnF w g L) (hb:But h w w') (hne:g≠h):OwnF w' g L:=by
 unfold OwnF at ho ⊢;rw [hb.block g (Array.getElem?_eq_some_iff.1 ho).1 hne];exact ho
end
section
open Go.RowKit J
theorem dot_comm (xs ys:List Nat) (mode a b:Int):dotR ys xs mode a b=dotR xs ys mode a b:=by
 unfold dotR;rw [rf12_comm mode ys.length xs.length,dI_comm]
set_option maxRecDepth 100000 in
theorem walk2_DotDots (a:Option Addr) (n c:Nat) (xs:List Nat) (b:Option Addr) (m d:Nat) (ys:List Nat) (mode pa pb:Int) (w:World) (hT:Tab w) (hC:CameF w a n c xs) (hD:CameF w b m d ys) (hm:n≤17592186043904) (hk:m≤17592186043904) :
 Calls Tryz.prog 3 #[.slice a n c,.slice b m d,.int .i64 mode,.agg #[.int .i64 pa,.int .i64 pb]] w fun r w'=>r=.returned (.bool true)∧Below w.heap.size w w':=by
 obtain ⟨hl1,_,hW1,hF1,_⟩:=hC;obtain ⟨hl2,_,hW2,hF2,_⟩:=hD;have up:∀ u:World,Below w.heap.size w u→Fs u.heap.size u a xs∧Fs u.heap.size u b ys∧Tab u∧Fs w.heap.size u a xs∧Fs w.heap.size u b ys:=fun u hb=>⟨(hF1.below hb).mono hb.size,(hF2.below hb).mono hb.size,hT.belows hb,hF1.below hb,hF2.below hb⟩
 obtain ⟨⟨X1,E1⟩,h1⟩:∃ r,dotR xs ys mode pa pb=r:=⟨_,rfl⟩;obtain ⟨⟨X2,E2⟩,h2⟩:∃ r,dotR xs xs mode pa pb=r:=⟨_,rfl⟩;have h3:=dot_comm xs ys mode pa pb;rw [h1] at h3;have HA:=hid (fun (u:World) (hb:Below w.heap.size w u)=>awake12 u (up u hb).2.2.1)
 have HL:=hid (fun (u:World) (hb:Below w.heap.size w u)=>rLent12 xs a n c u.heap.size u hl1 hm (up u hb).1 (Nat.le_refl _))
 have HL':=hid (fun (u:World) (hb:Below w.heap.size w u)=>rLent12 ys b m d u.heap.size u hl2 hk (up u hb).2.1 (Nat.le_refl _))
 have HD1:Hid (∀ (u:World) (g h:Nat),Below w.heap.size w u→OwnF u g (lnt xs)→OwnF u h (lnt ys)→Calls Tryz.prog 11 #[.slice (some ⟨g,0,none⟩) n (n+2),.slice (some ⟨h,0,none⟩) m (m+2),.int .i64 mode,.agg #[.int .i64 pa,.int .i64 pb]] u fun r w'=>r=.returned (.tuple #[.float .f64 X1,.int .i64 E1])∧Below u.heap.size u w'):=fun u g h hb ho ho'=>by
  have:=Dot12 xs ys (some ⟨g,0,none⟩) (some ⟨h,0,none⟩) n (n+2) m (m+2) mode pa pb u hl1 hl2 (lent_fs ho) (lent_fs ho') hW1 hW2 (up u hb).2.2.1;rw [h1] at this;exact this
 have HD2:Hid (∀ (u:World) (g h:Nat),Below w.heap.size w u→OwnF u g (lnt xs)→OwnF u h (lnt ys)→Calls Tryz.prog 11 #[.slice (some ⟨h,0,none⟩) m (m+2),.slice (some ⟨g,0,none⟩) n (n+2),.int .i64 mode,.agg #[.int .i64 pa,.int .i64 pb]] u fun r w'=>r=.returned (.tuple #[.float .f64 X1,.int .i64 E1])∧Below u.heap.size u w'):=fun u g h hb ho ho'=>by
  have:=Dot12 ys xs (some ⟨h,0,none⟩) (some ⟨g,0,none⟩) m (m+2) n (n+2) mode pa pb u hl2 hl1 (lent_fs ho') (lent_fs ho) hW2 hW1 (up u hb).2.2.1;rw [h3] at this;exact this
 have HD3:Hid (∀ (u:World) (g:Nat),Below w.heap.size w u→OwnF u g (lnt xs)→Calls Tryz.prog 11 #[.slice (some ⟨g,0,none⟩) n (n+2),.slice (some ⟨g,0,none⟩) n (n+2),.int .i64 mode,.agg #[.int .i64 pa,.int .i64 pb]] u fun r w'=>r=.returned (.tuple #[.float .f64 X2,.int .i64 E2])∧Below u.heap.size u w'):=fun u g hb ho=>by
  have:=Dot12 xs xs (some ⟨g,0,none⟩) (some ⟨g,0,none⟩) n (n+2) n (n+2) mode pa pb u hl1 hl1 (lent_fs ho) (lent_fs ho) hW1 hW1 (up u hb).2.2.1;rw [h2] at this;exact this
 have HK:=hid (fun (u:World) (g:Nat) (hb:Below w.heap.size w u) (hg:w.heap.size≤g) (ho:OwnF u g (lnt xs))=>rAsLent12 xs a n c w.heap.size g u hl1 hm (up u hb).2.2.2.1 hg ho)
 have HK':=hid (fun (u:World) (g:Nat) (hb:Below w.heap.size w u) (hg:w.heap.size≤g) (ho:OwnF u g (lnt ys))=>rAsLent12 ys b m d w.heap.size g u hl2 hk (up u hb).2.2.2.2 hg ho)
 have HQ:Hid (∀ u:World,Below w.heap.size w u→Calls Tryz.prog 13 #[.slice a n c,.slice b m d,.int .i64 mode,.agg #[.int .i64 pa,.int .i64 pb]] u fun r w'=>r=.returned (.tuple #[.float .f64 X1,.int .i64 E1])∧Below u.heap.size u w'):=fun u hb=>by
  have:=rDot12 xs ys a n c b m d mode pa pb u hl1 hl2 (up u hb).1 (up u hb).2.1 hW1 hW2 hm;rw [h1] at this;exact this
 have HQ':Hid (∀ u:World,Below w.heap.size w u→Calls Tryz.prog 13 #[.slice a n c,.slice a n c,.int .i64 mode,.agg #[.int .i64 pa,.int .i64 pb]] u fun r w'=>r=.returned (.tuple #[.float .f64 X2,.int .i64 E2])∧Below u.heap.size u w'):=fun u hb=>by
  have:=rDot12 xs xs a n c a n c mode pa pb u hl1 hl1 (up u hb).1 (up u hb).1 hW1 hW1 hm;rw [h2] at this;exact this
 clear hl1 hl2 hW1 hW2 hF1 hF2 up h1 h2 h3 hT hm hk;obtain ⟨W,hW⟩:∃ W,W=w.alloc (Obj.cells #[.int .i64 pa,.int .i64 pb] 24):=⟨_,rfl⟩;have B0:Aside (Below w.heap.size w W∧Bl W w.heap.size 24 [.int .i64 pa,.int .i64 pb]):=by rw [hW];exact ⟨bel_alloc _ _,Bl.new w 24 [_,_]⟩
 go_enter Tryz.func3,Tryz.ntmps3
 go_wp2_with fail
 rw [←hW];clear hW;refine (HA.out _ B0.out.1).mono ?_;rintro r u1 ⟨rfl,hb⟩;have B1:=qsd (ai (B0.out.1.trans (hb.mono B0.out.1.size)) (B0.out.2.below hb B0.out.2.lt));clear hb HA B0
 go_wp2_with fail
 refine (HL.out _ B1.out.1).mono ?_;rintro r u2 ⟨rfl,ho,hb⟩;obtain ⟨g,hg⟩:∃ g,g=u1.heap.size:=⟨_,rfl⟩;rw [←hg] at ho ⊢;have B2:Aside (Below w.heap.size w u2∧OwnF u2 g (lnt xs)∧w.heap.size<g∧Bl u2 w.heap.size 24 [.int .i64 pa,.int .i64 pb]):=⟨B1.out.1.trans (hb.mono B1.out.1.size),ho,by rw [hg];exact B1.out.2.lt,B1.out.2.below hb B1.out.2.lt⟩
 clear hb ho hg B1 HL
 go_wp2_with fail
 refine (HL'.out _ B2.out.1).mono ?_;rintro r u3 ⟨rfl,ho,hb⟩;obtain ⟨h,hh⟩:∃ h,h=u2.heap.size:=⟨_,rfl⟩;rw [←hh] at ho ⊢;have B3:Aside (Below w.heap.size w u3∧OwnF u3 g (lnt xs)∧w.heap.size<g∧OwnF u3 h (lnt ys)∧g<h∧Bl u3 w.heap.size 24 [.int .i64 pa,.int .i64 pb]):=⟨B2.out.1.trans (hb.mono B2.out.1.size),B2.out.2.1.below hb B2.out.2.1.lt,B2.out.2.2.1,ho,by rw [hh];exact B2.out.2.1.lt,B2.out.2.2.2.below hb B2.out.2.2.2.lt⟩
 clear hb ho hh B2 HL';have p0:=B3.out.2.2.2.2.2.cell 0 _ rfl;have p1:=B3.out.2.2.2.2.2.cell 1 _ rfl
 go_wp2_with fail
 refine (HD1.out _ g h B3.out.1 B3.out.2.1 B3.out.2.2.2.1).mono ?_;rintro r u5 ⟨rfl,hb⟩;have B5:Aside (Below w.heap.size w u5∧OwnF u5 g (lnt xs)∧w.heap.size<g∧OwnF u5 h (lnt ys)∧g<h∧Bl u5 w.heap.size 24 [.int .i64 pa,.int .i64 pb]):=⟨B3.out.1.trans (hb.mono B3.out.1.size),B3.out.2.1.below hb B3.out.2.1.lt,B3.out.2.2.1,B3.out.2.2.2.1.below hb B3.out.2.2.2.1.lt,B3.out.2.2.2.2.1,B3.out.2.2.2.2.2.below hb B3.out.2.2.2.2.2.lt⟩;clear hb B3 HD1 p0 p1;have p0:=B5.out.2.2.2.2.2.cell 0 _ rfl;have p1:=B5.out.2.2.2.2.2.cell 1 _ rfl
 go_wp2_with fail
 refine (HD2.out _ g h B5.out.1 B5.out.2.1 B5.out.2.2.2.1).mono ?_;rintro r u6 ⟨rfl,hb⟩;have B6:Aside (Below w.heap.size w u6∧OwnF u6 g (lnt xs)∧w.heap.size<g∧OwnF u6 h (lnt ys)∧g<h∧Bl u6 w.heap.size 24 [.int .i64 pa,.int .i64 pb]):=⟨B5.out.1.trans (hb.mono B5.out.1.size),B5.out.2.1.below hb B5.out.2.1.lt,B5.out.2.2.1,B5.out.2.2.2.1.below hb B5.out.2.2.2.1.lt,B5.out.2.2.2.2.1,B5.out.2.2.2.2.2.below hb B5.out.2.2.2.2.2.lt⟩;clear hb B5 HD2 p0 p1;have p0:=B6.out.2.2.2.2.2.cell 0 _ rfl;have p1:=B6.out.2.2.2.2.2.cell 1 _ rfl
 go_wp2_with fail
 refine (HD3.out _ g B6.out.1 B6.out.2.1).mono ?_;rintro r u4 ⟨rfl,hb⟩;have B4:Aside (Below w.heap.size w u4∧OwnF u4 g (lnt xs)∧w.heap.size<g∧OwnF u4 h (lnt ys)∧g<h∧Bl u4 w.heap.size 24 [.int .i64 pa,.int .i64 pb]):=⟨B6.out.1.trans (hb.mono B6.out.1.size),B6.out.2.1.below hb B6.out.2.1.lt,B6.out.2.2.1,B6.out.2.2.2.1.below hb B6.out.2.2.2.1.lt,B6.out.2.2.2.2.1,B6.out.2.2.2.2.2.below hb B6.out.2.2.2.2.2.lt⟩;clear hb B6 HD3 p0 p1
 go_wp2_with fail
 refine (HK.out _ g B4.out.1 (Nat.le_of_lt B4.out.2.2.1) B4.out.2.1).mono ?_;rintro r u7 ⟨rfl,hb⟩;have B7:Aside (Below w.heap.size w u7∧OwnF u7 h (lnt ys)∧w.heap.size<h∧Bl u7 w.heap.size 24 [.int .i64 pa,.int .i64 pb]):=⟨But.below B4.out.1 hb B4.out.1.size (Nat.le_of_lt B4.out.2.2.1),B4.out.2.2.2.1.but12 hb (by have:=B4.out.2.2.2.2.1;omega),by have:=B4.out.2.2.2.2.1;have:=B4.out.2.2.1;omega,Bl.but B4.out.2.2.2.2.2 hb (by have:=B4.out.2.2.1;omega)⟩
 clear hb B4 HK
 go_wp2_with fail
 refine (HK'.out _ h B7.out.1 (Nat.le_of_lt B7.out.2.2.1) B7.out.2.1).mono ?_;rintro r u8 ⟨rfl,hb⟩;have B8:Aside (Below w.heap.size w u8∧Bl u8 w.heap.size 24 [.int .i64 pa,.int .i64 pb]):=⟨But.below B7.out.1 hb B7.out.1.size (Nat.le_of_lt B7.out.2.2.1),Bl.but B7.out.2.2.2 hb (by have:=B7.out.2.2.1;omega)⟩
 clear hb B7 HK';have p0:=B8.out.2.cell 0 _ rfl;have p1:=B8.out.2.cell 1 _ rfl
 go_wp2_with fail
 refine (HQ.out _ B8.out.1).mono ?_;rintro r u9 ⟨rfl,hb⟩;have B9:=qsd (ai (B8.out.1.trans (hb.mono B8.out.1.size)) (B8.out.2.below hb B8.out.2.lt));clear hb B8 HQ p0 p1;have p0:=B9.out.2.cell 0 _ rfl;have p1:=B9.out.2.cell 1 _ rfl
 go_wp2_with fail
 refine (HQ'.out _ B9.out.1).mono ?_;rintro r u10 ⟨rfl,hb⟩;have B10:=qsd (B9.out.1.trans (hb.mono B9.out.1.size));clear hb B9 HQ' p0 p1;have e1:(E1==E1)=true:=by simp
 have e2:(E2==E2)=true:=by simp
 go_wp2_with fail
 refine (alike12 X1 _).mono ?_;rintro r u11 ⟨rfl,rfl⟩
 go_wp2_with fail
 refine (alike12 X1 _).mono ?_;rintro r u12 ⟨rfl,rfl⟩
 go_wp2_with fail
 refine (alike12 X2 _).mono ?_;rintro r u13 ⟨rfl,rfl⟩;go_wp2;go_ret;exact ⟨rfl,B10.out⟩
end
section
open Go.ChangeShapes Go.WideShapes Go.ChangeAt Go.RowKit
theorem ints_of12 {H:Type}{enc:TypeId×Value→H}{W:World}{k:Nat}{c:Value}{x:Option (DataW H×List MemPlace)}{y:DataW H×List MemPlace}(h:DataW.trod enc Tryz.prog W 0 (fun _=>true) true k 3 [c]=x) (hx:x=some y):∃ n:Int,c=.int .i64 n∧y.1=.lit (.int .i64 n)∧-9223372036854775808≤n∧n≤9223372036854775807:=by
 subst hx;obtain ⟨e,e2,rfl,hw⟩:=DataW.trod_int Tryz.underlying3 h
 cases e2
 have hw':-9223372036854775808≤e∧e≤9223372036854775807:=by
  simp [Lit.wf,IntKind.min,IntKind.max,IntKind.signed,IntKind.bits] at hw;omega
 exact ⟨e,rfl,rfl,hw'.1,hw'.2⟩
theorem pol_of12 {H:Type}{enc:TypeId×Value→H}{W:World}{r:Reach}{b0:Nat}{v:Value}{d:DataW H}{p:List MemPlace}(hv:Value.okWide Tryz.prog W r b0 24 v) (h:DataW.Trod enc Tryz.prog W 0 (fun _=>true) true 24 v d p) :
 ∃ a b:Int,v=.agg #[.int .i64 a,.int .i64 b]:=by
 obtain ⟨cs,rfl,hsz⟩:=okWide_struct Tryz.underlying24 hv;obtain ⟨fuel,hf⟩:=h;have hC:Tryz.prog.cellsOf 24=2:=by kernel_rfl
 have c3:Tryz.prog.cellsOf 3=1:=by kernel_rfl
 obtain ⟨xs,k,rfl,hx,hl,hxl,hfs⟩:=DataW.trod_struct Tryz.underlying24 hf;rw [hC] at hsz
 obtain ⟨c0,c1,rfl⟩:∃ c0 c1,cs=#[c0,c1]:=by
  obtain ⟨l⟩:=cs
  match l,hsz with
  | [a,b],_=>exact ⟨a,b,rfl⟩
 have h0:DataW.trod enc Tryz.prog W 0 (fun _=>true) true k 3 (List.take (Tryz.prog.cellsOf 3) (List.drop 0 [c0,c1]))=xs[0]?:=hfs 0 _ rfl
 have h1:DataW.trod enc Tryz.prog W 0 (fun _=>true) true k 3 (List.take (Tryz.prog.cellsOf 3) (List.drop 1 [c0,c1]))=xs[1]?:=hfs 1 _ rfl
 rw [c3] at h0 h1
 match xs,hxl with
 | [x0,x1],_ =>
   obtain ⟨a,rfl,_⟩:=ints_of12 (c:=c0) h0 rfl;obtain ⟨b,rfl,_⟩:=ints_of12 (c:=c1) h1 rfl;exact ⟨a,b,rfl⟩
end
end Go.Proofs.YthfkleadcnkglaaGreatDoor
