import Derived.Test.YtjldfhecnaiinaaGreatDoorZ9x
import Derived.Deep.RegionWith
import Derived.Test.YtjldfhecnaiinaaGreatDoorZ43x
import Derived.Test.YtjldfhecnaiinaaGreatDoorU1x
import Derived.BigQuiet
import Derived.Test.YtjldfhecnaiinaaGreatDoorF10x
import Derived.Test.YtjldfhecnaiinaaGreatDoorF7x
import Derived.Test.YtjldfhecnaiinaaGreatDoorP2x
import Derived.Deep.RegionHeld3
import Derived.Test.YtjldfhecnaiinaaGreatDoorH13x
set_option linter.unusedVariables false
set_option linter.unusedSimpArgs false
set_option maxHeartbeats 16000000
set_option maxRecDepth 20000
namespace Go.Proofs.YtjldfhecnaiinaaGreatDoor
namespace J
end J
section
open Go.RowKit
open Go.Proofs.YtjldfhecnaiinaaGreatDoor.B (f64bits f64frombits bw bcell)
attribute [local go_sem] f64bits f64frombits
theorem MayBe_any (n u d m p a:Int) (w:World):Calls Tryz.prog 75 #[.agg #[.int .i64 n,.int .i64 u,.int .i64 d,.int .i64 m,.int .i64 p,.int .i64 a]] w fun r w'=>r=.returned (.bool (snd n u d m p a))∧Below w.heap.size w w':=by
 have below:∀ o,Below w.heap.size w (w.alloc o):=fun o=>(Below.refl _ _).alloc (Nat.le_refl _) _
 unfold snd;have Hn:=hid (within_any n);have Hu:=hid (within_any u);have Hd:=hid (within_any d);have Hm:=hid (within_any m);have Hp:=hid (within_any p);have Ha:=hid (within_any a);have h1:(ct n=false)∨(ct n=true∧ct u=false)∨(ct n=true∧ct u=true∧ct d=false)∨(ct n=true∧ct u=true∧ct d=true):=by cases ct n <;> cases ct u <;> cases ct d <;> simp
 have h2:(ct m=false)∨(ct m=true∧ct p=false)∨(ct m=true∧ct p=true∧ct a=false)∨(ct m=true∧ct p=true∧ct a=true):=by cases ct m <;> cases ct p <;> cases ct a <;> simp
 rcases h1 with e1|⟨e1,e2⟩|⟨e1,e2,e3⟩|⟨e1,e2,e3⟩ <;> rcases h2 with g1|⟨g1,g2⟩|⟨g1,g2,g3⟩|⟨g1,g2,g3⟩
 · rw [e1,g1]
   rw [e1] at Hn;rw [g1] at Hm;clear e1 g1;go_enter Tryz.func75,Tryz.ntmps75
   go_wp2_with fail
   refine (Hn.out _).mono ?_;rintro r w1 ⟨rfl,rfl⟩
   go_wp2_with fail
   refine (Hm.out _).mono ?_;rintro r w1 ⟨rfl,rfl⟩;go_wp2;go_ret;exact ⟨by first | rfl | simp,below _⟩
 · rw [e1,g1,g2]
   rw [e1] at Hn;rw [g1] at Hm;rw [g2] at Hp;clear e1 g1 g2;go_enter Tryz.func75,Tryz.ntmps75
   go_wp2_with fail
   refine (Hn.out _).mono ?_;rintro r w1 ⟨rfl,rfl⟩
   go_wp2_with fail
   refine (Hm.out _).mono ?_;rintro r w1 ⟨rfl,rfl⟩
   go_wp2_with fail
   refine (Hp.out _).mono ?_;rintro r w1 ⟨rfl,rfl⟩;go_wp2;go_ret;exact ⟨by first | rfl | simp,below _⟩
 · rw [e1,g1,g2,g3]
   rw [e1] at Hn;rw [g1] at Hm;rw [g2] at Hp;rw [g3] at Ha;clear e1 g1 g2 g3;go_enter Tryz.func75,Tryz.ntmps75
   go_wp2_with fail
   refine (Hn.out _).mono ?_;rintro r w1 ⟨rfl,rfl⟩
   go_wp2_with fail
   refine (Hm.out _).mono ?_;rintro r w1 ⟨rfl,rfl⟩
   go_wp2_with fail
   refine (Hp.out _).mono ?_;rintro r w1 ⟨rfl,rfl⟩
   go_wp2_with fail
   refine (Ha.out _).mono ?_;rintro r w1 ⟨rfl,rfl⟩;go_wp2;go_ret;exact ⟨by first | rfl | simp,below _⟩
 · rw [e1,g1,g2,g3]
   rw [e1] at Hn;rw [g1] at Hm;rw [g2] at Hp;rw [g3] at Ha;clear e1 g1 g2 g3;go_enter Tryz.func75,Tryz.ntmps75
   go_wp2_with fail
   refine (Hn.out _).mono ?_;rintro r w1 ⟨rfl,rfl⟩
   go_wp2_with fail
   refine (Hm.out _).mono ?_;rintro r w1 ⟨rfl,rfl⟩
   go_wp2_with fail
   refine (Hp.out _).mono ?_;rintro r w1 ⟨rfl,rfl⟩
   go_wp2_with fail
   refine (Ha.out _).mono ?_;rintro r w1 ⟨rfl,rfl⟩;go_wp2;go_ret;exact ⟨by first | rfl | simp,below _⟩
 · rw [e1,e2,g1]
   rw [e1] at Hn;rw [e2] at Hu;rw [g1] at Hm;clear e1 e2 g1;go_enter Tryz.func75,Tryz.ntmps75
   go_wp2_with fail
   refine (Hn.out _).mono ?_;rintro r w1 ⟨rfl,rfl⟩
   go_wp2_with fail
   refine (Hu.out _).mono ?_;rintro r w1 ⟨rfl,rfl⟩
   go_wp2_with fail
   refine (Hm.out _).mono ?_;rintro r w1 ⟨rfl,rfl⟩;go_wp2;go_ret;exact ⟨by first | rfl | simp,below _⟩
 · rw [e1,e2,g1,g2]
   rw [e1] at Hn;rw [e2] at Hu;rw [g1] at Hm;rw [g2] at Hp;clear e1 e2 g1 g2;go_enter Tryz.func75,Tryz.ntmps75
   go_wp2_with fail
   refine (Hn.out _).mono ?_;rintro r w1 ⟨rfl,rfl⟩
   go_wp2_with fail
   refine (Hu.out _).mono ?_;rintro r w1 ⟨rfl,rfl⟩
   go_wp2_with fail
   refine (Hm.out _).mono ?_;rintro r w1 ⟨rfl,rfl⟩
   go_wp2_with fail
   refine (Hp.out _).mono ?_;rintro r w1 ⟨rfl,rfl⟩;go_wp2;go_ret;exact ⟨by first | rfl | simp,below _⟩
 · rw [e1,e2,g1,g2,g3]
   rw [e1] at Hn;rw [e2] at Hu;rw [g1] at Hm;rw [g2] at Hp;rw [g3] at Ha;clear e1 e2 g1 g2 g3;go_enter Tryz.func75,Tryz.ntmps75
   go_wp2_with fail
   refine (Hn.out _).mono ?_;rintro r w1 ⟨rfl,rfl⟩
   go_wp2_with fail
   refine (Hu.out _).mono ?_;rintro r w1 ⟨rfl,rfl⟩
   go_wp2_with fail
   refine (Hm.out _).mono ?_;rintro r w1 ⟨rfl,rfl⟩
   go_wp2_with fail
   refine (Hp.out _).mono ?_;rintro r w1 ⟨rfl,rfl⟩
   go_wp2_with fail
   refine (Ha.out _).mono ?_;rintro r w1 ⟨rfl,rfl⟩;go_wp2;go_ret;exact ⟨by first | rfl | simp,below _⟩
 · rw [e1,e2,g1,g2,g3]
   rw [e1] at Hn;rw [e2] at Hu;rw [g1] at Hm;rw [g2] at Hp;rw [g3] at Ha;clear e1 e2 g1 g2 g3;go_enter Tryz.func75,Tryz.ntmps75
   go_wp2_with fail
   refine (Hn.out _).mono ?_;rintro r w1 ⟨rfl,rfl⟩
   go_wp2_with fail
   refine (Hu.out _).mono ?_;rintro r w1 ⟨rfl,rfl⟩
   go_wp2_with fail
   refine (Hm.out _).mono ?_;rintro r w1 ⟨rfl,rfl⟩
   go_wp2_with fail
   refine (Hp.out _).mono ?_;rintro r w1 ⟨rfl,rfl⟩
   go_wp2_with fail
   refine (Ha.out _).mono ?_;rintro r w1 ⟨rfl,rfl⟩;go_wp2;go_ret;exact ⟨by first | rfl | simp,below _⟩
 · rw [e1,e2,e3,g1]
   rw [e1] at Hn;rw [e2] at Hu;rw [e3] at Hd;rw [g1] at Hm;clear e1 e2 e3 g1;go_enter Tryz.func75,Tryz.ntmps75
   go_wp2_with fail
   refine (Hn.out _).mono ?_;rintro r w1 ⟨rfl,rfl⟩
   go_wp2_with fail
   refine (Hu.out _).mono ?_;rintro r w1 ⟨rfl,rfl⟩
   go_wp2_with fail
   refine (Hd.out _).mono ?_;rintro r w1 ⟨rfl,rfl⟩
   go_wp2_with fail
   refine (Hm.out _).mono ?_;rintro r w1 ⟨rfl,rfl⟩;go_wp2;go_ret;exact ⟨by first | rfl | simp,below _⟩
 · rw [e1,e2,e3,g1,g2]
   rw [e1] at Hn;rw [e2] at Hu;rw [e3] at Hd;rw [g1] at Hm;rw [g2] at Hp;clear e1 e2 e3 g1 g2;go_enter Tryz.func75,Tryz.ntmps75
   go_wp2_with fail
   refine (Hn.out _).mono ?_;rintro r w1 ⟨rfl,rfl⟩
   go_wp2_with fail
   refine (Hu.out _).mono ?_;rintro r w1 ⟨rfl,rfl⟩
   go_wp2_with fail
   refine (Hd.out _).mono ?_;rintro r w1 ⟨rfl,rfl⟩
   go_wp2_with fail
   refine (Hm.out _).mono ?_;rintro r w1 ⟨rfl,rfl⟩
   go_wp2_with fail
   refine (Hp.out _).mono ?_;rintro r w1 ⟨rfl,rfl⟩;go_wp2;go_ret;exact ⟨by first | rfl | simp,below _⟩
 · rw [e1,e2,e3,g1,g2,g3]
   rw [e1] at Hn;rw [e2] at Hu;rw [e3] at Hd;rw [g1] at Hm;rw [g2] at Hp;rw [g3] at Ha;clear e1 e2 e3 g1 g2 g3;go_enter Tryz.func75,Tryz.ntmps75
   go_wp2_with fail
   refine (Hn.out _).mono ?_;rintro r w1 ⟨rfl,rfl⟩
   go_wp2_with fail
   refine (Hu.out _).mono ?_;rintro r w1 ⟨rfl,rfl⟩
   go_wp2_with fail
   refine (Hd.out _).mono ?_;rintro r w1 ⟨rfl,rfl⟩
   go_wp2_with fail
   refine (Hm.out _).mono ?_;rintro r w1 ⟨rfl,rfl⟩
   go_wp2_with fail
   refine (Hp.out _).mono ?_;rintro r w1 ⟨rfl,rfl⟩
   go_wp2_with fail
   refine (Ha.out _).mono ?_;rintro r w1 ⟨rfl,rfl⟩;go_wp2;go_ret;exact ⟨by first | rfl | simp,below _⟩
 · rw [e1,e2,e3,g1,g2,g3]
   rw [e1] at Hn;rw [e2] at Hu;rw [e3] at Hd;rw [g1] at Hm;rw [g2] at Hp;rw [g3] at Ha;clear e1 e2 e3 g1 g2 g3;go_enter Tryz.func75,Tryz.ntmps75
   go_wp2_with fail
   refine (Hn.out _).mono ?_;rintro r w1 ⟨rfl,rfl⟩
   go_wp2_with fail
   refine (Hu.out _).mono ?_;rintro r w1 ⟨rfl,rfl⟩
   go_wp2_with fail
   refine (Hd.out _).mono ?_;rintro r w1 ⟨rfl,rfl⟩
   go_wp2_with fail
   refine (Hm.out _).mono ?_;rintro r w1 ⟨rfl,rfl⟩
   go_wp2_with fail
   refine (Hp.out _).mono ?_;rintro r w1 ⟨rfl,rfl⟩
   go_wp2_with fail
   refine (Ha.out _).mono ?_;rintro r w1 ⟨rfl,rfl⟩;go_wp2;go_ret;exact ⟨by first | rfl | simp,below _⟩
 · rw [e1,e2,e3,g1]
   rw [e1] at Hn;rw [e2] at Hu;rw [e3] at Hd;rw [g1] at Hm;clear e1 e2 e3 g1;go_enter Tryz.func75,Tryz.ntmps75
   go_wp2_with fail
   refine (Hn.out _).mono ?_;rintro r w1 ⟨rfl,rfl⟩
   go_wp2_with fail
   refine (Hu.out _).mono ?_;rintro r w1 ⟨rfl,rfl⟩
   go_wp2_with fail
   refine (Hd.out _).mono ?_;rintro r w1 ⟨rfl,rfl⟩
   go_wp2_with fail
   refine (Hm.out _).mono ?_;rintro r w1 ⟨rfl,rfl⟩;go_wp2;go_ret;exact ⟨by first | rfl | simp,below _⟩
 · rw [e1,e2,e3,g1,g2]
   rw [e1] at Hn;rw [e2] at Hu;rw [e3] at Hd;rw [g1] at Hm;rw [g2] at Hp;clear e1 e2 e3 g1 g2;go_enter Tryz.func75,Tryz.ntmps75
   go_wp2_with fail
   refine (Hn.out _).mono ?_;rintro r w1 ⟨rfl,rfl⟩
   go_wp2_with fail
   refine (Hu.out _).mono ?_;rintro r w1 ⟨rfl,rfl⟩
   go_wp2_with fail
   refine (Hd.out _).mono ?_;rintro r w1 ⟨rfl,rfl⟩
   go_wp2_with fail
   refine (Hm.out _).mono ?_;rintro r w1 ⟨rfl,rfl⟩
   go_wp2_with fail
   refine (Hp.out _).mono ?_;rintro r w1 ⟨rfl,rfl⟩;go_wp2;go_ret;exact ⟨by first | rfl | simp,below _⟩
 · rw [e1,e2,e3,g1,g2,g3]
   rw [e1] at Hn;rw [e2] at Hu;rw [e3] at Hd;rw [g1] at Hm;rw [g2] at Hp;rw [g3] at Ha;clear e1 e2 e3 g1 g2 g3;go_enter Tryz.func75,Tryz.ntmps75
   go_wp2_with fail
   refine (Hn.out _).mono ?_;rintro r w1 ⟨rfl,rfl⟩
   go_wp2_with fail
   refine (Hu.out _).mono ?_;rintro r w1 ⟨rfl,rfl⟩
   go_wp2_with fail
   refine (Hd.out _).mono ?_;rintro r w1 ⟨rfl,rfl⟩
   go_wp2_with fail
   refine (Hm.out _).mono ?_;rintro r w1 ⟨rfl,rfl⟩
   go_wp2_with fail
   refine (Hp.out _).mono ?_;rintro r w1 ⟨rfl,rfl⟩
   go_wp2_with fail
   refine (Ha.out _).mono ?_;rintro r w1 ⟨rfl,rfl⟩;go_wp2;go_ret;exact ⟨by first | rfl | simp,below _⟩
 · rw [e1,e2,e3,g1,g2,g3]
   rw [e1] at Hn;rw [e2] at Hu;rw [e3] at Hd;rw [g1] at Hm;rw [g2] at Hp;rw [g3] at Ha;have kn:=ct_true e1;have ku:=ct_true e2;have kd:=ct_true e3;have km:=ct_true g1;have kp:=ct_true g2;have ka:=ct_true g3;clear e1 e2 e3 g1 g2 g3;go_enter Tryz.func75,Tryz.ntmps75
   go_wp2_with fail
   refine (Hn.out _).mono ?_;rintro r w1 ⟨rfl,rfl⟩
   go_wp2_with fail
   refine (Hu.out _).mono ?_;rintro r w1 ⟨rfl,rfl⟩
   go_wp2_with fail
   refine (Hd.out _).mono ?_;rintro r w1 ⟨rfl,rfl⟩
   go_wp2_with fail
   refine (Hm.out _).mono ?_;rintro r w1 ⟨rfl,rfl⟩
   go_wp2_with fail
   refine (Hp.out _).mono ?_;rintro r w1 ⟨rfl,rfl⟩
   go_wp2_with fail
   refine (Ha.out _).mono ?_;rintro r w1 ⟨rfl,rfl⟩;go_wp2;go_ret;exact ⟨by first | rfl | simp,below _⟩
end
section
open Go.RowKit
open Go.Proofs.YtjldfhecnaiinaaGreatDoor.B (f64bits f64frombits bw bcell)
attribute [local go_sem] f64bits f64frombits
open Go.RowKit
open Go.Proofs.YtjldfhecnaiinaaGreatDoor.B (f64bits f64frombits bw bcell)
attribute [local go_sem] f64bits f64frombits
theorem rNought_any (n u d m p l mode:Int) (w:World):Calls Tryz.prog 78 #[.agg #[.int .i64 n,.int .i64 u,.int .i64 d,.int .i64 m,.int .i64 p,.int .i64 l],.int .i64 mode] w fun r w'=>r=.returned (.float .f64 (nt (snd n u d m p l) n u d m p l mode))∧Below w.heap.size w w':=by
 have HS:=hid (MayBe_any n u d m p l);have HM:=hid (minus_any);have HT:=hid (Zero_any true);have HF:=hid (Zero_any false)
 rcases hs:snd n u d m p l with _|_
 · rw [hs] at HS
   have hv:nt false n u d m p l mode=0:=if_pos rfl;rw [hv];clear hs hv;go_enter Tryz.func78,Tryz.ntmps78
   go_wp2_with fail
   refine (HS.out _).mono ?_;rintro r w1 ⟨rfl,hb1⟩;have hz1:=hb1.size;simp at hz1;obtain ⟨hc1,hf1⟩:=bcell hb1;have B1:=qsd hb1;clear hb1
   go_wp2_with fail
   refine (HF.out _).mono ?_;rintro r w3 ⟨rfl,rfl⟩;go_wp2;go_ret;exact ⟨by first | rfl | simp,((Below.refl _ w).alloc (Nat.le_refl _) _).trans (B1.out.mono (by simp))⟩
 have bd:=snd_bd hs;rw [hs] at HS;obtain ⟨f,hf⟩:∃ f,l-n-u-d=f:=⟨_,rfl⟩;have hfb:-9223372036854775808≤f∧f≤9223372036854775807:=by omega
 have hb1:0≤n∧n≤1099511627776:=bd.1;have hb2:0≤u∧u≤1099511627776:=bd.2.1;have hb3:0≤d∧d≤1099511627776:=bd.2.2.1;have hb4:0≤l∧l≤1099511627776:=bd.2.2.2;unfold nt;rw [if_neg (by decide),hf]
 clear hs bd
 by_cases p1:f=0
 · rw [if_pos p1]
   have q1:(f==0)=true:=by rw [beq_iff_eq];exact p1
   clear p1;go_enter Tryz.func78,Tryz.ntmps78
   go_wp2_with fail
   refine (HS.out _).mono ?_;rintro r w1 ⟨rfl,hb1⟩;have hz1:=hb1.size;simp at hz1;obtain ⟨hc1,hf1⟩:=bcell hb1;have B1:=qsd hb1;clear hb1
   go_wp2_with fail
   refine (HF.out _).mono ?_;rintro r w3 ⟨rfl,rfl⟩;go_wp2;go_ret;exact ⟨by first | rfl | simp,((Below.refl _ w).alloc (Nat.le_refl _) _).trans (B1.out.mono (by simp))⟩
 rw [if_neg p1];have q1:(f==0)=false:=by rw [beq_eq_false_iff_ne];exact p1
 clear p1
 by_cases p2:m=f
 · rw [if_pos p2]
   have q2:(m==f)=true:=by rw [beq_iff_eq];exact p2
   clear p2;go_enter Tryz.func78,Tryz.ntmps78
   go_wp2_with fail
   refine (HS.out _).mono ?_;rintro r w1 ⟨rfl,hb1⟩;have hz1:=hb1.size;simp at hz1;obtain ⟨hc1,hf1⟩:=bcell hb1;have B1:=qsd hb1;clear hb1
   go_wp2_with fail
   refine (HT.out _).mono ?_;rintro r w3 ⟨rfl,rfl⟩;go_wp2;go_ret;exact ⟨by first | rfl | simp,((Below.refl _ w).alloc (Nat.le_refl _) _).trans (B1.out.mono (by simp))⟩
 rw [if_neg p2];have q2:(m==f)=false:=by rw [beq_eq_false_iff_ne];exact p2
 clear p2
 by_cases p3:p=f
 · rw [if_pos p3]
   have q3:(p==f)=true:=by rw [beq_iff_eq];exact p3
   clear p3;go_enter Tryz.func78,Tryz.ntmps78
   go_wp2_with fail
   refine (HS.out _).mono ?_;rintro r w1 ⟨rfl,hb1⟩;have hz1:=hb1.size;simp at hz1;obtain ⟨hc1,hf1⟩:=bcell hb1;have B1:=qsd hb1;clear hb1
   go_wp2_with fail
   refine (HF.out _).mono ?_;rintro r w3 ⟨rfl,rfl⟩;go_wp2;go_ret;exact ⟨by first | rfl | simp,((Below.refl _ w).alloc (Nat.le_refl _) _).trans (B1.out.mono (by simp))⟩
 rw [if_neg p3];have q3:(p==f)=false:=by rw [beq_eq_false_iff_ne];exact p3
 clear p3
 by_cases p4:mode=3
 · rw [if_pos p4]
   subst p4;go_enter Tryz.func78,Tryz.ntmps78
   go_wp2_with fail
   refine (HS.out _).mono ?_;rintro r w1 ⟨rfl,hb1⟩;have hz1:=hb1.size;simp at hz1;obtain ⟨hc1,hf1⟩:=bcell hb1;have B1:=qsd hb1;clear hb1
   go_wp2_with fail
   refine (HT.out _).mono ?_;rintro r w3 ⟨rfl,rfl⟩;go_wp2;go_ret;exact ⟨by first | rfl | simp,((Below.refl _ w).alloc (Nat.le_refl _) _).trans (B1.out.mono (by simp))⟩
 · rw [if_neg p4]
   have q4:(mode==3)=false:=by rw [beq_eq_false_iff_ne];exact p4
   clear p4;go_enter Tryz.func78,Tryz.ntmps78
   go_wp2_with fail
   refine (HS.out _).mono ?_;rintro r w1 ⟨rfl,hb1⟩;have hz1:=hb1.size;simp at hz1;obtain ⟨hc1,hf1⟩:=bcell hb1;have B1:=qsd hb1;clear hb1
   go_wp2_with fail
   refine (HF.out _).mono ?_;rintro r w3 ⟨rfl,rfl⟩;go_wp2;go_ret;exact ⟨by first | rfl | simp,((Below.refl _ w).alloc (Nat.le_refl _) _).trans (B1.out.mono (by simp))⟩
end
section
open Go.RowKit J
attribute [local go_sem] st_float
theorem bd12 {V:Int}(n:Nat) (hn:n≤65536) (h:-((n*QB:Nat):Int)≤V∧V≤((n*QB:Nat):Int)) (j:Nat) (hj:j=4238):V.natAbs<2^j:=by
 rw [←HB_two j hj,QB_HB];have h3:n*QB≤65536*QB:=Nat.mul_le_mul_right _ hn;have h5:=QB_pos;omega
end
section
open Go.RowKit J
attribute [local go_sem] st_float
theorem kd_neg {x:Nat}(hx:x<18446744073709551616):(kd x=4→negW x=true)∧(kd x=3→negW x=false)∧(kd x=1→negW x=true)∧(kd x=2→negW x=false):=by
 have e2:negW x=decide (9223372036854775808≤x):=rfl;rw [e2];unfold kd
 by_cases h1:9218868437227405312<x%9223372036854775808
 · rw [if_pos h1];omega
 · rw [if_neg h1]
   by_cases h2:x%9223372036854775808=9218868437227405312
   · rw [if_pos h2]
     by_cases h3:x/9223372036854775808=1
     · rw [if_pos h3]
       exact ⟨fun _=>decide_eq_true (by omega),(fun h=>by omega),(fun h=>by omega),(fun h=>by omega)⟩
     · rw [if_neg h3]
       exact ⟨(fun h=>by omega),fun _=>decide_eq_false (by omega),(fun h=>by omega),(fun h=>by omega)⟩
   · rw [if_neg h2]
     by_cases h4:x%9223372036854775808=0
     · rw [if_pos h4]
       by_cases h3:x/9223372036854775808=1
       · rw [if_pos h3]
         exact ⟨(fun h=>by omega),(fun h=>by omega),fun _=>decide_eq_true (by omega),(fun h=>by omega)⟩
       · rw [if_neg h3]
         exact ⟨(fun h=>by omega),(fun h=>by omega),(fun h=>by omega),fun _=>decide_eq_false (by omega)⟩
     · rw [if_neg h4];omega
theorem ex_fo {V:Int}(m:Nat) (hm:m≤10000) (hV:V.natAbs<2^m) (k:Nat) (hk:k=1074):exV (V*((2^k:Nat):Int))=fo8 V:=by
 have hb:(V*((2^k:Nat):Int)).natAbs<2^(m+k):=by
  rw [Int.natAbs_mul,Int.natAbs_natCast,Nat.pow_add];exact Nat.mul_lt_mul_of_pos_right hV (Nat.two_pow_pos k)
 have F:=ex_fm _ (m+k) (by omega) hb
 have G:=fo_fm V m (by omega) hV
 refine valO_inj F G ?_;rw [val_ex F,val_fo G,YX k hk,Int.natCast_mul,Int.mul_assoc]
theorem one7 {x:Nat}(hx:x<18446744073709551616):kOf (kd x)=pK x 4607182418800017408∧oZ x=exV (pT x 4607182418800017408)∧kd x≤5:=by
 have h1:(4607182418800017408:Nat)<18446744073709551616:=by decide
 have k1:kd 4607182418800017408=0:=by decide +kernel
 have n1:negW 4607182418800017408=false:=by decide +kernel
 obtain ⟨p1,p2,p3,p4⟩:=prod7 hx h1;obtain ⟨q4,q3,q1,q2⟩:=kd_neg hx;unfold na7 at p1 p2 p3 p4;rw [k1,n1] at *;refine ⟨?_,?_,kd_le12 x⟩
 · rcases cls_kd hx with ⟨k,c⟩ | ⟨k,c,n⟩ | ⟨k,c,n,f,v⟩ | ⟨k,c,n,f⟩
   · rw [(p1 (by rw [k];rfl)).1,k];rfl
   · rcases k with k | k
     · rw [(p2 (by rw [k];rfl) (by rw [k];rfl)).2.1,q3 k,k];rfl
     · rw [(p2 (by rw [k];rfl) (by rw [k];rfl)).2.1,q4 k,k];rfl
   · rcases k with k | k
     · rw [(p3 (by rw [k];rfl) (by rw [k];rfl) (by rw [k];rfl)).2.1,q1 k,k];rfl
     · rw [(p3 (by rw [k];rfl) (by rw [k];rfl) (by rw [k];rfl)).2.1,q2 k,k];rfl
   · rw [(p4 (by rw [k];rfl) (by rw [k];rfl) (by rw [k];rfl)).2.2,k];rfl
 · rcases cls_kd hx with ⟨k,c⟩ | ⟨k,c,n⟩ | ⟨k,c,n,f,v⟩ | ⟨k,c,n,f⟩
   · rw [(p1 (by rw [k];rfl)).2,ex_zero]
     exact oZ_odd (by intro f;rcases (fin_parts hx f).2.2.2 with q | q <;> omega)
   · have e:pT x 4607182418800017408=0:=by
      rcases k with k|k
      · exact (p2 (by rw [k];rfl) (by rw [k];rfl)).2.2
      · exact (p2 (by rw [k];rfl) (by rw [k];rfl)).2.2
     rw [e,ex_zero];exact oZ_odd (by intro f;rcases (fin_parts hx f).2.2.2 with q | q <;> omega)
   · have e:pT x 4607182418800017408=0:=by
      rcases k with k|k
      · exact (p3 (by rw [k];rfl) (by rw [k];rfl) (by rw [k];rfl)).2.2
      · exact (p3 (by rw [k];rfl) (by rw [k];rfl) (by rw [k];rfl)).2.2
     rw [e,ex_zero];exact oZ_zero f v
   · obtain ⟨z,hz⟩:∃ z,z=2098:=⟨_,rfl⟩
     obtain ⟨i,hi⟩:∃ i,i=1074:=⟨_,rfl⟩;have fo:finW 4607182418800017408:=by decide
     rw [(pT_mul hx h1 f fo).1,f1 i hi,Nat.one_mul,ex_fo z (by omega) (top_fv hx f z hz) i hi,oZ_fin f]
     rfl
def st9 (w:World) (g:Nat) (a b c d e f h i j:Value):World:=((((((((w.setCell ⟨g,0,none⟩ a).setCell ⟨g,1,none⟩ b).setCell ⟨g,2,none⟩ c).setCell ⟨g,3,none⟩ d).setCell ⟨g,4,none⟩ e).setCell ⟨g,5,none⟩ f).setCell ⟨g,6,none⟩ h).setCell ⟨g,7,none⟩ i).setCell ⟨g,8,none⟩ j
theorem Bl.st9 {w:World}{g T:Nat}{a' b' c' d' e' f' h' i' j':Value}(H:Bl w g T [a',b',c',d',e',f',h',i',j']) (a b c d e f h i j:Value):Bl (st9 w g a b c d e f h i j) g T [a,b,c,d,e,f,h,i,j] :=
 ((((((((H.set 0 a).set 1 b).set 2 c).set 3 d).set 4 e).set 5 f).set 6 h).set 7 i).set 8 j
theorem st9_but (w:World) (g:Nat) (a b c d e f h i j:Value):But g w (st9 w g a b c d e f h i j):=(((((((((But.refl g w).set 0 a).set 1 b).set 2 c).set 3 d).set 4 e).set 5 f).set 6 h).set 7 i).set 8 j
set_option maxRecDepth 100000 in
theorem rWhole12 (xs:List Nat) (a:Option Addr) (n c:Nat) (w:World) (hn:n=xs.length) (hF:Fs w.heap.size w a xs) (hW:W64 xs) (hm:n≤65536) :
 Calls Tryz.prog 36 #[.slice a n c] w fun r w'=>(∃ p q,r=.returned (.agg #[.bool (dN (exV (vS xs))),.slice p (ws (dX (exV (vS xs)))).length q,.int .i64 (dE (exV (vS xs))),.int .i64 (sS xs).n,.int .i64 (sS xs).u,.int .i64 (sS xs).d,.int .i64 (sS xs).m,.int .i64 (sS xs).p,.int .i64 (sS xs).a])∧Nt 0 w' (.slice p (ws (dX (exV (vS xs)))).length q) (dX (exV (vS xs))))∧Below w.heap.size w w':=by
 obtain ⟨ov,hov⟩:∃ o,o=exV (vS xs):=⟨_,rfl⟩;obtain ⟨⟨fn,fu,fd,fm,fp,fa⟩,hs0⟩:∃ s,s=sS xs:=⟨_,rfl⟩;rw [←hov,←hs0];simp only;have OV:=qsd (ai hov hs0);clear hov hs0;obtain ⟨W,hWW⟩:∃ W,W=(w.alloc (Obj.cells #[.bool false,.slice none 0 0,.int .i64 0,.int .i64 0,.int .i64 0,.int .i64 0,.int .i64 0,.int .i64 0,.int .i64 0] 63)).alloc (Obj.cells #[.bool false,.slice none 0 0,.int .i64 0,.int .i64 0,.int .i64 0,.int .i64 0,.int .i64 0,.int .i64 0,.int .i64 0] 63):=⟨_,rfl⟩;obtain ⟨g2,hg2⟩:∃ x,x=w.heap.size:=⟨_,rfl⟩
 have H0:Aside (La W (g2+1) o00 ⟨0,0,0,0,0,0⟩∧Bl W g2 63 [.bool false,.slice none 0 0,.int .i64 0,.int .i64 0,.int .i64 0,.int .i64 0,.int .i64 0,.int .i64 0,.int .i64 0]∧Below w.heap.size w W∧w.heap.size≤g2):=by
  rw [hWW,hg2];refine ⟨⟨none,0,?_,?_⟩,(Bl.new w 63 [_,_,_,_,_,_,_,_,_]).alloc _,(bel_alloc _ _).trans ((bel_alloc _ _).mono (by simp)),Nat.le_refl _⟩
  · unfold laC
    rw [len00];exact Bl.new' (w.alloc _) 63 _ [_,_,_,_,_,_,_,_,_] (by simp)
  · rw [len00];exact Nt.nil _ _
 have HW2:=qsd hWW;have HG:=qsd hg2;have PP:=qsd (ai hn (ai hF (ai hW (show xs.length≤65536 by omega))))
 clear hWW hg2 hn hF hW;go_enter Tryz.func36,Tryz.ntmps36;go_wp2;rw [←HW2.out,←HG.out];clear HW2 HG
 go_loopg [4] n (fun gk i wr=>∃ k:Nat,gk+k=n∧i=.int .i64 (k:Nat)∧Aside (La wr (g2+1) (exV (vS (xs.take k))) (sS (xs.take k))∧Bl wr g2 63 [.bool false,.slice none 0 0,.int .i64 0,.int .i64 0,.int .i64 0,.int .i64 0,.int .i64 0,.int .i64 0,.int .i64 0]∧Below w.heap.size w wr∧w.heap.size≤g2))
 case atStart=>exact ⟨0,by omega,by simp,by rw [List.take_zero,show vS []=0 from rfl,show sS []=⟨0,0,0,0,0,0⟩ from rfl,ex_zero];exact H0.out⟩
 case round =>
  clear H0;obtain ⟨k,hgk,rfl,HL⟩:=hrel
  by_cases hk:k<n
  · obtain ⟨b,off,rfl,hcx⟩:=PP.out.2.1.at HL.out.2.2.1 k (by rw [←PP.out.1];exact hk)
    have hln:=PP.out.1;have e1:=vS_take xs k (by omega)
    have e2:=sS_take xs k (by omega)
    have hx64:=PP.out.2.2.1.get k;obtain ⟨x,hx⟩:∃ x,x=xs.getD k 0:=⟨_,rfl⟩;rw [←hx] at hcx e1 e2 hx64;obtain ⟨o1,o2,o3⟩:=one7 hx64;obtain ⟨j,hj⟩:∃ j,j=4238:=⟨_,rfl⟩;have v0:=bd12 k (by omega) (vS_bound xs PP.out.2.2.1 k (by omega)) j hj
    have v2:=bd12 (k+1) (by omega) (vS_bound xs PP.out.2.2.1 (k+1) (by omega)) j hj
    have sp:=sS_pos xs k (by omega)
    have vT:(pT x 4607182418800017408).natAbs<2^j:=bd12 1 (by omega) (by rw [Nat.one_mul];exact pT_small x _ hx64 (by decide)) j hj
    rw [e1] at v2;obtain ⟨V0,hV0⟩:∃ V,V=vS (xs.take k):=⟨_,rfl⟩;obtain ⟨⟨sn,su,sd,sm,sp',sa⟩,hs0⟩:∃ s,s=sS (xs.take k):=⟨_,rfl⟩;rw [←hV0] at v0 v2 e1;rw [←hs0] at sp e2;have HL':=HL;rw [←hV0,←hs0] at HL';obtain ⟨⟨s1,s2,s3,s4,s5,s6'⟩,sa'⟩:=sp;simp only at s1 s2 s3 s4 s5 s6' sa';have HP:=hid (fun u:World=>rOf7x x u hx64)
    have FX:=qsd (oZ_iv x hx64).fm
    have HA:Hid (∀ (U:World) (q:Option Addr) (cq:Nat),La U (g2+1) (exV V0) ⟨sn,su,sd,sm,sp',sa⟩→Nt 0 U (.slice q (ws (dX (oZ x))).length cq) (dX (oZ x))→Calls Tryz.prog 73 #[.pointer (some ⟨g2+1,0,none⟩),.agg #[.int .i64 (kd x:Nat),.bool (dN (oZ x)),.slice q (ws (dX (oZ x))).length cq,.int .i64 (dE (oZ x))]] U fun r w'=>r=.returned (.int .i64 0)∧La w' (g2+1) (exV (V0+pT x 4607182418800017408)) ((Sp.mk sn su sd sm sp' sa).cnt (pK x 4607182418800017408) 1)∧But (g2+1) U w'):=fun U q cq hLa hNt=>by
     rw [o2] at hNt ⊢;have:=rAdd7 (g2+1) V0 (pT x 4607182418800017408) sn su sd sm sp' sa (kd x) q cq U hLa (by unfold Sp.ok;simp only;omega) o3 (by omega) hNt j hj v0 vT v2
     rw [o1] at this;exact this
    have EE:=qsd (ai e1 e2);have hkb:k<4611686018427387904:=by omega
    obtain ⟨ox,hox⟩:∃ o,o=oZ x:=⟨_,rfl⟩;obtain ⟨jx,hjx⟩:∃ j:Nat,j=kd x:=⟨_,rfl⟩;rw [←hox,←hjx] at HP HA;rw [←hox] at FX;clear hx hj v0 v2 vT e1 e2 hV0 hs0 HL hln hx64 s1 s2 s3 s4 s5 s6' sa' o1 o2 o3 hox hjx;have hd1:decide ((k:Int)<(n:Nat))=true:=by simp;omega
    go_wp2_with fail
    refine (HP.out wr).mono ?_;rintro r u ⟨⟨v,rfl,hN⟩,hb⟩;obtain ⟨a1,c1,rfl,hN0⟩:=Lo.shape FX.out hN;have HA1:=hid (HA.out u a1 c1 (HL'.out.1.below hb) hN0);have K1:Aside (Bl u g2 63 [.bool false,.slice none 0 0,.int .i64 0,.int .i64 0,.int .i64 0,.int .i64 0,.int .i64 0,.int .i64 0,.int .i64 0]∧Below w.heap.size w u∧w.heap.size≤g2):=⟨HL'.out.2.1.below hb HL'.out.2.1.lt,HL'.out.2.2.1.trans (hb.mono HL'.out.2.2.1.size),HL'.out.2.2.2⟩;clear hN hN0 hb HP HA HL' hcx
    go_wp2_with fail
    refine HA1.out.mono ?_;rintro r u2 ⟨rfl,hla,hbt⟩
    have H4:Aside (La u2 (g2+1) (exV (vS (xs.take (k+1)))) (sS (xs.take (k+1)))∧Bl u2 g2 63 [.bool false,.slice none 0 0,.int .i64 0,.int .i64 0,.int .i64 0,.int .i64 0,.int .i64 0,.int .i64 0,.int .i64 0]∧Below w.heap.size w u2∧w.heap.size≤g2):=by
     rw [EE.out.1,EE.out.2];exact ⟨hla,Bl.but K1.out.1 hbt (by omega),But.below K1.out.2.1 hbt K1.out.2.1.size (by have:=K1.out.2.2;omega),K1.out.2.2⟩
    clear hla hbt K1 EE HA1;go_wp2
    go_roundg (gk-1)
    case measure=>omega
    case rel=>exact ⟨k+1,by omega,by first | rfl | simp,H4.out⟩
  · obtain rfl:n=k:=by omega
    have hd1:decide ((n:Int)<(n:Nat))=false:=by simp
    have e:xs.take n=xs:=List.take_of_length_le (by rw [←PP.out.1];omega)
    rw [e] at HL;rw [←OV.out.1,←OV.out.2] at HL;obtain ⟨p,q,BV,NV⟩:=HL.out.1;unfold laC at BV;simp only at BV;obtain ⟨⟨v0,v1,v2⟩,v3,v4,v5,v6,v7,v8⟩:=BV.facts9;have hB2:=HL.out.2.1;obtain ⟨⟨y0,y1,y2⟩,y3,y4,y5,y6,y7,y8⟩:=hB2.facts9;have f0:=hB2.frozen 0;have f1:=hB2.frozen 1;have f2:=hB2.frozen 2;have f3:=hB2.frozen 3;have f4:=hB2.frozen 4;have f5:=hB2.frozen 5;have f6:=hB2.frozen 6;have f7:=hB2.frozen 7;have f8:=hB2.frozen 8
    have HF:Aside (Bl (st9 wr g2 (.bool (dN ov)) (.slice p (ws (dX ov)).length q) (.int .i64 (dE ov)) (.int .i64 fn) (.int .i64 fu) (.int .i64 fd) (.int .i64 fm) (.int .i64 fp) (.int .i64 fa)) g2 63 [.bool (dN ov),.slice p (ws (dX ov)).length q,.int .i64 (dE ov),.int .i64 fn,.int .i64 fu,.int .i64 fd,.int .i64 fm,.int .i64 fp,.int .i64 fa]∧Nt 0 (st9 wr g2 (.bool (dN ov)) (.slice p (ws (dX ov)).length q) (.int .i64 (dE ov)) (.int .i64 fn) (.int .i64 fu) (.int .i64 fd) (.int .i64 fm) (.int .i64 fp) (.int .i64 fa)) (.slice p (ws (dX ov)).length q) (dX ov)∧Below w.heap.size w (st9 wr g2 (.bool (dN ov)) (.slice p (ws (dX ov)).length q) (.int .i64 (dE ov)) (.int .i64 fn) (.int .i64 fu) (.int .i64 fd) (.int .i64 fm) (.int .i64 fp) (.int .i64 fa))) :=
     ⟨hB2.st9 _ _ _ _ _ _ _ _ _,NV.offA hB2 (by decide) (st9_but _ _ _ _ _ _ _ _ _ _ _),But.below HL.out.2.2.1 (st9_but _ _ _ _ _ _ _ _ _ _ _) HL.out.2.2.1.size HL.out.2.2.2⟩
    unfold st9 at HF;clear BV NV hB2 e HL OV;go_wp2;obtain ⟨⟨t0,t1,t2⟩,t3,t4,t5,t6,t7,t8⟩:=HF.out.1.facts9;exact bodyPost_ret (v:=.agg #[.bool (dN ov),.slice p (ws (dX ov)).length q,.int .i64 (dE ov),.int .i64 fn,.int .i64 fu,.int .i64 fd,.int .i64 fm,.int .i64 fp,.int .i64 fa]) (by simp [results,Tryz.results36,go_sem,t0,t1,t2,t3,t4,t5,t6,t7,t8]) rfl ⟨⟨p,q,rfl,HF.out.2.1⟩,HF.out.2.2⟩
end
section
open Go.RowKit J
attribute [local go_sem] st_float
theorem Fm.al13 {w:World}{p:Option Addr}{c:Nat}{o:Option (Bool×Nat×Int)}(F:Fm o) (N:Nt 0 w (.slice p (ws (dX o)).length c) (dX o)):Al w (.slice p (ws (dX o)).length c) (dX o):=⟨p,_,c,ws (dX o),rfl,F.a12 N,val_ws _,Nat.le_trans F.len (by decide)⟩
theorem no13 (e:Int) (w:World):Calls Tryz.prog 35 #[.int .i64 e] w fun r w'=>r=.returned (.tuple #[.float .f64 0,.int .i64 e])∧w'=w:=by
 have H:=hid (rOf10z w);go_enter Tryz.func35,Tryz.ntmps35
 go_wp2_with fail
 refine H.out.mono ?_;rintro r v ⟨rfl,hv⟩;rw [hv];clear hv v H;go_wp2;exact bodyPost_ret (v:=.tuple #[.float .f64 0,.int .i64 e]) (by simp [results,Tryz.results35,go_sem]) rfl ⟨rfl,rfl⟩
theorem cls_fin {x:Nat}(hx:x<18446744073709551616):(finW x→clW x≤2)∧(¬ finW x→2<clW x):=by
 constructor
 · intro fx
   rcases (fin_parts hx fx).2.2.2 with q|q <;> omega
 · intro nx
   rcases Nat.lt_trichotomy 9218868437227405312 (magW x) with h|h|h
   · rw [cl_nan h];decide
   · rw [(cl_inf h.symm).1];decide
   · exact absurd h nx
theorem rClass13 {x:Nat}(hx:x<18446744073709551616) (w:World):Calls Tryz.prog 89 #[.float .f64 x] w fun r w'=>r=.returned (.int .i64 (clW x))∧Below w.heap.size w w':=by
 obtain ⟨h1,h2,h3⟩:=bw_parts x hx;have:=B.rClass_any (sW x) (eW x) (fW x) h2 h3 w;rw [←h1] at this;exact this
theorem rFinite13 (xs:List Nat) (a:Option Addr) (n c:Nat) (w:World) (hn:n=xs.length) (hF:Fs w.heap.size w a xs) (hW:W64 xs) (hl:n≤35184372088832) (t:Bool) (ht:t=true↔∀ x ∈ xs,finW x) :
 Calls Tryz.prog 47 #[.slice a n c] w fun r w'=>r=.returned (.bool t)∧Below w.heap.size w w':=by
 have HX:=(qsd (ai hn (ai hF (ai hW ht))));clear hn hF hW ht;go_enter Tryz.func47,Tryz.ntmps47;go_wp2
 go_loopg [3] n (fun gk i wr=>∃ k:Nat,gk+k=n∧i=.int .i64 (k:Nat)∧Aside (Below w.heap.size w wr∧∀ j,j<k→finW (xs.getD j 0)))
 case atStart=>exact ⟨0,by omega,by simp,Below.refl _ _,fun j hj=>absurd hj (by omega)⟩
 case round =>
  obtain ⟨k,hgk,rfl,HA⟩:=hrel
  by_cases hk:k<n
  · obtain ⟨b,off,rfl,hc⟩:=HX.out.2.1.at HA.out.1 k (by rw [←HX.out.1];exact hk)
    obtain ⟨x,hx⟩:∃ x,x=xs.getD k 0:=⟨_,rfl⟩;rw [←hx] at hc;have hx64:x<18446744073709551616:=by rw [hx];exact HX.out.2.2.1.get k
    have C:=hid (rClass13 hx64 wr);obtain ⟨f1,f2⟩:=cls_fin hx64;obtain ⟨cl,hcl⟩:∃ c,clW x=c:=⟨_,rfl⟩;rw [hcl] at C f1 f2;have HF:=(qsd (ai f1 (ai f2 hx)));clear hx hcl f1 f2 hx64;have hkb:k<4611686018427387904:=by omega
    have hd:decide ((k:Int)<n)=true:=by simp;omega
    go_wp2_with fail
    refine C.out.mono ?_;rintro r v ⟨rfl,hb⟩;have HB:=qsd (HA.out.1.trans (hb.mono HA.out.1.size));clear hb C hc
    by_cases hc2:2<cl
    · have d1:decide (2<cl)=true:=decide_eq_true hc2
      have hnf:¬ finW x:=fun h=>by have:=HF.out.1 h;omega
      have HT:Aside (t=false):=by
       cases ht:t with
       | false=>rfl
       | true =>
         exfalso
         have:=HX.out.2.2.2.1 ht (xs.getD k 0) (by rw [List.getD_eq_getElem?_getD,List.getElem?_eq_getElem (show k<xs.length by rw [←HX.out.1];exact hk)];exact List.getElem_mem _)
         rw [←HF.out.2.2] at this;exact hnf this
      clear hnf;go_wp2;go_ret;exact ⟨by rw [HT.out];rfl,HB.out⟩
    · have d1:decide (2<cl)=false:=decide_eq_false hc2
      have hf:Aside (finW x):=by
       by_cases h:finW x
       · exact h
       · exact absurd (HF.out.2.1 h) hc2
      go_wp2
      go_roundg (gk-1)
      case measure=>omega
      case rel =>
       refine ⟨k+1,by omega,by first | rfl | simp,HB.out,fun j hj=>?_⟩
       by_cases e:j=k
       · subst e;rw [←HF.out.2.2];exact hf.out
       · exact HA.out.2 j (by omega)
  · obtain rfl:n=k:=by omega
    have hd:decide ((n:Int)<n)=false:=by simp
    have HT:Aside (t=true):=by
     refine HX.out.2.2.2.2 fun x hx=>?_
     obtain ⟨j,hj,rfl⟩:=List.mem_iff_getElem.1 hx;have:=HA.out.2 j (by rw [HX.out.1];exact hj)
     rw [List.getD_eq_getElem?_getD,List.getElem?_eq_getElem hj] at this
     exact this
    go_wp2;go_ret;exact ⟨by rw [HT.out];rfl,HA.out.1⟩
noncomputable def toR (V:Int) (n:Nat) (s:Sp) (mode:Int):Nat×Int:=if V=0 then (nt (snd s.n s.u s.d s.m s.p s.a) s.n s.u s.d s.m s.p s.a mode,0) else qnR V n mode
theorem lev_to {xs:List Nat}(hne:xs≠[]) (s:Sp) (mode:Int):levR xs s mode=toR (vS xs) xs.length s mode:=by unfold levR toR;rw [if_neg hne]
theorem rTold13 (V:Int) (p:Option Addr) (q n:Nat) (sn su sd sm sp sa mode:Int) (w:World) (k:Nat) (hk:k≤90000) (hb:V.natAbs<2^k) (hN:Nt 0 w (.slice p (ws (dX (exV V))).length q) (dX (exV V))) (hn:n≤1099511627776) (z:Nat×Int) (hz:toR V n ⟨sn,su,sd,sm,sp,sa⟩ mode=z) :
 Calls Tryz.prog 39 #[.agg #[.bool (dN (exV V)),.slice p (ws (dX (exV V))).length q,.int .i64 (dE (exV V))],.int .i64 (n:Nat),.agg #[.int .i64 sn,.int .i64 su,.int .i64 sd,.int .i64 sm,.int .i64 sp,.int .i64 sa],.int .i64 mode] w fun r w'=>r=.returned (.tuple #[.float .f64 z.1,.int .i64 z.2])∧Below w.heap.size w w':=by
 obtain ⟨X,E⟩:=z;simp only;unfold toR at hz;have Fv:=qsd (ex_fm V k (by omega) hb)
 have hl0:(V=0→(ws (dX (exV V))).length=0)∧(V≠0→(ws (dX (exV V))).length≠0):=by
  constructor
  · rintro rfl;rw [ex_zero];exact len00
  · intro h
    obtain ⟨X,e,ho,hX,_⟩:=ex_parts13 h k hk hb;rw [ho];intro h2;have:ws X=[]:=List.eq_nil_of_length_eq_zero h2;have h3:=val_ws X;rw [this] at h3;simp [val] at h3;omega
 obtain ⟨ov,hov⟩:∃ o,exV V=o:=⟨_,rfl⟩;rw [hov] at hN Fv hl0 ⊢;obtain ⟨W,hWW⟩:∃ W,W=(w.alloc (Obj.cells #[.bool (dN ov),.slice p (ws (dX ov)).length q,.int .i64 (dE ov)] 41)).alloc (Obj.cells #[.int .i64 sn,.int .i64 su,.int .i64 sd,.int .i64 sm,.int .i64 sp,.int .i64 sa] 51):=⟨_,rfl⟩
 have B0:Aside (Dk W w.heap.size (dN ov) (.slice p (ws (dX ov)).length q) (dE ov)∧Bl W (w.heap.size+1) 51 [.int .i64 sn,.int .i64 su,.int .i64 sd,.int .i64 sm,.int .i64 sp,.int .i64 sa]∧Below w.heap.size w W∧Nt 0 W (.slice p (ws (dX ov)).length q) (dX ov)):=by
  rw [hWW];have z2:=Bl.new (w.alloc (Obj.cells #[.bool (dN ov),.slice p (ws (dX ov)).length q,.int .i64 (dE ov)] 41)) 51 [.int .i64 sn,.int .i64 su,.int .i64 sd,.int .i64 sm,.int .i64 sp,.int .i64 sa];rw [World.size_alloc] at z2;exact ⟨(Dk.new w _ _ _).below (below_alloc _ _),z2,(below_alloc _ _).trans ((below_alloc _ _).mono (by simp)),(hN.below (below_alloc _ _)).below (below_alloc _ _)⟩
 obtain ⟨gd,hgd⟩:∃ g,w.heap.size=g:=⟨_,rfl⟩;obtain ⟨gs,hgs⟩:∃ g,w.heap.size+1=g:=⟨_,rfl⟩;have HG:=(qsd (ai hgd hgs));rw [hgs] at B0;have B1:Aside (Dk W gd (dN ov) (.slice p (ws (dX ov)).length q) (dE ov)):=by rw [←hgd];exact B0.out.1
 have HWW:=qsd hWW;have HL0:=qsd hl0;obtain ⟨y0,y1,y2,yf0,yf1,yf2⟩:=B1.out.facts;clear hN hWW hgd hgs hl0 hb hk;go_enter Tryz.func39,Tryz.ntmps39
 go_upto_region 1 with fail
 rw [←HWW.out,HG.out.2,HG.out.1];clear HWW
 by_cases hv0:V=0
 · rw [if_pos hv0] at hz
   obtain ⟨hX,hE⟩:=Prod.mk.inj hz;have hl:=HL0.out.1 hv0;have hl2:(((ws (dX ov)).length:Int)==0)=true:=by rw [hl];rfl
   have HNo:=hid (fun u:World=>rNought_any sn su sd sm sp sa mode u)
   rw [hX] at HNo;subst hE;have q0:=B0.out.2.1.cell 0 _ rfl;have q1:=B0.out.2.1.cell 1 _ rfl;have q2:=B0.out.2.1.cell 2 _ rfl;have q3:=B0.out.2.1.cell 3 _ rfl;have q4:=B0.out.2.1.cell 4 _ rfl;have q5:=B0.out.2.1.cell 5 _ rfl;obtain ⟨ln,hln⟩:∃ l,(ws (dX ov)).length=l:=⟨_,rfl⟩;rw [hln] at y1 hl hl2 ⊢;subst hl;clear hX hz HL0 hv0 hln
   go_wp2_with fail
   refine (HNo.out _).mono ?_;rintro r u2 ⟨rfl,hb⟩;have B3:=qsd (B0.out.2.2.1.trans (hb.mono B0.out.2.2.1.size));clear hb HNo q0 q1 q2 q3 q4 q5;go_wp2;exact bodyPost_ret (v:=.tuple #[.float .f64 X,.int .i64 0]) (by simp [results,Tryz.results39,go_sem]) rfl ⟨rfl,B3.out⟩
 · rw [if_neg hv0] at hz
   have hl:=HL0.out.2 hv0;have hl2:(((ws (dX ov)).length:Int)==0)=false:=by rw [beq_eq_false_iff_ne];omega
   have hnN:n<2^41:=by omega
   have F1:=qsd (int_fm n hnN)
   have HI:Hid (∀ u:World,Calls Tryz.prog 60 #[.int .i64 (n:Nat)] u fun r w'=>(∃ v,r=.returned (.agg #[.bool (dN (mkS false n 0)),v,.int .i64 (dE (mkS false n 0))])∧Nt u.heap.size w' v (dX (mkS false n 0)))∧Below u.heap.size u w'):=fun u=>by
    have:=rInt_any (n:Nat) u (by omega) (by omega)
    rw [decide_eq_false (by omega),Int.natAbs_natCast] at this
    exact this
   have HR:Hid (∀ (u:World) (p q:Option Addr) (cp cq:Nat),Nt 0 u (.slice p (ws (dX ov)).length cp) (dX ov)→Nt 0 u (.slice q (ws (dX (mkS false n 0))).length cq) (dX (mkS false n 0))→Calls Tryz.prog 52 #[.agg #[.bool (dN ov),.slice p (ws (dX ov)).length cp,.int .i64 (dE ov),.bool (dN (mkS false n 0)),.slice q (ws (dX (mkS false n 0))).length cq,.int .i64 (dE (mkS false n 0))],.int .i64 mode] u fun r w'=>r=.returned (.tuple #[.float .f64 X,.int .i64 E])∧Below u.heap.size u w'):=fun u p q cp cq n1 n2=>by
    have:=docQuot (w:=u) mode (Fv.out.al13 n1) (F1.out.al13 n2) Fv.out.rng (n:=dN ov) (m:=dN (mkS false n 0)) (f:=dE (mkS false n 0)) F1.out.rng;rw [show quoR rndS ⟨dN ov,.slice p (ws (dX ov)).length cp,dX ov,dE ov,dN (mkS false n 0),.slice q (ws (dX (mkS false n 0))).length cq,dX (mkS false n 0),dE (mkS false n 0)⟩ mode=(X,E) from (by rw [←hov,←hz];rfl)] at this
    exact this
   obtain ⟨ow,how⟩:∃ o,mkS false n 0=o:=⟨_,rfl⟩;rw [how] at HR HI F1;clear hz how hov hv0 hnN HL0 hl
   go_upto_region 3 with fail
   have hdr:=(Below.refl W.heap.size W).drew;have BD:=qsd (ai (B0.out.2.2.1.trans (hdr.mono B0.out.2.2.1.size)) (ai (B1.out.below hdr) (B0.out.2.2.2.below hdr)));clear hdr B0 B1 y0 y1 y2 yf0 yf1 yf2;have kS:=qsd (ai BD.out.2.1.facts.1 (ai BD.out.2.1.facts.2.1 BD.out.2.1.facts.2.2.1))
   go_region_held3 (fun w'=>w'.cell? ⟨gd,0,none⟩=some (.bool (dN ov))∧w'.cell? ⟨gd,1,none⟩=some (.slice p (ws (dX ov)).length q)∧w'.cell? ⟨gd,2,none⟩=some (.int .i64 (dE ov))) (with_reducible exact kS.out) (first
    | (go_at_call 52
       with_reducible refine (HR.out _ p a2 q c2 BD.out.2.2 Q2.out).mono ?_
       rintro r v ⟨rfl,hb⟩;have BD:=qsd (ai (BD.out.1.trans (hb.mono BD.out.1.size)) (ai (BD.out.2.1.below hb) (BD.out.2.2.below hb)));have kS:=qsd (ai BD.out.2.1.facts.1 (ai BD.out.2.1.facts.2.1 BD.out.2.1.facts.2.2.1));clear hb)
    | (go_at_call 60
       with_reducible refine (HI.out _).mono ?_
       rintro r v ⟨⟨pp,rfl,hN⟩,hb⟩;obtain ⟨a2,c2,rfl,hN0⟩:=Lo.shape F1.out hN;have BD:=qsd (ai (BD.out.1.trans (hb.mono BD.out.1.size)) (ai (BD.out.2.1.below hb) (BD.out.2.2.below hb)));have Q2:=qsd hN0;have kS:=qsd (ai BD.out.2.1.facts.1 (ai BD.out.2.1.facts.2.1 BD.out.2.1.facts.2.2.1));clear hb hN hN0))
   clear kS Q2 HR HI;go_wp2;exact bodyPost_ret (v:=.tuple #[.float .f64 X,.int .i64 E]) (by simp [results,Tryz.results39,go_sem]) rfl ⟨rfl,BD.out.1⟩
end
section
open Go.RowKit J
attribute [local go_sem] st_float
theorem ask_ok {mode:Int}(h:askE mode=0):0≤mode∧mode≤4:=by
 unfold askE at h
 by_cases h1:mode<0∨4<mode
 · rw [if_pos h1] at h;exact absurd h (by decide)
 · omega
theorem qn_ok {V:Int}{N:Nat}{mode:Int}(hm:askE mode=0) (hV:V≠0) (k:Nat) (hk:k=4238) (hb:V.natAbs<2^k) (hN:0<N) (hN2:N≤65536):(qnR V N mode).2=0:=by
 obtain ⟨j,hj⟩:∃ k:Nat,k=2148:=⟨_,rfl⟩;obtain ⟨j2,hj2,hb2⟩:=lenW_bd N hN2 j hj;obtain ⟨m0,m4⟩:=ask_ok hm;rw [qn_qv _ _ _ j hj];obtain ⟨K,t,m,_,hR⟩:=quot_lies (V:=V) (W:=(N:Int)*((2^j:Nat):Int)) hV (by rw [←Int.natCast_mul];have:=Nat.mul_pos hN (Nat.two_pow_pos j);omega) k (by omega) hb (by rw [hk,←hj2];exact hb2)
 rw [hR mode m0 m4]
theorem lev_bsd {xs:List Nat}{s:Sp}{mode:Int}(hm:askE mode=0) (hW:W64 xs) (hl:xs.length≤65536):bsd (levR xs s mode).2 (levR xs s mode).1=(levR xs s mode).1:=by
 by_cases h0:xs=[]
 · subst h0;unfold levR;rw [if_pos rfl];rfl
 · by_cases hV:vS xs=0
   · unfold levR;rw [if_neg h0,if_pos hV];rfl
   · obtain ⟨k,hk,hb⟩:=vS_bd hW hl
     have e:(levR xs s mode).2=0:=by
      unfold levR;rw [if_neg h0,if_neg hV];exact qn_ok hm hV k hk hb (List.length_pos_iff.2 h0) hl
     rw [e];rfl
theorem sS_small {xs:List Nat}(hW:W64 xs) (hl:xs.length≤65536):(0≤(sS xs).n∧(sS xs).n≤65536)∧(0≤(sS xs).u∧(sS xs).u≤65536)∧(0≤(sS xs).d∧(sS xs).d≤65536)∧(sS xs).a=xs.length∧(sS xs).a-(sS xs).n-(sS xs).u-(sS xs).d=(Ps.fin xs).length:=by
 rw [sS_cn hW];have h:=fun k=>List.countP_le_length (p:=fun x=>kd x==k) (l:=xs)
 have h5:=h 5;have h3:=h 3;have h4:=h 4;have hf:=fin_count (xs:=xs);unfold Ps.cn at *;refine ⟨⟨?_,?_⟩,⟨?_,?_⟩,⟨?_,?_⟩,rfl,?_⟩ <;> (simp only;omega)
end
section
open Go.RowKit J
attribute [local go_sem] st_float
theorem plE_fin {xs:List Nat}(hW:W64 xs) (hl:xs.length≤65536):(plE xs=0↔∀ x ∈ xs,finW x)∧(plE xs=0∨plE xs=30):=by
 obtain ⟨b1,b2,b3,b4,b5⟩:=sS_small hW hl;unfold plE;rw [if_neg (by omega)]
 have key:(0<(sS xs).n∨0<(sS xs).u+(sS xs).d)↔¬ ∀ x ∈ xs,finW x:=by
  have hf:(Ps.fin xs).length=xs.length↔∀ x ∈ xs,finW x:=by
   constructor
   · intro h x hx
     have:Ps.fin xs=xs:=by
      have:=List.filter_sublist (p:=fun x=>decide (kd x≤2)) (l:=xs)
      exact this.eq_of_length h
     exact fin_all hW x (by rw [this];exact hx)
   · intro h;rw [fin_id hW h]
  rw [←hf];omega
 by_cases h:0<(sS xs).n∨0<(sS xs).u+(sS xs).d
 · rw [if_pos h]
   exact ⟨⟨fun q=>absurd q (by decide),fun q=>absurd q (key.1 h)⟩,.inr rfl⟩
 · rw [if_neg h]
   refine ⟨⟨fun _=>?_,fun _=>rfl⟩,.inl rfl⟩
   by_cases q:∀ x ∈ xs,finW x
   · exact q
   · exact absurd (key.2 q) h
theorem ask_no {mode:Int}(h:mode<0∨4<mode):askE mode=1:=if_pos h
theorem ask_yes {mode:Int}(h:¬ (mode<0∨4<mode)):askE mode=0:=if_neg h
end
section
open Go.RowKit J
theorem rTrimmed13 (xs:List Nat) (a:Option Addr) (n c:Nat) (k mode:Int) (w:World) (hn:n=xs.length) (hc:n≤c) (hF:Fs w.heap.size w a xs) (hW:W64 xs) (hl:n≤17592186043904) (z:Nat×Int) (hz:trR xs k mode=z) :
 Calls Tryz.prog 24 #[.slice a n c,.int .i64 k,.int .i64 mode] w fun r w'=>r=.returned (.tuple #[.float .f64 z.1,.int .i64 z.2])∧Below w.heap.size w w':=by
 obtain ⟨X,E⟩:=z;simp only;unfold trR at hz
 by_cases h1:mode<0
 · rw [ask_no (.inl h1),if_neg (by decide)] at hz
   have HXE:=qsd (Prod.mk.inj hz);have HNo:=hid (fun u:World=>no13 1 u)
   clear hz hF hW;go_enter Tryz.func24,Tryz.ntmps24
   go_wp2_with fail
   refine (HNo.out _).mono ?_;rintro r u2 ⟨rfl,hu⟩;rw [hu];go_wp2;exact bodyPost_ret (v:=.tuple #[.float .f64 0,.int .i64 1]) (by simp [results,Tryz.results24,go_sem]) rfl ⟨by rw [HXE.out.1,HXE.out.2],Below.refl _ _⟩
 · have d1:decide (mode<0)=false:=decide_eq_false h1
   by_cases h4:4<mode
   · rw [ask_no (.inr h4),if_neg (by decide)] at hz
     have HXE:=qsd (Prod.mk.inj hz);have HNo:=hid (fun u:World=>no13 1 u)
     clear hz hF hW;go_enter Tryz.func24,Tryz.ntmps24
     go_wp2_with fail
     refine (HNo.out _).mono ?_;rintro r u2 ⟨rfl,hu⟩;rw [hu];go_wp2;exact bodyPost_ret (v:=.tuple #[.float .f64 0,.int .i64 1]) (by simp [results,Tryz.results24,go_sem]) rfl ⟨by rw [HXE.out.1,HXE.out.2],Below.refl _ _⟩
   · have d4:decide (4<mode)=false:=decide_eq_false h4
     have hask:askE mode=0:=ask_yes (by omega)
     rw [hask,if_pos rfl] at hz
     by_cases hk:k<0
     · have dk:decide (k<0)=true:=by simp [hk]
       rw [if_pos hk] at hz;have HXE:=qsd (Prod.mk.inj hz);have HNo:=hid (fun u:World=>no13 1 u)
       clear hz hF hW;go_enter Tryz.func24,Tryz.ntmps24
       go_wp2_with fail
       refine (HNo.out _).mono ?_;rintro r u2 ⟨rfl,hu⟩;rw [hu];go_wp2;exact bodyPost_ret (v:=.tuple #[.float .f64 0,.int .i64 1]) (by simp [results,Tryz.results24,go_sem]) rfl ⟨by rw [HXE.out.1,HXE.out.2],Below.refl _ _⟩
     · have dk:decide (k<0)=false:=by simp;omega
       rw [if_neg hk] at hz
       by_cases hbig:65536<n
       · have d6:decide ((65536:Int)<(n:Nat))=true:=by simp;omega
         have hp:plE xs=2:=if_pos (by omega)
         rw [hp,if_neg (by decide)] at hz
         have HXE:=qsd (Prod.mk.inj hz);have HNo:=hid (fun u:World=>no13 2 u)
         clear hz hF hW;go_enter Tryz.func24,Tryz.ntmps24
         go_wp2_with fail
         refine (HNo.out _).mono ?_;rintro r u2 ⟨rfl,hu⟩;rw [hu];go_wp2;exact bodyPost_ret (v:=.tuple #[.float .f64 0,.int .i64 2]) (by simp [results,Tryz.results24,go_sem]) rfl ⟨by rw [HXE.out.1,HXE.out.2],Below.refl _ _⟩
       · have d6:decide ((65536:Int)<(n:Nat))=false:=by simp;omega
         have hl6:xs.length≤65536:=by omega
         obtain ⟨f1,f2⟩:=plE_fin hW hl6;obtain ⟨t,ht⟩:∃ t:Bool,t=true↔∀ q ∈ xs,finW q:=⟨decide (plE xs=0),by rw [decide_eq_true_eq];exact f1⟩
         have HF:=hid (rFinite13 xs a n c w hn hF hW (by omega) t ht)
         obtain ⟨m,rfl⟩:∃ m:Nat,k=(m:Int):=⟨k.toNat,by omega⟩
         rw [Int.toNat_natCast] at hz;have hn6:n<65537:=by omega
         cases t with
         | false =>
           have hp:plE xs=30:=by
            rcases f2 with q|q
            · have:=ht.2 (f1.1 q);cases this
            · exact q
           rw [hp,if_neg (by decide)] at hz
           clear hF hW f1 f2 ht hl6 hn hk;go_enter Tryz.func24,Tryz.ntmps24
           go_wp2_with fail
           refine HF.out.mono ?_;rintro r u ⟨rfl,hb⟩;have B1:=qsd hb;clear hb HF;have HXE:=qsd (Prod.mk.inj hz);have HNo:=hid (fun u:World=>no13 30 u)
           clear hz
           go_wp2_with fail
           refine (HNo.out _).mono ?_;rintro r u2 ⟨rfl,hu⟩;rw [hu];go_wp2;exact bodyPost_ret (v:=.tuple #[.float .f64 0,.int .i64 30]) (by simp [results,Tryz.results24,go_sem]) rfl ⟨by rw [HXE.out.1,HXE.out.2],B1.out⟩
         | true =>
           have hfin:=ht.1 rfl;rw [f1.2 hfin,if_pos rfl] at hz
           by_cases hk3:((n:Int)+1)/2≤m
           · have d7:decide (((n:Int)+1)/2≤m)=true:=by simp only [hk3,decide_true]
             have e:trm xs m=[]:=List.eq_nil_of_length_eq_zero (by rw [trm_len];omega)
             have e2:levR [] (sS []) mode=(0,3):=if_pos rfl;rw [e,e2] at hz;replace hz:((0:Nat),(3:Int))=(X,E):=by rw [←hz];rfl
             clear hF hW f1 f2 ht hl6 hn hk hfin e e2 hk3;go_enter Tryz.func24,Tryz.ntmps24
             go_wp2_with fail
             refine HF.out.mono ?_;rintro r u ⟨rfl,hb⟩;have B1:=qsd hb;clear hb HF;have HXE:=qsd (Prod.mk.inj hz);have HNo:=hid (fun u:World=>no13 3 u)
             clear hz
             go_wp2_with fail
             refine (HNo.out _).mono ?_;rintro r u2 ⟨rfl,hu⟩;rw [hu];go_wp2;exact bodyPost_ret (v:=.tuple #[.float .f64 0,.int .i64 3]) (by simp [results,Tryz.results24,go_sem]) rfl ⟨by rw [HXE.out.1,HXE.out.2],B1.out⟩
           · have d7:decide (((n:Int)+1)/2≤m)=false:=by simp only [hk3,decide_false]
             have hmn:m+m<n:=by omega
             have HSo:=hid (fun (u:World) (hb:Below w.heap.size w u)=>rSorted13 xs.length xs (Nat.le_refl _) (by intro e;rw [e] at hn;simp at hn;omega) hl6 hW hfin a c u (by omega) ((hF.below hb).mono hb.size))
             rw [←hn] at HSo;obtain ⟨ys,hys⟩:∃ y,trm xs m=y:=⟨_,rfl⟩;have hyl:ys.length=n-m-m:=by rw [←hys,trm_len];omega
             have hWy:W64 ys:=fun x hx=>hW x (by rw [←hys] at hx;exact trm_mem hx)
             have hyn:ys≠[]:=by intro e;rw [e] at hyl;simp at hyl;omega
             have hyl6:ys.length≤65536:=by omega
             obtain ⟨kk,hkk,hvb⟩:=vS_bd hWy hyl6;have lb:=lev_bsd (s:=sS ys) hask hWy hyl6;rw [hys,lb,lev_to hyn] at hz;have HWh:=hid (fun (u:World) (ao:Option Addr) (co:Nat) (hFy:Fs u.heap.size u ao ys)=>rWhole12 ys ao (n-m-m) co u hyl.symm hFy hWy (by omega))
             have HY:Aside (∀ i,i<ys.length→ys.getD i 0=(srt xs).getD (m+i) 0):=fun i hi=>by rw [←hys] at hi ⊢;exact trm_get hi
             obtain ⟨⟨sn,su,sd,sm,sp,sa⟩,hs⟩:∃ s,sS ys=s:=⟨_,rfl⟩;rw [hs] at hz HWh;simp only at HWh;obtain ⟨V,hV⟩:∃ V,vS ys=V:=⟨_,rfl⟩;rw [hV,hyl] at hz;rw [hV] at HWh hvb;have HTo:=hid (fun (u:World) (p:Option Addr) (q:Nat) (hN:Nt 0 u (.slice p (ws (dX (exV V))).length q) (dX (exV V))) (z:Nat×Int) (hz:toR V (n-m-m) ⟨sn,su,sd,sm,sp,sa⟩ mode=z)=>rTold13 V p q (n-m-m) sn su sd sm sp sa mode u kk (by omega) hvb hN (by omega) z hz)
             obtain ⟨ov,hov⟩:∃ o,exV V=o:=⟨_,rfl⟩;rw [hov] at HWh HTo;have hsl:(srt xs).length=n:=by rw [srt_len,hn]
             obtain ⟨R,hR⟩:∃ R,srt xs=R:=⟨_,rfl⟩;rw [hR] at HSo HY hsl;rw [hsl] at HSo;have HYL:=(qsd (ai hyl hsl));have hw:IntKind.i64.wrap ((n:Int)-m)=n-m:=by rw [IntKind.wrap_i64];omega
             have HZ:=qsd hz;clear hF hW f1 f2 ht hl6 hn hk hfin hk3 hys hyl hWy hyn hyl6 hkk hvb lb hs hV hov hR hsl hask hz;go_enter Tryz.func24,Tryz.ntmps24
             go_wp2_with fail
             refine HF.out.mono ?_;rintro r u ⟨rfl,hb⟩;have B1:=qsd hb;clear hb HF;have C1:=hid (HSo.out u B1.out);clear HSo
             go_wp2_with fail
             refine C1.out.mono ?_;rintro r u1 ⟨⟨v1,rfl,hO1⟩,hb1⟩;obtain ⟨ao,co,rfl,hco,hFR⟩:=own_fs10 hO1 HYL.out.2.symm;obtain ⟨b,off,hbb,rfl,hcell⟩:=hFR (by intro e;have:=HYL.out.2;rw [e] at this;simp at this;omega)
             have hB1:=B1.out.trans (hb1.mono B1.out.size)
             have C2:=hid (HWh.out u1 (some ⟨b,off+m,none⟩) (co-m) (fun _=>⟨b,off+m,hbb,rfl,fun i hi=>by
              rw [HY.out i hi,Nat.add_assoc];exact hcell (m+i) (by have:=HYL.out;omega)⟩))
             have B2:=qsd hB1;have hmc:m<co:=by omega
             clear hO1 hb1 hFR hcell hB1 B1 C1 HWh hbb
             go_wp2_with fail
             refine C2.out.mono ?_;rintro r u2 ⟨⟨p,q,rfl,hN⟩,hb⟩;obtain ⟨U,hU⟩:∃ U,U=u2.alloc (Obj.cells #[.bool (dN ov),.slice p (ws (dX ov)).length q,.int .i64 (dE ov),.int .i64 sn,.int .i64 su,.int .i64 sd,.int .i64 sm,.int .i64 sp,.int .i64 sa] 63):=⟨_,rfl⟩;obtain ⟨gr,hgr⟩:∃ g,u2.heap.size=g:=⟨_,rfl⟩
             have B3:Aside (Bl U gr 63 [.bool (dN ov),.slice p (ws (dX ov)).length q,.int .i64 (dE ov),.int .i64 sn,.int .i64 su,.int .i64 sd,.int .i64 sm,.int .i64 sp,.int .i64 sa]∧Below w.heap.size w U∧Nt 0 U (.slice p (ws (dX ov)).length q) (dX ov)):=by
              have hb3:=B2.out.trans (hb.mono B2.out.size);rw [hU,←hgr];exact ⟨Bl.new _ 63 [_,_,_,_,_,_,_,_,_],hb3.trans ((bel_alloc _ _).mono hb3.size),hN.below (bel_alloc _ _)⟩
             have HU:=(qsd (ai hU hgr));clear hb hN C2 B2 hU hgr;have s0:=B3.out.1.cell 0 _ rfl;have s1:=B3.out.1.cell 1 _ rfl;have s2:=B3.out.1.cell 2 _ rfl;have s3:=B3.out.1.cell 3 _ rfl;have s4:=B3.out.1.cell 4 _ rfl;have s5:=B3.out.1.cell 5 _ rfl;have s6:=B3.out.1.cell 6 _ rfl;have s7:=B3.out.1.cell 7 _ rfl;have s8:=B3.out.1.cell 8 _ rfl;have CT:=hid (HTo.out U p q B3.out.2.2 _ HZ.out);simp only at CT;clear HTo
             go_upto_region 13 with fail
             rw [←HU.out.1,HU.out.2];clear HU
             go_wp2_with fail
             refine CT.out.mono ?_;rintro r u5 ⟨rfl,hb⟩;have B5:=qsd (B3.out.2.1.trans (hb.mono B3.out.2.1.size));clear hb CT;go_wp2;exact bodyPost_ret (v:=.tuple #[.float .f64 X,.int .i64 E]) (by simp [results,Tryz.results24,go_sem]) rfl ⟨rfl,B5.out⟩
end
section
open Go.RowKit J
theorem lent8_fs {w:World}{g:Nat}{xs:List Nat}(h:OwnF w g (xs++List.replicate 8 mrk10)):Fs w.heap.size w (some ⟨g,0,none⟩) xs:=by
 have:=h.fs h.lt xs.length;rw [show (xs++List.replicate 8 mrk10).take xs.length=xs by simp] at this
 exact this
end
section
open Go.RowKit J
theorem int_hi13 {k:Int}(h:(Lit.int IntKind.i64 k).wf=true):k≤9223372036854775807:=by
 simp [Lit.wf,IntKind.min,IntKind.max,IntKind.signed,IntKind.bits] at h;omega
set_option maxRecDepth 100000 in
theorem walk2_MeanTrimmed (a:Option Addr) (n c:Nat) (xs:List Nat) (k mode:Int) (w:World) (hT:Tab w) (hC:CameF w a n c xs) (hm:n≤17592186043904) (hk:k≤9223372036854775807) :
 Calls Tryz.prog 8 #[.slice a n c,.int .i64 k,.int .i64 mode] w fun r w'=>r=.returned (.bool true)∧Below w.heap.size w w':=by
 obtain ⟨hl1,hcap,hW1,hF1,_⟩:=hC;have up:∀ u:World,Below w.heap.size w u→Fs u.heap.size u a xs∧Tab u∧Fs w.heap.size u a xs:=fun u hb=>⟨(hF1.below hb).mono hb.size,hT.belows hb,hF1.below hb⟩
 obtain ⟨⟨X1,E1⟩,h1⟩:∃ r,trR xs k mode=r:=⟨_,rfl⟩;have HA:=hid (fun (u:World) (hb:Below w.heap.size w u)=>live13 u (up u hb).2.1)
 have HL:=hid (fun (u:World) (hb:Below w.heap.size w u)=>rLent10 xs a n c u.heap.size u hl1 hm (up u hb).1 (Nat.le_refl _))
 have HE:Hid (∀ (u:World) (g:Nat),Below w.heap.size w u→OwnF u g (xs++List.replicate 8 mrk10)→Calls Tryz.prog 23 #[.slice (some ⟨g,0,none⟩) n (n+8),.int .i64 k,.int .i64 mode] u fun r w'=>r=.returned (.tuple #[.float .f64 X1,.int .i64 E1])∧Below u.heap.size u w'):=fun u g hb ho=>by
  exact Trimmed13 sortsF xs (some ⟨g,0,none⟩) n (n+8) k mode u hl1 (lent8_fs ho) hW1 (by omega) hk (up u hb).2.1 _ h1
 have HK:=hid (fun (u:World) (g:Nat) (hb:Below w.heap.size w u) (ho:OwnF u g (xs++List.replicate 8 mrk10))=>rAsLent10 xs a n c u.heap.size g u hl1 hm (up u hb).1 (Nat.le_refl _) ho)
 have HQ:Hid (∀ u:World,Below w.heap.size w u→Calls Tryz.prog 24 #[.slice a n c,.int .i64 k,.int .i64 mode] u fun r w'=>r=.returned (.tuple #[.float .f64 X1,.int .i64 E1])∧Below u.heap.size u w'):=fun u hb=>by
  exact rTrimmed13 xs a n c k mode u hl1 hcap (up u hb).1 hW1 hm _ h1
 clear hl1 hW1 hF1 up h1 hT hm hcap hk;go_enter Tryz.func8,Tryz.ntmps8
 go_wp2_with fail
 refine (HA.out _ (Below.refl _ _)).mono ?_;rintro r u1 ⟨rfl,hb⟩;have B1:=qsd hb;clear hb HA
 go_wp2_with fail
 refine (HL.out _ B1.out).mono ?_;rintro r u2 ⟨rfl,ho,hb⟩;obtain ⟨g,hg⟩:∃ g,g=u1.heap.size:=⟨_,rfl⟩;rw [←hg] at ho ⊢;have B2:Aside (Below w.heap.size w u2∧OwnF u2 g (xs++List.replicate 8 mrk10)):=⟨B1.out.trans (hb.mono B1.out.size),ho⟩;clear hb ho hg B1 HL
 go_wp2_with fail
 refine (HE.out _ g B2.out.1 B2.out.2).mono ?_;rintro r u3 ⟨rfl,hb⟩;have B3:Aside (Below w.heap.size w u3∧OwnF u3 g (xs++List.replicate 8 mrk10)):=⟨B2.out.1.trans (hb.mono B2.out.1.size),B2.out.2.below hb B2.out.2.lt⟩;clear hb B2 HE
 go_wp2_with fail
 refine (HK.out _ g B3.out.1 B3.out.2).mono ?_;rintro r u4 ⟨rfl,hb⟩;have B4:=qsd (B3.out.1.trans (hb.mono B3.out.1.size));clear hb B3 HK
 go_wp2_with fail
 refine (HQ.out _ B4.out).mono ?_;rintro r u5 ⟨rfl,hb⟩;have B5:=qsd (B4.out.trans (hb.mono B4.out.size));clear hb B4 HQ;have e1:(E1==E1)=true:=by simp
 go_wp2_with fail
 refine (exact_law13 X1 X1 _).mono ?_;rintro r u9 ⟨rfl,hu9⟩;rw [hu9,decide_eq_true rfl];clear hu9;go_wp2;go_ret;exact ⟨rfl,B5.out⟩
end
end Go.Proofs.YtjldfhecnaiinaaGreatDoor
