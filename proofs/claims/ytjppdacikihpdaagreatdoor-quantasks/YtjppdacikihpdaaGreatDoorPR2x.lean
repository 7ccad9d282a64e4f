import Derived.Test.YtjppdacikihpdaaGreatDoorZ26x
import Derived.Deep.RegionWith
import Derived.Test.YtjppdacikihpdaaGreatDoorRK1x
import Derived.Test.YtjppdacikihpdaaGreatDoorU1x
import Derived.Test.YtjppdacikihpdaaGreatDoorD39x
import Derived.Test.YtjppdacikihpdaaGreatDoorD19x
import Derived.Deep.RegionHeld3
import Derived.Test.YtjppdacikihpdaaGreatDoorD32cx
import Derived.Deep.Cut
import Derived.Deep.CutRange
import Derived.Test.YtjppdacikihpdaaGreatDoorS10x
import Derived.Test.YtjppdacikihpdaaGreatDoorZ5x
import Derived.Deep.LoopGhost
import Derived.Test.YtjppdacikihpdaaGreatDoorD8x
import Derived.Test.YtjppdacikihpdaaGreatDoorBIeeex
set_option linter.unusedVariables false
set_option linter.unusedSimpArgs false
set_option maxHeartbeats 16000000
set_option maxRecDepth 20000
namespace Go.Proofs.YtjppdacikihpdaaGreatDoor
namespace J
end J
section
open Go.RowKit
open Go.Proofs.YtjppdacikihpdaaGreatDoor.B (aM aF bw aO)
attribute [local go_sem] aM aF
theorem Kd{P:Prop}(h:P:=by
 rintro r w1 ⟨rfl,rfl⟩;go_wp2;go_ret;exact⟨by first | rfl | simp,below _⟩):P:=h
theorem Z2{P:Prop}(h:P:=by
 rintro r w1 ⟨rfl,rfl⟩;go_wp2_with fail;refine(Hm.o _).mono ?_;rintro r w1 ⟨rfl,rfl⟩;go_wp2_with fail;refine(Hp.o _).mono ?_;rintro r w1 ⟨rfl,rfl⟩;go_wp2_with fail;refine(Ha.o _).mono ?_;rintro r w1 ⟨rfl,rfl⟩;go_wp2;go_ret;exact⟨by first | rfl | simp,below _⟩):P:=h
theorem OJ(n u d m p a:Int)(w:World):Calls Tryz.prog 117 #[.agg #[.int .i64 n,.int .i64 u,.int .i64 d,.int .i64 m,.int .i64 p,.int .i64 a]] w fun r w'=>r=.returned (.bool (snd n u d m p a))/\Below w.heap.size w w':=by
 have below:∀ o,Below w.heap.size w (w.alloc o):=fun o=>(ay _ _).alloc (ak _) _;unfold snd;have Hn:=hid (jl n);have Hu:=hid (jl u);have Hd:=hid (jl d);have Hm:=hid (jl m);have Hp:=hid (jl p);have Ha:=hid (jl a);have h1:(ct n=false)\/(ct n=true/\ct u=false)\/(ct n=true/\ct u=true/\ct d=false)\/(ct n=true/\ct u=true/\ct d=true):=by cases ct n <;> cases ct u <;> cases ct d <;> simp
 have h2:(ct m=false)\/(ct m=true/\ct p=false)\/(ct m=true/\ct p=true/\ct a=false)\/(ct m=true/\ct p=true/\ct a=true):=by cases ct m <;> cases ct p <;> cases ct a <;> simp
 rcases h1 with e1|⟨e1,e2⟩|⟨e1,e2,e3⟩|⟨e1,e2,e3⟩ <;> rcases h2 with g1|⟨g1,g2⟩|⟨g1,g2,g3⟩|⟨g1,g2,g3⟩
 · rw[e1,g1];rw[e1] at Hn;rw[g1] at Hm;clear e1 g1;go_enter Tryz.func117,Tryz.ntmps117;go_wp2_with fail;refine(Hn.o _).mono ?_;rintro r w1 ⟨rfl,rfl⟩;go_wp2_with fail;refine(Hm.o _).mono ?_;exact Kd
 · rw[e1,g1,g2];rw[e1] at Hn;rw[g1] at Hm;rw[g2] at Hp;clear e1 g1 g2;go_enter Tryz.func117,Tryz.ntmps117;go_wp2_with fail;refine(Hn.o _).mono ?_;rintro r w1 ⟨rfl,rfl⟩;go_wp2_with fail;refine(Hm.o _).mono ?_;rintro r w1 ⟨rfl,rfl⟩;go_wp2_with fail;refine(Hp.o _).mono ?_;exact Kd
 · rw[e1,g1,g2,g3];rw[e1] at Hn;rw[g1] at Hm;rw[g2] at Hp;rw[g3] at Ha;clear e1 g1 g2 g3;go_enter Tryz.func117,Tryz.ntmps117;go_wp2_with fail;refine(Hn.o _).mono ?_;exact Z2
 · rw[e1,g1,g2,g3];rw[e1] at Hn;rw[g1] at Hm;rw[g2] at Hp;rw[g3] at Ha;clear e1 g1 g2 g3;go_enter Tryz.func117,Tryz.ntmps117;go_wp2_with fail;refine(Hn.o _).mono ?_;exact Z2
 · rw[e1,e2,g1];rw[e1] at Hn;rw[e2] at Hu;rw[g1] at Hm;clear e1 e2 g1;go_enter Tryz.func117,Tryz.ntmps117;go_wp2_with fail;refine(Hn.o _).mono ?_;rintro r w1 ⟨rfl,rfl⟩;go_wp2_with fail;refine(Hu.o _).mono ?_;rintro r w1 ⟨rfl,rfl⟩;go_wp2_with fail;refine(Hm.o _).mono ?_;exact Kd
 · rw[e1,e2,g1,g2];rw[e1] at Hn;rw[e2] at Hu;rw[g1] at Hm;rw[g2] at Hp;clear e1 e2 g1 g2;go_enter Tryz.func117,Tryz.ntmps117;go_wp2_with fail;refine(Hn.o _).mono ?_;rintro r w1 ⟨rfl,rfl⟩;go_wp2_with fail;refine(Hu.o _).mono ?_;rintro r w1 ⟨rfl,rfl⟩;go_wp2_with fail;refine(Hm.o _).mono ?_;rintro r w1 ⟨rfl,rfl⟩;go_wp2_with fail;refine(Hp.o _).mono ?_;exact Kd
 · rw[e1,e2,g1,g2,g3];rw[e1] at Hn;rw[e2] at Hu;rw[g1] at Hm;rw[g2] at Hp;rw[g3] at Ha;clear e1 e2 g1 g2 g3;go_enter Tryz.func117,Tryz.ntmps117;go_wp2_with fail;refine(Hn.o _).mono ?_;rintro r w1 ⟨rfl,rfl⟩;go_wp2_with fail;refine(Hu.o _).mono ?_;exact Z2
 · rw[e1,e2,g1,g2,g3];rw[e1] at Hn;rw[e2] at Hu;rw[g1] at Hm;rw[g2] at Hp;rw[g3] at Ha;clear e1 e2 g1 g2 g3;go_enter Tryz.func117,Tryz.ntmps117;go_wp2_with fail;refine(Hn.o _).mono ?_;rintro r w1 ⟨rfl,rfl⟩;go_wp2_with fail;refine(Hu.o _).mono ?_;exact Z2
 · rw[e1,e2,e3,g1];rw[e1] at Hn;rw[e2] at Hu;rw[e3] at Hd;rw[g1] at Hm;clear e1 e2 e3 g1;go_enter Tryz.func117,Tryz.ntmps117;go_wp2_with fail;refine(Hn.o _).mono ?_;rintro r w1 ⟨rfl,rfl⟩;go_wp2_with fail;refine(Hu.o _).mono ?_;rintro r w1 ⟨rfl,rfl⟩;go_wp2_with fail;refine(Hd.o _).mono ?_;rintro r w1 ⟨rfl,rfl⟩;go_wp2_with fail;refine(Hm.o _).mono ?_;exact Kd
 · rw[e1,e2,e3,g1,g2];rw[e1] at Hn;rw[e2] at Hu;rw[e3] at Hd;rw[g1] at Hm;rw[g2] at Hp;clear e1 e2 e3 g1 g2;go_enter Tryz.func117,Tryz.ntmps117;go_wp2_with fail;refine(Hn.o _).mono ?_;rintro r w1 ⟨rfl,rfl⟩;go_wp2_with fail;refine(Hu.o _).mono ?_;rintro r w1 ⟨rfl,rfl⟩;go_wp2_with fail;refine(Hd.o _).mono ?_;rintro r w1 ⟨rfl,rfl⟩;go_wp2_with fail;refine(Hm.o _).mono ?_;rintro r w1 ⟨rfl,rfl⟩;go_wp2_with fail;refine(Hp.o _).mono ?_;exact Kd
 · rw[e1,e2,e3,g1,g2,g3];rw[e1] at Hn;rw[e2] at Hu;rw[e3] at Hd;rw[g1] at Hm;rw[g2] at Hp;rw[g3] at Ha;clear e1 e2 e3 g1 g2 g3;go_enter Tryz.func117,Tryz.ntmps117;go_wp2_with fail;refine(Hn.o _).mono ?_;rintro r w1 ⟨rfl,rfl⟩;go_wp2_with fail;refine(Hu.o _).mono ?_;rintro r w1 ⟨rfl,rfl⟩;go_wp2_with fail;refine(Hd.o _).mono ?_;exact Z2
 · rw[e1,e2,e3,g1,g2,g3];rw[e1] at Hn;rw[e2] at Hu;rw[e3] at Hd;rw[g1] at Hm;rw[g2] at Hp;rw[g3] at Ha;clear e1 e2 e3 g1 g2 g3;go_enter Tryz.func117,Tryz.ntmps117;go_wp2_with fail;refine(Hn.o _).mono ?_;rintro r w1 ⟨rfl,rfl⟩;go_wp2_with fail;refine(Hu.o _).mono ?_;rintro r w1 ⟨rfl,rfl⟩;go_wp2_with fail;refine(Hd.o _).mono ?_;exact Z2
 · rw[e1,e2,e3,g1];rw[e1] at Hn;rw[e2] at Hu;rw[e3] at Hd;rw[g1] at Hm;clear e1 e2 e3 g1;go_enter Tryz.func117,Tryz.ntmps117;go_wp2_with fail;refine(Hn.o _).mono ?_;rintro r w1 ⟨rfl,rfl⟩;go_wp2_with fail;refine(Hu.o _).mono ?_;rintro r w1 ⟨rfl,rfl⟩;go_wp2_with fail;refine(Hd.o _).mono ?_;rintro r w1 ⟨rfl,rfl⟩;go_wp2_with fail;refine(Hm.o _).mono ?_;exact Kd
 · rw[e1,e2,e3,g1,g2];rw[e1] at Hn;rw[e2] at Hu;rw[e3] at Hd;rw[g1] at Hm;rw[g2] at Hp;clear e1 e2 e3 g1 g2;go_enter Tryz.func117,Tryz.ntmps117;go_wp2_with fail;refine(Hn.o _).mono ?_;rintro r w1 ⟨rfl,rfl⟩;go_wp2_with fail;refine(Hu.o _).mono ?_;rintro r w1 ⟨rfl,rfl⟩;go_wp2_with fail;refine(Hd.o _).mono ?_;rintro r w1 ⟨rfl,rfl⟩;go_wp2_with fail;refine(Hm.o _).mono ?_;rintro r w1 ⟨rfl,rfl⟩;go_wp2_with fail;refine(Hp.o _).mono ?_;exact Kd
 · rw[e1,e2,e3,g1,g2,g3];rw[e1] at Hn;rw[e2] at Hu;rw[e3] at Hd;rw[g1] at Hm;rw[g2] at Hp;rw[g3] at Ha;clear e1 e2 e3 g1 g2 g3;go_enter Tryz.func117,Tryz.ntmps117;go_wp2_with fail;refine(Hn.o _).mono ?_;rintro r w1 ⟨rfl,rfl⟩;go_wp2_with fail;refine(Hu.o _).mono ?_;rintro r w1 ⟨rfl,rfl⟩;go_wp2_with fail;refine(Hd.o _).mono ?_;exact Z2
 · rw[e1,e2,e3,g1,g2,g3];rw[e1] at Hn;rw[e2] at Hu;rw[e3] at Hd;rw[g1] at Hm;rw[g2] at Hp;rw[g3] at Ha;have kn:=iR e1;have ku:=iR e2;have kd:=iR e3;have km:=iR g1;have kp:=iR g2;have ka:=iR g3;clear e1 e2 e3 g1 g2 g3;go_enter Tryz.func117,Tryz.ntmps117;go_wp2_with fail;refine(Hn.o _).mono ?_;rintro r w1 ⟨rfl,rfl⟩;go_wp2_with fail;refine(Hu.o _).mono ?_;rintro r w1 ⟨rfl,rfl⟩;go_wp2_with fail;refine(Hd.o _).mono ?_;exact Z2
end
section
open Go.RowKit
open Go.Proofs.YtjppdacikihpdaaGreatDoor.B (aM aF bw aO)
attribute [local go_sem] aM aF
open Go.RowKit
open Go.Proofs.YtjppdacikihpdaaGreatDoor.B (aM aF bw aO)
attribute [local go_sem] aM aF
theorem Vc{P:Prop}(h:P:=by
 rintro r w3 ⟨rfl,rfl⟩;go_wp2;go_ret;exact⟨by first | rfl | simp,((ay _ w).alloc (ak _) _).trans (B1.o.mono (by simp))⟩):P:=h
theorem vE(n u d m p l mode:Int)(w:World):Calls Tryz.prog 71 #[.agg #[.int .i64 n,.int .i64 u,.int .i64 d,.int .i64 m,.int .i64 p,.int .i64 l],.int .i64 mode] w fun r w'=>r=.returned (.float .f64 (nt (snd n u d m p l) n u d m p l mode))/\Below w.heap.size w w':=by
 have HS:=hid (OJ n u d m p l);have HM:=hid (zW);have HT:=hid (FH true);have HF:=hid (FH false);rcases hs:snd n u d m p l with _|_
 · rw[hs] at HS;have hv:nt false n u d m p l mode=0:=if_pos rfl;rw[hv];clear hs hv;go_enter Tryz.func71,Tryz.ntmps71;go_wp2_with fail;refine(HS.o _).mono ?_;rintro r w1 ⟨rfl,hb1⟩;have hz1:=hb1.size;simp at hz1;obtain⟨hc1,hf1⟩:=aO hb1;have B1:=ah hb1;clear hb1;go_wp2_with fail;refine(HF.o _).mono ?_;exact Vc
 have bd:=QG hs;rw[hs] at HS;obtain⟨f,hf⟩:∃ f,l-n-u-d=f:=⟨_,rfl⟩;have hfb:-9223372036854775808<=f/\f<=9223372036854775807:=by omega
 have hb1:0<=n/\n<=1099511627776:=bd.1;have hb2:0<=u/\u<=1099511627776:=bd.2.1;have hb3:0<=d/\d<=1099511627776:=bd.2.2.1;have hb4:0<=l/\l<=1099511627776:=bd.2.2.2;unfold nt;rw[if_neg (by decide),hf];clear hs bd
 by_cases p1:f=0
 · rw[if_pos p1];have q1:(f==0)=true:=by rw[beq_iff_eq];exact p1
   clear p1;go_enter Tryz.func71,Tryz.ntmps71;go_wp2_with fail;refine(HS.o _).mono ?_;rintro r w1 ⟨rfl,hb1⟩;have hz1:=hb1.size;simp at hz1;obtain⟨hc1,hf1⟩:=aO hb1;have B1:=ah hb1;clear hb1;go_wp2_with fail;refine(HF.o _).mono ?_;exact Vc
 rw[if_neg p1];have q1:(f==0)=false:=by rw[beq_eq_false_iff_ne];exact p1
 clear p1
 by_cases p2:m=f
 · rw[if_pos p2];have q2:(m==f)=true:=by rw[beq_iff_eq];exact p2
   clear p2;go_enter Tryz.func71,Tryz.ntmps71;go_wp2_with fail;refine(HS.o _).mono ?_;rintro r w1 ⟨rfl,hb1⟩;have hz1:=hb1.size;simp at hz1;obtain⟨hc1,hf1⟩:=aO hb1;have B1:=ah hb1;clear hb1;go_wp2_with fail;refine(HT.o _).mono ?_;exact Vc
 rw[if_neg p2];have q2:(m==f)=false:=by rw[beq_eq_false_iff_ne];exact p2
 clear p2
 by_cases p3:p=f
 · rw[if_pos p3];have q3:(p==f)=true:=by rw[beq_iff_eq];exact p3
   clear p3;go_enter Tryz.func71,Tryz.ntmps71;go_wp2_with fail;refine(HS.o _).mono ?_;rintro r w1 ⟨rfl,hb1⟩;have hz1:=hb1.size;simp at hz1;obtain⟨hc1,hf1⟩:=aO hb1;have B1:=ah hb1;clear hb1;go_wp2_with fail;refine(HF.o _).mono ?_;exact Vc
 rw[if_neg p3];have q3:(p==f)=false:=by rw[beq_eq_false_iff_ne];exact p3
 clear p3
 by_cases p4:mode=3
 · rw[if_pos p4];subst p4;go_enter Tryz.func71,Tryz.ntmps71;go_wp2_with fail;refine(HS.o _).mono ?_;rintro r w1 ⟨rfl,hb1⟩;have hz1:=hb1.size;simp at hz1;obtain⟨hc1,hf1⟩:=aO hb1;have B1:=ah hb1;clear hb1;go_wp2_with fail;refine(HT.o _).mono ?_;exact Vc
 · rw[if_neg p4];have q4:(mode==3)=false:=by rw[beq_eq_false_iff_ne];exact p4
   clear p4;go_enter Tryz.func71,Tryz.ntmps71;go_wp2_with fail;refine(HS.o _).mono ?_;rintro r w1 ⟨rfl,hb1⟩;have hz1:=hb1.size;simp at hz1;obtain⟨hc1,hf1⟩:=aO hb1;have B1:=ah hb1;clear hb1;go_wp2_with fail;refine(HF.o _).mono ?_;exact Vc
end
section
open Go.RowKit J
theorem F7(a:Option Addr)(n c:Nat)(neg:Bool)(e:Int)(w:World) :
 Calls Tryz.prog 107 #[.agg #[.bool neg,.slice a n c,.int .i64 e]] w fun r w'=>r=.returned (.agg #[.bool (!neg),.slice a n c,.int .i64 e])/\Below w.heap.size w w':=by
 go_enter Tryz.func107,Tryz.ntmps107;go_wp2;exact aB (v:=.agg #[.bool (!neg),.slice a n c,.int .i64 e]) (by simp[results,Tryz.results107,go_sem]) rfl ⟨rfl,by repeat (first | exact ay _ _ | refine Below.alloc ?_ (by first | omega | simp) _ | refine Below.qj ?_ _ _ _ (by omega) (by simp))⟩
theorem Ti(W:World)(g:Nat)(n:Bool)(v:Value)(e k:Int)(tmps:Array Value)(ht:tmps[4]?.getD undef=.pointer (some ⟨g,0,none⟩))(hk:tmps[5]?.getD undef=.int .i64 k)(D:Dk W g n v e) :
 (results Tryz.f67 tmps).run Tryz.prog W=.ok (.tuple #[.agg #[.bool n,v,.int .i64 e],.int .i64 k]) W:=by
 obtain⟨x0,x1,x2,dW,dY,dZ⟩:=D.facts;simp[results,Tryz.results67,ht,hk,go_sem,x0,x1,x2]
theorem OL {w:World}{a b:Option Addr}{l c k d:Nat}(n m:Bool) (e f:Int) (dn:Bool) (V:Nat) (de er:Int) (lV:(ws V).length<=8192)
 (HT:Hid (∀ u,Calls Tryz.prog 107 #[.agg #[.bool m,.slice b k d,.int .i64 f]] u fun r w'=>r=.returned (.agg #[.bool (!m),.slice b k d,.int .i64 f])/\Below u.heap.size u w'))
 (HA:Hid (∀ u,Below w.heap.size w u->Calls Tryz.prog 70 #[.agg #[.bool n,.slice a l c,.int .i64 e],.agg #[.bool (!m),.slice b k d,.int .i64 f]] u fun r w'=>(∃ v,r=.returned (.tuple #[.agg #[.bool dn,v,.int .i64 de],.int .i64 er])/\Nt u.heap.size w' v V)/\Below u.heap.size u w')) :
 Calls Tryz.prog 67 #[.agg #[.bool n,.slice a l c,.int .i64 e],.agg #[.bool m,.slice b k d,.int .i64 f]] w fun r w'=>(∃ v,r=.returned (.tuple #[.agg #[.bool dn,v,.int .i64 de],.int .i64 er])/\Nt w.heap.size w' v V)/\Below w.heap.size w w':=by
 obtain⟨W1,hW1⟩:=af (((w.alloc (.cells #[.bool n,.slice a l c,.int .i64 e] 79)).alloc (.cells #[.bool m,.slice b k d,.int .i64 f] 79)).alloc (.cells #[.bool false,.slice none 0 0,.int .i64 0] 79));obtain⟨hB,hz1,DA,DB,DR⟩:=aN w n m (.slice a l c) (.slice b k d) e f W1 hW1;have T1:=hid (HT.o W1);have T2:=hid (HT.o W1.drew);obtain⟨x0,x1,x2,dW,dY,dZ⟩:=DA.facts;obtain⟨y0,y1,y2,dH,dI,dJ⟩:=DB.facts;obtain⟨r0,r1,r2,fQ,fT,fU⟩:=DR.facts;have hs1:w.heap.size+3<=W1.heap.size:=by omega
 have SB:=(iw hB DA DB DR);clear hB hz1 DA DB DR;go_enter Tryz.func67,Tryz.ntmps67;go_wp2_with fail;rw[<-hW1];clear hW1;have ne1:w.heap.size≠w.heap.size+1+1:=by omega
 have ne2:w.heap.size+1≠w.heap.size+1+1:=by omega
 have ne3:w.heap.size+1+1≠w.heap.size:=by omega
 have ne4:w.heap.size+1+1≠w.heap.size+1:=by omega
 go_region_held3 (fun w'=>w'.cell? ⟨w.heap.size,0,none⟩=some (.bool n)/\w'.cell? ⟨w.heap.size,1,none⟩=some (.slice a l c)/\w'.cell? ⟨w.heap.size,2,none⟩=some (.int .i64 e)/\w'.cell? ⟨w.heap.size+1,0,none⟩=some (.bool m)/\w'.cell? ⟨w.heap.size+1,1,none⟩=some (.slice b k d)/\w'.cell? ⟨w.heap.size+1,2,none⟩=some (.int .i64 f)) (go_keep) (first
  | (go_at_call 107
     first | with_reducible refine T1.o.mono ?_ | with_reducible refine T2.o.mono ?_
     rintro r u1 ⟨rfl,hb⟩;have hb1:Below W1.heap.size W1 u1:=by first | exact hb | exact((ay _ W1).drew).trans (hb.mono (ak _))
     have hs2:W1.heap.size<=u1.heap.size:=hb1.size;have BW:Below w.heap.size w u1:=SB.o.1.trans (hb1.mono (by omega));have HA1:=hid (HA.o u1 BW);have KR:=SB.o.r3.below hb1;obtain⟨p0,p1,p2,QN,QO,QP⟩:=KR.facts;obtain⟨q0,q1,q2,EF,EG,EH⟩:=(SB.o.2.1.below hb1).facts;obtain⟨s0,s1,s2,zZ,z8,Aa⟩:=(SB.o.r2.1.below hb1).facts;have S1:=(iw BW KR (SB.o.2.1.below hb1) (SB.o.r2.1.below hb1))
     clear hb hb1 KR BW)
  | (go_at_call 70
     with_reducible refine HA1.o.mono ?_
     rintro r u2 ⟨⟨v,rfl,hN⟩,hb⟩;obtain⟨a4,c4,rfl,_⟩:=hN.arg (by omega);have LR:=S1.o.2.1.below hb;obtain⟨t0,t1,t2,tf0,tf1,tf2⟩:=LR.facts;obtain⟨i0,i1,i2,if0,if1,if2⟩:=(S1.o.r2.1.below hb).facts;obtain⟨j0,j1,j2,jf0,jf1,jf2⟩:=(S1.o.r3.below hb).facts;have FV:=ah (show Fin w.heap.size (w.heap.size+3) w u2 (.slice a4 (ws V).length c4) V from⟨hN.mono (by omega),S1.o.1.trans (hb.mono (by omega)),by have:=hb.size;omega⟩);have O9:=ah LR
     clear hN hb LR))
 all_goals (
  go_wp2;refine aB (Ti _ (w.heap.size+1+1) dn (.slice a4 (ws V).length c4) de er _ rfl rfl (O9.o.set _ _ _)) rfl ?_;refine Fin.jw (m:=w.heap.size+3) ?_ (by omega)
  repeat (with_reducible first | exact FV.o | refine Fin.drew ?_ | refine Fin.alloc ?_ _ | refine Fin.set ?_ _ _ _ (by omega) (by omega)))
theorem OM(n:Bool)(X:Nat)(e:Int)(m:Bool)(Y:Nat)(f:Int):(ws (dX (jA n X e m Y f))).length<=8192:=by
 unfold jA
 split
 · show(ws 0).length<=8192;rw[bI];exact kg _
 · split
   · exact aK _ _ _
   · split <;> exact aK _ _ _
theorem Tj(n:Bool)(X:Nat)(e:Int)(m:Bool)(Y:Nat)(f:Int):(ws (dX (oC (mkS n X e) (mkS m Y f)))).length<=8192:=by
 have z0:(ws 0).length<=8192:=by rw[bI];exact kg _
 cases hx:mkS n X e with
 | none=>exact z0
 | some x =>
   cases hy:mkS m Y f with
   | none=>exact z0
   | some y =>
     obtain⟨n1,X1,e1⟩:=x;obtain⟨m1,Y1,f1⟩:=y;show(ws (dX (rM _ _))).length<=8192;unfold rM
     split
     · exact dV (bK hy)
     · split
       · exact dV (bK hx)
       · split <;> exact OM _ _ _ _ _ _
theorem OO{w:World}{a b:Option Addr}{l c k d:Nat}{xs ys:List Nat}(h1:Arg w a l c xs)(h2:Arg w b k d ys)(hl:l<=2000000)(hk:k<=2000000)(n m:Bool)(e f:Int)(he0:-9223372036854775808<=e)(he1:e<=9223372036854775807)(hf0:-9223372036854775808<=f)(hf1:f<=9223372036854775807) :
 Calls Tryz.prog 67 #[.agg #[.bool n,.slice a l c,.int .i64 e],.agg #[.bool m,.slice b k d,.int .i64 f]] w fun r w'=>bS w.heap.size w' r (oC (mkS n (val xs) e) (mkS (!m) (val ys) f))/\Below w.heap.size w w' :=
 OL n m e f _ _ _ _ (Tj n (val xs) e (!m) (val ys) f) (hid fun u=>F7 b k d m f u) (hid fun u hu=>Ae (h1.below hu) (h2.below hu) hl hk n (!m) e f he0 he1 hf0 hf1)
theorem ZM{U:World}{a b:Option Addr}{c d:Nat}{o p q:Option (Bool×Nat×Int)}(F:Fm o)(G:Fm p)(N1:Nt 0 U (.slice a (ws (dX o)).length c) (dX o))(N2:Nt 0 U (.slice b (ws (dX p)).length d) (dX p))(h:oC o (mkS (!dN p) (dX p) (dE p))=q)(H:Fm q) :
 Calls Tryz.prog 67 #[.agg #[.bool (dN o),.slice a (ws (dX o)).length c,.int .i64 (dE o)],.agg #[.bool (dN p),.slice b (ws (dX p)).length d,.int .i64 (dE p)]] U fun r w'=>(∃ v,r=.returned (.tuple #[.agg #[.bool (dN q),v,.int .i64 (dE q)],.int .i64 0])/\Nt U.heap.size w' v (dX q))/\Below U.heap.size U w':=by
 have:=OO (F.a12 N1) (G.a12 N2) F.two G.two (dN o) (dN p) (dE o) (dE p) F.qL.1 F.qL.2 G.qL.1 G.qL.2;rw[au,au,F.re,h] at this;unfold bS at this;rw[H.er] at this;exact this
def Sp.in12(s:Sp):Prop:=(0<=s.n/\s.n<=17592186044416)/\(0<=s.u/\s.u<=17592186044416)/\(0<=s.d/\s.d<=17592186044416)/\(0<=s.m/\s.m<=17592186044416)/\(0<=s.p/\s.p<=17592186044416)/\(0<=s.a/\s.a<=17592186044416)
theorem Tm(x:Nat)(n u d m p a:Int)(w:World)(hx:x<18446744073709551616)(hs:(Sp.mk n u d m p a).in12) :
 Calls Tryz.prog 119 #[.agg #[.int .i64 n,.int .i64 u,.int .i64 d,.int .i64 m,.int .i64 p,.int .i64 a],.float .f64 x] w fun r w'=>r=.returned ((Sp.mk n u d m p a).cnt (FD (kd x)) 1).agg/\Below w.heap.size w w':=by
 have H:=hid (yD x hx);have hk:=KE x;obtain⟨k,hkk⟩:∃ k,kd x=k:=⟨_,rfl⟩;rw[hkk] at H hk |-;obtain⟨h0,h1,h2,h3,h4,h5⟩:=hs;simp only at h0 h1 h2 h3 h4 h5;have hne:w.heap.size≠w.heap.size+1:=by omega
 clear hkk;have hc:k=0\/k=1\/k=2\/k=3\/k=4\/k=5:=by omega
 clear hk;have key:∀ (b1 b2 b3 b4 b5 b6:Int),(Sp.mk n u d m p a).cnt (FD k) 1=⟨b1,b2,b3,b4,b5,b6⟩->((Sp.mk n u d m p a).cnt (FD k) 1).agg=.agg #[.int .i64 b1,.int .i64 b2,.int .i64 b3,.int .i64 b4,.int .i64 b5,.int .i64 b6]:=fun b1 b2 b3 b4 b5 b6 h=>by rw[h];rfl
 rcases hc with rfl|rfl|rfl|rfl|rfl|rfl
 · rw[key n u d m p (a+1) rfl];go_enter Tryz.func119,Tryz.ntmps119;go_wp2_with fail;refine(H.o _).mono ?_;rintro r w1 ⟨rfl,rfl⟩;clear H key;go_wp2;exact aB (v:=.agg #[.int .i64 _,.int .i64 _,.int .i64 _,.int .i64 _,.int .i64 _,.int .i64 _]) (by simp[results,Tryz.results119,go_sem]) rfl ⟨rfl,(by repeat (first | exact ay _ _ | assumption | exact ak _ | (simp;done) | (simp;omega) | refine Below.alloc ?_ ?_ _ | refine Below.setCell ?_ ?_ _ | refine gW ?_))⟩
 · rw[key n u d (m+1) p (a+1) rfl];go_enter Tryz.func119,Tryz.ntmps119;go_wp2_with fail;refine(H.o _).mono ?_;rintro r w1 ⟨rfl,rfl⟩;clear H key;go_wp2;exact aB (v:=.agg #[.int .i64 _,.int .i64 _,.int .i64 _,.int .i64 _,.int .i64 _,.int .i64 _]) (by simp[results,Tryz.results119,go_sem]) rfl ⟨rfl,(by repeat (first | exact ay _ _ | assumption | exact ak _ | (simp;done) | (simp;omega) | refine Below.alloc ?_ ?_ _ | refine Below.setCell ?_ ?_ _ | refine gW ?_))⟩
 · rw[key n u d m (p+1) (a+1) rfl];go_enter Tryz.func119,Tryz.ntmps119;go_wp2_with fail;refine(H.o _).mono ?_;rintro r w1 ⟨rfl,rfl⟩;clear H key;go_wp2;exact aB (v:=.agg #[.int .i64 _,.int .i64 _,.int .i64 _,.int .i64 _,.int .i64 _,.int .i64 _]) (by simp[results,Tryz.results119,go_sem]) rfl ⟨rfl,(by repeat (first | exact ay _ _ | assumption | exact ak _ | (simp;done) | (simp;omega) | refine Below.alloc ?_ ?_ _ | refine Below.setCell ?_ ?_ _ | refine gW ?_))⟩
 · rw[key n (u+1) d m p (a+1) rfl];go_enter Tryz.func119,Tryz.ntmps119;go_wp2_with fail;refine(H.o _).mono ?_;rintro r w1 ⟨rfl,rfl⟩;clear H key;go_wp2;exact aB (v:=.agg #[.int .i64 _,.int .i64 _,.int .i64 _,.int .i64 _,.int .i64 _,.int .i64 _]) (by simp[results,Tryz.results119,go_sem]) rfl ⟨rfl,(by repeat (first | exact ay _ _ | assumption | exact ak _ | (simp;done) | (simp;omega) | refine Below.alloc ?_ ?_ _ | refine Below.setCell ?_ ?_ _ | refine gW ?_))⟩
 · rw[key n u (d+1) m p (a+1) rfl];go_enter Tryz.func119,Tryz.ntmps119;go_wp2_with fail;refine(H.o _).mono ?_;rintro r w1 ⟨rfl,rfl⟩;clear H key;go_wp2;exact aB (v:=.agg #[.int .i64 _,.int .i64 _,.int .i64 _,.int .i64 _,.int .i64 _,.int .i64 _]) (by simp[results,Tryz.results119,go_sem]) rfl ⟨rfl,(by repeat (first | exact ay _ _ | assumption | exact ak _ | (simp;done) | (simp;omega) | refine Below.alloc ?_ ?_ _ | refine Below.setCell ?_ ?_ _ | refine gW ?_))⟩
 · rw[key (n+1) u d m p (a+1) rfl];go_enter Tryz.func119,Tryz.ntmps119;go_wp2_with fail;refine(H.o _).mono ?_;rintro r w1 ⟨rfl,rfl⟩;clear H key;go_wp2;exact aB (v:=.agg #[.int .i64 _,.int .i64 _,.int .i64 _,.int .i64 _,.int .i64 _,.int .i64 _]) (by simp[results,Tryz.results119,go_sem]) rfl ⟨rfl,(by repeat (first | exact ay _ _ | assumption | exact ak _ | (simp;done) | (simp;omega) | refine Below.alloc ?_ ?_ _ | refine Below.setCell ?_ ?_ _ | refine gW ?_))⟩
theorem KM(l:List Nat)(k:Nat)(h:k<l.length):s6 (l.take (k+1))=(s6 (l.take k)).cnt (FD (kd (l.getD k 0))) 1:=by
 rw[oF l k h];simp[s6,List.foldl_append]
theorem ZN{s:Sp}{k:Nat}(b:Int)(h:(0<=s.n/\s.n<=b)/\(0<=s.u/\s.u<=b)/\(0<=s.d/\s.d<=b)/\(0<=s.m/\s.m<=b)/\(0<=s.p/\s.p<=b)/\s.a=b):(0<=(s.cnt k 1).n/\(s.cnt k 1).n<=b+1)/\(0<=(s.cnt k 1).u/\(s.cnt k 1).u<=b+1)/\(0<=(s.cnt k 1).d/\(s.cnt k 1).d<=b+1)/\(0<=(s.cnt k 1).m/\(s.cnt k 1).m<=b+1)/\(0<=(s.cnt k 1).p/\(s.cnt k 1).p<=b+1)/\(s.cnt k 1).a=b+1:=by
 obtain⟨h1,h2,h3,h4,h5,h6⟩:=h;unfold Sp.cnt;simp only;refine⟨?_,?_,?_,?_,?_,by omega⟩ <;> split <;> omega
theorem XY(l:List Nat):∀ k,k<=l.length->(0<=(s6 (l.take k)).n/\(s6 (l.take k)).n<=k)/\(0<=(s6 (l.take k)).u/\(s6 (l.take k)).u<=k)/\(0<=(s6 (l.take k)).d/\(s6 (l.take k)).d<=k)/\(0<=(s6 (l.take k)).m/\(s6 (l.take k)).m<=k)/\(0<=(s6 (l.take k)).p/\(s6 (l.take k)).p<=k)/\(s6 (l.take k)).a=k
 | 0,_=>by simp[s6]
 | k+1,h=>by
   have:=ZN (k:=FD (kd (l.getD k 0))) (k:Int) (XY l k (by omega));rw[KM l k h];simpa using this
def spc(s:Sp):List Value:=[.int .i64 s.n,.int .i64 s.u,.int .i64 s.d,.int .i64 s.m,.int .i64 s.p,.int .i64 s.a]
theorem F8(xs:List Nat)(a:Option Addr)(n c:Nat)(w:World)(hn:n=xs.length)(hF:Fs w.heap.size w a xs)(hW:ja xs)(hm:n<=17592186043904) :
 Calls Tryz.prog 72 #[.slice a n c] w fun r w'=>r=.returned (s6 xs).agg/\Below w.heap.size w w':=by
 obtain⟨W,um⟩:=af ((w.alloc (.cells #[.int .i64 0,.int .i64 0,.int .i64 0,.int .i64 0,.int .i64 0,.int .i64 0] 72)).alloc (.cells #[.int .i64 0,.int .i64 0,.int .i64 0,.int .i64 0,.int .i64 0,.int .i64 0] 72))
 have H0:Aside (Bl W w.heap.size 72 (spc ⟨0,0,0,0,0,0⟩)/\Bl W (w.heap.size+1) 72 (spc ⟨0,0,0,0,0,0⟩)/\Below w.heap.size w W):=by
  rw[um];exact⟨(Bl.new w 72 [_,_,_,_,_,_]).alloc _,Bl.new' (w.alloc _) 72 _ [_,_,_,_,_,_] (by simp),(ax _ _).trans ((ax _ _).mono (by simp))⟩
 have HX:=iw hn hF hW hm;have hne:w.heap.size≠w.heap.size+1:=by omega
 clear hn hF hW;go_enter Tryz.func72,Tryz.ntmps72;go_wp2;rw[<-um];clear um
 go_loopg [4] n (fun gk iv wr=>∃ i:Nat,gk+i=n/\iv=.int .i64 (i:Nat)/\Aside (Bl wr w.heap.size 72 (spc ⟨0,0,0,0,0,0⟩)/\Bl wr (w.heap.size+1) 72 (spc (s6 (xs.take i)))/\Below w.heap.size w wr))
 case atStart=>exact⟨0,by omega,by simp,H0.o.1,by simpa [s6] using H0.o.2.1,H0.o.r2⟩
 case round =>
  clear H0;obtain⟨i,hgi,rfl,HA⟩:=hrel
  by_cases hi:i<n
  · obtain⟨b,off,rfl,hcx⟩:=HX.o.2.1.at HA.o.r2 i (by rw[<-HX.o.1];exact hi);obtain⟨x,hx⟩:=af (xs.getD i 0);rw[<-hx] at hcx;obtain⟨⟨n0,u0,d0,m0,p0,a0⟩,hs⟩:∃ s,s=s6 (xs.take i):=⟨_,rfl⟩;have hin:=XY xs i (by rw[<-HX.o.1];omega);have HN:=ah (KM xs i (by rw[<-HX.o.1];exact hi));rw[<-hs] at hin HN;rw[<-hx] at HN;have hbl:=HA.o.2.1;rw[<-hs] at hbl;have HC:=hid (fun u:World=>Tm x n0 u0 d0 m0 p0 a0 u (by rw[hx];exact HX.o.r2.1.get i) (by unfold Sp.in12;simp only at hin |-;omega));obtain⟨⟨n1,u1,d1,m1,p1,a1⟩,hs1⟩:∃ s,s=(Sp.mk n0 u0 d0 m0 p0 a0).cnt (FD (kd x)) 1:=⟨_,rfl⟩;rw[<-hs1] at HC HN;unfold Sp.agg at HC;simp only at HC;unfold spc at hbl;simp only at hbl;have HB:=hid hbl;have c0:=hbl.cell 0 _ rfl;have c1:=hbl.cell 1 _ rfl;have c2:=hbl.cell 2 _ rfl;have c3:=hbl.cell 3 _ rfl;have c4:=hbl.cell 4 _ rfl;have c5:=hbl.cell 5 _ rfl;have hlt:=hbl.lt;have hib:i<4611686018427387904:=by omega
    clear hx hs hin hs1 hbl;go_wp2
    go_region_with (go_at_call 119;refine(HC.o _).mono ?_;rintro r w3 ⟨rfl,hb3⟩;have HQ:=ah (Bl.below (w:=wr.drew) HB.o hb3 hlt);have q0:=HQ.o.cell 0 _ rfl;have q1:=HQ.o.cell 1 _ rfl;have q2:=HQ.o.cell 2 _ rfl;have q3:=HQ.o.cell 3 _ rfl;have q4:=HQ.o.cell 4 _ rfl;have q5:=HQ.o.cell 5 _ rfl;have f0:=HQ.o.frozen 0;have f1:=HQ.o.frozen 1;have f2:=HQ.o.frozen 2;have f3:=HQ.o.frozen 3;have f4:=HQ.o.frozen 4;have f5:=HQ.o.frozen 5;have HB3:=ah hb3;clear hb3)
    all_goals
     go_wp2;go_roundg (gk-1)
     case measure=>omega
     case rel =>
      have hbd:Below wr.heap.size wr w3:=(ay _ wr).drew.trans HB3.o;refine⟨i+1,by omega,by first | rfl | simp,?_,?_,?_⟩
      · exact Bl.but (HA.o.1.below hbd HA.o.1.lt) (But.uh (But.refl _ _) _ _ _ _ _ _) hne
      · rw[HN.o];exact Bl.uh HQ.o
      · exact But.below (HA.o.r2.trans (hbd.mono HA.o.r2.size)) (But.uh (But.refl (w.heap.size+1) w3) _ _ _ _ _ _) (dz HA.o.r2.size hbd.size) (by omega)
  · obtain rfl:n=i:=by omega
    have hd:decide ((n:Int)<n)=false:=by simp
    have e:xs.take n=xs:=dO (by rw[<-HX.o.1];omega);obtain⟨⟨n0,u0,d0,m0,p0,a0⟩,hs⟩:∃ s,s=s6 xs:=⟨_,rfl⟩;have hbl:=HA.o.2.1;rw[e,<-hs] at hbl;have HS:=ah hs;have hrl:=HA.o.1;unfold spc at hbl hrl;simp only at hbl hrl;have c0:=hbl.cell 0 _ rfl;have c1:=hbl.cell 1 _ rfl;have c2:=hbl.cell 2 _ rfl;have c3:=hbl.cell 3 _ rfl;have c4:=hbl.cell 4 _ rfl;have c5:=hbl.cell 5 _ rfl;have r0:=hrl.cell 0 _ rfl;have r1:=hrl.cell 1 _ rfl;have r2:=hrl.cell 2 _ rfl;have r3:=hrl.cell 3 _ rfl;have r4:=hrl.cell 4 _ rfl;have r5:=hrl.cell 5 _ rfl;have f0:=hrl.frozen 0;have f1:=hrl.frozen 1;have f2:=hrl.frozen 2;have f3:=hrl.frozen 3;have f4:=hrl.frozen 4;have f5:=hrl.frozen 5
    have HF:Aside (Bl ((((((wr.setCell ⟨w.heap.size,0,none⟩ (.int .i64 n0)).setCell ⟨w.heap.size,1,none⟩ (.int .i64 u0)).setCell ⟨w.heap.size,2,none⟩ (.int .i64 d0)).setCell ⟨w.heap.size,3,none⟩ (.int .i64 m0)).setCell ⟨w.heap.size,4,none⟩ (.int .i64 p0)).setCell ⟨w.heap.size,5,none⟩ (.int .i64 a0)) w.heap.size 72 [.int .i64 n0,.int .i64 u0,.int .i64 d0,.int .i64 m0,.int .i64 p0,.int .i64 a0]/\Below w.heap.size w ((((((wr.setCell ⟨w.heap.size,0,none⟩ (.int .i64 n0)).setCell ⟨w.heap.size,1,none⟩ (.int .i64 u0)).setCell ⟨w.heap.size,2,none⟩ (.int .i64 d0)).setCell ⟨w.heap.size,3,none⟩ (.int .i64 m0)).setCell ⟨w.heap.size,4,none⟩ (.int .i64 p0)).setCell ⟨w.heap.size,5,none⟩ (.int .i64 a0))) :=
     ⟨Bl.uh hrl,But.below HA.o.r2 (But.uh (But.refl w.heap.size wr) _ _ _ _ _ _) HA.o.r2.size (ak _)⟩
    clear hbl hrl hs e HA;go_wp2;have g0:=HF.o.1.cell 0 _ rfl;have g1:=HF.o.1.cell 1 _ rfl;have g2:=HF.o.1.cell 2 _ rfl;have g3:=HF.o.1.cell 3 _ rfl;have g4:=HF.o.1.cell 4 _ rfl;have g5:=HF.o.1.cell 5 _ rfl;exact aB (v:=.agg #[.int .i64 n0,.int .i64 u0,.int .i64 d0,.int .i64 m0,.int .i64 p0,.int .i64 a0]) (by simp[results,Tryz.results72,go_sem,g0,g1,g2,g3,g4,g5]) rfl ⟨by rw[<-HS.o];rfl,HF.o.2⟩
def WR(x:Nat):Int:=B.cls (aQ x/4503599627370496) (aQ x%4503599627370496)
theorem KN{x:Nat}(hx:x<18446744073709551616)(w:World):Calls Tryz.prog 44 #[.float .f64 x] w fun r w'=>r=.returned (.int .i64 (WR x))/\Below w.heap.size w w':=by
 obtain⟨s,e,f,h1,h2,h3,h4,h5,h6⟩:=ZI hx;have:=B.Mx s e f h1 h2 w;rw[<-h3,h5,h6] at this;exact this
theorem WS{x:Nat}(hx:x<18446744073709551616):WR x=4↔rO x=true:=by
 unfold WR B.cls rO aQ;rw[decide_eq_true_eq]
 by_cases a:x%9223372036854775808/4503599627370496=2047
 · rw[if_pos a]
   by_cases b:x%9223372036854775808%4503599627370496=0
   · rw[if_pos b];constructor <;> intro h <;> omega
   · rw[if_neg b];constructor <;> intro h <;> omega
 · rw[if_neg a]
   by_cases b:x%9223372036854775808/4503599627370496=0
   · rw[if_pos b];split <;> (constructor <;> intro h <;> omega)
   · rw[if_neg b];constructor <;> intro h <;> omega
theorem yp{P:Prop}(h:P:=by
 go_wp2_with fail;refine C.o.mono ?_;rintro r v ⟨rfl,hv⟩;go_wp2;go_ret;exact⟨rfl,hv⟩):P:=h
theorem ZO{x:Nat}(hx:x<18446744073709551616)(w:World):Calls Tryz.prog 36 #[.float .f64 x] w fun r w'=>r=.returned (.float .f64 (SN x))/\Below w.heap.size w w':=by
 have C:=hid (KN hx w);have hk:=WS hx;obtain⟨c,hc⟩:=af (WR x);rw[<-hc] at C hk;clear hc
 by_cases h:c=4
 · subst h;have e:SN x=9221120237041090560:=by unfold SN;rw[if_pos (hk.1 rfl)];rfl
   rw[e];clear e hk;go_enter Tryz.func36,Tryz.ntmps36;go_wp2_with fail;refine C.o.mono ?_;rintro r v ⟨rfl,hv⟩;have D:=hid (B.UJ v);go_wp2_with fail;refine D.o.mono ?_;rintro r v2 ⟨rfl,rfl⟩;go_wp2;go_ret;exact⟨rfl,hv⟩
 · have e:SN x=x:=by unfold SN;rw[if_neg (fun q=>h (hk.2 q))]
   rw[e];clear e hk;have k1:(c==4)=false:=by simp[h]
   have k2:decide (c=4)=false:=by simp[h]
   go_enter Tryz.func36,Tryz.ntmps36;exact yp
def kP(xs:List Nat)(k:Nat):List Nat:=(dR xs).take k++List.replicate (xs.length-k) 0
theorem Ji(xs:List Nat):kP xs 0=List.replicate xs.length 0:=by simp[kP]
theorem OP(xs:List Nat):kP xs xs.length=dR xs:=by
 unfold kP;rw[dO (by rw[j4];exact ak _)];simp
theorem OQ{xs:List Nat}{k:Nat}(h:k<=xs.length):(kP xs k).length=xs.length:=by
 unfold kP;rw[nQ,eY,wB,j4];omega
theorem Jj{xs:List Nat}{k:Nat}(h:k<xs.length):(kP xs k).set k ((dR xs).getD k 0)=kP xs (k+1):=by
 have hl:k<(dR xs).length:=by rw[j4];exact h
 unfold kP;rw[Br _ _ (by rw[eY];omega),eY,ik (by omega),uO,show xs.length-k=(xs.length-(k+1))+1 by omega,Bb,List.set_cons_zero,bG,dx hl,List.take_add_one,dx hl,uU];rfl
theorem fld15(a b:Value)(w:World):(Instr.field 61 (.agg #[a,b]) 1).run Tryz.prog w=.ok b w:=by kernel_rfl
attribute [local go_sem] fld15 bR
theorem Tn(xs:List Nat)(ao:Option Addr)(n cap:Nat)(w:World)(hF:Fs w.heap.size w ao xs)(hn:n=xs.length)(hb:n<=17592186044416)(hW:ja xs) :
 Calls Tryz.prog 20 #[.slice ao n cap] w fun r w'=>r=.returned (.slice (some ⟨w.heap.size,0,none⟩) n n)/\eG w' w.heap.size (dR xs)/\Below w.heap.size w w':=by
 have mk:=lq n n rfl hb;obtain⟨G,hG⟩:=af (w.heap.size);obtain⟨W1,hW1⟩:=af (w.alloc (.cells (madeCells #[.float .f64 0] n) 27));have o1:eG W1 G (kP xs 0):=by rw[hW1,Ji,hG,<-hn];exact eG.made w n
 have o2:Below w.heap.size w W1:=by rw[hW1];exact(ay w.heap.size w).alloc (ak _) _
 have hFw:Fs w.heap.size W1 ao xs:=hF.below o2;have C:=hid (WQ xs ao n cap W1 (hFw.mono o2.size) hn hb hW);have ZP:G<W1.heap.size:=o1.lt;have HN:=(Du hn hW hF o1 o2 hG ZP);have HW1:=ah hW1;clear hF hFw o1 o2 hn hW ZP hG hW1;go_enter Tryz.func20,Tryz.ntmps20
 go_upto_region 2 with fail
 rw[<-HW1.o,<-HN.o.r5.1];clear mk;go_wp2_with fail;refine C.o.mono ?_;rintro r v ⟨g,rfl,e1,e2,e3⟩
 have HA:Aside (eG v G (kP xs 0)/\bM v g (kL xs)/\Below w.heap.size w v/\G<g/\g<v.heap.size):=by
  obtain⟨hn,hW,hFw,o1,o2,hG,ZP⟩:=HN.o;exact⟨o1.below e2 ZP,e1,o2.trans (e2.mono o2.size),by omega,e1.lt⟩
 clear C e1 e2 e3;go_wp2
 go_loopg [13] n (fun gk iv wr=>∃ k:Nat,gk+k=n/\iv=.int .i64 (k:Nat)/\Aside (eG wr G (kP xs k)/\bM wr g (kL xs)/\Below w.heap.size w wr/\G<g/\g<wr.heap.size))
 case atStart=>exact⟨0,rfl,by first | rfl | simp,HA.o⟩
 case round =>
  clear HA;obtain⟨k,lU,rfl,HA⟩:=hrel
  by_cases hk:k<n
  · have hdk:decide ((k:Int)<(n:Int))=true:=by simp;omega
    have bk:(k:Int)<(n:Int):=by omega
    obtain⟨k1,hk1⟩:=af (k+1);have wk:IntKind.i64.wrap ((k:Int)+1)=(k1:Int):=aH (by omega) (by omega);obtain⟨a1,a2,a3,a4,a5⟩:=HA.o;obtain⟨hn,hW,hF,o1,o2,hG,ZP⟩:=HN.o;have hkx:k<xs.length:=by omega
    obtain⟨i,hi⟩:=af ((kL xs).getD k 0);have c1:=a2.cell k (by rw[mE];exact hkx);have hin:i<n:=by rw[hi,hn];exact WJ hkx
    rw[<-hi] at c1;have bi:(i:Int)<(n:Int):=by omega
    obtain⟨b,off,rfl,c2⟩:=hF.at a3 i (by omega);have hx:xs.getD i 0<18446744073709551616:=hW _ (cK (by omega));have e4:(dR xs).getD k 0=SN (xs.getD i 0):=by rw[hi];exact OC hkx
    obtain⟨x,eD⟩:=af (xs.getD i 0);rw[<-eD] at c2 hx e4;have D:=hid (ZO hx wr);obtain⟨y,hy⟩:=af (SN x);rw[<-hy] at D e4
    have HX:Aside (∀ v,Below wr.heap.size wr v->v.cell? ⟨G,k,none⟩=some (.float .f64 ((kP xs k).getD k 0))/\v.frozen? ⟨G,k,none⟩=false/\eG (v.setCell ⟨G,k,none⟩ (.float .f64 y)) G (kP xs k1)/\bM (v.setCell ⟨G,k,none⟩ (.float .f64 y)) g (kL xs)/\Below w.heap.size w (v.setCell ⟨G,k,none⟩ (.float .f64 y))/\G<g/\g<(v.setCell ⟨G,k,none⟩ (.float .f64 y)).heap.size):=fun v hv=>by
     have a1':=a1.below hv (by omega);have VQ:=a2.below hv (by omega);refine⟨a1'.cell k (by rw[OQ (by omega)];exact hkx),a1'.frozen k,?_,?_,?_,a4,?_⟩
     · rw[hk1,<-Jj hkx,e4];exact a1'.set k y
     · have hne:g≠G:=by omega
       unfold bM at VQ |-;simp only[World.setCell,gN];rw[if_neg (fun e=>hne e.symm)];exact VQ
     · exact(a3.trans (hv.mono a3.size)).setCell (show w.heap.size<=G by omega) _
     · have:=VQ.lt;simpa [World.setCell] using this
    have HK:=ah hk1;clear HA a1 a2 a3 a4 a5 hn hW hF o1 o2 hG ZP hi hkx hx e4 eD hy hk1;go_wp2_with fail;refine D.o.mono ?_;rintro r v ⟨rfl,hv⟩;obtain⟨x1,x2,x3⟩:=HX.o v hv;have HY:=ah x3;clear D HX x3 hv;obtain⟨z,hz⟩:=af ((kP xs k).getD k 0);rw[<-hz] at x1;clear hz;go_wp2;go_roundg (n-k1)
    case measure=>have:=HK.o;omega
    case rel=>exact⟨k1,by have:=HK.o;omega,by first | rfl | simp,HY.o⟩
  · have hdk:decide ((k:Int)<(n:Int))=false:=by simp;omega
    go_wp2;go_ret;obtain⟨a1,a2,a3,a4,a5⟩:=HA.o;obtain⟨hn,hW,hF,o1,o2,hG,ZP⟩:=HN.o;rw[show k=xs.length by omega,OP] at a1;exact⟨by rw[<-hG];rfl,by rw[<-hG];exact a1,a3⟩
end
section
open Go.RowKit J
def Pe(rule mode:Int):Bool:=decide (0<=rule/\rule<=4/\0<=mode/\mode<=4)
theorem KO(rule mode:Int)(w:World):Calls Tryz.prog 17 #[.int .i64 rule,.int .i64 mode] w fun r w'=>r=.returned (.bool (Pe rule mode))/\w'=w:=by
 obtain⟨z,hz⟩:=af (Pe rule mode);rw[<-hz];unfold Pe at hz
 by_cases h1:0<=rule
 · have d1:decide (0<=rule)=true:=by simp[h1]
   by_cases h2:rule<=4
   · have d2:decide (rule<=4)=true:=by simp[h2]
     by_cases h3:0<=mode
     · have d3:decide (0<=mode)=true:=by simp[h3]
       by_cases h4:mode<=4
       · have d4:decide (mode<=4)=true:=by simp[h4]
         rw[decide_eq_true ⟨h1,h2,h3,h4⟩] at hz;subst hz;go_enter Tryz.func17,Tryz.ntmps17;go_wp2;exact Xs
       · have d4:decide (mode<=4)=false:=by simp;omega
         rw[decide_eq_false (fun h=>h4 h.2.2.2)] at hz;subst hz;go_enter Tryz.func17,Tryz.ntmps17;go_wp2;exact Xs
     · have d3:decide (0<=mode)=false:=by simp;omega
       rw[decide_eq_false (fun h=>h3 h.2.2.1)] at hz;subst hz;go_enter Tryz.func17,Tryz.ntmps17;go_wp2;exact Xs
   · have d2:decide (rule<=4)=false:=by simp;omega
     rw[decide_eq_false (fun h=>h2 h.2.1)] at hz;subst hz;go_enter Tryz.func17,Tryz.ntmps17;go_wp2;exact Xs
 · have d1:decide (0<=rule)=false:=by simp;omega
   rw[decide_eq_false (fun h=>h1 h.1)] at hz;subst hz;go_enter Tryz.func17,Tryz.ntmps17;go_wp2;exact Xs
def Dr(x:Nat):Bool:=decide (9218868437227405312<=aQ x)
theorem Tp{x:Nat}(hx:x<18446744073709551616):decide ((3:Int)<=WR x)=Dr x:=by
 unfold WR B.cls Dr aQ;have hm:x%9223372036854775808<9223372036854775808:=by omega
 by_cases a:x%9223372036854775808/4503599627370496=2047
 · rw[if_pos a,decide_eq_true (show 9218868437227405312<=x%9223372036854775808 by omega)]
   split <;> rfl
 · rw[if_neg a,decide_eq_false (show ¬ 9218868437227405312<=x%9223372036854775808 by omega)]
   by_cases b:x%9223372036854775808/4503599627370496=0
   · rw[if_pos b];split <;> rfl
   · rw[if_neg b];rfl
theorem Tq{x:Nat}(hx:x<18446744073709551616)(w:World):Calls Tryz.prog 30 #[.float .f64 x] w fun r w'=>r=.returned (.bool (Dr x))/\Below w.heap.size w w':=by
 have C:=hid (KN hx w);have hk:=Tp hx;rw[<-hk];obtain⟨c,hc⟩:=af (WR x);rw[<-hc] at C |-;clear hc hk;go_enter Tryz.func30,Tryz.ntmps30;go_wp2_with fail;refine C.o.mono ?_;rintro r v ⟨rfl,hv⟩;go_wp2;go_ret;exact⟨by first | rfl | simp,hv⟩
theorem yO{xs:List Nat}{k:Nat}(h:k<xs.length):(xs.take (k+1)).any Dr=((xs.take k).any Dr || Dr (xs.getD k 0)):=by
 rw[List.take_add_one,dx h,bG,dx h,List.any_append];simp only[Option.toList,List.any_cons,List.any_nil,Bool.or_false,Bq]
theorem WT(xs:List Nat)(ao:Option Addr)(n cap:Nat)(w:World)(hF:Fs w.heap.size w ao xs)(hn:n=xs.length)(hb:n<=17592186044416)(hW:ja xs) :
 Calls Tryz.prog 43 #[.slice ao n cap,.func (.func 30) #[] #[]] w fun r w'=>∃ z:Int,r=.returned (.int .i64 z)/\(decide (0<=z)=xs.any Dr)/\Below w.heap.size w w':=by
 have HN:=(fG hn hW hF);clear hF hn hW;go_enter Tryz.func43,Tryz.ntmps43;go_wp2
 go_loopg [8] n (fun gk iv wr=>∃ k:Nat,gk+k=n/\iv=.int .i64 (k:Nat)/\Aside ((xs.take k).any Dr=false/\Below w.heap.size w wr))
 case atStart=>exact⟨0,rfl,by first | rfl | simp,by simp,ay _ _⟩
 case round =>
  obtain⟨k,lU,rfl,HA⟩:=hrel
  by_cases hk:k<n
  · have hdk:decide ((k:Int)<(n:Int))=true:=by simp;omega
    have bk:(k:Int)<(n:Int):=by omega
    obtain⟨k1,hk1⟩:=af (k+1);have wk:IntKind.i64.wrap ((k:Int)+1)=(k1:Int):=aH (by omega) (by omega);obtain⟨hn,hW,hF⟩:=HN.o;obtain⟨b,off,rfl,c2⟩:=hF.at HA.o.2 k (by omega);have hx:xs.getD k 0<18446744073709551616:=hW _ (cK (by omega));have ht:=yO (xs:=xs) (k:=k) (by omega);obtain⟨x,eD⟩:=af (xs.getD k 0);rw[<-eD] at c2 hx ht;have D:=hid (Tq hx wr);rw[HA.o.1,wT] at ht;have HK:=(aZ hk1 ht);obtain⟨t,Dj⟩:=af (Dr x);rw[<-Dj] at D ht;have HT:=ah Dj
    have hany:Aside (t=true->xs.any Dr=true):=fun h=>by
     rw[wU];exact⟨x,by rw[eD];exact cK (by omega),by rw[<-HT.o];exact h⟩
    have HT2:=ah ht;clear hn hW hF hx ht eD hk1 Dj;go_wp2_with fail;refine D.o.mono ?_;rintro r v ⟨rfl,hv⟩;have HB:=ah (HA.o.2.trans (hv.mono HA.o.2.size));clear D hv
    cases t
    · go_wp2;go_roundg (n-k1)
      case measure=>have:=HK.o;omega
      case rel=>exact⟨k1,by have:=HK.o;omega,by first | rfl | simp,by rw[HK.o.1];exact HT2.o,HB.o⟩
    · go_wp2;refine aB (v:=.int .i64 (k:Nat)) (by simp[results,Tryz.results43,go_sem]) rfl ?_;exact⟨k,rfl,by rw[hany.o (by first | rfl | trivial)];simp,HB.o⟩
  · have hdk:decide ((k:Int)<(n:Int))=false:=by simp;omega
    have E:Aside (xs.any Dr=false):=by
     have h1:=HA.o.1;rw[dO (by have:=HN.o.1;omega)] at h1;exact h1
    go_wp2;refine aB (v:=.int .i64 (-1)) (by simp[results,Tryz.results43,go_sem]) rfl ?_;exact⟨-1,rfl,by rw[E.o];rfl,HA.o.2⟩
theorem Jk(xs:List Nat)(ao:Option Addr)(n cap:Nat)(w:World)(hF:Fs w.heap.size w ao xs)(hn:n=xs.length)(hb:n<=17592186044416)(hW:ja xs) :
 Calls Tryz.prog 29 #[.slice ao n cap,.func (.func 30) #[] #[]] w fun r w'=>r=.returned (.bool (xs.any Dr))/\Below w.heap.size w w':=by
 have C:=hid (WT xs ao n cap w hF hn hb hW);clear hF hn hW;go_enter Tryz.func29,Tryz.ntmps29;go_wp2_with fail;refine C.o.mono ?_;rintro r v ⟨z,rfl,hz,hv⟩;have HZ:=(aZ hz hv);clear C hz hv;go_wp2;go_ret;exact⟨by rw[<-HZ.o.1];first | rfl | simp,HZ.o.2⟩
def yY(xs:List Nat)(odd:Bool):Int:=if 65536<xs.length then 2 else if odd || xs.any Dr then 30 else if xs.length=0 then 3 else 0
theorem CW(xs:List Nat)(odd:Bool)(ao:Option Addr)(n cap:Nat)(w:World)(hF:Fs w.heap.size w ao xs)(hn:n=xs.length)(hb:n<=17592186044416)(hW:ja xs) :
 Calls Tryz.prog 18 #[.slice ao n cap,.bool odd] w fun r w'=>r=.returned (.int .i64 (yY xs odd))/\Below w.heap.size w w':=by
 have C:=hid (Jk xs ao n cap w hF hn hb hW);obtain⟨z,hz⟩:=af (yY xs odd);rw[<-hz];unfold yY at hz;rw[<-hn] at hz;clear hF hn hW
 by_cases h1:65536<n
 · have d1:decide ((65536:Int)<(n:Int))=true:=by simp;omega
   rw[if_pos h1] at hz;subst hz;go_enter Tryz.func18,Tryz.ntmps18;go_wp2;go_ret;exact zc
 · have d1:decide ((65536:Int)<(n:Int))=false:=by simp;omega
   rw[if_neg h1] at hz
   cases odd
   · rw[wT] at hz;obtain⟨t,ht⟩:=af (xs.any Dr);rw[<-ht] at C hz;clear ht
     cases t
     · rw[if_neg (by decide)] at hz
       by_cases h2:n=0
       · rw[if_pos h2] at hz;subst hz h2;go_enter Tryz.func18,Tryz.ntmps18;exact yp
       · rw[if_neg h2] at hz;have d2:((n:Int)==0)=false:=by simp;omega
         have d3:decide ((n:Int)=0)=false:=by simp;omega
         subst hz;go_enter Tryz.func18,Tryz.ntmps18;exact yp
     · rw[if_pos rfl] at hz;subst hz;go_enter Tryz.func18,Tryz.ntmps18;exact yp
   · rw[Bool.true_or,if_pos rfl] at hz;subst hz;go_enter Tryz.func18,Tryz.ntmps18;go_wp2;go_ret;exact zc
theorem WU(w:World):Calls Tryz.prog 54 #[] w fun r w'=>r=.returned (.agg #[.int .i64 0,.int .i64 0])/\Below w.heap.size w w':=by
 go_enter Tryz.func54,Tryz.ntmps54;go_wp2;refine aB (v:=.agg #[.int .i64 0,.int .i64 0]) (by simp[results,Tryz.results54,go_sem]) rfl ?_;exact⟨rfl,ae _ _⟩
noncomputable def zn (V D:Option (Bool×Nat×Int)) (mode:Int):Nat×Int:=mr iW ⟨dN V,.bool false,dX V,dE V,dN D,.bool false,dX D,dE D⟩ mode
noncomputable def WV (low high rest den:Nat):Int:=tQ low*((den-rest:Nat):Int)+tQ high*(rest:Int)
noncomputable def F9 (low high rest den:Nat) (mode:Int):Nat :=
 if WV low high rest den=0 then nt (snd (sS [low,high]).n (sS [low,high]).u (sS [low,high]).d (sS [low,high]).m (sS [low,high]).p (sS [low,high]).a) (sS [low,high]).n (sS [low,high]).u (sS [low,high]).d (sS [low,high]).m (sS [low,high]).p (sS [low,high]).a mode else(zn (gV 1074 (WV low high rest den)) (gV 0 (den:Int)) mode).1
theorem ZQ(low high Dq rest den:Nat)(mode:Int)(hl:low<18446744073709551616)(fl:aY low)(hh:high<18446744073709551616)(fh:aY high)(hr:rest<=den)(hd:den<=2147483648)(w:World)(hT:gF w) :
 Calls Tryz.prog 34 #[.agg #[.int .i64 (Dq:Nat),.int .i64 (rest:Nat),.int .i64 (den:Nat)],.float .f64 low,.float .f64 high,.int .i64 mode] w fun r w'=>r=.returned (.float .f64 (F9 low high rest den mode))/\Below w.heap.size w w':=by
 obtain⟨z,hz⟩:∃ z,z=2098:=⟨_,rfl⟩;obtain⟨k,hk⟩:∃ z,z=31:=⟨_,rfl⟩;have b1:=mV hl fl z hz;have b2:=mV hh fh z hz;have bn:∀ n:Nat,n<=2147483648->Bd k (n:Int):=fun n hn=>by unfold Bd;rw[ni,hk];exact hn
 have c1:=b1.mul (bn (den-rest) (by omega));have c2:=b2.mul (bn rest (by omega));have F1:=lJ (u:=1074) (by omega) (by omega) c1;have F2:=lJ (u:=1074) (by omega) (by omega) c2;have ea:=RZ (u:=1074) (by omega) (by omega) c1 c2;have Fq:=lJ (u:=1074) (by omega) (by omega) (c1.add c2);have Fd:=lJ (u:=0) (by omega) (by omega) (bn den hd);have hsg:=(R3 (u:=1074) (by omega) (by omega) (c1.add c2)).1
 have hW2:ja [low,high]:=fun x hx=>by
  rcases uP.1 hx with rfl|hx
  · exact hl
  · rw[zw.1 hx];exact hh
 obtain⟨V,hV⟩:=af (WV low high rest den);have hV':tQ low*((den-rest:Nat):Int)+tQ high*(rest:Int)=V:=hV.symm;rw[hV'] at ea Fq hsg
 have:=F6 low high Dq rest den (den-rest) mode _ _ _ _ F1 F2 Fq Fd (pV (dN (gV 1074 V)) (dX (gV 1074 V))) (sS [low,high]).n (sS [low,high]).u (sS [low,high]).d (sS [low,high]).m (sS [low,high]).p (sS [low,high]).a (zn (gV 1074 V) (gV 0 (den:Int)) mode).1 (nt (snd (sS [low,high]).n (sS [low,high]).u (sS [low,high]).d (sS [low,high]).m (sS [low,high]).p (sS [low,high]).a) (sS [low,high]).n (sS [low,high]).u (sS [low,high]).d (sS [low,high]).m (sS [low,high]).p (sS [low,high]).a mode) (zn (gV 1074 V) (gV 0 (den:Int)) mode).2 w hT (aH (by omega) (by omega))
  (fun u hT=>KJ low (den-rest) hl fl (by omega) u hT) (fun u hT=>KJ high rest hh fh (by omega) u hT)
  (fun u a b c d hT N1 N2=>We F1 F2 N1 N2 hT ea Fq)
  (fun u a c N=>by
   have:=tO (Fq.a12 N) (dN (gV 1074 V)) (dE (gV 1074 V));rw[au] at this
   exact this)
  WU
  (fun u b hF=>(Sn [low,high] _ 2 2 0 0 u rfl (by decide) hF hW2).mono (fun r w' h=>by
   obtain⟨h1,h2⟩:=h;refine⟨?_,h2⟩
   have e0:KH 0 0 [low,high]=0:=by
    unfold KH Ps.rf;rw[if_neg (by decide),if_neg (by simp),if_neg (by omega),if_neg (by omega)]
   rcases h1 with ⟨h1,_⟩|⟨_,a',c',rfl,_⟩
   · exact absurd e0 h1
   · exact⟨_,rfl⟩))
  (fun u=>xR _ _ _ _ _ _ _ u)
  (fun u hT=>(Cc (den:Nat) u hT (by omega) (by omega)).mono (fun r w' h=>h))
  (fun u a b c d hT N1 N2=>RS (w:=u) (n:=dN (gV 1074 V)) (m:=dN (gV 0 (den:Int))) (X:=dX (gV 1074 V)) (Y:=dX (gV 0 (den:Int))) (e:=dE (gV 1074 V)) (f:=dE (gV 0 (den:Int))) mode ⟨N1.av (dz Fq.len (by decide)),N2.av (dz Fd.len (by decide)),Fq.qL,Fd.qL⟩ hT)
 have e1:(if pV (dN (gV 1074 V)) (dX (gV 1074 V))=0 then(nt (snd (sS [low,high]).n (sS [low,high]).u (sS [low,high]).d (sS [low,high]).m (sS [low,high]).p (sS [low,high]).a) (sS [low,high]).n (sS [low,high]).u (sS [low,high]).d (sS [low,high]).m (sS [low,high]).p (sS [low,high]).a mode) else(zn (gV 1074 V) (gV 0 (den:Int)) mode).1)=F9 low high rest den mode:=by
  unfold F9;rw[<-hV]
  have:pV (dN (gV 1074 V)) (dX (gV 1074 V))=0↔V=0:=by
   rw[<-hsg];unfold pV
   by_cases h:dX (gV 1074 V)=0
   · rw[if_pos h];exact⟨fun _=>h,fun _=>rfl⟩
   · rw[if_neg h];exact⟨fun e=>by split at e <;> omega,fun e=>absurd e h⟩
  by_cases h:V=0
  · rw[if_pos (this.2 h),if_pos h]
  · rw[if_neg (fun e=>h (this.1 e)),if_neg h]
 rw[e1] at this;exact this
theorem OT(n num den:Nat)(hn:1<=n)(hn2:n<=65536)(Tt:num<=den)(hd1:1<=den)(hd:den<=2147483648)(w:World) :
 Calls Tryz.prog 31 #[.int .i64 (n:Nat),.int .i64 (num:Nat),.int .i64 (den:Nat)] w fun r w'=>r=.returned (.agg #[.int .i64 (((n-1)*num/den:Nat):Int),.int .i64 (((n-1)*num%den:Nat):Int),.int .i64 (den:Nat)])/\Below w.heap.size w w':=by
 obtain⟨n1,hn1⟩:=af (n-1);obtain⟨s,hs⟩:=af (n1*num);have hsb:s<=65535*2147483648:=by rw[hs];exact jG (by omega) (by omega)
 rw[<-hn1,<-hs];obtain⟨q,hq⟩:=af (s/den);obtain⟨m,hm⟩:=af (s%den);rw[<-hq,<-hm];have hqb:q<=s:=by rw[hq];exact nO _ _
 have w1:IntKind.i64.wrap ((n:Int)-1)=(n1:Int):=aH (by omega) (by omega);have w2:IntKind.i64.wrap ((n1:Int)*(num:Int))=(s:Int):=aH (by rw[hs];simp) (by omega);have w3:Int.tdiv (s:Int) (den:Int)=(q:Int):=by rw[hq];rfl
 have w4:Int.tmod (s:Int) (den:Int)=(m:Int):=by rw[hm];rfl
 have w5:IntKind.i64.wrap (q:Int)=(q:Int):=aH rfl (by omega);have w6:IntKind.i64.wrap (m:Int)=(m:Int):=aH rfl (by have:=gP s (show 0<den by omega);omega);have w7:((den:Int)==0)=false:=by simp;omega
 have w8:¬ (den:Int)=0:=by omega
 have w9:¬ den=0:=by omega
 have HQ:=(iw hn1 hs hq hm);clear hn1 hs hq hm;go_enter Tryz.func31,Tryz.ntmps31
 go_upto_region 2 with fail
 go_region
 all_goals
  go_wp2;refine aB (v:=.agg #[.int .i64 (q:Nat),.int .i64 (m:Nat),.int .i64 (den:Nat)]) (by simp[results,Tryz.results31,go_sem]) rfl ?_;exact⟨rfl,by first | exact(ae _ _).drew | exact ae _ _ | exact((((ae _ _).drew).setCell (ak _) _).setCell (ak _) _).setCell (ak _) _⟩
def Tu(Dq rest den:Nat):Nat:=if den<2*rest\/2*rest=den/\Dq%2=1 then Dq+1 else Dq
theorem jj{P:Prop}(h:P:=by
 go_enter Tryz.func32,Tryz.ntmps32;go_wp2;go_ret;exact⟨rfl,ae _ _⟩):P:=h
theorem ZR(Dq rest den:Nat)(ha:Dq<=65536)(hr:rest<=2147483648)(hd:den<=2147483648)(w:World) :
 Calls Tryz.prog 32 #[.agg #[.int .i64 (Dq:Nat),.int .i64 (rest:Nat),.int .i64 (den:Nat)]] w fun r w'=>r=.returned (.int .i64 (Tu Dq rest den:Nat))/\Below w.heap.size w w':=by
 obtain⟨t,ht⟩:=af (2*rest);obtain⟨a1,ha1⟩:=af (Dq+1);obtain⟨m,hm⟩:=af (Dq%2);obtain⟨z,hz⟩:=af (Tu Dq rest den);rw[<-hz];unfold Tu at hz;rw[<-ht,<-ha1,<-hm] at hz;have w1:IntKind.i64.wrap (2*(rest:Int))=(t:Int):=aH (by omega) (by omega);have w2:IntKind.i64.wrap ((Dq:Int)+1)=(a1:Int):=aH (by omega) (by omega);have w3:Int.tmod (Dq:Int) 2=(m:Int):=by rw[hm];rfl
 have w4:IntKind.i64.wrap (m:Int)=(m:Int):=aH rfl (by omega);have HQ:=(fG ht ha1 hm);clear ht ha1 hm
 by_cases h1:den<t
 · have d1:decide ((den:Int)<(t:Int))=true:=by simp;omega
   rw[if_pos (.inl h1)] at hz;subst hz;exact jj
 · have d1:decide ((den:Int)<(t:Int))=false:=by simp;omega
   by_cases h2:t=den
   · have d2:((t:Int)==(den:Int))=true:=by simp;omega
     by_cases h3:m=1
     · rw[if_pos (.inr ⟨h2,h3⟩)] at hz;subst hz h3 h2;exact jj
     · rw[if_neg (by omega)] at hz;have d3:((m:Int)==1)=false:=by simp;omega
       have d4:decide ((m:Int)=1)=false:=by simp;omega
       subst hz h2;exact jj
   · rw[if_neg (by omega)] at hz;have d2:((t:Int)==(den:Int))=false:=by simp;omega
     have d3:decide ((t:Int)=(den:Int))=false:=by simp;omega
     subst hz;exact jj
noncomputable def uC (ys:List Nat) (num den:Nat) (rule mode:Int):Nat :=
 let s:=(ys.length-1)*num
 if s%den=0 then ys.getD (s/den) 0 else if rule=0 then ys.getD (s/den) 0 else if rule=1 then ys.getD (s/den+1) 0 else if rule=2 then ys.getD (Tu (s/den) (s%den) den) 0
 else if rule=3 then(oL (ys.getD (s/den) 0) (ys.getD (s/den+1) 0) mode).1 else F9 (ys.getD (s/den) 0) (ys.getD (s/den+1) 0) (s%den) den mode
theorem xf{P:Prop}(h:P:=by
 go_wp2_with fail;refine C.o.mono ?_;rintro r v ⟨rfl,hb⟩;have HR:=ah (HU.o.1.trans (hb.mono HU.o.1.size));clear C hb;go_wp2;go_ret;exact⟨by rw[HZ.o];rfl,HR.o⟩):P:=h
theorem Tv(ys:List Nat)(b:Nat)(n cap num den:Nat)(rule mode:Int)(w:World)(hT:gF w)(hF:Fs w.heap.size w (some ⟨b,0,none⟩) ys)(hn:n=ys.length)(hn1:1<=n)(hn2:n<=65536)(hW:ja ys)(hf:∀ x ∈ ys,aY x)(Tt:num<=den)(hd1:1<=den)(hd:den<=2147483648)(hr0:0<=rule)(hr4:rule<=4) :
 Calls Tryz.prog 19 #[.slice (some ⟨b,0,none⟩) n cap,.int .i64 (num:Nat),.int .i64 (den:Nat),.int .i64 rule,.int .i64 mode] w fun r w'=>r=.returned (.float .f64 (uC ys num den rule mode))/\Below w.heap.size w w':=by
 have C:=hid (OT n num den hn1 hn2 Tt hd1 hd w);obtain⟨zz,hzz⟩:=af (uC ys num den rule mode);rw[<-hzz];unfold uC at hzz;simp only[<-hn] at hzz;obtain⟨s,hs⟩:=af ((n-1)*num);rw[<-hs] at C hzz;have hsb:s<=(n-1)*den:=by rw[hs];exact eO _ Tt
 obtain⟨q,hq⟩:=af (s/den);obtain⟨m,hm⟩:=af (s%den);rw[<-hq,<-hm] at C hzz;have M5:den*q+m=s:=by rw[hq,hm];exact mZ _ _
 have GU:m<den:=by rw[hm];exact gP _ (by omega)
 have VV:q<n:=by
  have:q<=n-1:=by
   rw[hq];exact Nat.div_le_of_le_mul (by rw[bJ];exact hsb)
  omega
 have hq1:m≠0->q+1<n:=fun h0=>by
  have h1:den*q<(n-1)*den:=by omega
  rw[bJ] at h1;have:=wF h1;omega
 have hmem:∀ i,i<n->ys.getD i 0<18446744073709551616/\aY (ys.getD i 0):=fun i hi=>⟨hW _ (cK (by omega)),hf _ (cK (by omega))⟩;have HY:=(iw hF hn hT hmem);have HZ:=ah hzz;have HE:=(fM hs hsb hq hm M5);clear hF hT hmem hzz hs hsb hq hm M5 hW hf hn;go_enter Tryz.func19,Tryz.ntmps19;go_wp2_with fail;refine C.o.mono ?_;rintro r v0 ⟨rfl,hb⟩;obtain⟨V,hV⟩:=af (v0.alloc (Obj.cells #[.int .i64 (q:Nat),.int .i64 (m:Nat),.int .i64 (den:Nat)] 54));obtain⟨g,hg⟩:=af (v0.heap.size);have hbV:Below w.heap.size w V:=by rw[hV];exact hb.trans ((ae _ _).mono hb.size)
 have p0:V.cell? ⟨g,0,none⟩=some (.int .i64 (q:Nat)):=by rw[hV,hg,World.cell?_alloc_new];rfl
 have p1:V.cell? ⟨g,1,none⟩=some (.int .i64 (m:Nat)):=by rw[hV,hg,World.cell?_alloc_new];rfl
 have p2:V.cell? ⟨g,2,none⟩=some (.int .i64 (den:Nat)):=by rw[hV,hg,World.cell?_alloc_new];rfl
 have HV:=(aZ hV hg);have HB:=ah hbV;clear C hb hV hg hbV;have bq:(q:Int)<(n:Int):=by omega
 have cell:∀ i,i<n->V.cell? ⟨b,i,none⟩=some (.float .f64 (ys.getD i 0)):=fun i hi=>by
  obtain⟨b',off,e,c⟩:=HY.o.1.at HB.o i (by have:=HY.o.2.1;omega)
  cases e
  rw[cO] at c;exact c
 have HC:=ah cell;clear cell
 go_upto_region 2 with fail
 rw[<-HV.o.1,<-HV.o.2];clear HV
 by_cases h0:m=0
 · replace HZ:Aside (zz=ys.getD q 0):=ah (by rw[HZ.o,if_pos h0]);have c0:=HC.o q VV;obtain⟨x,hx⟩:=af (ys.getD q 0);rw[<-hx] at c0 HZ;subst h0;clear hx;go_wp2;go_ret;exact⟨by rw[HZ.o];rfl,HB.o⟩
 · have d0:((m:Int)==0)=false:=by simp;omega
   have d1:decide ((m:Int)=0)=false:=by simp;omega
   have hq2:=hq1 h0;obtain⟨q1,Jl⟩:∃ x,x=q+1:=⟨_,rfl⟩;have wq:IntKind.i64.wrap ((q:Int)+1)=(q1:Int):=aH (by omega) (by omega);have bq1:(q1:Int)<(n:Int):=by omega
   have Tw:q1<n:=by omega
   have c0:=HC.o q VV;have c1:=HC.o q1 Tw;obtain⟨f0,g0⟩:=HY.o.r3 q VV;obtain⟨f1,g1⟩:=HY.o.r3 q1 Tw;replace HZ:Aside (zz=if rule=0 then ys.getD q 0 else if rule=1 then ys.getD q1 0 else if rule=2 then ys.getD (Tu q m den) 0 else if rule=3 then(oL (ys.getD q 0) (ys.getD q1 0) mode).1 else F9 (ys.getD q 0) (ys.getD q1 0) m den mode):=ah (by rw[HZ.o,if_neg h0,Jl]);obtain⟨x,hx⟩:=af (ys.getD q 0);obtain⟨y,hy⟩:=af (ys.getD q1 0);rw[<-hx] at c0 f0 g0 HZ;rw[<-hy] at c1 f1 g1 HZ;have Pf:=(fM f0 g0 f1 g1 Jl);clear hx hy f0 g0 f1 g1 Jl
   go_upto_region 4 with fail
   go_cut [12,13] from 29 to 39 (fun lv hv wx=>lv=.float .f64 x/\hv=.float .f64 y/\wx=V.drew)
   case first =>
    go_region
    all_goals
     go_wp2_with fail
     go_meet
     case rel=>exact⟨rfl,rfl,rfl⟩
   obtain⟨rfl,rfl,hwc⟩:=hcut;obtain⟨U,hU⟩:=af (V.drew);rw[hwc,<-hU]
   have HU:Aside (Below w.heap.size w U/\(∀ i,i<n->U.cell? ⟨b,i,none⟩=some (.float .f64 (ys.getD i 0)))):=by
    rw[hU];exact⟨HB.o.drew,HC.o⟩
   have r0:U.cell? ⟨g,0,none⟩=some (.int .i64 (q:Nat)):=by rw[hU];exact p0
   have r1:U.cell? ⟨g,1,none⟩=some (.int .i64 (m:Nat)):=by rw[hU];exact p1
   have r2:U.cell? ⟨g,2,none⟩=some (.int .i64 (den:Nat)):=by rw[hU];exact p2
   clear hwc hU p0 p1 p2 c0 c1 HC HB;have hr:rule=0\/rule=1\/rule=2\/rule=3\/rule=4:=by omega
   rcases hr with rfl|rfl|rfl|rfl|rfl
   · replace HZ:Aside (zz=x):=ah (by rw[HZ.o,if_pos rfl]);go_wp2;go_ret;exact⟨by rw[HZ.o];rfl,HU.o.1⟩
   · replace HZ:Aside (zz=y):=ah (by rw[HZ.o,if_neg (by decide),if_pos rfl]);go_wp2;go_ret;exact⟨by rw[HZ.o];rfl,HU.o.1⟩
   · have C:=hid (ZR q m den (by omega) (by omega) hd U);have hk:Tu q m den<n:=by unfold Tu;have:=Pf.o.r4;split <;> omega
     obtain⟨k,hkk⟩:=af (Tu q m den);rw[<-hkk] at C hk;replace HZ:Aside (zz=ys.getD k 0):=ah (by rw[HZ.o,if_neg (by decide),if_neg (by decide),if_pos rfl,hkk]);have bk:(k:Int)<(n:Int):=by omega
     clear hkk;go_wp2_with fail;refine C.o.mono ?_;rintro r v ⟨rfl,hb⟩;have ck:v.cell? ⟨b,k,none⟩=some (.float .f64 (ys.getD k 0)):=(hb.cell (p:=⟨b,k,none⟩) (aA (HU.o.2 k hk))).trans (HU.o.2 k hk);have HR:=ah (HU.o.1.trans (hb.mono HU.o.1.size));obtain⟨e,he⟩:=af (ys.getD k 0);rw[<-he] at ck HZ;clear C hb he;go_wp2;go_ret;exact⟨by rw[HZ.o];rfl,HR.o⟩
   · have C:=hid (Sw x y Pf.o.1 Pf.o.r2.1 mode U (HY.o.r2.1.belows HU.o.1) (oL x y mode) rfl);obtain⟨⟨e1,e2⟩,hmd⟩:∃ z,oL x y mode=z:=⟨_,rfl⟩;rw[hmd] at C HZ;replace HZ:Aside (zz=e1):=ah (by rw[HZ.o,if_neg (by decide),if_neg (by decide),if_neg (by decide),if_pos rfl]);clear hmd;exact xf
   · have C:=hid (ZQ x y q m den mode Pf.o.1 Pf.o.2.1 Pf.o.r2.1 Pf.o.r3.1 (by omega) hd U (HY.o.r2.1.belows HU.o.1));replace HZ:Aside (zz=F9 x y m den mode):=ah (by rw[HZ.o,if_neg (by decide),if_neg (by decide),if_neg (by decide),if_neg (by decide)]);obtain⟨e,he⟩:=af (F9 x y m den mode);rw[<-he] at C HZ;clear he;exact xf
theorem CX{xs:List Nat}{odd:Bool}(h:yY xs odd=0):odd=false/\xs.length<=65536/\xs≠[]/\∀ x ∈ xs,aY x:=by
 unfold yY at h
 by_cases h1:65536<xs.length
 · rw[if_pos h1] at h;omega
 · rw[if_neg h1] at h
   by_cases h2:(odd || xs.any Dr)=true
   · rw[if_pos h2] at h;omega
   · rw[if_neg h2] at h
     by_cases h3:xs.length=0
     · rw[if_pos h3] at h;omega
     · rw[Bool.or_eq_true,not_or] at h2;refine⟨by simpa using h2.1,by omega,fun e=>by rw[e] at h3;exact h3 rfl,fun x hx=>?_⟩;have:=h2.2;rw[wU] at this;rcases gT (aQ x) 9218868437227405312 with q|q
       · exact q
       · exact absurd ⟨x,hx,by unfold Dr;exact decide_eq_true q⟩ this
theorem KP{x:Nat}(h:aY x):SN x=x:=by
 unfold SN rO;have:aQ x=x%9223372036854775808:=rfl;rw[if_neg (by rw[decide_eq_true_eq];have:=h;unfold aY aQ at this;omega)]
theorem j5{xs:List Nat}(hf:∀ x ∈ xs,aY x):∀ x ∈ dR xs,x ∈ xs:=fun x hx=>by
 unfold dR at hx;obtain⟨i,hi,rfl⟩:=qR.1 hx;have hl:=kM.1 hi;have hm:xs.getD i 0 ∈ xs:=cK hl;rw[KP (hf _ hm)];exact hm
noncomputable def Ug (xs:List Nat) (num den rule mode:Int):Nat×Int :=
 if Pe rule mode=false\/den<1\/2147483648<den\/num<0\/den<num then(0,1) else if yY xs false=0 then(uC (dR xs) num.toNat den.toNat rule mode,0) else(0,yY xs false)
theorem KB{P:Prop}(h:P:=by
 obtain⟨rfl,rfl⟩:=iA hz;go_enter Tryz.func7,Tryz.ntmps7;go_wp2_with fail;refine CK.o.mono ?_;rintro r v ⟨rfl,rfl⟩;go_wp2;refine aB (v:=.tuple #[.float .f64 0,.int .i64 1]) (by simp[results,Tryz.results7,go_sem]) rfl ?_;exact⟨rfl,ay _ _⟩):P:=h
theorem yP(xs:List Nat)(ao:Option Addr)(n cap:Nat)(num den rule mode:Int)(w:World)(hT:gF w)(hF:Fs w.heap.size w ao xs)(hn:n=xs.length)(hb:n<=17592186044416)(hW:ja xs)(z:Nat×Int)(hz:Ug xs num den rule mode=z) :
 Calls Tryz.prog 7 #[.slice ao n cap,.int .i64 num,.int .i64 den,.int .i64 rule,.int .i64 mode] w fun r w'=>r=.returned (.tuple #[.float .f64 z.1,.int .i64 z.2])/\Below w.heap.size w w':=by
 obtain⟨z1,z2⟩:=z;simp only;have CK:=hid (KO rule mode w);unfold Ug at hz
 have hkn:Pe rule mode=true->0<=rule/\rule<=4:=fun h=>by
  unfold Pe at h;have:=of_decide_eq_true h;exact⟨this.1,this.2.1⟩
 obtain⟨kb,hkb⟩:=af (Pe rule mode);rw[<-hkb] at CK hz hkn;have HY:=(fM hF hn hT hW hkn);clear hF hn hT hW hkn hkb;have CA:Hid (∀ u:World,Below w.heap.size w u->Calls Tryz.prog 18 #[.slice ao n cap,.bool false] u fun r w'=>r=.returned (.int .i64 (yY xs false))/\Below u.heap.size u w'):=fun u hu=>CW xs false ao n cap u ((HY.o.1.below hu).mono hu.size) HY.o.2.1 hb HY.o.r3.1
 cases kb
 · rw[if_pos (.inl rfl)] at hz;obtain⟨rfl,rfl⟩:=iA hz;go_enter Tryz.func7,Tryz.ntmps7;go_wp2_with fail;refine CK.o.mono ?_;rintro r v ⟨rfl,rfl⟩;go_wp2;refine aB (v:=.tuple #[.float .f64 0,.int .i64 1]) (by simp[results,Tryz.results7,go_sem]) rfl ?_;exact⟨rfl,ay _ _⟩
 · by_cases h1:den<1
   · have d1:decide (den<1)=true:=by simp[h1]
     rw[if_pos (.inr (.inl h1))] at hz;exact KB
   · have d1:decide (den<1)=false:=by simp;omega
     by_cases h2:2147483648<den
     · have d2:decide (2147483648<den)=true:=by simp[h2]
       rw[if_pos (.inr (.inr (.inl h2)))] at hz;exact KB
     · have d2:decide (2147483648<den)=false:=by simp;omega
       by_cases h3:num<0
       · have d3:decide (num<0)=true:=by simp[h3]
         rw[if_pos (.inr (.inr (.inr (.inl h3))))] at hz;exact KB
       · have d3:decide (num<0)=false:=by simp;omega
         by_cases h4:den<num
         · have d4:decide (den<num)=true:=by simp[h4]
           rw[if_pos (.inr (.inr (.inr (.inr h4))))] at hz;exact KB
         · have d4:decide (den<num)=false:=by simp;omega
           rw[if_neg (by rintro (h | h | h | h | h) <;> first | exact absurd h (by decide) | omega)] at hz;obtain⟨dn,hdn⟩:∃ k:Nat,den=(k:Int):=⟨den.toNat,by omega⟩;obtain⟨nm,hnm⟩:∃ k:Nat,num=(k:Int):=⟨num.toNat,by omega⟩;subst hdn hnm;rw[j6,j6] at hz;have hd1:1<=dn:=by omega
           have hd2:dn<=2147483648:=by omega
           have hnd:nm<=dn:=by omega
           have hfin:yY xs false=0->_:=CX (xs:=xs) (odd:=false);obtain⟨e,he⟩:=af (yY xs false);rw[<-he] at CA hz hfin;have HE:=ah hfin;clear hfin he
           by_cases h5:e=0
           · subst h5;rw[if_pos rfl] at hz;obtain⟨hz1,rfl⟩:=iA hz;have HZ:=ah hz1;clear hz hz1;go_enter Tryz.func7,Tryz.ntmps7;go_wp2_with fail;refine CK.o.mono ?_;rintro r v ⟨rfl,rfl⟩;have C:=hid (CA.o v (ay _ _));go_wp2_with fail;refine C.o.mono ?_;rintro r v2 ⟨rfl,hb2⟩;have HB:=ah hb2;have C:=hid (Tn xs ao n cap v2 ((HY.o.1.below hb2).mono hb2.size) HY.o.2.1 hb HY.o.r3.1);clear hb2;go_wp2_with fail;refine C.o.mono ?_;rintro r v3 ⟨rfl,hO,hb3⟩;have hb4:=HB.o.trans (hb3.mono HB.o.size);have hl:=j4 xs;obtain⟨_,e2,e3,e4⟩:=HE.o (by first|rfl|trivial)
             have OU:Fs v3.heap.size v3 (some ⟨v2.heap.size,0,none⟩) (dR xs):=by
              have:=hO.fs hO.lt n;rw[dO (by have:=HY.o.2.1;omega)] at this;exact this
             have hpos:0<xs.length:=wH.2 e3;have C:=hid (Tv (dR xs) v2.heap.size n n nm dn rule mode v3 (HY.o.r2.1.belows hb4) OU (by have:=HY.o.2.1;omega) (by have:=HY.o.2.1;omega) (by have:=HY.o.2.1;omega) (fun x hx=>HY.o.r3.1 x (j5 e4 x hx)) (fun x hx=>e4 x (j5 e4 x hx)) hnd hd1 hd2 (HY.o.r4 (by first | rfl | trivial)).1 (HY.o.r4 (by first | rfl | trivial)).2);rw[HZ.o] at C;have HB4:=ah hb4;clear hO hb3 hb4 hl e2 e3 e4 OU hpos;go_wp2_with fail;refine C.o.mono ?_;rintro r v4 ⟨rfl,hb5⟩;have HR:=ah (HB4.o.trans (hb5.mono HB4.o.size));clear C hb5;go_wp2;refine aB (v:=.tuple #[.float .f64 z1,.int .i64 0]) (by simp[results,Tryz.results7,go_sem]) rfl ?_;exact⟨rfl,HR.o⟩
           · rw[if_neg h5] at hz;obtain⟨rfl,rfl⟩:=iA hz;have k1:(e==0)=false:=by simp[h5]
             have k2:(e != 0)=true:=by simp[h5]
             have k3:decide (e=0)=false:=by simp[h5]
             go_enter Tryz.func7,Tryz.ntmps7;go_wp2_with fail;refine CK.o.mono ?_;rintro r v ⟨rfl,rfl⟩;have C:=hid (CA.o v (ay _ _));go_wp2_with fail;refine C.o.mono ?_;rintro r v2 ⟨rfl,hb2⟩;have HR:=ah hb2;clear C hb2;go_wp2;refine aB (v:=.tuple #[.float .f64 0,.int .i64 e]) (by simp[results,Tryz.results7,go_sem]) rfl ?_;exact⟨rfl,HR.o⟩
theorem f1(k:Nat)(hk:k=1074):tQ 4607182418800017408=((1*2^k:Nat):Int):=by subst hk;decide +kernel
noncomputable def oZ (x:Nat):Option (Bool×Nat×Int):=open Classical in if aY x then oW x else Fy
theorem CY{x:Nat}(h:aY x):oZ x=oW x:=if_pos h
theorem uD{x:Nat}(h:¬ aY x):oZ x=Fy:=if_neg h
theorem oZ_iv(x:Nat)(hx:x<18446744073709551616):Iv (oZ x) (-1074) 1024:=by
 by_cases h:aY x
 · rw[CY h];exact XN x hx h
 · rw[uD h];exact Za _ _
end
section
open Go.RowKit
theorem Nt.al'{lo:Nat}{w:World}{v:Value}{X:Nat}(h:Nt lo w v X)(hl:(ws X).length<=2000000):Al w v X:=by
 obtain⟨a,c,rfl,hA⟩:=h.arg (by omega);exact⟨a,_,c,_,rfl,hA,au _,hl⟩
theorem oU{w:World}{v u:Value}{X Y:Nat}(h1:Al w v X)(h2:Al w u Y):Calls Tryz.prog 110 #[v,u] w fun r w'=>∃ p,r=.returned p/\Nt w.heap.size w' p (X*Y)/\Below w.heap.size w w':=by
 obtain⟨a,l,c,xs,rfl,hA,rfl,hl⟩:=h1;obtain⟨b,k,d,ys,rfl,hB,rfl,hk⟩:=h2;exact kD hA hB (by omega) rfl
theorem yQ{w:World}{v u:Value}{X Y:Nat}{e f:Int}(h1:Al w v X)(h2:Al w u Y)(be:-9223372036854775808<=e/\e<=9223372036854775807)(bf:-9223372036854775808<=f/\f<=9223372036854775807) :
 Calls Tryz.prog 216 #[v,.int .i64 e,u,.int .i64 f] w fun r w'=>r=.returned (.int .i64 (XK X e Y f))/\Below w.heap.size w w':=by
 obtain⟨a,l,c,xs,rfl,hA,rfl,hl⟩:=h1;obtain⟨b,k,d,ys,rfl,hB,rfl,hk⟩:=h2;exact EW hA hB hl hk e f be.1 be.2 bf.1 bf.2
theorem Ga{w:World}{n m:Bool}{p a b:Option Addr}{lp cp la ca lb cb A X Y:Nat}{g e f:Int}(hA:Al w (.slice p lp cp) A)(hN:Al w (.slice a la ca) X)(hD:Al w (.slice b lb cb) Y)(he:-9223372036854775808<=e/\e<=9223372036854775807)(h g2:Int)(e2:IntKind.i64.wrap (g+f)=h)(hh:-9223372036854775808<=h/\h<=9223372036854775807)(P:Nat)(hP:A*Y=P)(hl:(ws P).length<=2000000) :
 Calls Tryz.prog 198 #[.slice p lp cp,.int .i64 g,.agg #[.bool n,.slice a la ca,.int .i64 e,.bool m,.slice b lb cb,.int .i64 f],.bool false] w fun r w'=>r=.returned (.int .i64 (XK P h X e))/\Below w.heap.size w w':=by
 obtain⟨W1,hW1⟩:=af (w.alloc (.cells #[.bool n,.slice a la ca,.int .i64 e,.bool m,.slice b lb cb,.int .i64 f] 93));have hB:Below w.heap.size w W1:=by rw[hW1];exact ae _ _
 have WW:Rq W1 w.heap.size n (.slice a la ca) e m (.slice b lb cb) f:=by rw[hW1];exact Rq.new _ _ _ _ _ _ _
 have S0:=(fM hB WW (hA.below hB) (hN.below hB) (hD.below hB));have BD:=(iw he hh hl hP);clear hB WW hA hN hD he hh hl hP;go_enter Tryz.func198,Tryz.ntmps198
 go_upto_region 1 with fail
 rw[<-hW1];clear hW1;obtain⟨x0,x1,x2,x3,x4,x5⟩:=S0.o.2.1.facts
 go_upto_region 6 with fail
 have dr:Below W1.heap.size W1 W1.drew:=(ay _ _).drew;have T1:=hid (oU S0.o.r2.1 S0.o.r4);have T2:=hid (oU (S0.o.r2.1.below dr) (S0.o.r4.below dr));rw[BD.o.r3] at T1 T2;clear dr
 go_region_held3 (fun w'=>w'.cell? ⟨w.heap.size,0,none⟩=some (.bool n)/\w'.cell? ⟨w.heap.size,1,none⟩=some (.slice a la ca)/\w'.cell? ⟨w.heap.size,2,none⟩=some (.int .i64 e)/\w'.cell? ⟨w.heap.size,3,none⟩=some (.bool m)/\w'.cell? ⟨w.heap.size,4,none⟩=some (.slice b lb cb)/\w'.cell? ⟨w.heap.size,5,none⟩=some (.int .i64 f)) (go_keep) (first
  | (go_at_call 110
     first | with_reducible refine T1.o.mono ?_ | with_reducible refine T2.o.mono ?_
     rintro r v1 ⟨pv,rfl,hN,hb⟩;obtain⟨q1,d1,rfl,-⟩:=hN.shape;have hb1:Below W1.heap.size W1 v1:=by first | exact hb | exact((ay _ W1).drew).trans (hb.mono (ak _))
     obtain⟨aC,QR,AX,AN,AD⟩:=S0.o;obtain⟨m0,m1,m2,m3,m4,m5⟩:=(QR.below hb1).facts;have T3:=hid (yQ (hN.al' BD.o.r2.1) (AN.below hb1) BD.o.2.1 BD.o.1);have S4:=(aZ (aC.trans (hb1.mono aC.size)) (QR.below hb1))
     clear hN hb hb1 aC QR AX AN AD)
  | (go_at_call 216
     with_reducible refine T3.o.mono ?_
     rintro r v2 ⟨rfl,hb⟩;obtain⟨aC,QR⟩:=S4.o;obtain⟨k0,k1,k2,k3,k4,k5⟩:=(QR.below hb).facts;have S5:=ah (aC.trans (hb.mono aC.size))
     clear hb aC QR))
 all_goals (
  go_wp2;go_ret
  exact⟨rfl,S5.o⟩)
theorem Gb{w:World}{n m:Bool}{p a b:Option Addr}{lp cp la ca lb cb A X Y:Nat}{g e f:Int}(hA:Al w (.slice p lp cp) A)(hN:Al w (.slice a la ca) X)(hD:Al w (.slice b lb cb) Y)(he:-9223372036854775808<=e/\e<=9223372036854775807)(h g2:Int)(e1:IntKind.i64.wrap (2*g)=g2)(e2:IntKind.i64.wrap (g2+f)=h)(hh:-9223372036854775808<=h/\h<=9223372036854775807)(P:Nat)(hP:(A*A)*Y=P)(hl:(ws P).length<=2000000)(hl2:(ws (A*A)).length<=2000000) :
 Calls Tryz.prog 198 #[.slice p lp cp,.int .i64 g,.agg #[.bool n,.slice a la ca,.int .i64 e,.bool m,.slice b lb cb,.int .i64 f],.bool true] w fun r w'=>r=.returned (.int .i64 (XK P h X e))/\Below w.heap.size w w':=by
 obtain⟨W1,hW1⟩:=af (w.alloc (.cells #[.bool n,.slice a la ca,.int .i64 e,.bool m,.slice b lb cb,.int .i64 f] 93));have hB:Below w.heap.size w W1:=by rw[hW1];exact ae _ _
 have WW:Rq W1 w.heap.size n (.slice a la ca) e m (.slice b lb cb) f:=by rw[hW1];exact Rq.new _ _ _ _ _ _ _
 have S0:=(fM hB WW (hA.below hB) (hN.below hB) (hD.below hB));have BD:=(iw he hh hl hP);clear hB WW hA hN hD he hh hl hP;go_enter Tryz.func198,Tryz.ntmps198
 go_upto_region 1 with fail
 rw[<-hW1];clear hW1;have HC:=hid (oU S0.o.r2.1 S0.o.r2.1);have HL2:=ah hl2;clear hl2;go_wp2_with fail;refine HC.o.mono ?_;rintro r U ⟨v,rfl,hN,hb⟩;obtain⟨q2,d2,rfl,-⟩:=hN.shape;have S1:=(fM (S0.o.1.trans (hb.mono S0.o.1.size)) (S0.o.2.1.below hb) (hN.al' HL2.o) (S0.o.r3.1.below hb) (S0.o.r4.below hb));clear HC hN hb S0 HL2;obtain⟨x0,x1,x2,x3,x4,x5⟩:=S1.o.2.1.facts
 go_upto_region 6 with fail
 have dr:Below U.heap.size U U.drew:=(ay _ _).drew;have T1:=hid (oU S1.o.r2.1 S1.o.r4);have T2:=hid (oU (S1.o.r2.1.below dr) (S1.o.r4.below dr));rw[BD.o.r3] at T1 T2;clear dr
 go_region_held3 (fun w'=>w'.cell? ⟨w.heap.size,0,none⟩=some (.bool n)/\w'.cell? ⟨w.heap.size,1,none⟩=some (.slice a la ca)/\w'.cell? ⟨w.heap.size,2,none⟩=some (.int .i64 e)/\w'.cell? ⟨w.heap.size,3,none⟩=some (.bool m)/\w'.cell? ⟨w.heap.size,4,none⟩=some (.slice b lb cb)/\w'.cell? ⟨w.heap.size,5,none⟩=some (.int .i64 f)) (go_keep) (first
  | (go_at_call 110
     first | with_reducible refine T1.o.mono ?_ | with_reducible refine T2.o.mono ?_
     rintro r v1 ⟨pv,rfl,hN,hb⟩;obtain⟨q1,d1,rfl,-⟩:=hN.shape;have hb1:Below U.heap.size U v1:=by first | exact hb | exact((ay _ U).drew).trans (hb.mono (ak _))
     obtain⟨aC,QR,AX,AN,AD⟩:=S1.o;obtain⟨m0,m1,m2,m3,m4,m5⟩:=(QR.below hb1).facts;have T3:=hid (yQ (hN.al' BD.o.r2.1) (AN.below hb1) BD.o.2.1 BD.o.1);have S4:=(aZ (aC.trans (hb1.mono aC.size)) (QR.below hb1))
     clear hN hb hb1 aC QR AX AN AD)
  | (go_at_call 216
     with_reducible refine T3.o.mono ?_
     rintro r v2 ⟨rfl,hb⟩;obtain⟨aC,QR⟩:=S4.o;obtain⟨k0,k1,k2,k3,k4,k5⟩:=(QR.below hb).facts;have S5:=ah (aC.trans (hb.mono aC.size))
     clear hb aC QR))
 all_goals (
  go_wp2;go_ret
  exact⟨rfl,S5.o⟩)
end
end Go.Proofs.YtjppdacikihpdaaGreatDoor
