import Derived.Test.YteginbngplldaaaGreatDoorF2x
import Derived.Test.YteginbngplldaaaGreatDoorZ22x
import Derived.Test.YteginbngplldaaaGreatDoorZ8x
import Derived.Test.YteginbngplldaaaGreatDoorMO6x
import Derived.Test.YteginbngplldaaaGreatDoorD2x
import Derived.Deep.RegionHeld3
import Derived.Test.YteginbngplldaaaGreatDoorW17x
set_option linter.unusedVariables false
set_option linter.unusedSimpArgs false
set_option maxHeartbeats 16000000
set_option maxRecDepth 20000
namespace Go.Proofs.YteginbngplldaaaGreatDoor
namespace J
end J
section
open Go.RowKit
theorem r9{w:World}{n m:Bool}{a b:Option Addr}{la ca lb cb X Y:Nat}{e f:Int}(dg ls:Int)(En:Nat)(sq:Bool)(mode:Int)(hm:mode<0\/4<mode) :
 At 104 #[.agg #[.int .i64 dg,.int .i64 ls,.int .u64 (En:Nat)],.agg #[.bool n,.slice a la ca,.int .i64 e,.bool m,.slice b lb cb,.int .i64 f],.bool sq,.int .i64 mode] w (.tuple #[.int .u64 0,.bool false,.int .i64 1]):=by
 obtain⟨W1,hW1⟩:=af ((w.alloc (.cells #[.int .i64 dg,.int .i64 ls,.int .u64 (En:Nat)] 118)).alloc (.cells #[.bool n,.slice a la ca,.int .i64 e,.bool m,.slice b lb cb,.int .i64 f] 73));obtain⟨hB,Z,QR⟩:=kK w dg ls En n _ e m _ f W1 hW1;have S9:=ak hB;clear hB Z QR;have hd:(mode<0)\/(¬ mode<0/\4<mode):=by omega
 clear hm;go_enter Tryz.func104,Tryz.ntmps104
 go_upto_region 1 with fail
 rw[<-hW1];clear hW1;rcases hd with hd|⟨hd,hd2⟩
 · have d1:=decide_eq_true hd;clear hd;go_wp2;exact aC (v:=.tuple #[.int .u64 0,.bool false,.int .i64 1]) (by simp[results,Tryz.results104,go_sem]) rfl ⟨rfl,S9.o⟩
 · have d1:=decide_eq_false hd;have d2:=decide_eq_true hd2;clear hd hd2;go_wp2;exact aC (v:=.tuple #[.int .u64 0,.bool false,.int .i64 1]) (by simp[results,Tryz.results104,go_sem]) rfl ⟨rfl,S9.o⟩
theorem uQ {w:World}{n m:Bool}{a b:Option Addr}{la ca lb cb X Y:Nat}{e f:Int}(dg ls:Int) (En:Nat) (sq:Bool) (mode:Int) (hm0:0<=mode) (mO:mode<=4) (hN:Al w (.slice a la ca) X) (hD:Al w (.slice b lb cb) Y) (be:-9223372036854775808<=e/\e<=9223372036854775807) (bf:-9223372036854775808<=f/\f<=9223372036854775807)
 (o p:Option (Bool×Nat×Int)) (ho:mkS n X e=o) (hp:mkS m Y f=p) (er:Int) (her:jU X n e Y m f=er) (hne:er≠0) :
 At 104 #[.agg #[.int .i64 dg,.int .i64 ls,.int .u64 (En:Nat)],.agg #[.bool n,.slice a la ca,.int .i64 e,.bool m,.slice b lb cb,.int .i64 f],.bool sq,.int .i64 mode] w (.tuple #[.int .u64 0,.bool false,.int .i64 er]):=by
 obtain⟨W1,hW1⟩:=af ((w.alloc (.cells #[.int .i64 dg,.int .i64 ls,.int .u64 (En:Nat)] 118)).alloc (.cells #[.bool n,.slice a la ca,.int .i64 e,.bool m,.slice b lb cb,.int .i64 f] 73));obtain⟨hB,Z,QR⟩:=kK w dg ls En n _ e m _ f W1 hW1;obtain⟨L1,hL1⟩:=af (W1.alloc (.cells #[.bool n,.slice a la ca,.int .i64 e,.bool m,.slice b lb cb,.int .i64 f] 73));have hB2:An W1 L1:=by rw[hL1];exact ae _ _
 have au:=hB.trans (hB2.mono hB.size);have LQ:Rq L1 W1.heap.size n (.slice a la ca) e m (.slice b lb cb) f:=by rw[hL1];exact Rq.new _ _ _ _ _ _ _
 have HC:=hid (Xy LQ (hN.below au) (hD.below au) be bf o p ho hp er her);have LL:Aside ((ws (dX o)).length<=8192/\(ws (dX p)).length<=8192):=ak ⟨by rw[<-ho];exact aI _ _ _,by rw[<-hp];exact aI _ _ _⟩;obtain⟨x0,x1,x2,x3,x4,x5⟩:=QR.facts;have S0:=(aJ au (Z.below hB2));have d1:decide (mode<0)=false:=decide_eq_false (by omega);have d2:decide (4<mode)=false:=decide_eq_false (by omega);clear hB hB2 au LQ Z QR hN hD be bf ho hp her hm0 mO;go_enter Tryz.func104,Tryz.ntmps104
 go_upto_region 1 with fail
 rw[<-hW1];clear hW1;go_wp2_with fail;rw[<-hL1];clear hL1 x0 x1 x2 x3 x4 x5;refine HC.o.mono ?_;rintro r u1 ⟨⟨v,rfl,hR⟩,hb⟩;have S9:=ak (S0.o.1.trans (hb.mono S0.o.1.size));have hne':(er != 0)=true:=by simpa using hne
 have hne2:(er==0)=false:=by simpa using hne
 clear hb hR HC S0 LL;go_wp2;exact aC (v:=.tuple #[.int .u64 0,.bool false,.int .i64 er]) (by simp[results,Tryz.results104,go_sem]) rfl ⟨rfl,S9.o⟩
theorem yz {w:World}{n m:Bool}{a b:Option Addr}{la ca lb cb X Y:Nat}{e f:Int}(dg ls:Int) (En:Nat) (sq:Bool) (mode:Int) (hm0:0<=mode) (mO:mode<=4) (hN:Al w (.slice a la ca) X) (hD:Al w (.slice b lb cb) Y) (be:-9223372036854775808<=e/\e<=9223372036854775807) (bf:-9223372036854775808<=f/\f<=9223372036854775807)
 (o p:Option (Bool×Nat×Int)) (ho:mkS n X e=o) (hp:mkS m Y f=p) (er:Int) (her:jU X n e Y m f=er) (h0:er=0) (Ip:sq=true) (Ky:dN o=true) :
 At 104 #[.agg #[.int .i64 dg,.int .i64 ls,.int .u64 (En:Nat)],.agg #[.bool n,.slice a la ca,.int .i64 e,.bool m,.slice b lb cb,.int .i64 f],.bool sq,.int .i64 mode] w (.tuple #[.int .u64 0,.bool false,.int .i64 110]):=by
 obtain⟨W1,hW1⟩:=af ((w.alloc (.cells #[.int .i64 dg,.int .i64 ls,.int .u64 (En:Nat)] 118)).alloc (.cells #[.bool n,.slice a la ca,.int .i64 e,.bool m,.slice b lb cb,.int .i64 f] 73));obtain⟨hB,Z,QR⟩:=kK w dg ls En n _ e m _ f W1 hW1;obtain⟨L1,hL1⟩:=af (W1.alloc (.cells #[.bool n,.slice a la ca,.int .i64 e,.bool m,.slice b lb cb,.int .i64 f] 73));have hB2:An W1 L1:=by rw[hL1];exact ae _ _
 have au:=hB.trans (hB2.mono hB.size);have LQ:Rq L1 W1.heap.size n (.slice a la ca) e m (.slice b lb cb) f:=by rw[hL1];exact Rq.new _ _ _ _ _ _ _
 have HC:=hid (Xy LQ (hN.below au) (hD.below au) be bf o p ho hp er her);have LL:Aside ((ws (dX o)).length<=8192/\(ws (dX p)).length<=8192):=ak ⟨by rw[<-ho];exact aI _ _ _,by rw[<-hp];exact aI _ _ _⟩;obtain⟨x0,x1,x2,x3,x4,x5⟩:=QR.facts;have S0:=(aJ au (Z.below hB2));have d1:decide (mode<0)=false:=decide_eq_false (by omega);have d2:decide (4<mode)=false:=decide_eq_false (by omega);clear hB hB2 au LQ Z QR hN hD be bf ho hp her hm0 mO;go_enter Tryz.func104,Tryz.ntmps104
 go_upto_region 1 with fail
 rw[<-hW1];clear hW1;go_wp2_with fail;rw[<-hL1];clear hL1 x0 x1 x2 x3 x4 x5;refine HC.o.mono ?_;rintro r u1 ⟨⟨v,rfl,hR⟩,hb⟩;obtain⟨x,y,qO,hx,hy⟩:=hR h0;subst h0;obtain⟨gg,cap,rfl,hcap,hgg,c0,c1,c2,c3,c4,c5⟩:=qO.ex;obtain⟨q1,e1,rfl,-⟩:=hx.shape;obtain⟨q2,e2,rfl,-⟩:=hy.shape;have S1:=(iC (S0.o.1.trans (hb.mono S0.o.1.size)) (S0.o.2.below hb) (hx.al' (cB LL.o.1 (by decide))) (hy.al' (cB LL.o.2 (by decide))) qO hgg);clear hb hR HC S0 LL hx hy qO hgg;subst Ip;rw[Ky] at c0;have S9:=ak S1.o.1;clear S1 Ky;go_wp2;exact aC (v:=.tuple #[.int .u64 0,.bool false,.int .i64 110]) (by simp[results,Tryz.results104,go_sem]) rfl ⟨rfl,S9.o⟩
theorem J0{P:Prop}(h:P:=by
 go_upto_region 8 with fail
 go_region_held3 (fun w'=>w'.cell? ⟨gg,0,none⟩=some (.bool false)/\w'.cell? ⟨gg,1,none⟩=some (.slice q1 (ws (dX o)).length e1)/\w'.cell? ⟨gg,2,none⟩=some (.int .i64 (dE o))/\w'.cell? ⟨gg,3,none⟩=some (.bool (dN p))/\w'.cell? ⟨gg,4,none⟩=some (.slice q2 (ws (dX p)).length e2)/\w'.cell? ⟨gg,5,none⟩=some (.int .i64 (dE p))/\w'.cell? ⟨w.heap.size,0,none⟩=some (.int .i64 dg)/\w'.cell? ⟨w.heap.size,1,none⟩=some (.int .i64 ls)/\w'.cell? ⟨w.heap.size,2,none⟩=some (.int .u64 (En:Nat))) (go_keep) (first
  | (go_at_call 151
     first | with_reducible refine T1.o.mono ?_ | with_reducible refine T2.o.mono ?_
     rintro r v1 ⟨rfl,hb⟩;have hw:An u1 v1:=by first | exact hb | exact((aB _ u1).drew).trans (hb.mono (aA _))
     have hcg:∀ i,v1.cell? ⟨gg,i,none⟩=u1.cell? ⟨gg,i,none⟩:=fun i=>hw.cell (p:=⟨gg,i,none⟩) S1.o.r5;have k0:v1.cell? ⟨gg,0,none⟩=some (.bool false):=by rw[hcg,CC.o.1,NG.o]
     have k1:=(hcg 1).trans CC.o.2.1;have k2:=(hcg 2).trans CC.o.r2.1;have k3:=(hcg 3).trans CC.o.r3.1;have k4:=(hcg 4).trans CC.o.r4.1;have k5:=(hcg 5).trans CC.o.r5.1;obtain⟨j0,j1,j2⟩:=(S1.o.2.1.below hw).facts;have S9:=ak (S1.o.1.trans (hw.mono S1.o.1.size))
     clear hb hw hcg)
  | fail)
 all_goals (
  go_wp2
  exact aC (v:=.tuple #[.int .u64 (K:Nat),.bool false,.int .i64 0]) (by simp[results,Tryz.results104,go_sem]) rfl ⟨by rw[NG.o],S9.o⟩)):P:=h
theorem xP {w:World}{n m:Bool}{a b:Option Addr}{la ca lb cb X Y:Nat}{e f:Int}(dg ls:Int) (En:Nat) (sq:Bool) (mode:Int) (hm0:0<=mode) (mO:mode<=4) (hN:Al w (.slice a la ca) X) (hD:Al w (.slice b lb cb) Y) (be:-9223372036854775808<=e/\e<=9223372036854775807) (bf:-9223372036854775808<=f/\f<=9223372036854775807)
 (o p:Option (Bool×Nat×Int)) (ho:mkS n X e=o) (hp:mkS m Y f=p) (er:Int) (her:jU X n e Y m f=er) (h0:er=0) (Ip:sq=false\/dN o=false) (K:Nat)
 (HNb:Hid (∀ (u:World) (x y:Option Addr) (lx cx ly cy:Nat),An w u->Al u (.slice x lx cx) (dX o)->Al u (.slice y ly cy) (dX p)->At 151 #[.agg #[.int .i64 dg,.int .i64 ls,.int .u64 (En:Nat)],.agg #[.bool (dN o),.slice x lx cx,.int .i64 (dE o),.bool (dN p),.slice y ly cy,.int .i64 (dE p)],.bool sq,.int .i64 mode] u (.int .u64 (K:Nat)))) :
 At 104 #[.agg #[.int .i64 dg,.int .i64 ls,.int .u64 (En:Nat)],.agg #[.bool n,.slice a la ca,.int .i64 e,.bool m,.slice b lb cb,.int .i64 f],.bool sq,.int .i64 mode] w (.tuple #[.int .u64 (K:Nat),.bool (dN o),.int .i64 0]):=by
 obtain⟨W1,hW1⟩:=af ((w.alloc (.cells #[.int .i64 dg,.int .i64 ls,.int .u64 (En:Nat)] 118)).alloc (.cells #[.bool n,.slice a la ca,.int .i64 e,.bool m,.slice b lb cb,.int .i64 f] 73));obtain⟨hB,Z,QR⟩:=kK w dg ls En n _ e m _ f W1 hW1;obtain⟨L1,hL1⟩:=af (W1.alloc (.cells #[.bool n,.slice a la ca,.int .i64 e,.bool m,.slice b lb cb,.int .i64 f] 73));have hB2:An W1 L1:=by rw[hL1];exact ae _ _
 have au:=hB.trans (hB2.mono hB.size);have LQ:Rq L1 W1.heap.size n (.slice a la ca) e m (.slice b lb cb) f:=by rw[hL1];exact Rq.new _ _ _ _ _ _ _
 have HC:=hid (Xy LQ (hN.below au) (hD.below au) be bf o p ho hp er her);have LL:Aside ((ws (dX o)).length<=8192/\(ws (dX p)).length<=8192):=ak ⟨by rw[<-ho];exact aI _ _ _,by rw[<-hp];exact aI _ _ _⟩;obtain⟨x0,x1,x2,x3,x4,x5⟩:=QR.facts;have S0:=(aJ au (Z.below hB2));have d1:decide (mode<0)=false:=decide_eq_false (by omega);have d2:decide (4<mode)=false:=decide_eq_false (by omega);clear hB hB2 au LQ Z QR hN hD be bf ho hp her hm0 mO;go_enter Tryz.func104,Tryz.ntmps104
 go_upto_region 1 with fail
 rw[<-hW1];clear hW1;go_wp2_with fail;rw[<-hL1];clear hL1 x0 x1 x2 x3 x4 x5;refine HC.o.mono ?_;rintro r u1 ⟨⟨v,rfl,hR⟩,hb⟩;obtain⟨x,y,qO,hx,hy⟩:=hR h0;subst h0;obtain⟨gg,cap,rfl,hcap,hgg,c0,c1,c2,c3,c4,c5⟩:=qO.ex;obtain⟨q1,e1,rfl,-⟩:=hx.shape;obtain⟨q2,e2,rfl,-⟩:=hy.shape;have S1:=(iC (S0.o.1.trans (hb.mono S0.o.1.size)) (S0.o.2.below hb) (hx.al' (cB LL.o.1 (by decide))) (hy.al' (cB LL.o.2 (by decide))) qO hgg);clear hb hR HC S0 LL hx hy qO hgg;obtain⟨ng,Ky⟩:∃ z,dN o=z:=⟨_,rfl⟩;obtain⟨z0,z1,z2⟩:=S1.o.2.1.facts;have T1:=hid (HNb.o u1 q1 q2 _ e1 _ e2 S1.o.1 S1.o.r2.1 S1.o.r3.1);have dr:An u1 u1.drew:=(aB _ _).drew;have T2:=hid (HNb.o u1.drew q1 q2 _ e1 _ e2 S1.o.1.drew (S1.o.r2.1.below dr) (S1.o.r3.1.below dr));have CC:=(Rj c0 c1 c2 c3 c4 c5 z0 z1 z2);rw[Ky] at c0 T1 T2 Ip;have NG:=ak Ky;clear dr HNb Ky;rcases Ip with rfl|rfl
 · go_upto_region 8 with fail
   go_region_held3 (fun w'=>w'.cell? ⟨gg,0,none⟩=some (.bool ng)/\w'.cell? ⟨gg,1,none⟩=some (.slice q1 (ws (dX o)).length e1)/\w'.cell? ⟨gg,2,none⟩=some (.int .i64 (dE o))/\w'.cell? ⟨gg,3,none⟩=some (.bool (dN p))/\w'.cell? ⟨gg,4,none⟩=some (.slice q2 (ws (dX p)).length e2)/\w'.cell? ⟨gg,5,none⟩=some (.int .i64 (dE p))/\w'.cell? ⟨w.heap.size,0,none⟩=some (.int .i64 dg)/\w'.cell? ⟨w.heap.size,1,none⟩=some (.int .i64 ls)/\w'.cell? ⟨w.heap.size,2,none⟩=some (.int .u64 (En:Nat))) (go_keep) (first
    | (go_at_call 151
       first | with_reducible refine T1.o.mono ?_ | with_reducible refine T2.o.mono ?_
       rintro r v1 ⟨rfl,hb⟩;have hw:An u1 v1:=by first | exact hb | exact((aB _ u1).drew).trans (hb.mono (aA _))
       have hcg:∀ i,v1.cell? ⟨gg,i,none⟩=u1.cell? ⟨gg,i,none⟩:=fun i=>hw.cell (p:=⟨gg,i,none⟩) S1.o.r5;have k0:v1.cell? ⟨gg,0,none⟩=some (.bool ng):=by rw[hcg,CC.o.1,NG.o]
       have k1:=(hcg 1).trans CC.o.2.1;have k2:=(hcg 2).trans CC.o.r2.1;have k3:=(hcg 3).trans CC.o.r3.1;have k4:=(hcg 4).trans CC.o.r4.1;have k5:=(hcg 5).trans CC.o.r5.1;obtain⟨j0,j1,j2⟩:=(S1.o.2.1.below hw).facts;have S9:=ak (S1.o.1.trans (hw.mono S1.o.1.size))
       clear hb hw hcg)
    | fail)
   all_goals (
    go_wp2
    exact aC (v:=.tuple #[.int .u64 (K:Nat),.bool ng,.int .i64 0]) (by simp[results,Tryz.results104,go_sem]) rfl ⟨by rw[NG.o],S9.o⟩)
 · cases sq
   · exact J0
   · exact J0
theorem BK {w:World}{n m:Bool}{a b:Option Addr}{la ca lb cb:Nat}{e f:Int}(mode:Int) (k:Nat) (ng:Bool) (er:Int) (hk:k<9223372036854775808) (z:Nat) (hz:k+(if ng then 9223372036854775808 else 0)=z)
 (HR:Hid (∀ u:World,An w u->At 104 #[.agg #[.int .i64 53,.int .i64 (-1074),.int .u64 9218868437227405312],.agg #[.bool n,.slice a la ca,.int .i64 e,.bool m,.slice b lb cb,.int .i64 f],.bool false,.int .i64 mode] u (.tuple #[.int .u64 (k:Nat),.bool ng,.int .i64 er]))) :
 At 57 #[.agg #[.bool n,.slice a la ca,.int .i64 e,.bool m,.slice b lb cb,.int .i64 f],.int .i64 mode] w (.tuple #[.float .f64 z,.int .i64 er]):=by
 obtain⟨W1,hW1⟩:=af (w.alloc (.cells #[.bool n,.slice a la ca,.int .i64 e,.bool m,.slice b lb cb,.int .i64 f] 73));have hB:An w W1:=by rw[hW1];exact ae _ _
 have Ml:Rq W1 w.heap.size n (.slice a la ca) e m (.slice b lb cb) f:=by rw[hW1];exact Rq.new _ _ _ _ _ _ _
 obtain⟨x0,x1,x2,x3,x4,x5⟩:=Ml.facts;have S0:=(aJ hB Ml);have HWd:Hid (∀ u:World,Ax 106 #[.int .u64 (k:Nat),.bool ng,.int .i64 er] u (.tuple #[.float .f64 z,.int .i64 er])):=hid fun u=>by have h:=xO k hk ng er u;rw[hz] at h;exact h
 clear hB Ml hk hz;go_enter Tryz.func57,Tryz.ntmps57
 go_upto_region 1 with fail
 rw[<-hW1];clear hW1;have T1:=hid (mM W1);have T2:=hid (mM W1.drew)
 go_region_held3 (fun w'=>w'.cell? ⟨w.heap.size,0,none⟩=some (.bool n)/\w'.cell? ⟨w.heap.size,1,none⟩=some (.slice a la ca)/\w'.cell? ⟨w.heap.size,2,none⟩=some (.int .i64 e)/\w'.cell? ⟨w.heap.size,3,none⟩=some (.bool m)/\w'.cell? ⟨w.heap.size,4,none⟩=some (.slice b lb cb)/\w'.cell? ⟨w.heap.size,5,none⟩=some (.int .i64 f)) (go_keep) (first
  | (go_at_call 105
     first | with_reducible refine T1.o.mono ?_ | with_reducible refine T2.o.mono ?_
     rintro r v1 ⟨rfl,hb⟩;have hw:An W1 v1:=by first | exact hb | exact((aB _ W1).drew).trans (hb.mono (aA _))
     obtain⟨m0,m1,m2,m3,m4,m5⟩:=(S0.o.2.below hw).facts;have T3:=hid (HR.o v1 (S0.o.1.trans (hw.mono S0.o.1.size)));have S4:=(aJ (S0.o.1.trans (hw.mono S0.o.1.size)) (S0.o.2.below hw))
     clear hb hw)
  | (go_at_call 104
     with_reducible refine T3.o.mono ?_
     rintro r v2 ⟨rfl,hb⟩;obtain⟨k0,k1,k2,k3,k4,k5⟩:=(S4.o.2.below hb).facts;have S5:=ak (S4.o.1.trans (hb.mono S4.o.1.size))
     clear hb))
 all_goals (
  go_wp2_with fail;refine(HWd.o _).mono ?_;rintro r v3 ⟨rfl,rfl⟩;go_wp2
  exact aC (v:=.tuple #[.float .f64 z,.int .i64 er]) (by simp[results,Tryz.results57,go_sem]) rfl ⟨rfl,S5.o⟩)
theorem vV {w:World}{n m:Bool}{a b:Option Addr}{la ca lb cb:Nat}{e f:Int}(mode:Int) (k:Nat) (ng:Bool) (er:Int) (hk:k<9223372036854775808) (z:Nat) (hz:k+(if ng then 9223372036854775808 else 0)=z)
 (HR:Hid (∀ u:World,An w u->At 104 #[.agg #[.int .i64 53,.int .i64 (-1074),.int .u64 9218868437227405312],.agg #[.bool n,.slice a la ca,.int .i64 e,.bool m,.slice b lb cb,.int .i64 f],.bool true,.int .i64 mode] u (.tuple #[.int .u64 (k:Nat),.bool ng,.int .i64 er]))) :
 At 60 #[.agg #[.bool n,.slice a la ca,.int .i64 e,.bool m,.slice b lb cb,.int .i64 f],.int .i64 mode] w (.tuple #[.float .f64 z,.int .i64 er]):=by
 obtain⟨W1,hW1⟩:=af (w.alloc (.cells #[.bool n,.slice a la ca,.int .i64 e,.bool m,.slice b lb cb,.int .i64 f] 73));have hB:An w W1:=by rw[hW1];exact ae _ _
 have Ml:Rq W1 w.heap.size n (.slice a la ca) e m (.slice b lb cb) f:=by rw[hW1];exact Rq.new _ _ _ _ _ _ _
 obtain⟨x0,x1,x2,x3,x4,x5⟩:=Ml.facts;have S0:=(aJ hB Ml);have HWd:Hid (∀ u:World,Ax 106 #[.int .u64 (k:Nat),.bool ng,.int .i64 er] u (.tuple #[.float .f64 z,.int .i64 er])):=hid fun u=>by have h:=xO k hk ng er u;rw[hz] at h;exact h
 clear hB Ml hk hz;go_enter Tryz.func60,Tryz.ntmps60
 go_upto_region 1 with fail
 rw[<-hW1];clear hW1;have T1:=hid (mM W1);have T2:=hid (mM W1.drew)
 go_region_held3 (fun w'=>w'.cell? ⟨w.heap.size,0,none⟩=some (.bool n)/\w'.cell? ⟨w.heap.size,1,none⟩=some (.slice a la ca)/\w'.cell? ⟨w.heap.size,2,none⟩=some (.int .i64 e)/\w'.cell? ⟨w.heap.size,3,none⟩=some (.bool m)/\w'.cell? ⟨w.heap.size,4,none⟩=some (.slice b lb cb)/\w'.cell? ⟨w.heap.size,5,none⟩=some (.int .i64 f)) (go_keep) (first
  | (go_at_call 105
     first | with_reducible refine T1.o.mono ?_ | with_reducible refine T2.o.mono ?_
     rintro r v1 ⟨rfl,hb⟩;have hw:An W1 v1:=by first | exact hb | exact((aB _ W1).drew).trans (hb.mono (aA _))
     obtain⟨m0,m1,m2,m3,m4,m5⟩:=(S0.o.2.below hw).facts;have T3:=hid (HR.o v1 (S0.o.1.trans (hw.mono S0.o.1.size)));have S4:=(aJ (S0.o.1.trans (hw.mono S0.o.1.size)) (S0.o.2.below hw))
     clear hb hw)
  | (go_at_call 104
     with_reducible refine T3.o.mono ?_
     rintro r v2 ⟨rfl,hb⟩;obtain⟨k0,k1,k2,k3,k4,k5⟩:=(S4.o.2.below hb).facts;have S5:=ak (S4.o.1.trans (hb.mono S4.o.1.size))
     clear hb))
 all_goals (
  go_wp2_with fail;refine(HWd.o _).mono ?_;rintro r v3 ⟨rfl,rfl⟩;go_wp2
  exact aC (v:=.tuple #[.float .f64 z,.int .i64 er]) (by simp[results,Tryz.results60,go_sem]) rfl ⟨rfl,S5.o⟩)
theorem uR{v:Nat->Nat}{top n S:Nat}(G:Pp v top)(hn:n≠0)(hS:0<S):ik v top n 0 true 0 0 S :=
 ⟨by have:=G.one;omega,hS,fun _=>by rw[G.zero,Nat.zero_pow (by omega),eG],(fun h=>by cases h),(fun h=>by cases h),(fun h=>by cases h)⟩
theorem Jo(e f:Int)(u n:Nat):iQ 0 e f u n=0:=by unfold iQ;rw[eG]
theorem Qj{Y:Nat}(h:Y≠0)(e f:Int)(u n:Nat):0<gQ Y e f u n:=by unfold gQ;exact iE (by omega) (bz _)
theorem zy{X:Nat}{n:Bool}{e:Int}{Y:Nat}{m:Bool}{f:Int}(h:jU X n e Y m f=0):(mkS n X e).isSome=true/\(mkS m Y f).isSome=true/\dX (mkS m Y f)≠0:=by
 unfold jU at h
 split at h
 · cases h
 · split at h
   · rename_i h2;rw[oo] at h2
     split at h
     · cases h
     · rename_i h3;exact⟨h2.1,h2.2,h3⟩
   · cases h
theorem Ud{w:World}{n m:Bool}{a b:Option Addr}{la ca lb cb X Y:Nat}{e f:Int}(mode:Int)(hN:Al w (.slice a la ca) X)(hD:Al w (.slice b lb cb) Y)(be:-9223372036854775808<=e/\e<=9223372036854775807)(bf:-9223372036854775808<=f/\f<=9223372036854775807) :
 At 57 #[.agg #[.bool n,.slice a la ca,.int .i64 e,.bool m,.slice b lb cb,.int .i64 f],.int .i64 mode] w (.tuple #[.float .f64 (rQ fC ⟨n,.slice a la ca,X,e,m,.slice b lb cb,Y,f⟩ mode).1,.int .i64 (rQ fC ⟨n,.slice a la ca,X,e,m,.slice b lb cb,Y,f⟩ mode).2]):=by
 by_cases hm:mode<0\/4<mode
 · have e1:rQ fC ⟨n,.slice a la ca,X,e,m,.slice b lb cb,Y,f⟩ mode=(0,1):=by unfold rQ;rw[if_pos hm]
   rw[e1];exact BK mode 0 false 1 (by omega) 0 rfl (hid fun u hu=>r9 (X:=X) (Y:=Y) _ _ _ _ mode hm)
 · have hm0:0<=mode:=by omega
   have mO:mode<=4:=by omega
   have el:=mX ⟨n,.slice a la ca,X,e,m,.slice b lb cb,Y,f⟩
   by_cases h0:jU X n e Y m f=0
   · obtain⟨s1,s2,hY⟩:=zy h0;have F1:=iN s1;have F2:=iN s2;have ez:iM (yw ⟨n,.slice a la ca,X,e,m,.slice b lb cb,Y,f⟩) 1=0:=el.trans h0
     obtain⟨K,t,mm,L,hq⟩:∃ K t mm,ik vK 9218868437227405312 1 K t mm (iQ (dX (mkS n X e)) (dE (mkS n X e)) (dE (mkS m Y f)) 1074 1) (gQ (dX (mkS m Y f)) (dE (mkS n X e)) (dE (mkS m Y f)) 1074 1)/\fC (mW (dN (mkS n X e)) (dX (mkS n X e)) (dE (mkS n X e)) (dX (mkS m Y f)) (dE (mkS m Y f))) mode=((if t then K else if ko mode K mm (dN (mkS n X e)) then K+1 else K)+(if (dN (mkS n X e)) then 9223372036854775808 else 0),0):=by
      rcases F1.odd with h|⟨h1,h2,h3⟩
      · obtain⟨K,t,mm,L,hq⟩:=Vq (dN (mkS n X e)) (dX (mkS n X e)) (dE (mkS n X e)) (dX (mkS m Y f)) (dE (mkS m Y f)) h hY F1.size F2.size;exact⟨K,t,mm,L,by have q:=hq mode hm0 mO;rw[q];rfl⟩
      · refine⟨0,true,0,?_,?_⟩
        · rw[h1,Jo];exact uR o5 (by omega) (Qj hY _ _ _ _)
        · rw[h1,DC _ _ _ _ hY F2.size];unfold fC;rw[if_neg (by omega)];simp[h2]
     have hfin:=L.fin
     have e1:rQ fC ⟨n,.slice a la ca,X,e,m,.slice b lb cb,Y,f⟩ mode=((if t then K else if ko mode K mm (dN (mkS n X e)) then K+1 else K)+(if dN (mkS n X e) then 9223372036854775808 else 0),0):=by
      unfold rQ;simp only;rw[if_neg hm,if_pos ez];exact hq
     rw[e1];refine BK mode _ (dN (mkS n X e)) 0 (by split;omega;split <;> omega) _ rfl (hid fun u hu=>?_);refine xP _ _ _ _ mode hm0 mO (hN.below hu) (hD.below hu) be bf _ _ rfl rfl _ h0 rfl (.inl rfl) _ (hid fun x p q lx cx ly cy hx A1 A2=>?_);exact Jm Jl A1 A2 ⟨F1.down,F1.up⟩ ⟨F2.down,F2.up⟩ F2.size (.inl rfl) L false rfl mode hm0 mO
   · have ez:iM (yw ⟨n,.slice a la ca,X,e,m,.slice b lb cb,Y,f⟩) 1=jU X n e Y m f:=el;have e1:rQ fC ⟨n,.slice a la ca,X,e,m,.slice b lb cb,Y,f⟩ mode=(0,jU X n e Y m f):=by unfold rQ;rw[if_neg hm,if_neg (by rw[ez];exact h0),ez]
     rw[e1];exact BK mode 0 false _ (by omega) 0 rfl (hid fun u hu=>uQ _ _ _ _ mode hm0 mO (hN.below hu) (hD.below hu) be bf _ _ rfl rfl _ rfl h0)
theorem Ue{w:World}{n m:Bool}{a b:Option Addr}{la ca lb cb X Y:Nat}{e f:Int}(mode:Int)(hN:Al w (.slice a la ca) X)(hD:Al w (.slice b lb cb) Y)(be:-9223372036854775808<=e/\e<=9223372036854775807)(bf:-9223372036854775808<=f/\f<=9223372036854775807) :
 At 60 #[.agg #[.bool n,.slice a la ca,.int .i64 e,.bool m,.slice b lb cb,.int .i64 f],.int .i64 mode] w (.tuple #[.float .f64 (lN fC ⟨n,.slice a la ca,X,e,m,.slice b lb cb,Y,f⟩ mode).1,.int .i64 (lN fC ⟨n,.slice a la ca,X,e,m,.slice b lb cb,Y,f⟩ mode).2]):=by
 by_cases hm:mode<0\/4<mode
 · have e1:lN fC ⟨n,.slice a la ca,X,e,m,.slice b lb cb,Y,f⟩ mode=(0,1):=by unfold lN;rw[if_pos hm]
   rw[e1];exact vV mode 0 false 1 (by omega) 0 rfl (hid fun u hu=>r9 (X:=X) (Y:=Y) _ _ _ _ mode hm)
 · have hm0:0<=mode:=by omega
   have mO:mode<=4:=by omega
   have el:=mX ⟨n,.slice a la ca,X,e,m,.slice b lb cb,Y,f⟩
   by_cases h0:jU X n e Y m f=0
   · obtain⟨s1,s2,hY⟩:=zy h0;have F1:=iN s1;have F2:=iN s2;have ez:iM (yw ⟨n,.slice a la ca,X,e,m,.slice b lb cb,Y,f⟩) 1=0:=el.trans h0
     by_cases Ky:dN (mkS n X e)=true
     · have e1:lN fC ⟨n,.slice a la ca,X,e,m,.slice b lb cb,Y,f⟩ mode=(0,110):=by unfold lN;simp only;rw[if_neg hm,if_pos ez,Ky,if_pos rfl]
       rw[e1];exact vV mode 0 false 110 (by omega) 0 rfl (hid fun u hu=>yz _ _ _ _ mode hm0 mO (hN.below hu) (hD.below hu) be bf _ _ rfl rfl _ rfl h0 rfl Ky)
     have ZE:dN (mkS n X e)=false:=by cases h:dN (mkS n X e);rfl;exact absurd h Ky
     obtain⟨K,t,mm,L,hq⟩:∃ K t mm,ik vK 9218868437227405312 2 K t mm (iQ (dX (mkS n X e)) (dE (mkS n X e)) (dE (mkS m Y f)) 1074 2) (gQ (dX (mkS m Y f)) (dE (mkS n X e)) (dE (mkS m Y f)) 1074 2)/\fC (uL (dX (mkS n X e)) (dE (mkS n X e)) (dX (mkS m Y f)) (dE (mkS m Y f))) mode=((if t then K else if ko mode K mm false then K+1 else K)+(if false then 9223372036854775808 else 0),0):=by
      rcases F1.odd with h|⟨h1,h2,h3⟩
      · obtain⟨K,t,mm,L,hq⟩:=PL (dX (mkS n X e)) (dE (mkS n X e)) (dX (mkS m Y f)) (dE (mkS m Y f)) h hY F1.size F2.size;exact⟨K,t,mm,L,by have q:=hq mode hm0 mO;rw[q];unfold rK;simp⟩
      · refine⟨0,true,0,?_,?_⟩
        · rw[h1,Jo];exact uR o5 (by omega) (Qj hY _ _ _ _)
        · rw[h1,xy _ _ _ hY F2.size];unfold fC;rw[if_neg (by omega)];rfl
     have hfin:=L.fin
     have e1:lN fC ⟨n,.slice a la ca,X,e,m,.slice b lb cb,Y,f⟩ mode=((if t then K else if ko mode K mm (dN (mkS n X e)) then K+1 else K)+(if dN (mkS n X e) then 9223372036854775808 else 0),0):=by
      unfold lN;simp only;rw[if_neg hm,if_pos ez];rw[ZE,if_neg (by decide)];exact hq
     rw[e1];refine vV mode _ (dN (mkS n X e)) 0 (by split;omega;split <;> omega) _ rfl (hid fun u hu=>?_);refine xP _ _ _ _ mode hm0 mO (hN.below hu) (hD.below hu) be bf _ _ rfl rfl _ h0 rfl (.inr ZE) _ (hid fun x p q lx cx ly cy hx A1 A2=>?_);exact Jm Jl A1 A2 ⟨F1.down,F1.up⟩ ⟨F2.down,F2.up⟩ F2.size (.inr rfl) L true rfl mode hm0 mO
   · have ez:iM (yw ⟨n,.slice a la ca,X,e,m,.slice b lb cb,Y,f⟩) 1=jU X n e Y m f:=el;have e1:lN fC ⟨n,.slice a la ca,X,e,m,.slice b lb cb,Y,f⟩ mode=(0,jU X n e Y m f):=by unfold lN;rw[if_neg hm,if_neg (by rw[ez];exact h0),ez]
     rw[e1];exact vV mode 0 false _ (by omega) 0 rfl (hid fun u hu=>uQ _ _ _ _ mode hm0 mO (hN.below hu) (hD.below hu) be bf _ _ rfl rfl _ rfl h0)
end
section
open Go Go.RowKit J
theorem Nt.Uf{lo:Nat}{w:World}{v:Value}{o:Option (Bool×Nat×Int)}(h:Nt lo w v (dX o))(F:Fm o):Al w v (dX o):=by
 have:=F.len;obtain⟨a,c,rfl,hA⟩:=h.arg (by omega);exact⟨a,_,c,_,rfl,hA,aj _,by omega⟩
def p9(mode:Int):Bool:=decide (0<=mode)&&decide (mode<=4)
def lsB(less:Int):Bool:=decide (less=0) || decide (less=1)
theorem xQ{mode:Int}(h:p9 mode=true):0<=mode/\mode<=4:=by unfold p9 at h;simpa using h
theorem Ef{less:Int}(h:lsB less=true):less=0\/less=1:=by unfold lsB at h;simpa using h
theorem iT(mode:Int)(w:World):Ax 38 #[.int .i64 mode] w (.bool (p9 mode)):=by
 unfold p9
 by_cases h0:0<=mode
 · have d0:decide (0<=mode)=true:=decide_eq_true h0
   by_cases h4:mode<=4
   · have d4:decide (mode<=4)=true:=decide_eq_true h4;rw[d0,d4];go_enter Tryz.func38,Tryz.ntmps38;exact Jx
   · have d4:decide (mode<=4)=false:=decide_eq_false h4;rw[d0,d4];go_enter Tryz.func38,Tryz.ntmps38;exact Jx
 · have d0:decide (0<=mode)=false:=decide_eq_false h0;rw[d0,nR];go_enter Tryz.func38,Tryz.ntmps38;exact Jx
theorem BL(mode:Int)(w:World):Ax 61 #[.int .i64 mode] w (.bool (p9 mode)):=by
 unfold p9
 by_cases h0:0<=mode
 · have d0:decide (0<=mode)=true:=decide_eq_true h0
   by_cases h4:mode<=4
   · have d4:decide (mode<=4)=true:=decide_eq_true h4;rw[d0,d4];go_enter Tryz.func61,Tryz.ntmps61;exact Jx
   · have d4:decide (mode<=4)=false:=decide_eq_false h4;rw[d0,d4];go_enter Tryz.func61,Tryz.ntmps61;exact Jx
 · have d0:decide (0<=mode)=false:=decide_eq_false h0;rw[d0,nR];go_enter Tryz.func61,Tryz.ntmps61;exact Jx
theorem mZ(less:Int)(w:World):Ax 44 #[.int .i64 less] w (.bool (lsB less)):=by
 unfold lsB
 by_cases h0:less=0
 · subst h0;go_enter Tryz.func44,Tryz.ntmps44;exact Jx
 · by_cases h1:less=1
   · subst h1;go_enter Tryz.func44,Tryz.ntmps44;exact Jx
   · rw[decide_eq_false h0,decide_eq_false h1];have d0:(less==0)=false:=by simp[h0]
     have d1:(less==1)=false:=by simp[h1]
     go_enter Tryz.func44,Tryz.ntmps44;exact Jx
theorem Xz(less:Int)(w:World):Ax 68 #[.int .i64 less] w (.bool (lsB less)):=by
 unfold lsB
 by_cases h0:less=0
 · subst h0;go_enter Tryz.func68,Tryz.ntmps68;exact Jx
 · by_cases h1:less=1
   · subst h1;go_enter Tryz.func68,Tryz.ntmps68;exact Jx
   · rw[decide_eq_false h0,decide_eq_false h1];have d0:(less==0)=false:=by simp[h0]
     have d1:(less==1)=false:=by simp[h1]
     go_enter Tryz.func68,Tryz.ntmps68;exact Jx
theorem si(n:Nat)(less:Int)(w:World)(hT:dH w)(hn:n<=1099511627776)(h0:0<=less)(h1:less<=1)(hl:less<n) :
 As 46 #[.int .i64 (n:Nat),.int .i64 less] w fun r w'=>aN 0 w' r (gV 0 ((n:Int)*((n:Int)-less)))/\An w w':=by
 have b1:Bd 41 (n:Int):=Bd.nat (by omega);have b2:Bd 41 ((n:Int)-less):=by unfold Bd;omega
 obtain⟨oA,hA⟩:=af (gV 0 (n:Int));obtain⟨oB,hB⟩:=af (gV 0 ((n:Int)-less));obtain⟨oC,hC⟩:=af (gV 0 ((n:Int)*((n:Int)-less)));have FA:Fm oA:=by rw[hA];exact aZ (by decide) (by decide) b1
 have FB:Fm oB:=by rw[hB];exact aZ (by decide) (by decide) b2
 have FC:Fm oC:=by rw[hC];exact aZ (by decide) (by decide) (b1.mul b2)
 have E:dY oA oB=oC:=by rw[hA,hB,hC];exact iR (by decide) (by decide) (by decide) (by decide) b1 b2
 rw[<-hC];have HI1:Hid (∀ u:World,dH u->As 52 #[.int .i64 (n:Nat)] u fun r w'=>aN 0 w' r oA/\An u w'):=fun u hu=>by rw[hA];exact xC n u hu (by omega) (by omega)
 have HI2:Hid (∀ u:World,dH u->As 52 #[.int .i64 ((n:Int)-less)] u fun r w'=>aN 0 w' r oB/\An u w'):=fun u hu=>by rw[hB];exact xC _ u hu (by omega) (by omega)
 have HX:=dJ FA FB FC E hT;have hwr:IntKind.i64.wrap ((n:Int)-less)=(n:Int)-less:=by rw[zY];omega
 clear hA hB hC FA FB FC E hT b1 b2;obtain⟨W,hW⟩:=af (w.alloc (Obj.cells #[.bool false,.slice none 0 0,.int .i64 0] 37));have H0:Aside (Lo W w.heap.size gG/\An w W):=by rw[hW];exact⟨Lo.zero _,ae _ _⟩
 have HW:=ak hW;clear hW;go_enter Tryz.func46,Tryz.ntmps46
 go_upto_region 1 with fail
 rw[<-HW.o];clear HW;have C:=hid (HI1.o W (HX.o.r4.belows H0.o.2));go_wp2_with fail;refine C.o.mono ?_;rintro r u1 ⟨hd,hb⟩;obtain⟨a1,c1,rfl,hN1⟩:=hd.aD;have H1:=(bO (H0.o.1.below hb) (H0.o.2.trans (hb.mono H0.o.2.size)) hN1);clear hb hd hN1 H0 C;have C:=hid (HI2.o u1 (HX.o.r4.belows H1.o.2.1));go_wp2_with fail;refine C.o.mono ?_;rintro r u2 ⟨hd,hb⟩;obtain⟨a2,c2,rfl,j5⟩:=hd.aD;have H2:=(fE (H1.o.1.below hb) (H1.o.2.1.trans (hb.mono H1.o.2.1.size)) (H1.o.r2.below hb) j5);clear hb hd j5 H1 C;have C:=hid (gT HX.o.1 HX.o.2.1 HX.o.r2.1 H2.o.r2.1 H2.o.r3 (HX.o.r4.belows H2.o.2.1) HX.o.r3.1);go_wp2_with fail;refine C.o.mono ?_;rintro r u3 ⟨hd,hb⟩;obtain⟨a3,c3,rfl,eu⟩:=hd.aD;have H3:=(bO (H2.o.1.below hb) (H2.o.2.1.trans (hb.mono H2.o.2.1.size)) eu);clear hb hd eu H2 C;obtain⟨p2,q2,D2,M2⟩:=H3.o.1;obtain⟨y0,y1,y2,bI,bJ,bK⟩:=D2.facts;clear D2 M2;go_wp2;exact iL Tryz.results46 rfl H3.o.1 H3.o.2.1 (aA _) H3.o.r2
noncomputable def nK (V D:Option (Bool×Nat×Int)) (mode:Int):Nat×Int:=rQ fC ⟨dN V,.bool false,dX V,dE V,dN D,.bool false,dX D,dE D⟩ mode
noncomputable def mr (V D:Option (Bool×Nat×Int)) (mode:Int):Nat×Int:=lN fC ⟨dN V,.bool false,dX V,dE V,dN D,.bool false,dX D,dE D⟩ mode
theorem G5{u:World}{a b:Option Addr}{ca cb:Nat}{V D:Option (Bool×Nat×Int)}(mode:Int)(FV:Fm V)(FD:Fm D)(n1:Nt 0 u (.slice a (ws (dX V)).length ca) (dX V))(n2:Nt 0 u (.slice b (ws (dX D)).length cb) (dX D))(hT:dH u) :
 At 37 #[.agg #[.bool (dN V),.slice a (ws (dX V)).length ca,.int .i64 (dE V),.bool (dN D),.slice b (ws (dX D)).length cb,.int .i64 (dE D)],.int .i64 mode] u (.tuple #[.float .f64 (nK V D mode).1,.int .i64 (nK V D mode).2]) :=
 PN (w:=u) (n:=dN V) (m:=dN D) (X:=dX V) (Y:=dX D) (e:=dE V) (f:=dE D) mode ⟨n1.av (cB FV.len (by decide)),n2.av (cB FD.len (by decide)),FV.mV,FD.mV⟩ hT
theorem G6{u:World}{a b:Option Addr}{ca cb:Nat}{V D:Option (Bool×Nat×Int)}(mode:Int)(FV:Fm V)(FD:Fm D)(n1:Nt 0 u (.slice a (ws (dX V)).length ca) (dX V))(n2:Nt 0 u (.slice b (ws (dX D)).length cb) (dX D))(hT:dH u) :
 At 53 #[.agg #[.bool (dN V),.slice a (ws (dX V)).length ca,.int .i64 (dE V),.bool (dN D),.slice b (ws (dX D)).length cb,.int .i64 (dE D)],.int .i64 mode] u (.tuple #[.float .f64 (mr V D mode).1,.int .i64 (mr V D mode).2]) :=
 Xc (w:=u) (n:=dN V) (m:=dN D) (X:=dX V) (Y:=dX D) (e:=dE V) (f:=dE D) mode ⟨n1.av (cB FV.len (by decide)),n2.av (cB FD.len (by decide)),FV.mV,FD.mV⟩ hT
theorem Jp{u:World}{a b:Option Addr}{ca cb:Nat}{V D:Option (Bool×Nat×Int)}(mode:Int)(FV:Fm V)(FD:Fm D)(n1:Nt 0 u (.slice a (ws (dX V)).length ca) (dX V))(n2:Nt 0 u (.slice b (ws (dX D)).length cb) (dX D)) :
 At 57 #[.agg #[.bool (dN V),.slice a (ws (dX V)).length ca,.int .i64 (dE V),.bool (dN D),.slice b (ws (dX D)).length cb,.int .i64 (dE D)],.int .i64 mode] u (.tuple #[.float .f64 (nK V D mode).1,.int .i64 (nK V D mode).2]) :=
 Ud (w:=u) (n:=dN V) (m:=dN D) (X:=dX V) (Y:=dX D) (e:=dE V) (f:=dE D) mode (n1.Uf FV) (n2.Uf FD) FV.mV FD.mV
theorem Ug{u:World}{a b:Option Addr}{ca cb:Nat}{V D:Option (Bool×Nat×Int)}(mode:Int)(FV:Fm V)(FD:Fm D)(n1:Nt 0 u (.slice a (ws (dX V)).length ca) (dX V))(n2:Nt 0 u (.slice b (ws (dX D)).length cb) (dX D)) :
 At 60 #[.agg #[.bool (dN V),.slice a (ws (dX V)).length ca,.int .i64 (dE V),.bool (dN D),.slice b (ws (dX D)).length cb,.int .i64 (dE D)],.int .i64 mode] u (.tuple #[.float .f64 (mr V D mode).1,.int .i64 (mr V D mode).2]) :=
 Ue (w:=u) (n:=dN V) (m:=dN D) (X:=dX V) (Y:=dX D) (e:=dE V) (f:=dE D) mode (n1.Uf FV) (n2.Uf FD) FV.mV FD.mV
theorem Uh{B:Nat}{w:World}{a:Option Addr}{xs:List Nat}(h:Fs B w a xs):Ps.Rd B w a xs:=h
theorem Jq{lo:Nat}{w:World}{v:Value}{xs:List Nat}(h:Ps.Lt lo w v xs):∃ a c,v=.slice a xs.length c/\Fs w.heap.size w a xs:=by
 have h2:=h.2;unfold Ps.Lt at h;rcases h2 with ⟨rfl,h0⟩|⟨g,cap,cur,rfl,hlo,hg,rest⟩
 · exact⟨none,0,by rw[h0],fun hne=>absurd (uy h0) hne⟩
 · refine⟨_,cap,rfl,fun _=>⟨g,0,(fV.1 hg).1,rfl,fun i hi=>?_⟩⟩;have h1:=h.cells (g:=g) (by simp[Value.ownBlock]) i (.float .f64 (xs.getD i 0)) (by simp[Ps.U,hi]);have e:(⟨g,0,none⟩:Addr).add i=⟨g,0+i,none⟩:=by unfold Addr.add;split <;> simp_all
   rw[e] at h1;exact h1
theorem Qk(xs:List Nat)(a:Option Addr)(n c:Nat)(pa pb:Int)(w:World)(hn:n=xs.length)(hm:n<=35184372088832)(hF:Fs w.heap.size w a xs)(hW:j4 xs) :
 As 78 #[.slice a n c,.agg #[.int .i64 pa,.int .i64 pb]] w fun r w' =>
  ((Ps.fG pa pb xs≠0/\∃ a' c',r=.returned (.tuple #[.slice a' 0 c',.agg #[.int .i64 0,.int .i64 0,.int .i64 0,.int .i64 0,.int .i64 0,.int .i64 0],.int .i64 (Ps.fG pa pb xs)])) \/
   (Ps.fG pa pb xs=0/\∃ a' c',r=.returned (.tuple #[.slice a' (Ps.fin xs).length c',.agg #[.int .i64 (Ps.cn 5 xs:Nat),.int .i64 (Ps.cn 3 xs:Nat),.int .i64 (Ps.cn 4 xs:Nat),.int .i64 (Ps.cn 1 xs:Nat),.int .i64 (Ps.cn 2 xs:Nat),.int .i64 (xs.length:Nat)],.int .i64 0])/\Fs w'.heap.size w' a' (Ps.fin xs)))/\An w w':=by
 refine(Ps.Qc xs a n c w.heap.size pa pb w hn hm hW (Uh hF) (aA _)).mono ?_;rintro r w' ⟨v,rfl,hL,hb⟩;refine⟨?_,hb⟩;unfold Ps.Jk;unfold Ps.Jj at hL
 by_cases h0:Ps.fG pa pb xs=0
 · rw[if_pos h0] at hL |-;obtain⟨a',c',rfl,hF'⟩:=Jq hL;exact .inr ⟨h0,a',c',by rw[h0],hF'⟩
 · rw[if_neg h0] at hL |-;obtain⟨a',c',rfl,_⟩:=Jq hL;exact .inl ⟨h0,a',c',rfl⟩
def Re(pa pb:Int)(xs:List Nat):Bool:=(decide (0<Ps.cn 5 xs)&&decide (pa=0)) || (decide (0<Ps.cn 3 xs+Ps.cn 4 xs)&&decide (pb=0))
theorem xR{pa pb:Int}{xs:List Nat}(h:Ps.fG pa pb xs=0):may pa pb=true/\xs.length<=65536:=by
 unfold Ps.fG at h
 cases hm:may pa pb with
 | false=>rw[hm] at h;simp at h
 | true =>
   rw[hm,if_neg (by decide)] at h
   by_cases hl:65536<xs.length
   · rw[if_pos hl] at h;exact absurd h (by decide)
   · exact⟨rfl,by omega⟩
theorem Eg:∀ xs:List Nat,Ps.cn 5 xs+Ps.cn 3 xs+Ps.cn 4 xs+Ps.cn 1 xs+Ps.cn 2 xs<=xs.length
 | []=>by simp[Ps.cn]
 | x::xs=>by
   have ih:=Eg xs;unfold Ps.cn at ih |-;simp only[List.countP_cons,qQ];have hk:=Ps.P7 x;obtain q|q|q|q|q|q:kd x=0\/kd x=1\/kd x=2\/kd x=3\/kd x=4\/kd x=5:=by omega
   all_goals (rw[q];simp;omega)
theorem vd14{pa pb:Int}{xs:List Nat}(h:Ps.fG pa pb xs=0):(vd (snd (Ps.cn 5 xs:Nat) (Ps.cn 3 xs:Nat) (Ps.cn 4 xs:Nat) (Ps.cn 1 xs:Nat) (Ps.cn 2 xs:Nat) (xs.length:Nat)&&may pa pb) (Ps.cn 5 xs:Nat) (Ps.cn 3 xs:Nat) (Ps.cn 4 xs:Nat) pa pb).2=Re pa pb xs:=by
 obtain⟨hm,hl⟩:=xR h;have hs:=Eg xs
 have e:snd (Ps.cn 5 xs:Nat) (Ps.cn 3 xs:Nat) (Ps.cn 4 xs:Nat) (Ps.cn 1 xs:Nat) (Ps.cn 2 xs:Nat) (xs.length:Nat)=true:=by
  unfold snd ct;simp;omega
 rw[e,hm];unfold vd Re
 by_cases h5:0<Ps.cn 5 xs/\pa=0
 · have h5':0<((Ps.cn 5 xs:Nat):Int)/\pa=0:=⟨by omega,h5.2⟩;rw[if_neg (by decide),if_pos h5'];simp[h5.1,h5.2]
 · have h5':¬ (0<((Ps.cn 5 xs:Nat):Int)/\pa=0):=fun q=>h5 ⟨by omega,q.2⟩
   have e5:(decide (0<Ps.cn 5 xs)&&decide (pa=0))=false:=by
    rcases kV 0 (Ps.cn 5 xs) with q|q
    · have:¬ pa=0:=fun r=>h5 ⟨q,r⟩;simp[this]
    · have:¬ 0<Ps.cn 5 xs:=by omega
      simp[this]
   rw[if_neg (by decide),if_neg h5',e5,Bool.false_or]
   by_cases hb:pb=0
   · subst hb;rw[if_neg (by simp)]
     by_cases h3:0<Ps.cn 3 xs
     · have:0<Ps.cn 3 xs+Ps.cn 4 xs:=by omega
       by_cases h4:0<Ps.cn 4 xs
       · rw[if_pos ⟨by omega,by omega⟩];simp[this]
       · rw[if_neg (by omega),if_pos (by omega)];simp[this]
     · by_cases h4:0<Ps.cn 4 xs
       · have:0<Ps.cn 3 xs+Ps.cn 4 xs:=by omega
         rw[if_neg (by omega),if_neg (by omega),if_pos (by omega)];simp[this]
       · have:¬ 0<Ps.cn 3 xs+Ps.cn 4 xs:=by omega
         rw[if_neg (by omega),if_neg (by omega),if_neg (by omega)];simp[this]
   · rw[if_pos hb];simp[hb]
theorem zA{pa pb:Int}{xs:List Nat}(h:Ps.fG pa pb xs=0)(w:World):As 79 #[.agg #[.int .i64 (Ps.cn 5 xs:Nat),.int .i64 (Ps.cn 3 xs:Nat),.int .i64 (Ps.cn 4 xs:Nat),.int .i64 (Ps.cn 1 xs:Nat),.int .i64 (Ps.cn 2 xs:Nat),.int .i64 (xs.length:Nat)],.agg #[.int .i64 pa,.int .i64 pb]] w fun r w'=>(∃ x,r=.returned (.tuple #[.float .f64 x,.bool (Re pa pb xs)]))/\An w w':=by
 refine(CS _ _ _ _ _ _ pa pb w).mono ?_;rintro r w' ⟨rfl,hb⟩;exact⟨⟨_,by rw[vd14 h]⟩,hb⟩
theorem Jr{xs:List Nat}(h:j4 xs):j4 (Ps.fin xs):=fun x hx=>h x (List.mem_filter.1 hx).1
theorem uh{xs:List Nat}(h:j4 xs):∀ x ∈ Ps.fin xs,fD x:=fun x hx=>by
 have hk:kd x<=2:=by simpa using (List.mem_filter.1 hx).2
 have hl:=h x (List.mem_filter.1 hx).1;show gI x<9218868437227405312;have em:gI x=x%9223372036854775808:=rfl;unfold kd at hk;rcases kV (gI x) 9218868437227405312 with q|q
 · exact q
 · rcases Nat.eq_or_lt_of_le q with r | r
   · rw[if_neg (by omega),if_pos (by omega)] at hk;split at hk <;> omega
   · rw[if_pos (by omega)] at hk;omega
theorem ui{pa pb:Int}{xs:List Nat}(h:Ps.fG pa pb xs=0):(Ps.fin xs).length<=65536:=cB (Ps.P8 xs) (xR h).2
theorem Eh{pa pb:Int}{xs:List Nat}(hW:j4 xs)(h:Ps.fG pa pb xs=0):nV (Ps.fin xs)=0:=by
 unfold nV;rw[if_neg (by have:=ui h;omega),if_pos ((gU _).2 (uh hW))]
end
section
open Go Go.RowKit J
open Go.Proofs.YteginbngplldaaaGreatDoor.B (bB aF)
attribute [local go_sem] bB aF
def cS(xs ys:List Nat):Int:=(xs.length:Int)*tS (fun i=>fX xs i*fX ys i) xs.length-sX xs*sX ys
noncomputable def qa (rd:Option (Bool×Nat×Int)->Option (Bool×Nat×Int)->Int->Nat×Int) (xs:List Nat) (less mode pa pb:Int):Nat×Int :=
 if p9 mode&&lsB less then
  if Ps.fG pa pb xs=0 then
   if Re pa pb xs then(9221120237041090560,0)
   else if ((Ps.fin xs).length:Int)<=less then(0,3)
   else rd (gV 2148 (cS (Ps.fin xs) (Ps.fin xs))) (gV 0 (((Ps.fin xs).length:Int)*(((Ps.fin xs).length:Int)-less))) mode
  else(0,Ps.fG pa pb xs)
 else(0,1)
theorem jW{xs ys:List Nat}(hx:j4 xs)(fx:∀ x ∈ xs,fD x)(hy:j4 ys)(fy:∀ x ∈ ys,fD x)(hl:xs.length<=65536)(he:xs.length=ys.length):Bd 4229 (cS xs ys):=by
 have bP:=pO (f:=fX xs) (g:=fX ys) (n:=xs.length) (fun i hi=>gP hx fx i hi) (fun i hi=>gP hy fy i (by omega)) hl xs.length (aA _);have b1:=iA hx fx hl xs.length (aA _);have b2:=iA hy fy (by omega) ys.length (aA _);exact Bd.sub (m:=4228) (((Bd.nat (k:=16) (n:=xs.length) (by omega)).mul bP).mono (by decide)) ((b1.mul b2).mono (by decide))
theorem uS{n:Nat}{less:Int}(hn:n<=1099511627776)(h0:0<=less)(h1:less<=1):Bd 82 ((n:Int)*((n:Int)-less)) :=
 (Bd.mul (a:=41) (b:=41) (Bd.nat (by omega)) (by unfold Bd;omega))
theorem Qaz{P:Prop}(h:P:=by
 rw[<-hfl];exact⟨Jr HX.o.r2.1,uh HX.o.r2.1,ui qP.o,Eh HX.o.r2.1 qP.o⟩):P:=h
theorem x6{P:Prop}(h:P:=by
 go_wp2;exact aC (v:=.tuple #[.float .f64 X,.int .i64 E]) (by simp[results,Tryz.results36,go_sem]) rfl ⟨rfl,BF.o⟩):P:=h
theorem xr{P:Prop}(h:P:=by
 rw[jV];exact⟨Bl.new _ 26 [_,_],aK _ _⟩):P:=h
theorem xd{P:Prop}(h:P:=by
 rw[hU,hgs];exact⟨Bl.new _ 99 [_,_,_,_,_,_],B1.o.1.alloc _,B1.o.2.trans ((aK _ _).mono B1.o.2.size),(hF'.below (aK _ _)).mono (by simp)⟩):P:=h
theorem js{P:Prop}(h:P:=by
 rw[hz] at this;exact this):P:=h
theorem jn{P:Prop}(h:P:=by
 rw[hV,mo];have b3:=B3.o.1.trans (hb.mono B3.o.1.size);exact⟨Bl.new _ 62 [_,_,_,_],b3.trans ((aK _ _).mono b3.size),hD.below (aK _ _),hN.below (aK _ _)⟩):P:=h
theorem qt{P:Prop}(h:P:=by
 have hz:=HZ.o;rw[if_neg (by rw[qP.o];exact he),qP.o] at hz;obtain⟨rfl,rfl⟩:=eP hz;have BE:Aside (An w (v.alloc (Obj.cells #[.int .i64 0,.int .i64 0,.int .i64 0,.int .i64 0,.int .i64 0,.int .i64 0] 99))):=B1.o.2.trans ((aK _ _).mono B1.o.2.size);clear hz HZ qP B1 he;go_wp2;exact aC (v:=.tuple #[.float .f64 0,.int .i64 es]) (by simp[results,Tryz.results36,go_sem]) rfl ⟨rfl,BE.o⟩):P:=h
theorem Kp{P:Prop}(h:P:=by
 have hR:Rr u (.agg #[.slice (some ⟨gA,0,none⟩) m m,.bool (dN oS),.slice p1 (ws (dX oS)).length q1,.int .i64 (dE oS)]) m (fun i=>gV 1074 (fX fl i)) (gV 1074 (sX fl)):=by
  rw[Ca.o];exact⟨gA,p1,q1,rfl,B4.o.r2.1.below hu,by have:=B4.o.r3.below hu;rw[Ca.o] at this;exact this⟩
 have:=mY (f:=fX fl) (g:=fX fl) (S:=sX fl) (T:=sX fl) m6 (HX.o.r3.1.belows (B4.o.2.1.trans (hu.mono B4.o.2.1.size))) (fun i hi=>gP PF.o.1 PF.o.2.1 i (by rw[Ei.o];exact hi)) (fun i hi=>gP PF.o.1 PF.o.2.1 i (by rw[Ei.o];exact hi)) (iA PF.o.1 PF.o.2.1 PF.o.r2.1 _ (aA _)) (iA PF.o.1 PF.o.2.1 PF.o.r2.1 _ (aA _)) hR hR;rw[BM];unfold cS;rw[Ei.o];exact this):P:=h
theorem G7(xs:List Nat)(a:Option Addr)(n c:Nat)(less mode pa pb:Int)(w:World)(hn:n=xs.length)(hF:Fs w.heap.size w a xs)(hW:j4 xs)(hT:dH w)(hl:n<=35184372088832)(z:Nat×Int)(hz:qa nK xs less mode pa pb=z) :
 At 36 #[.slice a n c,.int .i64 less,.int .i64 mode,.agg #[.int .i64 pa,.int .i64 pb],.func (.func 37) #[] #[]] w (.tuple #[.float .f64 z.1,.int .i64 z.2]):=by
 obtain⟨X,E⟩:=z;simp only;obtain⟨W,jV⟩:=af (w.alloc (Obj.cells #[.int .i64 pa,.int .i64 pb] 26))
 have B0:Aside (Bl W w.heap.size 26 [.int .i64 pa,.int .i64 pb]/\An w W):=by
  exact xr
 have jB:=ak jV;clear jV;unfold qa at hz
 cases hm:p9 mode with
 | false =>
   rw[hm,nR,if_neg (by decide)] at hz;obtain⟨rfl,rfl⟩:=eP hz;clear hz hn hF hW hT;go_enter Tryz.func36,Tryz.ntmps36
   go_upto_region 1 with fail
   rw[<-jB.o];clear jB;have C:=hid (iT mode W);rw[hm] at C;go_wp2_with fail;refine C.o.mono ?_;rintro r v ⟨rfl,hv⟩;rw[hv];clear hv v C;go_wp2;exact aC (v:=.tuple #[.float .f64 0,.int .i64 1]) (by simp[results,Tryz.results36,go_sem]) rfl ⟨rfl,B0.o.2⟩
 | true =>
 cases hs:lsB less with
 | false =>
   rw[hm,hs,og,if_neg (by decide)] at hz;obtain⟨rfl,rfl⟩:=eP hz;clear hz hn hF hW hT;go_enter Tryz.func36,Tryz.ntmps36
   go_upto_region 1 with fail
   rw[<-jB.o];clear jB;have C:=hid (iT mode W);rw[hm] at C;go_wp2_with fail;refine C.o.mono ?_;rintro r v ⟨rfl,hv⟩;rw[hv];clear hv v C;have C:=hid (mZ less W);rw[hs] at C;go_wp2_with fail;refine C.o.mono ?_;rintro r v ⟨rfl,hv⟩;rw[hv];clear hv v C;go_wp2;exact aC (v:=.tuple #[.float .f64 0,.int .i64 1]) (by simp[results,Tryz.results36,go_sem]) rfl ⟨rfl,B0.o.2⟩
 | true =>
   rw[hm,hs,og,if_pos rfl] at hz;have HS:=hid (Qk xs a n c pa pb W hn hl ((hF.below B0.o.2).mono B0.o.2.size) hW);have HX:=iC hn hF hW hT (xQ hm) (Ef hs);have HZ:=ak hz;obtain⟨es,hes⟩:∃ e,Ps.fG pa pb xs=e:=⟨_,rfl⟩;rw[hes] at HS;have qP:=ak hes;have p0:=B0.o.1.cell 0 _ rfl;have p1:=B0.o.1.cell 1 _ rfl;clear hz hn hF hW hT hl hes;go_enter Tryz.func36,Tryz.ntmps36
   go_upto_region 1 with fail
   rw[<-jB.o];clear jB;have C:=hid (iT mode W);rw[hm] at C;go_wp2_with fail;refine C.o.mono ?_;rintro r v ⟨rfl,hv⟩;rw[hv];clear hv v C;have C:=hid (mZ less W);rw[hs] at C;go_wp2_with fail;refine C.o.mono ?_;rintro r v ⟨rfl,hv⟩;rw[hv];clear hv v C;go_wp2_with fail;refine HS.o.mono ?_;rintro r v ⟨hr,hb⟩;have B1:=(aJ (B0.o.1.below hb B0.o.1.lt) (B0.o.2.trans (hb.mono B0.o.2.size)));clear hb HS p0 p1 B0;rcases hr with ⟨he,a',c',rfl⟩|⟨he,a',c',rfl,hF'⟩
   · have h1:(es==0)=false:=by simp[he]
     exact qt
   · subst he;have HV:=hid (fun u:World=>zA qP.o u);have hz:=HZ.o;rw[if_pos qP.o] at hz;obtain⟨s5,hs5⟩:∃ s:Int,(Ps.cn 5 xs:Nat)=s:=⟨_,rfl⟩;obtain⟨s3,hs3⟩:∃ s:Int,(Ps.cn 3 xs:Nat)=s:=⟨_,rfl⟩;obtain⟨s4,hs4⟩:∃ s:Int,(Ps.cn 4 xs:Nat)=s:=⟨_,rfl⟩;obtain⟨s1,hs1⟩:∃ s:Int,(Ps.cn 1 xs:Nat)=s:=⟨_,rfl⟩;obtain⟨s2,hs2⟩:∃ s:Int,(Ps.cn 2 xs:Nat)=s:=⟨_,rfl⟩;obtain⟨sl,hsl⟩:∃ s:Int,(xs.length:Nat)=s:=⟨_,rfl⟩;rw[hs5,hs3,hs4,hs1,hs2,hsl] at HV |-;clear hs5 hs3 hs4 hs1 hs2 hsl;obtain⟨fl,hfl⟩:∃ f,Ps.fin xs=f:=⟨_,rfl⟩;rw[hfl] at hF' hz |-
     have PF:Aside (j4 fl/\(∀ x ∈ fl,fD x)/\fl.length<=65536/\nV fl=0):=by
      exact Qaz
     obtain⟨m,yc⟩:∃ m,fl.length=m:=⟨_,rfl⟩;obtain⟨U,hU⟩:=af (v.alloc (Obj.cells #[.int .i64 s5,.int .i64 s3,.int .i64 s4,.int .i64 s1,.int .i64 s2,.int .i64 sl] 99));obtain⟨gs,hgs⟩:=af (v.heap.size)
     have B2:Aside (Bl U gs 99 [.int .i64 s5,.int .i64 s3,.int .i64 s4,.int .i64 s1,.int .i64 s2,.int .i64 sl]/\Bl U w.heap.size 26 [.int .i64 pa,.int .i64 pb]/\An w U/\Fs U.heap.size U a' fl):=by
      exact xd
     rw[yc] at hz |-;have Ei:=ak yc;have HU:=(aJ hU hgs);obtain⟨cr,hcr⟩:∃ b,Re pa pb xs=b:=⟨_,rfl⟩;rw[hcr] at HV hz;clear hU hgs hF' B1 hfl qP HZ yc hcr
     go_upto_region 6 with fail
     rw[<-HU.o.1,<-HU.o.2];clear HU;have q0:=B2.o.1.cell 0 _ rfl;have q1:=B2.o.1.cell 1 _ rfl;have q2:=B2.o.1.cell 2 _ rfl;have q3:=B2.o.1.cell 3 _ rfl;have q4:=B2.o.1.cell 4 _ rfl;have q5:=B2.o.1.cell 5 _ rfl;have p0:=B2.o.2.1.cell 0 _ rfl;have p1:=B2.o.2.1.cell 1 _ rfl;go_wp2_with fail;refine(HV.o _).mono ?_;rintro r u ⟨⟨x,rfl⟩,hb⟩;have B3:=(aJ (B2.o.r2.1.trans (hb.mono B2.o.r2.1.size)) ((B2.o.r3.below hb).mono hb.size));clear hb HV q0 q1 q2 q3 q4 q5 p0 p1 B2
     cases cr with
     | true =>
       rw[if_pos rfl] at hz;obtain⟨rfl,rfl⟩:=eP hz;clear hz PF Ei;go_wp2;exact aC (v:=.tuple #[.float .f64 9221120237041090560,.int .i64 0]) (by simp[results,Tryz.results36,go_sem]) rfl ⟨rfl,B3.o.1⟩
     | false =>
       rw[if_neg (by decide)] at hz;have HZ:=ak hz;have HE:=hid (rT fl a' m c' u Ei.o.symm B3.o.2 PF.o.1 (HX.o.r3.1.belows B3.o.1) (by have:=PF.o.r2.1;have:=Ei.o;omega));rw[PF.o.r3] at HE;clear hz;go_wp2_with fail;refine HE.o.mono ?_;rintro r u2 ⟨hr,hb⟩;rcases hr with ⟨hr,_⟩|⟨_,v2,rfl,hR⟩
       · exact absurd rfl hr
       obtain⟨gA,p1,q1,rfl,hD,hN⟩:=hR;obtain⟨oS,xS⟩:=af (gV 1074 (sX fl));rw[<-xS] at hN |-;obtain⟨V,hV⟩:=af (u2.alloc (Obj.cells #[.slice (some ⟨gA,0,none⟩) m m,.bool (dN oS),.slice p1 (ws (dX oS)).length q1,.int .i64 (dE oS)] 62));obtain⟨g7,mo⟩:=af (u2.heap.size)
       have B4:Aside (Bl V g7 62 [.slice (some ⟨gA,0,none⟩) m m,.bool (dN oS),.slice p1 (ws (dX oS)).length q1,.int .i64 (dE oS)]/\An w V/\Dr V gA m m (fun i=>gV 1074 (fX fl i))/\Nt 0 V (.slice p1 (ws (dX oS)).length q1) (dX oS)):=by
        exact jn
       have HV:=(aJ hV mo);have Ca:=ak xS;clear hV mo hb hD hN HE B3 xS
       go_upto_region 10 with fail
       rw[<-HV.o.1,<-HV.o.2];clear HV;have s0:=B4.o.1.cell 0 _ rfl
       by_cases hle:(m:Int)<=less
       · have XA:decide ((m:Int)<=less)=true:=decide_eq_true hle;have hz:=HZ.o;rw[if_pos hle] at hz;obtain⟨rfl,rfl⟩:=eP hz;clear hz HZ;go_wp2;exact aC (v:=.tuple #[.float .f64 0,.int .i64 3]) (by simp[results,Tryz.results36,go_sem]) rfl ⟨rfl,B4.o.2.1⟩
       · have XA:decide ((m:Int)<=less)=false:=decide_eq_false hle;have hz:=HZ.o;rw[if_neg hle] at hz;have m6:m<=65536:=by have:=PF.o.r2.1;have:=Ei.o;omega
         have xY:0<=less/\less<=1:=by have:=HX.o.r5;omega
         obtain⟨oV,BM⟩:=af (gV 2148 (cS fl fl));obtain⟨oD,sj⟩:=af (gV 0 ((m:Int)*((m:Int)-less)));rw[<-BM,<-sj] at hz;have FV:Fm oV:=by rw[BM];exact aZ (by decide) (by decide) (jW PF.o.1 PF.o.2.1 PF.o.1 PF.o.2.1 PF.o.r2.1 rfl)
         have FD:Fm oD:=by rw[sj];exact aZ (by decide) (by decide) (uS (by omega) xY.1 xY.2)
         have Vy:Hid (∀ u:World,An V u->As 41 #[.agg #[.slice (some ⟨gA,0,none⟩) m m,.bool (dN oS),.slice p1 (ws (dX oS)).length q1,.int .i64 (dE oS)],.agg #[.slice (some ⟨gA,0,none⟩) m m,.bool (dN oS),.slice p1 (ws (dX oS)).length q1,.int .i64 (dE oS)]] u fun r w'=>aN 0 w' r oV/\An u w'):=fun u hu=>by
          exact Kp
         have qE:Hid (∀ u:World,dH u->As 46 #[.int .i64 (m:Nat),.int .i64 less] u fun r w'=>aN 0 w' r oD/\An u w'):=fun u hu=>by
          rw[sj];exact si m less u hu (by omega) xY.1 xY.2 (by omega)
         have HR:Hid (∀ (u:World) (a b:Option Addr) (ca cb:Nat),dH u->Nt 0 u (.slice a (ws (dX oV)).length ca) (dX oV)->Nt 0 u (.slice b (ws (dX oD)).length cb) (dX oD)->At 37 #[.agg #[.bool (dN oV),.slice a (ws (dX oV)).length ca,.int .i64 (dE oV),.bool (dN oD),.slice b (ws (dX oD)).length cb,.int .i64 (dE oD)],.int .i64 mode] u (.tuple #[.float .f64 X,.int .i64 E])):=fun u a b ca cb qD n1 n2=>by
          have:=G5 mode FV FD n1 n2 qD;exact js
         have FF:=(aJ FV FD);have HT:=ak HX.o.r3.1;have hdr:=(aB V.heap.size V).drew;have BD:=(aJ (B4.o.1.below hdr B4.o.1.lt) (B4.o.2.1.trans (hdr.mono B4.o.2.1.size)));have C1:=hid (Vy.o V.drew hdr);clear hz HZ BM sj FV FD hdr Ei m6 xY PF HX Vy;have kS:Aside (V.drew.cell? ⟨g7,0,none⟩=some (.slice (some ⟨gA,0,none⟩) m m)/\V.drew.cell? ⟨g7,1,none⟩=some (.bool (dN oS))/\V.drew.cell? ⟨g7,2,none⟩=some (.slice p1 (ws (dX oS)).length q1)/\V.drew.cell? ⟨g7,3,none⟩=some (.int .i64 (dE oS))):=⟨BD.o.1.cell 0 _ rfl,BD.o.1.cell 1 _ rfl,BD.o.1.cell 2 _ rfl,BD.o.1.cell 3 _ rfl⟩;go_wp2_with fail;clear s0 B4
         go_region_held3 (fun w'=>w'.cell? ⟨g7,0,none⟩=some (.slice (some ⟨gA,0,none⟩) m m)/\w'.cell? ⟨g7,1,none⟩=some (.bool (dN oS))/\w'.cell? ⟨g7,2,none⟩=some (.slice p1 (ws (dX oS)).length q1)/\w'.cell? ⟨g7,3,none⟩=some (.int .i64 (dE oS))) (with_reducible exact kS.o) (first
          | (go_at_call 41
             with_reducible refine C1.o.mono ?_
             rintro r u3 ⟨hd,hb⟩;obtain⟨a3,c3,rfl,eu⟩:=hd.aD;have BD:=bO (BD.o.1.below hb BD.o.1.lt) (BD.o.2.trans (hb.mono BD.o.2.size)) eu;have kS:=ak (jm hb kS.o);have C2:=hid (qE.o u3 (HT.o.belows BD.o.2.1))
             clear hb hd eu C1)
          | (go_at_call 46
             with_reducible refine C2.o.mono ?_
             rintro r u4 ⟨hd,hb⟩;obtain⟨a4,c4,rfl,iD⟩:=hd.aD;have BE:=bO (BD.o.2.1.trans (hb.mono BD.o.2.1.size)) (BD.o.r2.below hb) iD;have kS:=ak (jm hb kS.o);have C3:=hid (HR.o u4 a3 a4 c3 c4 (HT.o.belows BE.o.1) BE.o.2.1 BE.o.r2)
             clear hb hd iD C2)
          | (go_at_call 37
             with_reducible refine C3.o.mono ?_
             rintro r u5 ⟨rfl,hb⟩;have BF:=ak (BE.o.1.trans (hb.mono BE.o.1.size));have kS:=ak (jm hb kS.o)
             clear hb C3))
         exact x6
theorem Js(xs:List Nat)(a:Option Addr)(n c:Nat)(less mode pa pb:Int)(w:World)(hn:n=xs.length)(hF:Fs w.heap.size w a xs)(hW:j4 xs)(hT:dH w)(hl:n<=35184372088832)(z:Nat×Int)(hz:qa nK xs less mode pa pb=z) :
 At 10 #[.slice a n c,.int .i64 less,.int .i64 mode,.agg #[.int .i64 pa,.int .i64 pb]] w (.tuple #[.float .f64 z.1,.int .i64 z.2]):=by
 obtain⟨W,jV⟩:=af (w.alloc (Obj.cells #[.int .i64 pa,.int .i64 pb] 26))
 have B0:Aside (Bl W w.heap.size 26 [.int .i64 pa,.int .i64 pb]/\An w W):=by
  exact xr
 have C:=hid (G7 xs a n c less mode pa pb W hn ((hF.below B0.o.2).mono B0.o.2.size) hW (hT.belows B0.o.2) hl z hz);have jB:=ak jV;obtain⟨X,E⟩:=z;clear jV hn hF hW hT hl hz;simp only at C |-;go_enter Tryz.func10,Tryz.ntmps10
 go_upto_region 1 with fail
 rw[<-jB.o];clear jB;have p0:=B0.o.1.cell 0 _ rfl;have p1:=B0.o.1.cell 1 _ rfl;go_wp2_with fail;refine C.o.mono ?_;rintro r v ⟨rfl,hb⟩;have B1:=ak (B0.o.2.trans (hb.mono B0.o.2.size));clear hb C p0 p1;go_wp2;exact aC (v:=.tuple #[.float .f64 X,.int .i64 E]) (by simp[results,Tryz.results10,go_sem]) rfl ⟨rfl,B1.o⟩
end
section
open Go Go.RowKit J
open Go.Proofs.YteginbngplldaaaGreatDoor.B (bB aF)
attribute [local go_sem] bB aF
theorem G8(xs:List Nat)(a:Option Addr)(n c:Nat)(less mode pa pb:Int)(w:World)(hn:n=xs.length)(hF:Fs w.heap.size w a xs)(hW:j4 xs)(hT:dH w)(hl:n<=35184372088832)(z:Nat×Int)(hz:qa mr xs less mode pa pb=z) :
 At 36 #[.slice a n c,.int .i64 less,.int .i64 mode,.agg #[.int .i64 pa,.int .i64 pb],.func (.func 53) #[] #[]] w (.tuple #[.float .f64 z.1,.int .i64 z.2]):=by
 obtain⟨X,E⟩:=z;simp only;obtain⟨W,jV⟩:=af (w.alloc (Obj.cells #[.int .i64 pa,.int .i64 pb] 26))
 have B0:Aside (Bl W w.heap.size 26 [.int .i64 pa,.int .i64 pb]/\An w W):=by
  exact xr
 have jB:=ak jV;clear jV;unfold qa at hz
 cases hm:p9 mode with
 | false =>
   rw[hm,nR,if_neg (by decide)] at hz;obtain⟨rfl,rfl⟩:=eP hz;clear hz hn hF hW hT;go_enter Tryz.func36,Tryz.ntmps36
   go_upto_region 1 with fail
   rw[<-jB.o];clear jB;have C:=hid (iT mode W);rw[hm] at C;go_wp2_with fail;refine C.o.mono ?_;rintro r v ⟨rfl,hv⟩;rw[hv];clear hv v C;go_wp2;exact aC (v:=.tuple #[.float .f64 0,.int .i64 1]) (by simp[results,Tryz.results36,go_sem]) rfl ⟨rfl,B0.o.2⟩
 | true =>
 cases hs:lsB less with
 | false =>
   rw[hm,hs,og,if_neg (by decide)] at hz;obtain⟨rfl,rfl⟩:=eP hz;clear hz hn hF hW hT;go_enter Tryz.func36,Tryz.ntmps36
   go_upto_region 1 with fail
   rw[<-jB.o];clear jB;have C:=hid (iT mode W);rw[hm] at C;go_wp2_with fail;refine C.o.mono ?_;rintro r v ⟨rfl,hv⟩;rw[hv];clear hv v C;have C:=hid (mZ less W);rw[hs] at C;go_wp2_with fail;refine C.o.mono ?_;rintro r v ⟨rfl,hv⟩;rw[hv];clear hv v C;go_wp2;exact aC (v:=.tuple #[.float .f64 0,.int .i64 1]) (by simp[results,Tryz.results36,go_sem]) rfl ⟨rfl,B0.o.2⟩
 | true =>
   rw[hm,hs,og,if_pos rfl] at hz;have HS:=hid (Qk xs a n c pa pb W hn hl ((hF.below B0.o.2).mono B0.o.2.size) hW);have HX:=iC hn hF hW hT (xQ hm) (Ef hs);have HZ:=ak hz;obtain⟨es,hes⟩:∃ e,Ps.fG pa pb xs=e:=⟨_,rfl⟩;rw[hes] at HS;have qP:=ak hes;have p0:=B0.o.1.cell 0 _ rfl;have p1:=B0.o.1.cell 1 _ rfl;clear hz hn hF hW hT hl hes;go_enter Tryz.func36,Tryz.ntmps36
   go_upto_region 1 with fail
   rw[<-jB.o];clear jB;have C:=hid (iT mode W);rw[hm] at C;go_wp2_with fail;refine C.o.mono ?_;rintro r v ⟨rfl,hv⟩;rw[hv];clear hv v C;have C:=hid (mZ less W);rw[hs] at C;go_wp2_with fail;refine C.o.mono ?_;rintro r v ⟨rfl,hv⟩;rw[hv];clear hv v C;go_wp2_with fail;refine HS.o.mono ?_;rintro r v ⟨hr,hb⟩;have B1:=(aJ (B0.o.1.below hb B0.o.1.lt) (B0.o.2.trans (hb.mono B0.o.2.size)));clear hb HS p0 p1 B0;rcases hr with ⟨he,a',c',rfl⟩|⟨he,a',c',rfl,hF'⟩
   · have h1:(es==0)=false:=by simp[he]
     exact qt
   · subst he;have HV:=hid (fun u:World=>zA qP.o u);have hz:=HZ.o;rw[if_pos qP.o] at hz;obtain⟨s5,hs5⟩:∃ s:Int,(Ps.cn 5 xs:Nat)=s:=⟨_,rfl⟩;obtain⟨s3,hs3⟩:∃ s:Int,(Ps.cn 3 xs:Nat)=s:=⟨_,rfl⟩;obtain⟨s4,hs4⟩:∃ s:Int,(Ps.cn 4 xs:Nat)=s:=⟨_,rfl⟩;obtain⟨s1,hs1⟩:∃ s:Int,(Ps.cn 1 xs:Nat)=s:=⟨_,rfl⟩;obtain⟨s2,hs2⟩:∃ s:Int,(Ps.cn 2 xs:Nat)=s:=⟨_,rfl⟩;obtain⟨sl,hsl⟩:∃ s:Int,(xs.length:Nat)=s:=⟨_,rfl⟩;rw[hs5,hs3,hs4,hs1,hs2,hsl] at HV |-;clear hs5 hs3 hs4 hs1 hs2 hsl;obtain⟨fl,hfl⟩:∃ f,Ps.fin xs=f:=⟨_,rfl⟩;rw[hfl] at hF' hz |-
     have PF:Aside (j4 fl/\(∀ x ∈ fl,fD x)/\fl.length<=65536/\nV fl=0):=by
      exact Qaz
     obtain⟨m,yc⟩:∃ m,fl.length=m:=⟨_,rfl⟩;obtain⟨U,hU⟩:=af (v.alloc (Obj.cells #[.int .i64 s5,.int .i64 s3,.int .i64 s4,.int .i64 s1,.int .i64 s2,.int .i64 sl] 99));obtain⟨gs,hgs⟩:=af (v.heap.size)
     have B2:Aside (Bl U gs 99 [.int .i64 s5,.int .i64 s3,.int .i64 s4,.int .i64 s1,.int .i64 s2,.int .i64 sl]/\Bl U w.heap.size 26 [.int .i64 pa,.int .i64 pb]/\An w U/\Fs U.heap.size U a' fl):=by
      exact xd
     rw[yc] at hz |-;have Ei:=ak yc;have HU:=(aJ hU hgs);obtain⟨cr,hcr⟩:∃ b,Re pa pb xs=b:=⟨_,rfl⟩;rw[hcr] at HV hz;clear hU hgs hF' B1 hfl qP HZ yc hcr
     go_upto_region 6 with fail
     rw[<-HU.o.1,<-HU.o.2];clear HU;have q0:=B2.o.1.cell 0 _ rfl;have q1:=B2.o.1.cell 1 _ rfl;have q2:=B2.o.1.cell 2 _ rfl;have q3:=B2.o.1.cell 3 _ rfl;have q4:=B2.o.1.cell 4 _ rfl;have q5:=B2.o.1.cell 5 _ rfl;have p0:=B2.o.2.1.cell 0 _ rfl;have p1:=B2.o.2.1.cell 1 _ rfl;go_wp2_with fail;refine(HV.o _).mono ?_;rintro r u ⟨⟨x,rfl⟩,hb⟩;have B3:=(aJ (B2.o.r2.1.trans (hb.mono B2.o.r2.1.size)) ((B2.o.r3.below hb).mono hb.size));clear hb HV q0 q1 q2 q3 q4 q5 p0 p1 B2
     cases cr with
     | true =>
       rw[if_pos rfl] at hz;obtain⟨rfl,rfl⟩:=eP hz;clear hz PF Ei;go_wp2;exact aC (v:=.tuple #[.float .f64 9221120237041090560,.int .i64 0]) (by simp[results,Tryz.results36,go_sem]) rfl ⟨rfl,B3.o.1⟩
     | false =>
       rw[if_neg (by decide)] at hz;have HZ:=ak hz;have HE:=hid (rT fl a' m c' u Ei.o.symm B3.o.2 PF.o.1 (HX.o.r3.1.belows B3.o.1) (by have:=PF.o.r2.1;have:=Ei.o;omega));rw[PF.o.r3] at HE;clear hz;go_wp2_with fail;refine HE.o.mono ?_;rintro r u2 ⟨hr,hb⟩;rcases hr with ⟨hr,_⟩|⟨_,v2,rfl,hR⟩
       · exact absurd rfl hr
       obtain⟨gA,p1,q1,rfl,hD,hN⟩:=hR;obtain⟨oS,xS⟩:=af (gV 1074 (sX fl));rw[<-xS] at hN |-;obtain⟨V,hV⟩:=af (u2.alloc (Obj.cells #[.slice (some ⟨gA,0,none⟩) m m,.bool (dN oS),.slice p1 (ws (dX oS)).length q1,.int .i64 (dE oS)] 62));obtain⟨g7,mo⟩:=af (u2.heap.size)
       have B4:Aside (Bl V g7 62 [.slice (some ⟨gA,0,none⟩) m m,.bool (dN oS),.slice p1 (ws (dX oS)).length q1,.int .i64 (dE oS)]/\An w V/\Dr V gA m m (fun i=>gV 1074 (fX fl i))/\Nt 0 V (.slice p1 (ws (dX oS)).length q1) (dX oS)):=by
        exact jn
       have HV:=(aJ hV mo);have Ca:=ak xS;clear hV mo hb hD hN HE B3 xS
       go_upto_region 10 with fail
       rw[<-HV.o.1,<-HV.o.2];clear HV;have s0:=B4.o.1.cell 0 _ rfl
       by_cases hle:(m:Int)<=less
       · have XA:decide ((m:Int)<=less)=true:=decide_eq_true hle;have hz:=HZ.o;rw[if_pos hle] at hz;obtain⟨rfl,rfl⟩:=eP hz;clear hz HZ;go_wp2;exact aC (v:=.tuple #[.float .f64 0,.int .i64 3]) (by simp[results,Tryz.results36,go_sem]) rfl ⟨rfl,B4.o.2.1⟩
       · have XA:decide ((m:Int)<=less)=false:=decide_eq_false hle;have hz:=HZ.o;rw[if_neg hle] at hz;have m6:m<=65536:=by have:=PF.o.r2.1;have:=Ei.o;omega
         have xY:0<=less/\less<=1:=by have:=HX.o.r5;omega
         obtain⟨oV,BM⟩:=af (gV 2148 (cS fl fl));obtain⟨oD,sj⟩:=af (gV 0 ((m:Int)*((m:Int)-less)));rw[<-BM,<-sj] at hz;have FV:Fm oV:=by rw[BM];exact aZ (by decide) (by decide) (jW PF.o.1 PF.o.2.1 PF.o.1 PF.o.2.1 PF.o.r2.1 rfl)
         have FD:Fm oD:=by rw[sj];exact aZ (by decide) (by decide) (uS (by omega) xY.1 xY.2)
         have Vy:Hid (∀ u:World,An V u->As 41 #[.agg #[.slice (some ⟨gA,0,none⟩) m m,.bool (dN oS),.slice p1 (ws (dX oS)).length q1,.int .i64 (dE oS)],.agg #[.slice (some ⟨gA,0,none⟩) m m,.bool (dN oS),.slice p1 (ws (dX oS)).length q1,.int .i64 (dE oS)]] u fun r w'=>aN 0 w' r oV/\An u w'):=fun u hu=>by
          exact Kp
         have qE:Hid (∀ u:World,dH u->As 46 #[.int .i64 (m:Nat),.int .i64 less] u fun r w'=>aN 0 w' r oD/\An u w'):=fun u hu=>by
          rw[sj];exact si m less u hu (by omega) xY.1 xY.2 (by omega)
         have HR:Hid (∀ (u:World) (a b:Option Addr) (ca cb:Nat),dH u->Nt 0 u (.slice a (ws (dX oV)).length ca) (dX oV)->Nt 0 u (.slice b (ws (dX oD)).length cb) (dX oD)->At 53 #[.agg #[.bool (dN oV),.slice a (ws (dX oV)).length ca,.int .i64 (dE oV),.bool (dN oD),.slice b (ws (dX oD)).length cb,.int .i64 (dE oD)],.int .i64 mode] u (.tuple #[.float .f64 X,.int .i64 E])):=fun u a b ca cb qD n1 n2=>by
          have:=G6 mode FV FD n1 n2 qD;exact js
         have FF:=(aJ FV FD);have HT:=ak HX.o.r3.1;have hdr:=(aB V.heap.size V).drew;have BD:=(aJ (B4.o.1.below hdr B4.o.1.lt) (B4.o.2.1.trans (hdr.mono B4.o.2.1.size)));have C1:=hid (Vy.o V.drew hdr);clear hz HZ BM sj FV FD hdr Ei m6 xY PF HX Vy;have kS:Aside (V.drew.cell? ⟨g7,0,none⟩=some (.slice (some ⟨gA,0,none⟩) m m)/\V.drew.cell? ⟨g7,1,none⟩=some (.bool (dN oS))/\V.drew.cell? ⟨g7,2,none⟩=some (.slice p1 (ws (dX oS)).length q1)/\V.drew.cell? ⟨g7,3,none⟩=some (.int .i64 (dE oS))):=⟨BD.o.1.cell 0 _ rfl,BD.o.1.cell 1 _ rfl,BD.o.1.cell 2 _ rfl,BD.o.1.cell 3 _ rfl⟩;go_wp2_with fail;clear s0 B4
         go_region_held3 (fun w'=>w'.cell? ⟨g7,0,none⟩=some (.slice (some ⟨gA,0,none⟩) m m)/\w'.cell? ⟨g7,1,none⟩=some (.bool (dN oS))/\w'.cell? ⟨g7,2,none⟩=some (.slice p1 (ws (dX oS)).length q1)/\w'.cell? ⟨g7,3,none⟩=some (.int .i64 (dE oS))) (with_reducible exact kS.o) (first
          | (go_at_call 41
             with_reducible refine C1.o.mono ?_
             rintro r u3 ⟨hd,hb⟩;obtain⟨a3,c3,rfl,eu⟩:=hd.aD;have BD:=bO (BD.o.1.below hb BD.o.1.lt) (BD.o.2.trans (hb.mono BD.o.2.size)) eu;have kS:=ak (jm hb kS.o);have C2:=hid (qE.o u3 (HT.o.belows BD.o.2.1))
             clear hb hd eu C1)
          | (go_at_call 46
             with_reducible refine C2.o.mono ?_
             rintro r u4 ⟨hd,hb⟩;obtain⟨a4,c4,rfl,iD⟩:=hd.aD;have BE:=bO (BD.o.2.1.trans (hb.mono BD.o.2.1.size)) (BD.o.r2.below hb) iD;have kS:=ak (jm hb kS.o);have C3:=hid (HR.o u4 a3 a4 c3 c4 (HT.o.belows BE.o.1) BE.o.2.1 BE.o.r2)
             clear hb hd iD C2)
          | (go_at_call 53
             with_reducible refine C3.o.mono ?_
             rintro r u5 ⟨rfl,hb⟩;have BF:=ak (BE.o.1.trans (hb.mono BE.o.1.size));have kS:=ak (jm hb kS.o)
             clear hb C3))
         exact x6
theorem ZF(xs:List Nat)(a:Option Addr)(n c:Nat)(less mode pa pb:Int)(w:World)(hn:n=xs.length)(hF:Fs w.heap.size w a xs)(hW:j4 xs)(hT:dH w)(hl:n<=35184372088832)(z:Nat×Int)(hz:qa mr xs less mode pa pb=z) :
 At 19 #[.slice a n c,.int .i64 less,.int .i64 mode,.agg #[.int .i64 pa,.int .i64 pb]] w (.tuple #[.float .f64 z.1,.int .i64 z.2]):=by
 obtain⟨W,jV⟩:=af (w.alloc (Obj.cells #[.int .i64 pa,.int .i64 pb] 26))
 have B0:Aside (Bl W w.heap.size 26 [.int .i64 pa,.int .i64 pb]/\An w W):=by
  exact xr
 have C:=hid (G8 xs a n c less mode pa pb W hn ((hF.below B0.o.2).mono B0.o.2.size) hW (hT.belows B0.o.2) hl z hz);have jB:=ak jV;obtain⟨X,E⟩:=z;clear jV hn hF hW hT hl hz;simp only at C |-;go_enter Tryz.func19,Tryz.ntmps19
 go_upto_region 1 with fail
 rw[<-jB.o];clear jB;have p0:=B0.o.1.cell 0 _ rfl;have p1:=B0.o.1.cell 1 _ rfl;go_wp2_with fail;refine C.o.mono ?_;rintro r v ⟨rfl,hb⟩;have B1:=ak (B0.o.2.trans (hb.mono B0.o.2.size));clear hb C p0 p1;go_wp2;exact aC (v:=.tuple #[.float .f64 X,.int .i64 E]) (by simp[results,Tryz.results19,go_sem]) rfl ⟨rfl,B1.o⟩
end
section
open Go Go.RowKit J
theorem aU {P:Program}{ops:Array Oper}{Q:Exit->Act->World->Prop}{md:Region.Mode}{S:World->Prop}{stop i j:Nat}{oi oj:Oper}{fuel:Nat}{listed:Array Bool}{a:Act}{w:World}(hr:Region.ready md ops listed=[i,j]) (ei:ops[i]?=some oi) (ej:ops[j]?=some oj)
 (hi:∀ K':Act->World->Prop,Shut (∀ b u,(i<stop->S u)->eZ P md ops Q S stop fuel (listed.setIfInBounds i true) b u->K' b u)->if Region.wanted oi (yielded ops a.tmps)=true then Oper.wp P oi a w K' Q else K' (a.put oi.dst undef) w)
 (hj:∀ K':Act->World->Prop,Shut (∀ b u,(j<stop->S u)->eZ P md ops Q S stop fuel (listed.setIfInBounds j true) b u->K' b u)->if Region.wanted oj (yielded ops a.tmps)=true then Oper.wp P oj a w K' Q else K' (a.put oj.dst undef) w) :
 eZ P md ops Q S stop (fuel+1) listed a w :=
 ⟨fun h0=>(by rw[hr] at h0;cases h0),fun q hq=>by
  rw[hr] at hq;simp only[List.mem_cons,List.not_mem_nil,or_false] at hq;rcases hq with rfl|rfl
  · exact wpOp_step ei (fun K' hK=>hi K' (fun b u h1 h2=>hK b u ⟨h1,h2⟩))
  · exact wpOp_step ej (fun K' hK=>hj K' (fun b u h1 h2=>hK b u ⟨h1,h2⟩))⟩
theorem qo {P:Program}{ops:Array Oper}{Q:Exit->Act->World->Prop}{md:Region.Mode}{S:World->Prop}{stop i j k:Nat}{oi oj ok:Oper}{fuel:Nat}{listed:Array Bool}{a:Act}{w:World}(hr:Region.ready md ops listed=[i,j,k]) (ei:ops[i]?=some oi) (ej:ops[j]?=some oj) (ek:ops[k]?=some ok)
 (hi:∀ K':Act->World->Prop,Shut (∀ b u,(i<stop->S u)->eZ P md ops Q S stop fuel (listed.setIfInBounds i true) b u->K' b u)->if Region.wanted oi (yielded ops a.tmps)=true then Oper.wp P oi a w K' Q else K' (a.put oi.dst undef) w)
 (hj:∀ K':Act->World->Prop,Shut (∀ b u,(j<stop->S u)->eZ P md ops Q S stop fuel (listed.setIfInBounds j true) b u->K' b u)->if Region.wanted oj (yielded ops a.tmps)=true then Oper.wp P oj a w K' Q else K' (a.put oj.dst undef) w)
 (hk:∀ K':Act->World->Prop,Shut (∀ b u,(k<stop->S u)->eZ P md ops Q S stop fuel (listed.setIfInBounds k true) b u->K' b u)->if Region.wanted ok (yielded ops a.tmps)=true then Oper.wp P ok a w K' Q else K' (a.put ok.dst undef) w) :
 eZ P md ops Q S stop (fuel+1) listed a w :=
 ⟨fun h0=>(by rw[hr] at h0;cases h0),fun q hq=>by
  rw[hr] at hq;simp only[List.mem_cons,List.not_mem_nil,or_false] at hq;rcases hq with rfl|rfl|rfl
  · exact wpOp_step ei (fun K' hK=>hi K' (fun b u h1 h2=>hK b u ⟨h1,h2⟩))
  · exact wpOp_step ej (fun K' hK=>hj K' (fun b u h1 h2=>hK b u ⟨h1,h2⟩))
  · exact wpOp_step ek (fun K' hK=>hk K' (fun b u h1 h2=>hK b u ⟨h1,h2⟩))⟩
end
end Go.Proofs.YteginbngplldaaaGreatDoor
