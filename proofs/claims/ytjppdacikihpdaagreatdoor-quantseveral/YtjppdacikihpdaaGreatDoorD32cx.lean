import Derived.Test.YtjppdacikihpdaaGreatDoorU1x
import Derived.Deep.Cut
import Derived.Deep.RegionHeld3
import Derived.Test.YtjppdacikihpdaaGreatDoorD19x
import Derived.Deep.RegionWith
import Derived.Deep.CutRange
import Derived.Test.YtjppdacikihpdaaGreatDoorBIeeex
import Derived.Test.YtjppdacikihpdaaGreatDoorD15x
import Derived.BigQuiet
import Derived.Laws.Bits64
import Derived.Laws.Bits64b
set_option linter.unusedVariables false
set_option linter.unusedSimpArgs false
set_option maxHeartbeats 16000000
set_option maxRecDepth 20000
namespace Go.Proofs.YtjppdacikihpdaaGreatDoor
namespace J
end J
section
open Go.RowKit
theorem Td {w:World}{a b:Option Addr}{l c k d:Nat}(n m:Bool) (e f:Int) (n1 m1:Bool) (X Y:Nat) (e1 f1:Int) (lX:(ws X).length<=8192) (lY:(ws Y).length<=8192) (hX:((((ws X).length:Nat):Int)==0)=false) (hY:((((ws Y).length:Nat):Int)==0)=false) (Ot:-1048576<=e1) (Ou:e1<=1048576) (Ov:-1048576<=f1) (Ow:f1<=1048576) (g:Int) (hg:min e1 f1=g) (bg0:-1048576<=g) (bg1:g<=1048576) (P Q:Nat) (lP:(ws P).length<=1000000) (lQ:(ws Q).length<=1000000) (h5:(ws P).length<=8192) (h6:(ws Q).length<=8192) (hs:(n1==m1)=true) (L:Nat) (lL:(ws L).length<=1000000) (dn:Bool) (V:Nat) (de er:Int) (lV:(ws V).length<=8192)
 (jN:Hid (∀u,An w u->As 108 #[.agg #[.bool n,.slice a l c,.int .i64 e]] u λr w'=>(∃v,r=.returned (.tuple #[.agg #[.bool n1,v,.int .i64 e1],.bool true])/\Nt u.heap.size w' v X)/\An u w'))
 (kr:Hid (∀u,An w u->As 108 #[.agg #[.bool m,.slice b k d,.int .i64 f]] u λr w'=>(∃v,r=.returned (.tuple #[.agg #[.bool m1,v,.int .i64 f1],.bool true])/\Nt u.heap.size w' v Y)/\An u w'))
 (HP:Hid (∀(u:World) (v:Value),An w u->Nt (w.heap.size+3) u v X->As 113 #[v,.int .i64 (e1-g)] u λr w'=>∃v,r=.returned v/\Nt u.heap.size w' v P/\An u w'))
 (HQ:Hid (∀(u:World) (v:Value),An w u->Nt (w.heap.size+3) u v Y->As 113 #[v,.int .i64 (f1-g)] u λr w'=>∃v,r=.returned v/\Nt u.heap.size w' v Q/\An u w'))
 (HT:Hid (∀(u:World) (p q:Option Addr) (s t:Nat),An w u->Arg u p (ws P).length s (ws P)->Arg u q (ws Q).length t (ws Q)->As 114 #[.slice p (ws P).length s,.slice q (ws Q).length t] u λr w'=>∃v,r=.returned v/\Nt u.heap.size w' v L/\An u w'))
 (HL:Hid (∀(u:World) (p:Option Addr) (s:Nat),An w u->Arg u p (ws L).length s (ws L)->As 109 #[.bool n1,.slice p (ws L).length s,.int .i64 g] u λr w'=>(∃v,r=.returned (.tuple #[.agg #[.bool dn,v,.int .i64 de],.int .i64 er])/\Nt u.heap.size w' v V)/\An u w')):As 70 #[.agg #[.bool n,.slice a l c,.int .i64 e],.agg #[.bool m,.slice b k d,.int .i64 f]] w λr w'=>(∃v,r=.returned (.tuple #[.agg #[.bool dn,v,.int .i64 de],.int .i64 er])/\Nt w.heap.size w' v V)/\An w w':=by
 obtain⟨W1,hW1⟩:=ah (((w.alloc (.cells #[.bool n,.slice a l c,.int .i64 e] 79)).alloc (.cells #[.bool m,.slice b k d,.int .i64 f] 79)).alloc (.cells zD3 79));obtain⟨hB,hz1,DA,DB,DR⟩:=aZ w n m (.slice a l c) (.slice b k d) e f W1 hW1;have H1:=hid (jN.o W1 hB);have SB:=(gy hB hz1 DA DB DR);clear hB hz1 DA DB DR jN;go_enter Tryz.func70,Tryz.ntmps70;go_wp2_with fail;rw[<-hW1];clear hW1;refine H1.o.mono ?_;rintro r u1 ⟨⟨v,rfl,hN⟩,hb⟩;obtain⟨a1,c1,rfl,_⟩:=hN.arg ae;obtain⟨hB,hz1,DA,DB,DR⟩:=SB.o;obtain⟨U1,aX⟩:=ah (u1.alloc (.cells #[.bool n1,.slice a1 (ws X).length c1,.int .i64 e1] 79));have hA:An u1 U1:=by rw[aX];exact af _ _
 have hs1:w.heap.size+3<=u1.heap.size:=by have:=hb.size;omega
 have hs2:u1.heap.size<U1.heap.size:=by rw[aX];simp
 have FB:=(DB.below hb).below hA;have FR:=(DR.below hb).below hA;have DX:Dk U1 u1.heap.size n1 (.slice a1 (ws X).length c1) e1:=by rw[aX];exact Dk.new _ _ _ _
 have NX:Nt (w.heap.size+3) U1 (.slice a1 (ws X).length c1) X:=(hN.mono ae).below hA;have BU:An w U1:=(hB.trans (hb.mono ae)).trans (hA.mono ae);have H2:=hid (kr.o U1 BU);obtain⟨y0,y1,y2,dY,dZ,eB⟩:=FB.facts;have S1:=(iN BU FR DX NX);clear hN hb H1 hB hz1 hA DA DB DR FB FR DX NX BU SB kr
 go_upto_region 2 with fail
 rw[<-aX];clear aX;go_wp2_with fail;clear y0 y1 y2 dY dZ eB;refine H2.o.mono ?_;rintro r u2 ⟨⟨v,rfl,hM⟩,hb⟩;obtain⟨a2,c2,rfl,_⟩:=hM.arg ae;obtain⟨BU,FR,DX,NX⟩:=S1.o;obtain⟨U2,dK⟩:=ah (u2.alloc (.cells #[.bool m1,.slice a2 (ws Y).length c2,.int .i64 f1] 79));have hA:An u2 U2:=by rw[dK];exact af _ _
 have hs3:U1.heap.size<=u2.heap.size:=hb.size;have hs4:u2.heap.size<U2.heap.size:=by rw[dK];simp
 have GR:=(FR.below hb).below hA;have GX:=(DX.below hb).below hA;have GY:Dk U2 u2.heap.size m1 (.slice a2 (ws Y).length c2) f1:=by rw[dK];exact Dk.new _ _ _ _
 have MX:=(NX.below hb).below hA;have MY:Nt (w.heap.size+3) U2 (.slice a2 (ws Y).length c2) Y:=(hM.mono ae).below hA;have BV:An w U2:=(BU.trans (hb.mono ae)).trans (hA.mono ae);have S2:=(kz BV GR GX GY MX MY);clear hM hb H2 hA FR DX NX BU GR GX GY MX MY BV S1
 go_upto_region 5 with fail
 rw[<-dK];clear dK;obtain⟨r0,r1,r2,gK,gL,gM⟩:=S2.o.2.1.facts;obtain⟨x0,x1,x2,fA,fB,fC⟩:=S2.o.r2.1.facts;obtain⟨y0,y1,y2,dY,dZ,eB⟩:=S2.o.r3.1.facts;have H3:=hid (HP.o U2 _ S2.o.1 S2.o.r4.1);clear HP;go_wp2_with fail;clear r0 r1 r2 gK gL gM x0 x1 x2 fA fB fC y0 y1 y2 dY dZ eB;refine H3.o.mono ?_;rintro r u5 ⟨v,rfl,hP,hb⟩;obtain⟨a5,c5,rfl,_⟩:=hP.arg ae;obtain⟨BV,GR,GX,GY,MX,MY⟩:=S2.o;have hs5:U2.heap.size<=u5.heap.size:=hb.size;have DN:An w u5:=BV.trans (hb.mono ae);have H4:=hid (HQ.o u5 _ DN (MY.below hb));have S5:=(kz DN (GR.below hb) (GX.below hb) (GY.below hb) (MX.below hb) (hP.mono (lo':=w.heap.size+3) ae));clear BV GR GX GY MX MY DN hP hb H3 S2 HQ;obtain⟨r0,r1,r2,gK,gL,gM⟩:=S5.o.2.1.facts;obtain⟨x0,x1,x2,fA,fB,fC⟩:=S5.o.r2.1.facts;obtain⟨y0,y1,y2,dY,dZ,eB⟩:=S5.o.r3.1.facts;go_wp2_with fail;clear r0 r1 r2 gK gL gM x0 x1 x2 fA fB fC y0 y1 y2 dY dZ eB;refine H4.o.mono ?_;rintro r u6 ⟨v,rfl,hQ,hb⟩;obtain⟨a6,c6,rfl,_⟩:=hQ.arg ae;obtain⟨BV,GR,GX,GY,MX,MP⟩:=S5.o;have hs6:u5.heap.size<=u6.heap.size:=hb.size;have S2:=(kz (BV.trans (hb.mono ae)) (GR.below hb) (GX.below hb) (GY.below hb) (MP.below hb) (hQ.mono (lo':=w.heap.size+3) ae));clear BV GR GX GY MX MP hQ hb H4 S5;obtain⟨r0,r1,r2,gK,gL,gM⟩:=S2.o.2.1.facts;obtain⟨x0,x1,x2,fA,fB,fC⟩:=S2.o.r2.1.facts;obtain⟨y0,y1,y2,dY,dZ,eB⟩:=S2.o.r3.1.facts;go_wp2_with fail;have ne1:u1.heap.size≠w.heap.size+1+1:=ae
 have ne2:u2.heap.size≠w.heap.size+1+1:=ae
 have ne3:w.heap.size+1+1≠u1.heap.size:=ae
 have ne4:w.heap.size+1+1≠u2.heap.size:=ae
 have T1:=hid (HT.o u6 a5 a6 c5 c6 S2.o.1 (S2.o.r4.1.bS ae).2 (S2.o.r5.bS ae).2);have T2:=hid (HT.o u6.drew a5 a6 c5 c6 (iG S2.o.1) (Arg.drew' (S2.o.r4.1.bS ae).2) (Arg.drew' (S2.o.r5.bS ae).2))
 go_region_held3 (λw'=>w'.cell? ⟨u1.heap.size,0,none⟩=some (.bool n1)/\w'.cell? ⟨u1.heap.size,1,none⟩=some (.slice a1 (ws X).length c1)/\w'.cell? ⟨u1.heap.size,2,none⟩=some (.int .i64 e1)/\w'.cell? ⟨u2.heap.size,0,none⟩=some (.bool m1)/\w'.cell? ⟨u2.heap.size,1,none⟩=some (.slice a2 (ws Y).length c2)/\w'.cell? ⟨u2.heap.size,2,none⟩=some (.int .i64 f1)) (go_keep) (first
  | (go_at_call 114
     first | with_reducible refine T1.o.mono ?_ | with_reducible refine T2.o.mono ?_
     rintro r u3 ⟨v,rfl,hN,hb⟩;obtain⟨a3,c3,rfl,_⟩:=hN.arg ae;have hb3:An u6 u3:=by first | exact hb | exact((aD _ u6).drew).trans (hb.mono (aA _))
     have HL3:=hid (HL.o u3 a3 c3 (S2.o.1.trans (hb3.mono ae)) (hN.bS ae).2);have KR:=S2.o.2.1.below hb3;have KX:=S2.o.r2.1.below hb3;have KY:=S2.o.r3.1.below hb3;obtain⟨p0,p1,p2,Sj,Sk,Sl⟩:=KR.facts;obtain⟨q0,q1,q2,Gc,Gd,Gf⟩:=KX.facts;obtain⟨s0,s1,s2,Bt,Bu,Bw⟩:=KY.facts;have hs9:u6.heap.size<=u3.heap.size:=hb3.size;have S9:=(iN (S2.o.1.trans (hb3.mono ae)) KR KX KY)
     clear hN hb hb3 KR KX KY)
  | (go_at_call 109
     with_reducible refine HL3.o.mono ?_
     rintro r u4 ⟨⟨v,rfl,hN⟩,hb⟩;obtain⟨a4,c4,rfl,_⟩:=hN.arg ae;have LR:=S9.o.2.1.below hb;obtain⟨t0,t1,t2,tf0,tf1,tf2⟩:=LR.facts;obtain⟨i0,i1,i2,if0,if1,if2⟩:=(S9.o.r2.1.below hb).facts;obtain⟨j0,j1,j2,jf0,jf1,jf2⟩:=(S9.o.r3.below hb).facts;have FV:=ak (show Fin w.heap.size (w.heap.size+3) w u4 (.slice a4 (ws V).length c4) V from⟨hN.mono ae,S9.o.1.trans (hb.mono ae),by have:=hb.size;omega⟩);have Qx:=ak LR
     clear hN hb LR))
 all_goals (
  go_wp2;refine aH (iW _ (w.heap.size+1+1) dn (.slice a4 (ws V).length c4) de er _ rfl rfl (Qx.o.set _ _ _)) rfl ?_;refine Fin.j4 (m:=w.heap.size+3) ?_ ae
  repeat (with_reducible first | exact FV.o | refine Fin.drew ?_ | refine Fin.alloc ?_ _ | refine Fin.set ?_ _ _ _ ae ae))
theorem Xc {w:World}{a b:Option Addr}{l c k d:Nat}(n m:Bool) (e f:Int) (n1 m1:Bool) (X Y:Nat) (e1 f1:Int) (lX:(ws X).length<=8192) (lY:(ws Y).length<=8192) (hX:((((ws X).length:Nat):Int)==0)=false) (hY:((((ws Y).length:Nat):Int)==0)=false) (Ot:-1048576<=e1) (Ou:e1<=1048576) (Ov:-1048576<=f1) (Ow:f1<=1048576) (g:Int) (hg:min e1 f1=g) (bg0:-1048576<=g) (bg1:g<=1048576) (P Q:Nat) (lP:(ws P).length<=1000000) (lQ:(ws Q).length<=1000000) (h5:(ws P).length<=8192) (h6:(ws Q).length<=8192) (hs:(n1==m1)=false) (z:Int) (hz:0<=z) (L:Nat) (lL:(ws L).length<=1000000) (dn:Bool) (V:Nat) (de er:Int) (lV:(ws V).length<=8192)
 (jN:Hid (∀u,An w u->As 108 #[.agg #[.bool n,.slice a l c,.int .i64 e]] u λr w'=>(∃v,r=.returned (.tuple #[.agg #[.bool n1,v,.int .i64 e1],.bool true])/\Nt u.heap.size w' v X)/\An u w'))
 (kr:Hid (∀u,An w u->As 108 #[.agg #[.bool m,.slice b k d,.int .i64 f]] u λr w'=>(∃v,r=.returned (.tuple #[.agg #[.bool m1,v,.int .i64 f1],.bool true])/\Nt u.heap.size w' v Y)/\An u w'))
 (HP:Hid (∀(u:World) (v:Value),An w u->Nt (w.heap.size+3) u v X->As 113 #[v,.int .i64 (e1-g)] u λr w'=>∃v,r=.returned v/\Nt u.heap.size w' v P/\An u w'))
 (HQ:Hid (∀(u:World) (v:Value),An w u->Nt (w.heap.size+3) u v Y->As 113 #[v,.int .i64 (f1-g)] u λr w'=>∃v,r=.returned v/\Nt u.heap.size w' v Q/\An u w'))
 (HC:Hid (∀(u:World) (p q:Option Addr) (s t:Nat),An w u->Arg u p (ws P).length s (ws P)->Arg u q (ws Q).length t (ws Q)->At 115 #[.slice p (ws P).length s,.slice q (ws Q).length t] u (.int .i64 z)))
 (HT:Hid (∀(u:World) (p q:Option Addr) (s t:Nat),An w u->Arg u p (ws P).length s (ws P)->Arg u q (ws Q).length t (ws Q)->As 116 #[.slice p (ws P).length s,.slice q (ws Q).length t] u λr w'=>∃v,r=.returned v/\Nt u.heap.size w' v L/\An u w'))
 (HL:Hid (∀(u:World) (p:Option Addr) (s:Nat),An w u->Arg u p (ws L).length s (ws L)->As 109 #[.bool n1,.slice p (ws L).length s,.int .i64 g] u λr w'=>(∃v,r=.returned (.tuple #[.agg #[.bool dn,v,.int .i64 de],.int .i64 er])/\Nt u.heap.size w' v V)/\An u w')):As 70 #[.agg #[.bool n,.slice a l c,.int .i64 e],.agg #[.bool m,.slice b k d,.int .i64 f]] w λr w'=>(∃v,r=.returned (.tuple #[.agg #[.bool dn,v,.int .i64 de],.int .i64 er])/\Nt w.heap.size w' v V)/\An w w':=by
 obtain⟨W1,hW1⟩:=ah (((w.alloc (.cells #[.bool n,.slice a l c,.int .i64 e] 79)).alloc (.cells #[.bool m,.slice b k d,.int .i64 f] 79)).alloc (.cells zD3 79));obtain⟨hB,hz1,DA,DB,DR⟩:=aZ w n m (.slice a l c) (.slice b k d) e f W1 hW1;have H1:=hid (jN.o W1 hB);have SB:=(gy hB hz1 DA DB DR);clear hB hz1 DA DB DR jN;go_enter Tryz.func70,Tryz.ntmps70;go_wp2_with fail;rw[<-hW1];clear hW1;refine H1.o.mono ?_;rintro r u1 ⟨⟨v,rfl,hN⟩,hb⟩;obtain⟨a1,c1,rfl,_⟩:=hN.arg ae;obtain⟨hB,hz1,DA,DB,DR⟩:=SB.o;obtain⟨U1,aX⟩:=ah (u1.alloc (.cells #[.bool n1,.slice a1 (ws X).length c1,.int .i64 e1] 79));have hA:An u1 U1:=by rw[aX];exact af _ _
 have hs1:w.heap.size+3<=u1.heap.size:=by have:=hb.size;omega
 have hs2:u1.heap.size<U1.heap.size:=by rw[aX];simp
 have FB:=(DB.below hb).below hA;have FR:=(DR.below hb).below hA;have DX:Dk U1 u1.heap.size n1 (.slice a1 (ws X).length c1) e1:=by rw[aX];exact Dk.new _ _ _ _
 have NX:Nt (w.heap.size+3) U1 (.slice a1 (ws X).length c1) X:=(hN.mono ae).below hA;have BU:An w U1:=(hB.trans (hb.mono ae)).trans (hA.mono ae);have H2:=hid (kr.o U1 BU);obtain⟨y0,y1,y2,dY,dZ,eB⟩:=FB.facts;have S1:=(iN BU FR DX NX);clear hN hb H1 hB hz1 hA DA DB DR FB FR DX NX BU SB kr
 go_upto_region 2 with fail
 rw[<-aX];clear aX;go_wp2_with fail;clear y0 y1 y2 dY dZ eB;refine H2.o.mono ?_;rintro r u2 ⟨⟨v,rfl,hM⟩,hb⟩;obtain⟨a2,c2,rfl,_⟩:=hM.arg ae;obtain⟨BU,FR,DX,NX⟩:=S1.o;obtain⟨U2,dK⟩:=ah (u2.alloc (.cells #[.bool m1,.slice a2 (ws Y).length c2,.int .i64 f1] 79));have hA:An u2 U2:=by rw[dK];exact af _ _
 have hs3:U1.heap.size<=u2.heap.size:=hb.size;have hs4:u2.heap.size<U2.heap.size:=by rw[dK];simp
 have GR:=(FR.below hb).below hA;have GX:=(DX.below hb).below hA;have GY:Dk U2 u2.heap.size m1 (.slice a2 (ws Y).length c2) f1:=by rw[dK];exact Dk.new _ _ _ _
 have MX:=(NX.below hb).below hA;have MY:Nt (w.heap.size+3) U2 (.slice a2 (ws Y).length c2) Y:=(hM.mono ae).below hA;have BV:An w U2:=(BU.trans (hb.mono ae)).trans (hA.mono ae);have S2:=(kz BV GR GX GY MX MY);clear hM hb H2 hA FR DX NX BU GR GX GY MX MY BV S1
 go_upto_region 5 with fail
 rw[<-dK];clear dK;obtain⟨r0,r1,r2,gK,gL,gM⟩:=S2.o.2.1.facts;obtain⟨x0,x1,x2,fA,fB,fC⟩:=S2.o.r2.1.facts;obtain⟨y0,y1,y2,dY,dZ,eB⟩:=S2.o.r3.1.facts;have H3:=hid (HP.o U2 _ S2.o.1 S2.o.r4.1);clear HP;go_wp2_with fail;clear r0 r1 r2 gK gL gM x0 x1 x2 fA fB fC y0 y1 y2 dY dZ eB;refine H3.o.mono ?_;rintro r u5 ⟨v,rfl,hP,hb⟩;obtain⟨a5,c5,rfl,_⟩:=hP.arg ae;obtain⟨BV,GR,GX,GY,MX,MY⟩:=S2.o;have hs5:U2.heap.size<=u5.heap.size:=hb.size;have DN:An w u5:=BV.trans (hb.mono ae);have H4:=hid (HQ.o u5 _ DN (MY.below hb));have S5:=(kz DN (GR.below hb) (GX.below hb) (GY.below hb) (MX.below hb) (hP.mono (lo':=w.heap.size+3) ae));clear BV GR GX GY MX MY DN hP hb H3 S2 HQ;obtain⟨r0,r1,r2,gK,gL,gM⟩:=S5.o.2.1.facts;obtain⟨x0,x1,x2,fA,fB,fC⟩:=S5.o.r2.1.facts;obtain⟨y0,y1,y2,dY,dZ,eB⟩:=S5.o.r3.1.facts;go_wp2_with fail;clear r0 r1 r2 gK gL gM x0 x1 x2 fA fB fC y0 y1 y2 dY dZ eB;refine H4.o.mono ?_;rintro r u6 ⟨v,rfl,hQ,hb⟩;obtain⟨a6,c6,rfl,_⟩:=hQ.arg ae;obtain⟨BV,GR,GX,GY,MX,MP⟩:=S5.o;have hs6:u5.heap.size<=u6.heap.size:=hb.size;have S2:=(kz (BV.trans (hb.mono ae)) (GR.below hb) (GX.below hb) (GY.below hb) (MP.below hb) (hQ.mono (lo':=w.heap.size+3) ae));clear BV GR GX GY MX MP hQ hb H4 S5;obtain⟨r0,r1,r2,gK,gL,gM⟩:=S2.o.2.1.facts;obtain⟨x0,x1,x2,fA,fB,fC⟩:=S2.o.r2.1.facts;obtain⟨y0,y1,y2,dY,dZ,eB⟩:=S2.o.r3.1.facts;have H7:=hid (HC.o u6 a5 a6 c5 c6 S2.o.1 (S2.o.r4.1.bS ae).2 (S2.o.r5.bS ae).2);clear HC;go_wp2_with fail;clear r0 r1 r2 gK gL gM x0 x1 x2 fA fB fC y0 y1 y2 dY dZ eB;refine H7.o.mono ?_;rintro r u7 ⟨rfl,hb⟩;obtain⟨BV,GR,GX,GY,MP,MQ⟩:=S2.o;have hs7:u6.heap.size<=u7.heap.size:=hb.size;have S2':=(kz (BV.trans (hb.mono ae)) (GR.below hb) (GX.below hb) (GY.below hb) (MP.below hb) (MQ.below hb));clear S2;have S2:=S2';clear BV GR GX GY MP MQ hb H7 S2';obtain⟨r0,r1,r2,gK,gL,gM⟩:=S2.o.2.1.facts;obtain⟨x0,x1,x2,fA,fB,fC⟩:=S2.o.r2.1.facts;obtain⟨y0,y1,y2,dY,dZ,eB⟩:=S2.o.r3.1.facts;go_wp2_with fail;have ne1:u1.heap.size≠w.heap.size+1+1:=ae
 have ne2:u2.heap.size≠w.heap.size+1+1:=ae
 have ne3:w.heap.size+1+1≠u1.heap.size:=ae
 have ne4:w.heap.size+1+1≠u2.heap.size:=ae
 have T1:=hid (HT.o u7 a5 a6 c5 c6 S2.o.1 (S2.o.r4.1.bS ae).2 (S2.o.r5.bS ae).2);have T2:=hid (HT.o u7.drew a5 a6 c5 c6 (iG S2.o.1) (Arg.drew' (S2.o.r4.1.bS ae).2) (Arg.drew' (S2.o.r5.bS ae).2))
 go_region_held3 (λw'=>w'.cell? ⟨u1.heap.size,0,none⟩=some (.bool n1)/\w'.cell? ⟨u1.heap.size,1,none⟩=some (.slice a1 (ws X).length c1)/\w'.cell? ⟨u1.heap.size,2,none⟩=some (.int .i64 e1)/\w'.cell? ⟨u2.heap.size,0,none⟩=some (.bool m1)/\w'.cell? ⟨u2.heap.size,1,none⟩=some (.slice a2 (ws Y).length c2)/\w'.cell? ⟨u2.heap.size,2,none⟩=some (.int .i64 f1)) (go_keep) (first
  | (go_at_call 116
     first | with_reducible refine T1.o.mono ?_ | with_reducible refine T2.o.mono ?_
     rintro r u3 ⟨v,rfl,hN,hb⟩;obtain⟨a3,c3,rfl,_⟩:=hN.arg ae;have hb3:An u7 u3:=by first | exact hb | exact((aD _ u7).drew).trans (hb.mono (aA _))
     have HL3:=hid (HL.o u3 a3 c3 (S2.o.1.trans (hb3.mono ae)) (hN.bS ae).2);have KR:=S2.o.2.1.below hb3;have KX:=S2.o.r2.1.below hb3;have KY:=S2.o.r3.1.below hb3;obtain⟨p0,p1,p2,Sj,Sk,Sl⟩:=KR.facts;obtain⟨q0,q1,q2,Gc,Gd,Gf⟩:=KX.facts;obtain⟨s0,s1,s2,Bt,Bu,Bw⟩:=KY.facts;have hs9:u7.heap.size<=u3.heap.size:=hb3.size;have S9:=(iN (S2.o.1.trans (hb3.mono ae)) KR KX KY)
     clear hN hb hb3 KR KX KY)
  | (go_at_call 109
     with_reducible refine HL3.o.mono ?_
     rintro r u4 ⟨⟨v,rfl,hN⟩,hb⟩;obtain⟨a4,c4,rfl,_⟩:=hN.arg ae;have LR:=S9.o.2.1.below hb;obtain⟨t0,t1,t2,tf0,tf1,tf2⟩:=LR.facts;obtain⟨i0,i1,i2,if0,if1,if2⟩:=(S9.o.r2.1.below hb).facts;obtain⟨j0,j1,j2,jf0,jf1,jf2⟩:=(S9.o.r3.below hb).facts;have FV:=ak (show Fin w.heap.size (w.heap.size+3) w u4 (.slice a4 (ws V).length c4) V from⟨hN.mono ae,S9.o.1.trans (hb.mono ae),by have:=hb.size;omega⟩);have Qx:=ak LR
     clear hN hb LR))
 all_goals (
  go_wp2;refine aH (iW _ (w.heap.size+1+1) dn (.slice a4 (ws V).length c4) de er _ rfl rfl (Qx.o.set _ _ _)) rfl ?_;refine Fin.j4 (m:=w.heap.size+3) ?_ ae
  repeat (with_reducible first | exact FV.o | refine Fin.drew ?_ | refine Fin.alloc ?_ _ | refine Fin.set ?_ _ _ _ ae ae))
theorem Xd {w:World}{a b:Option Addr}{l c k d:Nat}(n m:Bool) (e f:Int) (n1 m1:Bool) (X Y:Nat) (e1 f1:Int) (lX:(ws X).length<=8192) (lY:(ws Y).length<=8192) (hX:((((ws X).length:Nat):Int)==0)=false) (hY:((((ws Y).length:Nat):Int)==0)=false) (Ot:-1048576<=e1) (Ou:e1<=1048576) (Ov:-1048576<=f1) (Ow:f1<=1048576) (g:Int) (hg:min e1 f1=g) (bg0:-1048576<=g) (bg1:g<=1048576) (P Q:Nat) (lP:(ws P).length<=1000000) (lQ:(ws Q).length<=1000000) (h5:(ws P).length<=8192) (h6:(ws Q).length<=8192) (hs:(n1==m1)=false) (z:Int) (hz:z<0) (L:Nat) (lL:(ws L).length<=1000000) (dn:Bool) (V:Nat) (de er:Int) (lV:(ws V).length<=8192)
 (jN:Hid (∀u,An w u->As 108 #[.agg #[.bool n,.slice a l c,.int .i64 e]] u λr w'=>(∃v,r=.returned (.tuple #[.agg #[.bool n1,v,.int .i64 e1],.bool true])/\Nt u.heap.size w' v X)/\An u w'))
 (kr:Hid (∀u,An w u->As 108 #[.agg #[.bool m,.slice b k d,.int .i64 f]] u λr w'=>(∃v,r=.returned (.tuple #[.agg #[.bool m1,v,.int .i64 f1],.bool true])/\Nt u.heap.size w' v Y)/\An u w'))
 (HP:Hid (∀(u:World) (v:Value),An w u->Nt (w.heap.size+3) u v X->As 113 #[v,.int .i64 (e1-g)] u λr w'=>∃v,r=.returned v/\Nt u.heap.size w' v P/\An u w'))
 (HQ:Hid (∀(u:World) (v:Value),An w u->Nt (w.heap.size+3) u v Y->As 113 #[v,.int .i64 (f1-g)] u λr w'=>∃v,r=.returned v/\Nt u.heap.size w' v Q/\An u w'))
 (HC:Hid (∀(u:World) (p q:Option Addr) (s t:Nat),An w u->Arg u p (ws P).length s (ws P)->Arg u q (ws Q).length t (ws Q)->At 115 #[.slice p (ws P).length s,.slice q (ws Q).length t] u (.int .i64 z)))
 (HT:Hid (∀(u:World) (p q:Option Addr) (s t:Nat),An w u->Arg u p (ws Q).length s (ws Q)->Arg u q (ws P).length t (ws P)->As 116 #[.slice p (ws Q).length s,.slice q (ws P).length t] u λr w'=>∃v,r=.returned v/\Nt u.heap.size w' v L/\An u w'))
 (HL:Hid (∀(u:World) (p:Option Addr) (s:Nat),An w u->Arg u p (ws L).length s (ws L)->As 109 #[.bool m1,.slice p (ws L).length s,.int .i64 g] u λr w'=>(∃v,r=.returned (.tuple #[.agg #[.bool dn,v,.int .i64 de],.int .i64 er])/\Nt u.heap.size w' v V)/\An u w')):As 70 #[.agg #[.bool n,.slice a l c,.int .i64 e],.agg #[.bool m,.slice b k d,.int .i64 f]] w λr w'=>(∃v,r=.returned (.tuple #[.agg #[.bool dn,v,.int .i64 de],.int .i64 er])/\Nt w.heap.size w' v V)/\An w w':=by
 obtain⟨W1,hW1⟩:=ah (((w.alloc (.cells #[.bool n,.slice a l c,.int .i64 e] 79)).alloc (.cells #[.bool m,.slice b k d,.int .i64 f] 79)).alloc (.cells zD3 79));obtain⟨hB,hz1,DA,DB,DR⟩:=aZ w n m (.slice a l c) (.slice b k d) e f W1 hW1;have H1:=hid (jN.o W1 hB);have SB:=(gy hB hz1 DA DB DR);clear hB hz1 DA DB DR jN;go_enter Tryz.func70,Tryz.ntmps70;go_wp2_with fail;rw[<-hW1];clear hW1;refine H1.o.mono ?_;rintro r u1 ⟨⟨v,rfl,hN⟩,hb⟩;obtain⟨a1,c1,rfl,_⟩:=hN.arg ae;obtain⟨hB,hz1,DA,DB,DR⟩:=SB.o;obtain⟨U1,aX⟩:=ah (u1.alloc (.cells #[.bool n1,.slice a1 (ws X).length c1,.int .i64 e1] 79));have hA:An u1 U1:=by rw[aX];exact af _ _
 have hs1:w.heap.size+3<=u1.heap.size:=by have:=hb.size;omega
 have hs2:u1.heap.size<U1.heap.size:=by rw[aX];simp
 have FB:=(DB.below hb).below hA;have FR:=(DR.below hb).below hA;have DX:Dk U1 u1.heap.size n1 (.slice a1 (ws X).length c1) e1:=by rw[aX];exact Dk.new _ _ _ _
 have NX:Nt (w.heap.size+3) U1 (.slice a1 (ws X).length c1) X:=(hN.mono ae).below hA;have BU:An w U1:=(hB.trans (hb.mono ae)).trans (hA.mono ae);have H2:=hid (kr.o U1 BU);obtain⟨y0,y1,y2,dY,dZ,eB⟩:=FB.facts;have S1:=(iN BU FR DX NX);clear hN hb H1 hB hz1 hA DA DB DR FB FR DX NX BU SB kr
 go_upto_region 2 with fail
 rw[<-aX];clear aX;go_wp2_with fail;clear y0 y1 y2 dY dZ eB;refine H2.o.mono ?_;rintro r u2 ⟨⟨v,rfl,hM⟩,hb⟩;obtain⟨a2,c2,rfl,_⟩:=hM.arg ae;obtain⟨BU,FR,DX,NX⟩:=S1.o;obtain⟨U2,dK⟩:=ah (u2.alloc (.cells #[.bool m1,.slice a2 (ws Y).length c2,.int .i64 f1] 79));have hA:An u2 U2:=by rw[dK];exact af _ _
 have hs3:U1.heap.size<=u2.heap.size:=hb.size;have hs4:u2.heap.size<U2.heap.size:=by rw[dK];simp
 have GR:=(FR.below hb).below hA;have GX:=(DX.below hb).below hA;have GY:Dk U2 u2.heap.size m1 (.slice a2 (ws Y).length c2) f1:=by rw[dK];exact Dk.new _ _ _ _
 have MX:=(NX.below hb).below hA;have MY:Nt (w.heap.size+3) U2 (.slice a2 (ws Y).length c2) Y:=(hM.mono ae).below hA;have BV:An w U2:=(BU.trans (hb.mono ae)).trans (hA.mono ae);have S2:=(kz BV GR GX GY MX MY);clear hM hb H2 hA FR DX NX BU GR GX GY MX MY BV S1
 go_upto_region 5 with fail
 rw[<-dK];clear dK;obtain⟨r0,r1,r2,gK,gL,gM⟩:=S2.o.2.1.facts;obtain⟨x0,x1,x2,fA,fB,fC⟩:=S2.o.r2.1.facts;obtain⟨y0,y1,y2,dY,dZ,eB⟩:=S2.o.r3.1.facts;have H3:=hid (HP.o U2 _ S2.o.1 S2.o.r4.1);clear HP;go_wp2_with fail;clear r0 r1 r2 gK gL gM x0 x1 x2 fA fB fC y0 y1 y2 dY dZ eB;refine H3.o.mono ?_;rintro r u5 ⟨v,rfl,hP,hb⟩;obtain⟨a5,c5,rfl,_⟩:=hP.arg ae;obtain⟨BV,GR,GX,GY,MX,MY⟩:=S2.o;have hs5:U2.heap.size<=u5.heap.size:=hb.size;have DN:An w u5:=BV.trans (hb.mono ae);have H4:=hid (HQ.o u5 _ DN (MY.below hb));have S5:=(kz DN (GR.below hb) (GX.below hb) (GY.below hb) (MX.below hb) (hP.mono (lo':=w.heap.size+3) ae));clear BV GR GX GY MX MY DN hP hb H3 S2 HQ;obtain⟨r0,r1,r2,gK,gL,gM⟩:=S5.o.2.1.facts;obtain⟨x0,x1,x2,fA,fB,fC⟩:=S5.o.r2.1.facts;obtain⟨y0,y1,y2,dY,dZ,eB⟩:=S5.o.r3.1.facts;go_wp2_with fail;clear r0 r1 r2 gK gL gM x0 x1 x2 fA fB fC y0 y1 y2 dY dZ eB;refine H4.o.mono ?_;rintro r u6 ⟨v,rfl,hQ,hb⟩;obtain⟨a6,c6,rfl,_⟩:=hQ.arg ae;obtain⟨BV,GR,GX,GY,MX,MP⟩:=S5.o;have hs6:u5.heap.size<=u6.heap.size:=hb.size;have S2:=(kz (BV.trans (hb.mono ae)) (GR.below hb) (GX.below hb) (GY.below hb) (MP.below hb) (hQ.mono (lo':=w.heap.size+3) ae));clear BV GR GX GY MX MP hQ hb H4 S5;obtain⟨r0,r1,r2,gK,gL,gM⟩:=S2.o.2.1.facts;obtain⟨x0,x1,x2,fA,fB,fC⟩:=S2.o.r2.1.facts;obtain⟨y0,y1,y2,dY,dZ,eB⟩:=S2.o.r3.1.facts;have H7:=hid (HC.o u6 a5 a6 c5 c6 S2.o.1 (S2.o.r4.1.bS ae).2 (S2.o.r5.bS ae).2);clear HC;go_wp2_with fail;clear r0 r1 r2 gK gL gM x0 x1 x2 fA fB fC y0 y1 y2 dY dZ eB;refine H7.o.mono ?_;rintro r u7 ⟨rfl,hb⟩;obtain⟨BV,GR,GX,GY,MP,MQ⟩:=S2.o;have hs7:u6.heap.size<=u7.heap.size:=hb.size;have S2':=(kz (BV.trans (hb.mono ae)) (GR.below hb) (GX.below hb) (GY.below hb) (MP.below hb) (MQ.below hb));clear S2;have S2:=S2';clear BV GR GX GY MP MQ hb H7 S2';obtain⟨r0,r1,r2,gK,gL,gM⟩:=S2.o.2.1.facts;obtain⟨x0,x1,x2,fA,fB,fC⟩:=S2.o.r2.1.facts;obtain⟨y0,y1,y2,dY,dZ,eB⟩:=S2.o.r3.1.facts;go_wp2_with fail;have ne1:u1.heap.size≠w.heap.size+1+1:=ae
 have ne2:u2.heap.size≠w.heap.size+1+1:=ae
 have ne3:w.heap.size+1+1≠u1.heap.size:=ae
 have ne4:w.heap.size+1+1≠u2.heap.size:=ae
 have T1:=hid (HT.o u7 a6 a5 c6 c5 S2.o.1 (S2.o.r5.bS ae).2 (S2.o.r4.1.bS ae).2);have T2:=hid (HT.o u7.drew a6 a5 c6 c5 (iG S2.o.1) (Arg.drew' (S2.o.r5.bS ae).2) (Arg.drew' (S2.o.r4.1.bS ae).2))
 go_region_held3 (λw'=>w'.cell? ⟨u1.heap.size,0,none⟩=some (.bool n1)/\w'.cell? ⟨u1.heap.size,1,none⟩=some (.slice a1 (ws X).length c1)/\w'.cell? ⟨u1.heap.size,2,none⟩=some (.int .i64 e1)/\w'.cell? ⟨u2.heap.size,0,none⟩=some (.bool m1)/\w'.cell? ⟨u2.heap.size,1,none⟩=some (.slice a2 (ws Y).length c2)/\w'.cell? ⟨u2.heap.size,2,none⟩=some (.int .i64 f1)) (go_keep) (first
  | (go_at_call 116
     first | with_reducible refine T1.o.mono ?_ | with_reducible refine T2.o.mono ?_
     rintro r u3 ⟨v,rfl,hN,hb⟩;obtain⟨a3,c3,rfl,_⟩:=hN.arg ae;have hb3:An u7 u3:=by first | exact hb | exact((aD _ u7).drew).trans (hb.mono (aA _))
     have HL3:=hid (HL.o u3 a3 c3 (S2.o.1.trans (hb3.mono ae)) (hN.bS ae).2);have KR:=S2.o.2.1.below hb3;have KX:=S2.o.r2.1.below hb3;have KY:=S2.o.r3.1.below hb3;obtain⟨p0,p1,p2,Sj,Sk,Sl⟩:=KR.facts;obtain⟨q0,q1,q2,Gc,Gd,Gf⟩:=KX.facts;obtain⟨s0,s1,s2,Bt,Bu,Bw⟩:=KY.facts;have hs9:u7.heap.size<=u3.heap.size:=hb3.size;have S9:=(iN (S2.o.1.trans (hb3.mono ae)) KR KX KY)
     clear hN hb hb3 KR KX KY)
  | (go_at_call 109
     with_reducible refine HL3.o.mono ?_
     rintro r u4 ⟨⟨v,rfl,hN⟩,hb⟩;obtain⟨a4,c4,rfl,_⟩:=hN.arg ae;have LR:=S9.o.2.1.below hb;obtain⟨t0,t1,t2,tf0,tf1,tf2⟩:=LR.facts;obtain⟨i0,i1,i2,if0,if1,if2⟩:=(S9.o.r2.1.below hb).facts;obtain⟨j0,j1,j2,jf0,jf1,jf2⟩:=(S9.o.r3.below hb).facts;have FV:=ak (show Fin w.heap.size (w.heap.size+3) w u4 (.slice a4 (ws V).length c4) V from⟨hN.mono ae,S9.o.1.trans (hb.mono ae),by have:=hb.size;omega⟩);have Qx:=ak LR
     clear hN hb LR))
 all_goals (
  go_wp2;refine aH (iW _ (w.heap.size+1+1) dn (.slice a4 (ws V).length c4) de er _ rfl rfl (Qx.o.set _ _ _)) rfl ?_;refine Fin.j4 (m:=w.heap.size+3) ?_ ae
  repeat (with_reducible first | exact FV.o | refine Fin.drew ?_ | refine Fin.alloc ?_ _ | refine Fin.set ?_ _ _ _ ae ae))
theorem mkS_z2(n m:Bool)(e f:Int):mkS n 0 e=mkS m 0 f:=by unfold mkS;rw[if_pos rfl,if_pos rfl]
theorem Xe{n m:Bool}(h:¬ n=m):m=(!n)/\n=(!m)/\¬ m=n:=by
 cases n <;> cases m <;> first | exact absurd rfl h | exact⟨rfl,rfl,λh=>by cases h⟩
theorem Qbr{P:Prop}(h:P:=by
 by_cases hs:n1=m1
 . rw[if_pos hs,if_pos hs]
 . rw[if_neg hs,if_neg hs,<-(Xe hs).1]):P:=h
theorem BC{w:World}{a b:Option Addr}{l c k d:Nat}{xs ys:List Nat}(h1:Arg w a l c xs)(h2:Arg w b k d ys)(hl:l<=2000000)(hk:k<=2000000)(n m:Bool)(e f:Int)(he0:-9223372036854775808<=e)(he1:e<=9223372036854775807)(hf0:-9223372036854775808<=f)(hf1:f<=9223372036854775807) :
 As 70 #[.agg #[.bool n,.slice a l c,.int .i64 e],.agg #[.bool m,.slice b k d,.int .i64 f]] w λr w'=>dm w.heap.size w' r (qa (mkS n (val xs) e) (mkS m (val ys) f))/\An w w':=by
 have zero:∀{r:Ending} {w':World},(r=.returned (.tuple #[.agg zD3,.int .i64 2])/\An w w')->dm w.heap.size w' r none/\An w w':=λ⟨h1,h2⟩=>⟨⟨_,h1,Nt.nil _ _⟩,h2⟩;have M1:=hid λu (hu:An w u)=>nE (h1.below hu) hl n e he0 he1;have M2:=hid λu (hu:An w u)=>nE (h2.below hu) hk m f hf0 hf1;have z0:(ws 0).length<=8192:=by rw[cB];exact lD _
 cases hx:mkS n (val xs) e with
 | none =>
   cases hy:mkS m (val ys) f with
   | none =>
     rw[hx] at M1;rw[hy] at M2;exact(WX n m e f false false 0 0 0 0 z0 z0 M1 M2).mono λr w' h=>zero h
   | some y =>
     obtain⟨m1,Y,f1⟩:=y;rw[hx] at M1;rw[hy] at M2;exact(WY n m e f false m1 0 Y 0 f1 z0 (fw (cO hy)) M1 M2).mono λr w' h=>zero h
 | some x =>
   obtain⟨n1,X,e1⟩:=x
   cases hy:mkS m (val ys) f with
   | none =>
     rw[hx] at M1;rw[hy] at M2;exact(WZ n m e f n1 false X 0 e1 0 (fw (cO hx)) z0 M1 M2).mono λr w' h=>zero h
   | some y =>
     obtain⟨m1,Y,f1⟩:=y;rw[hx] at M1;rw[hy] at M2;have FX:=cO hx;have FY:=cO hy;have lX:=fw FX;have lY:=fw FY;have:=FX.up;have:=FX.down;have:=FY.up;have:=FY.down;show Calls _ _ _ _ λr w'=>dm w.heap.size w' r (uf (n1,X,e1) (m1,Y,f1))/\_;unfold uf;simp only
     by_cases hX0:X=0
     . rw[if_pos hX0];exact O0 n m e f n1 m1 X Y e1 f1 lX lY ((bT X).2 hX0) M1 M2
     . rw[if_neg hX0]
       by_cases hY0:Y=0
       . rw[if_pos hY0];exact JJ n m e f n1 m1 X Y e1 f1 lX lY (dD hX0) ((bT Y).2 hY0) M1 M2
       . rw[if_neg hY0];obtain⟨g,hg⟩:∃g,min e1 f1=g:=⟨_,rfl⟩;have hg2:g=f1/\f1<e1\/g=e1/\e1<=f1:=ae
         have up:∀(d:Int) (Z:Nat),0<=d->(if d<0 then Z/2^(-d).toNat else Z*2^d.toNat)=Z*2^d.toNat:=λd Z h=>if_neg ae;obtain⟨P,hP⟩:∃P,X*2^(e1-g).toNat=P:=⟨_,rfl⟩;obtain⟨Q,hQ⟩:∃Q,Y*2^(f1-g).toNat=Q:=⟨_,rfl⟩
         have HP:Hid (∀(u:World) (v:Value),An w u->Nt (w.heap.size+3) u v X->As 113 #[v,.int .i64 (e1-g)] u λr w'=>∃v,r=.returned v/\Nt u.heap.size w' v P/\An u w'):=λu v hu hN=>by
          have:=qH hN (e1-g) ae ae hX0 ae;rw[up _ _ ae,hP] at this;exact this
         have HQ:Hid (∀(u:World) (v:Value),An w u->Nt (w.heap.size+3) u v Y->As 113 #[v,.int .i64 (f1-g)] u λr w'=>∃v,r=.returned v/\Nt u.heap.size w' v Q/\An u w'):=λu v hu hN=>by
          have:=qH hN (f1-g) ae ae hY0 ae;rw[up _ _ ae,hQ] at this;exact this
         have bP:bl P=bl X+(e1-g).toNat:=by rw[<-hP];exact Gg _ _ hX0
         have bQ:bl Q=bl Y+(f1-g).toNat:=by rw[<-hQ];exact Gg _ _ hY0
         have s1:=FX.size;have s2:=FY.size;have wP:=ic P;have wQ:=ic Q
         have kind:(if e1<f1 then j6 m1 Y f1 n1 X e1 else j6 n1 X e1 m1 Y f1)=(if 8192<(ws P).length\/8192<(ws Q).length then none else if n1=m1 then mkS n1 (P+Q) g else if Q<=P then mkS n1 (P-Q) g else mkS m1 (Q-P) g):=by
          rcases hg2 with ⟨rfl,h⟩|⟨rfl,h⟩
          . rw[if_neg ae];rw[Int.sub_self,show(0:Int).toNat=0 from rfl,fO,eQ] at hQ;subst hQ;unfold j6;rw[hP]
            by_cases hL:262144<bl X+(e1-g).toNat
            . rw[if_pos hL,if_pos (.inl ae)]
            . rw[if_neg hL,if_neg (show ¬ (8192<(ws P).length\/8192<(ws Y).length) by omega)]
              exact Qbr
          . rw[Int.sub_self,show(0:Int).toNat=0 from rfl,fO,eQ] at hP;subst hP
            by_cases he:g<f1
            . rw[if_pos he];unfold j6;rw[hQ]
              by_cases hL:262144<bl Y+(f1-g).toNat
              . rw[if_pos hL,if_pos (.inr ae)]
              . rw[if_neg hL,if_neg (show ¬ (8192<(ws X).length\/8192<(ws Q).length) by omega)]
                by_cases hs:m1=n1
                . rw[if_pos hs,if_pos hs.symm,hs,oV]
                . rw[if_neg hs,if_neg (Xe hs).2.2,<-(Xe hs).1];rcases ni X Q with q|q|q
                  . rw[if_pos (show X<=Q by omega),if_neg (show ¬ Q<=X by omega)]
                  . rw[q];simp only[aA,if_true,wE];exact mkS_z2 _ _ _ _
                  . rw[if_neg (show ¬ X<=Q by omega),if_pos (show Q<=X by omega)]
            . obtain rfl:g=f1:=ae
              rw[if_neg he];rw[Int.sub_self,show(0:Int).toNat=0 from rfl,fO,eQ] at hQ;subst hQ;unfold j6;rw[Int.sub_self,show(0:Int).toNat=0 from rfl,fO,eQ,if_neg (show ¬ 262144<bl X+0 by omega),if_neg (show ¬ (8192<(ws X).length\/8192<(ws Y).length) by omega)]
              exact Qbr
         rw[kind];clear kind;have cmpz:∀u p q s t,Arg u p (ws P).length s (ws P)->Arg u q (ws Q).length t (ws Q)->At 115 #[.slice p (ws P).length s,.slice q (ws Q).length t] u (.int .i64 (bI P Q)):=λu p q s t hA hB=>jZ hA hB (bI P Q) (by rw[aB,aB])
         by_cases c1:8192<(ws P).length
         . rw[if_pos (.inl c1)];exact(Xa n m e f n1 m1 X Y e1 f1 lX lY (dD hX0) (dD hY0) ae ae ae ae g hg ae ae P Q ae ae c1 M1 M2 HP HQ).mono λr w' h=>zero h
         . by_cases c2:8192<(ws Q).length
           . rw[if_pos (.inr c2)];exact(Xb n m e f n1 m1 X Y e1 f1 lX lY (dD hX0) (dD hY0) ae ae ae ae g hg ae ae P Q ae ae ae c2 M1 M2 HP HQ).mono λr w' h=>zero h
           . rw[if_neg ae]
             by_cases hs:n1=m1
             . rw[if_pos hs]
               have lL:(ws (P+Q)).length<=8193:=by
                have h1:P<pw 8192:=(aS _ _).1 ae;have h2:Q<pw 8192:=(aS _ _).1 ae;exact(aS _ _).2 (Ng h1 h2)
               exact Td n m e f n1 m1 X Y e1 f1 lX lY (dD hX0) (dD hY0) ae ae ae ae g hg ae ae P Q ae ae ae ae (by simp[hs]) (P+Q) ae _ _ _ _ (aR n1 (P+Q) g) M1 M2 HP HQ
                (hid λu p q s t hu hA hB=>Bh hA hB ae ae (by rw[aB,aB]))
                (hid λu p s hu hA=>by have:=qJ hA ae n1 g ae ae;rw[aB] at this;exact this)
             . rw[if_neg hs]
               by_cases hq:Q<=P
               . rw[if_pos hq];have lL:(ws (P-Q)).length<=8192:=(aS _ _).2 (iC (Nat.sub_le _ _) ((aS P 8192).1 ae));have hz:0<=bI P Q:=by unfold bI;rw[if_neg ae];split <;> omega
                 exact Xc n m e f n1 m1 X Y e1 f1 lX lY (dD hX0) (dD hY0) ae ae ae ae g hg ae ae P Q ae ae ae ae (by simp[hs]) (bI P Q) hz (P-Q) ae _ _ _ _ (aR n1 (P-Q) g) M1 M2 HP HQ
                  (hid λu p q s t hu hA hB=>cmpz u p q s t hA hB)
                  (hid λu p q s t hu hA hB=>rW hA hB ae ae (by rw[aB,aB];omega))
                  (hid λu p s hu hA=>by have:=qJ hA ae n1 g ae ae;rw[aB] at this;exact this)
               . rw[if_neg hq];have lL:(ws (Q-P)).length<=8192:=(aS _ _).2 (iC (Nat.sub_le _ _) ((aS Q 8192).1 ae));have hz:bI P Q<0:=by unfold bI;rw[if_pos ae];omega
                 exact Xd n m e f n1 m1 X Y e1 f1 lX lY (dD hX0) (dD hY0) ae ae ae ae g hg ae ae P Q ae ae ae ae (by simp[hs]) (bI P Q) hz (Q-P) ae _ _ _ _ (aR m1 (Q-P) g) M1 M2 HP HQ
                  (hid λu p q s t hu hA hB=>cmpz u p q s t hA hB)
                  (hid λu p q s t hu hA hB=>rW hA hB ae ae (by rw[aB,aB];omega))
                  (hid λu p s hu hA=>by have:=qJ hA ae m1 g ae ae;rw[aB] at this;exact this)
def vz(X:Nat)(e:Int)(Y:Nat)(f:Int):Int:=if e<f then bI X (Y*2^(f-e).toNat) else bI (X*2^(e-f).toNat) Y
theorem zo(x y:Nat):-bI x y=bI y x:=by
 unfold bI;rcases ni x y with h|h|h
 . rw[if_pos h,if_neg ae,if_pos h];rfl
 . subst h;rw[if_neg ae,if_neg ae];rfl
 . rw[if_neg ae,if_pos h,if_pos h]
theorem Te(X:Nat)(e:Int)(Y:Nat)(f:Int):-vz X e Y f=vz Y f X e:=by
 unfold vz
 by_cases h:e<f
 . rw[if_pos h,if_neg ae,zo]
 . rw[if_neg h]
   by_cases h2:f<e
   . rw[if_pos h2,zo]
   . rw[if_neg h2,zo,show(e-f).toNat=0 by omega,show(f-e).toNat=0 by omega,fO,eQ,eQ]
theorem DT{x y:Nat}(h:bl x≠bl y):bI x y=bI (bl x) (bl y):=by
 unfold bI;rcases iE (bl x) (bl y) with k|k
 . have:x<y:=by
    rcases iE x y with q|q
    . exact q
    . have:=nW q;omega
   rw[if_pos k,if_pos this]
 . have:y<x:=by
    rcases iE y x with q|q
    . exact q
    . have:=nW q;omega
   rw[if_neg (by omega:¬ x<y),if_pos this,if_neg (by omega:¬ bl x<bl y),if_pos (by omega:bl y<bl x)]
theorem JK(x y:Nat):bI x y=-1\/bI x y=0\/bI x y=1:=by
 unfold bI;split
 . exact .inl rfl
 . split
   . exact .inr (.inr rfl)
   . exact .inr (.inl rfl)
theorem JL(X:Nat)(e:Int)(Y:Nat)(f:Int):vz X e Y f=-1\/vz X e Y f=0\/vz X e Y f=1:=by
 unfold vz;split <;> exact JK _ _
def qN(n:Bool)(X:Nat):Int:=if X=0 then 0 else if n then -1 else 1
def jC(x y:Int):Int:=if x<y then -1 else if y<x then 1 else 0
theorem Tf(x y:Nat):jC (x:Int) (y:Int)=bI x y:=by
 unfold jC bI;simp only[Int.ofNat_lt]
theorem qu{P:Prop}(h:P:=by
 go_wp2_with fail;refine H1.o.mono ?_;rintro r w1 ⟨rfl,rfl⟩;go_wp2;go_ret;exact⟨rfl,SB.o⟩):P:=h
theorem vB{w:World}{a:Option Addr}{n c:Nat}{xs:List Nat}(h1:Arg w a n c xs)(ng:Bool)(e:Int) :
 At 52 #[.agg #[.bool ng,.slice a n c,.int .i64 e]] w (.int .i64 (qN ng (val xs))):=by
 have hB:An w (w.alloc (.cells #[.bool ng,.slice a n c,.int .i64 e] 79)):=af w _;have A1:=h1.below hB;have hbig:=h1.big;have H1:=hid (tH xs a n c _ _ A1.len A1.cap ae A1.wf A1.rd);obtain⟨X,hX⟩:∃X,val xs=X:=⟨_,rfl⟩;rw[hX] at H1 |-;have SB:=ak hB;clear hB A1 h1 hX hbig;unfold qN
 by_cases h0:X=0
 . rw[if_pos h0];have hb:bl X=0:=by rw[h0,dI]
   rw[hb] at H1;clear h0 hb;go_enter Tryz.func52,Tryz.ntmps52;exact qu
 . rw[if_neg h0];obtain⟨b,hb⟩:∃b,bl X=b:=⟨_,rfl⟩;have hb0:((b:Int)==0)=false:=by have:=dM X h0;simp;omega
   rw[hb] at H1;clear h0 hb
   cases ng
   . simp only[eX,if_false];go_enter Tryz.func52,Tryz.ntmps52;exact qu
   . simp only[if_true];go_enter Tryz.func52,Tryz.ntmps52;exact qu
theorem O3(e f:Int)(he0:-9223372036854775808<=e)(he1:e<=9223372036854775807)(hf0:-9223372036854775808<=f)(hf1:f<=9223372036854775807)(h:f<=e):IntKind.u64.wrap (IntKind.u64.wrap e-IntKind.u64.wrap f)=(((e-f).toNat:Nat):Int):=by
 rw[kC,kC,kC];omega
theorem JM{w:World}{a:Option Addr}{n c:Nat}{xs:List Nat}(h1:Arg w a n c xs):bl (val xs)<=1125899906842624:=by
 have:=dh xs h1.wf;rw[<-h1.len] at this;have:=RA _ _ this;have:=h1.big;omega
theorem BF{n:Bool}{X:Nat}:qN n X=0↔X=0:=by
 unfold qN
 by_cases h:X=0
 . simp[h]
 . rw[if_neg h];cases n <;> simp[h]
def oH(n:Bool):Int:=if n then -1 else 1
def zv(B:Int)(x:Bool×Nat×Int):Int:=oH x.1*((x.2.1*2^(x.2.2-B).toNat:Nat):Int)
theorem O4(e l B:Int)(h:B<=e)(hl:0<=l):(2:Nat)^(e+l-B).toNat=2^l.toNat*2^(e-B).toNat:=by
 rw[<-aP];congr 1;omega
theorem lZ{n:Bool}{X:Nat}{e:Int}{x:Bool×Nat×Int}(h:mkS n X e=some x)(B:Int)(hB:X=0\/B<=e):zv B x=oH n*((X*2^(e-B).toNat:Nat):Int):=by
 unfold mkS at h
 by_cases h0:X=0
 . rw[if_pos h0] at h
   cases h
   subst h0;simp[zv]
 . rw[if_neg h0] at h
   split at h
   . cases h
   . cases h
     have hB':B<=e:=by rcases hB with h | h;exact absurd h h0;exact h
     obtain⟨m,hm,hd,_⟩:=iI X h0;show oH n*((X/2^lo X*2^(e+(lo X:Int)-B).toNat:Nat):Int)=_;rw[O4 e (lo X) B hB' ae,lC,<-aQ];have hx:X/2^lo X*2^lo X=X:=by rw[hd];rw[cK];exact hm.symm
     rw[hx]
theorem Tg{n m:Bool}(h:¬ n=m):oH m=-oH n:=by cases n <;> cases m <;> first | exact absurd rfl h | rfl
theorem Xf(n:Bool):oH (!n)=-oH n:=by cases n <;> rfl
theorem Xg(n m:Bool):oH (n != m)=oH n*oH m:=by cases n <;> cases m <;> rfl
theorem Gn{n m:Bool}{X Y:Nat}{e f:Int}{z:Bool×Nat×Int}(h:j6 n X e m Y f=some z)(hfe:f<=e)(B:Int)(hB:B<=f):zv B z=zv B (n,X,e)+zv B (m,Y,f):=by
 unfold j6 at h
 split at h
 . cases h
 . have key:X*2^(e-f).toNat*2^(f-B).toNat=X*2^(e-B).toNat:=by
    rw[aQ,<-aP,show(e-f).toNat+(f-B).toNat=(e-B).toNat by omega]
   show zv B z=oH n*((X*2^(e-B).toNat:Nat):Int)+oH m*((Y*2^(f-B).toNat:Nat):Int);generalize 2^(e-f).toNat=P at h key
   split at h
   . rename_i hnm;rw[lZ h B (.inr hB),hnm,<-Int.mul_add,fT,key,xX]
   . rename_i hnm
     split at h
     . rename_i hle;rw[lZ h B (.inr hB),Tg hnm,Nat.sub_mul,key,Int.ofNat_sub (by rw[<-key];exact dL _ hle),Int.mul_sub,Int.neg_mul];omega
     . rename_i hle;rw[lZ h B (.inr hB),Xf,Tg hnm,Nat.sub_mul,key,Int.ofNat_sub (by rw[<-key];exact dL _ ae),Int.mul_sub,Int.neg_mul,Int.neg_mul];omega
theorem qO{x:Bool×Nat×Int}(B:Int)(h:x.2.1=0):zv B x=0:=by unfold zv;rw[h];simp
theorem Xh{x y z:Bool×Nat×Int}(h:uf x y=some z)(B:Int)(hx:x.2.1=0\/B<=x.2.2)(hy:y.2.1=0\/B<=y.2.2):zv B z=zv B x+zv B y:=by
 obtain⟨n,X,e⟩:=x;obtain⟨m,Y,f⟩:=y;unfold uf at h;simp only at h hx hy
 by_cases h0:X=0
 . rw[if_pos h0] at h
   cases h
   rw[qO (x:=(n,X,e)) B h0,Int.zero_add]
 . rw[if_neg h0] at h
   by_cases h1:Y=0
   . rw[if_pos h1] at h
     cases h
     rw[qO (x:=(m,Y,f)) B h1,Int.add_zero]
   . rw[if_neg h1] at h;have hx':B<=e:=by rcases hx with k | k;exact absurd k h0;exact k
     have hy':B<=f:=by rcases hy with k | k;exact absurd k h1;exact k
     by_cases h2:e<f
     . rw[if_pos h2] at h;rw[Gn h ae B hx',Int.add_comm]
     . rw[if_neg h2] at h;exact Gn h ae B hy'
theorem Xi{x y z:Bool×Nat×Int}(h:WS x y=some z)(B C:Int)(hx:x.2.1=0\/B<=x.2.2)(hy:y.2.1=0\/C<=y.2.2):zv (B+C) z=zv B x*zv C y:=by
 obtain⟨n,X,e⟩:=x;obtain⟨m,Y,f⟩:=y;unfold WS at h;simp only at h hx hy
 by_cases h0:X=0
 . subst h0;rw[fe] at h;rw[lZ h _ (.inl rfl),qO (x:=(n,0,e)) B rfl];simp
 . by_cases h1:Y=0
   . subst h1;rw[o9] at h;rw[lZ h _ (.inl rfl),qO (x:=(m,0,f)) C rfl];simp
   . have hx':B<=e:=by rcases hx with k | k;exact absurd k h0;exact k
     have hy':C<=f:=by rcases hy with k | k;exact absurd k h1;exact k
     rw[lZ h _ (.inr ae),Xg];unfold zv;simp only;rw[show(e+f-(B+C)).toNat=(e-B).toNat+(f-C).toNat by omega,aP];rw[show X*Y*(2^(e-B).toNat*2^(f-C).toNat)=(X*2^(e-B).toNat)*(Y*2^(f-C).toNat) by rw[rH]];rw[eD,mD,mD];congr 1;rw[<-mD,<-mD];congr 1;exact Int.mul_comm _ _
theorem Xj{X Y:Nat}(a b:Nat)(hX:X%2=1)(hY:Y%2=1)(h:X*2^a=Y*2^b):X=Y/\a=b:=by
 have key:∀(a b X Y:Nat),X%2=1->Y%2=1->X*2^a=Y*2^b->a<=b:=by
  intro a b X Y hX hY h;rcases iE b a with k|k
  . exfalso;obtain⟨d,rfl⟩:∃d,a=b+(d+1):=⟨a-b-1,ae⟩;rw[aP,cK (2^b),<-aQ] at h;have:=pz (bG b) h;rw[dS,<-aQ] at this;omega
  . exact k
 have h1:=key a b X Y hX hY h;have h2:=key b a Y X hY hX h.symm;have e:a=b:=ae
 subst e;exact⟨pz (bG a) h,rfl⟩
theorem Ti{n m:Bool}{X Y:Nat}{e f:Int}(FX:wR n X e)(FY:wR m Y f)(B:Int)(hB:B<=-1048576)(h:zv B (n,X,e)=zv B (m,Y,f)):n=m/\X=Y/\e=f:=by
 have hx:=FX.down;have hy:=FY.down;unfold zv at h;simp only at h;have hpX:0<2^(e-B).toNat:=bG _;have hpY:0<2^(f-B).toNat:=bG _;rcases FX.odd with oX|⟨rfl,rfl,rfl⟩
 . rcases FY.odd with oY | ⟨rfl,rfl,rfl⟩
   . have pX:0<X*2^(e-B).toNat:=jh ae hpX;have pY:0<Y*2^(f-B).toNat:=jh ae hpY
     have hn:n=m:=by
      generalize X*2^(e-B).toNat=P at h pX;generalize Y*2^(f-B).toNat=Q at h pY
      cases n <;> cases m <;> first | rfl | (simp only[oH,eX,if_true,if_false] at h;omega)
     subst hn
     have hPQ:X*2^(e-B).toNat=Y*2^(f-B).toNat:=by
      generalize X*2^(e-B).toNat=P at h;generalize Y*2^(f-B).toNat=Q at h
      cases n <;> (simp only[oH,eX,if_true,if_false] at h;omega)
     obtain⟨h1,h2⟩:=Xj _ _ oX oY hPQ;exact⟨rfl,h1,ae⟩
   . exfalso;have pX:0<X*2^(e-B).toNat:=jh ae hpX;generalize X*2^(e-B).toNat=P at h pX;rw[fe] at h
     cases n <;> (simp only[oH,eX,if_true,if_false] at h;omega)
 . rcases FY.odd with oY | ⟨rfl,rfl,rfl⟩
   . exfalso;have pY:0<Y*2^(f-B).toNat:=jh ae hpY;generalize Y*2^(f-B).toNat=Q at h pY;rw[fe] at h
     cases m <;> (simp only[oH,eX,if_true,if_false] at h;omega)
   . exact⟨rfl,rfl,rfl⟩
theorem uj{n:Bool}{X:Nat}{e:Int}(F:wR n X e):mkS n X e=some (n,X,e):=by
 unfold mkS;rcases F.odd with h|⟨rfl,rfl,rfl⟩
 . have h1:=F.size;have h2:=F.up;have h3:=F.down;rw[if_neg ae,Md h,if_neg ae,fO,Nat.div_one];simp
 . rw[if_pos rfl]
theorem BG{n m:Bool}{X Y:Nat}{e f:Int}{n':Bool}{Z:Nat}{g:Int}(h:j6 n X e m Y f=some (n',Z,g)):wR n' Z g:=by
 unfold j6 at h
 split at h
 . cases h
 . split at h
   . exact cO h
   . split at h
     . exact cO h
     . exact cO h
theorem Tj{n m:Bool}{X Y:Nat}{e f:Int}(FX:wR n X e)(FY:wR m Y f){n':Bool}{Z:Nat}{g:Int}(h:uf (n,X,e) (m,Y,f)=some (n',Z,g)):wR n' Z g:=by
 unfold uf at h;simp only at h
 split at h
 . cases h;exact FY
 . split at h
   . cases h;exact FX
   . split at h
     . exact BG h
     . exact BG h
theorem Qai{P:Prop}(h:P:=by
 cases o with
 | none=>cases h
 | some x =>
   cases p with
   | none=>cases h
   | some y =>
     obtain⟨z,hz⟩:=xY.1 h;exact⟨x,y,z,rfl,rfl,hz,hz⟩):P:=h
theorem O5{o p:Option (Bool×Nat×Int)}(h:(qa o p).isSome=true):∃x y z,o=some x/\p=some y/\uf x y=some z/\qa o p=some z:=by
 exact Qai
theorem O6{o p:Option (Bool×Nat×Int)}(h:(xm o p).isSome=true):∃x y z,o=some x/\p=some y/\WS x y=some z/\xm o p=some z:=by
 exact Qai
structure Fv (B:Int) (o:Option (Bool×Nat×Int)) (z:Int):Prop where
 ex:∃n X e,o=some (n,X,e)/\wR n X e/\zv B (n,X,e)=z
theorem wR.base{n:Bool}{X:Nat}{e:Int}(F:wR n X e){B:Int}(hB:B<=-1048576):X=0\/B<=e:=.inr (by have:=F.down;omega)
theorem Fv.add{B:Int}(hB:B<=-1048576){o p:Option (Bool×Nat×Int)}{x y:Int}(h1:Fv B o x)(h2:Fv B p y)(h:(qa o p).isSome=true):Fv B (qa o p) (x+y):=by
 obtain⟨n,X,e,rfl,F,rfl⟩:=h1.ex;obtain⟨m,Y,f,rfl,G,rfl⟩:=h2.ex;obtain⟨_,_,z,e1,e2,hz,hd⟩:=O5 h
 cases e1;cases e2
 obtain⟨n',Z,g⟩:=z;exact⟨n',Z,g,hd,Tj F G hz,Xh hz B (F.base hB) (G.base hB)⟩
theorem Fv.mul{B C:Int}(hB:B<=-1048576)(hC:C<=-1048576){o p:Option (Bool×Nat×Int)}{x y:Int}(h1:Fv B o x)(h2:Fv C p y)(h:(xm o p).isSome=true):Fv (B+C) (xm o p) (x*y):=by
 obtain⟨n,X,e,rfl,F,rfl⟩:=h1.ex;obtain⟨m,Y,f,rfl,G,rfl⟩:=h2.ex;obtain⟨_,_,z,e1,e2,hz,hd⟩:=O6 h
 cases e1;cases e2
 obtain⟨n',Z,g⟩:=z;exact⟨n',Z,g,hd,cO hz,Xi hz B C (F.base hB) (G.base hC)⟩
theorem Fv.same{B:Int}(hB:B<=-1048576){o p:Option (Bool×Nat×Int)}{x y:Int}(h1:Fv B o x)(h2:Fv B p y)(h:x=y):dN o=dN p/\dX o=dX p/\dE o=dE p:=by
 obtain⟨n,X,e,rfl,F,rfl⟩:=h1.ex;obtain⟨m,Y,f,rfl,G,rfl⟩:=h2.ex;exact Ti F G B hB h
theorem zt(x y k:Nat)(hk:0<k):bI (x*k) (y*k)=bI x y:=by
 unfold bI;simp only[kI hk]
theorem O7(X:Nat)(e:Int)(Y:Nat)(f B:Int)(h1:B<=e)(h2:B<=f):vz X e Y f=bI (X*2^(e-B).toNat) (Y*2^(f-B).toNat):=by
 unfold vz
 by_cases h:e<f
 . rw[if_pos h,<-zt _ _ (2^(e-B).toNat) (bG _),aQ,<-aP,show(f-e).toNat+(e-B).toNat=(f-B).toNat by omega]
 . rw[if_neg h,<-zt _ _ (2^(f-B).toNat) (bG _),aQ,<-aP,show(e-f).toNat+(f-B).toNat=(e-B).toNat by omega]
theorem Me(X k:Nat):X*2^k=0↔X=0:=by
 constructor
 . intro h;rcases CE.1 h with h|h
   . exact h
   . have:=bG k;omega
 . rintro rfl;exact fe _
theorem O8(dg:Nat)(least top:Int)(X:Nat)(e:Int)(ho:X%2=1)(Bs:Int)(h1:Bs<=e)(h2:Bs<=least)(hin:¬ top<e+(bl X:Int)) :
 Bs<=(jf dg least top X e).2.1 /\
 (((jf dg least top X e).2.2.1=true/\X*2^(e-Bs).toNat=(jf dg least top X e).1*2^((jf dg least top X e).2.1-Bs).toNat) \/
  ((jf dg least top X e).2.2.1=false/\(jf dg least top X e).1*2^((jf dg least top X e).2.1-Bs).toNat<X*2^(e-Bs).toNat/\X*2^(e-Bs).toNat<((jf dg least top X e).1+1)*2^((jf dg least top X e).2.1-Bs).toNat /\
   ((jf dg least top X e).2.2.2=-1/\2*(X*2^(e-Bs).toNat)<(2*(jf dg least top X e).1+1)*2^((jf dg least top X e).2.1-Bs).toNat \/
    (jf dg least top X e).2.2.2=0/\2*(X*2^(e-Bs).toNat)=(2*(jf dg least top X e).1+1)*2^((jf dg least top X e).2.1-Bs).toNat \/
    (jf dg least top X e).2.2.2=1/\(2*(jf dg least top X e).1+1)*2^((jf dg least top X e).2.1-Bs).toNat<2*(X*2^(e-Bs).toNat)))):=by
 unfold jf;rw[if_neg hin];simp only;obtain⟨ex,hex⟩:∃ex,max (e+(bl X:Int)-(dg:Int)) least=ex:=⟨_,rfl⟩;rw[hex];have hle:least<=ex:=ae
 by_cases hoff:ex-e<=0
 . rw[if_pos hoff];simp only;refine⟨ae,.inl ⟨trivial,?_⟩⟩;rw[aQ,<-aP,show(-(ex-e)).toNat+(ex-Bs).toNat=(e-Bs).toNat by omega]
 . rw[if_neg hoff];simp only;obtain⟨k,hk⟩:∃k:Nat,(ex-e).toNat=k:=⟨_,rfl⟩;have hk0:0<k:=ae
   have hexB:(ex-Bs).toNat=k+(e-Bs).toNat:=ae
   have hk1:(ex-e-1).toNat=k-1:=ae
   rw[hk,hexB,hk1,aP];obtain⟨Q,hQ⟩:∃Q,2^(e-Bs).toNat=Q:=⟨_,rfl⟩;have hQ0:0<Q:=by rw[<-hQ];exact bG _
   rw[hQ];have OA:=oz X (2^k);have hmod:=iB X (bG k);obtain⟨F,hF⟩:∃F,X/2^k=F:=⟨_,rfl⟩;obtain⟨R,hR⟩:∃R,X%2^k=R:=⟨_,rfl⟩;have Tm:2^k=2*2^(k-1):=by rw[show k=k-1+1 by omega,dS,cK];rfl
   have hbit:X/2^(k-1)%2=R/2^(k-1):=by
    rw[<-hR,Tm];rw[cK 2,Nat.mod_mul_right_div_self]
   obtain⟨Hf,hHf⟩:∃Hf,2^(k-1)=Hf:=⟨_,rfl⟩;have hHf0:0<Hf:=by rw[<-hHf];exact bG _
   rw[hHf] at Tm hbit |-;rw[hbit];rw[Tm] at OA hmod hF hR |-;rw[hF,hR] at OA;rw[hR] at hmod;rw[hF]
   have hR0:R≠0:=by
    intro h;rw[h,il,aQ] at OA;omega
   have e1:F*(2*Hf*Q)=(F*(2*Hf))*Q:=(aQ _ _ _).symm;have e2:(F+1)*(2*Hf*Q)=((F+1)*(2*Hf))*Q:=(aQ _ _ _).symm
   have e3:(2*F+1)*(2*Hf*Q)=(2*(F*(2*Hf))+2*Hf)*Q:=by
    rw[fT,fT,ik,aQ 2 F,<-aQ F,aQ 2 (F*(2*Hf)) Q]
   have e4:2*(X*Q)=(2*X)*Q:=by rw[aQ]
   have e5:2*Hf*F=F*(2*Hf):=cK _ _;rw[e5] at OA;have e6:(F+1)*(2*Hf)=F*(2*Hf)+2*Hf:=by rw[fT,ik]
   rw[e1,e2,e3,e4,e6];generalize F*(2*Hf)=G at OA |-;refine⟨ae,.inr ⟨trivial,fK ae hQ0,fK ae hQ0,?_⟩⟩
   by_cases hone:ex-e=1
   . rw[if_pos hone];have hk1':k=1:=ae
     have hHf1:Hf=1:=by rw[<-hHf,hk1']
     refine .inr (.inl ⟨rfl,?_⟩);congr 1;omega
   . rw[if_neg hone]
     have hHf2:Hf%2=0:=by
      rw[<-hHf,show k-1=k-2+1 by omega,dS];omega
     have hRodd:R%2=1:=by
      have:G%2=0\/True:=.inr trivial;rw[<-hR];rw[Nat.mod_mul_right_mod];exact ho
     by_cases hge:Hf<=R
     . have hd1:R/Hf=1:=by
        rw[Nat.div_eq_iff hHf0];omega
       rw[hd1,if_pos rfl];refine .inr (.inr ⟨rfl,fK ?_ hQ0⟩);have:R≠Hf:=by intro h;rw[h] at hRodd;omega
       omega
     . have hd0:R/Hf=0:=iq ae;rw[hd0,if_neg ae];exact .inl ⟨rfl,fK ae hQ0⟩
def Qy(X:Nat)(e:Int):Nat:=((jf 53 (-1074) 1024 X e).2.1+1074).toNat*4503599627370496+(jf 53 (-1074) 1024 X e).1
abbrev vK(K:Nat):Nat:=B.val Ieee.double K
theorem Gp{K L:Nat}:vK K<vK L↔K<L:=B.iH Ieee.double
theorem iO(j F:Nat)(h:j=0\/4503599627370496<=F)(hF:F<=9007199254740992):vK (j*4503599627370496+F)=F*2^j:=by
 have:=B.Dt Ieee.double j F (by rw[B.Je];exact h) (by rw[B.Je];omega);rw[B.Je] at this;exact this
structure Ah (K:Nat) (at':Bool) (mid:Int) (V S:Nat):Prop where
 fin:K<9218868437227405312
 pos:0<S
 one:at'=true->V=vK K*S
 low:at'=false->vK K*S<V
 Xk:at'=false->V<vK (K+1)*S->(mid=-1/\2*V<vK K*S+vK (K+1)*S\/mid=0/\2*V=vK K*S+vK (K+1)*S\/mid=1/\vK K*S+vK (K+1)*S<2*V)
 high:at'=false->V<vK (K+1)*S\/(K=9218868437227405311/\mid=1)
theorem Qbn{P:Prop}(h:P:=by
 have hb:=iw X hX0;have hbp:=dM X hX0;refine dB ?_ (dL _ hb);rw[<-aP,<-aP];exact fD ae ae):P:=h
theorem lies(X:Nat)(e:Int)(hX:X%2=1)(he0:-1048576<=e)(he1:e<=1048576)(Bs:Int)(h1:Bs<=e)(h2:Bs<=-1074) :
 Ah (Qy X e) (jf 53 (-1074) 1024 X e).2.2.1 (jf 53 (-1074) 1024 X e).2.2.2 (X*2^(e-Bs).toNat) (2^(-1074-Bs).toNat):=by
 have hX0:X≠0:=ae
 obtain⟨f1,f2,f3,f4⟩:=vo X e hX0 he0 he1;obtain⟨j,hj⟩:∃j:Nat,((jf 53 (-1074) 1024 X e).2.1+1074).toNat=j:=⟨_,rfl⟩;have hS:0<2^(-1074-Bs).toNat:=bG _
 have hw:∀F,F<=9007199254740992->(j=0\/4503599627370496<=F)->vK (j*4503599627370496+F)*2^(-1074-Bs).toNat=F*2^((jf 53 (-1074) 1024 X e).2.1-Bs).toNat:=by
  intro F hF hn;rw[iO j F hn hF,aQ,<-aP];congr 2;omega
 have hn1:j=0\/4503599627370496<=(jf 53 (-1074) 1024 X e).1:=by
  rcases f4 with h|h
  . left;omega
  . exact .inr h
 have w1:=hw (jf 53 (-1074) 1024 X e).1 ae hn1;have w2:=hw ((jf 53 (-1074) 1024 X e).1+1) ae (by rcases hn1 with h | h;exact .inl h;exact .inr ae);have hflK:Qy X e=j*4503599627370496+(jf 53 (-1074) 1024 X e).1:=by unfold Qy;rw[hj]
 have hflK1:Qy X e+1=j*4503599627370496+((jf 53 (-1074) 1024 X e).1+1):=by rw[hflK];omega
 have hfin:Qy X e<9218868437227405312:=by rw[hflK];omega
 rw[<-hflK] at w1;rw[<-hflK1] at w2
 by_cases hin:1024<e+(bl X:Int)
 . have hp:jf 53 (-1074) 1024 X e=((2^53-1:Nat),((1024:Int)-((53:Nat):Int)),false,(1:Int)):=by unfold jf;rw[if_pos hin]
   have hK:Qy X e=9218868437227405311:=by unfold Qy;rw[hp];rfl
   refine⟨hfin,hS,λh=>(by rw[hp] at h;cases h),λ_=>?_,λ_ hlt=>?_,λ_=>.inr ⟨hK,(by rw[hp])⟩⟩
   . rw[w1];have hlow:(2^53-1)*2^(971-Bs).toNat<2^53*2^(971-Bs).toNat:=fK aM (bG _)
     have hup:2^53*2^(971-Bs).toNat<=X*2^(e-Bs).toNat:=by
      exact Qbn
     rw[hp];exact gT hlow hup
   . exfalso;rw[w2,hp] at hlt
     have hup:2^53*2^(971-Bs).toNat<=X*2^(e-Bs).toNat:=by
      exact Qbn
     exact absurd hlt (Nat.not_lt.2 hup)
 . obtain⟨_,hfl⟩:=O8 53 (-1074) 1024 X e hX Bs h1 h2 hin
   have hmid:vK (Qy X e)*2^(-1074-Bs).toNat+vK (Qy X e+1)*2^(-1074-Bs).toNat=(2*(jf 53 (-1074) 1024 X e).1+1)*2^((jf 53 (-1074) 1024 X e).2.1-Bs).toNat:=by
    rw[w1,w2,<-fT];congr 1;omega
   rcases hfl with ⟨ht,hv⟩|⟨hf,hlo,hhi,hm⟩
   . exact⟨hfin,hS,λ_=>(by rw[w1];exact hv),λh=>(by rw[ht] at h;cases h),λh=>(by rw[ht] at h;cases h),λh=>(by rw[ht] at h;cases h)⟩
   . refine⟨hfin,hS,λh=>(by rw[hf] at h;cases h),λ_=>(by rw[w1];exact hlo),λ_ _=>(by rw[hmid];exact hm),λ_=>.inl (by rw[w2];exact hhi)⟩
theorem vS_le{K L S:Nat}(h:K<=L):vK K*S<=vK L*S:=by
 rcases iE K L with k|k
 . exact dL _ (fU (Gp.2 k))
 . rw[show K=L by omega];exact aA _
theorem vS_lt{K L S:Nat}(hS:0<S)(h:K<L):vK K*S<vK L*S:=fK (Gp.2 h) hS
theorem Ah.ge{K:Nat}{t:Bool}{m:Int}{V S:Nat}(h:Ah K t m V S):vK K*S<=V:=by
 cases ht:t
 . exact fU (h.low ht)
 . rw[h.one ht];exact aA _
def rK(mode:Int)(n:Bool)(K:Nat)(t:Bool)(m:Int):Nat:=if t then K else if lU mode K m n then K+1 else K
theorem Tn(mode:Int)(j F:Nat)(m:Int)(n:Bool):lU mode (j*4503599627370496+F) m n=lU mode F m n:=by
 unfold lU;rw[show(j*4503599627370496+F)%2=F%2 by omega]
theorem Xl(mode:Int)(n:Bool)(X:Nat)(e:Int):WO mode n X e=rK mode n (Qy X e) (jf 53 (-1074) 1024 X e).2.2.1 (jf 53 (-1074) 1024 X e).2.2.2:=by
 unfold WO rK Qy;simp only;rw[Tn]
 split
 . rfl
 . split <;> omega
theorem Tp(mode:Int)(n:Bool){K:Nat}{t:Bool}{m:Int}{V S:Nat}(h:Ah K t m V S)(L:Nat)(hL:L<9218868437227405312)(hV:V=vK L*S):rK mode n K t m=L:=by
 have hKL:K<=L:=by
  rcases iE L K with k|k
  . exfalso;have a1:=h.ge;have a2:=vS_lt h.pos k;omega
  . exact k
 by_cases ht:t=true
 . have:vK K=vK L:=pz h.pos (by rw[<-hV,h.one ht]);unfold rK;rw[if_pos ht];exact B.val_inj Ieee.double this
 . exfalso;have htf:t=false:=by simpa using ht
   have a1:=h.low htf
   have hlt:K<L:=by
    rcases iE K L with k|k
    . exact k
    . have:K=L:=ae
      rw[this] at a1;omega
   rcases h.high htf with q|⟨q,_⟩
   . have a2:vK (K+1)*S<=vK L*S:=vS_le ae;omega
   . omega
def Xm(s:Bool)(K:Nat):Nat:=K+(if s then 9223372036854775808 else 0)
def sK(s:Bool)(K:Nat):Int:=if s then -(K:Int) else K
theorem Mf(s:Bool)(K:Nat)(h:K<=9218868437227405312):Xm s K=B.bw s (K/4503599627370496) (K%4503599627370496)/\K/4503599627370496<2048/\K%4503599627370496<4503599627370496/\B.odd (K/4503599627370496) (K%4503599627370496)=false/\B.pl s (K/4503599627370496) (K%4503599627370496)=sK s K:=by
 refine⟨?_,ae,ae,?_,?_⟩
 . unfold Xm B.bw
   cases s
   . simp;omega
   . simp;omega
 . unfold B.odd;simp;omega
 . unfold B.pl B.sg sK;rw[show K/4503599627370496*4503599627370496+K%4503599627370496=K by omega]
theorem Xn{n:Bool}{X:Nat}{e:Int}(F:wR n X e)(h:X≠0):X%2=1:=by rcases F.odd with k | k;exact k;exact absurd k.1 h
attribute [local go_sem] B.aW B.aJ cZ
def bB(x:Nat):Nat:=x%9223372036854775808
def dH(x:Nat):Bool:=decide (9223372036854775808<=x)
end
section
open Go.RowKit
def Vz(s:Bool)(K:Nat):Option (Bool×Nat×Int):=Z9 s (K/4503599627370496) (K%4503599627370496)
theorem Qam{P:Prop}(h:P:=by
 by_cases h:x=0
 . rw[if_pos h] at hM hE;exact .inl ⟨h,hM.symm,hE.symm⟩
 . rw[if_neg h] at hM hE;exact .inr ⟨h,hM.symm,hE.symm⟩):P:=h
theorem Xo(s:Bool)(K:Nat)(hK:K<9218868437227405312):∃n X e,Vz s K=some (n,X,e)/\wR n X e/\(X≠0->n=s)/\(X=0↔K=0)/\∀Bs:Int,Bs<=-1074->zv Bs (n,X,e)=oH s*((vK K*2^(-1074-Bs).toNat:Nat):Int):=by
 obtain⟨x,hx⟩:∃x,K/4503599627370496=x:=⟨_,rfl⟩;obtain⟨f,hf⟩:∃f,K%4503599627370496=f:=⟨_,rfl⟩;have hxl:x<2047:=ae
 have hfl:f<4503599627370496:=ae
 obtain⟨M,hM⟩:∃M,(if x=0 then f else f+4503599627370496)=M:=⟨_,rfl⟩;obtain⟨E,hE⟩:∃E:Int,(if x=0 then(-1074:Int) else(x:Int)-1075)=E:=⟨_,rfl⟩
 have hME:(x=0/\M=f/\E=-1074)\/(x≠0/\M=f+4503599627370496/\E=(x:Int)-1075):=by
  exact Qam
 have dx:M<9007199254740992:=ae
 have hO:Vz s K=mkS s M E:=by unfold Vz Z9;rw[hx,hf,if_neg ae,hM,hE]
 have hsome:(mkS s M E).isSome=true:=by
  unfold mkS
  split
  . rfl
  . rename_i h0;have hb:=qK M dx;obtain⟨_,_,_,hbb⟩:=iI M h0;rw[if_neg ae];rfl
 obtain⟨⟨n,X,e⟩,hz⟩:=xY.1 hsome;have hKw:K=(E+1074).toNat*4503599627370496+M:=by rcases hME with h | h <;> omega
 have hv:vK K=M*2^(E+1074).toNat:=by
  rw[hKw];exact iO _ _ (by rcases hME with h | h;left;omega;right;omega) ae
 have hM0:M=0↔K=0:=by rcases hME with h | h <;> omega
 refine⟨n,X,e,by rw[hO,hz],cO hz,?_,?_,?_⟩
 . intro hX;unfold mkS at hz
   split at hz
   . cases hz;exact absurd rfl hX
   . split at hz
     . cases hz
     . cases hz;rfl
 . rw[<-hM0];constructor
   . intro hX;unfold mkS at hz
     split at hz
     . assumption
     . rename_i h0
       split at hz
       . cases hz
       . obtain⟨m,_,hd,_⟩:=iI M h0
         cases hz
         omega
   . intro h0;unfold mkS at hz;rw[if_pos h0] at hz
     cases hz;rfl
 . intro Bs hBs;rw[lZ hz Bs (.inr ae),hv,aQ,<-aP,show(E+1074).toNat+(-1074-Bs).toNat=(E-Bs).toNat by omega]
end
section
open Go.RowKit J
theorem Za(x:Nat)(h:x<18446744073709551616):x=Xm (dH x) (bB x):=by
 unfold Xm dH bB
 by_cases hx:9223372036854775808<=x
 . rw[decide_eq_true hx,if_pos rfl];omega
 . rw[decide_eq_false hx,if_neg aN];omega
theorem exU(a:Nat):∃u:Nat,u=2^a:=⟨_,rfl⟩
def EU:Nat:=1074
def ES:Nat:=2095004
noncomputable def UU:Nat:=Classical.choose (exU EU)
noncomputable def SS:Nat:=Classical.choose (exU ES)
theorem U_eq:UU=2^EU:=ym (exU EU)
theorem S_eq:SS=2^ES:=ym (exU ES)
theorem EUS:EU+ES=2096078:=by unfold EU ES;rfl
theorem US(a:Nat)(h:a=2096078):2^a=UU*SS:=by
 rw[U_eq,S_eq,<-aP,EUS,h]
structure Fo (o:Option (Bool×Nat×Int)) (z:Int) (L H:Int):Prop where
 ex:∃n X e,o=some (n,X,e)/\wR n X e/\zv (-2097152) (n,X,e)=z*(SS:Int)/\(X=0\/L<=e/\e+(bl X:Int)<=H)
theorem mkS_sz(n:Bool)(Z:Nat)(f L H:Int)(hZ:Z≠0)(h1:L<=f)(h2:f+(bl Z:Int)<=H)(hL:-1000000<=L)(hH:H<=1000000)(hd:H-L<=262144) :
 ∃X e,mkS n Z f=some (n,X,e)/\X≠0/\L<=e/\e+(bl X:Int)<=H:=by
 obtain⟨m,e0,e1,e2⟩:=iI Z hZ;unfold mkS;rw[if_neg hZ,if_neg ae];exact⟨_,_,rfl,ae,ae,ae⟩
theorem blLe{X m:Nat}(h:X<2^m):bl X<=m:=by
 apply mq;intro hh;have:=(wO X m).1 hh;omega
end
section
open Go.RowKit
def Zk(w:World)(g:Nat)(dg ls En:Int):Prop:=w.heap[g]?=some (.cells #[.int .i64 dg,.int .i64 ls,.int .u64 En] 137 (0,0))
theorem Zk.lt{w:World}{g:Nat}{dg ls En:Int}(h:Zk w g dg ls En):g<w.heap.size:=(dQ.1 h).1
theorem Zk.below{w w':World}{g:Nat}{dg ls En:Int}(h:Zk w g dg ls En)(hb:An w w'):Zk w' g dg ls En:=by
 unfold Zk;exact Qa3
theorem Zk.facts{w:World}{g:Nat}{dg ls En:Int}(h:Zk w g dg ls En):w.cell? ⟨g,0,none⟩=some (.int .i64 dg)/\w.cell? ⟨g,1,none⟩=some (.int .i64 ls)/\w.cell? ⟨g,2,none⟩=some (.int .u64 En):=by
 unfold Zk at h;simp[World.cell?,h]
end
end Go.Proofs.YtjppdacikihpdaaGreatDoor
