import Derived.Test.YtblkpkgebigojaaGreatDoorD30x
import Derived.Deep.Cut
import Derived.Deep.RegionHeld3
import Derived.Test.YtblkpkgebigojaaGreatDoorD21x
import Derived.Deep.RegionWith
import Derived.Deep.CutRange
import Derived.Test.YtblkpkgebigojaaGreatDoorBIeeex
import Derived.Test.YtblkpkgebigojaaGreatDoorD16x
import Derived.BigQuiet
import Derived.Laws.Bits64
import Derived.Laws.Bits64b
import Derived.Test.YtblkpkgebigojaaGreatDoorD10x
set_option linter.unusedVariables false
set_option linter.unusedSimpArgs false
set_option maxHeartbeats 16000000
set_option maxRecDepth 20000
namespace Go.Proofs.YtblkpkgebigojaaGreatDoor
namespace J
end J
section
open Go.RowKit
theorem Oa {w:World}{a b:Option Addr}{l c k d:Nat}(n m:Bool) (e f:Int) (n1 m1:Bool) (X Y:Nat) (e1 f1:Int) (lX:(ws X).length<=8192) (lY:(ws Y).length<=8192) (hX:((((ws X).length:Nat):Int)==0)=false) (hY:((((ws Y).length:Nat):Int)==0)=false) (JE:-1048576<=e1) (JF:e1<=1048576) (JG:-1048576<=f1) (JH:f1<=1048576) (g:Int) (hg:min e1 f1=g) (Zi:-1048576<=g) (Zj:g<=1048576) (P Q:Nat) (lP:(ws P).length<=1000000) (lQ:(ws Q).length<=1000000) (h5:(ws P).length<=8192) (h6:(ws Q).length<=8192) (hs:(n1==m1)=true) (L:Nat) (lL:(ws L).length<=1000000) (dn:Bool) (V:Nat) (de er:Int) (lV:(ws V).length<=8192)
 (jo:Hid (∀ u,Below w.heap.size w u->Calls Tryz.prog 117 #[.agg #[.bool n,.slice a l c,.int .i64 e]] u fun r w'=>(∃ v,r=.returned (.tuple #[.agg #[.bool n1,v,.int .i64 e1],.bool true])/\Nt u.heap.size w' v X)/\Below u.heap.size u w'))
 (jR:Hid (∀ u,Below w.heap.size w u->Calls Tryz.prog 117 #[.agg #[.bool m,.slice b k d,.int .i64 f]] u fun r w'=>(∃ v,r=.returned (.tuple #[.agg #[.bool m1,v,.int .i64 f1],.bool true])/\Nt u.heap.size w' v Y)/\Below u.heap.size u w'))
 (HP:Hid (∀ (u:World) (v:Value),Below w.heap.size w u->Nt (w.heap.size+3) u v X->Calls Tryz.prog 123 #[v,.int .i64 (e1-g)] u fun r w'=>∃ v,r=.returned v/\Nt u.heap.size w' v P/\Below u.heap.size u w'))
 (HQ:Hid (∀ (u:World) (v:Value),Below w.heap.size w u->Nt (w.heap.size+3) u v Y->Calls Tryz.prog 123 #[v,.int .i64 (f1-g)] u fun r w'=>∃ v,r=.returned v/\Nt u.heap.size w' v Q/\Below u.heap.size u w'))
 (HT:Hid (∀ (u:World) (p q:Option Addr) (s t:Nat),Below w.heap.size w u->Arg u p (ws P).length s (ws P)->Arg u q (ws Q).length t (ws Q)->Calls Tryz.prog 136 #[.slice p (ws P).length s,.slice q (ws Q).length t] u fun r w'=>∃ v,r=.returned v/\Nt u.heap.size w' v L/\Below u.heap.size u w'))
 (HL:Hid (∀ (u:World) (p:Option Addr) (s:Nat),Below w.heap.size w u->Arg u p (ws L).length s (ws L)->Calls Tryz.prog 118 #[.bool n1,.slice p (ws L).length s,.int .i64 g] u fun r w'=>(∃ v,r=.returned (.tuple #[.agg #[.bool dn,v,.int .i64 de],.int .i64 er])/\Nt u.heap.size w' v V)/\Below u.heap.size u w')):Calls Tryz.prog 93 #[.agg #[.bool n,.slice a l c,.int .i64 e],.agg #[.bool m,.slice b k d,.int .i64 f]] w fun r w'=>(∃ v,r=.returned (.tuple #[.agg #[.bool dn,v,.int .i64 de],.int .i64 er])/\Nt w.heap.size w' v V)/\Below w.heap.size w w':=by
 obtain ⟨W1,hW1⟩:=ah (((w.alloc (.cells #[.bool n,.slice a l c,.int .i64 e] 62)).alloc (.cells #[.bool m,.slice b k d,.int .i64 f] 62)).alloc (.cells #[.bool false,.slice none 0 0,.int .i64 0] 62));obtain ⟨hB,hz1,DA,DB,DR⟩:=bg w n m (.slice a l c) (.slice b k d) e f W1 hW1;have H1:=hid (jo.o W1 hB);have SB:=(gZ hB hz1 DA DB DR);clear hB hz1 DA DB DR jo;go_enter Tryz.func93,Tryz.ntmps93;go_wp2_with fail;rw [<-hW1];clear hW1;refine H1.o.mono ?_;rintro r u1 ⟨⟨v,rfl,hN⟩,hb⟩;obtain ⟨a1,c1,rfl,_⟩:=hN.arg ae;obtain ⟨hB,hz1,DA,DB,DR⟩:=SB.o;obtain ⟨U1,bq⟩:=ah (u1.alloc (.cells #[.bool n1,.slice a1 (ws X).length c1,.int .i64 e1] 62));have hA:Below u1.heap.size u1 U1:=by rw [bq];exact af _ _
 have hs1:w.heap.size+3<=u1.heap.size:=by have:=hb.size;omega
 have hs2:u1.heap.size<U1.heap.size:=by rw [bq];simp
 have FB:=(DB.below hb).below hA;have FR:=(DR.below hb).below hA;have DX:Dk U1 u1.heap.size n1 (.slice a1 (ws X).length c1) e1:=by rw [bq];exact Dk.new _ _ _ _
 have NX:Nt (w.heap.size+3) U1 (.slice a1 (ws X).length c1) X:=(hN.mono ae).below hA;have BU:Below w.heap.size w U1:=(hB.trans (hb.mono ae)).trans (hA.mono ae);have H2:=hid (jR.o U1 BU);obtain ⟨y0,y1,y2,dw,cZ,df⟩:=FB.facts;have S1:=(jK BU FR DX NX);clear hN hb H1 hB hz1 hA DA DB DR FB FR DX NX BU SB jR
 go_upto_region 2 with fail
 rw [<-bq];clear bq;go_wp2_with fail;clear y0 y1 y2 dw cZ df;refine H2.o.mono ?_;rintro r u2 ⟨⟨v,rfl,hM⟩,hb⟩;obtain ⟨a2,c2,rfl,_⟩:=hM.arg ae;obtain ⟨BU,FR,DX,NX⟩:=S1.o;obtain ⟨U2,dR⟩:=ah (u2.alloc (.cells #[.bool m1,.slice a2 (ws Y).length c2,.int .i64 f1] 62));have hA:Below u2.heap.size u2 U2:=by rw [dR];exact af _ _
 have hs3:U1.heap.size<=u2.heap.size:=hb.size;have hs4:u2.heap.size<U2.heap.size:=by rw [dR];simp
 have GR:=(FR.below hb).below hA;have GX:=(DX.below hb).below hA;have GY:Dk U2 u2.heap.size m1 (.slice a2 (ws Y).length c2) f1:=by rw [dR];exact Dk.new _ _ _ _
 have MX:=(NX.below hb).below hA;have MY:Nt (w.heap.size+3) U2 (.slice a2 (ws Y).length c2) Y:=(hM.mono ae).below hA;have BV:Below w.heap.size w U2:=(BU.trans (hb.mono ae)).trans (hA.mono ae);have S2:=(jE BV GR GX GY MX MY);clear hM hb H2 hA FR DX NX BU GR GX GY MX MY BV S1
 go_upto_region 5 with fail
 rw [<-dR];clear dR;obtain ⟨r0,r1,r2,fZ,gp,gy⟩:=S2.o.2.1.facts;obtain ⟨x0,x1,x2,dA,dB,dC⟩:=S2.o.r2.1.facts;obtain ⟨y0,y1,y2,dw,cZ,df⟩:=S2.o.r3.1.facts;have H3:=hid (HP.o U2 _ S2.o.1 S2.o.r4.1);clear HP;go_wp2_with fail;clear r0 r1 r2 fZ gp gy x0 x1 x2 dA dB dC y0 y1 y2 dw cZ df;refine H3.o.mono ?_;rintro r u5 ⟨v,rfl,hP,hb⟩;obtain ⟨a5,c5,rfl,_⟩:=hP.arg ae;obtain ⟨BV,GR,GX,GY,MX,MY⟩:=S2.o;have hs5:U2.heap.size<=u5.heap.size:=hb.size;have zC:Below w.heap.size w u5:=BV.trans (hb.mono ae);have H4:=hid (HQ.o u5 _ zC (MY.below hb));have S5:=(jE zC (GR.below hb) (GX.below hb) (GY.below hb) (MX.below hb) (hP.mono (lo':=w.heap.size+3) ae));clear BV GR GX GY MX MY zC hP hb H3 S2 HQ;obtain ⟨r0,r1,r2,fZ,gp,gy⟩:=S5.o.2.1.facts;obtain ⟨x0,x1,x2,dA,dB,dC⟩:=S5.o.r2.1.facts;obtain ⟨y0,y1,y2,dw,cZ,df⟩:=S5.o.r3.1.facts;go_wp2_with fail;clear r0 r1 r2 fZ gp gy x0 x1 x2 dA dB dC y0 y1 y2 dw cZ df;refine H4.o.mono ?_;rintro r u6 ⟨v,rfl,hQ,hb⟩;obtain ⟨a6,c6,rfl,_⟩:=hQ.arg ae;obtain ⟨BV,GR,GX,GY,MX,MP⟩:=S5.o;have hs6:u5.heap.size<=u6.heap.size:=hb.size;have S2:=(jE (BV.trans (hb.mono ae)) (GR.below hb) (GX.below hb) (GY.below hb) (MP.below hb) (hQ.mono (lo':=w.heap.size+3) ae));clear BV GR GX GY MX MP hQ hb H4 S5;obtain ⟨r0,r1,r2,fZ,gp,gy⟩:=S2.o.2.1.facts;obtain ⟨x0,x1,x2,dA,dB,dC⟩:=S2.o.r2.1.facts;obtain ⟨y0,y1,y2,dw,cZ,df⟩:=S2.o.r3.1.facts;go_wp2_with fail;have ne1:u1.heap.size≠w.heap.size+1+1:=ae
 have V8:u2.heap.size≠w.heap.size+1+1:=ae
 have Xk:w.heap.size+1+1≠u1.heap.size:=ae
 have Xl:w.heap.size+1+1≠u2.heap.size:=ae
 have T1:=hid (HT.o u6 a5 a6 c5 c6 S2.o.1 (S2.o.r4.1.bR ae).2 (S2.o.r5.bR ae).2);have T2:=hid (HT.o u6.drew a5 a6 c5 c6 (jF S2.o.1) (Arg.drew' (S2.o.r4.1.bR ae).2) (Arg.drew' (S2.o.r5.bR ae).2))
 go_region_held3 (fun w'=>w'.cell? ⟨u1.heap.size,0,none⟩=some (.bool n1)/\w'.cell? ⟨u1.heap.size,1,none⟩=some (.slice a1 (ws X).length c1)/\w'.cell? ⟨u1.heap.size,2,none⟩=some (.int .i64 e1)/\w'.cell? ⟨u2.heap.size,0,none⟩=some (.bool m1)/\w'.cell? ⟨u2.heap.size,1,none⟩=some (.slice a2 (ws Y).length c2)/\w'.cell? ⟨u2.heap.size,2,none⟩=some (.int .i64 f1)) (go_keep) (first
  | (go_at_call 136
     first | with_reducible refine T1.o.mono ?_ | with_reducible refine T2.o.mono ?_
     rintro r u3 ⟨v,rfl,hN,hb⟩;obtain ⟨a3,c3,rfl,_⟩:=hN.arg ae;have hb3:Below u6.heap.size u6 u3:=by first | exact hb | exact ((ak _ u6).drew).trans (hb.mono (aH _))
     have Us:=hid (HL.o u3 a3 c3 (S2.o.1.trans (hb3.mono ae)) (hN.bR ae).2);have KR:=S2.o.2.1.below hb3;have KX:=S2.o.r2.1.below hb3;have KY:=S2.o.r3.1.below hb3;obtain ⟨p0,p1,p2,Li,Lj,Ll⟩:=KR.facts;obtain ⟨q0,q1,q2,Ab,Ad,Ae⟩:=KX.facts;obtain ⟨s0,s1,s2,wM,wN,wO⟩:=KY.facts;have hs9:u6.heap.size<=u3.heap.size:=hb3.size;have S9:=(jK (S2.o.1.trans (hb3.mono ae)) KR KX KY)
     clear hN hb hb3 KR KX KY)
  | (go_at_call 118
     with_reducible refine Us.o.mono ?_
     rintro r u4 ⟨⟨v,rfl,hN⟩,hb⟩;obtain ⟨a4,c4,rfl,_⟩:=hN.arg ae;have LR:=S9.o.2.1.below hb;obtain ⟨t0,t1,t2,V9,We,Wh⟩:=LR.facts;obtain ⟨i0,i1,i2,Uh,Ui,Uj⟩:=(S9.o.r2.1.below hb).facts;obtain ⟨j0,j1,j2,Xm,Xn,Xo⟩:=(S9.o.r3.below hb).facts;have FV:=ay (show Fin w.heap.size (w.heap.size+3) w u4 (.slice a4 (ws V).length c4) V from ⟨hN.mono ae,S9.o.1.trans (hb.mono ae),by have:=hb.size;omega⟩);have Hm:=ay LR
     clear hN hb LR))
 all_goals (
  go_wp2;refine aI (iN _ (w.heap.size+1+1) dn (.slice a4 (ws V).length c4) de er _ rfl rfl (Hm.o.set _ _ _)) rfl ?_;refine Fin.jA (m:=w.heap.size+3) ?_ ae
  repeat (with_reducible first | exact FV.o | refine Fin.drew ?_ | refine Fin.alloc ?_ _ | refine Fin.set ?_ _ _ _ ae ae))
theorem QN {w:World}{a b:Option Addr}{l c k d:Nat}(n m:Bool) (e f:Int) (n1 m1:Bool) (X Y:Nat) (e1 f1:Int) (lX:(ws X).length<=8192) (lY:(ws Y).length<=8192) (hX:((((ws X).length:Nat):Int)==0)=false) (hY:((((ws Y).length:Nat):Int)==0)=false) (JE:-1048576<=e1) (JF:e1<=1048576) (JG:-1048576<=f1) (JH:f1<=1048576) (g:Int) (hg:min e1 f1=g) (Zi:-1048576<=g) (Zj:g<=1048576) (P Q:Nat) (lP:(ws P).length<=1000000) (lQ:(ws Q).length<=1000000) (h5:(ws P).length<=8192) (h6:(ws Q).length<=8192) (hs:(n1==m1)=false) (z:Int) (hz:0<=z) (L:Nat) (lL:(ws L).length<=1000000) (dn:Bool) (V:Nat) (de er:Int) (lV:(ws V).length<=8192)
 (jo:Hid (∀ u,Below w.heap.size w u->Calls Tryz.prog 117 #[.agg #[.bool n,.slice a l c,.int .i64 e]] u fun r w'=>(∃ v,r=.returned (.tuple #[.agg #[.bool n1,v,.int .i64 e1],.bool true])/\Nt u.heap.size w' v X)/\Below u.heap.size u w'))
 (jR:Hid (∀ u,Below w.heap.size w u->Calls Tryz.prog 117 #[.agg #[.bool m,.slice b k d,.int .i64 f]] u fun r w'=>(∃ v,r=.returned (.tuple #[.agg #[.bool m1,v,.int .i64 f1],.bool true])/\Nt u.heap.size w' v Y)/\Below u.heap.size u w'))
 (HP:Hid (∀ (u:World) (v:Value),Below w.heap.size w u->Nt (w.heap.size+3) u v X->Calls Tryz.prog 123 #[v,.int .i64 (e1-g)] u fun r w'=>∃ v,r=.returned v/\Nt u.heap.size w' v P/\Below u.heap.size u w'))
 (HQ:Hid (∀ (u:World) (v:Value),Below w.heap.size w u->Nt (w.heap.size+3) u v Y->Calls Tryz.prog 123 #[v,.int .i64 (f1-g)] u fun r w'=>∃ v,r=.returned v/\Nt u.heap.size w' v Q/\Below u.heap.size u w'))
 (HC:Hid (∀ (u:World) (p q:Option Addr) (s t:Nat),Below w.heap.size w u->Arg u p (ws P).length s (ws P)->Arg u q (ws Q).length t (ws Q)->Calls Tryz.prog 137 #[.slice p (ws P).length s,.slice q (ws Q).length t] u fun r w'=>r=.returned (.int .i64 z)/\Below u.heap.size u w'))
 (HT:Hid (∀ (u:World) (p q:Option Addr) (s t:Nat),Below w.heap.size w u->Arg u p (ws P).length s (ws P)->Arg u q (ws Q).length t (ws Q)->Calls Tryz.prog 138 #[.slice p (ws P).length s,.slice q (ws Q).length t] u fun r w'=>∃ v,r=.returned v/\Nt u.heap.size w' v L/\Below u.heap.size u w'))
 (HL:Hid (∀ (u:World) (p:Option Addr) (s:Nat),Below w.heap.size w u->Arg u p (ws L).length s (ws L)->Calls Tryz.prog 118 #[.bool n1,.slice p (ws L).length s,.int .i64 g] u fun r w'=>(∃ v,r=.returned (.tuple #[.agg #[.bool dn,v,.int .i64 de],.int .i64 er])/\Nt u.heap.size w' v V)/\Below u.heap.size u w')):Calls Tryz.prog 93 #[.agg #[.bool n,.slice a l c,.int .i64 e],.agg #[.bool m,.slice b k d,.int .i64 f]] w fun r w'=>(∃ v,r=.returned (.tuple #[.agg #[.bool dn,v,.int .i64 de],.int .i64 er])/\Nt w.heap.size w' v V)/\Below w.heap.size w w':=by
 obtain ⟨W1,hW1⟩:=ah (((w.alloc (.cells #[.bool n,.slice a l c,.int .i64 e] 62)).alloc (.cells #[.bool m,.slice b k d,.int .i64 f] 62)).alloc (.cells #[.bool false,.slice none 0 0,.int .i64 0] 62));obtain ⟨hB,hz1,DA,DB,DR⟩:=bg w n m (.slice a l c) (.slice b k d) e f W1 hW1;have H1:=hid (jo.o W1 hB);have SB:=(gZ hB hz1 DA DB DR);clear hB hz1 DA DB DR jo;go_enter Tryz.func93,Tryz.ntmps93;go_wp2_with fail;rw [<-hW1];clear hW1;refine H1.o.mono ?_;rintro r u1 ⟨⟨v,rfl,hN⟩,hb⟩;obtain ⟨a1,c1,rfl,_⟩:=hN.arg ae;obtain ⟨hB,hz1,DA,DB,DR⟩:=SB.o;obtain ⟨U1,bq⟩:=ah (u1.alloc (.cells #[.bool n1,.slice a1 (ws X).length c1,.int .i64 e1] 62));have hA:Below u1.heap.size u1 U1:=by rw [bq];exact af _ _
 have hs1:w.heap.size+3<=u1.heap.size:=by have:=hb.size;omega
 have hs2:u1.heap.size<U1.heap.size:=by rw [bq];simp
 have FB:=(DB.below hb).below hA;have FR:=(DR.below hb).below hA;have DX:Dk U1 u1.heap.size n1 (.slice a1 (ws X).length c1) e1:=by rw [bq];exact Dk.new _ _ _ _
 have NX:Nt (w.heap.size+3) U1 (.slice a1 (ws X).length c1) X:=(hN.mono ae).below hA;have BU:Below w.heap.size w U1:=(hB.trans (hb.mono ae)).trans (hA.mono ae);have H2:=hid (jR.o U1 BU);obtain ⟨y0,y1,y2,dw,cZ,df⟩:=FB.facts;have S1:=(jK BU FR DX NX);clear hN hb H1 hB hz1 hA DA DB DR FB FR DX NX BU SB jR
 go_upto_region 2 with fail
 rw [<-bq];clear bq;go_wp2_with fail;clear y0 y1 y2 dw cZ df;refine H2.o.mono ?_;rintro r u2 ⟨⟨v,rfl,hM⟩,hb⟩;obtain ⟨a2,c2,rfl,_⟩:=hM.arg ae;obtain ⟨BU,FR,DX,NX⟩:=S1.o;obtain ⟨U2,dR⟩:=ah (u2.alloc (.cells #[.bool m1,.slice a2 (ws Y).length c2,.int .i64 f1] 62));have hA:Below u2.heap.size u2 U2:=by rw [dR];exact af _ _
 have hs3:U1.heap.size<=u2.heap.size:=hb.size;have hs4:u2.heap.size<U2.heap.size:=by rw [dR];simp
 have GR:=(FR.below hb).below hA;have GX:=(DX.below hb).below hA;have GY:Dk U2 u2.heap.size m1 (.slice a2 (ws Y).length c2) f1:=by rw [dR];exact Dk.new _ _ _ _
 have MX:=(NX.below hb).below hA;have MY:Nt (w.heap.size+3) U2 (.slice a2 (ws Y).length c2) Y:=(hM.mono ae).below hA;have BV:Below w.heap.size w U2:=(BU.trans (hb.mono ae)).trans (hA.mono ae);have S2:=(jE BV GR GX GY MX MY);clear hM hb H2 hA FR DX NX BU GR GX GY MX MY BV S1
 go_upto_region 5 with fail
 rw [<-dR];clear dR;obtain ⟨r0,r1,r2,fZ,gp,gy⟩:=S2.o.2.1.facts;obtain ⟨x0,x1,x2,dA,dB,dC⟩:=S2.o.r2.1.facts;obtain ⟨y0,y1,y2,dw,cZ,df⟩:=S2.o.r3.1.facts;have H3:=hid (HP.o U2 _ S2.o.1 S2.o.r4.1);clear HP;go_wp2_with fail;clear r0 r1 r2 fZ gp gy x0 x1 x2 dA dB dC y0 y1 y2 dw cZ df;refine H3.o.mono ?_;rintro r u5 ⟨v,rfl,hP,hb⟩;obtain ⟨a5,c5,rfl,_⟩:=hP.arg ae;obtain ⟨BV,GR,GX,GY,MX,MY⟩:=S2.o;have hs5:U2.heap.size<=u5.heap.size:=hb.size;have zC:Below w.heap.size w u5:=BV.trans (hb.mono ae);have H4:=hid (HQ.o u5 _ zC (MY.below hb));have S5:=(jE zC (GR.below hb) (GX.below hb) (GY.below hb) (MX.below hb) (hP.mono (lo':=w.heap.size+3) ae));clear BV GR GX GY MX MY zC hP hb H3 S2 HQ;obtain ⟨r0,r1,r2,fZ,gp,gy⟩:=S5.o.2.1.facts;obtain ⟨x0,x1,x2,dA,dB,dC⟩:=S5.o.r2.1.facts;obtain ⟨y0,y1,y2,dw,cZ,df⟩:=S5.o.r3.1.facts;go_wp2_with fail;clear r0 r1 r2 fZ gp gy x0 x1 x2 dA dB dC y0 y1 y2 dw cZ df;refine H4.o.mono ?_;rintro r u6 ⟨v,rfl,hQ,hb⟩;obtain ⟨a6,c6,rfl,_⟩:=hQ.arg ae;obtain ⟨BV,GR,GX,GY,MX,MP⟩:=S5.o;have hs6:u5.heap.size<=u6.heap.size:=hb.size;have S2:=(jE (BV.trans (hb.mono ae)) (GR.below hb) (GX.below hb) (GY.below hb) (MP.below hb) (hQ.mono (lo':=w.heap.size+3) ae));clear BV GR GX GY MX MP hQ hb H4 S5;obtain ⟨r0,r1,r2,fZ,gp,gy⟩:=S2.o.2.1.facts;obtain ⟨x0,x1,x2,dA,dB,dC⟩:=S2.o.r2.1.facts;obtain ⟨y0,y1,y2,dw,cZ,df⟩:=S2.o.r3.1.facts;have H7:=hid (HC.o u6 a5 a6 c5 c6 S2.o.1 (S2.o.r4.1.bR ae).2 (S2.o.r5.bR ae).2);clear HC;go_wp2_with fail;clear r0 r1 r2 fZ gp gy x0 x1 x2 dA dB dC y0 y1 y2 dw cZ df;refine H7.o.mono ?_;rintro r u7 ⟨rfl,hb⟩;obtain ⟨BV,GR,GX,GY,MP,MQ⟩:=S2.o;have hs7:u6.heap.size<=u7.heap.size:=hb.size;have S2':=(jE (BV.trans (hb.mono ae)) (GR.below hb) (GX.below hb) (GY.below hb) (MP.below hb) (MQ.below hb));clear S2;have S2:=S2';clear BV GR GX GY MP MQ hb H7 S2';obtain ⟨r0,r1,r2,fZ,gp,gy⟩:=S2.o.2.1.facts;obtain ⟨x0,x1,x2,dA,dB,dC⟩:=S2.o.r2.1.facts;obtain ⟨y0,y1,y2,dw,cZ,df⟩:=S2.o.r3.1.facts;go_wp2_with fail;have ne1:u1.heap.size≠w.heap.size+1+1:=ae
 have V8:u2.heap.size≠w.heap.size+1+1:=ae
 have Xk:w.heap.size+1+1≠u1.heap.size:=ae
 have Xl:w.heap.size+1+1≠u2.heap.size:=ae
 have T1:=hid (HT.o u7 a5 a6 c5 c6 S2.o.1 (S2.o.r4.1.bR ae).2 (S2.o.r5.bR ae).2);have T2:=hid (HT.o u7.drew a5 a6 c5 c6 (jF S2.o.1) (Arg.drew' (S2.o.r4.1.bR ae).2) (Arg.drew' (S2.o.r5.bR ae).2))
 go_region_held3 (fun w'=>w'.cell? ⟨u1.heap.size,0,none⟩=some (.bool n1)/\w'.cell? ⟨u1.heap.size,1,none⟩=some (.slice a1 (ws X).length c1)/\w'.cell? ⟨u1.heap.size,2,none⟩=some (.int .i64 e1)/\w'.cell? ⟨u2.heap.size,0,none⟩=some (.bool m1)/\w'.cell? ⟨u2.heap.size,1,none⟩=some (.slice a2 (ws Y).length c2)/\w'.cell? ⟨u2.heap.size,2,none⟩=some (.int .i64 f1)) (go_keep) (first
  | (go_at_call 138
     first | with_reducible refine T1.o.mono ?_ | with_reducible refine T2.o.mono ?_
     rintro r u3 ⟨v,rfl,hN,hb⟩;obtain ⟨a3,c3,rfl,_⟩:=hN.arg ae;have hb3:Below u7.heap.size u7 u3:=by first | exact hb | exact ((ak _ u7).drew).trans (hb.mono (aH _))
     have Us:=hid (HL.o u3 a3 c3 (S2.o.1.trans (hb3.mono ae)) (hN.bR ae).2);have KR:=S2.o.2.1.below hb3;have KX:=S2.o.r2.1.below hb3;have KY:=S2.o.r3.1.below hb3;obtain ⟨p0,p1,p2,Li,Lj,Ll⟩:=KR.facts;obtain ⟨q0,q1,q2,Ab,Ad,Ae⟩:=KX.facts;obtain ⟨s0,s1,s2,wM,wN,wO⟩:=KY.facts;have hs9:u7.heap.size<=u3.heap.size:=hb3.size;have S9:=(jK (S2.o.1.trans (hb3.mono ae)) KR KX KY)
     clear hN hb hb3 KR KX KY)
  | (go_at_call 118
     with_reducible refine Us.o.mono ?_
     rintro r u4 ⟨⟨v,rfl,hN⟩,hb⟩;obtain ⟨a4,c4,rfl,_⟩:=hN.arg ae;have LR:=S9.o.2.1.below hb;obtain ⟨t0,t1,t2,V9,We,Wh⟩:=LR.facts;obtain ⟨i0,i1,i2,Uh,Ui,Uj⟩:=(S9.o.r2.1.below hb).facts;obtain ⟨j0,j1,j2,Xm,Xn,Xo⟩:=(S9.o.r3.below hb).facts;have FV:=ay (show Fin w.heap.size (w.heap.size+3) w u4 (.slice a4 (ws V).length c4) V from ⟨hN.mono ae,S9.o.1.trans (hb.mono ae),by have:=hb.size;omega⟩);have Hm:=ay LR
     clear hN hb LR))
 all_goals (
  go_wp2;refine aI (iN _ (w.heap.size+1+1) dn (.slice a4 (ws V).length c4) de er _ rfl rfl (Hm.o.set _ _ _)) rfl ?_;refine Fin.jA (m:=w.heap.size+3) ?_ ae
  repeat (with_reducible first | exact FV.o | refine Fin.drew ?_ | refine Fin.alloc ?_ _ | refine Fin.set ?_ _ _ _ ae ae))
theorem QO {w:World}{a b:Option Addr}{l c k d:Nat}(n m:Bool) (e f:Int) (n1 m1:Bool) (X Y:Nat) (e1 f1:Int) (lX:(ws X).length<=8192) (lY:(ws Y).length<=8192) (hX:((((ws X).length:Nat):Int)==0)=false) (hY:((((ws Y).length:Nat):Int)==0)=false) (JE:-1048576<=e1) (JF:e1<=1048576) (JG:-1048576<=f1) (JH:f1<=1048576) (g:Int) (hg:min e1 f1=g) (Zi:-1048576<=g) (Zj:g<=1048576) (P Q:Nat) (lP:(ws P).length<=1000000) (lQ:(ws Q).length<=1000000) (h5:(ws P).length<=8192) (h6:(ws Q).length<=8192) (hs:(n1==m1)=false) (z:Int) (hz:z<0) (L:Nat) (lL:(ws L).length<=1000000) (dn:Bool) (V:Nat) (de er:Int) (lV:(ws V).length<=8192)
 (jo:Hid (∀ u,Below w.heap.size w u->Calls Tryz.prog 117 #[.agg #[.bool n,.slice a l c,.int .i64 e]] u fun r w'=>(∃ v,r=.returned (.tuple #[.agg #[.bool n1,v,.int .i64 e1],.bool true])/\Nt u.heap.size w' v X)/\Below u.heap.size u w'))
 (jR:Hid (∀ u,Below w.heap.size w u->Calls Tryz.prog 117 #[.agg #[.bool m,.slice b k d,.int .i64 f]] u fun r w'=>(∃ v,r=.returned (.tuple #[.agg #[.bool m1,v,.int .i64 f1],.bool true])/\Nt u.heap.size w' v Y)/\Below u.heap.size u w'))
 (HP:Hid (∀ (u:World) (v:Value),Below w.heap.size w u->Nt (w.heap.size+3) u v X->Calls Tryz.prog 123 #[v,.int .i64 (e1-g)] u fun r w'=>∃ v,r=.returned v/\Nt u.heap.size w' v P/\Below u.heap.size u w'))
 (HQ:Hid (∀ (u:World) (v:Value),Below w.heap.size w u->Nt (w.heap.size+3) u v Y->Calls Tryz.prog 123 #[v,.int .i64 (f1-g)] u fun r w'=>∃ v,r=.returned v/\Nt u.heap.size w' v Q/\Below u.heap.size u w'))
 (HC:Hid (∀ (u:World) (p q:Option Addr) (s t:Nat),Below w.heap.size w u->Arg u p (ws P).length s (ws P)->Arg u q (ws Q).length t (ws Q)->Calls Tryz.prog 137 #[.slice p (ws P).length s,.slice q (ws Q).length t] u fun r w'=>r=.returned (.int .i64 z)/\Below u.heap.size u w'))
 (HT:Hid (∀ (u:World) (p q:Option Addr) (s t:Nat),Below w.heap.size w u->Arg u p (ws Q).length s (ws Q)->Arg u q (ws P).length t (ws P)->Calls Tryz.prog 138 #[.slice p (ws Q).length s,.slice q (ws P).length t] u fun r w'=>∃ v,r=.returned v/\Nt u.heap.size w' v L/\Below u.heap.size u w'))
 (HL:Hid (∀ (u:World) (p:Option Addr) (s:Nat),Below w.heap.size w u->Arg u p (ws L).length s (ws L)->Calls Tryz.prog 118 #[.bool m1,.slice p (ws L).length s,.int .i64 g] u fun r w'=>(∃ v,r=.returned (.tuple #[.agg #[.bool dn,v,.int .i64 de],.int .i64 er])/\Nt u.heap.size w' v V)/\Below u.heap.size u w')):Calls Tryz.prog 93 #[.agg #[.bool n,.slice a l c,.int .i64 e],.agg #[.bool m,.slice b k d,.int .i64 f]] w fun r w'=>(∃ v,r=.returned (.tuple #[.agg #[.bool dn,v,.int .i64 de],.int .i64 er])/\Nt w.heap.size w' v V)/\Below w.heap.size w w':=by
 obtain ⟨W1,hW1⟩:=ah (((w.alloc (.cells #[.bool n,.slice a l c,.int .i64 e] 62)).alloc (.cells #[.bool m,.slice b k d,.int .i64 f] 62)).alloc (.cells #[.bool false,.slice none 0 0,.int .i64 0] 62));obtain ⟨hB,hz1,DA,DB,DR⟩:=bg w n m (.slice a l c) (.slice b k d) e f W1 hW1;have H1:=hid (jo.o W1 hB);have SB:=(gZ hB hz1 DA DB DR);clear hB hz1 DA DB DR jo;go_enter Tryz.func93,Tryz.ntmps93;go_wp2_with fail;rw [<-hW1];clear hW1;refine H1.o.mono ?_;rintro r u1 ⟨⟨v,rfl,hN⟩,hb⟩;obtain ⟨a1,c1,rfl,_⟩:=hN.arg ae;obtain ⟨hB,hz1,DA,DB,DR⟩:=SB.o;obtain ⟨U1,bq⟩:=ah (u1.alloc (.cells #[.bool n1,.slice a1 (ws X).length c1,.int .i64 e1] 62));have hA:Below u1.heap.size u1 U1:=by rw [bq];exact af _ _
 have hs1:w.heap.size+3<=u1.heap.size:=by have:=hb.size;omega
 have hs2:u1.heap.size<U1.heap.size:=by rw [bq];simp
 have FB:=(DB.below hb).below hA;have FR:=(DR.below hb).below hA;have DX:Dk U1 u1.heap.size n1 (.slice a1 (ws X).length c1) e1:=by rw [bq];exact Dk.new _ _ _ _
 have NX:Nt (w.heap.size+3) U1 (.slice a1 (ws X).length c1) X:=(hN.mono ae).below hA;have BU:Below w.heap.size w U1:=(hB.trans (hb.mono ae)).trans (hA.mono ae);have H2:=hid (jR.o U1 BU);obtain ⟨y0,y1,y2,dw,cZ,df⟩:=FB.facts;have S1:=(jK BU FR DX NX);clear hN hb H1 hB hz1 hA DA DB DR FB FR DX NX BU SB jR
 go_upto_region 2 with fail
 rw [<-bq];clear bq;go_wp2_with fail;clear y0 y1 y2 dw cZ df;refine H2.o.mono ?_;rintro r u2 ⟨⟨v,rfl,hM⟩,hb⟩;obtain ⟨a2,c2,rfl,_⟩:=hM.arg ae;obtain ⟨BU,FR,DX,NX⟩:=S1.o;obtain ⟨U2,dR⟩:=ah (u2.alloc (.cells #[.bool m1,.slice a2 (ws Y).length c2,.int .i64 f1] 62));have hA:Below u2.heap.size u2 U2:=by rw [dR];exact af _ _
 have hs3:U1.heap.size<=u2.heap.size:=hb.size;have hs4:u2.heap.size<U2.heap.size:=by rw [dR];simp
 have GR:=(FR.below hb).below hA;have GX:=(DX.below hb).below hA;have GY:Dk U2 u2.heap.size m1 (.slice a2 (ws Y).length c2) f1:=by rw [dR];exact Dk.new _ _ _ _
 have MX:=(NX.below hb).below hA;have MY:Nt (w.heap.size+3) U2 (.slice a2 (ws Y).length c2) Y:=(hM.mono ae).below hA;have BV:Below w.heap.size w U2:=(BU.trans (hb.mono ae)).trans (hA.mono ae);have S2:=(jE BV GR GX GY MX MY);clear hM hb H2 hA FR DX NX BU GR GX GY MX MY BV S1
 go_upto_region 5 with fail
 rw [<-dR];clear dR;obtain ⟨r0,r1,r2,fZ,gp,gy⟩:=S2.o.2.1.facts;obtain ⟨x0,x1,x2,dA,dB,dC⟩:=S2.o.r2.1.facts;obtain ⟨y0,y1,y2,dw,cZ,df⟩:=S2.o.r3.1.facts;have H3:=hid (HP.o U2 _ S2.o.1 S2.o.r4.1);clear HP;go_wp2_with fail;clear r0 r1 r2 fZ gp gy x0 x1 x2 dA dB dC y0 y1 y2 dw cZ df;refine H3.o.mono ?_;rintro r u5 ⟨v,rfl,hP,hb⟩;obtain ⟨a5,c5,rfl,_⟩:=hP.arg ae;obtain ⟨BV,GR,GX,GY,MX,MY⟩:=S2.o;have hs5:U2.heap.size<=u5.heap.size:=hb.size;have zC:Below w.heap.size w u5:=BV.trans (hb.mono ae);have H4:=hid (HQ.o u5 _ zC (MY.below hb));have S5:=(jE zC (GR.below hb) (GX.below hb) (GY.below hb) (MX.below hb) (hP.mono (lo':=w.heap.size+3) ae));clear BV GR GX GY MX MY zC hP hb H3 S2 HQ;obtain ⟨r0,r1,r2,fZ,gp,gy⟩:=S5.o.2.1.facts;obtain ⟨x0,x1,x2,dA,dB,dC⟩:=S5.o.r2.1.facts;obtain ⟨y0,y1,y2,dw,cZ,df⟩:=S5.o.r3.1.facts;go_wp2_with fail;clear r0 r1 r2 fZ gp gy x0 x1 x2 dA dB dC y0 y1 y2 dw cZ df;refine H4.o.mono ?_;rintro r u6 ⟨v,rfl,hQ,hb⟩;obtain ⟨a6,c6,rfl,_⟩:=hQ.arg ae;obtain ⟨BV,GR,GX,GY,MX,MP⟩:=S5.o;have hs6:u5.heap.size<=u6.heap.size:=hb.size;have S2:=(jE (BV.trans (hb.mono ae)) (GR.below hb) (GX.below hb) (GY.below hb) (MP.below hb) (hQ.mono (lo':=w.heap.size+3) ae));clear BV GR GX GY MX MP hQ hb H4 S5;obtain ⟨r0,r1,r2,fZ,gp,gy⟩:=S2.o.2.1.facts;obtain ⟨x0,x1,x2,dA,dB,dC⟩:=S2.o.r2.1.facts;obtain ⟨y0,y1,y2,dw,cZ,df⟩:=S2.o.r3.1.facts;have H7:=hid (HC.o u6 a5 a6 c5 c6 S2.o.1 (S2.o.r4.1.bR ae).2 (S2.o.r5.bR ae).2);clear HC;go_wp2_with fail;clear r0 r1 r2 fZ gp gy x0 x1 x2 dA dB dC y0 y1 y2 dw cZ df;refine H7.o.mono ?_;rintro r u7 ⟨rfl,hb⟩;obtain ⟨BV,GR,GX,GY,MP,MQ⟩:=S2.o;have hs7:u6.heap.size<=u7.heap.size:=hb.size;have S2':=(jE (BV.trans (hb.mono ae)) (GR.below hb) (GX.below hb) (GY.below hb) (MP.below hb) (MQ.below hb));clear S2;have S2:=S2';clear BV GR GX GY MP MQ hb H7 S2';obtain ⟨r0,r1,r2,fZ,gp,gy⟩:=S2.o.2.1.facts;obtain ⟨x0,x1,x2,dA,dB,dC⟩:=S2.o.r2.1.facts;obtain ⟨y0,y1,y2,dw,cZ,df⟩:=S2.o.r3.1.facts;go_wp2_with fail;have ne1:u1.heap.size≠w.heap.size+1+1:=ae
 have V8:u2.heap.size≠w.heap.size+1+1:=ae
 have Xk:w.heap.size+1+1≠u1.heap.size:=ae
 have Xl:w.heap.size+1+1≠u2.heap.size:=ae
 have T1:=hid (HT.o u7 a6 a5 c6 c5 S2.o.1 (S2.o.r5.bR ae).2 (S2.o.r4.1.bR ae).2);have T2:=hid (HT.o u7.drew a6 a5 c6 c5 (jF S2.o.1) (Arg.drew' (S2.o.r5.bR ae).2) (Arg.drew' (S2.o.r4.1.bR ae).2))
 go_region_held3 (fun w'=>w'.cell? ⟨u1.heap.size,0,none⟩=some (.bool n1)/\w'.cell? ⟨u1.heap.size,1,none⟩=some (.slice a1 (ws X).length c1)/\w'.cell? ⟨u1.heap.size,2,none⟩=some (.int .i64 e1)/\w'.cell? ⟨u2.heap.size,0,none⟩=some (.bool m1)/\w'.cell? ⟨u2.heap.size,1,none⟩=some (.slice a2 (ws Y).length c2)/\w'.cell? ⟨u2.heap.size,2,none⟩=some (.int .i64 f1)) (go_keep) (first
  | (go_at_call 138
     first | with_reducible refine T1.o.mono ?_ | with_reducible refine T2.o.mono ?_
     rintro r u3 ⟨v,rfl,hN,hb⟩;obtain ⟨a3,c3,rfl,_⟩:=hN.arg ae;have hb3:Below u7.heap.size u7 u3:=by first | exact hb | exact ((ak _ u7).drew).trans (hb.mono (aH _))
     have Us:=hid (HL.o u3 a3 c3 (S2.o.1.trans (hb3.mono ae)) (hN.bR ae).2);have KR:=S2.o.2.1.below hb3;have KX:=S2.o.r2.1.below hb3;have KY:=S2.o.r3.1.below hb3;obtain ⟨p0,p1,p2,Li,Lj,Ll⟩:=KR.facts;obtain ⟨q0,q1,q2,Ab,Ad,Ae⟩:=KX.facts;obtain ⟨s0,s1,s2,wM,wN,wO⟩:=KY.facts;have hs9:u7.heap.size<=u3.heap.size:=hb3.size;have S9:=(jK (S2.o.1.trans (hb3.mono ae)) KR KX KY)
     clear hN hb hb3 KR KX KY)
  | (go_at_call 118
     with_reducible refine Us.o.mono ?_
     rintro r u4 ⟨⟨v,rfl,hN⟩,hb⟩;obtain ⟨a4,c4,rfl,_⟩:=hN.arg ae;have LR:=S9.o.2.1.below hb;obtain ⟨t0,t1,t2,V9,We,Wh⟩:=LR.facts;obtain ⟨i0,i1,i2,Uh,Ui,Uj⟩:=(S9.o.r2.1.below hb).facts;obtain ⟨j0,j1,j2,Xm,Xn,Xo⟩:=(S9.o.r3.below hb).facts;have FV:=ay (show Fin w.heap.size (w.heap.size+3) w u4 (.slice a4 (ws V).length c4) V from ⟨hN.mono ae,S9.o.1.trans (hb.mono ae),by have:=hb.size;omega⟩);have Hm:=ay LR
     clear hN hb LR))
 all_goals (
  go_wp2;refine aI (iN _ (w.heap.size+1+1) dn (.slice a4 (ws V).length c4) de er _ rfl rfl (Hm.o.set _ _ _)) rfl ?_;refine Fin.jA (m:=w.heap.size+3) ?_ ae
  repeat (with_reducible first | exact FV.o | refine Fin.drew ?_ | refine Fin.alloc ?_ _ | refine Fin.set ?_ _ _ _ ae ae))
theorem QP (W:World) (g:Nat) (n:Bool) (v:Value) (e k:Int) (tmps:Array Value) (ht:tmps[4]?.getD undef=.pointer (some ⟨g,0,none⟩)) (hk:tmps[5]?.getD undef=.int .i64 k) (D:Dk W g n v e) :
 (results Tryz.f112 tmps).run Tryz.prog W=.ok (.tuple #[.agg #[.bool n,v,.int .i64 e],.int .i64 k]) W:=by
 obtain ⟨x0,x1,x2,dA,dB,dC⟩:=D.facts;simp [results,Tryz.results112,ht,hk,go_sem,x0,x1,x2]
theorem Ob (W:World) (g:Nat) (n:Bool) (v:Value) (e k:Int) (tmps:Array Value) (ht:tmps[4]?.getD undef=.pointer (some ⟨g,0,none⟩)) (hk:tmps[5]?.getD undef=.int .i64 k) (D:Dk W g n v e) :
 (results Tryz.f81 tmps).run Tryz.prog W=.ok (.tuple #[.agg #[.bool n,v,.int .i64 e],.int .i64 k]) W:=by
 obtain ⟨x0,x1,x2,dA,dB,dC⟩:=D.facts;simp [results,Tryz.results81,ht,hk,go_sem,x0,x1,x2]
theorem Oc {w:World}{a b:Option Addr}{l c k d:Nat}(n m:Bool) (e f:Int) (dn:Bool) (V:Nat) (de er:Int) (lV:(ws V).length<=8192)
 (HT:Hid (∀ u,Calls Tryz.prog 161 #[.agg #[.bool m,.slice b k d,.int .i64 f]] u fun r w'=>r=.returned (.agg #[.bool (!m),.slice b k d,.int .i64 f])/\Below u.heap.size u w'))
 (HA:Hid (∀ u,Below w.heap.size w u->Calls Tryz.prog 88 #[.agg #[.bool n,.slice a l c,.int .i64 e],.agg #[.bool (!m),.slice b k d,.int .i64 f]] u fun r w'=>(∃ v,r=.returned (.tuple #[.agg #[.bool dn,v,.int .i64 de],.int .i64 er])/\Nt u.heap.size w' v V)/\Below u.heap.size u w')) :
 Calls Tryz.prog 112 #[.agg #[.bool n,.slice a l c,.int .i64 e],.agg #[.bool m,.slice b k d,.int .i64 f]] w fun r w'=>(∃ v,r=.returned (.tuple #[.agg #[.bool dn,v,.int .i64 de],.int .i64 er])/\Nt w.heap.size w' v V)/\Below w.heap.size w w':=by
 obtain ⟨W1,hW1⟩:=ah (((w.alloc (.cells #[.bool n,.slice a l c,.int .i64 e] 62)).alloc (.cells #[.bool m,.slice b k d,.int .i64 f] 62)).alloc (.cells #[.bool false,.slice none 0 0,.int .i64 0] 62));obtain ⟨hB,hz1,DA,DB,DR⟩:=bg w n m (.slice a l c) (.slice b k d) e f W1 hW1;have T1:=hid (HT.o W1);have T2:=hid (HT.o W1.drew);obtain ⟨x0,x1,x2,dA,dB,dC⟩:=DA.facts;obtain ⟨y0,y1,y2,dw,cZ,df⟩:=DB.facts;obtain ⟨r0,r1,r2,fZ,gp,gy⟩:=DR.facts;have hs1:w.heap.size+3<=W1.heap.size:=ae
 have SB:=(jK hB DA DB DR);clear hB hz1 DA DB DR;go_enter Tryz.func112,Tryz.ntmps112;go_wp2_with fail;rw [<-hW1];clear hW1;have ne1:w.heap.size≠w.heap.size+1+1:=ae
 have V8:w.heap.size+1≠w.heap.size+1+1:=ae
 have Xk:w.heap.size+1+1≠w.heap.size:=ae
 have Xl:w.heap.size+1+1≠w.heap.size+1:=ae
 go_region_held3 (fun w'=>w'.cell? ⟨w.heap.size,0,none⟩=some (.bool n)/\w'.cell? ⟨w.heap.size,1,none⟩=some (.slice a l c)/\w'.cell? ⟨w.heap.size,2,none⟩=some (.int .i64 e)/\w'.cell? ⟨w.heap.size+1,0,none⟩=some (.bool m)/\w'.cell? ⟨w.heap.size+1,1,none⟩=some (.slice b k d)/\w'.cell? ⟨w.heap.size+1,2,none⟩=some (.int .i64 f)) (go_keep) (first
  | (go_at_call 161
     first | with_reducible refine T1.o.mono ?_ | with_reducible refine T2.o.mono ?_
     rintro r u1 ⟨rfl,hb⟩;have hb1:Below W1.heap.size W1 u1:=by first | exact hb | exact ((ak _ W1).drew).trans (hb.mono (aH _))
     have hs2:W1.heap.size<=u1.heap.size:=hb1.size;have BW:Below w.heap.size w u1:=SB.o.1.trans (hb1.mono ae);have HA1:=hid (HA.o u1 BW);have KR:=SB.o.r3.below hb1;obtain ⟨p0,p1,p2,Li,Lj,Ll⟩:=KR.facts;obtain ⟨q0,q1,q2,Ab,Ad,Ae⟩:=(SB.o.2.1.below hb1).facts;obtain ⟨s0,s1,s2,wM,wN,wO⟩:=(SB.o.r2.1.below hb1).facts;have S1:=(jK BW KR (SB.o.2.1.below hb1) (SB.o.r2.1.below hb1))
     clear hb hb1 KR BW)
  | (go_at_call 88
     with_reducible refine HA1.o.mono ?_
     rintro r u2 ⟨⟨v,rfl,hN⟩,hb⟩;obtain ⟨a4,c4,rfl,_⟩:=hN.arg ae;have LR:=S1.o.2.1.below hb;obtain ⟨t0,t1,t2,V9,We,Wh⟩:=LR.facts;obtain ⟨i0,i1,i2,Uh,Ui,Uj⟩:=(S1.o.r2.1.below hb).facts;obtain ⟨j0,j1,j2,Xm,Xn,Xo⟩:=(S1.o.r3.below hb).facts;have FV:=ay (show Fin w.heap.size (w.heap.size+3) w u2 (.slice a4 (ws V).length c4) V from ⟨hN.mono ae,S1.o.1.trans (hb.mono ae),by have:=hb.size;omega⟩);have Hm:=ay LR
     clear hN hb LR))
 all_goals (
  go_wp2;refine aI (QP _ (w.heap.size+1+1) dn (.slice a4 (ws V).length c4) de er _ rfl rfl (Hm.o.set _ _ _)) rfl ?_;refine Fin.jA (m:=w.heap.size+3) ?_ ae
  repeat (with_reducible first | exact FV.o | refine Fin.drew ?_ | refine Fin.alloc ?_ _ | refine Fin.set ?_ _ _ _ ae ae))
theorem Kc {w:World}{a b:Option Addr}{l c k d:Nat}(n m:Bool) (e f:Int) (dn:Bool) (V:Nat) (de er:Int) (lV:(ws V).length<=8192)
 (HT:Hid (∀ u,Calls Tryz.prog 120 #[.agg #[.bool m,.slice b k d,.int .i64 f]] u fun r w'=>r=.returned (.agg #[.bool (!m),.slice b k d,.int .i64 f])/\Below u.heap.size u w'))
 (HA:Hid (∀ u,Below w.heap.size w u->Calls Tryz.prog 93 #[.agg #[.bool n,.slice a l c,.int .i64 e],.agg #[.bool (!m),.slice b k d,.int .i64 f]] u fun r w'=>(∃ v,r=.returned (.tuple #[.agg #[.bool dn,v,.int .i64 de],.int .i64 er])/\Nt u.heap.size w' v V)/\Below u.heap.size u w')) :
 Calls Tryz.prog 81 #[.agg #[.bool n,.slice a l c,.int .i64 e],.agg #[.bool m,.slice b k d,.int .i64 f]] w fun r w'=>(∃ v,r=.returned (.tuple #[.agg #[.bool dn,v,.int .i64 de],.int .i64 er])/\Nt w.heap.size w' v V)/\Below w.heap.size w w':=by
 obtain ⟨W1,hW1⟩:=ah (((w.alloc (.cells #[.bool n,.slice a l c,.int .i64 e] 62)).alloc (.cells #[.bool m,.slice b k d,.int .i64 f] 62)).alloc (.cells #[.bool false,.slice none 0 0,.int .i64 0] 62));obtain ⟨hB,hz1,DA,DB,DR⟩:=bg w n m (.slice a l c) (.slice b k d) e f W1 hW1;have T1:=hid (HT.o W1);have T2:=hid (HT.o W1.drew);obtain ⟨x0,x1,x2,dA,dB,dC⟩:=DA.facts;obtain ⟨y0,y1,y2,dw,cZ,df⟩:=DB.facts;obtain ⟨r0,r1,r2,fZ,gp,gy⟩:=DR.facts;have hs1:w.heap.size+3<=W1.heap.size:=ae
 have SB:=(jK hB DA DB DR);clear hB hz1 DA DB DR;go_enter Tryz.func81,Tryz.ntmps81;go_wp2_with fail;rw [<-hW1];clear hW1;have ne1:w.heap.size≠w.heap.size+1+1:=ae
 have V8:w.heap.size+1≠w.heap.size+1+1:=ae
 have Xk:w.heap.size+1+1≠w.heap.size:=ae
 have Xl:w.heap.size+1+1≠w.heap.size+1:=ae
 go_region_held3 (fun w'=>w'.cell? ⟨w.heap.size,0,none⟩=some (.bool n)/\w'.cell? ⟨w.heap.size,1,none⟩=some (.slice a l c)/\w'.cell? ⟨w.heap.size,2,none⟩=some (.int .i64 e)/\w'.cell? ⟨w.heap.size+1,0,none⟩=some (.bool m)/\w'.cell? ⟨w.heap.size+1,1,none⟩=some (.slice b k d)/\w'.cell? ⟨w.heap.size+1,2,none⟩=some (.int .i64 f)) (go_keep) (first
  | (go_at_call 120
     first | with_reducible refine T1.o.mono ?_ | with_reducible refine T2.o.mono ?_
     rintro r u1 ⟨rfl,hb⟩;have hb1:Below W1.heap.size W1 u1:=by first | exact hb | exact ((ak _ W1).drew).trans (hb.mono (aH _))
     have hs2:W1.heap.size<=u1.heap.size:=hb1.size;have BW:Below w.heap.size w u1:=SB.o.1.trans (hb1.mono ae);have HA1:=hid (HA.o u1 BW);have KR:=SB.o.r3.below hb1;obtain ⟨p0,p1,p2,Li,Lj,Ll⟩:=KR.facts;obtain ⟨q0,q1,q2,Ab,Ad,Ae⟩:=(SB.o.2.1.below hb1).facts;obtain ⟨s0,s1,s2,wM,wN,wO⟩:=(SB.o.r2.1.below hb1).facts;have S1:=(jK BW KR (SB.o.2.1.below hb1) (SB.o.r2.1.below hb1))
     clear hb hb1 KR BW)
  | (go_at_call 93
     with_reducible refine HA1.o.mono ?_
     rintro r u2 ⟨⟨v,rfl,hN⟩,hb⟩;obtain ⟨a4,c4,rfl,_⟩:=hN.arg ae;have LR:=S1.o.2.1.below hb;obtain ⟨t0,t1,t2,V9,We,Wh⟩:=LR.facts;obtain ⟨i0,i1,i2,Uh,Ui,Uj⟩:=(S1.o.r2.1.below hb).facts;obtain ⟨j0,j1,j2,Xm,Xn,Xo⟩:=(S1.o.r3.below hb).facts;have FV:=ay (show Fin w.heap.size (w.heap.size+3) w u2 (.slice a4 (ws V).length c4) V from ⟨hN.mono ae,S1.o.1.trans (hb.mono ae),by have:=hb.size;omega⟩);have Hm:=ay LR
     clear hN hb LR))
 all_goals (
  go_wp2;refine aI (Ob _ (w.heap.size+1+1) dn (.slice a4 (ws V).length c4) de er _ rfl rfl (Hm.o.set _ _ _)) rfl ?_;refine Fin.jA (m:=w.heap.size+3) ?_ ae
  repeat (with_reducible first | exact FV.o | refine Fin.drew ?_ | refine Fin.alloc ?_ _ | refine Fin.set ?_ _ _ _ ae ae))
theorem Ke (n:Bool) (X:Nat) (e:Int) (m:Bool) (Y:Nat) (f:Int):(ws (dX (jI n X e m Y f))).length<=8192:=by
 unfold jI
 split
 · show (ws 0).length<=8192;rw [bN];exact lh _
 · split
   · exact aS _ _ _
   · split <;> exact aS _ _ _
theorem Cq (n:Bool) (X:Nat) (e:Int) (m:Bool) (Y:Nat) (f:Int):(ws (dX (fQ (mkS n X e) (mkS m Y f)))).length<=8192:=by
 have z0:(ws 0).length<=8192:=by rw [bN];exact lh _
 cases hx:mkS n X e with
 | none=>exact z0
 | some x =>
   cases hy:mkS m Y f with
   | none=>exact z0
   | some y =>
     obtain ⟨n1,X1,e1⟩:=x;obtain ⟨m1,Y1,f1⟩:=y;show (ws (dX (qB _ _))).length<=8192;unfold qB
     split
     · exact dY (cu hy)
     · split
       · exact dY (cu hx)
       · split <;> exact Ke _ _ _ _ _ _
theorem Ut (n m:Bool) (e f:Int):mkS n 0 e=mkS m 0 f:=by unfold mkS;rw [if_pos rfl,if_pos rfl]
theorem QQ {n m:Bool}(h:¬ n=m):m=(!n)/\n=(!m)/\¬ m=n:=by
 cases n <;> cases m <;> first | exact absurd rfl h | exact ⟨rfl,rfl,fun h=>by cases h⟩
theorem yg {w:World}{a b:Option Addr}{l c k d:Nat}{xs ys:List Nat}(h1:Arg w a l c xs) (h2:Arg w b k d ys) (hl:l<=2000000) (hk:k<=2000000) (n m:Bool) (e f:Int) (he0:-9223372036854775808<=e) (he1:e<=9223372036854775807) (hf0:-9223372036854775808<=f) (hf1:f<=9223372036854775807) :
 Calls Tryz.prog 93 #[.agg #[.bool n,.slice a l c,.int .i64 e],.agg #[.bool m,.slice b k d,.int .i64 f]] w fun r w'=>di w.heap.size w' r (fQ (mkS n (val xs) e) (mkS m (val ys) f))/\Below w.heap.size w w':=by
 have zero:∀ {r:Ending} {w':World},(r=.returned (.tuple #[.agg #[.bool false,.slice none 0 0,.int .i64 0],.int .i64 2])/\Below w.heap.size w w')->di w.heap.size w' r none/\Below w.heap.size w w':=fun ⟨h1,h2⟩=>⟨⟨_,h1,Nt.nil _ _⟩,h2⟩;have M1:=hid fun u (hu:Below w.heap.size w u)=>lD (h1.below hu) hl n e he0 he1;have M2:=hid fun u (hu:Below w.heap.size w u)=>lD (h2.below hu) hk m f hf0 hf1;have z0:(ws 0).length<=8192:=by rw [bN];exact lh _
 cases hx:mkS n (val xs) e with
 | none =>
   cases hy:mkS m (val ys) f with
   | none =>
     rw [hx] at M1;rw [hy] at M2;exact (QI n m e f false false 0 0 0 0 z0 z0 M1 M2).mono fun r w' h=>zero h
   | some y =>
     obtain ⟨m1,Y,f1⟩:=y;rw [hx] at M1;rw [hy] at M2;exact (QJ n m e f false m1 0 Y 0 f1 z0 (dY (cu hy)) M1 M2).mono fun r w' h=>zero h
 | some x =>
   obtain ⟨n1,X,e1⟩:=x
   cases hy:mkS m (val ys) f with
   | none =>
     rw [hx] at M1;rw [hy] at M2;exact (QK n m e f n1 false X 0 e1 0 (dY (cu hx)) z0 M1 M2).mono fun r w' h=>zero h
   | some y =>
     obtain ⟨m1,Y,f1⟩:=y;rw [hx] at M1;rw [hy] at M2;have FX:=cu hx;have FY:=cu hy;have lX:=dY FX;have lY:=dY FY;have:=FX.up;have:=FX.down;have:=FY.up;have:=FY.down;show Calls _ _ _ _ fun r w'=>di w.heap.size w' r (qB (n1,X,e1) (m1,Y,f1))/\_;unfold qB;simp only
     by_cases hX0:X=0
     · rw [if_pos hX0];exact Kb n m e f n1 m1 X Y e1 f1 lX lY ((bZ X).2 hX0) M1 M2
     · rw [if_neg hX0]
       by_cases hY0:Y=0
       · rw [if_pos hY0];exact ET n m e f n1 m1 X Y e1 f1 lX lY (dG hX0) ((bZ Y).2 hY0) M1 M2
       · rw [if_neg hY0];obtain ⟨g,hg⟩:∃ g,min e1 f1=g:=⟨_,rfl⟩;have hg2:g=f1/\f1<e1\/g=e1/\e1<=f1:=ae
         have up:∀ (d:Int) (Z:Nat),0<=d->(if d<0 then Z/2^(-d).toNat else Z*2^d.toNat)=Z*2^d.toNat:=fun d Z h=>if_neg ae;obtain ⟨P,hP⟩:∃ P,X*2^(e1-g).toNat=P:=⟨_,rfl⟩;obtain ⟨Q,hQ⟩:∃ Q,Y*2^(f1-g).toNat=Q:=⟨_,rfl⟩
         have HP:Hid (∀ (u:World) (v:Value),Below w.heap.size w u->Nt (w.heap.size+3) u v X->Calls Tryz.prog 123 #[v,.int .i64 (e1-g)] u fun r w'=>∃ v,r=.returned v/\Nt u.heap.size w' v P/\Below u.heap.size u w'):=fun u v hu hN=>by
          have:=nY hN (e1-g) ae ae hX0 ae;rw [up _ _ ae,hP] at this;exact this
         have HQ:Hid (∀ (u:World) (v:Value),Below w.heap.size w u->Nt (w.heap.size+3) u v Y->Calls Tryz.prog 123 #[v,.int .i64 (f1-g)] u fun r w'=>∃ v,r=.returned v/\Nt u.heap.size w' v Q/\Below u.heap.size u w'):=fun u v hu hN=>by
          have:=nY hN (f1-g) ae ae hY0 ae;rw [up _ _ ae,hQ] at this;exact this
         have bP:bl P=bl X+(e1-g).toNat:=by rw [<-hP];exact Ch _ _ hX0
         have bQ:bl Q=bl Y+(f1-g).toNat:=by rw [<-hQ];exact Ch _ _ hY0
         have s1:=FX.size;have s2:=FY.size;have wP:=gW P;have wQ:=gW Q
         have kind:(if e1<f1 then jI m1 Y f1 n1 X e1 else jI n1 X e1 m1 Y f1)=(if 8192<(ws P).length\/8192<(ws Q).length then none else if n1=m1 then mkS n1 (P+Q) g else if Q<=P then mkS n1 (P-Q) g else mkS m1 (Q-P) g):=by
          rcases hg2 with ⟨rfl,h⟩|⟨rfl,h⟩
          · rw [if_neg ae];rw [Int.sub_self,show (0:Int).toNat=0 from rfl,fG,dU] at hQ;subst hQ;unfold jI;rw [hP]
            by_cases hL:262144<bl X+(e1-g).toNat
            · rw [if_pos hL,if_pos (.inl ae)]
            · rw [if_neg hL,if_neg (show ¬ (8192<(ws P).length\/8192<(ws Y).length) by omega)]
              by_cases hs:n1=m1
              · rw [if_pos hs,if_pos hs]
              · rw [if_neg hs,if_neg hs,<-(QQ hs).1]
          · rw [Int.sub_self,show (0:Int).toNat=0 from rfl,fG,dU] at hP;subst hP
            by_cases he:g<f1
            · rw [if_pos he];unfold jI;rw [hQ]
              by_cases hL:262144<bl Y+(f1-g).toNat
              · rw [if_pos hL,if_pos (.inr ae)]
              · rw [if_neg hL,if_neg (show ¬ (8192<(ws X).length\/8192<(ws Q).length) by omega)]
                by_cases hs:m1=n1
                · rw [if_pos hs,if_pos hs.symm,hs,mV]
                · rw [if_neg hs,if_neg (QQ hs).2.2,<-(QQ hs).1];rcases mY X Q with q|q|q
                  · rw [if_pos (show X<=Q by omega),if_neg (show ¬ Q<=X by omega)]
                  · rw [q];simp only [aH,if_true,Ak];exact Ut _ _ _ _
                  · rw [if_neg (show ¬ X<=Q by omega),if_pos (show Q<=X by omega)]
            · obtain rfl:g=f1:=ae
              rw [if_neg he];rw [Int.sub_self,show (0:Int).toNat=0 from rfl,fG,dU] at hQ;subst hQ;unfold jI;rw [Int.sub_self,show (0:Int).toNat=0 from rfl,fG,dU,if_neg (show ¬ 262144<bl X+0 by omega),if_neg (show ¬ (8192<(ws X).length\/8192<(ws Y).length) by omega)]
              by_cases hs:n1=m1
              · rw [if_pos hs,if_pos hs]
              · rw [if_neg hs,if_neg hs,<-(QQ hs).1]
         rw [kind];clear kind;have Xp:∀ u p q s t,Arg u p (ws P).length s (ws P)->Arg u q (ws Q).length t (ws Q)->Calls Tryz.prog 137 #[.slice p (ws P).length s,.slice q (ws Q).length t] u fun r w'=>r=.returned (.int .i64 (bE P Q))/\Below u.heap.size u w':=fun u p q s t hA hB=>jH hA hB (bE P Q) (by rw [ax,ax])
         by_cases c1:8192<(ws P).length
         · rw [if_pos (.inl c1)];exact (QL n m e f n1 m1 X Y e1 f1 lX lY (dG hX0) (dG hY0) ae ae ae ae g hg ae ae P Q ae ae c1 M1 M2 HP HQ).mono fun r w' h=>zero h
         · by_cases c2:8192<(ws Q).length
           · rw [if_pos (.inr c2)];exact (QM n m e f n1 m1 X Y e1 f1 lX lY (dG hX0) (dG hY0) ae ae ae ae g hg ae ae P Q ae ae ae c2 M1 M2 HP HQ).mono fun r w' h=>zero h
           · rw [if_neg ae]
             by_cases hs:n1=m1
             · rw [if_pos hs]
               have lL:(ws (P+Q)).length<=8193:=by
                have h1:P<pw 8192:=(aV _ _).1 ae;have h2:Q<pw 8192:=(aV _ _).1 ae;exact (aV _ _).2 (IU h1 h2)
               exact Oa n m e f n1 m1 X Y e1 f1 lX lY (dG hX0) (dG hY0) ae ae ae ae g hg ae ae P Q ae ae ae ae (by simp [hs]) (P+Q) ae _ _ _ _ (aS n1 (P+Q) g) M1 M2 HP HQ
                (hid fun u p q s t hu hA hB=>xU hA hB ae ae (by rw [ax,ax]))
                (hid fun u p s hu hA=>by have:=og hA ae n1 g ae ae;rw [ax] at this;exact this)
             · rw [if_neg hs]
               by_cases hq:Q<=P
               · rw [if_pos hq];have lL:(ws (P-Q)).length<=8192:=(aV _ _).2 (iy (Nat.sub_le _ _) ((aV P 8192).1 ae));have hz:0<=bE P Q:=by unfold bE;rw [if_neg ae];split <;> omega
                 exact QN n m e f n1 m1 X Y e1 f1 lX lY (dG hX0) (dG hY0) ae ae ae ae g hg ae ae P Q ae ae ae ae (by simp [hs]) (bE P Q) hz (P-Q) ae _ _ _ _ (aS n1 (P-Q) g) M1 M2 HP HQ
                  (hid fun u p q s t hu hA hB=>Xp u p q s t hA hB)
                  (hid fun u p q s t hu hA hB=>pz hA hB ae ae (by rw [ax,ax];omega))
                  (hid fun u p s hu hA=>by have:=og hA ae n1 g ae ae;rw [ax] at this;exact this)
               · rw [if_neg hq];have lL:(ws (Q-P)).length<=8192:=(aV _ _).2 (iy (Nat.sub_le _ _) ((aV Q 8192).1 ae));have hz:bE P Q<0:=by unfold bE;rw [if_pos ae];omega
                 exact QO n m e f n1 m1 X Y e1 f1 lX lY (dG hX0) (dG hY0) ae ae ae ae g hg ae ae P Q ae ae ae ae (by simp [hs]) (bE P Q) hz (Q-P) ae _ _ _ _ (aS m1 (Q-P) g) M1 M2 HP HQ
                  (hid fun u p q s t hu hA hB=>Xp u p q s t hA hB)
                  (hid fun u p q s t hu hA hB=>pz hA hB ae ae (by rw [ax,ax];omega))
                  (hid fun u p s hu hA=>by have:=og hA ae m1 g ae ae;rw [ax] at this;exact this)
theorem Od {w:World}{a b:Option Addr}{l c k d:Nat}{xs ys:List Nat}(h1:Arg w a l c xs) (h2:Arg w b k d ys) (hT:il w) (n m:Bool) (e f:Int) (he0:-9223372036854775808<=e) (he1:e<=9223372036854775807) (hf0:-9223372036854775808<=f) (hf1:f<=9223372036854775807) :
 Calls Tryz.prog 112 #[.agg #[.bool n,.slice a l c,.int .i64 e],.agg #[.bool m,.slice b k d,.int .i64 f]] w fun r w'=>di w.heap.size w' r (fQ (mkS n (val xs) e) (mkS (!m) (val ys) f))/\Below w.heap.size w w' :=
 Oc n m e f _ _ _ _ (Cq n (val xs) e (!m) (val ys) f) (hid fun u=>EC b k d m f u) (hid fun u hu=>Ci (h1.below hu) (h2.below hu) (hT.belows hu) n (!m) e f he0 he1 hf0 hf1)
theorem Kg {w:World}{a b:Option Addr}{l c k d:Nat}{xs ys:List Nat}(h1:Arg w a l c xs) (h2:Arg w b k d ys) (hl:l<=2000000) (hk:k<=2000000) (n m:Bool) (e f:Int) (he0:-9223372036854775808<=e) (he1:e<=9223372036854775807) (hf0:-9223372036854775808<=f) (hf1:f<=9223372036854775807) :
 Calls Tryz.prog 81 #[.agg #[.bool n,.slice a l c,.int .i64 e],.agg #[.bool m,.slice b k d,.int .i64 f]] w fun r w'=>di w.heap.size w' r (fQ (mkS n (val xs) e) (mkS (!m) (val ys) f))/\Below w.heap.size w w' :=
 Kc n m e f _ _ _ _ (Cq n (val xs) e (!m) (val ys) f) (hid fun u=>Cb b k d m f u) (hid fun u hu=>yg (h1.below hu) (h2.below hu) hl hk n (!m) e f he0 he1 hf0 hf1)
def rH (X:Nat) (e:Int) (Y:Nat) (f:Int):Int:=if e<f then bE X (Y*2^(f-e).toNat) else bE (X*2^(e-f).toNat) Y
theorem vN (x y:Nat):-bE x y=bE y x:=by
 unfold bE;rcases mY x y with h|h|h
 · rw [if_pos h,if_neg ae,if_pos h];rfl
 · subst h;rw [if_neg ae,if_neg ae];rfl
 · rw [if_neg ae,if_pos h,if_pos h]
theorem Oe (X:Nat) (e:Int) (Y:Nat) (f:Int):-rH X e Y f=rH Y f X e:=by
 unfold rH
 by_cases h:e<f
 · rw [if_pos h,if_neg ae,vN]
 · rw [if_neg h]
   by_cases h2:f<e
   · rw [if_pos h2,vN]
   · rw [if_neg h2,vN,show (e-f).toNat=0 by omega,show (f-e).toNat=0 by omega,fG,dU,dU]
theorem zD {x y:Nat}(h:bl x≠bl y):bE x y=bE (bl x) (bl y):=by
 unfold bE;rcases mH (bl x) (bl y) with k|k
 · have:x<y:=by
    rcases mH x y with q|q
    · exact q
    · have:=mq q;omega
   rw [if_pos k,if_pos this]
 · have:y<x:=by
    rcases mH y x with q|q
    · exact q
    · have:=mq q;omega
   rw [if_neg (by omega:¬ x<y),if_pos this,if_neg (by omega:¬ bl x<bl y),if_pos (by omega:bl y<bl x)]
theorem EW (x y:Nat):bE x y=-1\/bE x y=0\/bE x y=1:=by
 unfold bE;split
 · exact .inl rfl
 · split
   · exact .inr (.inr rfl)
   · exact .inr (.inl rfl)
theorem EX (X:Nat) (e:Int) (Y:Nat) (f:Int):rH X e Y f=-1\/rH X e Y f=0\/rH X e Y f=1:=by
 unfold rH;split <;> exact EW _ _
def qN (n:Bool) (X:Nat):Int:=if X=0 then 0 else if n then -1 else 1
def jg (x y:Int):Int:=if x<y then -1 else if y<x then 1 else 0
theorem Og (x y:Nat):jg (x:Int) (y:Int)=bE x y:=by
 unfold jg bE;simp only [Int.ofNat_lt]
theorem yh {w:World}{a:Option Addr}{n c:Nat}{xs:List Nat}(h1:Arg w a n c xs) (ng:Bool) (e:Int) :
 Calls Tryz.prog 58 #[.agg #[.bool ng,.slice a n c,.int .i64 e]] w fun r w'=>r=.returned (.int .i64 (qN ng (val xs)))/\Below w.heap.size w w':=by
 have hB:Below w.heap.size w (w.alloc (.cells #[.bool ng,.slice a n c,.int .i64 e] 62)):=af w _;have A1:=h1.below hB;have hbig:=h1.big;have H1:=hid (qg xs a n c _ _ A1.len A1.cap ae A1.wf A1.rd);obtain ⟨X,hX⟩:∃ X,val xs=X:=⟨_,rfl⟩;rw [hX] at H1 |-;have SB:=ay hB;clear hB A1 h1 hX hbig;unfold qN
 by_cases h0:X=0
 · rw [if_pos h0];have hb:bl X=0:=by rw [h0,dJ]
   rw [hb] at H1;clear h0 hb;go_enter Tryz.func58,Tryz.ntmps58;go_wp2_with fail;refine H1.o.mono ?_;rintro r w1 ⟨rfl,rfl⟩;go_wp2;go_ret;exact ⟨rfl,SB.o⟩
 · rw [if_neg h0];obtain ⟨b,hb⟩:∃ b,bl X=b:=⟨_,rfl⟩;have hb0:((b:Int)==0)=false:=by have:=dL X h0;simp;omega
   rw [hb] at H1;clear h0 hb
   cases ng
   · simp only [fw,if_false];go_enter Tryz.func58,Tryz.ntmps58;go_wp2_with fail;refine H1.o.mono ?_;rintro r w1 ⟨rfl,rfl⟩;go_wp2;go_ret;exact ⟨rfl,SB.o⟩
   · simp only [if_true];go_enter Tryz.func58,Tryz.ntmps58;go_wp2_with fail;refine H1.o.mono ?_;rintro r w1 ⟨rfl,rfl⟩;go_wp2;go_ret;exact ⟨rfl,SB.o⟩
theorem Kh (e f:Int) (he0:-9223372036854775808<=e) (he1:e<=9223372036854775807) (hf0:-9223372036854775808<=f) (hf1:f<=9223372036854775807) (h:f<=e):IntKind.u64.wrap (IntKind.u64.wrap e-IntKind.u64.wrap f)=(((e-f).toNat:Nat):Int):=by
 rw [ky,ky,ky];omega
theorem EY {w:World}{a:Option Addr}{n c:Nat}{xs:List Nat}(h1:Arg w a n c xs):bl (val xs)<=1125899906842624:=by
 have:=cK xs h1.wf;rw [<-h1.len] at this;have:=MG _ _ this;have:=h1.big;omega
theorem yj {n:Bool}{X:Nat}:qN n X=0↔X=0:=by
 unfold qN
 by_cases h:X=0
 · simp [h]
 · rw [if_neg h];cases n <;> simp [h]
def o7 (n:Bool):Int:=if n then -1 else 1
def zv (B:Int) (x:Bool×Nat×Int):Int:=o7 x.1*((x.2.1*2^(x.2.2-B).toNat:Nat):Int)
theorem Ki (e l B:Int) (h:B<=e) (hl:0<=l):(2:Nat)^(e+l-B).toNat=2^l.toNat*2^(e-B).toNat:=by
 rw [<-aR];congr 1;omega
theorem kX {n:Bool}{X:Nat}{e:Int}{x:Bool×Nat×Int}(h:mkS n X e=some x) (B:Int) (hB:X=0\/B<=e):zv B x=o7 n*((X*2^(e-B).toNat:Nat):Int):=by
 unfold mkS at h
 by_cases h0:X=0
 · rw [if_pos h0] at h
   cases h
   subst h0;simp [zv]
 · rw [if_neg h0] at h
   split at h
   · cases h
   · cases h
     have hB':B<=e:=by rcases hB with h | h;exact absurd h h0;exact h
     obtain ⟨m,hm,hd,_⟩:=iB X h0;show o7 n*((X/2^lo X*2^(e+(lo X:Int)-B).toNat:Nat):Int)=_;rw [Ki e (lo X) B hB' ae,oM,<-aU];have hx:X/2^lo X*2^lo X=X:=by rw [hd];rw [dh];exact hm.symm
     rw [hx]
theorem Oh {n m:Bool}(h:¬ n=m):o7 m=-o7 n:=by cases n <;> cases m <;> first | exact absurd rfl h | rfl
theorem QS (n:Bool):o7 (!n)=-o7 n:=by cases n <;> rfl
theorem QT (n m:Bool):o7 (n != m)=o7 n*o7 m:=by cases n <;> cases m <;> rfl
theorem Cr {n m:Bool}{X Y:Nat}{e f:Int}{z:Bool×Nat×Int}(h:jI n X e m Y f=some z) (hfe:f<=e) (B:Int) (hB:B<=f):zv B z=zv B (n,X,e)+zv B (m,Y,f):=by
 unfold jI at h
 split at h
 · cases h
 · have key:X*2^(e-f).toNat*2^(f-B).toNat=X*2^(e-B).toNat:=by
    rw [aU,<-aR,show (e-f).toNat+(f-B).toNat=(e-B).toNat by omega]
   show zv B z=o7 n*((X*2^(e-B).toNat:Nat):Int)+o7 m*((Y*2^(f-B).toNat:Nat):Int);generalize 2^(e-f).toNat=P at h key
   split at h
   · rename_i hnm;rw [kX h B (.inr hB),hnm,<-Int.mul_add,fU,key,Ah]
   · rename_i hnm
     split at h
     · rename_i hle;rw [kX h B (.inr hB),Oh hnm,Nat.sub_mul,key,Int.ofNat_sub (by rw [<-key];exact gF _ hle),Int.mul_sub,Int.neg_mul];omega
     · rename_i hle;rw [kX h B (.inr hB),QS,Oh hnm,Nat.sub_mul,key,Int.ofNat_sub (by rw [<-key];exact gF _ ae),Int.mul_sub,Int.neg_mul,Int.neg_mul];omega
theorem oh {x:Bool×Nat×Int}(B:Int) (h:x.2.1=0):zv B x=0:=by unfold zv;rw [h];simp
theorem QU {x y z:Bool×Nat×Int}(h:qB x y=some z) (B:Int) (hx:x.2.1=0\/B<=x.2.2) (hy:y.2.1=0\/B<=y.2.2):zv B z=zv B x+zv B y:=by
 obtain ⟨n,X,e⟩:=x;obtain ⟨m,Y,f⟩:=y;unfold qB at h;simp only at h hx hy
 by_cases h0:X=0
 · rw [if_pos h0] at h
   cases h
   rw [oh (x:=(n,X,e)) B h0,Int.zero_add]
 · rw [if_neg h0] at h
   by_cases h1:Y=0
   · rw [if_pos h1] at h
     cases h
     rw [oh (x:=(m,Y,f)) B h1,Int.add_zero]
   · rw [if_neg h1] at h;have hx':B<=e:=by rcases hx with k | k;exact absurd k h0;exact k
     have hy':B<=f:=by rcases hy with k | k;exact absurd k h1;exact k
     by_cases h2:e<f
     · rw [if_pos h2] at h;rw [Cr h ae B hx',Int.add_comm]
     · rw [if_neg h2] at h;exact Cr h ae B hy'
theorem QV {x y z:Bool×Nat×Int}(h:QD x y=some z) (B C:Int) (hx:x.2.1=0\/B<=x.2.2) (hy:y.2.1=0\/C<=y.2.2):zv (B+C) z=zv B x*zv C y:=by
 obtain ⟨n,X,e⟩:=x;obtain ⟨m,Y,f⟩:=y;unfold QD at h;simp only at h hx hy
 by_cases h0:X=0
 · subst h0;rw [dZ] at h;rw [kX h _ (.inl rfl),oh (x:=(n,0,e)) B rfl];simp
 · by_cases h1:Y=0
   · subst h1;rw [mX] at h;rw [kX h _ (.inl rfl),oh (x:=(m,0,f)) C rfl];simp
   · have hx':B<=e:=by rcases hx with k | k;exact absurd k h0;exact k
     have hy':C<=f:=by rcases hy with k | k;exact absurd k h1;exact k
     rw [kX h _ (.inr ae),QT];unfold zv;simp only;rw [show (e+f-(B+C)).toNat=(e-B).toNat+(f-C).toNat by omega,aR];rw [show X*Y*(2^(e-B).toNat*2^(f-C).toNat)=(X*2^(e-B).toNat)*(Y*2^(f-C).toNat) by rw [sH]];rw [fq,kN,kN];congr 1;rw [<-kN,<-kN];congr 1;exact Int.mul_comm _ _
theorem QW {X Y:Nat}(a b:Nat) (hX:X%2=1) (hY:Y%2=1) (h:X*2^a=Y*2^b):X=Y/\a=b:=by
 have key:∀ (a b X Y:Nat),X%2=1->Y%2=1->X*2^a=Y*2^b->a<=b:=by
  intro a b X Y hX hY h;rcases mH b a with k|k
  · exfalso;obtain ⟨d,rfl⟩:∃ d,a=b+(d+1):=⟨a-b-1,ae⟩;rw [aR,dh (2^b),<-aU] at h;have:=oU (bK b) h;rw [dS,<-aU] at this;omega
  · exact k
 have h1:=key a b X Y hX hY h;have h2:=key b a Y X hY hX h.symm;have e:a=b:=ae
 subst e;exact ⟨oU (bK a) h,rfl⟩
theorem Oi {n m:Bool}{X Y:Nat}{e f:Int}(FX:tQ n X e) (FY:tQ m Y f) (B:Int) (hB:B<=-1048576) (h:zv B (n,X,e)=zv B (m,Y,f)):n=m/\X=Y/\e=f:=by
 have hx:=FX.down;have hy:=FY.down;unfold zv at h;simp only at h;have Wi:0<2^(e-B).toNat:=bK _;have Wj:0<2^(f-B).toNat:=bK _;rcases FX.odd with oX|⟨rfl,rfl,rfl⟩
 · rcases FY.odd with oY | ⟨rfl,rfl,rfl⟩
   · have pX:0<X*2^(e-B).toNat:=jm ae Wi;have pY:0<Y*2^(f-B).toNat:=jm ae Wj
     have hn:n=m:=by
      generalize X*2^(e-B).toNat=P at h pX;generalize Y*2^(f-B).toNat=Q at h pY
      cases n <;> cases m <;> first | rfl | (simp only [o7,fw,if_true,if_false] at h;omega)
     subst hn
     have hPQ:X*2^(e-B).toNat=Y*2^(f-B).toNat:=by
      generalize X*2^(e-B).toNat=P at h;generalize Y*2^(f-B).toNat=Q at h
      cases n <;> (simp only [o7,fw,if_true,if_false] at h;omega)
     obtain ⟨h1,h2⟩:=QW _ _ oX oY hPQ;exact ⟨rfl,h1,ae⟩
   · exfalso;have pX:0<X*2^(e-B).toNat:=jm ae Wi;generalize X*2^(e-B).toNat=P at h pX;rw [dZ] at h
     cases n <;> (simp only [o7,fw,if_true,if_false] at h;omega)
 · rcases FY.odd with oY | ⟨rfl,rfl,rfl⟩
   · exfalso;have pY:0<Y*2^(f-B).toNat:=jm ae Wj;generalize Y*2^(f-B).toNat=Q at h pY;rw [dZ] at h
     cases m <;> (simp only [o7,fw,if_true,if_false] at h;omega)
   · exact ⟨rfl,rfl,rfl⟩
theorem vO {n:Bool}{X:Nat}{e:Int}(F:tQ n X e):mkS n X e=some (n,X,e):=by
 unfold mkS;rcases F.odd with h|⟨rfl,rfl,rfl⟩
 · have h1:=F.size;have h2:=F.up;have h3:=F.down;rw [if_neg ae,Hl h,if_neg ae,fG,Nat.div_one];simp
 · rw [if_pos rfl]
theorem yl {n m:Bool}{X Y:Nat}{e f:Int}{n':Bool}{Z:Nat}{g:Int}(h:jI n X e m Y f=some (n',Z,g)):tQ n' Z g:=by
 unfold jI at h
 split at h
 · cases h
 · split at h
   · exact cu h
   · split at h
     · exact cu h
     · exact cu h
theorem Oj {n m:Bool}{X Y:Nat}{e f:Int}(FX:tQ n X e) (FY:tQ m Y f) {n':Bool}{Z:Nat}{g:Int}(h:qB (n,X,e) (m,Y,f)=some (n',Z,g)):tQ n' Z g:=by
 unfold qB at h;simp only at h
 split at h
 · cases h;exact FY
 · split at h
   · cases h;exact FX
   · split at h
     · exact yl h
     · exact yl h
theorem Kj {o p:Option (Bool×Nat×Int)}(h:(fQ o p).isSome=true):∃ x y z,o=some x/\p=some y/\qB x y=some z/\fQ o p=some z:=by
 cases o with
 | none=>cases h
 | some x =>
   cases p with
   | none=>cases h
   | some y =>
     obtain ⟨z,hz⟩:=Am.1 h;exact ⟨x,y,z,rfl,rfl,hz,hz⟩
theorem Kk {o p:Option (Bool×Nat×Int)}(h:(eY o p).isSome=true):∃ x y z,o=some x/\p=some y/\QD x y=some z/\eY o p=some z:=by
 cases o with
 | none=>cases h
 | some x =>
   cases p with
   | none=>cases h
   | some y =>
     obtain ⟨z,hz⟩:=Am.1 h;exact ⟨x,y,z,rfl,rfl,hz,hz⟩
structure Fv (B:Int) (o:Option (Bool×Nat×Int)) (z:Int):Prop where
 ex:∃ n X e,o=some (n,X,e)/\tQ n X e/\zv B (n,X,e)=z
theorem tQ.base {n:Bool}{X:Nat}{e:Int}(F:tQ n X e) {B:Int}(hB:B<=-1048576):X=0\/B<=e:=.inr (by have:=F.down;omega)
theorem Fv.add {B:Int}(hB:B<=-1048576) {o p:Option (Bool×Nat×Int)}{x y:Int}(h1:Fv B o x) (h2:Fv B p y) (h:(fQ o p).isSome=true):Fv B (fQ o p) (x+y):=by
 obtain ⟨n,X,e,rfl,F,rfl⟩:=h1.ex;obtain ⟨m,Y,f,rfl,G,rfl⟩:=h2.ex;obtain ⟨_,_,z,e1,e2,hz,hd⟩:=Kj h
 cases e1;cases e2
 obtain ⟨n',Z,g⟩:=z;exact ⟨n',Z,g,hd,Oj F G hz,QU hz B (F.base hB) (G.base hB)⟩
theorem Fv.mul {B C:Int}(hB:B<=-1048576) (hC:C<=-1048576) {o p:Option (Bool×Nat×Int)}{x y:Int}(h1:Fv B o x) (h2:Fv C p y) (h:(eY o p).isSome=true):Fv (B+C) (eY o p) (x*y):=by
 obtain ⟨n,X,e,rfl,F,rfl⟩:=h1.ex;obtain ⟨m,Y,f,rfl,G,rfl⟩:=h2.ex;obtain ⟨_,_,z,e1,e2,hz,hd⟩:=Kk h
 cases e1;cases e2
 obtain ⟨n',Z,g⟩:=z;exact ⟨n',Z,g,hd,cu hz,QV hz B C (F.base hB) (G.base hC)⟩
theorem Fv.same {B:Int}(hB:B<=-1048576) {o p:Option (Bool×Nat×Int)}{x y:Int}(h1:Fv B o x) (h2:Fv B p y) (h:x=y):dN o=dN p/\dX o=dX p/\dE o=dE p:=by
 obtain ⟨n,X,e,rfl,F,rfl⟩:=h1.ex;obtain ⟨m,Y,f,rfl,G,rfl⟩:=h2.ex;exact Oi F G B hB h
theorem vP (x y k:Nat) (hk:0<k):bE (x*k) (y*k)=bE x y:=by
 unfold bE;simp only [mI hk]
theorem Kl (X:Nat) (e:Int) (Y:Nat) (f B:Int) (h1:B<=e) (h2:B<=f):rH X e Y f=bE (X*2^(e-B).toNat) (Y*2^(f-B).toNat):=by
 unfold rH
 by_cases h:e<f
 · rw [if_pos h,<-vP _ _ (2^(e-B).toNat) (bK _),aU,<-aR,show (f-e).toNat+(e-B).toNat=(f-B).toNat by omega]
 · rw [if_neg h,<-vP _ _ (2^(f-B).toNat) (bK _),aU,<-aR,show (e-f).toNat+(f-B).toNat=(e-B).toNat by omega]
theorem Ho (X k:Nat):X*2^k=0↔X=0:=by
 constructor
 · intro h;rcases Nat.mul_eq_zero.1 h with h|h
   · exact h
   · have:=bK k;omega
 · rintro rfl;exact dZ _
theorem Km (dg:Nat) (least top:Int) (X:Nat) (e:Int) (ho:X%2=1) (Bs:Int) (h1:Bs<=e) (h2:Bs<=least) (hin:¬ top<e+(bl X:Int)) :
 Bs<=(iV dg least top X e).2.1 /\
 (((iV dg least top X e).2.2.1=true/\X*2^(e-Bs).toNat=(iV dg least top X e).1*2^((iV dg least top X e).2.1-Bs).toNat) \/
  ((iV dg least top X e).2.2.1=false/\(iV dg least top X e).1*2^((iV dg least top X e).2.1-Bs).toNat<X*2^(e-Bs).toNat/\X*2^(e-Bs).toNat<((iV dg least top X e).1+1)*2^((iV dg least top X e).2.1-Bs).toNat /\
   ((iV dg least top X e).2.2.2=-1/\2*(X*2^(e-Bs).toNat)<(2*(iV dg least top X e).1+1)*2^((iV dg least top X e).2.1-Bs).toNat \/
    (iV dg least top X e).2.2.2=0/\2*(X*2^(e-Bs).toNat)=(2*(iV dg least top X e).1+1)*2^((iV dg least top X e).2.1-Bs).toNat \/
    (iV dg least top X e).2.2.2=1/\(2*(iV dg least top X e).1+1)*2^((iV dg least top X e).2.1-Bs).toNat<2*(X*2^(e-Bs).toNat)))):=by
 unfold iV;rw [if_neg hin];simp only;obtain ⟨ex,hex⟩:∃ ex,max (e+(bl X:Int)-(dg:Int)) least=ex:=⟨_,rfl⟩;rw [hex];have hle:least<=ex:=ae
 by_cases hoff:ex-e<=0
 · rw [if_pos hoff];simp only;refine ⟨ae,.inl ⟨trivial,?_⟩⟩;rw [aU,<-aR,show (-(ex-e)).toNat+(ex-Bs).toNat=(e-Bs).toNat by omega]
 · rw [if_neg hoff];simp only;obtain ⟨k,hk⟩:∃ k:Nat,(ex-e).toNat=k:=⟨_,rfl⟩;have hk0:0<k:=ae
   have hexB:(ex-Bs).toNat=k+(e-Bs).toNat:=ae
   have hk1:(ex-e-1).toNat=k-1:=ae
   rw [hk,hexB,hk1,aR];obtain ⟨Q,hQ⟩:∃ Q,2^(e-Bs).toNat=Q:=⟨_,rfl⟩;have Zl:0<Q:=by rw [<-hQ];exact bK _
   rw [hQ];have Td:=oJ X (2^k);have hmod:=jl X (bK k);obtain ⟨F,hF⟩:∃ F,X/2^k=F:=⟨_,rfl⟩;obtain ⟨R,hR⟩:∃ R,X%2^k=R:=⟨_,rfl⟩;have Ol:2^k=2*2^(k-1):=by rw [show k=k-1+1 by omega,dS,dh];rfl
   have hbit:X/2^(k-1)%2=R/2^(k-1):=by
    rw [<-hR,Ol];rw [dh 2,Nat.mod_mul_right_div_self]
   obtain ⟨Hf,Zm⟩:∃ Hf,2^(k-1)=Hf:=⟨_,rfl⟩;have hHf0:0<Hf:=by rw [<-Zm];exact bK _
   rw [Zm] at Ol hbit |-;rw [hbit];rw [Ol] at Td hmod hF hR |-;rw [hF,hR] at Td;rw [hR] at hmod;rw [hF]
   have hR0:R≠0:=by
    intro h;rw [h,iw,aU] at Td;omega
   have e1:F*(2*Hf*Q)=(F*(2*Hf))*Q:=(aU _ _ _).symm;have e2:(F+1)*(2*Hf*Q)=((F+1)*(2*Hf))*Q:=(aU _ _ _).symm
   have e3:(2*F+1)*(2*Hf*Q)=(2*(F*(2*Hf))+2*Hf)*Q:=by
    rw [fU,fU,iq,aU 2 F,<-aU F,aU 2 (F*(2*Hf)) Q]
   have e4:2*(X*Q)=(2*X)*Q:=by rw [aU]
   have e5:2*Hf*F=F*(2*Hf):=dh _ _;rw [e5] at Td;have e6:(F+1)*(2*Hf)=F*(2*Hf)+2*Hf:=by rw [fU,iq]
   rw [e1,e2,e3,e4,e6];generalize F*(2*Hf)=G at Td |-;refine ⟨ae,.inr ⟨trivial,fM ae Zl,fM ae Zl,?_⟩⟩
   by_cases hone:ex-e=1
   · rw [if_pos hone];have hk1':k=1:=ae
     have hHf1:Hf=1:=by rw [<-Zm,hk1']
     refine .inr (.inl ⟨rfl,?_⟩);congr 1;omega
   · rw [if_neg hone]
     have hHf2:Hf%2=0:=by
      rw [<-Zm,show k-1=k-2+1 by omega,dS];omega
     have Xq:R%2=1:=by
      have:G%2=0\/True:=.inr trivial;rw [<-hR];rw [Nat.mod_mul_right_mod];exact ho
     by_cases hge:Hf<=R
     · have hd1:R/Hf=1:=by
        rw [Nat.div_eq_iff hHf0];omega
       rw [hd1,if_pos rfl];refine .inr (.inr ⟨rfl,fM ?_ Zl⟩);have:R≠Hf:=by intro h;rw [h] at Xq;omega
       omega
     · have hd0:R/Hf=0:=ic ae;rw [hd0,if_neg ae];exact .inl ⟨rfl,fM ae Zl⟩
def Lm (X:Nat) (e:Int):Nat:=((iV 53 (-1074) 1024 X e).2.1+1074).toNat*4503599627370496+(iV 53 (-1074) 1024 X e).1
abbrev vK (K:Nat):Nat:=B.val Ieee.double K
theorem Tg {K L:Nat}:vK K<vK L↔K<L:=B.iA Ieee.double
theorem iQ (j F:Nat) (h:j=0\/4503599627370496<=F) (hF:F<=9007199254740992):vK (j*4503599627370496+F)=F*2^j:=by
 have:=B.zq Ieee.double j F (by rw [B.Eh];exact h) (by rw [B.Eh];omega);rw [B.Eh] at this;exact this
structure Xr (K:Nat) (at':Bool) (mid:Int) (V S:Nat):Prop where
 fin:K<9218868437227405312
 pos:0<S
 one:at'=true->V=vK K*S
 low:at'=false->vK K*S<V
 QX:at'=false->V<vK (K+1)*S->(mid=-1/\2*V<vK K*S+vK (K+1)*S\/mid=0/\2*V=vK K*S+vK (K+1)*S\/mid=1/\vK K*S+vK (K+1)*S<2*V)
 high:at'=false->V<vK (K+1)*S\/(K=9218868437227405311/\mid=1)
theorem lies (X:Nat) (e:Int) (hX:X%2=1) (he0:-1048576<=e) (he1:e<=1048576) (Bs:Int) (h1:Bs<=e) (h2:Bs<=-1074) :
 Xr (Lm X e) (iV 53 (-1074) 1024 X e).2.2.1 (iV 53 (-1074) 1024 X e).2.2.2 (X*2^(e-Bs).toNat) (2^(-1074-Bs).toNat):=by
 have hX0:X≠0:=ae
 obtain ⟨f1,f2,f3,f4⟩:=rF X e hX0 he0 he1;obtain ⟨j,hj⟩:∃ j:Nat,((iV 53 (-1074) 1024 X e).2.1+1074).toNat=j:=⟨_,rfl⟩;have hS:0<2^(-1074-Bs).toNat:=bK _
 have hw:∀ F,F<=9007199254740992->(j=0\/4503599627370496<=F)->vK (j*4503599627370496+F)*2^(-1074-Bs).toNat=F*2^((iV 53 (-1074) 1024 X e).2.1-Bs).toNat:=by
  intro F hF hn;rw [iQ j F hn hF,aU,<-aR];congr 2;omega
 have hn1:j=0\/4503599627370496<=(iV 53 (-1074) 1024 X e).1:=by
  rcases f4 with h|h
  · left;omega
  · exact .inr h
 have w1:=hw (iV 53 (-1074) 1024 X e).1 ae hn1;have w2:=hw ((iV 53 (-1074) 1024 X e).1+1) ae (by rcases hn1 with h | h;exact .inl h;exact .inr ae);have Uu:Lm X e=j*4503599627370496+(iV 53 (-1074) 1024 X e).1:=by unfold Lm;rw [hj]
 have Xt:Lm X e+1=j*4503599627370496+((iV 53 (-1074) 1024 X e).1+1):=by rw [Uu];omega
 have hfin:Lm X e<9218868437227405312:=by rw [Uu];omega
 rw [<-Uu] at w1;rw [<-Xt] at w2
 by_cases hin:1024<e+(bl X:Int)
 · have hp:iV 53 (-1074) 1024 X e=((2^53-1:Nat),((1024:Int)-((53:Nat):Int)),false,(1:Int)):=by unfold iV;rw [if_pos hin]
   have hK:Lm X e=9218868437227405311:=by unfold Lm;rw [hp];rfl
   refine ⟨hfin,hS,fun h=>(by rw [hp] at h;cases h),fun _=>?_,fun _ hlt=>?_,fun _=>.inr ⟨hK,(by rw [hp])⟩⟩
   · rw [w1];have hlow:(2^53-1)*2^(971-Bs).toNat<2^53*2^(971-Bs).toNat:=fM aO (bK _)
     have hup:2^53*2^(971-Bs).toNat<=X*2^(e-Bs).toNat:=by
      have hb:=iG X hX0;have hbp:=dL X hX0;refine dD ?_ (gF _ hb);rw [<-aR,<-aR];exact fE ae ae
     rw [hp];exact iF hlow hup
   · exfalso;rw [w2,hp] at hlt
     have hup:2^53*2^(971-Bs).toNat<=X*2^(e-Bs).toNat:=by
      have hb:=iG X hX0;have hbp:=dL X hX0;refine dD ?_ (gF _ hb);rw [<-aR,<-aR];exact fE ae ae
     exact absurd hlt (Nat.not_lt.2 hup)
 · obtain ⟨_,hfl⟩:=Km 53 (-1074) 1024 X e hX Bs h1 h2 hin
   have hmid:vK (Lm X e)*2^(-1074-Bs).toNat+vK (Lm X e+1)*2^(-1074-Bs).toNat=(2*(iV 53 (-1074) 1024 X e).1+1)*2^((iV 53 (-1074) 1024 X e).2.1-Bs).toNat:=by
    rw [w1,w2,<-fU];congr 1;omega
   rcases hfl with ⟨ht,hv⟩|⟨hf,hlo,hhi,hm⟩
   · exact ⟨hfin,hS,fun _=>(by rw [w1];exact hv),fun h=>(by rw [ht] at h;cases h),fun h=>(by rw [ht] at h;cases h),fun h=>(by rw [ht] at h;cases h)⟩
   · refine ⟨hfin,hS,fun h=>(by rw [hf] at h;cases h),fun _=>(by rw [w1];exact hlo),fun _ _=>(by rw [hmid];exact hm),fun _=>.inl (by rw [w2];exact hhi)⟩
def rK (mode:Int) (n:Bool) (K:Nat) (t:Bool) (m:Int):Nat:=if t then K else if kG mode K m n then K+1 else K
theorem Om (mode:Int) (j F:Nat) (m:Int) (n:Bool):kG mode (j*4503599627370496+F) m n=kG mode F m n:=by
 unfold kG;rw [show (j*4503599627370496+F)%2=F%2 by omega]
theorem QY (mode:Int) (n:Bool) (X:Nat) (e:Int):NK mode n X e=rK mode n (Lm X e) (iV 53 (-1074) 1024 X e).2.2.1 (iV 53 (-1074) 1024 X e).2.2.2:=by
 unfold NK rK Lm;simp only;rw [Om]
 split
 · rfl
 · split <;> omega
def Kn (s:Bool) (K:Nat):Nat:=K+(if s then 9223372036854775808 else 0)
def sK (s:Bool) (K:Nat):Int:=if s then -(K:Int) else K
theorem Hq (s:Bool) (K:Nat) (h:K<=9218868437227405312):Kn s K=B.bw s (K/4503599627370496) (K%4503599627370496)/\K/4503599627370496<2048/\K%4503599627370496<4503599627370496/\B.odd (K/4503599627370496) (K%4503599627370496)=false/\B.pl s (K/4503599627370496) (K%4503599627370496)=sK s K:=by
 refine ⟨?_,ae,ae,?_,?_⟩
 · unfold Kn B.bw
   cases s
   · simp;omega
   · simp;omega
 · unfold B.odd;simp;omega
 · unfold B.pl B.sg sK;rw [show K/4503599627370496*4503599627370496+K%4503599627370496=K by omega]
def rS (n:Bool) (X:Nat):Bool:=if X=0 then false else n
def rW (mode:Int) (n:Bool) (X:Nat) (e:Int):Nat:=if X=0 then 0 else NK mode n X e
theorem Ko (mode:Int) (n:Bool) (X:Nat) (e:Int) (h0:0<=mode) (h4:mode<=4):jJ (some (n,X,e)) mode=(Kn (rS n X) (rW mode n X e),0):=by
 unfold jJ;rw [if_neg ae];simp only;unfold rS rW Kn
 by_cases h:X=0
 · rw [if_pos h,if_pos h,if_pos h];rfl
 · rw [if_neg h,if_neg h,if_neg h]
theorem QZ {n:Bool}{X:Nat}{e:Int}(F:tQ n X e) (h:X≠0):X%2=1:=by rcases F.odd with k | k;exact k;exact absurd k.1 h
attribute [local go_sem] B.bO B.aJ qC
def eu (x:Nat):Nat:=x%9223372036854775808
def iO (x:Nat):Bool:=decide (9223372036854775808<=x)
end
section
open Go.RowKit
def Uv (s:Bool) (K:Nat):Option (Bool×Nat×Int):=V6 s (K/4503599627370496) (K%4503599627370496)
theorem Q0 (s:Bool) (K:Nat) (hK:K<9218868437227405312):∃ n X e,Uv s K=some (n,X,e)/\tQ n X e/\(X≠0->n=s)/\(X=0↔K=0)/\∀ Bs:Int,Bs<=-1074->zv Bs (n,X,e)=o7 s*((vK K*2^(-1074-Bs).toNat:Nat):Int):=by
 obtain ⟨x,hx⟩:∃ x,K/4503599627370496=x:=⟨_,rfl⟩;obtain ⟨f,hf⟩:∃ f,K%4503599627370496=f:=⟨_,rfl⟩;have hxl:x<2047:=ae
 have hfl:f<4503599627370496:=ae
 obtain ⟨M,hM⟩:∃ M,(if x=0 then f else f+4503599627370496)=M:=⟨_,rfl⟩;obtain ⟨E,hE⟩:∃ E:Int,(if x=0 then (-1074:Int) else (x:Int)-1075)=E:=⟨_,rfl⟩
 have hME:(x=0/\M=f/\E=-1074)\/(x≠0/\M=f+4503599627370496/\E=(x:Int)-1075):=by
  by_cases h:x=0
  · rw [if_pos h] at hM hE;exact .inl ⟨h,hM.symm,hE.symm⟩
  · rw [if_neg h] at hM hE;exact .inr ⟨h,hM.symm,hE.symm⟩
 have dx:M<9007199254740992:=ae
 have hO:Uv s K=mkS s M E:=by unfold Uv V6;rw [hx,hf,if_neg ae,hM,hE]
 have hsome:(mkS s M E).isSome=true:=by
  unfold mkS
  split
  · rfl
  · rename_i h0;have hb:=qz M dx;obtain ⟨_,_,_,hbb⟩:=iB M h0;rw [if_neg ae];rfl
 obtain ⟨⟨n,X,e⟩,hz⟩:=Am.1 hsome;have hKw:K=(E+1074).toNat*4503599627370496+M:=by rcases hME with h | h <;> omega
 have hv:vK K=M*2^(E+1074).toNat:=by
  rw [hKw];exact iQ _ _ (by rcases hME with h | h;left;omega;right;omega) ae
 have hM0:M=0↔K=0:=by rcases hME with h | h <;> omega
 refine ⟨n,X,e,by rw [hO,hz],cu hz,?_,?_,?_⟩
 · intro hX;unfold mkS at hz
   split at hz
   · cases hz;exact absurd rfl hX
   · split at hz
     · cases hz
     · cases hz;rfl
 · rw [<-hM0];constructor
   · intro hX;unfold mkS at hz
     split at hz
     · assumption
     · rename_i h0
       split at hz
       · cases hz
       · obtain ⟨m,_,hd,_⟩:=iB M h0
         cases hz
         omega
   · intro h0;unfold mkS at hz;rw [if_pos h0] at hz
     cases hz;rfl
 · intro Bs hBs;rw [kX hz Bs (.inr ae),hv,aU,<-aR,show (E+1074).toNat+(-1074-Bs).toNat=(E-Bs).toNat by omega]
end
section
open Go.RowKit J
theorem Ti (x:Nat) (h:x<18446744073709551616):x=Kn (iO x) (eu x):=by
 unfold Kn iO eu
 by_cases hx:9223372036854775808<=x
 · rw [decide_eq_true hx,if_pos rfl];omega
 · rw [decide_eq_false hx,if_neg aW];omega
theorem Zn (a:Nat):∃ u:Nat,u=2^a:=⟨_,rfl⟩
def EU:Nat:=1074
def ES:Nat:=2095004
noncomputable def UU:Nat:=Classical.choose (Zn EU)
noncomputable def SS:Nat:=Classical.choose (Zn ES)
theorem U_eq:UU=2^EU:=DN (Zn EU)
theorem S_eq:SS=2^ES:=DN (Zn ES)
theorem EUS:EU+ES=2096078:=by unfold EU ES;rfl
theorem US (a:Nat) (h:a=2096078):2^a=UU*SS:=by
 rw [U_eq,S_eq,<-aR,EUS,h]
structure Fo (o:Option (Bool×Nat×Int)) (z:Int) (L H:Int):Prop where
 ex:∃ n X e,o=some (n,X,e)/\tQ n X e/\zv (-2097152) (n,X,e)=z*(SS:Int)/\(X=0\/L<=e/\e+(bl X:Int)<=H)
theorem Uw (n:Bool) (Z:Nat) (f L H:Int) (hZ:Z≠0) (h1:L<=f) (h2:f+(bl Z:Int)<=H) (hL:-1000000<=L) (hH:H<=1000000) (hd:H-L<=262144) :
 ∃ X e,mkS n Z f=some (n,X,e)/\X≠0/\L<=e/\e+(bl X:Int)<=H:=by
 obtain ⟨m,e0,e1,e2⟩:=iB Z hZ;unfold mkS;rw [if_neg hZ,if_neg ae];exact ⟨_,_,rfl,ae,ae,ae⟩
theorem blLe {X m:Nat}(h:X<2^m):bl X<=m:=by
 apply yD;intro hh;have:=(sU X m).1 hh;omega
end
section
open Go.RowKit
def Zk (w:World) (g:Nat) (dg ls En:Int):Prop:=w.heap[g]?=some (.cells #[.int .i64 dg,.int .i64 ls,.int .u64 En] 108 (0,0))
theorem Zk.lt {w:World}{g:Nat}{dg ls En:Int}(h:Zk w g dg ls En):g<w.heap.size:=(fJ.1 h).1
theorem Zk.below {w w':World}{g:Nat}{dg ls En:Int}(h:Zk w g dg ls En) (hb:Below w.heap.size w w'):Zk w' g dg ls En:=by
 unfold Zk;rw [hb.block g h.lt];exact h
theorem Zk.facts {w:World}{g:Nat}{dg ls En:Int}(h:Zk w g dg ls En):w.cell? ⟨g,0,none⟩=some (.int .i64 dg)/\w.cell? ⟨g,1,none⟩=some (.int .i64 ls)/\w.cell? ⟨g,2,none⟩=some (.int .u64 En):=by
 unfold Zk at h;simp [World.cell?,h]
end
end Go.Proofs.YtblkpkgebigojaaGreatDoor
