import Derived.Test.YtfmfhehbdfhnbaaGreatDoorD30x
import Derived.Deep.Cut
import Derived.Deep.RegionHeld3
import Derived.Test.YtfmfhehbdfhnbaaGreatDoorD20x
import Derived.Deep.RegionWith
import Derived.Deep.CutRange
import Derived.Test.YtfmfhehbdfhnbaaGreatDoorW25x
import Derived.Test.YtfmfhehbdfhnbaaGreatDoorD15x
import Derived.BigQuiet
import Derived.Test.YtfmfhehbdfhnbaaGreatDoorW50x
import Derived.Laws.Bits64
import Derived.Laws.Bits64b
set_option linter.unusedVariables false
set_option linter.unusedSimpArgs false
set_option maxHeartbeats 16000000
set_option maxRecDepth 20000
namespace Go.Proofs.YtfmfhehbdfhnbaaGreatDoor
section
open Go.RowKit
theorem Ra {w:World}{a b:Option Addr}{l c k d:Nat}(n m:Bool) (e f:Int) (n1 m1:Bool) (X Y:Nat) (e1 f1:Int) (lX:(ws X).length<=8192) (lY:(ws Y).length<=8192) (hX:((((ws X).length:Nat):Int)==0)=false) (hY:((((ws Y).length:Nat):Int)==0)=false) (MO:-1048576<=e1) (MR:e1<=1048576) (MS:-1048576<=f1) (MU:f1<=1048576) (g:Int) (hg:min e1 f1=g) (bg0:-1048576<=g) (bg1:g<=1048576) (P Q:Nat) (lP:(ws P).length<=1000000) (lQ:(ws Q).length<=1000000) (h5:(ws P).length<=8192) (h6:(ws Q).length<=8192) (hs:(n1==m1)=true) (L:Nat) (lL:(ws L).length<=1000000) (dn:Bool) (V:Nat) (de er:Int) (lV:(ws V).length<=8192)
 (kF:Hid (∀ u,Below w.heap.size w u->Calls Tryz.prog 61 #[.agg #[.bool n,.slice a l c,.int .i64 e]] u fun r w'=>(∃ v,r=.returned (.tuple #[.agg #[.bool n1,v,.int .i64 e1],.bool true])/\Nt u.heap.size w' v X)/\Below u.heap.size u w'))
 (l9:Hid (∀ u,Below w.heap.size w u->Calls Tryz.prog 61 #[.agg #[.bool m,.slice b k d,.int .i64 f]] u fun r w'=>(∃ v,r=.returned (.tuple #[.agg #[.bool m1,v,.int .i64 f1],.bool true])/\Nt u.heap.size w' v Y)/\Below u.heap.size u w'))
 (HP:Hid (∀ (u:World) (v:Value),Below w.heap.size w u->Nt (w.heap.size+3) u v X->Calls Tryz.prog 97 #[v,.int .i64 (e1-g)] u fun r w'=>∃ v,r=.returned v/\Nt u.heap.size w' v P/\Below u.heap.size u w'))
 (HQ:Hid (∀ (u:World) (v:Value),Below w.heap.size w u->Nt (w.heap.size+3) u v Y->Calls Tryz.prog 97 #[v,.int .i64 (f1-g)] u fun r w'=>∃ v,r=.returned v/\Nt u.heap.size w' v Q/\Below u.heap.size u w'))
 (HT:Hid (∀ (u:World) (p q:Option Addr) (s t:Nat),Below w.heap.size w u->Arg u p (ws P).length s (ws P)->Arg u q (ws Q).length t (ws Q)->Calls Tryz.prog 106 #[.slice p (ws P).length s,.slice q (ws Q).length t] u fun r w'=>∃ v,r=.returned v/\Nt u.heap.size w' v L/\Below u.heap.size u w'))
 (HL:Hid (∀ (u:World) (p:Option Addr) (s:Nat),Below w.heap.size w u->Arg u p (ws L).length s (ws L)->Calls Tryz.prog 62 #[.bool n1,.slice p (ws L).length s,.int .i64 g] u fun r w'=>(∃ v,r=.returned (.tuple #[.agg #[.bool dn,v,.int .i64 de],.int .i64 er])/\Nt u.heap.size w' v V)/\Below u.heap.size u w')):Calls Tryz.prog 64 #[.agg #[.bool n,.slice a l c,.int .i64 e],.agg #[.bool m,.slice b k d,.int .i64 f]] w fun r w'=>(∃ v,r=.returned (.tuple #[.agg #[.bool dn,v,.int .i64 de],.int .i64 er])/\Nt w.heap.size w' v V)/\Below w.heap.size w w':=by
 obtain⟨W1,hW1⟩:=ah (((w.alloc (.cells #[.bool n,.slice a l c,.int .i64 e] 25)).alloc (.cells #[.bool m,.slice b k d,.int .i64 f] 25)).alloc (.cells zD3 25));obtain⟨hB,hz1,DA,DB,DR⟩:=bE w n m (.slice a l c) (.slice b k d) e f W1 hW1;have H1:=hid (kF.o W1 hB);have SB:=(fO hB hz1 DA DB DR);clear hB hz1 DA DB DR kF;go_enter Tryz.func64,Tryz.ntmps64;go_wp2_with fail;rw[<-hW1];clear hW1;refine H1.o.mono ?_;rintro r u1 ⟨⟨v,rfl,hN⟩,hb⟩;obtain⟨a1,c1,rfl,_⟩:=hN.arg ae;obtain⟨hB,hz1,DA,DB,DR⟩:=SB.o;obtain⟨U1,aX⟩:=ah (u1.alloc (.cells #[.bool n1,.slice a1 (ws X).length c1,.int .i64 e1] 25));have hA:Below u1.heap.size u1 U1:=by rw[aX];exact af _ _
 have hs1:w.heap.size+3<=u1.heap.size:=by have:=hb.size;omega
 have hs2:u1.heap.size<U1.heap.size:=by rw[aX];simp
 have FB:=(DB.below hb).below hA;have FR:=(DR.below hb).below hA;have DX:Dk U1 u1.heap.size n1 (.slice a1 (ws X).length c1) e1:=by rw[aX];exact Dk.new _ _ _ _
 have NX:Nt (w.heap.size+3) U1 (.slice a1 (ws X).length c1) X:=(hN.mono ae).below hA;have BU:Below w.heap.size w U1:=(hB.trans (hb.mono ae)).trans (hA.mono ae);have H2:=hid (l9.o U1 BU);obtain⟨y0,y1,y2,dF,dG,dH⟩:=FB.facts;have S1:=(ic BU FR DX NX);clear hN hb H1 hB hz1 hA DA DB DR FB FR DX NX BU SB l9
 go_upto_region 2 with fail
 rw[<-aX];clear aX;go_wp2_with fail;clear y0 y1 y2 dF dG dH;refine H2.o.mono ?_;rintro r u2 ⟨⟨v,rfl,hM⟩,hb⟩;obtain⟨a2,c2,rfl,_⟩:=hM.arg ae;obtain⟨BU,FR,DX,NX⟩:=S1.o;obtain⟨U2,fH⟩:=ah (u2.alloc (.cells #[.bool m1,.slice a2 (ws Y).length c2,.int .i64 f1] 25));have hA:Below u2.heap.size u2 U2:=by rw[fH];exact af _ _
 have hs3:U1.heap.size<=u2.heap.size:=hb.size;have hs4:u2.heap.size<U2.heap.size:=by rw[fH];simp
 have GR:=(FR.below hb).below hA;have GX:=(DX.below hb).below hA;have GY:Dk U2 u2.heap.size m1 (.slice a2 (ws Y).length c2) f1:=by rw[fH];exact Dk.new _ _ _ _
 have MX:=(NX.below hb).below hA;have MY:Nt (w.heap.size+3) U2 (.slice a2 (ws Y).length c2) Y:=(hM.mono ae).below hA;have BV:Below w.heap.size w U2:=(BU.trans (hb.mono ae)).trans (hA.mono ae);have S2:=(jJ BV GR GX GY MX MY);clear hM hb H2 hA FR DX NX BU GR GX GY MX MY BV S1
 go_upto_region 5 with fail
 rw[<-fH];clear fH;obtain⟨r0,r1,r2,iH,iI,iJ⟩:=S2.o.2.1.facts;obtain⟨x0,x1,x2,dw,dz,dA⟩:=S2.o.r2.1.facts;obtain⟨y0,y1,y2,dF,dG,dH⟩:=S2.o.r3.1.facts;have H3:=hid (HP.o U2 _ S2.o.1 S2.o.r4.1);clear HP;go_wp2_with fail;clear r0 r1 r2 iH iI iJ x0 x1 x2 dw dz dA y0 y1 y2 dF dG dH;refine H3.o.mono ?_;rintro r u5 ⟨v,rfl,hP,hb⟩;obtain⟨a5,c5,rfl,_⟩:=hP.arg ae;obtain⟨BV,GR,GX,GY,MX,MY⟩:=S2.o;have hs5:U2.heap.size<=u5.heap.size:=hb.size;have Dx:Below w.heap.size w u5:=BV.trans (hb.mono ae);have H4:=hid (HQ.o u5 _ Dx (MY.below hb));have S5:=(jJ Dx (GR.below hb) (GX.below hb) (GY.below hb) (MX.below hb) (hP.mono (lo':=w.heap.size+3) ae));clear BV GR GX GY MX MY Dx hP hb H3 S2 HQ;obtain⟨r0,r1,r2,iH,iI,iJ⟩:=S5.o.2.1.facts;obtain⟨x0,x1,x2,dw,dz,dA⟩:=S5.o.r2.1.facts;obtain⟨y0,y1,y2,dF,dG,dH⟩:=S5.o.r3.1.facts;go_wp2_with fail;clear r0 r1 r2 iH iI iJ x0 x1 x2 dw dz dA y0 y1 y2 dF dG dH;refine H4.o.mono ?_;rintro r u6 ⟨v,rfl,hQ,hb⟩;obtain⟨a6,c6,rfl,_⟩:=hQ.arg ae;obtain⟨BV,GR,GX,GY,MX,MP⟩:=S5.o;have hs6:u5.heap.size<=u6.heap.size:=hb.size;have S2:=(jJ (BV.trans (hb.mono ae)) (GR.below hb) (GX.below hb) (GY.below hb) (MP.below hb) (hQ.mono (lo':=w.heap.size+3) ae));clear BV GR GX GY MX MP hQ hb H4 S5;obtain⟨r0,r1,r2,iH,iI,iJ⟩:=S2.o.2.1.facts;obtain⟨x0,x1,x2,dw,dz,dA⟩:=S2.o.r2.1.facts;obtain⟨y0,y1,y2,dF,dG,dH⟩:=S2.o.r3.1.facts;go_wp2_with fail;have ne1:u1.heap.size≠w.heap.size+1+1:=ae
 have Q6:u2.heap.size≠w.heap.size+1+1:=ae
 have ne3:w.heap.size+1+1≠u1.heap.size:=ae
 have ne4:w.heap.size+1+1≠u2.heap.size:=ae
 have T1:=hid (HT.o u6 a5 a6 c5 c6 S2.o.1 (S2.o.r4.1.aY ae).2 (S2.o.r5.aY ae).2);have T2:=hid (HT.o u6.drew a5 a6 c5 c6 (gF S2.o.1) (Arg.drew' (S2.o.r4.1.aY ae).2) (Arg.drew' (S2.o.r5.aY ae).2))
 go_region_held3 (fun w'=>w'.cell? ⟨u1.heap.size,0,none⟩=some (.bool n1)/\w'.cell? ⟨u1.heap.size,1,none⟩=some (.slice a1 (ws X).length c1)/\w'.cell? ⟨u1.heap.size,2,none⟩=some (.int .i64 e1)/\w'.cell? ⟨u2.heap.size,0,none⟩=some (.bool m1)/\w'.cell? ⟨u2.heap.size,1,none⟩=some (.slice a2 (ws Y).length c2)/\w'.cell? ⟨u2.heap.size,2,none⟩=some (.int .i64 f1)) (go_keep) (first
  | (go_at_call 106
     first | with_reducible refine T1.o.mono ?_ | with_reducible refine T2.o.mono ?_
     rintro r u3 ⟨v,rfl,hN,hb⟩;obtain⟨a3,c3,rfl,_⟩:=hN.arg ae;have hb3:Below u6.heap.size u6 u3:=by first | exact hb | exact((aD _ u6).drew).trans (hb.mono (aC _))
     have Nu:=hid (HL.o u3 a3 c3 (S2.o.1.trans (hb3.mono ae)) (hN.aY ae).2);have KR:=S2.o.2.1.below hb3;have KX:=S2.o.r2.1.below hb3;have KY:=S2.o.r3.1.below hb3;obtain⟨p0,p1,p2,w9,xc,xe⟩:=KR.facts;obtain⟨q0,q1,q2,AQ,AU,AV⟩:=KX.facts;obtain⟨s0,s1,s2,uZ,ve,vg⟩:=KY.facts;have hs9:u6.heap.size<=u3.heap.size:=hb3.size;have S9:=(ic (S2.o.1.trans (hb3.mono ae)) KR KX KY)
     clear hN hb hb3 KR KX KY)
  | (go_at_call 62
     with_reducible refine Nu.o.mono ?_
     rintro r u4 ⟨⟨v,rfl,hN⟩,hb⟩;obtain⟨a4,c4,rfl,_⟩:=hN.arg ae;have LR:=S9.o.2.1.below hb;obtain⟨t0,t1,t2,Q7,Q8,Q9⟩:=LR.facts;obtain⟨i0,i1,i2,Ux,Uy,Uz⟩:=(S9.o.r2.1.below hb).facts;obtain⟨j0,j1,j2,jf0,jf1,jf2⟩:=(S9.o.r3.below hb).facts;have FV:=aA (show Fin w.heap.size (w.heap.size+3) w u4 (.slice a4 (ws V).length c4) V from⟨hN.mono ae,S9.o.1.trans (hb.mono ae),by have:=hb.size;omega⟩);have Ha:=aA LR
     clear hN hb LR))
 all_goals (
  go_wp2;refine aG (jy _ (w.heap.size+1+1) dn (.slice a4 (ws V).length c4) de er _ rfl rfl (Ha.o.set _ _ _)) rfl ?_;refine Fin.lh (m:=w.heap.size+3) ?_ ae
  repeat (with_reducible first | exact FV.o | refine Fin.drew ?_ | refine Fin.alloc ?_ _ | refine Fin.set ?_ _ _ _ ae ae))
theorem VF {w:World}{a b:Option Addr}{l c k d:Nat}(n m:Bool) (e f:Int) (n1 m1:Bool) (X Y:Nat) (e1 f1:Int) (lX:(ws X).length<=8192) (lY:(ws Y).length<=8192) (hX:((((ws X).length:Nat):Int)==0)=false) (hY:((((ws Y).length:Nat):Int)==0)=false) (MO:-1048576<=e1) (MR:e1<=1048576) (MS:-1048576<=f1) (MU:f1<=1048576) (g:Int) (hg:min e1 f1=g) (bg0:-1048576<=g) (bg1:g<=1048576) (P Q:Nat) (lP:(ws P).length<=1000000) (lQ:(ws Q).length<=1000000) (h5:(ws P).length<=8192) (h6:(ws Q).length<=8192) (hs:(n1==m1)=false) (z:Int) (hz:0<=z) (L:Nat) (lL:(ws L).length<=1000000) (dn:Bool) (V:Nat) (de er:Int) (lV:(ws V).length<=8192)
 (kF:Hid (∀ u,Below w.heap.size w u->Calls Tryz.prog 61 #[.agg #[.bool n,.slice a l c,.int .i64 e]] u fun r w'=>(∃ v,r=.returned (.tuple #[.agg #[.bool n1,v,.int .i64 e1],.bool true])/\Nt u.heap.size w' v X)/\Below u.heap.size u w'))
 (l9:Hid (∀ u,Below w.heap.size w u->Calls Tryz.prog 61 #[.agg #[.bool m,.slice b k d,.int .i64 f]] u fun r w'=>(∃ v,r=.returned (.tuple #[.agg #[.bool m1,v,.int .i64 f1],.bool true])/\Nt u.heap.size w' v Y)/\Below u.heap.size u w'))
 (HP:Hid (∀ (u:World) (v:Value),Below w.heap.size w u->Nt (w.heap.size+3) u v X->Calls Tryz.prog 97 #[v,.int .i64 (e1-g)] u fun r w'=>∃ v,r=.returned v/\Nt u.heap.size w' v P/\Below u.heap.size u w'))
 (HQ:Hid (∀ (u:World) (v:Value),Below w.heap.size w u->Nt (w.heap.size+3) u v Y->Calls Tryz.prog 97 #[v,.int .i64 (f1-g)] u fun r w'=>∃ v,r=.returned v/\Nt u.heap.size w' v Q/\Below u.heap.size u w'))
 (HC:Hid (∀ (u:World) (p q:Option Addr) (s t:Nat),Below w.heap.size w u->Arg u p (ws P).length s (ws P)->Arg u q (ws Q).length t (ws Q)->Calls Tryz.prog 107 #[.slice p (ws P).length s,.slice q (ws Q).length t] u fun r w'=>r=.returned (.int .i64 z)/\Below u.heap.size u w'))
 (HT:Hid (∀ (u:World) (p q:Option Addr) (s t:Nat),Below w.heap.size w u->Arg u p (ws P).length s (ws P)->Arg u q (ws Q).length t (ws Q)->Calls Tryz.prog 108 #[.slice p (ws P).length s,.slice q (ws Q).length t] u fun r w'=>∃ v,r=.returned v/\Nt u.heap.size w' v L/\Below u.heap.size u w'))
 (HL:Hid (∀ (u:World) (p:Option Addr) (s:Nat),Below w.heap.size w u->Arg u p (ws L).length s (ws L)->Calls Tryz.prog 62 #[.bool n1,.slice p (ws L).length s,.int .i64 g] u fun r w'=>(∃ v,r=.returned (.tuple #[.agg #[.bool dn,v,.int .i64 de],.int .i64 er])/\Nt u.heap.size w' v V)/\Below u.heap.size u w')):Calls Tryz.prog 64 #[.agg #[.bool n,.slice a l c,.int .i64 e],.agg #[.bool m,.slice b k d,.int .i64 f]] w fun r w'=>(∃ v,r=.returned (.tuple #[.agg #[.bool dn,v,.int .i64 de],.int .i64 er])/\Nt w.heap.size w' v V)/\Below w.heap.size w w':=by
 obtain⟨W1,hW1⟩:=ah (((w.alloc (.cells #[.bool n,.slice a l c,.int .i64 e] 25)).alloc (.cells #[.bool m,.slice b k d,.int .i64 f] 25)).alloc (.cells zD3 25));obtain⟨hB,hz1,DA,DB,DR⟩:=bE w n m (.slice a l c) (.slice b k d) e f W1 hW1;have H1:=hid (kF.o W1 hB);have SB:=(fO hB hz1 DA DB DR);clear hB hz1 DA DB DR kF;go_enter Tryz.func64,Tryz.ntmps64;go_wp2_with fail;rw[<-hW1];clear hW1;refine H1.o.mono ?_;rintro r u1 ⟨⟨v,rfl,hN⟩,hb⟩;obtain⟨a1,c1,rfl,_⟩:=hN.arg ae;obtain⟨hB,hz1,DA,DB,DR⟩:=SB.o;obtain⟨U1,aX⟩:=ah (u1.alloc (.cells #[.bool n1,.slice a1 (ws X).length c1,.int .i64 e1] 25));have hA:Below u1.heap.size u1 U1:=by rw[aX];exact af _ _
 have hs1:w.heap.size+3<=u1.heap.size:=by have:=hb.size;omega
 have hs2:u1.heap.size<U1.heap.size:=by rw[aX];simp
 have FB:=(DB.below hb).below hA;have FR:=(DR.below hb).below hA;have DX:Dk U1 u1.heap.size n1 (.slice a1 (ws X).length c1) e1:=by rw[aX];exact Dk.new _ _ _ _
 have NX:Nt (w.heap.size+3) U1 (.slice a1 (ws X).length c1) X:=(hN.mono ae).below hA;have BU:Below w.heap.size w U1:=(hB.trans (hb.mono ae)).trans (hA.mono ae);have H2:=hid (l9.o U1 BU);obtain⟨y0,y1,y2,dF,dG,dH⟩:=FB.facts;have S1:=(ic BU FR DX NX);clear hN hb H1 hB hz1 hA DA DB DR FB FR DX NX BU SB l9
 go_upto_region 2 with fail
 rw[<-aX];clear aX;go_wp2_with fail;clear y0 y1 y2 dF dG dH;refine H2.o.mono ?_;rintro r u2 ⟨⟨v,rfl,hM⟩,hb⟩;obtain⟨a2,c2,rfl,_⟩:=hM.arg ae;obtain⟨BU,FR,DX,NX⟩:=S1.o;obtain⟨U2,fH⟩:=ah (u2.alloc (.cells #[.bool m1,.slice a2 (ws Y).length c2,.int .i64 f1] 25));have hA:Below u2.heap.size u2 U2:=by rw[fH];exact af _ _
 have hs3:U1.heap.size<=u2.heap.size:=hb.size;have hs4:u2.heap.size<U2.heap.size:=by rw[fH];simp
 have GR:=(FR.below hb).below hA;have GX:=(DX.below hb).below hA;have GY:Dk U2 u2.heap.size m1 (.slice a2 (ws Y).length c2) f1:=by rw[fH];exact Dk.new _ _ _ _
 have MX:=(NX.below hb).below hA;have MY:Nt (w.heap.size+3) U2 (.slice a2 (ws Y).length c2) Y:=(hM.mono ae).below hA;have BV:Below w.heap.size w U2:=(BU.trans (hb.mono ae)).trans (hA.mono ae);have S2:=(jJ BV GR GX GY MX MY);clear hM hb H2 hA FR DX NX BU GR GX GY MX MY BV S1
 go_upto_region 5 with fail
 rw[<-fH];clear fH;obtain⟨r0,r1,r2,iH,iI,iJ⟩:=S2.o.2.1.facts;obtain⟨x0,x1,x2,dw,dz,dA⟩:=S2.o.r2.1.facts;obtain⟨y0,y1,y2,dF,dG,dH⟩:=S2.o.r3.1.facts;have H3:=hid (HP.o U2 _ S2.o.1 S2.o.r4.1);clear HP;go_wp2_with fail;clear r0 r1 r2 iH iI iJ x0 x1 x2 dw dz dA y0 y1 y2 dF dG dH;refine H3.o.mono ?_;rintro r u5 ⟨v,rfl,hP,hb⟩;obtain⟨a5,c5,rfl,_⟩:=hP.arg ae;obtain⟨BV,GR,GX,GY,MX,MY⟩:=S2.o;have hs5:U2.heap.size<=u5.heap.size:=hb.size;have Dx:Below w.heap.size w u5:=BV.trans (hb.mono ae);have H4:=hid (HQ.o u5 _ Dx (MY.below hb));have S5:=(jJ Dx (GR.below hb) (GX.below hb) (GY.below hb) (MX.below hb) (hP.mono (lo':=w.heap.size+3) ae));clear BV GR GX GY MX MY Dx hP hb H3 S2 HQ;obtain⟨r0,r1,r2,iH,iI,iJ⟩:=S5.o.2.1.facts;obtain⟨x0,x1,x2,dw,dz,dA⟩:=S5.o.r2.1.facts;obtain⟨y0,y1,y2,dF,dG,dH⟩:=S5.o.r3.1.facts;go_wp2_with fail;clear r0 r1 r2 iH iI iJ x0 x1 x2 dw dz dA y0 y1 y2 dF dG dH;refine H4.o.mono ?_;rintro r u6 ⟨v,rfl,hQ,hb⟩;obtain⟨a6,c6,rfl,_⟩:=hQ.arg ae;obtain⟨BV,GR,GX,GY,MX,MP⟩:=S5.o;have hs6:u5.heap.size<=u6.heap.size:=hb.size;have S2:=(jJ (BV.trans (hb.mono ae)) (GR.below hb) (GX.below hb) (GY.below hb) (MP.below hb) (hQ.mono (lo':=w.heap.size+3) ae));clear BV GR GX GY MX MP hQ hb H4 S5;obtain⟨r0,r1,r2,iH,iI,iJ⟩:=S2.o.2.1.facts;obtain⟨x0,x1,x2,dw,dz,dA⟩:=S2.o.r2.1.facts;obtain⟨y0,y1,y2,dF,dG,dH⟩:=S2.o.r3.1.facts;have H7:=hid (HC.o u6 a5 a6 c5 c6 S2.o.1 (S2.o.r4.1.aY ae).2 (S2.o.r5.aY ae).2);clear HC;go_wp2_with fail;clear r0 r1 r2 iH iI iJ x0 x1 x2 dw dz dA y0 y1 y2 dF dG dH;refine H7.o.mono ?_;rintro r u7 ⟨rfl,hb⟩;obtain⟨BV,GR,GX,GY,MP,MQ⟩:=S2.o;have hs7:u6.heap.size<=u7.heap.size:=hb.size;have S2':=(jJ (BV.trans (hb.mono ae)) (GR.below hb) (GX.below hb) (GY.below hb) (MP.below hb) (MQ.below hb));clear S2;have S2:=S2';clear BV GR GX GY MP MQ hb H7 S2';obtain⟨r0,r1,r2,iH,iI,iJ⟩:=S2.o.2.1.facts;obtain⟨x0,x1,x2,dw,dz,dA⟩:=S2.o.r2.1.facts;obtain⟨y0,y1,y2,dF,dG,dH⟩:=S2.o.r3.1.facts;go_wp2_with fail;have ne1:u1.heap.size≠w.heap.size+1+1:=ae
 have Q6:u2.heap.size≠w.heap.size+1+1:=ae
 have ne3:w.heap.size+1+1≠u1.heap.size:=ae
 have ne4:w.heap.size+1+1≠u2.heap.size:=ae
 have T1:=hid (HT.o u7 a5 a6 c5 c6 S2.o.1 (S2.o.r4.1.aY ae).2 (S2.o.r5.aY ae).2);have T2:=hid (HT.o u7.drew a5 a6 c5 c6 (gF S2.o.1) (Arg.drew' (S2.o.r4.1.aY ae).2) (Arg.drew' (S2.o.r5.aY ae).2))
 go_region_held3 (fun w'=>w'.cell? ⟨u1.heap.size,0,none⟩=some (.bool n1)/\w'.cell? ⟨u1.heap.size,1,none⟩=some (.slice a1 (ws X).length c1)/\w'.cell? ⟨u1.heap.size,2,none⟩=some (.int .i64 e1)/\w'.cell? ⟨u2.heap.size,0,none⟩=some (.bool m1)/\w'.cell? ⟨u2.heap.size,1,none⟩=some (.slice a2 (ws Y).length c2)/\w'.cell? ⟨u2.heap.size,2,none⟩=some (.int .i64 f1)) (go_keep) (first
  | (go_at_call 108
     first | with_reducible refine T1.o.mono ?_ | with_reducible refine T2.o.mono ?_
     rintro r u3 ⟨v,rfl,hN,hb⟩;obtain⟨a3,c3,rfl,_⟩:=hN.arg ae;have hb3:Below u7.heap.size u7 u3:=by first | exact hb | exact((aD _ u7).drew).trans (hb.mono (aC _))
     have Nu:=hid (HL.o u3 a3 c3 (S2.o.1.trans (hb3.mono ae)) (hN.aY ae).2);have KR:=S2.o.2.1.below hb3;have KX:=S2.o.r2.1.below hb3;have KY:=S2.o.r3.1.below hb3;obtain⟨p0,p1,p2,w9,xc,xe⟩:=KR.facts;obtain⟨q0,q1,q2,AQ,AU,AV⟩:=KX.facts;obtain⟨s0,s1,s2,uZ,ve,vg⟩:=KY.facts;have hs9:u7.heap.size<=u3.heap.size:=hb3.size;have S9:=(ic (S2.o.1.trans (hb3.mono ae)) KR KX KY)
     clear hN hb hb3 KR KX KY)
  | (go_at_call 62
     with_reducible refine Nu.o.mono ?_
     rintro r u4 ⟨⟨v,rfl,hN⟩,hb⟩;obtain⟨a4,c4,rfl,_⟩:=hN.arg ae;have LR:=S9.o.2.1.below hb;obtain⟨t0,t1,t2,Q7,Q8,Q9⟩:=LR.facts;obtain⟨i0,i1,i2,Ux,Uy,Uz⟩:=(S9.o.r2.1.below hb).facts;obtain⟨j0,j1,j2,jf0,jf1,jf2⟩:=(S9.o.r3.below hb).facts;have FV:=aA (show Fin w.heap.size (w.heap.size+3) w u4 (.slice a4 (ws V).length c4) V from⟨hN.mono ae,S9.o.1.trans (hb.mono ae),by have:=hb.size;omega⟩);have Ha:=aA LR
     clear hN hb LR))
 all_goals (
  go_wp2;refine aG (jy _ (w.heap.size+1+1) dn (.slice a4 (ws V).length c4) de er _ rfl rfl (Ha.o.set _ _ _)) rfl ?_;refine Fin.lh (m:=w.heap.size+3) ?_ ae
  repeat (with_reducible first | exact FV.o | refine Fin.drew ?_ | refine Fin.alloc ?_ _ | refine Fin.set ?_ _ _ _ ae ae))
theorem VG {w:World}{a b:Option Addr}{l c k d:Nat}(n m:Bool) (e f:Int) (n1 m1:Bool) (X Y:Nat) (e1 f1:Int) (lX:(ws X).length<=8192) (lY:(ws Y).length<=8192) (hX:((((ws X).length:Nat):Int)==0)=false) (hY:((((ws Y).length:Nat):Int)==0)=false) (MO:-1048576<=e1) (MR:e1<=1048576) (MS:-1048576<=f1) (MU:f1<=1048576) (g:Int) (hg:min e1 f1=g) (bg0:-1048576<=g) (bg1:g<=1048576) (P Q:Nat) (lP:(ws P).length<=1000000) (lQ:(ws Q).length<=1000000) (h5:(ws P).length<=8192) (h6:(ws Q).length<=8192) (hs:(n1==m1)=false) (z:Int) (hz:z<0) (L:Nat) (lL:(ws L).length<=1000000) (dn:Bool) (V:Nat) (de er:Int) (lV:(ws V).length<=8192)
 (kF:Hid (∀ u,Below w.heap.size w u->Calls Tryz.prog 61 #[.agg #[.bool n,.slice a l c,.int .i64 e]] u fun r w'=>(∃ v,r=.returned (.tuple #[.agg #[.bool n1,v,.int .i64 e1],.bool true])/\Nt u.heap.size w' v X)/\Below u.heap.size u w'))
 (l9:Hid (∀ u,Below w.heap.size w u->Calls Tryz.prog 61 #[.agg #[.bool m,.slice b k d,.int .i64 f]] u fun r w'=>(∃ v,r=.returned (.tuple #[.agg #[.bool m1,v,.int .i64 f1],.bool true])/\Nt u.heap.size w' v Y)/\Below u.heap.size u w'))
 (HP:Hid (∀ (u:World) (v:Value),Below w.heap.size w u->Nt (w.heap.size+3) u v X->Calls Tryz.prog 97 #[v,.int .i64 (e1-g)] u fun r w'=>∃ v,r=.returned v/\Nt u.heap.size w' v P/\Below u.heap.size u w'))
 (HQ:Hid (∀ (u:World) (v:Value),Below w.heap.size w u->Nt (w.heap.size+3) u v Y->Calls Tryz.prog 97 #[v,.int .i64 (f1-g)] u fun r w'=>∃ v,r=.returned v/\Nt u.heap.size w' v Q/\Below u.heap.size u w'))
 (HC:Hid (∀ (u:World) (p q:Option Addr) (s t:Nat),Below w.heap.size w u->Arg u p (ws P).length s (ws P)->Arg u q (ws Q).length t (ws Q)->Calls Tryz.prog 107 #[.slice p (ws P).length s,.slice q (ws Q).length t] u fun r w'=>r=.returned (.int .i64 z)/\Below u.heap.size u w'))
 (HT:Hid (∀ (u:World) (p q:Option Addr) (s t:Nat),Below w.heap.size w u->Arg u p (ws Q).length s (ws Q)->Arg u q (ws P).length t (ws P)->Calls Tryz.prog 108 #[.slice p (ws Q).length s,.slice q (ws P).length t] u fun r w'=>∃ v,r=.returned v/\Nt u.heap.size w' v L/\Below u.heap.size u w'))
 (HL:Hid (∀ (u:World) (p:Option Addr) (s:Nat),Below w.heap.size w u->Arg u p (ws L).length s (ws L)->Calls Tryz.prog 62 #[.bool m1,.slice p (ws L).length s,.int .i64 g] u fun r w'=>(∃ v,r=.returned (.tuple #[.agg #[.bool dn,v,.int .i64 de],.int .i64 er])/\Nt u.heap.size w' v V)/\Below u.heap.size u w')):Calls Tryz.prog 64 #[.agg #[.bool n,.slice a l c,.int .i64 e],.agg #[.bool m,.slice b k d,.int .i64 f]] w fun r w'=>(∃ v,r=.returned (.tuple #[.agg #[.bool dn,v,.int .i64 de],.int .i64 er])/\Nt w.heap.size w' v V)/\Below w.heap.size w w':=by
 obtain⟨W1,hW1⟩:=ah (((w.alloc (.cells #[.bool n,.slice a l c,.int .i64 e] 25)).alloc (.cells #[.bool m,.slice b k d,.int .i64 f] 25)).alloc (.cells zD3 25));obtain⟨hB,hz1,DA,DB,DR⟩:=bE w n m (.slice a l c) (.slice b k d) e f W1 hW1;have H1:=hid (kF.o W1 hB);have SB:=(fO hB hz1 DA DB DR);clear hB hz1 DA DB DR kF;go_enter Tryz.func64,Tryz.ntmps64;go_wp2_with fail;rw[<-hW1];clear hW1;refine H1.o.mono ?_;rintro r u1 ⟨⟨v,rfl,hN⟩,hb⟩;obtain⟨a1,c1,rfl,_⟩:=hN.arg ae;obtain⟨hB,hz1,DA,DB,DR⟩:=SB.o;obtain⟨U1,aX⟩:=ah (u1.alloc (.cells #[.bool n1,.slice a1 (ws X).length c1,.int .i64 e1] 25));have hA:Below u1.heap.size u1 U1:=by rw[aX];exact af _ _
 have hs1:w.heap.size+3<=u1.heap.size:=by have:=hb.size;omega
 have hs2:u1.heap.size<U1.heap.size:=by rw[aX];simp
 have FB:=(DB.below hb).below hA;have FR:=(DR.below hb).below hA;have DX:Dk U1 u1.heap.size n1 (.slice a1 (ws X).length c1) e1:=by rw[aX];exact Dk.new _ _ _ _
 have NX:Nt (w.heap.size+3) U1 (.slice a1 (ws X).length c1) X:=(hN.mono ae).below hA;have BU:Below w.heap.size w U1:=(hB.trans (hb.mono ae)).trans (hA.mono ae);have H2:=hid (l9.o U1 BU);obtain⟨y0,y1,y2,dF,dG,dH⟩:=FB.facts;have S1:=(ic BU FR DX NX);clear hN hb H1 hB hz1 hA DA DB DR FB FR DX NX BU SB l9
 go_upto_region 2 with fail
 rw[<-aX];clear aX;go_wp2_with fail;clear y0 y1 y2 dF dG dH;refine H2.o.mono ?_;rintro r u2 ⟨⟨v,rfl,hM⟩,hb⟩;obtain⟨a2,c2,rfl,_⟩:=hM.arg ae;obtain⟨BU,FR,DX,NX⟩:=S1.o;obtain⟨U2,fH⟩:=ah (u2.alloc (.cells #[.bool m1,.slice a2 (ws Y).length c2,.int .i64 f1] 25));have hA:Below u2.heap.size u2 U2:=by rw[fH];exact af _ _
 have hs3:U1.heap.size<=u2.heap.size:=hb.size;have hs4:u2.heap.size<U2.heap.size:=by rw[fH];simp
 have GR:=(FR.below hb).below hA;have GX:=(DX.below hb).below hA;have GY:Dk U2 u2.heap.size m1 (.slice a2 (ws Y).length c2) f1:=by rw[fH];exact Dk.new _ _ _ _
 have MX:=(NX.below hb).below hA;have MY:Nt (w.heap.size+3) U2 (.slice a2 (ws Y).length c2) Y:=(hM.mono ae).below hA;have BV:Below w.heap.size w U2:=(BU.trans (hb.mono ae)).trans (hA.mono ae);have S2:=(jJ BV GR GX GY MX MY);clear hM hb H2 hA FR DX NX BU GR GX GY MX MY BV S1
 go_upto_region 5 with fail
 rw[<-fH];clear fH;obtain⟨r0,r1,r2,iH,iI,iJ⟩:=S2.o.2.1.facts;obtain⟨x0,x1,x2,dw,dz,dA⟩:=S2.o.r2.1.facts;obtain⟨y0,y1,y2,dF,dG,dH⟩:=S2.o.r3.1.facts;have H3:=hid (HP.o U2 _ S2.o.1 S2.o.r4.1);clear HP;go_wp2_with fail;clear r0 r1 r2 iH iI iJ x0 x1 x2 dw dz dA y0 y1 y2 dF dG dH;refine H3.o.mono ?_;rintro r u5 ⟨v,rfl,hP,hb⟩;obtain⟨a5,c5,rfl,_⟩:=hP.arg ae;obtain⟨BV,GR,GX,GY,MX,MY⟩:=S2.o;have hs5:U2.heap.size<=u5.heap.size:=hb.size;have Dx:Below w.heap.size w u5:=BV.trans (hb.mono ae);have H4:=hid (HQ.o u5 _ Dx (MY.below hb));have S5:=(jJ Dx (GR.below hb) (GX.below hb) (GY.below hb) (MX.below hb) (hP.mono (lo':=w.heap.size+3) ae));clear BV GR GX GY MX MY Dx hP hb H3 S2 HQ;obtain⟨r0,r1,r2,iH,iI,iJ⟩:=S5.o.2.1.facts;obtain⟨x0,x1,x2,dw,dz,dA⟩:=S5.o.r2.1.facts;obtain⟨y0,y1,y2,dF,dG,dH⟩:=S5.o.r3.1.facts;go_wp2_with fail;clear r0 r1 r2 iH iI iJ x0 x1 x2 dw dz dA y0 y1 y2 dF dG dH;refine H4.o.mono ?_;rintro r u6 ⟨v,rfl,hQ,hb⟩;obtain⟨a6,c6,rfl,_⟩:=hQ.arg ae;obtain⟨BV,GR,GX,GY,MX,MP⟩:=S5.o;have hs6:u5.heap.size<=u6.heap.size:=hb.size;have S2:=(jJ (BV.trans (hb.mono ae)) (GR.below hb) (GX.below hb) (GY.below hb) (MP.below hb) (hQ.mono (lo':=w.heap.size+3) ae));clear BV GR GX GY MX MP hQ hb H4 S5;obtain⟨r0,r1,r2,iH,iI,iJ⟩:=S2.o.2.1.facts;obtain⟨x0,x1,x2,dw,dz,dA⟩:=S2.o.r2.1.facts;obtain⟨y0,y1,y2,dF,dG,dH⟩:=S2.o.r3.1.facts;have H7:=hid (HC.o u6 a5 a6 c5 c6 S2.o.1 (S2.o.r4.1.aY ae).2 (S2.o.r5.aY ae).2);clear HC;go_wp2_with fail;clear r0 r1 r2 iH iI iJ x0 x1 x2 dw dz dA y0 y1 y2 dF dG dH;refine H7.o.mono ?_;rintro r u7 ⟨rfl,hb⟩;obtain⟨BV,GR,GX,GY,MP,MQ⟩:=S2.o;have hs7:u6.heap.size<=u7.heap.size:=hb.size;have S2':=(jJ (BV.trans (hb.mono ae)) (GR.below hb) (GX.below hb) (GY.below hb) (MP.below hb) (MQ.below hb));clear S2;have S2:=S2';clear BV GR GX GY MP MQ hb H7 S2';obtain⟨r0,r1,r2,iH,iI,iJ⟩:=S2.o.2.1.facts;obtain⟨x0,x1,x2,dw,dz,dA⟩:=S2.o.r2.1.facts;obtain⟨y0,y1,y2,dF,dG,dH⟩:=S2.o.r3.1.facts;go_wp2_with fail;have ne1:u1.heap.size≠w.heap.size+1+1:=ae
 have Q6:u2.heap.size≠w.heap.size+1+1:=ae
 have ne3:w.heap.size+1+1≠u1.heap.size:=ae
 have ne4:w.heap.size+1+1≠u2.heap.size:=ae
 have T1:=hid (HT.o u7 a6 a5 c6 c5 S2.o.1 (S2.o.r5.aY ae).2 (S2.o.r4.1.aY ae).2);have T2:=hid (HT.o u7.drew a6 a5 c6 c5 (gF S2.o.1) (Arg.drew' (S2.o.r5.aY ae).2) (Arg.drew' (S2.o.r4.1.aY ae).2))
 go_region_held3 (fun w'=>w'.cell? ⟨u1.heap.size,0,none⟩=some (.bool n1)/\w'.cell? ⟨u1.heap.size,1,none⟩=some (.slice a1 (ws X).length c1)/\w'.cell? ⟨u1.heap.size,2,none⟩=some (.int .i64 e1)/\w'.cell? ⟨u2.heap.size,0,none⟩=some (.bool m1)/\w'.cell? ⟨u2.heap.size,1,none⟩=some (.slice a2 (ws Y).length c2)/\w'.cell? ⟨u2.heap.size,2,none⟩=some (.int .i64 f1)) (go_keep) (first
  | (go_at_call 108
     first | with_reducible refine T1.o.mono ?_ | with_reducible refine T2.o.mono ?_
     rintro r u3 ⟨v,rfl,hN,hb⟩;obtain⟨a3,c3,rfl,_⟩:=hN.arg ae;have hb3:Below u7.heap.size u7 u3:=by first | exact hb | exact((aD _ u7).drew).trans (hb.mono (aC _))
     have Nu:=hid (HL.o u3 a3 c3 (S2.o.1.trans (hb3.mono ae)) (hN.aY ae).2);have KR:=S2.o.2.1.below hb3;have KX:=S2.o.r2.1.below hb3;have KY:=S2.o.r3.1.below hb3;obtain⟨p0,p1,p2,w9,xc,xe⟩:=KR.facts;obtain⟨q0,q1,q2,AQ,AU,AV⟩:=KX.facts;obtain⟨s0,s1,s2,uZ,ve,vg⟩:=KY.facts;have hs9:u7.heap.size<=u3.heap.size:=hb3.size;have S9:=(ic (S2.o.1.trans (hb3.mono ae)) KR KX KY)
     clear hN hb hb3 KR KX KY)
  | (go_at_call 62
     with_reducible refine Nu.o.mono ?_
     rintro r u4 ⟨⟨v,rfl,hN⟩,hb⟩;obtain⟨a4,c4,rfl,_⟩:=hN.arg ae;have LR:=S9.o.2.1.below hb;obtain⟨t0,t1,t2,Q7,Q8,Q9⟩:=LR.facts;obtain⟨i0,i1,i2,Ux,Uy,Uz⟩:=(S9.o.r2.1.below hb).facts;obtain⟨j0,j1,j2,jf0,jf1,jf2⟩:=(S9.o.r3.below hb).facts;have FV:=aA (show Fin w.heap.size (w.heap.size+3) w u4 (.slice a4 (ws V).length c4) V from⟨hN.mono ae,S9.o.1.trans (hb.mono ae),by have:=hb.size;omega⟩);have Ha:=aA LR
     clear hN hb LR))
 all_goals (
  go_wp2;refine aG (jy _ (w.heap.size+1+1) dn (.slice a4 (ws V).length c4) de er _ rfl rfl (Ha.o.set _ _ _)) rfl ?_;refine Fin.lh (m:=w.heap.size+3) ?_ ae
  repeat (with_reducible first | exact FV.o | refine Fin.drew ?_ | refine Fin.alloc ?_ _ | refine Fin.set ?_ _ _ _ ae ae))
theorem VH(W:World)(g:Nat)(n:Bool)(v:Value)(e k:Int)(tmps:Array Value)(ht:tmps[4]?.getD undef=.pointer (some ⟨g,0,none⟩))(hk:tmps[5]?.getD undef=.int .i64 k)(D:Dk W g n v e) :
 (results Tryz.f57 tmps).run Tryz.prog W=.ok (.tuple #[.agg #[.bool n,v,.int .i64 e],.int .i64 k]) W:=by
 obtain⟨x0,x1,x2,dw,dz,dA⟩:=D.facts;simp[results,Tryz.results57,ht,hk,go_sem,x0,x1,x2]
theorem Rb {w:World}{a b:Option Addr}{l c k d:Nat}(n m:Bool) (e f:Int) (dn:Bool) (V:Nat) (de er:Int) (lV:(ws V).length<=8192)
 (HT:Hid (∀ u,Calls Tryz.prog 101 #[.agg #[.bool m,.slice b k d,.int .i64 f]] u fun r w'=>r=.returned (.agg #[.bool (!m),.slice b k d,.int .i64 f])/\Below u.heap.size u w'))
 (HA:Hid (∀ u,Below w.heap.size w u->Calls Tryz.prog 100 #[.agg #[.bool n,.slice a l c,.int .i64 e],.agg #[.bool (!m),.slice b k d,.int .i64 f]] u fun r w'=>(∃ v,r=.returned (.tuple #[.agg #[.bool dn,v,.int .i64 de],.int .i64 er])/\Nt u.heap.size w' v V)/\Below u.heap.size u w')) :
 Calls Tryz.prog 57 #[.agg #[.bool n,.slice a l c,.int .i64 e],.agg #[.bool m,.slice b k d,.int .i64 f]] w fun r w'=>(∃ v,r=.returned (.tuple #[.agg #[.bool dn,v,.int .i64 de],.int .i64 er])/\Nt w.heap.size w' v V)/\Below w.heap.size w w':=by
 obtain⟨W1,hW1⟩:=ah (((w.alloc (.cells #[.bool n,.slice a l c,.int .i64 e] 25)).alloc (.cells #[.bool m,.slice b k d,.int .i64 f] 25)).alloc (.cells zD3 25));obtain⟨hB,hz1,DA,DB,DR⟩:=bE w n m (.slice a l c) (.slice b k d) e f W1 hW1;have T1:=hid (HT.o W1);have T2:=hid (HT.o W1.drew);obtain⟨x0,x1,x2,dw,dz,dA⟩:=DA.facts;obtain⟨y0,y1,y2,dF,dG,dH⟩:=DB.facts;obtain⟨r0,r1,r2,iH,iI,iJ⟩:=DR.facts;have hs1:w.heap.size+3<=W1.heap.size:=ae
 have SB:=(ic hB DA DB DR);clear hB hz1 DA DB DR;go_enter Tryz.func57,Tryz.ntmps57;go_wp2_with fail;rw[<-hW1];clear hW1;have ne1:w.heap.size≠w.heap.size+1+1:=ae
 have Q6:w.heap.size+1≠w.heap.size+1+1:=ae
 have ne3:w.heap.size+1+1≠w.heap.size:=ae
 have ne4:w.heap.size+1+1≠w.heap.size+1:=ae
 go_region_held3 (fun w'=>w'.cell? ⟨w.heap.size,0,none⟩=some (.bool n)/\w'.cell? ⟨w.heap.size,1,none⟩=some (.slice a l c)/\w'.cell? ⟨w.heap.size,2,none⟩=some (.int .i64 e)/\w'.cell? ⟨w.heap.size+1,0,none⟩=some (.bool m)/\w'.cell? ⟨w.heap.size+1,1,none⟩=some (.slice b k d)/\w'.cell? ⟨w.heap.size+1,2,none⟩=some (.int .i64 f)) (go_keep) (first
  | (go_at_call 101
     first | with_reducible refine T1.o.mono ?_ | with_reducible refine T2.o.mono ?_
     rintro r u1 ⟨rfl,hb⟩;have hb1:Below W1.heap.size W1 u1:=by first | exact hb | exact((aD _ W1).drew).trans (hb.mono (aC _))
     have hs2:W1.heap.size<=u1.heap.size:=hb1.size;have BW:Below w.heap.size w u1:=SB.o.1.trans (hb1.mono ae);have HA1:=hid (HA.o u1 BW);have KR:=SB.o.r3.below hb1;obtain⟨p0,p1,p2,w9,xc,xe⟩:=KR.facts;obtain⟨q0,q1,q2,AQ,AU,AV⟩:=(SB.o.2.1.below hb1).facts;obtain⟨s0,s1,s2,uZ,ve,vg⟩:=(SB.o.r2.1.below hb1).facts;have S1:=(ic BW KR (SB.o.2.1.below hb1) (SB.o.r2.1.below hb1))
     clear hb hb1 KR BW)
  | (go_at_call 100
     with_reducible refine HA1.o.mono ?_
     rintro r u2 ⟨⟨v,rfl,hN⟩,hb⟩;obtain⟨a4,c4,rfl,_⟩:=hN.arg ae;have LR:=S1.o.2.1.below hb;obtain⟨t0,t1,t2,Q7,Q8,Q9⟩:=LR.facts;obtain⟨i0,i1,i2,Ux,Uy,Uz⟩:=(S1.o.r2.1.below hb).facts;obtain⟨j0,j1,j2,jf0,jf1,jf2⟩:=(S1.o.r3.below hb).facts;have FV:=aA (show Fin w.heap.size (w.heap.size+3) w u2 (.slice a4 (ws V).length c4) V from⟨hN.mono ae,S1.o.1.trans (hb.mono ae),by have:=hb.size;omega⟩);have Ha:=aA LR
     clear hN hb LR))
 all_goals (
  go_wp2;refine aG (VH _ (w.heap.size+1+1) dn (.slice a4 (ws V).length c4) de er _ rfl rfl (Ha.o.set _ _ _)) rfl ?_;refine Fin.lh (m:=w.heap.size+3) ?_ ae
  repeat (with_reducible first | exact FV.o | refine Fin.drew ?_ | refine Fin.alloc ?_ _ | refine Fin.set ?_ _ _ _ ae ae))
theorem Nw(n:Bool)(X:Nat)(e:Int)(m:Bool)(Y:Nat)(f:Int):(ws (dX (ll n X e m Y f))).length<=8192:=by
 unfold ll
 split
 · show(ws 0).length<=8192;rw[bO];exact nV _
 · split
   · exact aR _ _ _
   · split <;> exact aR _ _ _
theorem Rc(n:Bool)(X:Nat)(e:Int)(m:Bool)(Y:Nat)(f:Int):(ws (dX (jv (mkS n X e) (mkS m Y f)))).length<=8192:=by
 have z0:(ws 0).length<=8192:=by rw[bO];exact nV _
 cases hx:mkS n X e with
 | none=>exact z0
 | some x =>
   cases hy:mkS m Y f with
   | none=>exact z0
   | some y =>
     obtain⟨n1,X1,e1⟩:=x;obtain⟨m1,Y1,f1⟩:=y;show(ws (dX (tZ _ _))).length<=8192;unfold tZ
     split
     · exact dS (cK hy)
     · split
       · exact dS (cK hx)
       · split <;> exact Nw _ _ _ _ _ _
theorem Ze(n m:Bool)(e f:Int):mkS n 0 e=mkS m 0 f:=by unfold mkS;rw[if_pos rfl,if_pos rfl]
theorem VI{n m:Bool}(h:¬ n=m):m=(!n)/\n=(!m)/\¬ m=n:=by
 cases n <;> cases m <;> first | exact absurd rfl h | exact⟨rfl,rfl,fun h=>by cases h⟩
theorem Qa4{P:Prop}(h:P:=by
 by_cases hs:n1=m1
 · rw[if_pos hs,if_pos hs]
 · rw[if_neg hs,if_neg hs,<-(VI hs).1]):P:=h
theorem Ny{w:World}{a b:Option Addr}{l c k d:Nat}{xs ys:List Nat}(h1:Arg w a l c xs)(h2:Arg w b k d ys)(hl:l<=2000000)(hk:k<=2000000)(n m:Bool)(e f:Int)(he0:-9223372036854775808<=e)(he1:e<=9223372036854775807)(hf0:-9223372036854775808<=f)(hf1:f<=9223372036854775807) :
 Calls Tryz.prog 64 #[.agg #[.bool n,.slice a l c,.int .i64 e],.agg #[.bool m,.slice b k d,.int .i64 f]] w fun r w'=>dm w.heap.size w' r (jv (mkS n (val xs) e) (mkS m (val ys) f))/\Below w.heap.size w w':=by
 have zero:∀ {r:Ending} {w':World},(r=.returned (.tuple #[.agg zD3,.int .i64 2])/\Below w.heap.size w w')->dm w.heap.size w' r none/\Below w.heap.size w w':=fun⟨h1,h2⟩=>⟨⟨_,h1,Nt.nil _ _⟩,h2⟩;have M1:=hid fun u (hu:Below w.heap.size w u)=>og (h1.below hu) hl n e he0 he1;have M2:=hid fun u (hu:Below w.heap.size w u)=>og (h2.below hu) hk m f hf0 hf1;have z0:(ws 0).length<=8192:=by rw[bO];exact nV _
 cases hx:mkS n (val xs) e with
 | none =>
   cases hy:mkS m (val ys) f with
   | none =>
     rw[hx] at M1;rw[hy] at M2;exact(VA n m e f false false 0 0 0 0 z0 z0 M1 M2).mono fun r w' h=>zero h
   | some y =>
     obtain⟨m1,Y,f1⟩:=y;rw[hx] at M1;rw[hy] at M2;exact(VB n m e f false m1 0 Y 0 f1 z0 (dS (cK hy)) M1 M2).mono fun r w' h=>zero h
 | some x =>
   obtain⟨n1,X,e1⟩:=x
   cases hy:mkS m (val ys) f with
   | none =>
     rw[hx] at M1;rw[hy] at M2;exact(VC n m e f n1 false X 0 e1 0 (dS (cK hx)) z0 M1 M2).mono fun r w' h=>zero h
   | some y =>
     obtain⟨m1,Y,f1⟩:=y;rw[hx] at M1;rw[hy] at M2;have FX:=cK hx;have FY:=cK hy;have lX:=dS FX;have lY:=dS FY;have:=FX.up;have:=FX.down;have:=FY.up;have:=FY.down;show Calls _ _ _ _ fun r w'=>dm w.heap.size w' r (tZ (n1,X,e1) (m1,Y,f1))/\_;unfold tZ;simp only
     by_cases hX0:X=0
     · rw[if_pos hX0];exact Nv n m e f n1 m1 X Y e1 f1 lX lY ((bU X).2 hX0) M1 M2
     · rw[if_neg hX0]
       by_cases hY0:Y=0
       · rw[if_pos hY0];exact IX n m e f n1 m1 X Y e1 f1 lX lY (dY hX0) ((bU Y).2 hY0) M1 M2
       · rw[if_neg hY0];obtain⟨g,hg⟩:∃ g,min e1 f1=g:=⟨_,rfl⟩;have hg2:g=f1/\f1<e1\/g=e1/\e1<=f1:=ae
         have up:∀ (d:Int) (Z:Nat),0<=d->(if d<0 then Z/2^(-d).toNat else Z*2^d.toNat)=Z*2^d.toNat:=fun d Z h=>if_neg ae;obtain⟨P,hP⟩:∃ P,X*2^(e1-g).toNat=P:=⟨_,rfl⟩;obtain⟨Q,hQ⟩:∃ Q,Y*2^(f1-g).toNat=Q:=⟨_,rfl⟩
         have HP:Hid (∀ (u:World) (v:Value),Below w.heap.size w u->Nt (w.heap.size+3) u v X->Calls Tryz.prog 97 #[v,.int .i64 (e1-g)] u fun r w'=>∃ v,r=.returned v/\Nt u.heap.size w' v P/\Below u.heap.size u w'):=fun u v hu hN=>by
          have:=qU hN (e1-g) ae ae hX0 ae;rw[up _ _ ae,hP] at this;exact this
         have HQ:Hid (∀ (u:World) (v:Value),Below w.heap.size w u->Nt (w.heap.size+3) u v Y->Calls Tryz.prog 97 #[v,.int .i64 (f1-g)] u fun r w'=>∃ v,r=.returned v/\Nt u.heap.size w' v Q/\Below u.heap.size u w'):=fun u v hu hN=>by
          have:=qU hN (f1-g) ae ae hY0 ae;rw[up _ _ ae,hQ] at this;exact this
         have bP:bl P=bl X+(e1-g).toNat:=by rw[<-hP];exact Ff _ _ hX0
         have bQ:bl Q=bl Y+(f1-g).toNat:=by rw[<-hQ];exact Ff _ _ hY0
         have s1:=FX.size;have s2:=FY.size;have wP:=jg P;have wQ:=jg Q
         have kind:(if e1<f1 then ll m1 Y f1 n1 X e1 else ll n1 X e1 m1 Y f1)=(if 8192<(ws P).length\/8192<(ws Q).length then none else if n1=m1 then mkS n1 (P+Q) g else if Q<=P then mkS n1 (P-Q) g else mkS m1 (Q-P) g):=by
          rcases hg2 with ⟨rfl,h⟩|⟨rfl,h⟩
          · rw[if_neg ae];rw[Int.sub_self,show(0:Int).toNat=0 from rfl,gK,fU] at hQ;subst hQ;unfold ll;rw[hP]
            by_cases hL:262144<bl X+(e1-g).toNat
            · rw[if_pos hL,if_pos (.inl ae)]
            · rw[if_neg hL,if_neg (show ¬ (8192<(ws P).length\/8192<(ws Y).length) by omega)]
              exact Qa4
          · rw[Int.sub_self,show(0:Int).toNat=0 from rfl,gK,fU] at hP;subst hP
            by_cases he:g<f1
            · rw[if_pos he];unfold ll;rw[hQ]
              by_cases hL:262144<bl Y+(f1-g).toNat
              · rw[if_pos hL,if_pos (.inr ae)]
              · rw[if_neg hL,if_neg (show ¬ (8192<(ws X).length\/8192<(ws Q).length) by omega)]
                by_cases hs:m1=n1
                · rw[if_pos hs,if_pos hs.symm,hs,pV]
                · rw[if_neg hs,if_neg (VI hs).2.2,<-(VI hs).1];rcases lZ X Q with q|q|q
                  · rw[if_pos (show X<=Q by omega),if_neg (show ¬ Q<=X by omega)]
                  · rw[q];simp only[aC,if_true,Bn];exact Ze _ _ _ _
                  · rw[if_neg (show ¬ X<=Q by omega),if_pos (show Q<=X by omega)]
            · obtain rfl:g=f1:=ae
              rw[if_neg he];rw[Int.sub_self,show(0:Int).toNat=0 from rfl,gK,fU] at hQ;subst hQ;unfold ll;rw[Int.sub_self,show(0:Int).toNat=0 from rfl,gK,fU,if_neg (show ¬ 262144<bl X+0 by omega),if_neg (show ¬ (8192<(ws X).length\/8192<(ws Y).length) by omega)]
              exact Qa4
         rw[kind];clear kind;have cmpz:∀ u p q s t,Arg u p (ws P).length s (ws P)->Arg u q (ws Q).length t (ws Q)->Calls Tryz.prog 107 #[.slice p (ws P).length s,.slice q (ws Q).length t] u fun r w'=>r=.returned (.int .i64 (bJ P Q))/\Below u.heap.size u w':=fun u p q s t hA hB=>lg hA hB (bJ P Q) (by rw[ak,ak])
         by_cases c1:8192<(ws P).length
         · rw[if_pos (.inl c1)];exact(VD n m e f n1 m1 X Y e1 f1 lX lY (dY hX0) (dY hY0) ae ae ae ae g hg ae ae P Q ae ae c1 M1 M2 HP HQ).mono fun r w' h=>zero h
         · by_cases c2:8192<(ws Q).length
           · rw[if_pos (.inr c2)];exact(VE n m e f n1 m1 X Y e1 f1 lX lY (dY hX0) (dY hY0) ae ae ae ae g hg ae ae P Q ae ae ae c2 M1 M2 HP HQ).mono fun r w' h=>zero h
           · rw[if_neg ae]
             by_cases hs:n1=m1
             · rw[if_pos hs]
               have lL:(ws (P+Q)).length<=8193:=by
                have h1:P<pw 8192:=(aW _ _).1 ae;have h2:Q<pw 8192:=(aW _ _).1 ae;exact(aW _ _).2 (Mq h1 h2)
               exact Ra n m e f n1 m1 X Y e1 f1 lX lY (dY hX0) (dY hY0) ae ae ae ae g hg ae ae P Q ae ae ae ae (by simp[hs]) (P+Q) ae _ _ _ _ (aR n1 (P+Q) g) M1 M2 HP HQ
                (hid fun u p q s t hu hA hB=>BM hA hB ae ae (by rw[ak,ak]))
                (hid fun u p s hu hA=>by have:=qW hA ae n1 g ae ae;rw[ak] at this;exact this)
             · rw[if_neg hs]
               by_cases hq:Q<=P
               · rw[if_pos hq];have lL:(ws (P-Q)).length<=8192:=(aW _ _).2 (iP (Bp _ _) ((aW P 8192).1 ae));have hz:0<=bJ P Q:=by unfold bJ;rw[if_neg ae];split <;> omega
                 exact VF n m e f n1 m1 X Y e1 f1 lX lY (dY hX0) (dY hY0) ae ae ae ae g hg ae ae P Q ae ae ae ae (by simp[hs]) (bJ P Q) hz (P-Q) ae _ _ _ _ (aR n1 (P-Q) g) M1 M2 HP HQ
                  (hid fun u p q s t hu hA hB=>cmpz u p q s t hA hB)
                  (hid fun u p q s t hu hA hB=>si hA hB ae ae (by rw[ak,ak];omega))
                  (hid fun u p s hu hA=>by have:=qW hA ae n1 g ae ae;rw[ak] at this;exact this)
               · rw[if_neg hq];have lL:(ws (Q-P)).length<=8192:=(aW _ _).2 (iP (Bp _ _) ((aW Q 8192).1 ae));have hz:bJ P Q<0:=by unfold bJ;rw[if_pos ae];omega
                 exact VG n m e f n1 m1 X Y e1 f1 lX lY (dY hX0) (dY hY0) ae ae ae ae g hg ae ae P Q ae ae ae ae (by simp[hs]) (bJ P Q) hz (Q-P) ae _ _ _ _ (aR m1 (Q-P) g) M1 M2 HP HQ
                  (hid fun u p q s t hu hA hB=>cmpz u p q s t hA hB)
                  (hid fun u p q s t hu hA hB=>si hA hB ae ae (by rw[ak,ak];omega))
                  (hid fun u p s hu hA=>by have:=qW hA ae m1 g ae ae;rw[ak] at this;exact this)
theorem Re{w:World}{a b:Option Addr}{l c k d:Nat}{xs ys:List Nat}(h1:Arg w a l c xs)(h2:Arg w b k d ys)(hT:dU w)(n m:Bool)(e f:Int)(he0:-9223372036854775808<=e)(he1:e<=9223372036854775807)(hf0:-9223372036854775808<=f)(hf1:f<=9223372036854775807) :
 Calls Tryz.prog 57 #[.agg #[.bool n,.slice a l c,.int .i64 e],.agg #[.bool m,.slice b k d,.int .i64 f]] w fun r w'=>dm w.heap.size w' r (jv (mkS n (val xs) e) (mkS (!m) (val ys) f))/\Below w.heap.size w w' :=
 Rb n m e f _ _ _ _ (Rc n (val xs) e (!m) (val ys) f) (hid fun u=>y7 b k d m f u) (hid fun u hu=>Fg (h1.below hu) (h2.below hu) (hT.belows hu) n (!m) e f he0 he1 hf0 hf1)
def vz(X:Nat)(e:Int)(Y:Nat)(f:Int):Int:=if e<f then bJ X (Y*2^(f-e).toNat) else bJ (X*2^(e-f).toNat) Y
theorem zk(x y:Nat):-bJ x y=bJ y x:=by
 unfold bJ;rcases lZ x y with h|h|h
 · rw[if_pos h,if_neg ae,if_pos h];rfl
 · subst h;rw[if_neg ae,if_neg ae];rfl
 · rw[if_neg ae,if_pos h,if_pos h]
theorem Rf(X:Nat)(e:Int)(Y:Nat)(f:Int):-vz X e Y f=vz Y f X e:=by
 unfold vz
 by_cases h:e<f
 · rw[if_pos h,if_neg ae,zk]
 · rw[if_neg h]
   by_cases h2:f<e
   · rw[if_pos h2,zk]
   · rw[if_neg h2,zk,show(e-f).toNat=0 by omega,show(f-e).toNat=0 by omega,gK,fU,fU]
theorem Dy{x y:Nat}(h:bl x≠bl y):bJ x y=bJ (bl x) (bl y):=by
 unfold bJ;rcases jK (bl x) (bl y) with k|k
 · have:x<y:=by
    rcases jK x y with q|q
    · exact q
    · have:=o9 q;omega
   rw[if_pos k,if_pos this]
 · have:y<x:=by
    rcases jK y x with q|q
    · exact q
    · have:=o9 q;omega
   rw[if_neg (by omega:¬ x<y),if_pos this,if_neg (by omega:¬ bl x<bl y),if_pos (by omega:bl y<bl x)]
theorem Qa3{P:Prop}(h:P:=by
 split
 · exact .inl rfl
 · split
   · exact .inr (.inr rfl)
   · exact .inr (.inl rfl)):P:=h
theorem IY(x y:Nat):bJ x y=-1\/bJ x y=0\/bJ x y=1:=by
 unfold bJ;exact Qa3
theorem IZ(X:Nat)(e:Int)(Y:Nat)(f:Int):vz X e Y f=-1\/vz X e Y f=0\/vz X e Y f=1:=by
 unfold vz;split <;> exact IY _ _
def xg(n:Bool)(X:Nat):Int:=if X=0 then 0 else if n then -1 else 1
def qg(x y:Int):Int:=if x<y then -1 else if y<x then 1 else 0
theorem Rh(x y:Nat):qg (x:Int) (y:Int)=bJ x y:=by
 unfold qg bJ;simp only[Int.ofNat_lt]
theorem ya{P:Prop}(h:P:=by
 go_enter Tryz.func52,Tryz.ntmps52;go_wp2_with fail;refine H1.o.mono ?_;rintro r w1 ⟨rfl,rfl⟩;go_wp2;go_ret;exact⟨rfl,SB.o⟩):P:=h
theorem vB{w:World}{a:Option Addr}{n c:Nat}{xs:List Nat}(h1:Arg w a n c xs)(ng:Bool)(e:Int) :
 Calls Tryz.prog 52 #[.agg #[.bool ng,.slice a n c,.int .i64 e]] w fun r w'=>r=.returned (.int .i64 (xg ng (val xs)))/\Below w.heap.size w w':=by
 have hB:Below w.heap.size w (w.alloc (.cells #[.bool ng,.slice a n c,.int .i64 e] 25)):=af w _;have A1:=h1.below hB;have hbig:=h1.big;have H1:=hid (qO xs a n c _ _ A1.len A1.cap ae A1.wf A1.rd);obtain⟨X,hX⟩:∃ X,val xs=X:=⟨_,rfl⟩;rw[hX] at H1 |-;have SB:=aA hB;clear hB A1 h1 hX hbig;unfold xg
 by_cases h0:X=0
 · rw[if_pos h0];have hb:bl X=0:=by rw[h0,dZ]
   rw[hb] at H1;clear h0 hb;exact ya
 · rw[if_neg h0];obtain⟨b,hb⟩:∃ b,bl X=b:=⟨_,rfl⟩;have hb0:((b:Int)==0)=false:=by have:=eu X h0;simp;omega
   rw[hb] at H1;clear h0 hb
   cases ng
   · simp only[fJ,if_false];exact ya
   · simp only[if_true];exact ya
theorem Nz(e f:Int)(he0:-9223372036854775808<=e)(he1:e<=9223372036854775807)(hf0:-9223372036854775808<=f)(hf1:f<=9223372036854775807)(h:f<=e):IntKind.u64.wrap (IntKind.u64.wrap e-IntKind.u64.wrap f)=(((e-f).toNat:Nat):Int):=by
 rw[nJ,nJ,nJ];omega
theorem I4{w:World}{a:Option Addr}{n c:Nat}{xs:List Nat}(h1:Arg w a n c xs):bl (val xs)<=1125899906842624:=by
 have:=bM xs h1.wf;rw[<-h1.len] at this;have:=Qt _ _ this;have:=h1.big;omega
theorem Cc{n:Bool}{X:Nat}:xg n X=0↔X=0:=by
 unfold xg
 by_cases h:X=0
 · simp[h]
 · rw[if_neg h];cases n <;> simp[h]
def qX(n:Bool):Int:=if n then -1 else 1
def zv(B:Int)(x:Bool×Nat×Int):Int:=qX x.1*((x.2.1*2^(x.2.2-B).toNat:Nat):Int)
theorem NA(e l B:Int)(h:B<=e)(hl:0<=l):(2:Nat)^(e+l-B).toNat=2^l.toNat*2^(e-B).toNat:=by
 rw[<-aJ];congr 1;omega
theorem nM{n:Bool}{X:Nat}{e:Int}{x:Bool×Nat×Int}(h:mkS n X e=some x)(B:Int)(hB:X=0\/B<=e):zv B x=qX n*((X*2^(e-B).toNat:Nat):Int):=by
 unfold mkS at h
 by_cases h0:X=0
 · rw[if_pos h0] at h
   cases h
   subst h0;simp[zv]
 · rw[if_neg h0] at h
   split at h
   · cases h
   · cases h
     have hB':B<=e:=by rcases hB with h | h;exact absurd h h0;exact h
     obtain⟨m,hm,hd,_⟩:=jb X h0;show qX n*((X/2^lo X*2^(e+(lo X:Int)-B).toNat:Nat):Int)=_;rw[NA e (lo X) B hB' ae,nW,<-aM];have hx:X/2^lo X*2^lo X=X:=by rw[hd];rw[cu];exact hm.symm
     rw[hx]
theorem Rj{n m:Bool}(h:¬ n=m):qX m=-qX n:=by cases n <;> cases m <;> first | exact absurd rfl h | rfl
theorem VJ(n:Bool):qX (!n)=-qX n:=by cases n <;> rfl
theorem VK(n m:Bool):qX (n != m)=qX n*qX m:=by cases n <;> cases m <;> rfl
theorem Fw{n m:Bool}{X Y:Nat}{e f:Int}{z:Bool×Nat×Int}(h:ll n X e m Y f=some z)(hfe:f<=e)(B:Int)(hB:B<=f):zv B z=zv B (n,X,e)+zv B (m,Y,f):=by
 unfold ll at h
 split at h
 · cases h
 · have key:X*2^(e-f).toNat*2^(f-B).toNat=X*2^(e-B).toNat:=by
    rw[aM,<-aJ,show(e-f).toNat+(f-B).toNat=(e-B).toNat by omega]
   show zv B z=qX n*((X*2^(e-B).toNat:Nat):Int)+qX m*((Y*2^(f-B).toNat:Nat):Int);generalize 2^(e-f).toNat=P at h key
   split at h
   · rename_i hnm;rw[nM h B (.inr hB),hnm,<-Int.mul_add,fI,key,Cx]
   · rename_i hnm
     split at h
     · rename_i hle;rw[nM h B (.inr hB),Rj hnm,Nat.sub_mul,key,Int.ofNat_sub (by rw[<-key];exact eZ _ hle),Int.mul_sub,Int.neg_mul];omega
     · rename_i hle;rw[nM h B (.inr hB),VJ,Rj hnm,Nat.sub_mul,key,Int.ofNat_sub (by rw[<-key];exact eZ _ ae),Int.mul_sub,Int.neg_mul,Int.neg_mul];omega
theorem qY{x:Bool×Nat×Int}(B:Int)(h:x.2.1=0):zv B x=0:=by unfold zv;rw[h];simp
theorem VL{x y z:Bool×Nat×Int}(h:tZ x y=some z)(B:Int)(hx:x.2.1=0\/B<=x.2.2)(hy:y.2.1=0\/B<=y.2.2):zv B z=zv B x+zv B y:=by
 obtain⟨n,X,e⟩:=x;obtain⟨m,Y,f⟩:=y;unfold tZ at h;simp only at h hx hy
 by_cases h0:X=0
 · rw[if_pos h0] at h
   cases h
   rw[qY (x:=(n,X,e)) B h0,yB]
 · rw[if_neg h0] at h
   by_cases h1:Y=0
   · rw[if_pos h1] at h
     cases h
     rw[qY (x:=(m,Y,f)) B h1,Int.add_zero]
   · rw[if_neg h1] at h;have hx':B<=e:=by rcases hx with k | k;exact absurd k h0;exact k
     have hy':B<=f:=by rcases hy with k | k;exact absurd k h1;exact k
     by_cases h2:e<f
     · rw[if_pos h2] at h;rw[Fw h ae B hx',Int.add_comm]
     · rw[if_neg h2] at h;exact Fw h ae B hy'
theorem VM{x y z:Bool×Nat×Int}(h:Q5 x y=some z)(B C:Int)(hx:x.2.1=0\/B<=x.2.2)(hy:y.2.1=0\/C<=y.2.2):zv (B+C) z=zv B x*zv C y:=by
 obtain⟨n,X,e⟩:=x;obtain⟨m,Y,f⟩:=y;unfold Q5 at h;simp only at h hx hy
 by_cases h0:X=0
 · subst h0;rw[dL] at h;rw[nM h _ (.inl rfl),qY (x:=(n,0,e)) B rfl];simp
 · by_cases h1:Y=0
   · subst h1;rw[jY] at h;rw[nM h _ (.inl rfl),qY (x:=(m,0,f)) C rfl];simp
   · have hx':B<=e:=by rcases hx with k | k;exact absurd k h0;exact k
     have hy':C<=f:=by rcases hy with k | k;exact absurd k h1;exact k
     rw[nM h _ (.inr ae),VK];unfold zv;simp only;rw[show(e+f-(B+C)).toNat=(e-B).toNat+(f-C).toNat by omega,aJ];rw[show X*Y*(2^(e-B).toNat*2^(f-C).toNat)=(X*2^(e-B).toNat)*(Y*2^(f-C).toNat) by rw[wo]];rw[gM,kE,kE];congr 1;rw[<-kE,<-kE];congr 1;exact yC _ _
theorem VN{X Y:Nat}(a b:Nat)(hX:X%2=1)(hY:Y%2=1)(h:X*2^a=Y*2^b):X=Y/\a=b:=by
 have key:∀ (a b X Y:Nat),X%2=1->Y%2=1->X*2^a=Y*2^b->a<=b:=by
  intro a b X Y hX hY h;rcases jK b a with k|k
  · exfalso;obtain⟨d,rfl⟩:∃ d,a=b+(d+1):=⟨a-b-1,ae⟩;rw[aJ,cu (2^b),<-aM] at h;have:=pU (aZ b) h;rw[fC,<-aM] at this;omega
  · exact k
 have h1:=key a b X Y hX hY h;have h2:=key b a Y X hY hX h.symm;have e:a=b:=ae
 subst e;exact⟨pU (aZ a) h,rfl⟩
theorem Rk{n m:Bool}{X Y:Nat}{e f:Int}(FX:o8 n X e)(FY:o8 m Y f)(B:Int)(hB:B<=-1048576)(h:zv B (n,X,e)=zv B (m,Y,f)):n=m/\X=Y/\e=f:=by
 have hx:=FX.down;have hy:=FY.down;unfold zv at h;simp only at h;have hpX:0<2^(e-B).toNat:=aZ _;have hpY:0<2^(f-B).toNat:=aZ _;rcases FX.odd with oX|⟨rfl,rfl,rfl⟩
 · rcases FY.odd with oY | ⟨rfl,rfl,rfl⟩
   · have pX:0<X*2^(e-B).toNat:=iq ae hpX;have pY:0<Y*2^(f-B).toNat:=iq ae hpY
     have hn:n=m:=by
      generalize X*2^(e-B).toNat=P at h pX;generalize Y*2^(f-B).toNat=Q at h pY
      cases n <;> cases m <;> first | rfl | (simp only[qX,fJ,if_true,if_false] at h;omega)
     subst hn
     have hPQ:X*2^(e-B).toNat=Y*2^(f-B).toNat:=by
      generalize X*2^(e-B).toNat=P at h;generalize Y*2^(f-B).toNat=Q at h
      cases n <;> (simp only[qX,fJ,if_true,if_false] at h;omega)
     obtain⟨h1,h2⟩:=VN _ _ oX oY hPQ;exact⟨rfl,h1,ae⟩
   · exfalso;have pX:0<X*2^(e-B).toNat:=iq ae hpX;generalize X*2^(e-B).toNat=P at h pX;rw[dL] at h
     cases n <;> (simp only[qX,fJ,if_true,if_false] at h;omega)
 · rcases FY.odd with oY | ⟨rfl,rfl,rfl⟩
   · exfalso;have pY:0<Y*2^(f-B).toNat:=iq ae hpY;generalize Y*2^(f-B).toNat=Q at h pY;rw[dL] at h
     cases m <;> (simp only[qX,fJ,if_true,if_false] at h;omega)
   · exact⟨rfl,rfl,rfl⟩
theorem iW{n:Bool}{X:Nat}{e:Int}(F:o8 n X e):mkS n X e=some (n,X,e):=by
 unfold mkS;rcases F.odd with h|⟨rfl,rfl,rfl⟩
 · have h1:=F.size;have h2:=F.up;have h3:=F.down;rw[if_neg ae,KG h,if_neg ae,gK,wm];simp
 · rw[if_pos rfl]
theorem Ce{n m:Bool}{X Y:Nat}{e f:Int}{n':Bool}{Z:Nat}{g:Int}(h:ll n X e m Y f=some (n',Z,g)):o8 n' Z g:=by
 unfold ll at h
 split at h
 · cases h
 · split at h
   · exact cK h
   · split at h
     · exact cK h
     · exact cK h
theorem Fx{n m:Bool}{X Y:Nat}{e f:Int}(FX:o8 n X e)(FY:o8 m Y f){n':Bool}{Z:Nat}{g:Int}(h:tZ (n,X,e) (m,Y,f)=some (n',Z,g)):o8 n' Z g:=by
 unfold tZ at h;simp only at h
 split at h
 · cases h;exact FY
 · split at h
   · cases h;exact FX
   · split at h
     · exact Ce h
     · exact Ce h
theorem j9{P:Prop}(h:P:=by
 cases o with
 | none=>cases h
 | some x =>
   cases p with
   | none=>cases h
   | some y =>
     obtain⟨z,hz⟩:=CL.1 h;exact⟨x,y,z,rfl,rfl,hz,hz⟩):P:=h
theorem NC{o p:Option (Bool×Nat×Int)}(h:(jv o p).isSome=true):∃ x y z,o=some x/\p=some y/\tZ x y=some z/\jv o p=some z:=by
 exact j9
theorem ND{o p:Option (Bool×Nat×Int)}(h:(fu o p).isSome=true):∃ x y z,o=some x/\p=some y/\Q5 x y=some z/\fu o p=some z:=by
 exact j9
structure Fv (B:Int) (o:Option (Bool×Nat×Int)) (z:Int):Prop where
 ex:∃ n X e,o=some (n,X,e)/\o8 n X e/\zv B (n,X,e)=z
theorem o8.base{n:Bool}{X:Nat}{e:Int}(F:o8 n X e){B:Int}(hB:B<=-1048576):X=0\/B<=e:=.inr (by have:=F.down;omega)
theorem Fv.add{B:Int}(hB:B<=-1048576){o p:Option (Bool×Nat×Int)}{x y:Int}(h1:Fv B o x)(h2:Fv B p y)(h:(jv o p).isSome=true):Fv B (jv o p) (x+y):=by
 obtain⟨n,X,e,rfl,F,rfl⟩:=h1.ex;obtain⟨m,Y,f,rfl,G,rfl⟩:=h2.ex;obtain⟨_,_,z,e1,e2,hz,hd⟩:=NC h
 cases e1;cases e2
 obtain⟨n',Z,g⟩:=z;exact⟨n',Z,g,hd,Fx F G hz,VL hz B (F.base hB) (G.base hB)⟩
theorem Fv.mul{B C:Int}(hB:B<=-1048576)(hC:C<=-1048576){o p:Option (Bool×Nat×Int)}{x y:Int}(h1:Fv B o x)(h2:Fv C p y)(h:(fu o p).isSome=true):Fv (B+C) (fu o p) (x*y):=by
 obtain⟨n,X,e,rfl,F,rfl⟩:=h1.ex;obtain⟨m,Y,f,rfl,G,rfl⟩:=h2.ex;obtain⟨_,_,z,e1,e2,hz,hd⟩:=ND h
 cases e1;cases e2
 obtain⟨n',Z,g⟩:=z;exact⟨n',Z,g,hd,cK hz,VM hz B C (F.base hB) (G.base hC)⟩
theorem Fv.same{B:Int}(hB:B<=-1048576){o p:Option (Bool×Nat×Int)}{x y:Int}(h1:Fv B o x)(h2:Fv B p y)(h:x=y):dN o=dN p/\dX o=dX p/\dE o=dE p:=by
 obtain⟨n,X,e,rfl,F,rfl⟩:=h1.ex;obtain⟨m,Y,f,rfl,G,rfl⟩:=h2.ex;exact Rk F G B hB h
theorem zl(x y k:Nat)(hk:0<k):bJ (x*k) (y*k)=bJ x y:=by
 unfold bJ;simp only[mK hk]
theorem NF(X:Nat)(e:Int)(Y:Nat)(f B:Int)(h1:B<=e)(h2:B<=f):vz X e Y f=bJ (X*2^(e-B).toNat) (Y*2^(f-B).toNat):=by
 unfold vz
 by_cases h:e<f
 · rw[if_pos h,<-zl _ _ (2^(e-B).toNat) (aZ _),aM,<-aJ,show(f-e).toNat+(e-B).toNat=(f-B).toNat by omega]
 · rw[if_neg h,<-zl _ _ (2^(f-B).toNat) (aZ _),aM,<-aJ,show(e-f).toNat+(f-B).toNat=(e-B).toNat by omega]
theorem KH(X k:Nat):X*2^k=0↔X=0:=by
 constructor
 · intro h;rcases Nat.mul_eq_zero.1 h with h|h
   · exact h
   · have:=aZ k;omega
 · rintro rfl;exact dL _
theorem NG(dg:Nat)(least top:Int)(X:Nat)(e:Int)(ho:X%2=1)(Bs:Int)(h1:Bs<=e)(h2:Bs<=least)(hin:¬ top<e+(bl X:Int)) :
 Bs<=(jw dg least top X e).2.1 /\
 (((jw dg least top X e).2.2.1=true/\X*2^(e-Bs).toNat=(jw dg least top X e).1*2^((jw dg least top X e).2.1-Bs).toNat) \/
  ((jw dg least top X e).2.2.1=false/\(jw dg least top X e).1*2^((jw dg least top X e).2.1-Bs).toNat<X*2^(e-Bs).toNat/\X*2^(e-Bs).toNat<((jw dg least top X e).1+1)*2^((jw dg least top X e).2.1-Bs).toNat /\
   ((jw dg least top X e).2.2.2=-1/\2*(X*2^(e-Bs).toNat)<(2*(jw dg least top X e).1+1)*2^((jw dg least top X e).2.1-Bs).toNat \/
    (jw dg least top X e).2.2.2=0/\2*(X*2^(e-Bs).toNat)=(2*(jw dg least top X e).1+1)*2^((jw dg least top X e).2.1-Bs).toNat \/
    (jw dg least top X e).2.2.2=1/\(2*(jw dg least top X e).1+1)*2^((jw dg least top X e).2.1-Bs).toNat<2*(X*2^(e-Bs).toNat)))):=by
 unfold jw;rw[if_neg hin];simp only;obtain⟨ex,hex⟩:∃ ex,max (e+(bl X:Int)-(dg:Int)) least=ex:=⟨_,rfl⟩;rw[hex];have hle:least<=ex:=ae
 by_cases hoff:ex-e<=0
 · rw[if_pos hoff];simp only;refine⟨ae,.inl ⟨trivial,?_⟩⟩;rw[aM,<-aJ,show(-(ex-e)).toNat+(ex-Bs).toNat=(e-Bs).toNat by omega]
 · rw[if_neg hoff];simp only;obtain⟨k,hk⟩:∃ k:Nat,(ex-e).toNat=k:=⟨_,rfl⟩;have hk0:0<k:=ae
   have hexB:(ex-Bs).toNat=k+(e-Bs).toNat:=ae
   have hk1:(ex-e-1).toNat=k-1:=ae
   rw[hk,hexB,hk1,aJ];obtain⟨Q,hQ⟩:∃ Q,2^(e-Bs).toNat=Q:=⟨_,rfl⟩;have hQ0:0<Q:=by rw[<-hQ];exact aZ _
   rw[hQ];have Us:=qh X (2^k);have hmod:=lU X (aZ k);obtain⟨F,hF⟩:∃ F,X/2^k=F:=⟨_,rfl⟩;obtain⟨R,hR⟩:∃ R,X%2^k=R:=⟨_,rfl⟩;have Rl:2^k=2*2^(k-1):=by rw[show k=k-1+1 by omega,fC,cu];rfl
   have hbit:X/2^(k-1)%2=R/2^(k-1):=by
    rw[<-hR,Rl];rw[cu 2,Nat.mod_mul_right_div_self]
   obtain⟨Hf,hHf⟩:∃ Hf,2^(k-1)=Hf:=⟨_,rfl⟩;have hHf0:0<Hf:=by rw[<-hHf];exact aZ _
   rw[hHf] at Rl hbit |-;rw[hbit];rw[Rl] at Us hmod hF hR |-;rw[hF,hR] at Us;rw[hR] at hmod;rw[hF]
   have hR0:R≠0:=by
    intro h;rw[h,fT,aM] at Us;omega
   have e1:F*(2*Hf*Q)=(F*(2*Hf))*Q:=(aM _ _ _).symm;have e2:(F+1)*(2*Hf*Q)=((F+1)*(2*Hf))*Q:=(aM _ _ _).symm
   have e3:(2*F+1)*(2*Hf*Q)=(2*(F*(2*Hf))+2*Hf)*Q:=by
    rw[fI,fI,jq,aM 2 F,<-aM F,aM 2 (F*(2*Hf)) Q]
   have e4:2*(X*Q)=(2*X)*Q:=by rw[aM]
   have e5:2*Hf*F=F*(2*Hf):=cu _ _;rw[e5] at Us;have e6:(F+1)*(2*Hf)=F*(2*Hf)+2*Hf:=by rw[fI,jq]
   rw[e1,e2,e3,e4,e6];generalize F*(2*Hf)=G at Us |-;refine⟨ae,.inr ⟨trivial,dO ae hQ0,dO ae hQ0,?_⟩⟩
   by_cases hone:ex-e=1
   · rw[if_pos hone];have hk1':k=1:=ae
     have hHf1:Hf=1:=by rw[<-hHf,hk1']
     refine .inr (.inl ⟨rfl,?_⟩);congr 1;omega
   · rw[if_neg hone]
     have hHf2:Hf%2=0:=by
      rw[<-hHf,show k-1=k-2+1 by omega,fC];omega
     have hRodd:R%2=1:=by
      have:G%2=0\/True:=.inr trivial;rw[<-hR];rw[Nat.mod_mul_right_mod];exact ho
     by_cases hge:Hf<=R
     · have hd1:R/Hf=1:=by
        rw[Nat.div_eq_iff hHf0];omega
       rw[hd1,if_pos rfl];refine .inr (.inr ⟨rfl,dO ?_ hQ0⟩);have:R≠Hf:=by intro h;rw[h] at hRodd;omega
       omega
     · have hd0:R/Hf=0:=iN ae;rw[hd0,if_neg ae];exact .inl ⟨rfl,dO ae hQ0⟩
def I5(X:Nat)(e:Int):Nat:=((jw 53 (-1074) 1024 X e).2.1+1074).toNat*4503599627370496+(jw 53 (-1074) 1024 X e).1
abbrev vK(K:Nat):Nat:=B.val Ieee.double K
theorem qE{K L:Nat}:vK K<vK L↔K<L:=B.iZ Ieee.double
theorem gm(j F:Nat)(h:j=0\/4503599627370496<=F)(hF:F<=9007199254740992):vK (j*4503599627370496+F)=F*2^j:=by
 have:=B.uM Ieee.double j F (by rw[B.Es];exact h) (by rw[B.Es];omega);rw[B.Es] at this;exact this
structure I6 (K:Nat) (at':Bool) (mid:Int) (V S:Nat):Prop where
 fin:K<9218868437227405312
 pos:0<S
 one:at'=true->V=vK K*S
 low:at'=false->vK K*S<V
 NI:at'=false->V<vK (K+1)*S->(mid=-1/\2*V<vK K*S+vK (K+1)*S\/mid=0/\2*V=vK K*S+vK (K+1)*S\/mid=1/\vK K*S+vK (K+1)*S<2*V)
 high:at'=false->V<vK (K+1)*S\/(K=9218868437227405311/\mid=1)
theorem Qaz{P:Prop}(h:P:=by
 have hb:=iU X hX0;have hbp:=eu X hX0;refine dW ?_ (eZ _ hb);rw[<-aJ,<-aJ];exact fe ae ae):P:=h
theorem lies(X:Nat)(e:Int)(hX:X%2=1)(he0:-1048576<=e)(he1:e<=1048576)(Bs:Int)(h1:Bs<=e)(h2:Bs<=-1074) :
 I6 (I5 X e) (jw 53 (-1074) 1024 X e).2.2.1 (jw 53 (-1074) 1024 X e).2.2.2 (X*2^(e-Bs).toNat) (2^(-1074-Bs).toNat):=by
 have hX0:X≠0:=ae
 obtain⟨f1,f2,f3,f4⟩:=vo X e hX0 he0 he1;obtain⟨j,hj⟩:∃ j:Nat,((jw 53 (-1074) 1024 X e).2.1+1074).toNat=j:=⟨_,rfl⟩;have hS:0<2^(-1074-Bs).toNat:=aZ _
 have hw:∀ F,F<=9007199254740992->(j=0\/4503599627370496<=F)->vK (j*4503599627370496+F)*2^(-1074-Bs).toNat=F*2^((jw 53 (-1074) 1024 X e).2.1-Bs).toNat:=by
  intro F hF hn;rw[gm j F hn hF,aM,<-aJ];congr 2;omega
 have hn1:j=0\/4503599627370496<=(jw 53 (-1074) 1024 X e).1:=by
  rcases f4 with h|h
  · left;omega
  · exact .inr h
 have w1:=hw (jw 53 (-1074) 1024 X e).1 ae hn1;have w2:=hw ((jw 53 (-1074) 1024 X e).1+1) ae (by rcases hn1 with h | h;exact .inl h;exact .inr ae);have Zf:I5 X e=j*4503599627370496+(jw 53 (-1074) 1024 X e).1:=by unfold I5;rw[hj]
 have hflK1:I5 X e+1=j*4503599627370496+((jw 53 (-1074) 1024 X e).1+1):=by rw[Zf];omega
 have hfin:I5 X e<9218868437227405312:=by rw[Zf];omega
 rw[<-Zf] at w1;rw[<-hflK1] at w2
 by_cases hin:1024<e+(bl X:Int)
 · have hp:jw 53 (-1074) 1024 X e=((2^53-1:Nat),((1024:Int)-((53:Nat):Int)),false,(1:Int)):=by unfold jw;rw[if_pos hin]
   have hK:I5 X e=9218868437227405311:=by unfold I5;rw[hp];rfl
   refine⟨hfin,hS,fun h=>(by rw[hp] at h;cases h),fun _=>?_,fun _ hlt=>?_,fun _=>.inr ⟨hK,(by rw[hp])⟩⟩
   · rw[w1];have hlow:(2^53-1)*2^(971-Bs).toNat<2^53*2^(971-Bs).toNat:=dO aj (aZ _)
     have hup:2^53*2^(971-Bs).toNat<=X*2^(e-Bs).toNat:=by
      exact Qaz
     rw[hp];exact iQ hlow hup
   · exfalso;rw[w2,hp] at hlt
     have hup:2^53*2^(971-Bs).toNat<=X*2^(e-Bs).toNat:=by
      exact Qaz
     exact absurd hlt (Nat.not_lt.2 hup)
 · obtain⟨_,hfl⟩:=NG 53 (-1074) 1024 X e hX Bs h1 h2 hin
   have hmid:vK (I5 X e)*2^(-1074-Bs).toNat+vK (I5 X e+1)*2^(-1074-Bs).toNat=(2*(jw 53 (-1074) 1024 X e).1+1)*2^((jw 53 (-1074) 1024 X e).2.1-Bs).toNat:=by
    rw[w1,w2,<-fI];congr 1;omega
   rcases hfl with ⟨ht,hv⟩|⟨hf,hlo,hhi,hm⟩
   · exact⟨hfin,hS,fun _=>(by rw[w1];exact hv),fun h=>(by rw[ht] at h;cases h),fun h=>(by rw[ht] at h;cases h),fun h=>(by rw[ht] at h;cases h)⟩
   · refine⟨hfin,hS,fun h=>(by rw[hf] at h;cases h),fun _=>(by rw[w1];exact hlo),fun _ _=>(by rw[hmid];exact hm),fun _=>.inl (by rw[w2];exact hhi)⟩
theorem XY{K L S:Nat}(h:K<=L):vK K*S<=vK L*S:=by
 rcases jK K L with k|k
 · exact eZ _ (jm (qE.2 k))
 · rw[show K=L by omega];exact aC _
theorem KI{K L S:Nat}(hS:0<S)(h:K<L):vK K*S<vK L*S:=dO (qE.2 h) hS
theorem I6.ge{K:Nat}{t:Bool}{m:Int}{V S:Nat}(h:I6 K t m V S):vK K*S<=V:=by
 cases ht:t
 · exact jm (h.low ht)
 · rw[h.one ht];exact aC _
def rK(mode:Int)(n:Bool)(K:Nat)(t:Bool)(m:Int):Nat:=if t then K else if jU mode K m n then K+1 else K
theorem Fy(mode:Int)(j F:Nat)(m:Int)(n:Bool):jU mode (j*4503599627370496+F) m n=jU mode F m n:=by
 unfold jU;rw[show(j*4503599627370496+F)%2=F%2 by omega]
theorem xS(mode:Int)(n:Bool)(X:Nat)(e:Int):Q3 mode n X e=rK mode n (I5 X e) (jw 53 (-1074) 1024 X e).2.2.1 (jw 53 (-1074) 1024 X e).2.2.2:=by
 unfold Q3 rK I5;simp only;rw[Fy]
 split
 · rfl
 · split <;> omega
def dI(s:Bool)(K:Nat):Nat:=K+(if s then 9223372036854775808 else 0)
def sK(s:Bool)(K:Nat):Int:=if s then -(K:Int) else K
theorem mD(s:Bool)(K:Nat)(h:K<=9218868437227405312):dI s K=B.bw s (K/4503599627370496) (K%4503599627370496)/\K/4503599627370496<2048/\K%4503599627370496<4503599627370496/\B.odd (K/4503599627370496) (K%4503599627370496)=false/\B.pl s (K/4503599627370496) (K%4503599627370496)=sK s K:=by
 refine⟨?_,ae,ae,?_,?_⟩
 · unfold dI B.bw
   cases s
   · simp;omega
   · simp;omega
 · unfold B.odd;simp;omega
 · unfold B.pl B.sg sK;rw[show K/4503599627370496*4503599627370496+K%4503599627370496=K by omega]
theorem gt64(s t:Bool)(K L:Nat)(hK:K<=9218868437227405312)(hL:L<=9218868437227405312):(FloatKind.f64.format.order (dI s K) (dI t L)==some .gt)=decide (sK t L<sK s K):=by
 obtain⟨a1,a2,a3,a4,a5⟩:=mD s K hK;obtain⟨b1,b2,b3,b4,b5⟩:=mD t L hL;rw[a1,b1,B.PM s t _ _ _ _ a2 a3 b2 b3,a4,b4,a5,b5];simp
theorem lt64(s t:Bool)(K L:Nat)(hK:K<=9218868437227405312)(hL:L<=9218868437227405312):(FloatKind.f64.format.order (dI s K) (dI t L)==some .lt)=decide (sK s K<sK t L):=by
 obtain⟨a1,a2,a3,a4,a5⟩:=mD s K hK;obtain⟨b1,b2,b3,b4,b5⟩:=mD t L hL;rw[a1,b1,B.H9 s t _ _ _ _ a2 a3 b2 b3,a4,b4,a5,b5];simp
theorem VO(s t:Bool)(K L:Nat)(hK:K<=9218868437227405312)(hL:L<=9218868437227405312):(FloatKind.f64.format.order (dI s K) (dI t L)==some .eq)=decide (sK s K=sK t L):=by
 obtain⟨a1,a2,a3,a4,a5⟩:=mD s K hK;obtain⟨b1,b2,b3,b4,b5⟩:=mD t L hL;rw[a1,b1,B.PN s t _ _ _ _ a2 a3 b2 b3,a4,b4,a5,b5];simp
def rS(n:Bool)(X:Nat):Bool:=if X=0 then false else n
def rW(mode:Int)(n:Bool)(X:Nat)(e:Int):Nat:=if X=0 then 0 else Q3 mode n X e
theorem qZ(mode:Int)(n:Bool)(X:Nat)(e:Int)(h0:0<=mode)(h4:mode<=4):iC (some (n,X,e)) mode=(dI (rS n X) (rW mode n X e),0):=by
 unfold iC;rw[if_neg ae];simp only;unfold rS rW dI
 by_cases h:X=0
 · rw[if_pos h,if_pos h,if_pos h];rfl
 · rw[if_neg h,if_neg h,if_neg h]
theorem Qat{P:Prop}(h:P:=by
 split
 · omega
 · split <;> omega):P:=h
theorem rW_le(mode:Int)(n:Bool)(X:Nat)(e:Int)(F:o8 n X e):rW mode n X e<=9218868437227405312:=by
 unfold rW
 split
 · omega
 · rename_i h;have ho:X%2=1:=by rcases F.odd with k | k;exact k;exact absurd k.1 h
   have L:=lies X e ho F.down F.up (min e (-1074)) ae ae;rw[xS];have:=L.fin;unfold rK
   exact Qat
theorem VP{x y:Int}:qg x y<=0↔x<=y:=by
 unfold qg
 by_cases h:x<y
 · rw[if_pos h];omega
 · rw[if_neg h]
   by_cases h2:y<x
   · rw[if_pos h2];omega
   · rw[if_neg h2];omega
theorem ug{n:Bool}{X:Nat}{e:Int}(F:o8 n X e)(h:X≠0):X%2=1:=by rcases F.odd with k | k;exact k;exact absurd k.1 h
attribute [local go_sem] B.bF B.aH
def aK(x:Nat):Nat:=x%9223372036854775808
def aV(x:Nat):Bool:=decide (9223372036854775808<=x)
def nH(x:Nat):Nat:=if 9223372036854775808<=x then x-9223372036854775808 else x+9223372036854775808
theorem and63(x:Nat)(h:x<18446744073709551616):x &&& 9223372036854775808=if 9223372036854775808<=x then 9223372036854775808 else 0:=by
 have e:(9223372036854775808:Nat)=2^63:=rfl
 have hb:x.testBit 63=decide (9223372036854775808<=x):=by
  by_cases hx:9223372036854775808<=x
  · have h1:x/2^63=1:=ae
    rw[decide_eq_true hx,Nat.testBit_eq_decide_div_mod_eq,h1];rfl
  · rw[decide_eq_false hx];exact yA ae
 apply Hr;intro i;rw[Nat.testBit_and]
 by_cases hi:i=63
 · subst hi;rw[hb]
   by_cases hx:9223372036854775808<=x
   · rw[decide_eq_true hx,if_pos hx];rfl
   · rw[decide_eq_false hx,if_neg hx];simp
 · have h0:Nat.testBit 9223372036854775808 i=false:=by rw[e,Nat.testBit_two_pow,decide_eq_false (show ¬ 63=i by omega)]
   rw[h0,Bq]
   split
   · exact h0.symm
   · simp
theorem zm(x:Nat)(h:x<18446744073709551616):bits .andNot .u64 (x:Int) 9223372036854775808=((aK x:Nat):Int):=by
 obtain⟨s,e,f,he,hf,h1,_⟩:=bwz x h;rw[h1,B.Ia s e f he hf];unfold B.bw aK
 cases s <;> simp <;> omega
theorem j4(w:World):Calls Tryz.prog 75 #[] w fun r w'=>r=.returned (.float .f64 jh)/\w'=w:=by
 go_enter Tryz.func75,Tryz.ntmps75;go_wp2;exact aG (v:=.float .f64 jh) (by simp[results,Tryz.results75,go_sem,jh]) rfl ⟨rfl,rfl⟩
theorem zn(x:Nat)(hx:x<18446744073709551616)(w:World):Calls Tryz.prog 73 #[.float .f64 x] w fun r w'=>r=.returned (.bool (qf x))/\w'=w:=by
 have e:=zm x hx;have e2:decide ((9218868437227405312:Int)<((aK x:Nat):Int))=qf x:=by unfold qf aK;rw[decide_eq_decide];omega
 go_enter Tryz.func73,Tryz.ntmps73;go_wp2;exact aG (v:=.bool (qf x)) (by simp only[e,e2];simp[results,Tryz.results73,go_sem,e2]) rfl ⟨rfl,rfl⟩
theorem qF(x:Nat)(hx:x<18446744073709551616)(w:World):Calls Tryz.prog 74 #[.float .f64 x] w fun r w'=>r=.returned (.bool (aK x==9218868437227405312))/\w'=w:=by
 have e:=zm x hx;have e2:(((aK x:Nat):Int)==9218868437227405312)=(aK x==9218868437227405312):=by rw[yf,beq_iff_eq,beq_iff_eq];omega
 go_enter Tryz.func74,Tryz.ntmps74;go_wp2;exact aG (v:=.bool (aK x==9218868437227405312)) (by simp only[e,e2];simp only[results,Tryz.results74];simp[go_sem,e2]) rfl ⟨rfl,rfl⟩
theorem nN(x:Nat)(hx:x<18446744073709551616)(w:World):Calls Tryz.prog 36 #[.float .f64 x] w fun r w'=>r=.returned (.bool (aK x==0))/\w'=w:=by
 have e:=zm x hx;have e2:(((aK x:Nat):Int)==0)=(aK x==0):=by rw[yf,beq_iff_eq,beq_iff_eq];omega
 go_enter Tryz.func36,Tryz.ntmps36;go_wp2;exact aG (v:=.bool (aK x==0)) (by simp only[e,e2];simp only[results,Tryz.results36];simp[go_sem,e2]) rfl ⟨rfl,rfl⟩
theorem Cf(x:Nat)(hx:x<18446744073709551616)(w:World):Calls Tryz.prog 72 #[.float .f64 x] w fun r w'=>r=.returned (.bool (aV x))/\w'=w:=by
 have e0:bits .and .u64 (x:Int) 9223372036854775808=(((x &&& 9223372036854775808:Nat)):Int):=bits_and_u64_nat x 9223372036854775808 hx aj;rw[and63 x hx] at e0;obtain⟨z,hz⟩:∃ z,bits .and .u64 (x:Int) 9223372036854775808=z:=⟨_,rfl⟩
 have e2:(z != 0)=aV x:=by
  rw[<-hz,e0];unfold aV
  by_cases h:9223372036854775808<=x
  · rw[if_pos h,decide_eq_true h];rfl
  · rw[if_neg h,decide_eq_false h];rfl
 clear e0;go_enter Tryz.func72,Tryz.ntmps72;go_wp2;exact aG (v:=.bool (aV x)) (by simp only[hz,e2];simp[results,Tryz.results72,go_sem]) rfl ⟨rfl,rfl⟩
theorem jP(x:Nat)(hx:x<9223372036854775808)(n:Bool)(w:World):Calls Tryz.prog 76 #[.int .u64 x,.bool n] w fun r w'=>r=.returned (.float .f64 (dI n x))/\w'=w:=by
 have e:=B.JX (x:Int) ae ae;have e2:((x:Int)+9223372036854775808).toNat=x+9223372036854775808:=ae
 go_enter Tryz.func76,Tryz.ntmps76
 cases n
 · go_wp2;exact aG (v:=.float .f64 (dI false x)) (by simp[results,Tryz.results76,go_sem,dI]) rfl ⟨rfl,rfl⟩
 · go_wp2;exact aG (v:=.float .f64 (dI true x)) (by simp only[e,e2];simp[results,Tryz.results76,go_sem,dI]) rfl ⟨rfl,rfl⟩
theorem KJ(x y:Nat)(w:World):Calls Tryz.prog 10 #[.float .f64 x,.float .f64 y] w fun r w'=>r=.returned (.bool (x==y))/\w'=w:=by
 have e2:((x:Int)==(y:Int))=(x==y):=by rw[yf,beq_iff_eq,beq_iff_eq];omega
 go_enter Tryz.func10,Tryz.ntmps10;go_wp2;exact aG (v:=.bool (x==y)) (by simp[results,Tryz.results10,go_sem,e2]) rfl ⟨rfl,rfl⟩
end
section
open Go.RowKit
def XZ(s:Bool)(K:Nat):Option (Bool×Nat×Int):=Vj s (K/4503599627370496) (K%4503599627370496)
theorem VQ(s:Bool)(K:Nat)(hK:K<9218868437227405312):∃ n X e,XZ s K=some (n,X,e)/\o8 n X e/\(X≠0->n=s)/\(X=0↔K=0)/\∀ Bs:Int,Bs<=-1074->zv Bs (n,X,e)=qX s*((vK K*2^(-1074-Bs).toNat:Nat):Int):=by
 obtain⟨x,hx⟩:∃ x,K/4503599627370496=x:=⟨_,rfl⟩;obtain⟨f,hf⟩:∃ f,K%4503599627370496=f:=⟨_,rfl⟩;have hxl:x<2047:=ae
 have hfl:f<4503599627370496:=ae
 obtain⟨M,hM⟩:∃ M,(if x=0 then f else f+4503599627370496)=M:=⟨_,rfl⟩;obtain⟨E,hE⟩:∃ E:Int,(if x=0 then(-1074:Int) else(x:Int)-1075)=E:=⟨_,rfl⟩
 have hME:(x=0/\M=f/\E=-1074)\/(x≠0/\M=f+4503599627370496/\E=(x:Int)-1075):=by
  by_cases h:x=0
  · rw[if_pos h] at hM hE;exact .inl ⟨h,hM.symm,hE.symm⟩
  · rw[if_neg h] at hM hE;exact .inr ⟨h,hM.symm,hE.symm⟩
 have iF:M<9007199254740992:=ae
 have hO:XZ s K=mkS s M E:=by unfold XZ Vj;rw[hx,hf,if_neg ae,hM,hE]
 have hsome:(mkS s M E).isSome=true:=by
  unfold mkS
  split
  · rfl
  · rename_i h0;have hb:=tX M iF;obtain⟨_,_,_,hbb⟩:=jb M h0;rw[if_neg ae];rfl
 obtain⟨⟨n,X,e⟩,hz⟩:=CL.1 hsome;have hKw:K=(E+1074).toNat*4503599627370496+M:=by rcases hME with h | h <;> omega
 have hv:vK K=M*2^(E+1074).toNat:=by
  rw[hKw];exact gm _ _ (by rcases hME with h | h;left;omega;right;omega) ae
 have hM0:M=0↔K=0:=by rcases hME with h | h <;> omega
 refine⟨n,X,e,by rw[hO,hz],cK hz,?_,?_,?_⟩
 · intro hX;unfold mkS at hz
   split at hz
   · cases hz;exact absurd rfl hX
   · split at hz
     · cases hz
     · cases hz;rfl
 · rw[<-hM0];constructor
   · intro hX;unfold mkS at hz
     split at hz
     · assumption
     · rename_i h0
       split at hz
       · cases hz
       · obtain⟨m,_,hd,_⟩:=jb M h0
         cases hz
         omega
   · intro h0;unfold mkS at hz;rw[if_pos h0] at hz
     cases hz;rfl
 · intro Bs hBs;rw[nM hz Bs (.inr ae),hv,aM,<-aJ,show(E+1074).toNat+(-1074-Bs).toNat=(E-Bs).toNat by omega]
end
end Go.Proofs.YtfmfhehbdfhnbaaGreatDoor
