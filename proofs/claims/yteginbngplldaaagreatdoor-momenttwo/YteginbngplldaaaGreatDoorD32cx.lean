import Derived.Test.YteginbngplldaaaGreatDoorD30x
import Derived.Deep.Cut
import Derived.Deep.RegionHeld3
import Derived.Test.YteginbngplldaaaGreatDoorD19x
import Derived.Deep.RegionWith
import Derived.Deep.CutRange
import Derived.Test.YteginbngplldaaaGreatDoorW17x
import Derived.Test.YteginbngplldaaaGreatDoorD15x
import Derived.BigQuiet
import Derived.Laws.Bits64
import Derived.Laws.Bits64b
set_option linter.unusedVariables false
set_option linter.unusedSimpArgs false
set_option maxHeartbeats 16000000
set_option maxRecDepth 20000
namespace Go.Proofs.YteginbngplldaaaGreatDoor
namespace J
end J
section
open Go.RowKit
theorem O6 {w:World}{a b:Option Addr}{l c k d:Nat}(n m:Bool) (e f:Int) (n1 m1:Bool) (X Y:Nat) (e1 f1:Int) (lX:(ws X).length<=8192) (lY:(ws Y).length<=8192) (hX:((((ws X).length:Nat):Int)==0)=false) (hY:((((ws Y).length:Nat):Int)==0)=false) (KG:-1048576<=e1) (KH:e1<=1048576) (KI:-1048576<=f1) (KJ:f1<=1048576) (g:Int) (hg:min e1 f1=g) (bg0:-1048576<=g) (bg1:g<=1048576) (P Q:Nat) (lP:(ws P).length<=1000000) (lQ:(ws Q).length<=1000000) (h5:(ws P).length<=8192) (h6:(ws Q).length<=8192) (hs:(n1==m1)=true) (L:Nat) (lL:(ws L).length<=1000000) (dn:Bool) (V:Nat) (de er:Int) (lV:(ws V).length<=8192)
 (jE:Hid (∀ u,An w u->As 109 #[.agg #[.bool n,.slice a l c,.int .i64 e]] u fun r w'=>(∃ v,r=.returned (.tuple #[.agg #[.bool n1,v,.int .i64 e1],.bool true])/\Nt u.heap.size w' v X)/\An u w'))
 (kz:Hid (∀ u,An w u->As 109 #[.agg #[.bool m,.slice b k d,.int .i64 f]] u fun r w'=>(∃ v,r=.returned (.tuple #[.agg #[.bool m1,v,.int .i64 f1],.bool true])/\Nt u.heap.size w' v Y)/\An u w'))
 (HP:Hid (∀ (u:World) (v:Value),An w u->Nt (w.heap.size+3) u v X->As 91 #[v,.int .i64 (e1-g)] u fun r w'=>∃ v,r=.returned v/\Nt u.heap.size w' v P/\An u w'))
 (HQ:Hid (∀ (u:World) (v:Value),An w u->Nt (w.heap.size+3) u v Y->As 91 #[v,.int .i64 (f1-g)] u fun r w'=>∃ v,r=.returned v/\Nt u.heap.size w' v Q/\An u w'))
 (HT:Hid (∀ (u:World) (p q:Option Addr) (s t:Nat),An w u->Arg u p (ws P).length s (ws P)->Arg u q (ws Q).length t (ws Q)->As 153 #[.slice p (ws P).length s,.slice q (ws Q).length t] u fun r w'=>∃ v,r=.returned v/\Nt u.heap.size w' v L/\An u w'))
 (HL:Hid (∀ (u:World) (p:Option Addr) (s:Nat),An w u->Arg u p (ws L).length s (ws L)->As 110 #[.bool n1,.slice p (ws L).length s,.int .i64 g] u fun r w'=>(∃ v,r=.returned (.tuple #[.agg #[.bool dn,v,.int .i64 de],.int .i64 er])/\Nt u.heap.size w' v V)/\An u w')):As 108 #[.agg #[.bool n,.slice a l c,.int .i64 e],.agg #[.bool m,.slice b k d,.int .i64 f]] w fun r w'=>(∃ v,r=.returned (.tuple #[.agg #[.bool dn,v,.int .i64 de],.int .i64 er])/\Nt w.heap.size w' v V)/\An w w':=by
 obtain⟨W1,hW1⟩:=af (((w.alloc (.cells #[.bool n,.slice a l c,.int .i64 e] 37)).alloc (.cells #[.bool m,.slice b k d,.int .i64 f] 37)).alloc (.cells #[.bool false,.slice none 0 0,.int .i64 0] 37));obtain⟨hB,hz1,DA,DB,DR⟩:=aS w n m (.slice a l c) (.slice b k d) e f W1 hW1;have H1:=hid (jE.o W1 hB);have SB:=(dJ hB hz1 DA DB DR);clear hB hz1 DA DB DR jE;go_enter Tryz.func108,Tryz.ntmps108;go_wp2_with fail;rw[<-hW1];clear hW1;refine H1.o.mono ?_;rintro r u1 ⟨⟨v,rfl,hN⟩,hb⟩;obtain⟨a1,c1,rfl,_⟩:=hN.arg (by omega);obtain⟨hB,hz1,DA,DB,DR⟩:=SB.o;obtain⟨U1,aQ⟩:=af (u1.alloc (.cells #[.bool n1,.slice a1 (ws X).length c1,.int .i64 e1] 37));have hA:An u1 U1:=by rw[aQ];exact ae _ _
 have hs1:w.heap.size+3<=u1.heap.size:=by have:=hb.size;omega
 have hs2:u1.heap.size<U1.heap.size:=by rw[aQ];simp
 have FB:=(DB.below hb).below hA;have FR:=(DR.below hb).below hA;have DX:Dk U1 u1.heap.size n1 (.slice a1 (ws X).length c1) e1:=by rw[aQ];exact Dk.new _ _ _ _
 have NX:Nt (w.heap.size+3) U1 (.slice a1 (ws X).length c1) X:=(hN.mono (by omega)).below hA;have BU:An w U1:=(hB.trans (hb.mono (by omega))).trans (hA.mono (by omega));have H2:=hid (kz.o U1 BU);obtain⟨y0,y1,y2,bI,bJ,bK⟩:=FB.facts;have S1:=(fE BU FR DX NX);clear hN hb H1 hB hz1 hA DA DB DR FB FR DX NX BU SB kz
 go_upto_region 2 with fail
 rw[<-aQ];clear aQ;go_wp2_with fail;clear y0 y1 y2 bI bJ bK;refine H2.o.mono ?_;rintro r u2 ⟨⟨v,rfl,hM⟩,hb⟩;obtain⟨a2,c2,rfl,_⟩:=hM.arg (by omega);obtain⟨BU,FR,DX,NX⟩:=S1.o;obtain⟨U2,dM⟩:=af (u2.alloc (.cells #[.bool m1,.slice a2 (ws Y).length c2,.int .i64 f1] 37));have hA:An u2 U2:=by rw[dM];exact ae _ _
 have hs3:U1.heap.size<=u2.heap.size:=hb.size;have hs4:u2.heap.size<U2.heap.size:=by rw[dM];simp
 have GR:=(FR.below hb).below hA;have GX:=(DX.below hb).below hA;have GY:Dk U2 u2.heap.size m1 (.slice a2 (ws Y).length c2) f1:=by rw[dM];exact Dk.new _ _ _ _
 have MX:=(NX.below hb).below hA;have MY:Nt (w.heap.size+3) U2 (.slice a2 (ws Y).length c2) Y:=(hM.mono (by omega)).below hA;have BV:An w U2:=(BU.trans (hb.mono (by omega))).trans (hA.mono (by omega));have S2:=(iC BV GR GX GY MX MY);clear hM hb H2 hA FR DX NX BU GR GX GY MX MY BV S1
 go_upto_region 5 with fail
 rw[<-dM];clear dM;obtain⟨r0,r1,r2,gK,gL,gM⟩:=S2.o.2.1.facts;obtain⟨x0,x1,x2,bE,bF,bG⟩:=S2.o.r2.1.facts;obtain⟨y0,y1,y2,bI,bJ,bK⟩:=S2.o.r3.1.facts;have H3:=hid (HP.o U2 _ S2.o.1 S2.o.r4.1);clear HP;go_wp2_with fail;clear r0 r1 r2 gK gL gM x0 x1 x2 bE bF bG y0 y1 y2 bI bJ bK;refine H3.o.mono ?_;rintro r u5 ⟨v,rfl,hP,hb⟩;obtain⟨a5,c5,rfl,_⟩:=hP.arg (by omega);obtain⟨BV,GR,GX,GY,MX,MY⟩:=S2.o;have hs5:U2.heap.size<=u5.heap.size:=hb.size;have Bb:An w u5:=BV.trans (hb.mono (by omega));have H4:=hid (HQ.o u5 _ Bb (MY.below hb));have S5:=(iC Bb (GR.below hb) (GX.below hb) (GY.below hb) (MX.below hb) (hP.mono (lo':=w.heap.size+3) (by omega)));clear BV GR GX GY MX MY Bb hP hb H3 S2 HQ;obtain⟨r0,r1,r2,gK,gL,gM⟩:=S5.o.2.1.facts;obtain⟨x0,x1,x2,bE,bF,bG⟩:=S5.o.r2.1.facts;obtain⟨y0,y1,y2,bI,bJ,bK⟩:=S5.o.r3.1.facts;go_wp2_with fail;clear r0 r1 r2 gK gL gM x0 x1 x2 bE bF bG y0 y1 y2 bI bJ bK;refine H4.o.mono ?_;rintro r u6 ⟨v,rfl,hQ,hb⟩;obtain⟨a6,c6,rfl,_⟩:=hQ.arg (by omega);obtain⟨BV,GR,GX,GY,MX,MP⟩:=S5.o;have hs6:u5.heap.size<=u6.heap.size:=hb.size;have S2:=(iC (BV.trans (hb.mono (by omega))) (GR.below hb) (GX.below hb) (GY.below hb) (MP.below hb) (hQ.mono (lo':=w.heap.size+3) (by omega)));clear BV GR GX GY MX MP hQ hb H4 S5;obtain⟨r0,r1,r2,gK,gL,gM⟩:=S2.o.2.1.facts;obtain⟨x0,x1,x2,bE,bF,bG⟩:=S2.o.r2.1.facts;obtain⟨y0,y1,y2,bI,bJ,bK⟩:=S2.o.r3.1.facts;go_wp2_with fail;have ne1:u1.heap.size≠w.heap.size+1+1:=by omega
 have MO:u2.heap.size≠w.heap.size+1+1:=by omega
 have YM:w.heap.size+1+1≠u1.heap.size:=by omega
 have YN:w.heap.size+1+1≠u2.heap.size:=by omega
 have T1:=hid (HT.o u6 a5 a6 c5 c6 S2.o.1 (S2.o.r4.1.aR (by omega)).2 (S2.o.r5.aR (by omega)).2);have T2:=hid (HT.o u6.drew a5 a6 c5 c6 (qh S2.o.1) (Arg.drew' (S2.o.r4.1.aR (by omega)).2) (Arg.drew' (S2.o.r5.aR (by omega)).2))
 go_region_held3 (fun w'=>w'.cell? ⟨u1.heap.size,0,none⟩=some (.bool n1)/\w'.cell? ⟨u1.heap.size,1,none⟩=some (.slice a1 (ws X).length c1)/\w'.cell? ⟨u1.heap.size,2,none⟩=some (.int .i64 e1)/\w'.cell? ⟨u2.heap.size,0,none⟩=some (.bool m1)/\w'.cell? ⟨u2.heap.size,1,none⟩=some (.slice a2 (ws Y).length c2)/\w'.cell? ⟨u2.heap.size,2,none⟩=some (.int .i64 f1)) (go_keep) (first
  | (go_at_call 153
     first | with_reducible refine T1.o.mono ?_ | with_reducible refine T2.o.mono ?_
     rintro r u3 ⟨v,rfl,hN,hb⟩;obtain⟨a3,c3,rfl,_⟩:=hN.arg (by omega);have hb3:An u6 u3:=by first | exact hb | exact((aB _ u6).drew).trans (hb.mono (aA _))
     have WM:=hid (HL.o u3 a3 c3 (S2.o.1.trans (hb3.mono (by omega))) (hN.aR (by omega)).2);have KR:=S2.o.2.1.below hb3;have KX:=S2.o.r2.1.below hb3;have KY:=S2.o.r3.1.below hb3;obtain⟨p0,p1,p2,IP,IQ,IU⟩:=KR.facts;obtain⟨q0,q1,q2,zb,ze,zf⟩:=KX.facts;obtain⟨s0,s1,s2,sH,sI,sJ⟩:=KY.facts;have hs9:u6.heap.size<=u3.heap.size:=hb3.size;have S9:=(fE (S2.o.1.trans (hb3.mono (by omega))) KR KX KY)
     clear hN hb hb3 KR KX KY)
  | (go_at_call 110
     with_reducible refine WM.o.mono ?_
     rintro r u4 ⟨⟨v,rfl,hN⟩,hb⟩;obtain⟨a4,c4,rfl,_⟩:=hN.arg (by omega);have LR:=S9.o.2.1.below hb;obtain⟨t0,t1,t2,Ra,Rb,Rc⟩:=LR.facts;obtain⟨i0,i1,i2,OH,OI,OJ⟩:=(S9.o.r2.1.below hb).facts;obtain⟨j0,j1,j2,YO,YP,YQ⟩:=(S9.o.r3.below hb).facts;have FV:=ak (show Fin w.heap.size (w.heap.size+3) w u4 (.slice a4 (ws V).length c4) V from⟨hN.mono (by omega),S9.o.1.trans (hb.mono (by omega)),by have:=hb.size;omega⟩);have I5:=ak LR
     clear hN hb LR))
 all_goals (
  go_wp2;refine aC (iP _ (w.heap.size+1+1) dn (.slice a4 (ws V).length c4) de er _ rfl rfl (I5.o.set _ _ _)) rfl ?_;refine Fin.jI (m:=w.heap.size+3) ?_ (by omega)
  repeat (with_reducible first | exact FV.o | refine Fin.drew ?_ | refine Fin.alloc ?_ _ | refine Fin.set ?_ _ _ _ (by omega) (by omega)))
theorem Tc {w:World}{a b:Option Addr}{l c k d:Nat}(n m:Bool) (e f:Int) (n1 m1:Bool) (X Y:Nat) (e1 f1:Int) (lX:(ws X).length<=8192) (lY:(ws Y).length<=8192) (hX:((((ws X).length:Nat):Int)==0)=false) (hY:((((ws Y).length:Nat):Int)==0)=false) (KG:-1048576<=e1) (KH:e1<=1048576) (KI:-1048576<=f1) (KJ:f1<=1048576) (g:Int) (hg:min e1 f1=g) (bg0:-1048576<=g) (bg1:g<=1048576) (P Q:Nat) (lP:(ws P).length<=1000000) (lQ:(ws Q).length<=1000000) (h5:(ws P).length<=8192) (h6:(ws Q).length<=8192) (hs:(n1==m1)=false) (z:Int) (hz:0<=z) (L:Nat) (lL:(ws L).length<=1000000) (dn:Bool) (V:Nat) (de er:Int) (lV:(ws V).length<=8192)
 (jE:Hid (∀ u,An w u->As 109 #[.agg #[.bool n,.slice a l c,.int .i64 e]] u fun r w'=>(∃ v,r=.returned (.tuple #[.agg #[.bool n1,v,.int .i64 e1],.bool true])/\Nt u.heap.size w' v X)/\An u w'))
 (kz:Hid (∀ u,An w u->As 109 #[.agg #[.bool m,.slice b k d,.int .i64 f]] u fun r w'=>(∃ v,r=.returned (.tuple #[.agg #[.bool m1,v,.int .i64 f1],.bool true])/\Nt u.heap.size w' v Y)/\An u w'))
 (HP:Hid (∀ (u:World) (v:Value),An w u->Nt (w.heap.size+3) u v X->As 91 #[v,.int .i64 (e1-g)] u fun r w'=>∃ v,r=.returned v/\Nt u.heap.size w' v P/\An u w'))
 (HQ:Hid (∀ (u:World) (v:Value),An w u->Nt (w.heap.size+3) u v Y->As 91 #[v,.int .i64 (f1-g)] u fun r w'=>∃ v,r=.returned v/\Nt u.heap.size w' v Q/\An u w'))
 (HC:Hid (∀ (u:World) (p q:Option Addr) (s t:Nat),An w u->Arg u p (ws P).length s (ws P)->Arg u q (ws Q).length t (ws Q)->At 154 #[.slice p (ws P).length s,.slice q (ws Q).length t] u (.int .i64 z)))
 (HT:Hid (∀ (u:World) (p q:Option Addr) (s t:Nat),An w u->Arg u p (ws P).length s (ws P)->Arg u q (ws Q).length t (ws Q)->As 155 #[.slice p (ws P).length s,.slice q (ws Q).length t] u fun r w'=>∃ v,r=.returned v/\Nt u.heap.size w' v L/\An u w'))
 (HL:Hid (∀ (u:World) (p:Option Addr) (s:Nat),An w u->Arg u p (ws L).length s (ws L)->As 110 #[.bool n1,.slice p (ws L).length s,.int .i64 g] u fun r w'=>(∃ v,r=.returned (.tuple #[.agg #[.bool dn,v,.int .i64 de],.int .i64 er])/\Nt u.heap.size w' v V)/\An u w')):As 108 #[.agg #[.bool n,.slice a l c,.int .i64 e],.agg #[.bool m,.slice b k d,.int .i64 f]] w fun r w'=>(∃ v,r=.returned (.tuple #[.agg #[.bool dn,v,.int .i64 de],.int .i64 er])/\Nt w.heap.size w' v V)/\An w w':=by
 obtain⟨W1,hW1⟩:=af (((w.alloc (.cells #[.bool n,.slice a l c,.int .i64 e] 37)).alloc (.cells #[.bool m,.slice b k d,.int .i64 f] 37)).alloc (.cells #[.bool false,.slice none 0 0,.int .i64 0] 37));obtain⟨hB,hz1,DA,DB,DR⟩:=aS w n m (.slice a l c) (.slice b k d) e f W1 hW1;have H1:=hid (jE.o W1 hB);have SB:=(dJ hB hz1 DA DB DR);clear hB hz1 DA DB DR jE;go_enter Tryz.func108,Tryz.ntmps108;go_wp2_with fail;rw[<-hW1];clear hW1;refine H1.o.mono ?_;rintro r u1 ⟨⟨v,rfl,hN⟩,hb⟩;obtain⟨a1,c1,rfl,_⟩:=hN.arg (by omega);obtain⟨hB,hz1,DA,DB,DR⟩:=SB.o;obtain⟨U1,aQ⟩:=af (u1.alloc (.cells #[.bool n1,.slice a1 (ws X).length c1,.int .i64 e1] 37));have hA:An u1 U1:=by rw[aQ];exact ae _ _
 have hs1:w.heap.size+3<=u1.heap.size:=by have:=hb.size;omega
 have hs2:u1.heap.size<U1.heap.size:=by rw[aQ];simp
 have FB:=(DB.below hb).below hA;have FR:=(DR.below hb).below hA;have DX:Dk U1 u1.heap.size n1 (.slice a1 (ws X).length c1) e1:=by rw[aQ];exact Dk.new _ _ _ _
 have NX:Nt (w.heap.size+3) U1 (.slice a1 (ws X).length c1) X:=(hN.mono (by omega)).below hA;have BU:An w U1:=(hB.trans (hb.mono (by omega))).trans (hA.mono (by omega));have H2:=hid (kz.o U1 BU);obtain⟨y0,y1,y2,bI,bJ,bK⟩:=FB.facts;have S1:=(fE BU FR DX NX);clear hN hb H1 hB hz1 hA DA DB DR FB FR DX NX BU SB kz
 go_upto_region 2 with fail
 rw[<-aQ];clear aQ;go_wp2_with fail;clear y0 y1 y2 bI bJ bK;refine H2.o.mono ?_;rintro r u2 ⟨⟨v,rfl,hM⟩,hb⟩;obtain⟨a2,c2,rfl,_⟩:=hM.arg (by omega);obtain⟨BU,FR,DX,NX⟩:=S1.o;obtain⟨U2,dM⟩:=af (u2.alloc (.cells #[.bool m1,.slice a2 (ws Y).length c2,.int .i64 f1] 37));have hA:An u2 U2:=by rw[dM];exact ae _ _
 have hs3:U1.heap.size<=u2.heap.size:=hb.size;have hs4:u2.heap.size<U2.heap.size:=by rw[dM];simp
 have GR:=(FR.below hb).below hA;have GX:=(DX.below hb).below hA;have GY:Dk U2 u2.heap.size m1 (.slice a2 (ws Y).length c2) f1:=by rw[dM];exact Dk.new _ _ _ _
 have MX:=(NX.below hb).below hA;have MY:Nt (w.heap.size+3) U2 (.slice a2 (ws Y).length c2) Y:=(hM.mono (by omega)).below hA;have BV:An w U2:=(BU.trans (hb.mono (by omega))).trans (hA.mono (by omega));have S2:=(iC BV GR GX GY MX MY);clear hM hb H2 hA FR DX NX BU GR GX GY MX MY BV S1
 go_upto_region 5 with fail
 rw[<-dM];clear dM;obtain⟨r0,r1,r2,gK,gL,gM⟩:=S2.o.2.1.facts;obtain⟨x0,x1,x2,bE,bF,bG⟩:=S2.o.r2.1.facts;obtain⟨y0,y1,y2,bI,bJ,bK⟩:=S2.o.r3.1.facts;have H3:=hid (HP.o U2 _ S2.o.1 S2.o.r4.1);clear HP;go_wp2_with fail;clear r0 r1 r2 gK gL gM x0 x1 x2 bE bF bG y0 y1 y2 bI bJ bK;refine H3.o.mono ?_;rintro r u5 ⟨v,rfl,hP,hb⟩;obtain⟨a5,c5,rfl,_⟩:=hP.arg (by omega);obtain⟨BV,GR,GX,GY,MX,MY⟩:=S2.o;have hs5:U2.heap.size<=u5.heap.size:=hb.size;have Bb:An w u5:=BV.trans (hb.mono (by omega));have H4:=hid (HQ.o u5 _ Bb (MY.below hb));have S5:=(iC Bb (GR.below hb) (GX.below hb) (GY.below hb) (MX.below hb) (hP.mono (lo':=w.heap.size+3) (by omega)));clear BV GR GX GY MX MY Bb hP hb H3 S2 HQ;obtain⟨r0,r1,r2,gK,gL,gM⟩:=S5.o.2.1.facts;obtain⟨x0,x1,x2,bE,bF,bG⟩:=S5.o.r2.1.facts;obtain⟨y0,y1,y2,bI,bJ,bK⟩:=S5.o.r3.1.facts;go_wp2_with fail;clear r0 r1 r2 gK gL gM x0 x1 x2 bE bF bG y0 y1 y2 bI bJ bK;refine H4.o.mono ?_;rintro r u6 ⟨v,rfl,hQ,hb⟩;obtain⟨a6,c6,rfl,_⟩:=hQ.arg (by omega);obtain⟨BV,GR,GX,GY,MX,MP⟩:=S5.o;have hs6:u5.heap.size<=u6.heap.size:=hb.size;have S2:=(iC (BV.trans (hb.mono (by omega))) (GR.below hb) (GX.below hb) (GY.below hb) (MP.below hb) (hQ.mono (lo':=w.heap.size+3) (by omega)));clear BV GR GX GY MX MP hQ hb H4 S5;obtain⟨r0,r1,r2,gK,gL,gM⟩:=S2.o.2.1.facts;obtain⟨x0,x1,x2,bE,bF,bG⟩:=S2.o.r2.1.facts;obtain⟨y0,y1,y2,bI,bJ,bK⟩:=S2.o.r3.1.facts;have H7:=hid (HC.o u6 a5 a6 c5 c6 S2.o.1 (S2.o.r4.1.aR (by omega)).2 (S2.o.r5.aR (by omega)).2);clear HC;go_wp2_with fail;clear r0 r1 r2 gK gL gM x0 x1 x2 bE bF bG y0 y1 y2 bI bJ bK;refine H7.o.mono ?_;rintro r u7 ⟨rfl,hb⟩;obtain⟨BV,GR,GX,GY,MP,MQ⟩:=S2.o;have hs7:u6.heap.size<=u7.heap.size:=hb.size;have S2':=(iC (BV.trans (hb.mono (by omega))) (GR.below hb) (GX.below hb) (GY.below hb) (MP.below hb) (MQ.below hb));clear S2;have S2:=S2';clear BV GR GX GY MP MQ hb H7 S2';obtain⟨r0,r1,r2,gK,gL,gM⟩:=S2.o.2.1.facts;obtain⟨x0,x1,x2,bE,bF,bG⟩:=S2.o.r2.1.facts;obtain⟨y0,y1,y2,bI,bJ,bK⟩:=S2.o.r3.1.facts;go_wp2_with fail;have ne1:u1.heap.size≠w.heap.size+1+1:=by omega
 have MO:u2.heap.size≠w.heap.size+1+1:=by omega
 have YM:w.heap.size+1+1≠u1.heap.size:=by omega
 have YN:w.heap.size+1+1≠u2.heap.size:=by omega
 have T1:=hid (HT.o u7 a5 a6 c5 c6 S2.o.1 (S2.o.r4.1.aR (by omega)).2 (S2.o.r5.aR (by omega)).2);have T2:=hid (HT.o u7.drew a5 a6 c5 c6 (qh S2.o.1) (Arg.drew' (S2.o.r4.1.aR (by omega)).2) (Arg.drew' (S2.o.r5.aR (by omega)).2))
 go_region_held3 (fun w'=>w'.cell? ⟨u1.heap.size,0,none⟩=some (.bool n1)/\w'.cell? ⟨u1.heap.size,1,none⟩=some (.slice a1 (ws X).length c1)/\w'.cell? ⟨u1.heap.size,2,none⟩=some (.int .i64 e1)/\w'.cell? ⟨u2.heap.size,0,none⟩=some (.bool m1)/\w'.cell? ⟨u2.heap.size,1,none⟩=some (.slice a2 (ws Y).length c2)/\w'.cell? ⟨u2.heap.size,2,none⟩=some (.int .i64 f1)) (go_keep) (first
  | (go_at_call 155
     first | with_reducible refine T1.o.mono ?_ | with_reducible refine T2.o.mono ?_
     rintro r u3 ⟨v,rfl,hN,hb⟩;obtain⟨a3,c3,rfl,_⟩:=hN.arg (by omega);have hb3:An u7 u3:=by first | exact hb | exact((aB _ u7).drew).trans (hb.mono (aA _))
     have WM:=hid (HL.o u3 a3 c3 (S2.o.1.trans (hb3.mono (by omega))) (hN.aR (by omega)).2);have KR:=S2.o.2.1.below hb3;have KX:=S2.o.r2.1.below hb3;have KY:=S2.o.r3.1.below hb3;obtain⟨p0,p1,p2,IP,IQ,IU⟩:=KR.facts;obtain⟨q0,q1,q2,zb,ze,zf⟩:=KX.facts;obtain⟨s0,s1,s2,sH,sI,sJ⟩:=KY.facts;have hs9:u7.heap.size<=u3.heap.size:=hb3.size;have S9:=(fE (S2.o.1.trans (hb3.mono (by omega))) KR KX KY)
     clear hN hb hb3 KR KX KY)
  | (go_at_call 110
     with_reducible refine WM.o.mono ?_
     rintro r u4 ⟨⟨v,rfl,hN⟩,hb⟩;obtain⟨a4,c4,rfl,_⟩:=hN.arg (by omega);have LR:=S9.o.2.1.below hb;obtain⟨t0,t1,t2,Ra,Rb,Rc⟩:=LR.facts;obtain⟨i0,i1,i2,OH,OI,OJ⟩:=(S9.o.r2.1.below hb).facts;obtain⟨j0,j1,j2,YO,YP,YQ⟩:=(S9.o.r3.below hb).facts;have FV:=ak (show Fin w.heap.size (w.heap.size+3) w u4 (.slice a4 (ws V).length c4) V from⟨hN.mono (by omega),S9.o.1.trans (hb.mono (by omega)),by have:=hb.size;omega⟩);have I5:=ak LR
     clear hN hb LR))
 all_goals (
  go_wp2;refine aC (iP _ (w.heap.size+1+1) dn (.slice a4 (ws V).length c4) de er _ rfl rfl (I5.o.set _ _ _)) rfl ?_;refine Fin.jI (m:=w.heap.size+3) ?_ (by omega)
  repeat (with_reducible first | exact FV.o | refine Fin.drew ?_ | refine Fin.alloc ?_ _ | refine Fin.set ?_ _ _ _ (by omega) (by omega)))
theorem Td {w:World}{a b:Option Addr}{l c k d:Nat}(n m:Bool) (e f:Int) (n1 m1:Bool) (X Y:Nat) (e1 f1:Int) (lX:(ws X).length<=8192) (lY:(ws Y).length<=8192) (hX:((((ws X).length:Nat):Int)==0)=false) (hY:((((ws Y).length:Nat):Int)==0)=false) (KG:-1048576<=e1) (KH:e1<=1048576) (KI:-1048576<=f1) (KJ:f1<=1048576) (g:Int) (hg:min e1 f1=g) (bg0:-1048576<=g) (bg1:g<=1048576) (P Q:Nat) (lP:(ws P).length<=1000000) (lQ:(ws Q).length<=1000000) (h5:(ws P).length<=8192) (h6:(ws Q).length<=8192) (hs:(n1==m1)=false) (z:Int) (hz:z<0) (L:Nat) (lL:(ws L).length<=1000000) (dn:Bool) (V:Nat) (de er:Int) (lV:(ws V).length<=8192)
 (jE:Hid (∀ u,An w u->As 109 #[.agg #[.bool n,.slice a l c,.int .i64 e]] u fun r w'=>(∃ v,r=.returned (.tuple #[.agg #[.bool n1,v,.int .i64 e1],.bool true])/\Nt u.heap.size w' v X)/\An u w'))
 (kz:Hid (∀ u,An w u->As 109 #[.agg #[.bool m,.slice b k d,.int .i64 f]] u fun r w'=>(∃ v,r=.returned (.tuple #[.agg #[.bool m1,v,.int .i64 f1],.bool true])/\Nt u.heap.size w' v Y)/\An u w'))
 (HP:Hid (∀ (u:World) (v:Value),An w u->Nt (w.heap.size+3) u v X->As 91 #[v,.int .i64 (e1-g)] u fun r w'=>∃ v,r=.returned v/\Nt u.heap.size w' v P/\An u w'))
 (HQ:Hid (∀ (u:World) (v:Value),An w u->Nt (w.heap.size+3) u v Y->As 91 #[v,.int .i64 (f1-g)] u fun r w'=>∃ v,r=.returned v/\Nt u.heap.size w' v Q/\An u w'))
 (HC:Hid (∀ (u:World) (p q:Option Addr) (s t:Nat),An w u->Arg u p (ws P).length s (ws P)->Arg u q (ws Q).length t (ws Q)->At 154 #[.slice p (ws P).length s,.slice q (ws Q).length t] u (.int .i64 z)))
 (HT:Hid (∀ (u:World) (p q:Option Addr) (s t:Nat),An w u->Arg u p (ws Q).length s (ws Q)->Arg u q (ws P).length t (ws P)->As 155 #[.slice p (ws Q).length s,.slice q (ws P).length t] u fun r w'=>∃ v,r=.returned v/\Nt u.heap.size w' v L/\An u w'))
 (HL:Hid (∀ (u:World) (p:Option Addr) (s:Nat),An w u->Arg u p (ws L).length s (ws L)->As 110 #[.bool m1,.slice p (ws L).length s,.int .i64 g] u fun r w'=>(∃ v,r=.returned (.tuple #[.agg #[.bool dn,v,.int .i64 de],.int .i64 er])/\Nt u.heap.size w' v V)/\An u w')):As 108 #[.agg #[.bool n,.slice a l c,.int .i64 e],.agg #[.bool m,.slice b k d,.int .i64 f]] w fun r w'=>(∃ v,r=.returned (.tuple #[.agg #[.bool dn,v,.int .i64 de],.int .i64 er])/\Nt w.heap.size w' v V)/\An w w':=by
 obtain⟨W1,hW1⟩:=af (((w.alloc (.cells #[.bool n,.slice a l c,.int .i64 e] 37)).alloc (.cells #[.bool m,.slice b k d,.int .i64 f] 37)).alloc (.cells #[.bool false,.slice none 0 0,.int .i64 0] 37));obtain⟨hB,hz1,DA,DB,DR⟩:=aS w n m (.slice a l c) (.slice b k d) e f W1 hW1;have H1:=hid (jE.o W1 hB);have SB:=(dJ hB hz1 DA DB DR);clear hB hz1 DA DB DR jE;go_enter Tryz.func108,Tryz.ntmps108;go_wp2_with fail;rw[<-hW1];clear hW1;refine H1.o.mono ?_;rintro r u1 ⟨⟨v,rfl,hN⟩,hb⟩;obtain⟨a1,c1,rfl,_⟩:=hN.arg (by omega);obtain⟨hB,hz1,DA,DB,DR⟩:=SB.o;obtain⟨U1,aQ⟩:=af (u1.alloc (.cells #[.bool n1,.slice a1 (ws X).length c1,.int .i64 e1] 37));have hA:An u1 U1:=by rw[aQ];exact ae _ _
 have hs1:w.heap.size+3<=u1.heap.size:=by have:=hb.size;omega
 have hs2:u1.heap.size<U1.heap.size:=by rw[aQ];simp
 have FB:=(DB.below hb).below hA;have FR:=(DR.below hb).below hA;have DX:Dk U1 u1.heap.size n1 (.slice a1 (ws X).length c1) e1:=by rw[aQ];exact Dk.new _ _ _ _
 have NX:Nt (w.heap.size+3) U1 (.slice a1 (ws X).length c1) X:=(hN.mono (by omega)).below hA;have BU:An w U1:=(hB.trans (hb.mono (by omega))).trans (hA.mono (by omega));have H2:=hid (kz.o U1 BU);obtain⟨y0,y1,y2,bI,bJ,bK⟩:=FB.facts;have S1:=(fE BU FR DX NX);clear hN hb H1 hB hz1 hA DA DB DR FB FR DX NX BU SB kz
 go_upto_region 2 with fail
 rw[<-aQ];clear aQ;go_wp2_with fail;clear y0 y1 y2 bI bJ bK;refine H2.o.mono ?_;rintro r u2 ⟨⟨v,rfl,hM⟩,hb⟩;obtain⟨a2,c2,rfl,_⟩:=hM.arg (by omega);obtain⟨BU,FR,DX,NX⟩:=S1.o;obtain⟨U2,dM⟩:=af (u2.alloc (.cells #[.bool m1,.slice a2 (ws Y).length c2,.int .i64 f1] 37));have hA:An u2 U2:=by rw[dM];exact ae _ _
 have hs3:U1.heap.size<=u2.heap.size:=hb.size;have hs4:u2.heap.size<U2.heap.size:=by rw[dM];simp
 have GR:=(FR.below hb).below hA;have GX:=(DX.below hb).below hA;have GY:Dk U2 u2.heap.size m1 (.slice a2 (ws Y).length c2) f1:=by rw[dM];exact Dk.new _ _ _ _
 have MX:=(NX.below hb).below hA;have MY:Nt (w.heap.size+3) U2 (.slice a2 (ws Y).length c2) Y:=(hM.mono (by omega)).below hA;have BV:An w U2:=(BU.trans (hb.mono (by omega))).trans (hA.mono (by omega));have S2:=(iC BV GR GX GY MX MY);clear hM hb H2 hA FR DX NX BU GR GX GY MX MY BV S1
 go_upto_region 5 with fail
 rw[<-dM];clear dM;obtain⟨r0,r1,r2,gK,gL,gM⟩:=S2.o.2.1.facts;obtain⟨x0,x1,x2,bE,bF,bG⟩:=S2.o.r2.1.facts;obtain⟨y0,y1,y2,bI,bJ,bK⟩:=S2.o.r3.1.facts;have H3:=hid (HP.o U2 _ S2.o.1 S2.o.r4.1);clear HP;go_wp2_with fail;clear r0 r1 r2 gK gL gM x0 x1 x2 bE bF bG y0 y1 y2 bI bJ bK;refine H3.o.mono ?_;rintro r u5 ⟨v,rfl,hP,hb⟩;obtain⟨a5,c5,rfl,_⟩:=hP.arg (by omega);obtain⟨BV,GR,GX,GY,MX,MY⟩:=S2.o;have hs5:U2.heap.size<=u5.heap.size:=hb.size;have Bb:An w u5:=BV.trans (hb.mono (by omega));have H4:=hid (HQ.o u5 _ Bb (MY.below hb));have S5:=(iC Bb (GR.below hb) (GX.below hb) (GY.below hb) (MX.below hb) (hP.mono (lo':=w.heap.size+3) (by omega)));clear BV GR GX GY MX MY Bb hP hb H3 S2 HQ;obtain⟨r0,r1,r2,gK,gL,gM⟩:=S5.o.2.1.facts;obtain⟨x0,x1,x2,bE,bF,bG⟩:=S5.o.r2.1.facts;obtain⟨y0,y1,y2,bI,bJ,bK⟩:=S5.o.r3.1.facts;go_wp2_with fail;clear r0 r1 r2 gK gL gM x0 x1 x2 bE bF bG y0 y1 y2 bI bJ bK;refine H4.o.mono ?_;rintro r u6 ⟨v,rfl,hQ,hb⟩;obtain⟨a6,c6,rfl,_⟩:=hQ.arg (by omega);obtain⟨BV,GR,GX,GY,MX,MP⟩:=S5.o;have hs6:u5.heap.size<=u6.heap.size:=hb.size;have S2:=(iC (BV.trans (hb.mono (by omega))) (GR.below hb) (GX.below hb) (GY.below hb) (MP.below hb) (hQ.mono (lo':=w.heap.size+3) (by omega)));clear BV GR GX GY MX MP hQ hb H4 S5;obtain⟨r0,r1,r2,gK,gL,gM⟩:=S2.o.2.1.facts;obtain⟨x0,x1,x2,bE,bF,bG⟩:=S2.o.r2.1.facts;obtain⟨y0,y1,y2,bI,bJ,bK⟩:=S2.o.r3.1.facts;have H7:=hid (HC.o u6 a5 a6 c5 c6 S2.o.1 (S2.o.r4.1.aR (by omega)).2 (S2.o.r5.aR (by omega)).2);clear HC;go_wp2_with fail;clear r0 r1 r2 gK gL gM x0 x1 x2 bE bF bG y0 y1 y2 bI bJ bK;refine H7.o.mono ?_;rintro r u7 ⟨rfl,hb⟩;obtain⟨BV,GR,GX,GY,MP,MQ⟩:=S2.o;have hs7:u6.heap.size<=u7.heap.size:=hb.size;have S2':=(iC (BV.trans (hb.mono (by omega))) (GR.below hb) (GX.below hb) (GY.below hb) (MP.below hb) (MQ.below hb));clear S2;have S2:=S2';clear BV GR GX GY MP MQ hb H7 S2';obtain⟨r0,r1,r2,gK,gL,gM⟩:=S2.o.2.1.facts;obtain⟨x0,x1,x2,bE,bF,bG⟩:=S2.o.r2.1.facts;obtain⟨y0,y1,y2,bI,bJ,bK⟩:=S2.o.r3.1.facts;go_wp2_with fail;have ne1:u1.heap.size≠w.heap.size+1+1:=by omega
 have MO:u2.heap.size≠w.heap.size+1+1:=by omega
 have YM:w.heap.size+1+1≠u1.heap.size:=by omega
 have YN:w.heap.size+1+1≠u2.heap.size:=by omega
 have T1:=hid (HT.o u7 a6 a5 c6 c5 S2.o.1 (S2.o.r5.aR (by omega)).2 (S2.o.r4.1.aR (by omega)).2);have T2:=hid (HT.o u7.drew a6 a5 c6 c5 (qh S2.o.1) (Arg.drew' (S2.o.r5.aR (by omega)).2) (Arg.drew' (S2.o.r4.1.aR (by omega)).2))
 go_region_held3 (fun w'=>w'.cell? ⟨u1.heap.size,0,none⟩=some (.bool n1)/\w'.cell? ⟨u1.heap.size,1,none⟩=some (.slice a1 (ws X).length c1)/\w'.cell? ⟨u1.heap.size,2,none⟩=some (.int .i64 e1)/\w'.cell? ⟨u2.heap.size,0,none⟩=some (.bool m1)/\w'.cell? ⟨u2.heap.size,1,none⟩=some (.slice a2 (ws Y).length c2)/\w'.cell? ⟨u2.heap.size,2,none⟩=some (.int .i64 f1)) (go_keep) (first
  | (go_at_call 155
     first | with_reducible refine T1.o.mono ?_ | with_reducible refine T2.o.mono ?_
     rintro r u3 ⟨v,rfl,hN,hb⟩;obtain⟨a3,c3,rfl,_⟩:=hN.arg (by omega);have hb3:An u7 u3:=by first | exact hb | exact((aB _ u7).drew).trans (hb.mono (aA _))
     have WM:=hid (HL.o u3 a3 c3 (S2.o.1.trans (hb3.mono (by omega))) (hN.aR (by omega)).2);have KR:=S2.o.2.1.below hb3;have KX:=S2.o.r2.1.below hb3;have KY:=S2.o.r3.1.below hb3;obtain⟨p0,p1,p2,IP,IQ,IU⟩:=KR.facts;obtain⟨q0,q1,q2,zb,ze,zf⟩:=KX.facts;obtain⟨s0,s1,s2,sH,sI,sJ⟩:=KY.facts;have hs9:u7.heap.size<=u3.heap.size:=hb3.size;have S9:=(fE (S2.o.1.trans (hb3.mono (by omega))) KR KX KY)
     clear hN hb hb3 KR KX KY)
  | (go_at_call 110
     with_reducible refine WM.o.mono ?_
     rintro r u4 ⟨⟨v,rfl,hN⟩,hb⟩;obtain⟨a4,c4,rfl,_⟩:=hN.arg (by omega);have LR:=S9.o.2.1.below hb;obtain⟨t0,t1,t2,Ra,Rb,Rc⟩:=LR.facts;obtain⟨i0,i1,i2,OH,OI,OJ⟩:=(S9.o.r2.1.below hb).facts;obtain⟨j0,j1,j2,YO,YP,YQ⟩:=(S9.o.r3.below hb).facts;have FV:=ak (show Fin w.heap.size (w.heap.size+3) w u4 (.slice a4 (ws V).length c4) V from⟨hN.mono (by omega),S9.o.1.trans (hb.mono (by omega)),by have:=hb.size;omega⟩);have I5:=ak LR
     clear hN hb LR))
 all_goals (
  go_wp2;refine aC (iP _ (w.heap.size+1+1) dn (.slice a4 (ws V).length c4) de er _ rfl rfl (I5.o.set _ _ _)) rfl ?_;refine Fin.jI (m:=w.heap.size+3) ?_ (by omega)
  repeat (with_reducible first | exact FV.o | refine Fin.drew ?_ | refine Fin.alloc ?_ _ | refine Fin.set ?_ _ _ _ (by omega) (by omega)))
theorem Te(W:World)(g:Nat)(n:Bool)(v:Value)(e k:Int)(tmps:Array Value)(ht:tmps[4]?.getD undef=.pointer (some ⟨g,0,none⟩))(hk:tmps[5]?.getD undef=.int .i64 k)(D:Dk W g n v e) :
 (results Tryz.f88 tmps).run Tryz.prog W=.ok (.tuple #[.agg #[.bool n,v,.int .i64 e],.int .i64 k]) W:=by
 obtain⟨x0,x1,x2,bE,bF,bG⟩:=D.facts;simp[results,Tryz.results88,ht,hk,go_sem,x0,x1,x2]
theorem O7(W:World)(g:Nat)(n:Bool)(v:Value)(e k:Int)(tmps:Array Value)(ht:tmps[4]?.getD undef=.pointer (some ⟨g,0,none⟩))(hk:tmps[5]?.getD undef=.int .i64 k)(D:Dk W g n v e) :
 (results Tryz.f71 tmps).run Tryz.prog W=.ok (.tuple #[.agg #[.bool n,v,.int .i64 e],.int .i64 k]) W:=by
 obtain⟨x0,x1,x2,bE,bF,bG⟩:=D.facts;simp[results,Tryz.results71,ht,hk,go_sem,x0,x1,x2]
theorem O8 {w:World}{a b:Option Addr}{l c k d:Nat}(n m:Bool) (e f:Int) (dn:Bool) (V:Nat) (de er:Int) (lV:(ws V).length<=8192)
 (HT:Hid (∀ u,At 135 #[.agg #[.bool m,.slice b k d,.int .i64 f]] u (.agg #[.bool (!m),.slice b k d,.int .i64 f])))
 (HA:Hid (∀ u,An w u->As 134 #[.agg #[.bool n,.slice a l c,.int .i64 e],.agg #[.bool (!m),.slice b k d,.int .i64 f]] u fun r w'=>(∃ v,r=.returned (.tuple #[.agg #[.bool dn,v,.int .i64 de],.int .i64 er])/\Nt u.heap.size w' v V)/\An u w')) :
 As 88 #[.agg #[.bool n,.slice a l c,.int .i64 e],.agg #[.bool m,.slice b k d,.int .i64 f]] w fun r w'=>(∃ v,r=.returned (.tuple #[.agg #[.bool dn,v,.int .i64 de],.int .i64 er])/\Nt w.heap.size w' v V)/\An w w':=by
 obtain⟨W1,hW1⟩:=af (((w.alloc (.cells #[.bool n,.slice a l c,.int .i64 e] 37)).alloc (.cells #[.bool m,.slice b k d,.int .i64 f] 37)).alloc (.cells #[.bool false,.slice none 0 0,.int .i64 0] 37));obtain⟨hB,hz1,DA,DB,DR⟩:=aS w n m (.slice a l c) (.slice b k d) e f W1 hW1;have T1:=hid (HT.o W1);have T2:=hid (HT.o W1.drew);obtain⟨x0,x1,x2,bE,bF,bG⟩:=DA.facts;obtain⟨y0,y1,y2,bI,bJ,bK⟩:=DB.facts;obtain⟨r0,r1,r2,gK,gL,gM⟩:=DR.facts;have hs1:w.heap.size+3<=W1.heap.size:=by omega
 have SB:=(fE hB DA DB DR);clear hB hz1 DA DB DR;go_enter Tryz.func88,Tryz.ntmps88;go_wp2_with fail;rw[<-hW1];clear hW1;have ne1:w.heap.size≠w.heap.size+1+1:=by omega
 have MO:w.heap.size+1≠w.heap.size+1+1:=by omega
 have YM:w.heap.size+1+1≠w.heap.size:=by omega
 have YN:w.heap.size+1+1≠w.heap.size+1:=by omega
 go_region_held3 (fun w'=>w'.cell? ⟨w.heap.size,0,none⟩=some (.bool n)/\w'.cell? ⟨w.heap.size,1,none⟩=some (.slice a l c)/\w'.cell? ⟨w.heap.size,2,none⟩=some (.int .i64 e)/\w'.cell? ⟨w.heap.size+1,0,none⟩=some (.bool m)/\w'.cell? ⟨w.heap.size+1,1,none⟩=some (.slice b k d)/\w'.cell? ⟨w.heap.size+1,2,none⟩=some (.int .i64 f)) (go_keep) (first
  | (go_at_call 135
     first | with_reducible refine T1.o.mono ?_ | with_reducible refine T2.o.mono ?_
     rintro r u1 ⟨rfl,hb⟩;have hb1:An W1 u1:=by first | exact hb | exact((aB _ W1).drew).trans (hb.mono (aA _))
     have hs2:W1.heap.size<=u1.heap.size:=hb1.size;have BW:An w u1:=SB.o.1.trans (hb1.mono (by omega));have HA1:=hid (HA.o u1 BW);have KR:=SB.o.r3.below hb1;obtain⟨p0,p1,p2,IP,IQ,IU⟩:=KR.facts;obtain⟨q0,q1,q2,zb,ze,zf⟩:=(SB.o.2.1.below hb1).facts;obtain⟨s0,s1,s2,sH,sI,sJ⟩:=(SB.o.r2.1.below hb1).facts;have S1:=(fE BW KR (SB.o.2.1.below hb1) (SB.o.r2.1.below hb1))
     clear hb hb1 KR BW)
  | (go_at_call 134
     with_reducible refine HA1.o.mono ?_
     rintro r u2 ⟨⟨v,rfl,hN⟩,hb⟩;obtain⟨a4,c4,rfl,_⟩:=hN.arg (by omega);have LR:=S1.o.2.1.below hb;obtain⟨t0,t1,t2,Ra,Rb,Rc⟩:=LR.facts;obtain⟨i0,i1,i2,OH,OI,OJ⟩:=(S1.o.r2.1.below hb).facts;obtain⟨j0,j1,j2,YO,YP,YQ⟩:=(S1.o.r3.below hb).facts;have FV:=ak (show Fin w.heap.size (w.heap.size+3) w u2 (.slice a4 (ws V).length c4) V from⟨hN.mono (by omega),S1.o.1.trans (hb.mono (by omega)),by have:=hb.size;omega⟩);have I5:=ak LR
     clear hN hb LR))
 all_goals (
  go_wp2;refine aC (Te _ (w.heap.size+1+1) dn (.slice a4 (ws V).length c4) de er _ rfl rfl (I5.o.set _ _ _)) rfl ?_;refine Fin.jI (m:=w.heap.size+3) ?_ (by omega)
  repeat (with_reducible first | exact FV.o | refine Fin.drew ?_ | refine Fin.alloc ?_ _ | refine Fin.set ?_ _ _ _ (by omega) (by omega)))
theorem Lh {w:World}{a b:Option Addr}{l c k d:Nat}(n m:Bool) (e f:Int) (dn:Bool) (V:Nat) (de er:Int) (lV:(ws V).length<=8192)
 (HT:Hid (∀ u,At 112 #[.agg #[.bool m,.slice b k d,.int .i64 f]] u (.agg #[.bool (!m),.slice b k d,.int .i64 f])))
 (HA:Hid (∀ u,An w u->As 108 #[.agg #[.bool n,.slice a l c,.int .i64 e],.agg #[.bool (!m),.slice b k d,.int .i64 f]] u fun r w'=>(∃ v,r=.returned (.tuple #[.agg #[.bool dn,v,.int .i64 de],.int .i64 er])/\Nt u.heap.size w' v V)/\An u w')) :
 As 71 #[.agg #[.bool n,.slice a l c,.int .i64 e],.agg #[.bool m,.slice b k d,.int .i64 f]] w fun r w'=>(∃ v,r=.returned (.tuple #[.agg #[.bool dn,v,.int .i64 de],.int .i64 er])/\Nt w.heap.size w' v V)/\An w w':=by
 obtain⟨W1,hW1⟩:=af (((w.alloc (.cells #[.bool n,.slice a l c,.int .i64 e] 37)).alloc (.cells #[.bool m,.slice b k d,.int .i64 f] 37)).alloc (.cells #[.bool false,.slice none 0 0,.int .i64 0] 37));obtain⟨hB,hz1,DA,DB,DR⟩:=aS w n m (.slice a l c) (.slice b k d) e f W1 hW1;have T1:=hid (HT.o W1);have T2:=hid (HT.o W1.drew);obtain⟨x0,x1,x2,bE,bF,bG⟩:=DA.facts;obtain⟨y0,y1,y2,bI,bJ,bK⟩:=DB.facts;obtain⟨r0,r1,r2,gK,gL,gM⟩:=DR.facts;have hs1:w.heap.size+3<=W1.heap.size:=by omega
 have SB:=(fE hB DA DB DR);clear hB hz1 DA DB DR;go_enter Tryz.func71,Tryz.ntmps71;go_wp2_with fail;rw[<-hW1];clear hW1;have ne1:w.heap.size≠w.heap.size+1+1:=by omega
 have MO:w.heap.size+1≠w.heap.size+1+1:=by omega
 have YM:w.heap.size+1+1≠w.heap.size:=by omega
 have YN:w.heap.size+1+1≠w.heap.size+1:=by omega
 go_region_held3 (fun w'=>w'.cell? ⟨w.heap.size,0,none⟩=some (.bool n)/\w'.cell? ⟨w.heap.size,1,none⟩=some (.slice a l c)/\w'.cell? ⟨w.heap.size,2,none⟩=some (.int .i64 e)/\w'.cell? ⟨w.heap.size+1,0,none⟩=some (.bool m)/\w'.cell? ⟨w.heap.size+1,1,none⟩=some (.slice b k d)/\w'.cell? ⟨w.heap.size+1,2,none⟩=some (.int .i64 f)) (go_keep) (first
  | (go_at_call 112
     first | with_reducible refine T1.o.mono ?_ | with_reducible refine T2.o.mono ?_
     rintro r u1 ⟨rfl,hb⟩;have hb1:An W1 u1:=by first | exact hb | exact((aB _ W1).drew).trans (hb.mono (aA _))
     have hs2:W1.heap.size<=u1.heap.size:=hb1.size;have BW:An w u1:=SB.o.1.trans (hb1.mono (by omega));have HA1:=hid (HA.o u1 BW);have KR:=SB.o.r3.below hb1;obtain⟨p0,p1,p2,IP,IQ,IU⟩:=KR.facts;obtain⟨q0,q1,q2,zb,ze,zf⟩:=(SB.o.2.1.below hb1).facts;obtain⟨s0,s1,s2,sH,sI,sJ⟩:=(SB.o.r2.1.below hb1).facts;have S1:=(fE BW KR (SB.o.2.1.below hb1) (SB.o.r2.1.below hb1))
     clear hb hb1 KR BW)
  | (go_at_call 108
     with_reducible refine HA1.o.mono ?_
     rintro r u2 ⟨⟨v,rfl,hN⟩,hb⟩;obtain⟨a4,c4,rfl,_⟩:=hN.arg (by omega);have LR:=S1.o.2.1.below hb;obtain⟨t0,t1,t2,Ra,Rb,Rc⟩:=LR.facts;obtain⟨i0,i1,i2,OH,OI,OJ⟩:=(S1.o.r2.1.below hb).facts;obtain⟨j0,j1,j2,YO,YP,YQ⟩:=(S1.o.r3.below hb).facts;have FV:=ak (show Fin w.heap.size (w.heap.size+3) w u2 (.slice a4 (ws V).length c4) V from⟨hN.mono (by omega),S1.o.1.trans (hb.mono (by omega)),by have:=hb.size;omega⟩);have I5:=ak LR
     clear hN hb LR))
 all_goals (
  go_wp2;refine aC (O7 _ (w.heap.size+1+1) dn (.slice a4 (ws V).length c4) de er _ rfl rfl (I5.o.set _ _ _)) rfl ?_;refine Fin.jI (m:=w.heap.size+3) ?_ (by omega)
  repeat (with_reducible first | exact FV.o | refine Fin.drew ?_ | refine Fin.alloc ?_ _ | refine Fin.set ?_ _ _ _ (by omega) (by omega)))
theorem Li(n:Bool)(X:Nat)(e:Int)(m:Bool)(Y:Nat)(f:Int):(ws (dX (jR n X e m Y f))).length<=8192:=by
 unfold jR
 split
 · show(ws 0).length<=8192;rw[aY];exact oh _
 · split
   · exact aI _ _ _
   · split <;> exact aI _ _ _
theorem Dg(n:Bool)(X:Nat)(e:Int)(m:Bool)(Y:Nat)(f:Int):(ws (dX (iB (mkS n X e) (mkS m Y f)))).length<=8192:=by
 have z0:(ws 0).length<=8192:=by rw[aY];exact oh _
 cases hx:mkS n X e with
 | none=>exact z0
 | some x =>
   cases hy:mkS m Y f with
   | none=>exact z0
   | some y =>
     obtain⟨n1,X1,e1⟩:=x;obtain⟨m1,Y1,f1⟩:=y;show(ws (dX (rJ _ _))).length<=8192;unfold rJ
     split
     · exact dF (bZ hy)
     · split
       · exact dF (bZ hx)
       · split <;> exact Li _ _ _ _ _ _
theorem WO(n m:Bool)(e f:Int):mkS n 0 e=mkS m 0 f:=by unfold mkS;rw[if_pos rfl,if_pos rfl]
theorem Tf{n m:Bool}(h:¬ n=m):m=(!n)/\n=(!m)/\¬ m=n:=by
 cases n <;> cases m <;> first | exact absurd rfl h | exact⟨rfl,rfl,fun h=>by cases h⟩
theorem Qau{P:Prop}(h:P:=by
 by_cases hs:n1=m1
 · rw[if_pos hs,if_pos hs]
 · rw[if_neg hs,if_neg hs,<-(Tf hs).1]):P:=h
theorem zk{w:World}{a b:Option Addr}{l c k d:Nat}{xs ys:List Nat}(h1:Arg w a l c xs)(h2:Arg w b k d ys)(hl:l<=2000000)(hk:k<=2000000)(n m:Bool)(e f:Int)(he0:-9223372036854775808<=e)(he1:e<=9223372036854775807)(hf0:-9223372036854775808<=f)(hf1:f<=9223372036854775807) :
 As 108 #[.agg #[.bool n,.slice a l c,.int .i64 e],.agg #[.bool m,.slice b k d,.int .i64 f]] w fun r w'=>bN w.heap.size w' r (iB (mkS n (val xs) e) (mkS m (val ys) f))/\An w w':=by
 have zero:∀ {r:Ending} {w':World},(r=.returned (.tuple #[.agg #[.bool false,.slice none 0 0,.int .i64 0],.int .i64 2])/\An w w')->bN w.heap.size w' r none/\An w w':=fun⟨h1,h2⟩=>⟨⟨_,h1,Nt.nil _ _⟩,h2⟩;have M1:=hid fun u (hu:An w u)=>mK (h1.below hu) hl n e he0 he1;have M2:=hid fun u (hu:An w u)=>mK (h2.below hu) hk m f hf0 hf1;have z0:(ws 0).length<=8192:=by rw[aY];exact oh _
 cases hx:mkS n (val xs) e with
 | none =>
   cases hy:mkS m (val ys) f with
   | none =>
     rw[hx] at M1;rw[hy] at M2;exact(SQ n m e f false false 0 0 0 0 z0 z0 M1 M2).mono fun r w' h=>zero h
   | some y =>
     obtain⟨m1,Y,f1⟩:=y;rw[hx] at M1;rw[hy] at M2;exact(SV n m e f false m1 0 Y 0 f1 z0 (dF (bZ hy)) M1 M2).mono fun r w' h=>zero h
 | some x =>
   obtain⟨n1,X,e1⟩:=x
   cases hy:mkS m (val ys) f with
   | none =>
     rw[hx] at M1;rw[hy] at M2;exact(SX n m e f n1 false X 0 e1 0 (dF (bZ hx)) z0 M1 M2).mono fun r w' h=>zero h
   | some y =>
     obtain⟨m1,Y,f1⟩:=y;rw[hx] at M1;rw[hy] at M2;have FX:=bZ hx;have FY:=bZ hy;have lX:=dF FX;have lY:=dF FY;have:=FX.up;have:=FX.down;have:=FY.up;have:=FY.down;show Calls _ _ _ _ fun r w'=>bN w.heap.size w' r (rJ (n1,X,e1) (m1,Y,f1))/\_;unfold rJ;simp only
     by_cases hX0:X=0
     · rw[if_pos hX0];exact Lg n m e f n1 m1 X Y e1 f1 lX lY ((aW X).2 hX0) M1 M2
     · rw[if_neg hX0]
       by_cases hY0:Y=0
       · rw[if_pos hY0];exact Gm n m e f n1 m1 X Y e1 f1 lX lY (dC hX0) ((aW Y).2 hY0) M1 M2
       · rw[if_neg hY0];obtain⟨g,hg⟩:∃ g,min e1 f1=g:=⟨_,rfl⟩;have hg2:g=f1/\f1<e1\/g=e1/\e1<=f1:=by omega
         have up:∀ (d:Int) (Z:Nat),0<=d->(if d<0 then Z/2^(-d).toNat else Z*2^d.toNat)=Z*2^d.toNat:=fun d Z h=>if_neg (by omega);obtain⟨P,hP⟩:∃ P,X*2^(e1-g).toNat=P:=⟨_,rfl⟩;obtain⟨Q,hQ⟩:∃ Q,Y*2^(f1-g).toNat=Q:=⟨_,rfl⟩
         have HP:Hid (∀ (u:World) (v:Value),An w u->Nt (w.heap.size+3) u v X->As 91 #[v,.int .i64 (e1-g)] u fun r w'=>∃ v,r=.returned v/\Nt u.heap.size w' v P/\An u w'):=fun u v hu hN=>by
          have:=pF hN (e1-g) (by omega) (by omega) hX0 (by omega);rw[up _ _ (by omega),hP] at this;exact this
         have HQ:Hid (∀ (u:World) (v:Value),An w u->Nt (w.heap.size+3) u v Y->As 91 #[v,.int .i64 (f1-g)] u fun r w'=>∃ v,r=.returned v/\Nt u.heap.size w' v Q/\An u w'):=fun u v hu hN=>by
          have:=pF hN (f1-g) (by omega) (by omega) hY0 (by omega);rw[up _ _ (by omega),hQ] at this;exact this
         have bP:bl P=bl X+(e1-g).toNat:=by rw[<-hP];exact C8 _ _ hX0
         have bQ:bl Q=bl Y+(f1-g).toNat:=by rw[<-hQ];exact C8 _ _ hY0
         have s1:=FX.size;have s2:=FY.size;have wP:=il P;have wQ:=il Q
         have kind:(if e1<f1 then jR m1 Y f1 n1 X e1 else jR n1 X e1 m1 Y f1)=(if 8192<(ws P).length\/8192<(ws Q).length then none else if n1=m1 then mkS n1 (P+Q) g else if Q<=P then mkS n1 (P-Q) g else mkS m1 (Q-P) g):=by
          rcases hg2 with ⟨rfl,h⟩|⟨rfl,h⟩
          · rw[if_neg (by omega)];rw[Int.sub_self,show(0:Int).toNat=0 from rfl,fw,eO] at hQ;subst hQ;unfold jR;rw[hP]
            by_cases hL:262144<bl X+(e1-g).toNat
            · rw[if_pos hL,if_pos (.inl (by omega))]
            · rw[if_neg hL,if_neg (show ¬ (8192<(ws P).length\/8192<(ws Y).length) by omega)]
              exact Qau
          · rw[Int.sub_self,show(0:Int).toNat=0 from rfl,fw,eO] at hP;subst hP
            by_cases he:g<f1
            · rw[if_pos he];unfold jR;rw[hQ]
              by_cases hL:262144<bl Y+(f1-g).toNat
              · rw[if_pos hL,if_pos (.inr (by omega))]
              · rw[if_neg hL,if_neg (show ¬ (8192<(ws X).length\/8192<(ws Q).length) by omega)]
                by_cases hs:m1=n1
                · rw[if_pos hs,if_pos hs.symm,hs,qf]
                · rw[if_neg hs,if_neg (Tf hs).2.2,<-(Tf hs).1];rcases nQ X Q with q|q|q
                  · rw[if_pos (show X<=Q by omega),if_neg (show ¬ Q<=X by omega)]
                  · rw[q];simp only[aA,if_true,yE];exact WO _ _ _ _
                  · rw[if_neg (show ¬ X<=Q by omega),if_pos (show Q<=X by omega)]
            · obtain rfl:g=f1:=by omega
              rw[if_neg he];rw[Int.sub_self,show(0:Int).toNat=0 from rfl,fw,eO] at hQ;subst hQ;unfold jR;rw[Int.sub_self,show(0:Int).toNat=0 from rfl,fw,eO,if_neg (show ¬ 262144<bl X+0 by omega),if_neg (show ¬ (8192<(ws X).length\/8192<(ws Y).length) by omega)]
              exact Qau
         rw[kind];clear kind;have YR:∀ u p q s t,Arg u p (ws P).length s (ws P)->Arg u q (ws Q).length t (ws Q)->At 154 #[.slice p (ws P).length s,.slice q (ws Q).length t] u (.int .i64 (bu P Q)):=fun u p q s t hA hB=>jQ hA hB (bu P Q) (by rw[aj,aj])
         by_cases c1:8192<(ws P).length
         · rw[if_pos (.inl c1)];exact(SY n m e f n1 m1 X Y e1 f1 lX lY (dC hX0) (dC hY0) (by omega) (by omega) (by omega) (by omega) g hg (by omega) (by omega) P Q (by omega) (by omega) c1 M1 M2 HP HQ).mono fun r w' h=>zero h
         · by_cases c2:8192<(ws Q).length
           · rw[if_pos (.inr c2)];exact(Ta n m e f n1 m1 X Y e1 f1 lX lY (dC hX0) (dC hY0) (by omega) (by omega) (by omega) (by omega) g hg (by omega) (by omega) P Q (by omega) (by omega) (by omega) c2 M1 M2 HP HQ).mono fun r w' h=>zero h
           · rw[if_neg (by omega)]
             by_cases hs:n1=m1
             · rw[if_pos hs]
               have lL:(ws (P+Q)).length<=8193:=by
                have h1:P<pw 8192:=(aP _ _).1 (by omega);have h2:Q<pw 8192:=(aP _ _).1 (by omega);exact(aP _ _).2 (J6 h1 h2)
               exact O6 n m e f n1 m1 X Y e1 f1 lX lY (dC hX0) (dC hY0) (by omega) (by omega) (by omega) (by omega) g hg (by omega) (by omega) P Q (by omega) (by omega) (by omega) (by omega) (by simp[hs]) (P+Q) (by omega) _ _ _ _ (aI n1 (P+Q) g) M1 M2 HP HQ
                (hid fun u p q s t hu hA hB=>yX hA hB (by omega) (by omega) (by rw[aj,aj]))
                (hid fun u p s hu hA=>by have:=pI hA (by omega) n1 g (by omega) (by omega);rw[aj] at this;exact this)
             · rw[if_neg hs]
               by_cases hq:Q<=P
               · rw[if_pos hq];have lL:(ws (P-Q)).length<=8192:=(aP _ _).2 (fu (yI _ _) ((aP P 8192).1 (by omega)));have hz:0<=bu P Q:=by unfold bu;rw[if_neg (by omega)];split <;> omega
                 exact Tc n m e f n1 m1 X Y e1 f1 lX lY (dC hX0) (dC hY0) (by omega) (by omega) (by omega) (by omega) g hg (by omega) (by omega) P Q (by omega) (by omega) (by omega) (by omega) (by simp[hs]) (bu P Q) hz (P-Q) (by omega) _ _ _ _ (aI n1 (P-Q) g) M1 M2 HP HQ
                  (hid fun u p q s t hu hA hB=>YR u p q s t hA hB)
                  (hid fun u p q s t hu hA hB=>qB hA hB (by omega) (by omega) (by rw[aj,aj];omega))
                  (hid fun u p s hu hA=>by have:=pI hA (by omega) n1 g (by omega) (by omega);rw[aj] at this;exact this)
               · rw[if_neg hq];have lL:(ws (Q-P)).length<=8192:=(aP _ _).2 (fu (yI _ _) ((aP Q 8192).1 (by omega)));have hz:bu P Q<0:=by unfold bu;rw[if_pos (by omega)];omega
                 exact Td n m e f n1 m1 X Y e1 f1 lX lY (dC hX0) (dC hY0) (by omega) (by omega) (by omega) (by omega) g hg (by omega) (by omega) P Q (by omega) (by omega) (by omega) (by omega) (by simp[hs]) (bu P Q) hz (Q-P) (by omega) _ _ _ _ (aI m1 (Q-P) g) M1 M2 HP HQ
                  (hid fun u p q s t hu hA hB=>YR u p q s t hA hB)
                  (hid fun u p q s t hu hA hB=>qB hA hB (by omega) (by omega) (by rw[aj,aj];omega))
                  (hid fun u p s hu hA=>by have:=pI hA (by omega) m1 g (by omega) (by omega);rw[aj] at this;exact this)
theorem O9{w:World}{a b:Option Addr}{l c k d:Nat}{xs ys:List Nat}(h1:Arg w a l c xs)(h2:Arg w b k d ys)(hT:dH w)(n m:Bool)(e f:Int)(he0:-9223372036854775808<=e)(he1:e<=9223372036854775807)(hf0:-9223372036854775808<=f)(hf1:f<=9223372036854775807) :
 As 88 #[.agg #[.bool n,.slice a l c,.int .i64 e],.agg #[.bool m,.slice b k d,.int .i64 f]] w fun r w'=>bN w.heap.size w' r (iB (mkS n (val xs) e) (mkS (!m) (val ys) f))/\An w w' :=
 O8 n m e f _ _ _ _ (Dg n (val xs) e (!m) (val ys) f) (hid fun u=>wL b k d m f u) (hid fun u hu=>C9 (h1.below hu) (h2.below hu) (hT.belows hu) n (!m) e f he0 he1 hf0 hf1)
theorem Lj{w:World}{a b:Option Addr}{l c k d:Nat}{xs ys:List Nat}(h1:Arg w a l c xs)(h2:Arg w b k d ys)(hl:l<=2000000)(hk:k<=2000000)(n m:Bool)(e f:Int)(he0:-9223372036854775808<=e)(he1:e<=9223372036854775807)(hf0:-9223372036854775808<=f)(hf1:f<=9223372036854775807) :
 As 71 #[.agg #[.bool n,.slice a l c,.int .i64 e],.agg #[.bool m,.slice b k d,.int .i64 f]] w fun r w'=>bN w.heap.size w' r (iB (mkS n (val xs) e) (mkS (!m) (val ys) f))/\An w w' :=
 Lh n m e f _ _ _ _ (Dg n (val xs) e (!m) (val ys) f) (hid fun u=>CU b k d m f u) (hid fun u hu=>zk (h1.below hu) (h2.below hu) hl hk n (!m) e f he0 he1 hf0 hf1)
def tL(X:Nat)(e:Int)(Y:Nat)(f:Int):Int:=if e<f then bu X (Y*2^(f-e).toNat) else bu (X*2^(e-f).toNat) Y
theorem wY(x y:Nat):-bu x y=bu y x:=by
 unfold bu;rcases nQ x y with h|h|h
 · rw[if_pos h,if_neg (by omega),if_pos h];rfl
 · subst h;rw[if_neg (by omega),if_neg (by omega)];rfl
 · rw[if_neg (by omega),if_pos h,if_pos h]
theorem Pb(X:Nat)(e:Int)(Y:Nat)(f:Int):-tL X e Y f=tL Y f X e:=by
 unfold tL
 by_cases h:e<f
 · rw[if_pos h,if_neg (by omega),wY]
 · rw[if_neg h]
   by_cases h2:f<e
   · rw[if_pos h2,wY]
   · rw[if_neg h2,wY,show(e-f).toNat=0 by omega,show(f-e).toNat=0 by omega,fw,eO,eO]
theorem Bc{x y:Nat}(h:bl x≠bl y):bu x y=bu (bl x) (bl y):=by
 unfold bu;rcases kV (bl x) (bl y) with k|k
 · have:x<y:=by
    rcases kV x y with q|q
    · exact q
    · have:=nC q;omega
   rw[if_pos k,if_pos this]
 · have:y<x:=by
    rcases kV y x with q|q
    · exact q
    · have:=nC q;omega
   rw[if_neg (by omega:¬ x<y),if_pos this,if_neg (by omega:¬ bl x<bl y),if_pos (by omega:bl y<bl x)]
theorem Gn(x y:Nat):bu x y=-1\/bu x y=0\/bu x y=1:=by
 unfold bu;split
 · exact .inl rfl
 · split
   · exact .inr (.inr rfl)
   · exact .inr (.inl rfl)
theorem Gp(X:Nat)(e:Int)(Y:Nat)(f:Int):tL X e Y f=-1\/tL X e Y f=0\/tL X e Y f=1:=by
 unfold tL;split <;> exact Gn _ _
def rO(n:Bool)(X:Nat):Int:=if X=0 then 0 else if n then -1 else 1
def jq(x y:Int):Int:=if x<y then -1 else if y<x then 1 else 0
theorem Pd(x y:Nat):jq (x:Int) (y:Int)=bu x y:=by
 unfold jq bu;simp only[Int.ofNat_lt]
theorem K0{P:Prop}(h:P:=by
 go_wp2_with fail;refine H1.o.mono ?_;rintro r w1 ⟨rfl,rfl⟩;go_wp2;go_ret;exact⟨rfl,SB.o⟩):P:=h
theorem tN{w:World}{a:Option Addr}{n c:Nat}{xs:List Nat}(h1:Arg w a n c xs)(ng:Bool)(e:Int) :
 At 42 #[.agg #[.bool ng,.slice a n c,.int .i64 e]] w (.int .i64 (rO ng (val xs))):=by
 have hB:An w (w.alloc (.cells #[.bool ng,.slice a n c,.int .i64 e] 37)):=ae w _;have A1:=h1.below hB;have hbig:=h1.big;have H1:=hid (pg xs a n c _ _ A1.len A1.cap (by omega) A1.wf A1.rd);obtain⟨X,hX⟩:∃ X,val xs=X:=⟨_,rfl⟩;rw[hX] at H1 |-;have SB:=ak hB;clear hB A1 h1 hX hbig;unfold rO
 by_cases h0:X=0
 · rw[if_pos h0];have hb:bl X=0:=by rw[h0,dD]
   rw[hb] at H1;clear h0 hb;go_enter Tryz.func42,Tryz.ntmps42;exact K0
 · rw[if_neg h0];obtain⟨b,hb⟩:∃ b,bl X=b:=⟨_,rfl⟩;have hb0:((b:Int)==0)=false:=by have:=dG X h0;simp;omega
   rw[hb] at H1;clear h0 hb
   cases ng
   · simp only[fe,if_false];go_enter Tryz.func42,Tryz.ntmps42;exact K0
   · simp only[if_true];go_enter Tryz.func42,Tryz.ntmps42;exact K0
theorem Ll(e f:Int)(he0:-9223372036854775808<=e)(he1:e<=9223372036854775807)(hf0:-9223372036854775808<=f)(hf1:f<=9223372036854775807)(h:f<=e):IntKind.u64.wrap (IntKind.u64.wrap e-IntKind.u64.wrap f)=(((e-f).toNat:Nat):Int):=by
 rw[kW,kW,kW];omega
theorem Gq{w:World}{a:Option Addr}{n c:Nat}{xs:List Nat}(h1:Arg w a n c xs):bl (val xs)<=1125899906842624:=by
 have:=df xs h1.wf;rw[<-h1.len] at this;have:=Og _ _ this;have:=h1.big;omega
theorem zl{n:Bool}{X:Nat}:rO n X=0↔X=0:=by
 unfold rO
 by_cases h:X=0
 · simp[h]
 · rw[if_neg h];cases n <;> simp[h]
def qm(n:Bool):Int:=if n then -1 else 1
def zv(B:Int)(x:Bool×Nat×Int):Int:=qm x.1*((x.2.1*2^(x.2.2-B).toNat:Nat):Int)
theorem Lm(e l B:Int)(h:B<=e)(hl:0<=l):(2:Nat)^(e+l-B).toNat=2^l.toNat*2^(e-B).toNat:=by
 rw[<-aL];congr 1;omega
theorem mh{n:Bool}{X:Nat}{e:Int}{x:Bool×Nat×Int}(h:mkS n X e=some x)(B:Int)(hB:X=0\/B<=e):zv B x=qm n*((X*2^(e-B).toNat:Nat):Int):=by
 unfold mkS at h
 by_cases h0:X=0
 · rw[if_pos h0] at h
   cases h
   subst h0;simp[zv]
 · rw[if_neg h0] at h
   split at h
   · cases h
   · cases h
     have hB':B<=e:=by rcases hB with h | h;exact absurd h h0;exact h
     obtain⟨m,hm,hd,_⟩:=iH X h0;show qm n*((X/2^lo X*2^(e+(lo X:Int)-B).toNat:Nat):Int)=_;rw[Lm e (lo X) B hB' (by omega),mF,<-aM];have hx:X/2^lo X*2^lo X=X:=by rw[hd];rw[cZ];exact hm.symm
     rw[hx]
theorem Pe{n m:Bool}(h:¬ n=m):qm m=-qm n:=by cases n <;> cases m <;> first | exact absurd rfl h | rfl
theorem Tg(n:Bool):qm (!n)=-qm n:=by cases n <;> rfl
theorem Ti(n m:Bool):qm (n != m)=qm n*qm m:=by cases n <;> cases m <;> rfl
theorem Dh{n m:Bool}{X Y:Nat}{e f:Int}{z:Bool×Nat×Int}(h:jR n X e m Y f=some z)(hfe:f<=e)(B:Int)(hB:B<=f):zv B z=zv B (n,X,e)+zv B (m,Y,f):=by
 unfold jR at h
 split at h
 · cases h
 · have key:X*2^(e-f).toNat*2^(f-B).toNat=X*2^(e-B).toNat:=by
    rw[aM,<-aL,show(e-f).toNat+(f-B).toNat=(e-B).toNat by omega]
   show zv B z=qm n*((X*2^(e-B).toNat:Nat):Int)+qm m*((Y*2^(f-B).toNat:Nat):Int);generalize 2^(e-f).toNat=P at h key
   split at h
   · rename_i hnm;rw[mh h B (.inr hB),hnm,<-Int.mul_add,fF,key,Hz]
   · rename_i hnm
     split at h
     · rename_i hle;rw[mh h B (.inr hB),Pe hnm,Nat.sub_mul,key,Int.ofNat_sub (by rw[<-key];exact fQ _ hle),Int.mul_sub,Int.neg_mul];omega
     · rename_i hle;rw[mh h B (.inr hB),Tg,Pe hnm,Nat.sub_mul,key,Int.ofNat_sub (by rw[<-key];exact fQ _ (by omega)),Int.mul_sub,Int.neg_mul,Int.neg_mul];omega
theorem pJ{x:Bool×Nat×Int}(B:Int)(h:x.2.1=0):zv B x=0:=by unfold zv;rw[h];simp
theorem Tj{x y z:Bool×Nat×Int}(h:rJ x y=some z)(B:Int)(hx:x.2.1=0\/B<=x.2.2)(hy:y.2.1=0\/B<=y.2.2):zv B z=zv B x+zv B y:=by
 obtain⟨n,X,e⟩:=x;obtain⟨m,Y,f⟩:=y;unfold rJ at h;simp only at h hx hy
 by_cases h0:X=0
 · rw[if_pos h0] at h
   cases h
   rw[pJ (x:=(n,X,e)) B h0,Cj]
 · rw[if_neg h0] at h
   by_cases h1:Y=0
   · rw[if_pos h1] at h
     cases h
     rw[pJ (x:=(m,Y,f)) B h1,Int.add_zero]
   · rw[if_neg h1] at h;have hx':B<=e:=by rcases hx with k | k;exact absurd k h0;exact k
     have hy':B<=f:=by rcases hy with k | k;exact absurd k h1;exact k
     by_cases h2:e<f
     · rw[if_pos h2] at h;rw[Dh h (by omega) B hx',Int.add_comm]
     · rw[if_neg h2] at h;exact Dh h (by omega) B hy'
theorem Tm{x y z:Bool×Nat×Int}(h:SA x y=some z)(B C:Int)(hx:x.2.1=0\/B<=x.2.2)(hy:y.2.1=0\/C<=y.2.2):zv (B+C) z=zv B x*zv C y:=by
 obtain⟨n,X,e⟩:=x;obtain⟨m,Y,f⟩:=y;unfold SA at h;simp only at h hx hy
 by_cases h0:X=0
 · subst h0;rw[eG] at h;rw[mh h _ (.inl rfl),pJ (x:=(n,0,e)) B rfl];simp
 · by_cases h1:Y=0
   · subst h1;rw[mE] at h;rw[mh h _ (.inl rfl),pJ (x:=(m,0,f)) C rfl];simp
   · have hx':B<=e:=by rcases hx with k | k;exact absurd k h0;exact k
     have hy':C<=f:=by rcases hy with k | k;exact absurd k h1;exact k
     rw[mh h _ (.inr (by omega)),Ti];unfold zv;simp only;rw[show(e+f-(B+C)).toNat=(e-B).toNat+(f-C).toNat by omega,aL];rw[show X*Y*(2^(e-B).toNat*2^(f-C).toNat)=(X*2^(e-B).toNat)*(Y*2^(f-C).toNat) by rw[om]];rw[fZ,mH,mH];congr 1;rw[<-mH,<-mH];congr 1;exact Int.mul_comm _ _
theorem Tn{X Y:Nat}(a b:Nat)(hX:X%2=1)(hY:Y%2=1)(h:X*2^a=Y*2^b):X=Y/\a=b:=by
 have key:∀ (a b X Y:Nat),X%2=1->Y%2=1->X*2^a=Y*2^b->a<=b:=by
  intro a b X Y hX hY h;rcases kV b a with k|k
  · exfalso;obtain⟨d,rfl⟩:∃ d,a=b+(d+1):=⟨a-b-1,by omega⟩;rw[aL,cZ (2^b),<-aM] at h;have:=qg (bz b) h;rw[iq,<-aM] at this;omega
  · exact k
 have h1:=key a b X Y hX hY h;have h2:=key b a Y X hY hX h.symm;have e:a=b:=by omega
 subst e;exact⟨qg (bz a) h,rfl⟩
theorem Pf{n m:Bool}{X Y:Nat}{e f:Int}(FX:tC n X e)(FY:tC m Y f)(B:Int)(hB:B<=-1048576)(h:zv B (n,X,e)=zv B (m,Y,f)):n=m/\X=Y/\e=f:=by
 have hx:=FX.down;have hy:=FY.down;unfold zv at h;simp only at h;have hpX:0<2^(e-B).toNat:=bz _;have hpY:0<2^(f-B).toNat:=bz _;rcases FX.odd with oX|⟨rfl,rfl,rfl⟩
 · rcases FY.odd with oY | ⟨rfl,rfl,rfl⟩
   · have pX:0<X*2^(e-B).toNat:=iE (by omega) hpX;have pY:0<Y*2^(f-B).toNat:=iE (by omega) hpY
     have hn:n=m:=by
      generalize X*2^(e-B).toNat=P at h pX;generalize Y*2^(f-B).toNat=Q at h pY
      cases n <;> cases m <;> first | rfl | (simp only[qm,fe,if_true,if_false] at h;omega)
     subst hn
     have hPQ:X*2^(e-B).toNat=Y*2^(f-B).toNat:=by
      generalize X*2^(e-B).toNat=P at h;generalize Y*2^(f-B).toNat=Q at h
      cases n <;> (simp only[qm,fe,if_true,if_false] at h;omega)
     obtain⟨h1,h2⟩:=Tn _ _ oX oY hPQ;exact⟨rfl,h1,by omega⟩
   · exfalso;have pX:0<X*2^(e-B).toNat:=iE (by omega) hpX;generalize X*2^(e-B).toNat=P at h pX;rw[eG] at h
     cases n <;> (simp only[qm,fe,if_true,if_false] at h;omega)
 · rcases FY.odd with oY | ⟨rfl,rfl,rfl⟩
   · exfalso;have pY:0<Y*2^(f-B).toNat:=iE (by omega) hpY;generalize Y*2^(f-B).toNat=Q at h pY;rw[eG] at h
     cases m <;> (simp only[qm,fe,if_true,if_false] at h;omega)
   · exact⟨rfl,rfl,rfl⟩
theorem lC{n:Bool}{X:Nat}{e:Int}(F:tC n X e):mkS n X e=some (n,X,e):=by
 unfold mkS;rcases F.odd with h|⟨rfl,rfl,rfl⟩
 · have h1:=F.size;have h2:=F.up;have h3:=F.down;rw[if_neg (by omega),I4 h,if_neg (by omega),fw,um];simp
 · rw[if_pos rfl]
theorem zm{n m:Bool}{X Y:Nat}{e f:Int}{n':Bool}{Z:Nat}{g:Int}(h:jR n X e m Y f=some (n',Z,g)):tC n' Z g:=by
 unfold jR at h
 split at h
 · cases h
 · split at h
   · exact bZ h
   · split at h
     · exact bZ h
     · exact bZ h
theorem Di{n m:Bool}{X Y:Nat}{e f:Int}(FX:tC n X e)(FY:tC m Y f){n':Bool}{Z:Nat}{g:Int}(h:rJ (n,X,e) (m,Y,f)=some (n',Z,g)):tC n' Z g:=by
 unfold rJ at h;simp only at h
 split at h
 · cases h;exact FY
 · split at h
   · cases h;exact FX
   · split at h
     · exact zm h
     · exact zm h
theorem j8{P:Prop}(h:P:=by
 cases o with
 | none=>cases h
 | some x =>
   cases p with
   | none=>cases h
   | some y =>
     obtain⟨z,hz⟩:=zU.1 h;exact⟨x,y,z,rfl,rfl,hz,hz⟩):P:=h
theorem Lp{o p:Option (Bool×Nat×Int)}(h:(iB o p).isSome=true):∃ x y z,o=some x/\p=some y/\rJ x y=some z/\iB o p=some z:=by
 exact j8
theorem Lr{o p:Option (Bool×Nat×Int)}(h:(dY o p).isSome=true):∃ x y z,o=some x/\p=some y/\SA x y=some z/\dY o p=some z:=by
 exact j8
structure Fv (B:Int) (o:Option (Bool×Nat×Int)) (z:Int):Prop where
 ex:∃ n X e,o=some (n,X,e)/\tC n X e/\zv B (n,X,e)=z
theorem tC.base{n:Bool}{X:Nat}{e:Int}(F:tC n X e){B:Int}(hB:B<=-1048576):X=0\/B<=e:=.inr (by have:=F.down;omega)
theorem Fv.add{B:Int}(hB:B<=-1048576){o p:Option (Bool×Nat×Int)}{x y:Int}(h1:Fv B o x)(h2:Fv B p y)(h:(iB o p).isSome=true):Fv B (iB o p) (x+y):=by
 obtain⟨n,X,e,rfl,F,rfl⟩:=h1.ex;obtain⟨m,Y,f,rfl,G,rfl⟩:=h2.ex;obtain⟨_,_,z,e1,e2,hz,hd⟩:=Lp h
 cases e1;cases e2
 obtain⟨n',Z,g⟩:=z;exact⟨n',Z,g,hd,Di F G hz,Tj hz B (F.base hB) (G.base hB)⟩
theorem Fv.mul{B C:Int}(hB:B<=-1048576)(hC:C<=-1048576){o p:Option (Bool×Nat×Int)}{x y:Int}(h1:Fv B o x)(h2:Fv C p y)(h:(dY o p).isSome=true):Fv (B+C) (dY o p) (x*y):=by
 obtain⟨n,X,e,rfl,F,rfl⟩:=h1.ex;obtain⟨m,Y,f,rfl,G,rfl⟩:=h2.ex;obtain⟨_,_,z,e1,e2,hz,hd⟩:=Lr h
 cases e1;cases e2
 obtain⟨n',Z,g⟩:=z;exact⟨n',Z,g,hd,bZ hz,Tm hz B C (F.base hB) (G.base hC)⟩
theorem Fv.same{B:Int}(hB:B<=-1048576){o p:Option (Bool×Nat×Int)}{x y:Int}(h1:Fv B o x)(h2:Fv B p y)(h:x=y):dN o=dN p/\dX o=dX p/\dE o=dE p:=by
 obtain⟨n,X,e,rfl,F,rfl⟩:=h1.ex;obtain⟨m,Y,f,rfl,G,rfl⟩:=h2.ex;exact Pf F G B hB h
theorem wZ(x y k:Nat)(hk:0<k):bu (x*k) (y*k)=bu x y:=by
 unfold bu;simp only[nS hk]
theorem Ls(X:Nat)(e:Int)(Y:Nat)(f B:Int)(h1:B<=e)(h2:B<=f):tL X e Y f=bu (X*2^(e-B).toNat) (Y*2^(f-B).toNat):=by
 unfold tL
 by_cases h:e<f
 · rw[if_pos h,<-wZ _ _ (2^(e-B).toNat) (bz _),aM,<-aL,show(f-e).toNat+(e-B).toNat=(f-B).toNat by omega]
 · rw[if_neg h,<-wZ _ _ (2^(f-B).toNat) (bz _),aM,<-aL,show(e-f).toNat+(f-B).toNat=(e-B).toNat by omega]
theorem I6(X k:Nat):X*2^k=0↔X=0:=by
 constructor
 · intro h;rcases Nat.mul_eq_zero.1 h with h|h
   · exact h
   · have:=bz k;omega
 · rintro rfl;exact eG _
theorem Lu(dg:Nat)(least top:Int)(X:Nat)(e:Int)(ho:X%2=1)(Bs:Int)(h1:Bs<=e)(h2:Bs<=least)(hin:¬ top<e+(bl X:Int)) :
 Bs<=(iY dg least top X e).2.1 /\
 (((iY dg least top X e).2.2.1=true/\X*2^(e-Bs).toNat=(iY dg least top X e).1*2^((iY dg least top X e).2.1-Bs).toNat) \/
  ((iY dg least top X e).2.2.1=false/\(iY dg least top X e).1*2^((iY dg least top X e).2.1-Bs).toNat<X*2^(e-Bs).toNat/\X*2^(e-Bs).toNat<((iY dg least top X e).1+1)*2^((iY dg least top X e).2.1-Bs).toNat /\
   ((iY dg least top X e).2.2.2=-1/\2*(X*2^(e-Bs).toNat)<(2*(iY dg least top X e).1+1)*2^((iY dg least top X e).2.1-Bs).toNat \/
    (iY dg least top X e).2.2.2=0/\2*(X*2^(e-Bs).toNat)=(2*(iY dg least top X e).1+1)*2^((iY dg least top X e).2.1-Bs).toNat \/
    (iY dg least top X e).2.2.2=1/\(2*(iY dg least top X e).1+1)*2^((iY dg least top X e).2.1-Bs).toNat<2*(X*2^(e-Bs).toNat)))):=by
 unfold iY;rw[if_neg hin];simp only;obtain⟨ex,hex⟩:∃ ex,max (e+(bl X:Int)-(dg:Int)) least=ex:=⟨_,rfl⟩;rw[hex];have hle:least<=ex:=by omega
 by_cases hoff:ex-e<=0
 · rw[if_pos hoff];simp only;refine⟨by omega,.inl ⟨trivial,?_⟩⟩;rw[aM,<-aL,show(-(ex-e)).toNat+(ex-Bs).toNat=(e-Bs).toNat by omega]
 · rw[if_neg hoff];simp only;obtain⟨k,hk⟩:∃ k:Nat,(ex-e).toNat=k:=⟨_,rfl⟩;have hk0:0<k:=by omega
   have hexB:(ex-Bs).toNat=k+(e-Bs).toNat:=by omega
   have hk1:(ex-e-1).toNat=k-1:=by omega
   rw[hk,hexB,hk1,aL];obtain⟨Q,hQ⟩:∃ Q,2^(e-Bs).toNat=Q:=⟨_,rfl⟩;have hQ0:0<Q:=by rw[<-hQ];exact bz _
   rw[hQ];have Vg:=qd X (2^k);have hmod:=mD X (bz k);obtain⟨F,hF⟩:∃ F,X/2^k=F:=⟨_,rfl⟩;obtain⟨R,hR⟩:∃ R,X%2^k=R:=⟨_,rfl⟩;have Pg:2^k=2*2^(k-1):=by rw[show k=k-1+1 by omega,iq,cZ];rfl
   have hbit:X/2^(k-1)%2=R/2^(k-1):=by
    rw[<-hR,Pg];rw[cZ 2,Nat.mod_mul_right_div_self]
   obtain⟨Hf,hHf⟩:∃ Hf,2^(k-1)=Hf:=⟨_,rfl⟩;have hHf0:0<Hf:=by rw[<-hHf];exact bz _
   rw[hHf] at Pg hbit |-;rw[hbit];rw[Pg] at Vg hmod hF hR |-;rw[hF,hR] at Vg;rw[hR] at hmod;rw[hF]
   have hR0:R≠0:=by
    intro h;rw[h,gW,aM] at Vg;omega
   have e1:F*(2*Hf*Q)=(F*(2*Hf))*Q:=(aM _ _ _).symm;have e2:(F+1)*(2*Hf*Q)=((F+1)*(2*Hf))*Q:=(aM _ _ _).symm
   have e3:(2*F+1)*(2*Hf*Q)=(2*(F*(2*Hf))+2*Hf)*Q:=by
    rw[fF,fF,iK,aM 2 F,<-aM F,aM 2 (F*(2*Hf)) Q]
   have e4:2*(X*Q)=(2*X)*Q:=by rw[aM]
   have e5:2*Hf*F=F*(2*Hf):=cZ _ _;rw[e5] at Vg;have e6:(F+1)*(2*Hf)=F*(2*Hf)+2*Hf:=by rw[fF,iK]
   rw[e1,e2,e3,e4,e6];generalize F*(2*Hf)=G at Vg |-;refine⟨by omega,.inr ⟨trivial,fA (by omega) hQ0,fA (by omega) hQ0,?_⟩⟩
   by_cases hone:ex-e=1
   · rw[if_pos hone];have hk1':k=1:=by omega
     have hHf1:Hf=1:=by rw[<-hHf,hk1']
     refine .inr (.inl ⟨rfl,?_⟩);congr 1;omega
   · rw[if_neg hone]
     have hHf2:Hf%2=0:=by
      rw[<-hHf,show k-1=k-2+1 by omega,iq];omega
     have YS:R%2=1:=by
      have:G%2=0\/True:=.inr trivial;rw[<-hR];rw[Nat.mod_mul_right_mod];exact ho
     by_cases hge:Hf<=R
     · have hd1:R/Hf=1:=by
        rw[Nat.div_eq_iff hHf0];omega
       rw[hd1,if_pos rfl];refine .inr (.inr ⟨rfl,fA ?_ hQ0⟩);have:R≠Hf:=by intro h;rw[h] at YS;omega
       omega
     · have hd0:R/Hf=0:=gY (by omega);rw[hd0,if_neg (by omega)];exact .inl ⟨rfl,fA (by omega) hQ0⟩
def MR(X:Nat)(e:Int):Nat:=((iY 53 (-1074) 1024 X e).2.1+1074).toNat*4503599627370496+(iY 53 (-1074) 1024 X e).1
abbrev vK(K:Nat):Nat:=B.val Ieee.double K
theorem Vi{K L:Nat}:vK K<vK L↔K<L:=B.iG Ieee.double
theorem jr(j F:Nat)(h:j=0\/4503599627370496<=F)(hF:F<=9007199254740992):vK (j*4503599627370496+F)=F*2^j:=by
 have:=B.AJ Ieee.double j F (by rw[B.FH];exact h) (by rw[B.FH];omega);rw[B.FH] at this;exact this
structure YT (K:Nat) (at':Bool) (mid:Int) (V S:Nat):Prop where
 fin:K<9218868437227405312
 pos:0<S
 one:at'=true->V=vK K*S
 low:at'=false->vK K*S<V
 Tp:at'=false->V<vK (K+1)*S->(mid=-1/\2*V<vK K*S+vK (K+1)*S\/mid=0/\2*V=vK K*S+vK (K+1)*S\/mid=1/\vK K*S+vK (K+1)*S<2*V)
 high:at'=false->V<vK (K+1)*S\/(K=9218868437227405311/\mid=1)
theorem Qai{P:Prop}(h:P:=by
 have hb:=ib X hX0;have hbp:=dG X hX0;refine cB ?_ (fQ _ hb);rw[<-aL,<-aL];exact fq (by omega) (by omega)):P:=h
theorem lies(X:Nat)(e:Int)(hX:X%2=1)(he0:-1048576<=e)(he1:e<=1048576)(Bs:Int)(h1:Bs<=e)(h2:Bs<=-1074) :
 YT (MR X e) (iY 53 (-1074) 1024 X e).2.2.1 (iY 53 (-1074) 1024 X e).2.2.2 (X*2^(e-Bs).toNat) (2^(-1074-Bs).toNat):=by
 have hX0:X≠0:=by omega
 obtain⟨f1,f2,f3,f4⟩:=tJ X e hX0 he0 he1;obtain⟨j,hj⟩:∃ j:Nat,((iY 53 (-1074) 1024 X e).2.1+1074).toNat=j:=⟨_,rfl⟩;have hS:0<2^(-1074-Bs).toNat:=bz _
 have hw:∀ F,F<=9007199254740992->(j=0\/4503599627370496<=F)->vK (j*4503599627370496+F)*2^(-1074-Bs).toNat=F*2^((iY 53 (-1074) 1024 X e).2.1-Bs).toNat:=by
  intro F hF hn;rw[jr j F hn hF,aM,<-aL];congr 2;omega
 have hn1:j=0\/4503599627370496<=(iY 53 (-1074) 1024 X e).1:=by
  rcases f4 with h|h
  · left;omega
  · exact .inr h
 have w1:=hw (iY 53 (-1074) 1024 X e).1 (by omega) hn1;have w2:=hw ((iY 53 (-1074) 1024 X e).1+1) (by omega) (by rcases hn1 with h | h;exact .inl h;exact .inr (by omega));have WQ:MR X e=j*4503599627370496+(iY 53 (-1074) 1024 X e).1:=by unfold MR;rw[hj]
 have YU:MR X e+1=j*4503599627370496+((iY 53 (-1074) 1024 X e).1+1):=by rw[WQ];omega
 have hfin:MR X e<9218868437227405312:=by rw[WQ];omega
 rw[<-WQ] at w1;rw[<-YU] at w2
 by_cases hin:1024<e+(bl X:Int)
 · have hp:iY 53 (-1074) 1024 X e=((2^53-1:Nat),((1024:Int)-((53:Nat):Int)),false,(1:Int)):=by unfold iY;rw[if_pos hin]
   have hK:MR X e=9218868437227405311:=by unfold MR;rw[hp];rfl
   refine⟨hfin,hS,fun h=>(by rw[hp] at h;cases h),fun _=>?_,fun _ hlt=>?_,fun _=>.inr ⟨hK,(by rw[hp])⟩⟩
   · rw[w1];have hlow:(2^53-1)*2^(971-Bs).toNat<2^53*2^(971-Bs).toNat:=fA (by decide) (bz _)
     have hup:2^53*2^(971-Bs).toNat<=X*2^(e-Bs).toNat:=by
      exact Qai
     rw[hp];exact iJ hlow hup
   · exfalso;rw[w2,hp] at hlt
     have hup:2^53*2^(971-Bs).toNat<=X*2^(e-Bs).toNat:=by
      exact Qai
     exact absurd hlt (Nat.not_lt.2 hup)
 · obtain⟨_,hfl⟩:=Lu 53 (-1074) 1024 X e hX Bs h1 h2 hin
   have hmid:vK (MR X e)*2^(-1074-Bs).toNat+vK (MR X e+1)*2^(-1074-Bs).toNat=(2*(iY 53 (-1074) 1024 X e).1+1)*2^((iY 53 (-1074) 1024 X e).2.1-Bs).toNat:=by
    rw[w1,w2,<-fF];congr 1;omega
   rcases hfl with ⟨ht,hv⟩|⟨hf,hlo,hhi,hm⟩
   · exact⟨hfin,hS,fun _=>(by rw[w1];exact hv),fun h=>(by rw[ht] at h;cases h),fun h=>(by rw[ht] at h;cases h),fun h=>(by rw[ht] at h;cases h)⟩
   · refine⟨hfin,hS,fun h=>(by rw[hf] at h;cases h),fun _=>(by rw[w1];exact hlo),fun _ _=>(by rw[hmid];exact hm),fun _=>.inl (by rw[w2];exact hhi)⟩
def rK(mode:Int)(n:Bool)(K:Nat)(t:Bool)(m:Int):Nat:=if t then K else if ko mode K m n then K+1 else K
theorem Ph(mode:Int)(j F:Nat)(m:Int)(n:Bool):ko mode (j*4503599627370496+F) m n=ko mode F m n:=by
 unfold ko;rw[show(j*4503599627370496+F)%2=F%2 by omega]
theorem Tq(mode:Int)(n:Bool)(X:Nat)(e:Int):O4 mode n X e=rK mode n (MR X e) (iY 53 (-1074) 1024 X e).2.2.1 (iY 53 (-1074) 1024 X e).2.2.2:=by
 unfold O4 rK MR;simp only;rw[Ph]
 split
 · rfl
 · split <;> omega
def Lv(s:Bool)(K:Nat):Nat:=K+(if s then 9223372036854775808 else 0)
def sK(s:Bool)(K:Nat):Int:=if s then -(K:Int) else K
theorem I7(s:Bool)(K:Nat)(h:K<=9218868437227405312):Lv s K=B.bw s (K/4503599627370496) (K%4503599627370496)/\K/4503599627370496<2048/\K%4503599627370496<4503599627370496/\B.odd (K/4503599627370496) (K%4503599627370496)=false/\B.pl s (K/4503599627370496) (K%4503599627370496)=sK s K:=by
 refine⟨?_,by omega,by omega,?_,?_⟩
 · unfold Lv B.bw
   cases s
   · simp;omega
   · simp;omega
 · unfold B.odd;simp;omega
 · unfold B.pl B.sg sK;rw[show K/4503599627370496*4503599627370496+K%4503599627370496=K by omega]
def rS(n:Bool)(X:Nat):Bool:=if X=0 then false else n
def rW(mode:Int)(n:Bool)(X:Nat)(e:Int):Nat:=if X=0 then 0 else O4 mode n X e
theorem Lx(mode:Int)(n:Bool)(X:Nat)(e:Int)(h0:0<=mode)(h4:mode<=4):fC (some (n,X,e)) mode=(Lv (rS n X) (rW mode n X e),0):=by
 unfold fC;rw[if_neg (by omega)];simp only;unfold rS rW Lv
 by_cases h:X=0
 · rw[if_pos h,if_pos h,if_pos h];rfl
 · rw[if_neg h,if_neg h,if_neg h]
theorem Tt{n:Bool}{X:Nat}{e:Int}(F:tC n X e)(h:X≠0):X%2=1:=by rcases F.odd with k | k;exact k;exact absurd k.1 h
attribute [local go_sem] B.bB B.aF oK
def gI(x:Nat):Nat:=x%9223372036854775808
def nE(x:Nat):Bool:=decide (9223372036854775808<=x)
def mP(x:Nat):Nat:=if 9223372036854775808<=x then x-9223372036854775808 else x+9223372036854775808
theorem I8(x y:Nat)(w:World):Ax 23 #[.float .f64 x,.float .f64 y] w (.bool (x==y)):=by
 have e2:((x:Int)==(y:Int))=(x==y):=by rw[zS,beq_iff_eq,beq_iff_eq];omega
 go_enter Tryz.func23,Tryz.ntmps23;go_wp2;exact aC (v:=.bool (x==y)) (by simp[results,Tryz.results23,go_sem,e2]) rfl ⟨rfl,rfl⟩
end
section
open Go.RowKit
def WR(s:Bool)(K:Nat):Option (Bool×Nat×Int):=Q9 s (K/4503599627370496) (K%4503599627370496)
theorem Tu(s:Bool)(K:Nat)(hK:K<9218868437227405312):∃ n X e,WR s K=some (n,X,e)/\tC n X e/\(X≠0->n=s)/\(X=0↔K=0)/\∀ Bs:Int,Bs<=-1074->zv Bs (n,X,e)=qm s*((vK K*2^(-1074-Bs).toNat:Nat):Int):=by
 obtain⟨x,hx⟩:∃ x,K/4503599627370496=x:=⟨_,rfl⟩;obtain⟨f,hf⟩:∃ f,K%4503599627370496=f:=⟨_,rfl⟩;have hxl:x<2047:=by omega
 have hfl:f<4503599627370496:=by omega
 obtain⟨M,hM⟩:∃ M,(if x=0 then f else f+4503599627370496)=M:=⟨_,rfl⟩;obtain⟨E,hE⟩:∃ E:Int,(if x=0 then(-1074:Int) else(x:Int)-1075)=E:=⟨_,rfl⟩
 have hME:(x=0/\M=f/\E=-1074)\/(x≠0/\M=f+4503599627370496/\E=(x:Int)-1075):=by
  by_cases h:x=0
  · rw[if_pos h] at hM hE;exact .inl ⟨h,hM.symm,hE.symm⟩
  · rw[if_neg h] at hM hE;exact .inr ⟨h,hM.symm,hE.symm⟩
 have gJ:M<9007199254740992:=by omega
 have hO:WR s K=mkS s M E:=by unfold WR Q9;rw[hx,hf,if_neg (by omega),hM,hE]
 have hsome:(mkS s M E).isSome=true:=by
  unfold mkS
  split
  · rfl
  · rename_i h0;have hb:=rH M gJ;obtain⟨_,_,_,hbb⟩:=iH M h0;rw[if_neg (by omega)];rfl
 obtain⟨⟨n,X,e⟩,hz⟩:=zU.1 hsome;have hKw:K=(E+1074).toNat*4503599627370496+M:=by rcases hME with h | h <;> omega
 have hv:vK K=M*2^(E+1074).toNat:=by
  rw[hKw];exact jr _ _ (by rcases hME with h | h;left;omega;right;omega) (by omega)
 have hM0:M=0↔K=0:=by rcases hME with h | h <;> omega
 refine⟨n,X,e,by rw[hO,hz],bZ hz,?_,?_,?_⟩
 · intro hX;unfold mkS at hz
   split at hz
   · cases hz;exact absurd rfl hX
   · split at hz
     · cases hz
     · cases hz;rfl
 · rw[<-hM0];constructor
   · intro hX;unfold mkS at hz
     split at hz
     · assumption
     · rename_i h0
       split at hz
       · cases hz
       · obtain⟨m,_,hd,_⟩:=iH M h0
         cases hz
         omega
   · intro h0;unfold mkS at hz;rw[if_pos h0] at hz
     cases hz;rfl
 · intro Bs hBs;rw[mh hz Bs (.inr (by omega)),hv,aM,<-aL,show(E+1074).toNat+(-1074-Bs).toNat=(E-Bs).toNat by omega]
end
section
open Go.RowKit J
theorem Vj(x:Nat)(h:x<18446744073709551616):x=Lv (nE x) (gI x):=by
 unfold Lv nE gI
 by_cases hx:9223372036854775808<=x
 · rw[decide_eq_true hx,if_pos rfl];omega
 · rw[decide_eq_false hx,if_neg (by simp)];omega
theorem exU(a:Nat):∃ u:Nat,u=2^a:=⟨_,rfl⟩
def EU:Nat:=1074
def ES:Nat:=2095004
noncomputable def UU:Nat:=Classical.choose (exU EU)
noncomputable def SS:Nat:=Classical.choose (exU ES)
theorem U_eq:UU=2^EU:=zV (exU EU)
theorem S_eq:SS=2^ES:=zV (exU ES)
theorem EUS:EU+ES=2096078:=by unfold EU ES;rfl
theorem US(a:Nat)(h:a=2096078):2^a=UU*SS:=by
 rw[U_eq,S_eq,<-aL,EUS,h]
structure Fo (o:Option (Bool×Nat×Int)) (z:Int) (L H:Int):Prop where
 ex:∃ n X e,o=some (n,X,e)/\tC n X e/\zv (-2097152) (n,X,e)=z*(SS:Int)/\(X=0\/L<=e/\e+(bl X:Int)<=H)
theorem WS(n:Bool)(Z:Nat)(f L H:Int)(hZ:Z≠0)(h1:L<=f)(h2:f+(bl Z:Int)<=H)(hL:-1000000<=L)(hH:H<=1000000)(hd:H-L<=262144) :
 ∃ X e,mkS n Z f=some (n,X,e)/\X≠0/\L<=e/\e+(bl X:Int)<=H:=by
 obtain⟨m,e0,e1,e2⟩:=iH Z hZ;unfold mkS;rw[if_neg hZ,if_neg (by omega)];exact⟨_,_,rfl,by omega,by omega,by omega⟩
theorem blLe{X m:Nat}(h:X<2^m):bl X<=m:=by
 apply zJ;intro hh;have:=(uD X m).1 hh;omega
end
section
open Go.RowKit
def Zk(w:World)(g:Nat)(dg ls En:Int):Prop:=w.heap[g]?=some (.cells #[.int .i64 dg,.int .i64 ls,.int .u64 En] 118 (0,0))
theorem Zk.lt{w:World}{g:Nat}{dg ls En:Int}(h:Zk w g dg ls En):g<w.heap.size:=(fV.1 h).1
theorem Zk.below{w w':World}{g:Nat}{dg ls En:Int}(h:Zk w g dg ls En)(hb:An w w'):Zk w' g dg ls En:=by
 unfold Zk;exact Qac
theorem Zk.facts{w:World}{g:Nat}{dg ls En:Int}(h:Zk w g dg ls En):w.cell? ⟨g,0,none⟩=some (.int .i64 dg)/\w.cell? ⟨g,1,none⟩=some (.int .i64 ls)/\w.cell? ⟨g,2,none⟩=some (.int .u64 En):=by
 unfold Zk at h;simp[World.cell?,h]
end
end Go.Proofs.YteginbngplldaaaGreatDoor
