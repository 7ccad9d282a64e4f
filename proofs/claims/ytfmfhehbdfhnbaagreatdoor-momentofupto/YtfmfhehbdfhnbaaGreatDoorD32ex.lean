import Derived.Test.YtfmfhehbdfhnbaaGreatDoorD31x
import Derived.Deep.Cut
import Derived.Deep.RegionHeld3
import Derived.Test.YtfmfhehbdfhnbaaGreatDoorD21x
import Derived.Deep.RegionWith
import Derived.Deep.CutRange
import Derived.Test.YtfmfhehbdfhnbaaGreatDoorW17x
import Derived.Test.YtfmfhehbdfhnbaaGreatDoorD16x
import Derived.BigQuiet
import Ieee.Arith
import Derived.Test.YtfmfhehbdfhnbaaGreatDoorD2x
import Derived.Laws.Bits64
import Derived.Laws.Bits64b
import Derived.Test.YtfmfhehbdfhnbaaGreatDoorD8x
import Derived.Test.YtfmfhehbdfhnbaaGreatDoorW40x
set_option linter.unusedVariables false
set_option linter.unusedSimpArgs false
set_option maxHeartbeats 16000000
set_option maxRecDepth 20000
namespace Go.Proofs.YtfmfhehbdfhnbaaGreatDoor
namespace J
end J
section
open Go.RowKit
theorem Rf {w:World}{a b:Option Addr}{l c k d:Nat}(n m:Bool) (e f:Int) (n1 m1:Bool) (X Y:Nat) (e1 f1:Int) (lX:(ws X).length<=8192) (lY:(ws Y).length<=8192) (hX:((((ws X).length:Nat):Int)==0)=false) (hY:((((ws Y).length:Nat):Int)==0)=false) (Jt:-1048576<=e1) (Ju:e1<=1048576) (Jv:-1048576<=f1) (Jw:f1<=1048576) (g:Int) (hg:min e1 f1=g) (YX:-1048576<=g) (YY:g<=1048576) (P Q:Nat) (lP:(ws P).length<=1000000) (lQ:(ws Q).length<=1000000) (h5:(ws P).length<=8192) (h6:(ws Q).length<=8192) (hs:(n1==m1)=false) (z:Int) (hz:z<0) (L:Nat) (lL:(ws L).length<=1000000) (dn:Bool) (V:Nat) (de er:Int) (lV:(ws V).length<=8192)
 (jy:Hid (∀ u,Below w.heap.size w u->Calls Tryz.prog 61 #[.agg #[.bool n,.slice a l c,.int .i64 e]] u fun r w'=>(∃ v,r=.returned (.tuple #[.agg #[.bool n1,v,.int .i64 e1],.bool true])/\Nt u.heap.size w' v X)/\Below u.heap.size u w'))
 (jW:Hid (∀ u,Below w.heap.size w u->Calls Tryz.prog 61 #[.agg #[.bool m,.slice b k d,.int .i64 f]] u fun r w'=>(∃ v,r=.returned (.tuple #[.agg #[.bool m1,v,.int .i64 f1],.bool true])/\Nt u.heap.size w' v Y)/\Below u.heap.size u w'))
 (HP:Hid (∀ (u:World) (v:Value),Below w.heap.size w u->Nt (w.heap.size+3) u v X->Calls Tryz.prog 97 #[v,.int .i64 (e1-g)] u fun r w'=>∃ v,r=.returned v/\Nt u.heap.size w' v P/\Below u.heap.size u w'))
 (HQ:Hid (∀ (u:World) (v:Value),Below w.heap.size w u->Nt (w.heap.size+3) u v Y->Calls Tryz.prog 97 #[v,.int .i64 (f1-g)] u fun r w'=>∃ v,r=.returned v/\Nt u.heap.size w' v Q/\Below u.heap.size u w'))
 (HC:Hid (∀ (u:World) (p q:Option Addr) (s t:Nat),Below w.heap.size w u->Arg u p (ws P).length s (ws P)->Arg u q (ws Q).length t (ws Q)->Calls Tryz.prog 107 #[.slice p (ws P).length s,.slice q (ws Q).length t] u fun r w'=>r=.returned (.int .i64 z)/\Below u.heap.size u w'))
 (HT:Hid (∀ (u:World) (p q:Option Addr) (s t:Nat),Below w.heap.size w u->Arg u p (ws Q).length s (ws Q)->Arg u q (ws P).length t (ws P)->Calls Tryz.prog 108 #[.slice p (ws Q).length s,.slice q (ws P).length t] u fun r w'=>∃ v,r=.returned v/\Nt u.heap.size w' v L/\Below u.heap.size u w'))
 (HL:Hid (∀ (u:World) (p:Option Addr) (s:Nat),Below w.heap.size w u->Arg u p (ws L).length s (ws L)->Calls Tryz.prog 62 #[.bool m1,.slice p (ws L).length s,.int .i64 g] u fun r w'=>(∃ v,r=.returned (.tuple #[.agg #[.bool dn,v,.int .i64 de],.int .i64 er])/\Nt u.heap.size w' v V)/\Below u.heap.size u w')):Calls Tryz.prog 64 #[.agg #[.bool n,.slice a l c,.int .i64 e],.agg #[.bool m,.slice b k d,.int .i64 f]] w fun r w'=>(∃ v,r=.returned (.tuple #[.agg #[.bool dn,v,.int .i64 de],.int .i64 er])/\Nt w.heap.size w' v V)/\Below w.heap.size w w':=by
 obtain ⟨W1,hW1⟩:=ah (((w.alloc (.cells #[.bool n,.slice a l c,.int .i64 e] 25)).alloc (.cells #[.bool m,.slice b k d,.int .i64 f] 25)).alloc (.cells #[.bool false,.slice none 0 0,.int .i64 0] 25));obtain ⟨hB,hz1,DA,DB,DR⟩:=aV w n m (.slice a l c) (.slice b k d) e f W1 hW1;have H1:=hid (jy.o W1 hB);have SB:=(eu hB hz1 DA DB DR);clear hB hz1 DA DB DR jy;go_enter Tryz.func64,Tryz.ntmps64;go_wp2_with fail;rw [<-hW1];clear hW1;refine H1.o.mono ?_;rintro r u1 ⟨⟨v,rfl,hN⟩,hb⟩;obtain ⟨a1,c1,rfl,_⟩:=hN.arg af;obtain ⟨hB,hz1,DA,DB,DR⟩:=SB.o;obtain ⟨U1,aS⟩:=ah (u1.alloc (.cells #[.bool n1,.slice a1 (ws X).length c1,.int .i64 e1] 25));have hA:Below u1.heap.size u1 U1:=by rw [aS];exact ae _ _
 have hs1:w.heap.size+3<=u1.heap.size:=by have:=hb.size;omega
 have hs2:u1.heap.size<U1.heap.size:=by rw [aS];simp
 have FB:=(DB.below hb).below hA;have FR:=(DR.below hb).below hA;have DX:Dk U1 u1.heap.size n1 (.slice a1 (ws X).length c1) e1:=by rw [aS];exact Dk.new _ _ _ _
 have NX:Nt (w.heap.size+3) U1 (.slice a1 (ws X).length c1) X:=(hN.mono af).below hA;have BU:Below w.heap.size w U1:=(hB.trans (hb.mono af)).trans (hA.mono af);have H2:=hid (jW.o U1 BU);obtain ⟨y0,y1,y2,bN,bO,bU⟩:=FB.facts;have S1:=(gK BU FR DX NX);clear hN hb H1 hB hz1 hA DA DB DR FB FR DX NX BU SB jW
 go_upto_region 2 with fail
 rw [<-aS];clear aS;go_wp2_with fail;clear y0 y1 y2 bN bO bU;refine H2.o.mono ?_;rintro r u2 ⟨⟨v,rfl,hM⟩,hb⟩;obtain ⟨a2,c2,rfl,_⟩:=hM.arg af;obtain ⟨BU,FR,DX,NX⟩:=S1.o;obtain ⟨U2,dO⟩:=ah (u2.alloc (.cells #[.bool m1,.slice a2 (ws Y).length c2,.int .i64 f1] 25));have hA:Below u2.heap.size u2 U2:=by rw [dO];exact ae _ _
 have hs3:U1.heap.size<=u2.heap.size:=hb.size;have hs4:u2.heap.size<U2.heap.size:=by rw [dO];simp
 have GR:=(FR.below hb).below hA;have GX:=(DX.below hb).below hA;have GY:Dk U2 u2.heap.size m1 (.slice a2 (ws Y).length c2) f1:=by rw [dO];exact Dk.new _ _ _ _
 have MX:=(NX.below hb).below hA;have MY:Nt (w.heap.size+3) U2 (.slice a2 (ws Y).length c2) Y:=(hM.mono af).below hA;have BV:Below w.heap.size w U2:=(BU.trans (hb.mono af)).trans (hA.mono af);have S2:=(iI BV GR GX GY MX MY);clear hM hb H2 hA FR DX NX BU GR GX GY MX MY BV S1
 go_upto_region 5 with fail
 rw [<-dO];clear dO;obtain ⟨r0,r1,r2,gG,gH,gI⟩:=S2.o.2.1.facts;obtain ⟨x0,x1,x2,bE,bF,bG⟩:=S2.o.r2.1.facts;obtain ⟨y0,y1,y2,bN,bO,bU⟩:=S2.o.r3.1.facts;have H3:=hid (HP.o U2 _ S2.o.1 S2.o.r4.1);clear HP;go_wp2_with fail;clear r0 r1 r2 gG gH gI x0 x1 x2 bE bF bG y0 y1 y2 bN bO bU;refine H3.o.mono ?_;rintro r u5 ⟨v,rfl,hP,hb⟩;obtain ⟨a5,c5,rfl,_⟩:=hP.arg af;obtain ⟨BV,GR,GX,GY,MX,MY⟩:=S2.o;have hs5:U2.heap.size<=u5.heap.size:=hb.size;have Aa:Below w.heap.size w u5:=BV.trans (hb.mono af);have H4:=hid (HQ.o u5 _ Aa (MY.below hb));have S5:=(iI Aa (GR.below hb) (GX.below hb) (GY.below hb) (MX.below hb) (hP.mono (lo':=w.heap.size+3) af));clear BV GR GX GY MX MY Aa hP hb H3 S2 HQ;obtain ⟨r0,r1,r2,gG,gH,gI⟩:=S5.o.2.1.facts;obtain ⟨x0,x1,x2,bE,bF,bG⟩:=S5.o.r2.1.facts;obtain ⟨y0,y1,y2,bN,bO,bU⟩:=S5.o.r3.1.facts;go_wp2_with fail;clear r0 r1 r2 gG gH gI x0 x1 x2 bE bF bG y0 y1 y2 bN bO bU;refine H4.o.mono ?_;rintro r u6 ⟨v,rfl,hQ,hb⟩;obtain ⟨a6,c6,rfl,_⟩:=hQ.arg af;obtain ⟨BV,GR,GX,GY,MX,MP⟩:=S5.o;have hs6:u5.heap.size<=u6.heap.size:=hb.size;have S2:=(iI (BV.trans (hb.mono af)) (GR.below hb) (GX.below hb) (GY.below hb) (MP.below hb) (hQ.mono (lo':=w.heap.size+3) af));clear BV GR GX GY MX MP hQ hb H4 S5;obtain ⟨r0,r1,r2,gG,gH,gI⟩:=S2.o.2.1.facts;obtain ⟨x0,x1,x2,bE,bF,bG⟩:=S2.o.r2.1.facts;obtain ⟨y0,y1,y2,bN,bO,bU⟩:=S2.o.r3.1.facts;have H7:=hid (HC.o u6 a5 a6 c5 c6 S2.o.1 (S2.o.r4.1.aU af).2 (S2.o.r5.aU af).2);clear HC;go_wp2_with fail;clear r0 r1 r2 gG gH gI x0 x1 x2 bE bF bG y0 y1 y2 bN bO bU;refine H7.o.mono ?_;rintro r u7 ⟨rfl,hb⟩;obtain ⟨BV,GR,GX,GY,MP,MQ⟩:=S2.o;have hs7:u6.heap.size<=u7.heap.size:=hb.size;have S2':=(iI (BV.trans (hb.mono af)) (GR.below hb) (GX.below hb) (GY.below hb) (MP.below hb) (MQ.below hb));clear S2;have S2:=S2';clear BV GR GX GY MP MQ hb H7 S2';obtain ⟨r0,r1,r2,gG,gH,gI⟩:=S2.o.2.1.facts;obtain ⟨x0,x1,x2,bE,bF,bG⟩:=S2.o.r2.1.facts;obtain ⟨y0,y1,y2,bN,bO,bU⟩:=S2.o.r3.1.facts;go_wp2_with fail;have ne1:u1.heap.size≠w.heap.size+1+1:=af
 have La:u2.heap.size≠w.heap.size+1+1:=af
 have Xz:w.heap.size+1+1≠u1.heap.size:=af
 have XA:w.heap.size+1+1≠u2.heap.size:=af
 have T1:=hid (HT.o u7 a6 a5 c6 c5 S2.o.1 (S2.o.r5.aU af).2 (S2.o.r4.1.aU af).2);have T2:=hid (HT.o u7.drew a6 a5 c6 c5 (pR S2.o.1) (Arg.drew' (S2.o.r5.aU af).2) (Arg.drew' (S2.o.r4.1.aU af).2))
 go_region_held3 (fun w'=>w'.cell? ⟨u1.heap.size,0,none⟩=some (.bool n1)/\w'.cell? ⟨u1.heap.size,1,none⟩=some (.slice a1 (ws X).length c1)/\w'.cell? ⟨u1.heap.size,2,none⟩=some (.int .i64 e1)/\w'.cell? ⟨u2.heap.size,0,none⟩=some (.bool m1)/\w'.cell? ⟨u2.heap.size,1,none⟩=some (.slice a2 (ws Y).length c2)/\w'.cell? ⟨u2.heap.size,2,none⟩=some (.int .i64 f1)) (go_keep) (first
  | (go_at_call 108
     first | with_reducible refine T1.o.mono ?_ | with_reducible refine T2.o.mono ?_
     rintro r u3 ⟨v,rfl,hN,hb⟩;obtain ⟨a3,c3,rfl,_⟩:=hN.arg af;have hb3:Below u7.heap.size u7 u3:=by first | exact hb | exact ((aD _ u7).drew).trans (hb.mono (aC _))
     have Vq:=hid (HL.o u3 a3 c3 (S2.o.1.trans (hb3.mono af)) (hN.aU af).2);have KR:=S2.o.2.1.below hb3;have KX:=S2.o.r2.1.below hb3;have KY:=S2.o.r3.1.below hb3;obtain ⟨p0,p1,p2,GN,GQ,GU⟩:=KR.facts;obtain ⟨q0,q1,q2,yI,yJ,yK⟩:=KX.facts;obtain ⟨s0,s1,s2,rX,rY,rZ⟩:=KY.facts;have Z7:u7.heap.size<=u3.heap.size:=hb3.size;have S9:=(gK (S2.o.1.trans (hb3.mono af)) KR KX KY)
     clear hN hb hb3 KR KX KY)
  | (go_at_call 62
     with_reducible refine Vq.o.mono ?_
     rintro r u4 ⟨⟨v,rfl,hN⟩,hb⟩;obtain ⟨a4,c4,rfl,_⟩:=hN.arg af;have LR:=S9.o.2.1.below hb;obtain ⟨t0,t1,t2,PV,PW,PX⟩:=LR.facts;obtain ⟨i0,i1,i2,M9,Na,Nb⟩:=(S9.o.r2.1.below hb).facts;obtain ⟨j0,j1,j2,XB,XC,XD⟩:=(S9.o.r3.below hb).facts;have FV:=ak (show Fin w.heap.size (w.heap.size+3) w u4 (.slice a4 (ws V).length c4) V from ⟨hN.mono af,S9.o.1.trans (hb.mono af),by have:=hb.size;omega⟩);have G9:=ak LR
     clear hN hb LR))
 all_goals (
  go_wp2;refine aF (iG _ (w.heap.size+1+1) dn (.slice a4 (ws V).length c4) de er _ rfl rfl (G9.o.set _ _ _)) rfl ?_;refine Fin.jT (m:=w.heap.size+3) ?_ af
  repeat (with_reducible first | exact FV.o | refine Fin.drew ?_ | refine Fin.alloc ?_ _ | refine Fin.set ?_ _ _ _ af af))
theorem Own.cZ {w:World}{g:Nat}{L:List Nat}(h:Own w g L) (k:Nat) (hk:k≠g) (x y z:Value):Own (((w.setCell ⟨k,0,none⟩ x).setCell ⟨k,1,none⟩ y).setCell ⟨k,2,none⟩ z) g L :=
 ((h.setOther hk _).setOther hk _).setOther hk _
theorem Rh (W:World) (g:Nat) (n:Bool) (v:Value) (e k:Int) (tmps:Array Value) (ht:tmps[4]?.getD undef=.pointer (some ⟨g,0,none⟩)) (hk:tmps[5]?.getD undef=.int .i64 k) (D:Dk W g n v e) :
 (results Tryz.f57 tmps).run Tryz.prog W=.ok (.tuple #[.agg #[.bool n,v,.int .i64 e],.int .i64 k]) W:=by
 obtain ⟨x0,x1,x2,bE,bF,bG⟩:=D.facts;simp [results,Tryz.results57,ht,hk,go_sem,x0,x1,x2]
theorem NA (W:World) (g:Nat) (n:Bool) (v:Value) (e k:Int) (tmps:Array Value) (ht:tmps[4]?.getD undef=.pointer (some ⟨g,0,none⟩)) (hk:tmps[5]?.getD undef=.int .i64 k) (D:Dk W g n v e) :
 (results Tryz.f32 tmps).run Tryz.prog W=.ok (.tuple #[.agg #[.bool n,v,.int .i64 e],.int .i64 k]) W:=by
 obtain ⟨x0,x1,x2,bE,bF,bG⟩:=D.facts;simp [results,Tryz.results32,ht,hk,go_sem,x0,x1,x2]
theorem NC {w:World}{a b:Option Addr}{l c k d:Nat}(n m:Bool) (e f:Int) (dn:Bool) (V:Nat) (de er:Int) (lV:(ws V).length<=8192)
 (HT:Hid (∀ u,Calls Tryz.prog 101 #[.agg #[.bool m,.slice b k d,.int .i64 f]] u fun r w'=>r=.returned (.agg #[.bool (!m),.slice b k d,.int .i64 f])/\Below u.heap.size u w'))
 (HA:Hid (∀ u,Below w.heap.size w u->Calls Tryz.prog 100 #[.agg #[.bool n,.slice a l c,.int .i64 e],.agg #[.bool (!m),.slice b k d,.int .i64 f]] u fun r w'=>(∃ v,r=.returned (.tuple #[.agg #[.bool dn,v,.int .i64 de],.int .i64 er])/\Nt u.heap.size w' v V)/\Below u.heap.size u w')) :
 Calls Tryz.prog 57 #[.agg #[.bool n,.slice a l c,.int .i64 e],.agg #[.bool m,.slice b k d,.int .i64 f]] w fun r w'=>(∃ v,r=.returned (.tuple #[.agg #[.bool dn,v,.int .i64 de],.int .i64 er])/\Nt w.heap.size w' v V)/\Below w.heap.size w w':=by
 obtain ⟨W1,hW1⟩:=ah (((w.alloc (.cells #[.bool n,.slice a l c,.int .i64 e] 25)).alloc (.cells #[.bool m,.slice b k d,.int .i64 f] 25)).alloc (.cells #[.bool false,.slice none 0 0,.int .i64 0] 25));obtain ⟨hB,hz1,DA,DB,DR⟩:=aV w n m (.slice a l c) (.slice b k d) e f W1 hW1;have T1:=hid (HT.o W1);have T2:=hid (HT.o W1.drew);obtain ⟨x0,x1,x2,bE,bF,bG⟩:=DA.facts;obtain ⟨y0,y1,y2,bN,bO,bU⟩:=DB.facts;obtain ⟨r0,r1,r2,gG,gH,gI⟩:=DR.facts;have hs1:w.heap.size+3<=W1.heap.size:=af
 have SB:=(gK hB DA DB DR);clear hB hz1 DA DB DR;go_enter Tryz.func57,Tryz.ntmps57;go_wp2_with fail;rw [<-hW1];clear hW1;have ne1:w.heap.size≠w.heap.size+1+1:=af
 have La:w.heap.size+1≠w.heap.size+1+1:=af
 have Xz:w.heap.size+1+1≠w.heap.size:=af
 have XA:w.heap.size+1+1≠w.heap.size+1:=af
 go_region_held3 (fun w'=>w'.cell? ⟨w.heap.size,0,none⟩=some (.bool n)/\w'.cell? ⟨w.heap.size,1,none⟩=some (.slice a l c)/\w'.cell? ⟨w.heap.size,2,none⟩=some (.int .i64 e)/\w'.cell? ⟨w.heap.size+1,0,none⟩=some (.bool m)/\w'.cell? ⟨w.heap.size+1,1,none⟩=some (.slice b k d)/\w'.cell? ⟨w.heap.size+1,2,none⟩=some (.int .i64 f)) (go_keep) (first
  | (go_at_call 101
     first | with_reducible refine T1.o.mono ?_ | with_reducible refine T2.o.mono ?_
     rintro r u1 ⟨rfl,hb⟩;have hb1:Below W1.heap.size W1 u1:=by first | exact hb | exact ((aD _ W1).drew).trans (hb.mono (aC _))
     have hs2:W1.heap.size<=u1.heap.size:=hb1.size;have BW:Below w.heap.size w u1:=SB.o.1.trans (hb1.mono af);have HA1:=hid (HA.o u1 BW);have KR:=SB.o.r3.below hb1;obtain ⟨p0,p1,p2,GN,GQ,GU⟩:=KR.facts;obtain ⟨q0,q1,q2,yI,yJ,yK⟩:=(SB.o.2.1.below hb1).facts;obtain ⟨s0,s1,s2,rX,rY,rZ⟩:=(SB.o.r2.1.below hb1).facts;have S1:=(gK BW KR (SB.o.2.1.below hb1) (SB.o.r2.1.below hb1))
     clear hb hb1 KR BW)
  | (go_at_call 100
     with_reducible refine HA1.o.mono ?_
     rintro r u2 ⟨⟨v,rfl,hN⟩,hb⟩;obtain ⟨a4,c4,rfl,_⟩:=hN.arg af;have LR:=S1.o.2.1.below hb;obtain ⟨t0,t1,t2,PV,PW,PX⟩:=LR.facts;obtain ⟨i0,i1,i2,M9,Na,Nb⟩:=(S1.o.r2.1.below hb).facts;obtain ⟨j0,j1,j2,XB,XC,XD⟩:=(S1.o.r3.below hb).facts;have FV:=ak (show Fin w.heap.size (w.heap.size+3) w u2 (.slice a4 (ws V).length c4) V from ⟨hN.mono af,S1.o.1.trans (hb.mono af),by have:=hb.size;omega⟩);have G9:=ak LR
     clear hN hb LR))
 all_goals (
  go_wp2;refine aF (Rh _ (w.heap.size+1+1) dn (.slice a4 (ws V).length c4) de er _ rfl rfl (G9.o.set _ _ _)) rfl ?_;refine Fin.jT (m:=w.heap.size+3) ?_ af
  repeat (with_reducible first | exact FV.o | refine Fin.drew ?_ | refine Fin.alloc ?_ _ | refine Fin.set ?_ _ _ _ af af))
theorem JX {w:World}{a b:Option Addr}{l c k d:Nat}(n m:Bool) (e f:Int) (dn:Bool) (V:Nat) (de er:Int) (lV:(ws V).length<=8192)
 (HT:Hid (∀ u,Calls Tryz.prog 65 #[.agg #[.bool m,.slice b k d,.int .i64 f]] u fun r w'=>r=.returned (.agg #[.bool (!m),.slice b k d,.int .i64 f])/\Below u.heap.size u w'))
 (HA:Hid (∀ u,Below w.heap.size w u->Calls Tryz.prog 64 #[.agg #[.bool n,.slice a l c,.int .i64 e],.agg #[.bool (!m),.slice b k d,.int .i64 f]] u fun r w'=>(∃ v,r=.returned (.tuple #[.agg #[.bool dn,v,.int .i64 de],.int .i64 er])/\Nt u.heap.size w' v V)/\Below u.heap.size u w')) :
 Calls Tryz.prog 32 #[.agg #[.bool n,.slice a l c,.int .i64 e],.agg #[.bool m,.slice b k d,.int .i64 f]] w fun r w'=>(∃ v,r=.returned (.tuple #[.agg #[.bool dn,v,.int .i64 de],.int .i64 er])/\Nt w.heap.size w' v V)/\Below w.heap.size w w':=by
 obtain ⟨W1,hW1⟩:=ah (((w.alloc (.cells #[.bool n,.slice a l c,.int .i64 e] 25)).alloc (.cells #[.bool m,.slice b k d,.int .i64 f] 25)).alloc (.cells #[.bool false,.slice none 0 0,.int .i64 0] 25));obtain ⟨hB,hz1,DA,DB,DR⟩:=aV w n m (.slice a l c) (.slice b k d) e f W1 hW1;have T1:=hid (HT.o W1);have T2:=hid (HT.o W1.drew);obtain ⟨x0,x1,x2,bE,bF,bG⟩:=DA.facts;obtain ⟨y0,y1,y2,bN,bO,bU⟩:=DB.facts;obtain ⟨r0,r1,r2,gG,gH,gI⟩:=DR.facts;have hs1:w.heap.size+3<=W1.heap.size:=af
 have SB:=(gK hB DA DB DR);clear hB hz1 DA DB DR;go_enter Tryz.func32,Tryz.ntmps32;go_wp2_with fail;rw [<-hW1];clear hW1;have ne1:w.heap.size≠w.heap.size+1+1:=af
 have La:w.heap.size+1≠w.heap.size+1+1:=af
 have Xz:w.heap.size+1+1≠w.heap.size:=af
 have XA:w.heap.size+1+1≠w.heap.size+1:=af
 go_region_held3 (fun w'=>w'.cell? ⟨w.heap.size,0,none⟩=some (.bool n)/\w'.cell? ⟨w.heap.size,1,none⟩=some (.slice a l c)/\w'.cell? ⟨w.heap.size,2,none⟩=some (.int .i64 e)/\w'.cell? ⟨w.heap.size+1,0,none⟩=some (.bool m)/\w'.cell? ⟨w.heap.size+1,1,none⟩=some (.slice b k d)/\w'.cell? ⟨w.heap.size+1,2,none⟩=some (.int .i64 f)) (go_keep) (first
  | (go_at_call 65
     first | with_reducible refine T1.o.mono ?_ | with_reducible refine T2.o.mono ?_
     rintro r u1 ⟨rfl,hb⟩;have hb1:Below W1.heap.size W1 u1:=by first | exact hb | exact ((aD _ W1).drew).trans (hb.mono (aC _))
     have hs2:W1.heap.size<=u1.heap.size:=hb1.size;have BW:Below w.heap.size w u1:=SB.o.1.trans (hb1.mono af);have HA1:=hid (HA.o u1 BW);have KR:=SB.o.r3.below hb1;obtain ⟨p0,p1,p2,GN,GQ,GU⟩:=KR.facts;obtain ⟨q0,q1,q2,yI,yJ,yK⟩:=(SB.o.2.1.below hb1).facts;obtain ⟨s0,s1,s2,rX,rY,rZ⟩:=(SB.o.r2.1.below hb1).facts;have S1:=(gK BW KR (SB.o.2.1.below hb1) (SB.o.r2.1.below hb1))
     clear hb hb1 KR BW)
  | (go_at_call 64
     with_reducible refine HA1.o.mono ?_
     rintro r u2 ⟨⟨v,rfl,hN⟩,hb⟩;obtain ⟨a4,c4,rfl,_⟩:=hN.arg af;have LR:=S1.o.2.1.below hb;obtain ⟨t0,t1,t2,PV,PW,PX⟩:=LR.facts;obtain ⟨i0,i1,i2,M9,Na,Nb⟩:=(S1.o.r2.1.below hb).facts;obtain ⟨j0,j1,j2,XB,XC,XD⟩:=(S1.o.r3.below hb).facts;have FV:=ak (show Fin w.heap.size (w.heap.size+3) w u2 (.slice a4 (ws V).length c4) V from ⟨hN.mono af,S1.o.1.trans (hb.mono af),by have:=hb.size;omega⟩);have G9:=ak LR
     clear hN hb LR))
 all_goals (
  go_wp2;refine aF (NA _ (w.heap.size+1+1) dn (.slice a4 (ws V).length c4) de er _ rfl rfl (G9.o.set _ _ _)) rfl ?_;refine Fin.jT (m:=w.heap.size+3) ?_ af
  repeat (with_reducible first | exact FV.o | refine Fin.drew ?_ | refine Fin.alloc ?_ _ | refine Fin.set ?_ _ _ _ af af))
theorem JY (n:Bool) (X:Nat) (e:Int) (m:Bool) (Y:Nat) (f:Int):(ws (dX (jM n X e m Y f))).length<=8192:=by
 unfold jM
 split
 · show (ws 0).length<=8192;rw [bI];exact pQ _
 · split
   · exact aM _ _ _
   · split <;> exact aM _ _ _
theorem Co (n:Bool) (X:Nat) (e:Int) (m:Bool) (Y:Nat) (f:Int):(ws (dX (iF (mkS n X e) (mkS m Y f)))).length<=8192:=by
 have z0:(ws 0).length<=8192:=by rw [bI];exact pQ _
 cases hx:mkS n X e with
 | none=>exact z0
 | some x =>
   cases hy:mkS m Y f with
   | none=>exact z0
   | some y =>
     obtain ⟨n1,X1,e1⟩:=x;obtain ⟨m1,Y1,f1⟩:=y;show (ws (dX (qY _ _))).length<=8192;unfold qY
     split
     · exact dH (bM hy)
     · split
       · exact dH (bM hx)
       · split <;> exact JY _ _ _ _ _ _
theorem Vr (n m:Bool) (e f:Int):mkS n 0 e=mkS m 0 f:=by unfold mkS;rw [if_pos rfl,if_pos rfl]
theorem Rj {n m:Bool}(h:¬ n=m):m=(!n)/\n=(!m)/\¬ m=n:=by
 cases n <;> cases m <;> first | exact absurd rfl h | exact ⟨rfl,rfl,fun h=>by cases h⟩
theorem JZ {w:World}{a b:Option Addr}{l c k d:Nat}{xs ys:List Nat}(h1:Arg w a l c xs) (h2:Arg w b k d ys) (hl:l<=2000000) (hk:k<=2000000) (n m:Bool) (e f:Int) (he0:-9223372036854775808<=e) (he1:e<=9223372036854775807) (hf0:-9223372036854775808<=f) (hf1:f<=9223372036854775807) :
 Calls Tryz.prog 64 #[.agg #[.bool n,.slice a l c,.int .i64 e],.agg #[.bool m,.slice b k d,.int .i64 f]] w fun r w'=>cK w.heap.size w' r (iF (mkS n (val xs) e) (mkS m (val ys) f))/\Below w.heap.size w w':=by
 have zero:∀ {r:Ending} {w':World},(r=.returned (.tuple #[.agg #[.bool false,.slice none 0 0,.int .i64 0],.int .i64 2])/\Below w.heap.size w w')->cK w.heap.size w' r none/\Below w.heap.size w w':=fun ⟨h1,h2⟩=>⟨⟨_,h1,Nt.nil _ _⟩,h2⟩;have M1:=hid fun u (hu:Below w.heap.size w u)=>mr (h1.below hu) hl n e he0 he1;have M2:=hid fun u (hu:Below w.heap.size w u)=>mr (h2.below hu) hk m f hf0 hf1;have z0:(ws 0).length<=8192:=by rw [bI];exact pQ _
 cases hx:mkS n (val xs) e with
 | none =>
   cases hy:mkS m (val ys) f with
   | none =>
     rw [hx] at M1;rw [hy] at M2;exact (Q8 n m e f false false 0 0 0 0 z0 z0 M1 M2).mono fun r w' h=>zero h
   | some y =>
     obtain ⟨m1,Y,f1⟩:=y;rw [hx] at M1;rw [hy] at M2;exact (Q9 n m e f false m1 0 Y 0 f1 z0 (dH (bM hy)) M1 M2).mono fun r w' h=>zero h
 | some x =>
   obtain ⟨n1,X,e1⟩:=x
   cases hy:mkS m (val ys) f with
   | none =>
     rw [hx] at M1;rw [hy] at M2;exact (Ra n m e f n1 false X 0 e1 0 (dH (bM hx)) z0 M1 M2).mono fun r w' h=>zero h
   | some y =>
     obtain ⟨m1,Y,f1⟩:=y;rw [hx] at M1;rw [hy] at M2;have FX:=bM hx;have FY:=bM hy;have lX:=dH FX;have lY:=dH FY;have:=FX.up;have:=FX.down;have:=FY.up;have:=FY.down;show Calls _ _ _ _ fun r w'=>cK w.heap.size w' r (qY (n1,X,e1) (m1,Y,f1))/\_;unfold qY;simp only
     by_cases hX0:X=0
     · rw [if_pos hX0];exact JW n m e f n1 m1 X Y e1 f1 lX lY ((bz X).2 hX0) M1 M2
     · rw [if_neg hX0]
       by_cases hY0:Y=0
       · rw [if_pos hY0];exact EL n m e f n1 m1 X Y e1 f1 lX lY (dD hX0) ((bz Y).2 hY0) M1 M2
       · rw [if_neg hY0];obtain ⟨g,hg⟩:∃ g,min e1 f1=g:=⟨_,rfl⟩;have hg2:g=f1/\f1<e1\/g=e1/\e1<=f1:=af
         have up:∀ (d:Int) (Z:Nat),0<=d->(if d<0 then Z/2^(-d).toNat else Z*2^d.toNat)=Z*2^d.toNat:=fun d Z h=>if_neg af;obtain ⟨P,hP⟩:∃ P,X*2^(e1-g).toNat=P:=⟨_,rfl⟩;obtain ⟨Q,hQ⟩:∃ Q,Y*2^(f1-g).toNat=Q:=⟨_,rfl⟩
         have HP:Hid (∀ (u:World) (v:Value),Below w.heap.size w u->Nt (w.heap.size+3) u v X->Calls Tryz.prog 97 #[v,.int .i64 (e1-g)] u fun r w'=>∃ v,r=.returned v/\Nt u.heap.size w' v P/\Below u.heap.size u w'):=fun u v hu hN=>by
          have:=oK hN (e1-g) af af hX0 af;rw [up _ _ af,hP] at this;exact this
         have HQ:Hid (∀ (u:World) (v:Value),Below w.heap.size w u->Nt (w.heap.size+3) u v Y->Calls Tryz.prog 97 #[v,.int .i64 (f1-g)] u fun r w'=>∃ v,r=.returned v/\Nt u.heap.size w' v Q/\Below u.heap.size u w'):=fun u v hu hN=>by
          have:=oK hN (f1-g) af af hY0 af;rw [up _ _ af,hQ] at this;exact this
         have bP:bl P=bl X+(e1-g).toNat:=by rw [<-hP];exact Cg _ _ hX0
         have bQ:bl Q=bl Y+(f1-g).toNat:=by rw [<-hQ];exact Cg _ _ hY0
         have s1:=FX.size;have s2:=FY.size;have wP:=iB P;have wQ:=iB Q
         have kind:(if e1<f1 then jM m1 Y f1 n1 X e1 else jM n1 X e1 m1 Y f1)=(if 8192<(ws P).length\/8192<(ws Q).length then none else if n1=m1 then mkS n1 (P+Q) g else if Q<=P then mkS n1 (P-Q) g else mkS m1 (Q-P) g):=by
          rcases hg2 with ⟨rfl,h⟩|⟨rfl,h⟩
          · rw [if_neg af];rw [Int.sub_self,show (0:Int).toNat=0 from rfl,fC,fo] at hQ;subst hQ;unfold jM;rw [hP]
            by_cases hL:262144<bl X+(e1-g).toNat
            · rw [if_pos hL,if_pos (.inl af)]
            · rw [if_neg hL,if_neg (show ¬ (8192<(ws P).length\/8192<(ws Y).length) by omega)]
              by_cases hs:n1=m1
              · rw [if_pos hs,if_pos hs]
              · rw [if_neg hs,if_neg hs,<-(Rj hs).1]
          · rw [Int.sub_self,show (0:Int).toNat=0 from rfl,fC,fo] at hP;subst hP
            by_cases he:g<f1
            · rw [if_pos he];unfold jM;rw [hQ]
              by_cases hL:262144<bl Y+(f1-g).toNat
              · rw [if_pos hL,if_pos (.inr af)]
              · rw [if_neg hL,if_neg (show ¬ (8192<(ws X).length\/8192<(ws Q).length) by omega)]
                by_cases hs:m1=n1
                · rw [if_pos hs,if_pos hs.symm,hs,pM]
                · rw [if_neg hs,if_neg (Rj hs).2.2,<-(Rj hs).1];rcases nI X Q with q|q|q
                  · rw [if_pos (show X<=Q by omega),if_neg (show ¬ Q<=X by omega)]
                  · rw [q];simp only [aC,if_true,xZ];exact Vr _ _ _ _
                  · rw [if_neg (show ¬ X<=Q by omega),if_pos (show Q<=X by omega)]
            · obtain rfl:g=f1:=af
              rw [if_neg he];rw [Int.sub_self,show (0:Int).toNat=0 from rfl,fC,fo] at hQ;subst hQ;unfold jM;rw [Int.sub_self,show (0:Int).toNat=0 from rfl,fC,fo,if_neg (show ¬ 262144<bl X+0 by omega),if_neg (show ¬ (8192<(ws X).length\/8192<(ws Y).length) by omega)]
              by_cases hs:n1=m1
              · rw [if_pos hs,if_pos hs]
              · rw [if_neg hs,if_neg hs,<-(Rj hs).1]
         rw [kind];clear kind;have XE:∀ u p q s t,Arg u p (ws P).length s (ws P)->Arg u q (ws Q).length t (ws Q)->Calls Tryz.prog 107 #[.slice p (ws P).length s,.slice q (ws Q).length t] u fun r w'=>r=.returned (.int .i64 (aY P Q))/\Below u.heap.size u w':=fun u p q s t hA hB=>jK hA hB (aY P Q) (by rw [aj,aj])
         by_cases c1:8192<(ws P).length
         · rw [if_pos (.inl c1)];exact (Rb n m e f n1 m1 X Y e1 f1 lX lY (dD hX0) (dD hY0) af af af af g hg af af P Q af af c1 M1 M2 HP HQ).mono fun r w' h=>zero h
         · by_cases c2:8192<(ws Q).length
           · rw [if_pos (.inr c2)];exact (Rc n m e f n1 m1 X Y e1 f1 lX lY (dD hX0) (dD hY0) af af af af g hg af af P Q af af af c2 M1 M2 HP HQ).mono fun r w' h=>zero h
           · rw [if_neg af]
             by_cases hs:n1=m1
             · rw [if_pos hs]
               have lL:(ws (P+Q)).length<=8193:=by
                have h1:P<pw 8192:=(aP _ _).1 af;have h2:Q<pw 8192:=(aP _ _).1 af;exact (aP _ _).2 (IW h1 h2)
               exact Nz n m e f n1 m1 X Y e1 f1 lX lY (dD hX0) (dD hY0) af af af af g hg af af P Q af af af af (by simp [hs]) (P+Q) af _ _ _ _ (aM n1 (P+Q) g) M1 M2 HP HQ
                (hid fun u p q s t hu hA hB=>yD hA hB af af (by rw [aj,aj]))
                (hid fun u p s hu hA=>by have:=oM hA af n1 g af af;rw [aj] at this;exact this)
             · rw [if_neg hs]
               by_cases hq:Q<=P
               · rw [if_pos hq];have lL:(ws (P-Q)).length<=8192:=(aP _ _).2 (gN (yc _ _) ((aP P 8192).1 af));have hz:0<=aY P Q:=by unfold aY;rw [if_neg af];split <;> omega
                 exact Re n m e f n1 m1 X Y e1 f1 lX lY (dD hX0) (dD hY0) af af af af g hg af af P Q af af af af (by simp [hs]) (aY P Q) hz (P-Q) af _ _ _ _ (aM n1 (P-Q) g) M1 M2 HP HQ
                  (hid fun u p q s t hu hA hB=>XE u p q s t hA hB)
                  (hid fun u p q s t hu hA hB=>qg hA hB af af (by rw [aj,aj];omega))
                  (hid fun u p s hu hA=>by have:=oM hA af n1 g af af;rw [aj] at this;exact this)
               · rw [if_neg hq];have lL:(ws (Q-P)).length<=8192:=(aP _ _).2 (gN (yc _ _) ((aP Q 8192).1 af));have hz:aY P Q<0:=by unfold aY;rw [if_pos af];omega
                 exact Rf n m e f n1 m1 X Y e1 f1 lX lY (dD hX0) (dD hY0) af af af af g hg af af P Q af af af af (by simp [hs]) (aY P Q) hz (Q-P) af _ _ _ _ (aM m1 (Q-P) g) M1 M2 HP HQ
                  (hid fun u p q s t hu hA hB=>XE u p q s t hA hB)
                  (hid fun u p q s t hu hA hB=>qg hA hB af af (by rw [aj,aj];omega))
                  (hid fun u p s hu hA=>by have:=oM hA af m1 g af af;rw [aj] at this;exact this)
theorem ND {w:World}{a b:Option Addr}{l c k d:Nat}{xs ys:List Nat}(h1:Arg w a l c xs) (h2:Arg w b k d ys) (hT:dJ w) (n m:Bool) (e f:Int) (he0:-9223372036854775808<=e) (he1:e<=9223372036854775807) (hf0:-9223372036854775808<=f) (hf1:f<=9223372036854775807) :
 Calls Tryz.prog 57 #[.agg #[.bool n,.slice a l c,.int .i64 e],.agg #[.bool m,.slice b k d,.int .i64 f]] w fun r w'=>cK w.heap.size w' r (iF (mkS n (val xs) e) (mkS (!m) (val ys) f))/\Below w.heap.size w w' :=
 NC n m e f _ _ _ _ (Co n (val xs) e (!m) (val ys) f) (hid fun u=>wm b k d m f u) (hid fun u hu=>Ch (h1.below hu) (h2.below hu) (hT.belows hu) n (!m) e f he0 he1 hf0 hf1)
theorem J4 {w:World}{a b:Option Addr}{l c k d:Nat}{xs ys:List Nat}(h1:Arg w a l c xs) (h2:Arg w b k d ys) (hl:l<=2000000) (hk:k<=2000000) (n m:Bool) (e f:Int) (he0:-9223372036854775808<=e) (he1:e<=9223372036854775807) (hf0:-9223372036854775808<=f) (hf1:f<=9223372036854775807) :
 Calls Tryz.prog 32 #[.agg #[.bool n,.slice a l c,.int .i64 e],.agg #[.bool m,.slice b k d,.int .i64 f]] w fun r w'=>cK w.heap.size w' r (iF (mkS n (val xs) e) (mkS (!m) (val ys) f))/\Below w.heap.size w w' :=
 JX n m e f _ _ _ _ (Co n (val xs) e (!m) (val ys) f) (hid fun u=>Ca b k d m f u) (hid fun u hu=>JZ (h1.below hu) (h2.below hu) hl hk n (!m) e f he0 he1 hf0 hf1)
def sW (X:Nat) (e:Int) (Y:Nat) (f:Int):Int:=if e<f then aY X (Y*2^(f-e).toNat) else aY (X*2^(e-f).toNat) Y
theorem wH (x y:Nat):-aY x y=aY y x:=by
 unfold aY;rcases nI x y with h|h|h
 · rw [if_pos h,if_neg af,if_pos h];rfl
 · subst h;rw [if_neg af,if_neg af];rfl
 · rw [if_neg af,if_pos h,if_pos h]
theorem NF (X:Nat) (e:Int) (Y:Nat) (f:Int):-sW X e Y f=sW Y f X e:=by
 unfold sW
 by_cases h:e<f
 · rw [if_pos h,if_neg af,wH]
 · rw [if_neg h]
   by_cases h2:f<e
   · rw [if_pos h2,wH]
   · rw [if_neg h2,wH,show (e-f).toNat=0 by omega,show (f-e).toNat=0 by omega,fC,fo,fo]
theorem Ab {x y:Nat}(h:bl x≠bl y):aY x y=aY (bl x) (bl y):=by
 unfold aY;rcases kI (bl x) (bl y) with k|k
 · have:x<y:=by
    rcases kI x y with q|q
    · exact q
    · have:=mZ q;omega
   rw [if_pos k,if_pos this]
 · have:y<x:=by
    rcases kI y x with q|q
    · exact q
    · have:=mZ q;omega
   rw [if_neg (by omega:¬ x<y),if_pos this,if_neg (by omega:¬ bl x<bl y),if_pos (by omega:bl y<bl x)]
theorem EM (x y:Nat):aY x y=-1\/aY x y=0\/aY x y=1:=by
 unfold aY;split
 · exact .inl rfl
 · split
   · exact .inr (.inr rfl)
   · exact .inr (.inl rfl)
theorem EN (X:Nat) (e:Int) (Y:Nat) (f:Int):sW X e Y f=-1\/sW X e Y f=0\/sW X e Y f=1:=by
 unfold sW;split <;> exact EM _ _
def q8 (n:Bool) (X:Nat):Int:=if X=0 then 0 else if n then -1 else 1
def jh (x y:Int):Int:=if x<y then -1 else if y<x then 1 else 0
theorem NI (x y:Nat):jh (x:Int) (y:Int)=aY x y:=by
 unfold jh aY;simp only [Int.ofNat_lt]
theorem sZ {w:World}{a:Option Addr}{n c:Nat}{xs:List Nat}(h1:Arg w a n c xs) (ng:Bool) (e:Int) :
 Calls Tryz.prog 52 #[.agg #[.bool ng,.slice a n c,.int .i64 e]] w fun r w'=>r=.returned (.int .i64 (q8 ng (val xs)))/\Below w.heap.size w w':=by
 have hB:Below w.heap.size w (w.alloc (.cells #[.bool ng,.slice a n c,.int .i64 e] 25)):=ae w _;have A1:=h1.below hB;have hbig:=h1.big;have H1:=hid (oG xs a n c _ _ A1.len A1.cap af A1.wf A1.rd);obtain ⟨X,hX⟩:∃ X,val xs=X:=⟨_,rfl⟩;rw [hX] at H1 |-;have SB:=ak hB;clear hB A1 h1 hX hbig;unfold q8
 by_cases h0:X=0
 · rw [if_pos h0];have hb:bl X=0:=by rw [h0,dG]
   rw [hb] at H1;clear h0 hb;go_enter Tryz.func52,Tryz.ntmps52;go_wp2_with fail;refine H1.o.mono ?_;rintro r w1 ⟨rfl,rfl⟩;go_wp2;go_ret;exact ⟨rfl,SB.o⟩
 · rw [if_neg h0];obtain ⟨b,hb⟩:∃ b,bl X=b:=⟨_,rfl⟩;have hb0:((b:Int)==0)=false:=by have:=dI X h0;simp;omega
   rw [hb] at H1;clear h0 hb
   cases ng
   · simp only [fq,if_false];go_enter Tryz.func52,Tryz.ntmps52;go_wp2_with fail;refine H1.o.mono ?_;rintro r w1 ⟨rfl,rfl⟩;go_wp2;go_ret;exact ⟨rfl,SB.o⟩
   · simp only [if_true];go_enter Tryz.func52,Tryz.ntmps52;go_wp2_with fail;refine H1.o.mono ?_;rintro r w1 ⟨rfl,rfl⟩;go_wp2;go_ret;exact ⟨rfl,SB.o⟩
theorem J5 (e f:Int) (he0:-9223372036854775808<=e) (he1:e<=9223372036854775807) (hf0:-9223372036854775808<=f) (hf1:f<=9223372036854775807) (h:f<=e):IntKind.u64.wrap (IntKind.u64.wrap e-IntKind.u64.wrap f)=(((e-f).toNat:Nat):Int):=by
 rw [kK,kK,kK];omega
theorem EO {w:World}{a:Option Addr}{n c:Nat}{xs:List Nat}(h1:Arg w a n c xs):bl (val xs)<=1125899906842624:=by
 have:=dh xs h1.wf;rw [<-h1.len] at this;have:=Mv _ _ this;have:=h1.big;omega
theorem yO {n:Bool}{X:Nat}:q8 n X=0↔X=0:=by
 unfold q8
 by_cases h:X=0
 · simp [h]
 · rw [if_neg h];cases n <;> simp [h]
def p8 (n:Bool):Int:=if n then -1 else 1
def zv (B:Int) (x:Bool×Nat×Int):Int:=p8 x.1*((x.2.1*2^(x.2.2-B).toNat:Nat):Int)
theorem J6 (e l B:Int) (h:B<=e) (hl:0<=l):(2:Nat)^(e+l-B).toNat=2^l.toNat*2^(e-B).toNat:=by
 rw [<-aL];congr 1;omega
theorem lT {n:Bool}{X:Nat}{e:Int}{x:Bool×Nat×Int}(h:mkS n X e=some x) (B:Int) (hB:X=0\/B<=e):zv B x=p8 n*((X*2^(e-B).toNat:Nat):Int):=by
 unfold mkS at h
 by_cases h0:X=0
 · rw [if_pos h0] at h
   cases h
   subst h0;simp [zv]
 · rw [if_neg h0] at h
   split at h
   · cases h
   · cases h
     have hB':B<=e:=by rcases hB with h | h;exact absurd h h0;exact h
     obtain ⟨m,hm,hd,_⟩:=iw X h0;show p8 n*((X/2^lo X*2^(e+(lo X:Int)-B).toNat:Nat):Int)=_;rw [J6 e (lo X) B hB' af,ma,<-aN];have hx:X/2^lo X*2^lo X=X:=by rw [hd];rw [df];exact hm.symm
     rw [hx]
theorem NJ {n m:Bool}(h:¬ n=m):p8 m=-p8 n:=by cases n <;> cases m <;> first | exact absurd rfl h | rfl
theorem Rk (n:Bool):p8 (!n)=-p8 n:=by cases n <;> rfl
theorem Rl (n m:Bool):p8 (n != m)=p8 n*p8 m:=by cases n <;> cases m <;> rfl
theorem Cq {n m:Bool}{X Y:Nat}{e f:Int}{z:Bool×Nat×Int}(h:jM n X e m Y f=some z) (hfe:f<=e) (B:Int) (hB:B<=f):zv B z=zv B (n,X,e)+zv B (m,Y,f):=by
 unfold jM at h
 split at h
 · cases h
 · have key:X*2^(e-f).toNat*2^(f-B).toNat=X*2^(e-B).toNat:=by
    rw [aN,<-aL,show (e-f).toNat+(f-B).toNat=(e-B).toNat by omega]
   show zv B z=p8 n*((X*2^(e-B).toNat:Nat):Int)+p8 m*((Y*2^(f-B).toNat:Nat):Int);generalize 2^(e-f).toNat=P at h key
   split at h
   · rename_i hnm;rw [lT h B (.inr hB),hnm,<-Int.mul_add,fF,key,Gd]
   · rename_i hnm
     split at h
     · rename_i hle;rw [lT h B (.inr hB),NJ hnm,Nat.sub_mul,key,Int.ofNat_sub (by rw [<-key];exact fO _ hle),Int.mul_sub,Int.neg_mul];omega
     · rename_i hle;rw [lT h B (.inr hB),Rk,NJ hnm,Nat.sub_mul,key,Int.ofNat_sub (by rw [<-key];exact fO _ af),Int.mul_sub,Int.neg_mul,Int.neg_mul];omega
theorem oO {x:Bool×Nat×Int}(B:Int) (h:x.2.1=0):zv B x=0:=by unfold zv;rw [h];simp
theorem Rm {x y z:Bool×Nat×Int}(h:qY x y=some z) (B:Int) (hx:x.2.1=0\/B<=x.2.2) (hy:y.2.1=0\/B<=y.2.2):zv B z=zv B x+zv B y:=by
 obtain ⟨n,X,e⟩:=x;obtain ⟨m,Y,f⟩:=y;unfold qY at h;simp only at h hx hy
 by_cases h0:X=0
 · rw [if_pos h0] at h
   cases h
   rw [oO (x:=(n,X,e)) B h0,Bh]
 · rw [if_neg h0] at h
   by_cases h1:Y=0
   · rw [if_pos h1] at h
     cases h
     rw [oO (x:=(m,Y,f)) B h1,Int.add_zero]
   · rw [if_neg h1] at h;have hx':B<=e:=by rcases hx with k | k;exact absurd k h0;exact k
     have hy':B<=f:=by rcases hy with k | k;exact absurd k h1;exact k
     by_cases h2:e<f
     · rw [if_pos h2] at h;rw [Cq h af B hx',Int.add_comm]
     · rw [if_neg h2] at h;exact Cq h af B hy'
theorem Rn {x y z:Bool×Nat×Int}(h:Q3 x y=some z) (B C:Int) (hx:x.2.1=0\/B<=x.2.2) (hy:y.2.1=0\/C<=y.2.2):zv (B+C) z=zv B x*zv C y:=by
 obtain ⟨n,X,e⟩:=x;obtain ⟨m,Y,f⟩:=y;unfold Q3 at h;simp only at h hx hy
 by_cases h0:X=0
 · subst h0;rw [eQ] at h;rw [lT h _ (.inl rfl),oO (x:=(n,0,e)) B rfl];simp
 · by_cases h1:Y=0
   · subst h1;rw [nG] at h;rw [lT h _ (.inl rfl),oO (x:=(m,0,f)) C rfl];simp
   · have hx':B<=e:=by rcases hx with k | k;exact absurd k h0;exact k
     have hy':C<=f:=by rcases hy with k | k;exact absurd k h1;exact k
     rw [lT h _ (.inr af),Rl];unfold zv;simp only;rw [show (e+f-(B+C)).toNat=(e-B).toNat+(f-C).toNat by omega,aL];rw [show X*Y*(2^(e-B).toNat*2^(f-C).toNat)=(X*2^(e-B).toNat)*(Y*2^(f-C).toNat) by rw [nS]];rw [fU,mh,mh];congr 1;rw [<-mh,<-mh];congr 1;exact Int.mul_comm _ _
theorem Ro {X Y:Nat}(a b:Nat) (hX:X%2=1) (hY:Y%2=1) (h:X*2^a=Y*2^b):X=Y/\a=b:=by
 have key:∀ (a b X Y:Nat),X%2=1->Y%2=1->X*2^a=Y*2^b->a<=b:=by
  intro a b X Y hX hY h;rcases kI b a with k|k
  · exfalso;obtain ⟨d,rfl⟩:∃ d,a=b+(d+1):=⟨a-b-1,af⟩;rw [aL,df (2^b),<-aN] at h;have:=pO (bu b) h;rw [gY,<-aN] at this;omega
  · exact k
 have h1:=key a b X Y hX hY h;have h2:=key b a Y X hY hX h.symm;have e:a=b:=af
 subst e;exact ⟨pO (bu a) h,rfl⟩
theorem NK {n m:Bool}{X Y:Nat}{e f:Int}(FX:sN n X e) (FY:sN m Y f) (B:Int) (hB:B<=-1048576) (h:zv B (n,X,e)=zv B (m,Y,f)):n=m/\X=Y/\e=f:=by
 have hx:=FX.down;have hy:=FY.down;unfold zv at h;simp only at h;have hpX:0<2^(e-B).toNat:=bu _;have hpY:0<2^(f-B).toNat:=bu _;rcases FX.odd with oX|⟨rfl,rfl,rfl⟩
 · rcases FY.odd with oY | ⟨rfl,rfl,rfl⟩
   · have pX:0<X*2^(e-B).toNat:=ik af hpX;have pY:0<Y*2^(f-B).toNat:=ik af hpY
     have hn:n=m:=by
      generalize X*2^(e-B).toNat=P at h pX;generalize Y*2^(f-B).toNat=Q at h pY
      cases n <;> cases m <;> first | rfl | (simp only [p8,fq,if_true,if_false] at h;omega)
     subst hn
     have hPQ:X*2^(e-B).toNat=Y*2^(f-B).toNat:=by
      generalize X*2^(e-B).toNat=P at h;generalize Y*2^(f-B).toNat=Q at h
      cases n <;> (simp only [p8,fq,if_true,if_false] at h;omega)
     obtain ⟨h1,h2⟩:=Ro _ _ oX oY hPQ;exact ⟨rfl,h1,af⟩
   · exfalso;have pX:0<X*2^(e-B).toNat:=ik af hpX;generalize X*2^(e-B).toNat=P at h pX;rw [eQ] at h
     cases n <;> (simp only [p8,fq,if_true,if_false] at h;omega)
 · rcases FY.odd with oY | ⟨rfl,rfl,rfl⟩
   · exfalso;have pY:0<Y*2^(f-B).toNat:=ik af hpY;generalize Y*2^(f-B).toNat=Q at h pY;rw [eQ] at h
     cases m <;> (simp only [p8,fq,if_true,if_false] at h;omega)
   · exact ⟨rfl,rfl,rfl⟩
theorem kX {n:Bool}{X:Nat}{e:Int}(F:sN n X e):mkS n X e=some (n,X,e):=by
 unfold mkS;rcases F.odd with h|⟨rfl,rfl,rfl⟩
 · have h1:=F.size;have h2:=F.up;have h3:=F.down;rw [if_neg af,G8 h,if_neg af,fC,tT];simp
 · rw [if_pos rfl]
theorem yP {n m:Bool}{X Y:Nat}{e f:Int}{n':Bool}{Z:Nat}{g:Int}(h:jM n X e m Y f=some (n',Z,g)):sN n' Z g:=by
 unfold jM at h
 split at h
 · cases h
 · split at h
   · exact bM h
   · split at h
     · exact bM h
     · exact bM h
theorem Cr {n m:Bool}{X Y:Nat}{e f:Int}(FX:sN n X e) (FY:sN m Y f) {n':Bool}{Z:Nat}{g:Int}(h:qY (n,X,e) (m,Y,f)=some (n',Z,g)):sN n' Z g:=by
 unfold qY at h;simp only at h
 split at h
 · cases h;exact FY
 · split at h
   · cases h;exact FX
   · split at h
     · exact yP h
     · exact yP h
theorem J7 {o p:Option (Bool×Nat×Int)}(h:(iF o p).isSome=true):∃ x y z,o=some x/\p=some y/\qY x y=some z/\iF o p=some z:=by
 cases o with
 | none=>cases h
 | some x =>
   cases p with
   | none=>cases h
   | some y =>
     obtain ⟨z,hz⟩:=zo.1 h;exact ⟨x,y,z,rfl,rfl,hz,hz⟩
theorem J8 {o p:Option (Bool×Nat×Int)}(h:(dK o p).isSome=true):∃ x y z,o=some x/\p=some y/\Q3 x y=some z/\dK o p=some z:=by
 cases o with
 | none=>cases h
 | some x =>
   cases p with
   | none=>cases h
   | some y =>
     obtain ⟨z,hz⟩:=zo.1 h;exact ⟨x,y,z,rfl,rfl,hz,hz⟩
structure Fv (B:Int) (o:Option (Bool×Nat×Int)) (z:Int):Prop where
 ex:∃ n X e,o=some (n,X,e)/\sN n X e/\zv B (n,X,e)=z
theorem sN.base {n:Bool}{X:Nat}{e:Int}(F:sN n X e) {B:Int}(hB:B<=-1048576):X=0\/B<=e:=.inr (by have:=F.down;omega)
theorem Fv.add {B:Int}(hB:B<=-1048576) {o p:Option (Bool×Nat×Int)}{x y:Int}(h1:Fv B o x) (h2:Fv B p y) (h:(iF o p).isSome=true):Fv B (iF o p) (x+y):=by
 obtain ⟨n,X,e,rfl,F,rfl⟩:=h1.ex;obtain ⟨m,Y,f,rfl,G,rfl⟩:=h2.ex;obtain ⟨_,_,z,e1,e2,hz,hd⟩:=J7 h
 cases e1;cases e2
 obtain ⟨n',Z,g⟩:=z;exact ⟨n',Z,g,hd,Cr F G hz,Rm hz B (F.base hB) (G.base hB)⟩
theorem Fv.mul {B C:Int}(hB:B<=-1048576) (hC:C<=-1048576) {o p:Option (Bool×Nat×Int)}{x y:Int}(h1:Fv B o x) (h2:Fv C p y) (h:(dK o p).isSome=true):Fv (B+C) (dK o p) (x*y):=by
 obtain ⟨n,X,e,rfl,F,rfl⟩:=h1.ex;obtain ⟨m,Y,f,rfl,G,rfl⟩:=h2.ex;obtain ⟨_,_,z,e1,e2,hz,hd⟩:=J8 h
 cases e1;cases e2
 obtain ⟨n',Z,g⟩:=z;exact ⟨n',Z,g,hd,bM hz,Rn hz B C (F.base hB) (G.base hC)⟩
theorem Fv.same {B:Int}(hB:B<=-1048576) {o p:Option (Bool×Nat×Int)}{x y:Int}(h1:Fv B o x) (h2:Fv B p y) (h:x=y):dN o=dN p/\dX o=dX p/\dE o=dE p:=by
 obtain ⟨n,X,e,rfl,F,rfl⟩:=h1.ex;obtain ⟨m,Y,f,rfl,G,rfl⟩:=h2.ex;exact NK F G B hB h
theorem wI (x y k:Nat) (hk:0<k):aY (x*k) (y*k)=aY x y:=by
 unfold aY;simp only [nK hk]
theorem J9 (X:Nat) (e:Int) (Y:Nat) (f B:Int) (h1:B<=e) (h2:B<=f):sW X e Y f=aY (X*2^(e-B).toNat) (Y*2^(f-B).toNat):=by
 unfold sW
 by_cases h:e<f
 · rw [if_pos h,<-wI _ _ (2^(e-B).toNat) (bu _),aN,<-aL,show (f-e).toNat+(e-B).toNat=(f-B).toNat by omega]
 · rw [if_neg h,<-wI _ _ (2^(f-B).toNat) (bu _),aN,<-aL,show (e-f).toNat+(f-B).toNat=(e-B).toNat by omega]
theorem Ha (X k:Nat):X*2^k=0↔X=0:=by
 constructor
 · intro h;rcases Nat.mul_eq_zero.1 h with h|h
   · exact h
   · have:=bu k;omega
 · rintro rfl;exact eQ _
theorem Ka (dg:Nat) (least top:Int) (X:Nat) (e:Int) (ho:X%2=1) (Bs:Int) (h1:Bs<=e) (h2:Bs<=least) (hin:¬ top<e+(bl X:Int)) :
 Bs<=(iP dg least top X e).2.1 /\
 (((iP dg least top X e).2.2.1=true/\X*2^(e-Bs).toNat=(iP dg least top X e).1*2^((iP dg least top X e).2.1-Bs).toNat) \/
  ((iP dg least top X e).2.2.1=false/\(iP dg least top X e).1*2^((iP dg least top X e).2.1-Bs).toNat<X*2^(e-Bs).toNat/\X*2^(e-Bs).toNat<((iP dg least top X e).1+1)*2^((iP dg least top X e).2.1-Bs).toNat /\
   ((iP dg least top X e).2.2.2=-1/\2*(X*2^(e-Bs).toNat)<(2*(iP dg least top X e).1+1)*2^((iP dg least top X e).2.1-Bs).toNat \/
    (iP dg least top X e).2.2.2=0/\2*(X*2^(e-Bs).toNat)=(2*(iP dg least top X e).1+1)*2^((iP dg least top X e).2.1-Bs).toNat \/
    (iP dg least top X e).2.2.2=1/\(2*(iP dg least top X e).1+1)*2^((iP dg least top X e).2.1-Bs).toNat<2*(X*2^(e-Bs).toNat)))):=by
 unfold iP;rw [if_neg hin];simp only;obtain ⟨ex,hex⟩:∃ ex,max (e+(bl X:Int)-(dg:Int)) least=ex:=⟨_,rfl⟩;rw [hex];have hle:least<=ex:=af
 by_cases hoff:ex-e<=0
 · rw [if_pos hoff];simp only;refine ⟨af,.inl ⟨trivial,?_⟩⟩;rw [aN,<-aL,show (-(ex-e)).toNat+(ex-Bs).toNat=(e-Bs).toNat by omega]
 · rw [if_neg hoff];simp only;obtain ⟨k,hk⟩:∃ k:Nat,(ex-e).toNat=k:=⟨_,rfl⟩;have hk0:0<k:=af
   have Z8:(ex-Bs).toNat=k+(e-Bs).toNat:=af
   have hk1:(ex-e-1).toNat=k-1:=af
   rw [hk,Z8,hk1,aL];obtain ⟨Q,hQ⟩:∃ Q,2^(e-Bs).toNat=Q:=⟨_,rfl⟩;have YZ:0<Q:=by rw [<-hQ];exact bu _
   rw [hQ];have T9:=pK X (2^k);have hmod:=nD X (bu k);obtain ⟨F,hF⟩:∃ F,X/2^k=F:=⟨_,rfl⟩;obtain ⟨R,hR⟩:∃ R,X%2^k=R:=⟨_,rfl⟩;have NM:2^k=2*2^(k-1):=by rw [show k=k-1+1 by omega,gY,df];rfl
   have hbit:X/2^(k-1)%2=R/2^(k-1):=by
    rw [<-hR,NM];rw [df 2,Nat.mod_mul_right_div_self]
   obtain ⟨Hf,Y0⟩:∃ Hf,2^(k-1)=Hf:=⟨_,rfl⟩;have Z9:0<Hf:=by rw [<-Y0];exact bu _
   rw [Y0] at NM hbit |-;rw [hbit];rw [NM] at T9 hmod hF hR |-;rw [hF,hR] at T9;rw [hR] at hmod;rw [hF]
   have hR0:R≠0:=by
    intro h;rw [h,gM,aN] at T9;omega
   have e1:F*(2*Hf*Q)=(F*(2*Hf))*Q:=(aN _ _ _).symm;have e2:(F+1)*(2*Hf*Q)=((F+1)*(2*Hf))*Q:=(aN _ _ _).symm
   have e3:(2*F+1)*(2*Hf*Q)=(2*(F*(2*Hf))+2*Hf)*Q:=by
    rw [fF,fF,iD,aN 2 F,<-aN F,aN 2 (F*(2*Hf)) Q]
   have e4:2*(X*Q)=(2*X)*Q:=by rw [aN]
   have e5:2*Hf*F=F*(2*Hf):=df _ _;rw [e5] at T9;have e6:(F+1)*(2*Hf)=F*(2*Hf)+2*Hf:=by rw [fF,iD]
   rw [e1,e2,e3,e4,e6];generalize F*(2*Hf)=G at T9 |-;refine ⟨af,.inr ⟨trivial,fD af YZ,fD af YZ,?_⟩⟩
   by_cases hone:ex-e=1
   · rw [if_pos hone];have aaa:k=1:=af
     have hHf1:Hf=1:=by rw [<-Y0,aaa]
     refine .inr (.inl ⟨rfl,?_⟩);congr 1;omega
   · rw [if_neg hone]
     have hHf2:Hf%2=0:=by
      rw [<-Y0,show k-1=k-2+1 by omega,gY];omega
     have XF:R%2=1:=by
      have:G%2=0\/True:=.inr trivial;rw [<-hR];rw [Nat.mod_mul_right_mod];exact ho
     by_cases hge:Hf<=R
     · have hd1:R/Hf=1:=by
        rw [Nat.div_eq_iff Z9];omega
       rw [hd1,if_pos rfl];refine .inr (.inr ⟨rfl,fD ?_ YZ⟩);have:R≠Hf:=by intro h;rw [h] at XF;omega
       omega
     · have hd0:R/Hf=0:=gQ af;rw [hd0,if_neg af];exact .inl ⟨rfl,fD af YZ⟩
def Lb (X:Nat) (e:Int):Nat:=((iP 53 (-1074) 1024 X e).2.1+1074).toNat*4503599627370496+(iP 53 (-1074) 1024 X e).1
abbrev vK (K:Nat):Nat:=B.val Ieee.double K
theorem Ub {K L:Nat}:vK K<vK L↔K<L:=B.iq Ieee.double
theorem ji (j F:Nat) (h:j=0\/4503599627370496<=F) (hF:F<=9007199254740992):vK (j*4503599627370496+F)=F*2^j:=by
 have:=B.zT Ieee.double j F (by rw [B.Eo];exact h) (by rw [B.Eo];omega);rw [B.Eo] at this;exact this
structure XG (K:Nat) (at':Bool) (mid:Int) (V S:Nat):Prop where
 fin:K<9218868437227405312
 pos:0<S
 one:at'=true->V=vK K*S
 low:at'=false->vK K*S<V
 Rp:at'=false->V<vK (K+1)*S->(mid=-1/\2*V<vK K*S+vK (K+1)*S\/mid=0/\2*V=vK K*S+vK (K+1)*S\/mid=1/\vK K*S+vK (K+1)*S<2*V)
 high:at'=false->V<vK (K+1)*S\/(K=9218868437227405311/\mid=1)
theorem lies (X:Nat) (e:Int) (hX:X%2=1) (he0:-1048576<=e) (he1:e<=1048576) (Bs:Int) (h1:Bs<=e) (h2:Bs<=-1074) :
 XG (Lb X e) (iP 53 (-1074) 1024 X e).2.2.1 (iP 53 (-1074) 1024 X e).2.2.2 (X*2^(e-Bs).toNat) (2^(-1074-Bs).toNat):=by
 have hX0:X≠0:=af
 obtain ⟨f1,f2,f3,f4⟩:=sS X e hX0 he0 he1;obtain ⟨j,hj⟩:∃ j:Nat,((iP 53 (-1074) 1024 X e).2.1+1074).toNat=j:=⟨_,rfl⟩;have hS:0<2^(-1074-Bs).toNat:=bu _
 have hw:∀ F,F<=9007199254740992->(j=0\/4503599627370496<=F)->vK (j*4503599627370496+F)*2^(-1074-Bs).toNat=F*2^((iP 53 (-1074) 1024 X e).2.1-Bs).toNat:=by
  intro F hF hn;rw [ji j F hn hF,aN,<-aL];congr 2;omega
 have hn1:j=0\/4503599627370496<=(iP 53 (-1074) 1024 X e).1:=by
  rcases f4 with h|h
  · left;omega
  · exact .inr h
 have w1:=hw (iP 53 (-1074) 1024 X e).1 af hn1;have w2:=hw ((iP 53 (-1074) 1024 X e).1+1) af (by rcases hn1 with h | h;exact .inl h;exact .inr af);have Vs:Lb X e=j*4503599627370496+(iP 53 (-1074) 1024 X e).1:=by unfold Lb;rw [hj]
 have XH:Lb X e+1=j*4503599627370496+((iP 53 (-1074) 1024 X e).1+1):=by rw [Vs];omega
 have hfin:Lb X e<9218868437227405312:=by rw [Vs];omega
 rw [<-Vs] at w1;rw [<-XH] at w2
 by_cases hin:1024<e+(bl X:Int)
 · have hp:iP 53 (-1074) 1024 X e=((2^53-1:Nat),((1024:Int)-((53:Nat):Int)),false,(1:Int)):=by unfold iP;rw [if_pos hin]
   have hK:Lb X e=9218868437227405311:=by unfold Lb;rw [hp];rfl
   refine ⟨hfin,hS,fun h=>(by rw [hp] at h;cases h),fun _=>?_,fun _ hlt=>?_,fun _=>.inr ⟨hK,(by rw [hp])⟩⟩
   · rw [w1];have hlow:(2^53-1)*2^(971-Bs).toNat<2^53*2^(971-Bs).toNat:=fD au (bu _)
     have hup:2^53*2^(971-Bs).toNat<=X*2^(e-Bs).toNat:=by
      have hb:=gT X hX0;have hbp:=dI X hX0;refine dP ?_ (fO _ hb);rw [<-aL,<-aL];exact fB af af
     rw [hp];exact iC hlow hup
   · exfalso;rw [w2,hp] at hlt
     have hup:2^53*2^(971-Bs).toNat<=X*2^(e-Bs).toNat:=by
      have hb:=gT X hX0;have hbp:=dI X hX0;refine dP ?_ (fO _ hb);rw [<-aL,<-aL];exact fB af af
     exact absurd hlt (Nat.not_lt.2 hup)
 · obtain ⟨_,hfl⟩:=Ka 53 (-1074) 1024 X e hX Bs h1 h2 hin
   have hmid:vK (Lb X e)*2^(-1074-Bs).toNat+vK (Lb X e+1)*2^(-1074-Bs).toNat=(2*(iP 53 (-1074) 1024 X e).1+1)*2^((iP 53 (-1074) 1024 X e).2.1-Bs).toNat:=by
    rw [w1,w2,<-fF];congr 1;omega
   rcases hfl with ⟨ht,hv⟩|⟨hf,hlo,hhi,hm⟩
   · exact ⟨hfin,hS,fun _=>(by rw [w1];exact hv),fun h=>(by rw [ht] at h;cases h),fun h=>(by rw [ht] at h;cases h),fun h=>(by rw [ht] at h;cases h)⟩
   · refine ⟨hfin,hS,fun h=>(by rw [hf] at h;cases h),fun _=>(by rw [w1];exact hlo),fun _ _=>(by rw [hmid];exact hm),fun _=>.inl (by rw [w2];exact hhi)⟩
def rK (mode:Int) (n:Bool) (K:Nat) (t:Bool) (m:Int):Nat:=if t then K else if kW mode K m n then K+1 else K
theorem NN (mode:Int) (j F:Nat) (m:Int) (n:Bool):kW mode (j*4503599627370496+F) m n=kW mode F m n:=by
 unfold kW;rw [show (j*4503599627370496+F)%2=F%2 by omega]
theorem Rs (mode:Int) (n:Bool) (X:Nat) (e:Int):Nw mode n X e=rK mode n (Lb X e) (iP 53 (-1074) 1024 X e).2.2.1 (iP 53 (-1074) 1024 X e).2.2.2:=by
 unfold Nw rK Lb;simp only;rw [NN]
 split
 · rfl
 · split <;> omega
def Kb (s:Bool) (K:Nat):Nat:=K+(if s then 9223372036854775808 else 0)
def sK (s:Bool) (K:Nat):Int:=if s then -(K:Int) else K
theorem Rt (s:Bool) (K:Nat) (h:K<=9218868437227405312):Kb s K=B.bw s (K/4503599627370496) (K%4503599627370496)/\K/4503599627370496<2048/\K%4503599627370496<4503599627370496/\B.odd (K/4503599627370496) (K%4503599627370496)=false/\B.pl s (K/4503599627370496) (K%4503599627370496)=sK s K:=by
 refine ⟨?_,af,af,?_,?_⟩
 · unfold Kb B.bw
   cases s
   · simp;omega
   · simp;omega
 · unfold B.odd;simp;omega
 · unfold B.pl B.sg sK;rw [show K/4503599627370496*4503599627370496+K%4503599627370496=K by omega]
def rS (n:Bool) (X:Nat):Bool:=if X=0 then false else n
def rW (mode:Int) (n:Bool) (X:Nat) (e:Int):Nat:=if X=0 then 0 else Nw mode n X e
theorem Kc (mode:Int) (n:Bool) (X:Nat) (e:Int) (h0:0<=mode) (h4:mode<=4):gW (some (n,X,e)) mode=(Kb (rS n X) (rW mode n X e),0):=by
 unfold gW;rw [if_neg af];simp only;unfold rS rW Kb
 by_cases h:X=0
 · rw [if_pos h,if_pos h,if_pos h];rfl
 · rw [if_neg h,if_neg h,if_neg h]
theorem Ru {n:Bool}{X:Nat}{e:Int}(F:sN n X e) (h:X≠0):X%2=1:=by rcases F.odd with k | k;exact k;exact absurd k.1 h
attribute [local go_sem] B.cO B.aI
def jN (x:Nat):Nat:=x%9223372036854775808
def uI (x:Nat):Bool:=decide (9223372036854775808<=x)
def uq (x:Nat):Nat:=if 9223372036854775808<=x then x-9223372036854775808 else x+9223372036854775808
theorem Hd (x y:Nat) (w:World):Calls Tryz.prog 10 #[.float .f64 x,.float .f64 y] w fun r w'=>r=.returned (.bool (x==y))/\w'=w:=by
 have e2:((x:Int)==(y:Int))=(x==y):=by rw [zm,beq_iff_eq,beq_iff_eq];omega
 go_enter Tryz.func10,Tryz.ntmps10;go_wp2;exact aF (v:=.bool (x==y)) (by simp [results,Tryz.results10,go_sem,e2]) rfl ⟨rfl,rfl⟩
end
section
open Go.RowKit
def Ww (s:Bool) (K:Nat):Option (Bool×Nat×Int):=Wq s (K/4503599627370496) (K%4503599627370496)
theorem Rx (s:Bool) (K:Nat) (hK:K<9218868437227405312):∃ n X e,Ww s K=some (n,X,e)/\sN n X e/\(X≠0->n=s)/\(X=0↔K=0)/\∀ Bs:Int,Bs<=-1074->zv Bs (n,X,e)=p8 s*((vK K*2^(-1074-Bs).toNat:Nat):Int):=by
 obtain ⟨x,hx⟩:∃ x,K/4503599627370496=x:=⟨_,rfl⟩;obtain ⟨f,hf⟩:∃ f,K%4503599627370496=f:=⟨_,rfl⟩;have hxl:x<2047:=af
 have hfl:f<4503599627370496:=af
 obtain ⟨M,hM⟩:∃ M,(if x=0 then f else f+4503599627370496)=M:=⟨_,rfl⟩;obtain ⟨E,hE⟩:∃ E:Int,(if x=0 then (-1074:Int) else (x:Int)-1075)=E:=⟨_,rfl⟩
 have hME:(x=0/\M=f/\E=-1074)\/(x≠0/\M=f+4503599627370496/\E=(x:Int)-1075):=by
  by_cases h:x=0
  · rw [if_pos h] at hM hE;exact .inl ⟨h,hM.symm,hE.symm⟩
  · rw [if_neg h] at hM hE;exact .inr ⟨h,hM.symm,hE.symm⟩
 have gF:M<9007199254740992:=af
 have hO:Ww s K=mkS s M E:=by unfold Ww Wq;rw [hx,hf,if_neg af,hM,hE]
 have hsome:(mkS s M E).isSome=true:=by
  unfold mkS
  split
  · rfl
  · rename_i h0;have hb:=vE M gF;obtain ⟨_,_,_,hbb⟩:=iw M h0;rw [if_neg af];rfl
 obtain ⟨⟨n,X,e⟩,hz⟩:=zo.1 hsome;have hKw:K=(E+1074).toNat*4503599627370496+M:=by rcases hME with h | h <;> omega
 have hv:vK K=M*2^(E+1074).toNat:=by
  rw [hKw];exact ji _ _ (by rcases hME with h | h;left;omega;right;omega) af
 have hM0:M=0↔K=0:=by rcases hME with h | h <;> omega
 refine ⟨n,X,e,by rw [hO,hz],bM hz,?_,?_,?_⟩
 · intro hX;unfold mkS at hz
   split at hz
   · cases hz;exact absurd rfl hX
   · split at hz
     · cases hz
     · cases hz;rfl
 · rw [<-hM0];constructor
   · intro hX;unfold mkS at hz
     split at hz
     · assumption
     · rename_i h0
       split at hz
       · cases hz
       · obtain ⟨m,_,hd,_⟩:=iw M h0
         cases hz
         omega
   · intro h0;unfold mkS at hz;rw [if_pos h0] at hz
     cases hz;rfl
 · intro Bs hBs;rw [lT hz Bs (.inr af),hv,aN,<-aL,show (E+1074).toNat+(-1074-Bs).toNat=(E-Bs).toNat by omega]
end
section
open Go.RowKit J
theorem XI (x:Nat) (h:x<18446744073709551616):x=Kb (uI x) (jN x):=by
 unfold Kb uI jN
 by_cases hx:9223372036854775808<=x
 · rw [decide_eq_true hx,if_pos rfl];omega
 · rw [decide_eq_false hx,if_neg aO];omega
theorem Y2 (a:Nat):∃ u:Nat,u=2^a:=⟨_,rfl⟩
def EU:Nat:=1074
def ES:Nat:=2095004
noncomputable def UU:Nat:=Classical.choose (Y2 EU)
noncomputable def SS:Nat:=Classical.choose (Y2 ES)
theorem U_eq:UU=2^EU:=zt (Y2 EU)
theorem S_eq:SS=2^ES:=zt (Y2 ES)
theorem EUS:EU+ES=2096078:=by unfold EU ES;rfl
theorem US (a:Nat) (h:a=2096078):2^a=UU*SS:=by
 rw [U_eq,S_eq,<-aL,EUS,h]
structure Fo (o:Option (Bool×Nat×Int)) (z:Int) (L H:Int):Prop where
 ex:∃ n X e,o=some (n,X,e)/\sN n X e/\zv (-2097152) (n,X,e)=z*(SS:Int)/\(X=0\/L<=e/\e+(bl X:Int)<=H)
theorem Vt (n:Bool) (Z:Nat) (f L H:Int) (hZ:Z≠0) (h1:L<=f) (h2:f+(bl Z:Int)<=H) (hL:-1000000<=L) (hH:H<=1000000) (hd:H-L<=262144) :
 ∃ X e,mkS n Z f=some (n,X,e)/\X≠0/\L<=e/\e+(bl X:Int)<=H:=by
 obtain ⟨m,e0,e1,e2⟩:=iw Z hZ;unfold mkS;rw [if_neg hZ,if_neg af];exact ⟨_,_,rfl,af,af,af⟩
theorem blLe {X m:Nat}(h:X<2^m):bl X<=m:=by
 apply za;intro hh;have:=(uj X m).1 hh;omega
end
section
open Go.RowKit
def Zk (w:World) (g:Nat) (dg ls En:Int):Prop:=w.heap[g]?=some (.cells #[.int .i64 dg,.int .i64 ls,.int .u64 En] 98 (0,0))
theorem Zk.lt {w:World}{g:Nat}{dg ls En:Int}(h:Zk w g dg ls En):g<w.heap.size:=(gD.1 h).1
theorem Zk.below {w w':World}{g:Nat}{dg ls En:Int}(h:Zk w g dg ls En) (hb:Below w.heap.size w w'):Zk w' g dg ls En:=by
 unfold Zk;rw [hb.block g h.lt];exact h
theorem Zk.facts {w:World}{g:Nat}{dg ls En:Int}(h:Zk w g dg ls En):w.cell? ⟨g,0,none⟩=some (.int .i64 dg)/\w.cell? ⟨g,1,none⟩=some (.int .i64 ls)/\w.cell? ⟨g,2,none⟩=some (.int .u64 En):=by
 unfold Zk at h;simp [World.cell?,h]
theorem EW {w:World}{a:Option Addr}{n c:Nat}{xs:List Nat}(h1:Arg w a n c xs) (ng:Bool) (e:Int) :
 Calls Tryz.prog 150 #[.agg #[.bool ng,.slice a n c,.int .i64 e]] w fun r w'=>r=.returned (.int .i64 (q8 ng (val xs)))/\Below w.heap.size w w':=by
 have hB:Below w.heap.size w (w.alloc (.cells #[.bool ng,.slice a n c,.int .i64 e] 25)):=ae w _;have A1:=h1.below hB;have hbig:=h1.big;have H1:=hid (og xs a n c _ _ A1.len af A1.wf A1.rd);obtain ⟨X,hX⟩:∃ X,val xs=X:=⟨_,rfl⟩;rw [hX] at H1 |-;have SB:=ak hB;clear hB A1 h1 hX hbig;unfold q8
 by_cases h0:X=0
 · rw [if_pos h0];have hb:bl X=0:=by rw [h0,dG]
   rw [hb] at H1;clear h0 hb;go_enter Tryz.func150,Tryz.ntmps150;go_wp2_with fail;refine H1.o.mono ?_;rintro r w1 ⟨rfl,rfl⟩;go_wp2;go_ret;exact ⟨rfl,SB.o⟩
 · rw [if_neg h0];obtain ⟨b,hb⟩:∃ b,bl X=b:=⟨_,rfl⟩;have hb0:((b:Int)==0)=false:=by have:=dI X h0;simp;omega
   rw [hb] at H1;clear h0 hb
   cases ng
   · simp only [fq,if_false];go_enter Tryz.func150,Tryz.ntmps150;go_wp2_with fail;refine H1.o.mono ?_;rintro r w1 ⟨rfl,rfl⟩;go_wp2;go_ret;exact ⟨rfl,SB.o⟩
   · simp only [if_true];go_enter Tryz.func150,Tryz.ntmps150;go_wp2_with fail;refine H1.o.mono ?_;rintro r w1 ⟨rfl,rfl⟩;go_wp2;go_ret;exact ⟨rfl,SB.o⟩
theorem Ke {w:World}{a:Option Addr}{l c:Nat}{xs:List Nat}{X:Nat}(k:Nat) (h1:Arg w a l c xs) (hX:val xs=X) (hl:l<=2000000) (hk:k<=64000000) :
 Calls Tryz.prog 97 #[.slice a l c,.int .i64 (k:Nat)] w fun r w'=>∃ v,r=.returned v/\Nt w.heap.size w' v (X*2^k)/\Below w.heap.size w w':=by
 obtain ⟨q,hq⟩:=ah (k/32);obtain ⟨s,hs⟩:=ah (k%32);have e1:(k:Int)/32=(q:Int):=af
 have e2:(k:Int)%32=(s:Int):=af
 have hqb:q<=2000000:=af
 have MG:s<32:=af
 obtain ⟨W1,hW1⟩:=ah (w.alloc (.cells (madeCells #[.int .u32 0] q) 51));have mU:Own W1 w.heap.size (List.replicate q 0):=by rw [hW1];exact Own.made w q
 have hB1:Below w.heap.size w W1:=by rw [hW1];exact (aD _ _).alloc (aC _) _
 have hmk:=dw (q:Int) q rfl af w;rw [<-hW1] at hmk;have hR:=qX mU (by simp;omega);simp only [Ba] at hR;have A1:=h1.below hB1;obtain ⟨v',w2,hap,hown,hgrow⟩:=jZ W1 w.heap.size _ q (List.replicate q 0) xs a l c W1.heap.size 23 hR A1.len A1.rd A1.nil af hB1.size;have hB2:Below w.heap.size w w2:=hB1.grown hgrow hB1.size (fun k hk=>by simp [Value.ownBlock] at hk;omega);obtain ⟨a2,c2,rfl,hc2,hl2,ui,BO⟩:=Rw.words hown;have AO:Arg w2 a2 (q+l) c2 (List.replicate q 0++xs):=⟨hl2,hc2,af,(Wf.zeros q).append h1.wf,BO,ui⟩
 have hval:val (List.replicate q 0++xs)=X*pw q:=by
  rw [val_append,oz,hX,Ba,dS,df]
 have hpw:pw q*2^s=2^k:=by
  have:pw q=2^(32*q):=by unfold pw;rw [kE]
  rw [this,<-aL];congr 1;omega
 have hps:=sM s MG;obtain ⟨p,hp⟩:=ah (2^s)
 have e3:(2:Int)^s=(p:Int):=by
  have h5:((2^s:Nat):Int)=(2:Int)^s:=by simp
  rw [<-h5,<-hp]
 have hpl:p<4294967296:=af
 have T1:=hid (kQ (V:=X*2^k) (AO.below (ae w2 _)) (qV w2 p af) af (by rw [hval];simp only [val];rw [<-hpw,hp,aN];simp));have IV:=hid hap;have hs2:=hB2.size;have S1:=ak hB2;clear hap hown hgrow hB2 hl2 ui BO AO hval hpw A1 hR mU hB1 h1 hW1 hq hs hps hp hX;go_enter Tryz.func97,Tryz.ntmps97
 go_wp2_with (at_builtin;refine dC rfl (.tmp 39) (.tmp 40) 23 rfl _ _ rfl rfl _ _ IV.o ?_)
 refine T1.o.mono ?_;rintro r u3 ⟨v3,rfl,dF,hb3⟩;have S2:=(aJ dF hb3);clear dF hb3;go_wp2;go_ret;obtain ⟨dF,hb3⟩:=S2.o;exact ⟨v3,rfl,dF.mono (by simp;omega),S1.o.trans (((ae w2 _).trans (hb3.mono aO)).mono hs2)⟩
theorem NP {w:World}{a b:Option Addr}{n c m d:Nat}(e f:Int) (x y:Nat) (bx:x<=1125899906842624) (by':y<=1125899906842624) (hx:x=0) (z:Int)
 (H1:Hid (Calls Tryz.prog 177 #[.slice a n c] w fun r w'=>r=.returned (.int .i64 (x:Nat))/\w'=w))
 (H2:Hid (Calls Tryz.prog 177 #[.slice b m d] w fun r w'=>r=.returned (.int .i64 (y:Nat))/\w'=w))
 (HC:Hid (Calls Tryz.prog 107 #[.slice a n c,.slice b m d] w fun r w'=>r=.returned (.int .i64 z)/\Below w.heap.size w w')):Calls Tryz.prog 155 #[.slice a n c,.int .i64 e,.slice b m d,.int .i64 f] w fun r w'=>r=.returned (.int .i64 z)/\Below w.heap.size w w':=by
 have ex:IntKind.u64.wrap (x:Int)=(x:Int):=by rw [kK];omega
 have ey:IntKind.u64.wrap (y:Int)=(y:Int):=by rw [kK];omega
 subst hx;go_enter Tryz.func155,Tryz.ntmps155;go_wp2_with fail;refine H1.o.mono ?_;rintro r ww ⟨rfl,hw⟩;rw [hw];clear hw ww;go_wp2_with fail;refine H2.o.mono ?_;rintro r ww ⟨rfl,hw⟩;rw [hw];clear hw ww;go_wp2_with fail;refine HC.o.mono ?_;rintro r u1 ⟨rfl,hb⟩;have S1:=ak hb;clear hb;go_wp2;go_ret;exact ⟨rfl,S1.o⟩
theorem NU {w:World}{a b:Option Addr}{n c m d:Nat}(e f:Int) (x y:Nat) (bx:x<=1125899906842624) (by':y<=1125899906842624) (hx:((x:Int)==0)=false) (hy:y=0) (z:Int)
 (H1:Hid (Calls Tryz.prog 177 #[.slice a n c] w fun r w'=>r=.returned (.int .i64 (x:Nat))/\w'=w))
 (H2:Hid (Calls Tryz.prog 177 #[.slice b m d] w fun r w'=>r=.returned (.int .i64 (y:Nat))/\w'=w))
 (HC:Hid (Calls Tryz.prog 107 #[.slice a n c,.slice b m d] w fun r w'=>r=.returned (.int .i64 z)/\Below w.heap.size w w')):Calls Tryz.prog 155 #[.slice a n c,.int .i64 e,.slice b m d,.int .i64 f] w fun r w'=>r=.returned (.int .i64 z)/\Below w.heap.size w w':=by
 have ex:IntKind.u64.wrap (x:Int)=(x:Int):=by rw [kK];omega
 have ey:IntKind.u64.wrap (y:Int)=(y:Int):=by rw [kK];omega
 subst hy;go_enter Tryz.func155,Tryz.ntmps155;go_wp2_with fail;refine H1.o.mono ?_;rintro r ww ⟨rfl,hw⟩;rw [hw];clear hw ww;go_wp2_with fail;refine H2.o.mono ?_;rintro r ww ⟨rfl,hw⟩;rw [hw];clear hw ww;go_wp2_with fail;refine HC.o.mono ?_;rintro r u1 ⟨rfl,hb⟩;have S1:=ak hb;clear hb;go_wp2;go_ret;exact ⟨rfl,S1.o⟩
theorem Ry {w:World}{a b:Option Addr}{n c m d:Nat}(e f:Int) (x y:Nat) (bx:x<=1125899906842624) (by':y<=1125899906842624) (hx:((x:Int)==0)=false) (hy:((y:Int)==0)=false) (hlt:e<f) (z:Int) (hz0:-1<=z) (hz1:z<=1)
 (H1:Hid (Calls Tryz.prog 177 #[.slice a n c] w fun r w'=>r=.returned (.int .i64 (x:Nat))/\w'=w))
 (H2:Hid (Calls Tryz.prog 177 #[.slice b m d] w fun r w'=>r=.returned (.int .i64 (y:Nat))/\w'=w))
 (HR:Hid (Calls Tryz.prog 155 #[.slice b m d,.int .i64 f,.slice a n c,.int .i64 e] w fun r w'=>r=.returned (.int .i64 z)/\Below w.heap.size w w')):Calls Tryz.prog 155 #[.slice a n c,.int .i64 e,.slice b m d,.int .i64 f] w fun r w'=>r=.returned (.int .i64 (-z))/\Below w.heap.size w w':=by
 have ex:IntKind.u64.wrap (x:Int)=(x:Int):=by rw [kK];omega
 have ey:IntKind.u64.wrap (y:Int)=(y:Int):=by rw [kK];omega
 go_enter Tryz.func155,Tryz.ntmps155;go_wp2_with fail;refine H1.o.mono ?_;rintro r ww ⟨rfl,hw⟩;rw [hw];clear hw ww;go_wp2_with fail;refine H2.o.mono ?_;rintro r ww ⟨rfl,hw⟩;rw [hw];clear hw ww;go_wp2_with fail;refine HR.o.mono ?_;rintro r u1 ⟨rfl,hb⟩;have S1:=ak hb;clear hb;go_wp2;go_ret;exact ⟨rfl,S1.o⟩
theorem Vu {w:World}{a b:Option Addr}{n c m d:Nat}(e f:Int) (x y:Nat) (bx:x<=1125899906842624) (by':y<=1125899906842624) (hx:((x:Int)==0)=false) (hy:((y:Int)==0)=false) (hge:decide (e<f)=false) (dd:Nat) (hap:IntKind.u64.wrap (IntKind.u64.wrap e-IntKind.u64.wrap f)=(dd:Int)) (hd:1099511627776<dd)
 (H1:Hid (Calls Tryz.prog 177 #[.slice a n c] w fun r w'=>r=.returned (.int .i64 (x:Nat))/\w'=w))
 (H2:Hid (Calls Tryz.prog 177 #[.slice b m d] w fun r w'=>r=.returned (.int .i64 (y:Nat))/\w'=w)):Calls Tryz.prog 155 #[.slice a n c,.int .i64 e,.slice b m d,.int .i64 f] w fun r w'=>r=.returned (.int .i64 1)/\Below w.heap.size w w':=by
 have hd2:(1099511627776:Int)<(dd:Int):=af
 have ex:IntKind.u64.wrap (x:Int)=(x:Int):=by rw [kK];omega
 have ey:IntKind.u64.wrap (y:Int)=(y:Int):=by rw [kK];omega
 go_enter Tryz.func155,Tryz.ntmps155;go_wp2_with fail;refine H1.o.mono ?_;rintro r ww ⟨rfl,hw⟩;rw [hw];clear hw ww;go_wp2_with fail;refine H2.o.mono ?_;rintro r ww ⟨rfl,hw⟩;rw [hw];clear hw ww;go_wp2;go_ret;exact ⟨rfl,aD _ _⟩
theorem Rz {w:World}{a b:Option Addr}{n c m d:Nat}(e f:Int) (x y:Nat) (bx:x<=1125899906842624) (by':y<=1125899906842624) (hx:((x:Int)==0)=false) (hy:((y:Int)==0)=false) (hge:decide (e<f)=false) (dd:Nat) (hap:IntKind.u64.wrap (IntKind.u64.wrap e-IntKind.u64.wrap f)=(dd:Int)) (hd:dd<=1099511627776) (h1:y<x+dd)
 (H1:Hid (Calls Tryz.prog 177 #[.slice a n c] w fun r w'=>r=.returned (.int .i64 (x:Nat))/\w'=w))
 (H2:Hid (Calls Tryz.prog 177 #[.slice b m d] w fun r w'=>r=.returned (.int .i64 (y:Nat))/\w'=w)):Calls Tryz.prog 155 #[.slice a n c,.int .i64 e,.slice b m d,.int .i64 f] w fun r w'=>r=.returned (.int .i64 1)/\Below w.heap.size w w':=by
 have hd2:decide ((1099511627776:Int)<(dd:Int))=false:=decide_eq_false af;have hd3:decide (1099511627776<dd)=false:=decide_eq_false af;have es:IntKind.u64.wrap ((x:Int)+(dd:Int))=(x:Int)+(dd:Int):=by rw [kK];omega
 have h2:(y:Int)<(x:Int)+(dd:Int):=af
 have ex:IntKind.u64.wrap (x:Int)=(x:Int):=by rw [kK];omega
 have ey:IntKind.u64.wrap (y:Int)=(y:Int):=by rw [kK];omega
 go_enter Tryz.func155,Tryz.ntmps155;go_wp2_with fail;refine H1.o.mono ?_;rintro r ww ⟨rfl,hw⟩;rw [hw];clear hw ww;go_wp2_with fail;refine H2.o.mono ?_;rintro r ww ⟨rfl,hw⟩;rw [hw];clear hw ww;go_wp2;go_ret;exact ⟨rfl,aD _ _⟩
theorem RA {w:World}{a b:Option Addr}{n c m d:Nat}(e f:Int) (x y:Nat) (bx:x<=1125899906842624) (by':y<=1125899906842624) (hx:((x:Int)==0)=false) (hy:((y:Int)==0)=false) (hge:decide (e<f)=false) (dd:Nat) (hap:IntKind.u64.wrap (IntKind.u64.wrap e-IntKind.u64.wrap f)=(dd:Int)) (hd:dd<=1099511627776) (h1:x+dd<y)
 (H1:Hid (Calls Tryz.prog 177 #[.slice a n c] w fun r w'=>r=.returned (.int .i64 (x:Nat))/\w'=w))
 (H2:Hid (Calls Tryz.prog 177 #[.slice b m d] w fun r w'=>r=.returned (.int .i64 (y:Nat))/\w'=w)):Calls Tryz.prog 155 #[.slice a n c,.int .i64 e,.slice b m d,.int .i64 f] w fun r w'=>r=.returned (.int .i64 (-1))/\Below w.heap.size w w':=by
 have hd2:decide ((1099511627776:Int)<(dd:Int))=false:=decide_eq_false af;have hd3:decide (1099511627776<dd)=false:=decide_eq_false af;have es:IntKind.u64.wrap ((x:Int)+(dd:Int))=(x:Int)+(dd:Int):=by rw [kK];omega
 have h2:(x:Int)+(dd:Int)<(y:Int):=af
 have h3:decide ((y:Int)<(x:Int)+(dd:Int))=false:=decide_eq_false af;have h4:decide (y<x+dd)=false:=decide_eq_false af;have ex:IntKind.u64.wrap (x:Int)=(x:Int):=by rw [kK];omega
 have ey:IntKind.u64.wrap (y:Int)=(y:Int):=by rw [kK];omega
 go_enter Tryz.func155,Tryz.ntmps155;go_wp2_with fail;refine H1.o.mono ?_;rintro r ww ⟨rfl,hw⟩;rw [hw];clear hw ww;go_wp2_with fail;refine H2.o.mono ?_;rintro r ww ⟨rfl,hw⟩;rw [hw];clear hw ww;go_wp2;go_ret;exact ⟨rfl,aD _ _⟩
theorem RB {w:World}{a b:Option Addr}{n c m d:Nat}(e f:Int) (x y:Nat) (bx:x<=1125899906842624) (by':y<=1125899906842624) (hx:((x:Int)==0)=false) (hy:((y:Int)==0)=false) (hge:decide (e<f)=false) (dd:Nat) (hap:IntKind.u64.wrap (IntKind.u64.wrap e-IntKind.u64.wrap f)=(dd:Int)) (hd:dd<=64000000) (h1:x+dd=y) (P:Nat) (lP:(ws P).length<=35184372088832) (z:Int)
 (H1:Hid (Calls Tryz.prog 177 #[.slice a n c] w fun r w'=>r=.returned (.int .i64 (x:Nat))/\w'=w))
 (H2:Hid (Calls Tryz.prog 177 #[.slice b m d] w fun r w'=>r=.returned (.int .i64 (y:Nat))/\w'=w))
 (HM:Hid (Calls Tryz.prog 97 #[.slice a n c,.int .i64 (dd:Nat)] w fun r w'=>∃ v,r=.returned v/\Nt w.heap.size w' v P/\Below w.heap.size w w'))
 (HC:Hid (∀ u p q,Below w.heap.size w u->Arg u p (ws P).length q (ws P)->Calls Tryz.prog 107 #[.slice p (ws P).length q,.slice b m d] u fun r w'=>r=.returned (.int .i64 z)/\Below u.heap.size u w')):Calls Tryz.prog 155 #[.slice a n c,.int .i64 e,.slice b m d,.int .i64 f] w fun r w'=>r=.returned (.int .i64 z)/\Below w.heap.size w w':=by
 have hd2:decide ((1099511627776:Int)<(dd:Int))=false:=decide_eq_false af;have hd3:decide (1099511627776<dd)=false:=decide_eq_false af;have es:IntKind.u64.wrap ((x:Int)+(dd:Int))=(x:Int)+(dd:Int):=by rw [kK];omega
 have h2:decide ((x:Int)+(dd:Int)<(y:Int))=false:=decide_eq_false af;have h3:decide ((y:Int)<(x:Int)+(dd:Int))=false:=decide_eq_false af;have h4:decide (y<x+dd)=false:=decide_eq_false af;have h5:decide (x+dd<y)=false:=decide_eq_false af;have ed:IntKind.i64.wrap (dd:Int)=(dd:Int):=by rw [zx];omega
 clear h1;have ex:IntKind.u64.wrap (x:Int)=(x:Int):=by rw [kK];omega
 have ey:IntKind.u64.wrap (y:Int)=(y:Int):=by rw [kK];omega
 go_enter Tryz.func155,Tryz.ntmps155;go_wp2_with fail;refine H1.o.mono ?_;rintro r ww ⟨rfl,hw⟩;rw [hw];clear hw ww;go_wp2_with fail;refine H2.o.mono ?_;rintro r ww ⟨rfl,hw⟩;rw [hw];clear hw ww;go_wp2_with fail;refine HM.o.mono ?_;rintro r u1 ⟨v,rfl,hN,hb⟩;obtain ⟨a1,c1,rfl,A1⟩:=hN.arg lP;have PY:=hid (HC.o u1 a1 c1 hb A1);have hs1:=hb.size;have S1:=ak hb;clear hN hb A1;go_wp2_with fail;refine PY.o.mono ?_;rintro r u2 ⟨rfl,hb⟩;have S2:=ak (S1.o.trans (hb.mono hs1));clear hb;go_wp2;go_ret;exact ⟨rfl,S2.o⟩
def Uc (X:Nat) (e:Int) (Y:Nat) (f:Int):Int:=if X=0\/Y=0 then aY X Y else sW X e Y f
theorem wJ {w:World}{a b:Option Addr}{n c m d:Nat}{xs ys:List Nat}(h1:Arg w a n c xs) (h2:Arg w b m d ys) (hn:n<=2000000) (hm:m<=2000000) (e f:Int) (he0:-9223372036854775808<=e) (he1:e<=9223372036854775807) (hf0:-9223372036854775808<=f) (hf1:f<=9223372036854775807) (h:f<=e) (hX:val xs≠0) (hY:val ys≠0) :
 Calls Tryz.prog 155 #[.slice a n c,.int .i64 e,.slice b m d,.int .i64 f] w fun r w'=>r=.returned (.int .i64 (sW (val xs) e (val ys) f))/\Below w.heap.size w w':=by
 have b1:=h1.big;have b2:=h2.big;have L1:=hid (og xs a n c w.heap.size w h1.len af h1.wf h1.rd);have L2:=hid (og ys b m d w.heap.size w h2.len af h2.wf h2.rd);have x0:(((bl (val xs):Nat):Int)==0)=false:=by have:=dI _ hX;simp;omega
 have y0:(((bl (val ys):Nat):Int)==0)=false:=by have:=dI _ hY;simp;omega
 have hap:=J5 e f he0 he1 hf0 hf1 h;have hge:decide (e<f)=false:=decide_eq_false af;have c1:=EO h1
 have c2:bl (val ys)<=64000000:=by
  have:=dh ys h2.wf;rw [<-h2.len] at this;have:=Mv _ _ this;omega
 unfold sW;rw [if_neg af];obtain ⟨dd,hdd⟩:∃ dd,(e-f).toNat=dd:=⟨_,rfl⟩;rw [hdd] at hap |-;have hb:=Cg (val xs) dd hX
 by_cases k1:1099511627776<dd
 · have:aY (val xs*2^dd) (val ys)=1:=by
    rw [Ab af,hb];unfold aY;rw [if_neg af,if_pos af]
   rw [this];exact Vu e f _ _ c1 af x0 y0 hge dd hap k1 L1 L2
 · by_cases k2:bl (val ys)<bl (val xs)+dd
   · have:aY (val xs*2^dd) (val ys)=1:=by
      rw [Ab af,hb];unfold aY;rw [if_neg af,if_pos af]
     rw [this];exact Rz e f _ _ c1 af x0 y0 hge dd hap af k2 L1 L2
   · by_cases k3:bl (val xs)+dd<bl (val ys)
     · have:aY (val xs*2^dd) (val ys)=-1:=by
        rw [Ab af,hb];unfold aY;rw [if_pos af]
       rw [this];exact RA e f _ _ c1 af x0 y0 hge dd hap af k3 L1 L2
     · have lP:(ws (val xs*2^dd)).length<=35184372088832:=by rw [iB,hb];omega
       obtain ⟨P,hP⟩:∃ P,val xs*2^dd=P:=⟨_,rfl⟩;have HM:=hid (Ke (X:=val xs) dd h1 rfl hn af);rw [hP] at HM lP |-;exact RB e f _ _ c1 af x0 y0 hge dd hap af af P lP _ L1 L2 HM (hid fun u p q hu hA=>jK hA (h2.below hu) _ (by rw [aj]))
theorem Cs {w:World}{a b:Option Addr}{n c m d:Nat}{xs ys:List Nat}(h1:Arg w a n c xs) (h2:Arg w b m d ys) (hn:n<=2000000) (hm:m<=2000000) (e f:Int) (he0:-9223372036854775808<=e) (he1:e<=9223372036854775807) (hf0:-9223372036854775808<=f) (hf1:f<=9223372036854775807) :
 Calls Tryz.prog 155 #[.slice a n c,.int .i64 e,.slice b m d,.int .i64 f] w fun r w'=>r=.returned (.int .i64 (Uc (val xs) e (val ys) f))/\Below w.heap.size w w':=by
 have b1:=h1.big;have b2:=h2.big;have L1:=hid (og xs a n c w.heap.size w h1.len af h1.wf h1.rd);have L2:=hid (og ys b m d w.heap.size w h2.len af h2.wf h2.rd);have c1:=EO h1;have c2:=EO h2;unfold Uc
 by_cases hX:val xs=0
 · rw [if_pos (.inl hX)];exact NP e f _ _ c1 c2 (by rw [hX,dG]) _ L1 L2 (hid (jK h1 h2 _ rfl))
 · have x0:(((bl (val xs):Nat):Int)==0)=false:=by have:=dI _ hX;simp;omega
   by_cases hY:val ys=0
   · rw [if_pos (.inr hY)];exact NU e f _ _ c1 c2 x0 (by rw [hY,dG]) _ L1 L2 (hid (jK h1 h2 _ rfl))
   · have y0:(((bl (val ys):Nat):Int)==0)=false:=by have:=dI _ hY;simp;omega
     rw [if_neg (fun h=>h.elim hX hY)]
     by_cases h:e<f
     · have hr:=EN (val ys) f (val xs) e;have:=Ry e f _ _ c1 c2 x0 y0 h (sW (val ys) f (val xs) e) af af L1 L2 (hid (wJ h2 h1 hm hn f e hf0 hf1 he0 he1 af hY hX));rw [NF] at this;exact this
     · exact wJ h1 h2 hn hm e f he0 he1 hf0 hf1 af hX hY
theorem XJ (X:Nat) (e:Int) (Y:Nat) (f B:Int) (h1:B<=e) (h2:B<=f):Uc X e Y f=jh ((X*2^(e-B).toNat:Nat):Int) ((Y*2^(f-B).toNat:Nat):Int):=by
 rw [NI];unfold Uc
 by_cases h:X=0\/Y=0
 · rw [if_pos h];have p1:=Ha X (e-B).toNat;have p2:=Ha Y (f-B).toNat;generalize X*2^(e-B).toNat=P at p1 |-;generalize Y*2^(f-B).toNat=Q at p2 |-
   have q1:X=0/\P=0\/X≠0/\P≠0:=by
    by_cases h:X=0
    · exact .inl ⟨h,p1.2 h⟩
    · exact .inr ⟨h,fun k=>h (p1.1 k)⟩
   have q2:Y=0/\Q=0\/Y≠0/\Q≠0:=by
    by_cases h:Y=0
    · exact .inl ⟨h,p2.2 h⟩
    · exact .inr ⟨h,fun k=>h (p2.1 k)⟩
   clear p1 p2;unfold aY;rcases h with h|h
   · rcases q1 with ⟨a,b⟩ | ⟨a,b⟩
     · rcases q2 with ⟨c,d⟩ | ⟨c,d⟩
       · rw [a,b,c,d]
       · rw [a,b,if_pos af,if_pos af]
     · exact absurd h a
   · rcases q2 with ⟨c,d⟩ | ⟨c,d⟩
     · rcases q1 with ⟨a,b⟩ | ⟨a,b⟩
       · rw [a,b,c,d]
       · rw [c,d,if_neg af,if_pos af,if_neg af,if_pos af]
     · exact absurd h c
 · rw [if_neg h];exact J9 X e Y f B h1 h2
theorem N7 (k:Nat) (B:Int) (hB:B<=-1074):(jL k).1*2^((jL k).2-B).toNat=vK k*2^(-1074-B).toNat/\(jL k).1<9007199254740992/\B<=(jL k).2/\((jL k).1=0↔k=0):=by
 unfold jL
 by_cases h:k/4503599627370496=0
 · rw [if_pos h];refine ⟨?_,by simp only;omega,by simp only;omega,by simp only;omega⟩;simp only;have:=ji 0 k (.inl rfl) af;rw [eQ,dS,fC,fo] at this;rw [this,show k%4503599627370496=k by omega]
 · rw [if_neg h];obtain ⟨q,hq⟩:∃ q,k/4503599627370496=q:=⟨_,rfl⟩;obtain ⟨f,hf⟩:∃ f,k%4503599627370496=f:=⟨_,rfl⟩;rw [hq,hf];refine ⟨?_,by simp only;omega,by simp only;omega,by simp only;omega⟩;simp only;have:=ji (q-1) (4503599627370496+f) (.inr af) af;rw [show (q-1)*4503599627370496+(4503599627370496+f)=k by omega] at this;rw [this,aN,<-aL,show (-1074+(q:Int)-1-B).toNat=q-1+(-1074-B).toNat by omega]
end
section
open Go.RowKit J
theorem Vv (s:Bool) (v:Nat):p8 s*(v:Int)=B.sg s v:=by unfold p8 B.sg;cases s <;> simp
theorem N8 (K:Nat) (hK:K<9218868437227405312) (a:Nat) (ha:a=2045):vK K<9007199254740992*2^a:=by
 have h:=ji a 9007199254740992 (.inr af) af;have h2:a*4503599627370496+9007199254740992=9218868437227405312:=by rw [ha]
 rw [<-h,h2];exact Ub.2 hK
theorem XK (s:Bool) (K:Nat) (hK:K<9218868437227405312):∃ n X e,Ww s K=some (n,X,e)/\Fo (some (n,X,e)) (B.sg s (vK K)*(UU:Int)) (-1074) 1024/\(X=0↔K=0):=by
 obtain ⟨n,X,e,h1,F,h2,h3,h4⟩:=Rx s K hK;refine ⟨n,X,e,h1,⟨n,X,e,rfl,F,?_,?_⟩,h3⟩
 · obtain ⟨a,ha⟩:∃ a:Nat,(-1074 - -2097152:Int).toNat=a:=⟨_,rfl⟩;have h5:=h4 (-2097152) af;rw [ha] at h5;rw [h5,US a af,fU,fU,<-mh,<-mh,Vv]
 · by_cases hX:X=0
   · exact .inl hX
   · right
     have ho:=Ru F hX;have hd:=F.down
     -- in units of the form's own place
     have h5:=h4 (min e (-1074)) af;unfold zv at h5;simp only at h5;rw [h2 hX] at h5
     have h6:X*2^(e-min e (-1074)).toNat=vK K*2^(-1074-min e (-1074)).toNat:=by
      unfold p8 at h5
      cases s
      · simp only [fq,if_false,Int.one_mul] at h5;exact_mod_cast h5
      · simp only [if_true] at h5;have:=Int.eq_of_mul_eq_mul_left au h5;exact_mod_cast this
     have he:-1074<=e:=by
      apply Int.le_of_not_gt;intro hlt;rw [show (e-min e (-1074)).toNat=0 by omega,fC,fo] at h6;obtain ⟨q,hq⟩:∃ q,(-1074-min e (-1074)).toNat=q+1:=⟨(-1074-min e (-1074)).toNat-1,af⟩;rw [hq,gY,<-aN] at h6;omega
     refine ⟨he,?_⟩;rw [show (-1074-min e (-1074)).toNat=0 by omega,fC,fo] at h6;obtain ⟨q,hq⟩:∃ q,(e-min e (-1074)).toNat=q:=⟨_,rfl⟩;rw [hq] at h6;obtain ⟨c,hc⟩:∃ c:Nat,c=2045:=⟨_,rfl⟩;have h7:=N8 K hK c hc;have h8:=gT X hX;have h9:=dI X hX;obtain ⟨b,hb⟩:∃ b,bl X=b+1:=⟨bl X-1,af⟩;rw [hb,kD] at h8;have h10:2^b*2^q<9007199254740992*2^c:=gN (fO _ h8) (by rw [h6];exact h7);rw [<-aL,show (9007199254740992:Nat)=2^53 from rfl,<-aL] at h10;have h11:=(jw (by decide:1<2)).1 h10;omega
theorem XL (s:Bool) (v:Nat):(B.sg s v).natAbs=v:=by unfold B.sg;cases s <;> simp
abbrev Wd (x:Nat):Prop:=x<18446744073709551616
end
end Go.Proofs.YtfmfhehbdfhnbaaGreatDoor
