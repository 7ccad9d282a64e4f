import Derived.Test.YteginbngplldaaaGreatDoorD39x
import Derived.BigQuiet
import Derived.Deep.Cut
import Derived.Test.YteginbngplldaaaGreatDoorD2x
import Derived.Deep.RegionHeld3
import Derived.Deep.CutRange
set_option linter.unusedVariables false
set_option linter.unusedSimpArgs false
set_option maxHeartbeats 16000000
set_option maxRecDepth 20000
namespace Go.Proofs.YteginbngplldaaaGreatDoor
section
open Go.RowKit
theorem uJ(W:World)(g:Nat)(v:Value)(x:Int)(t:Bool)(tmps:Array Value)(ht:tmps[4]?.getD undef=.pointer (some ⟨g,0,none⟩))(D:Tk W g 135 v (.int .i64 x) (.bool t)) :
 (results Tryz.f127 tmps).run Tryz.prog W=.ok (.agg #[v,.int .i64 x,.bool t]) W:=by
 obtain⟨x0,x1,x2,_,_,_⟩:=D.facts;simp[results,Tryz.results127,ht,go_sem,x0,x1,x2]
theorem zo(w:World)(n:Bool)(v:Value)(e:Int)(m:Bool)(u:Value)(f:Int)(W:World)(hW:W=(w.alloc (.cells #[.bool n,v,.int .i64 e,.bool m,u,.int .i64 f] 73)).alloc (.cells #[.slice none 0 0,.int .i64 0,.bool false] 135)) :
 An w W/\W.heap.size=w.heap.size+2/\Rq W w.heap.size n v e m u f/\Tk W (w.heap.size+1) 135 (.slice none 0 0) (.int .i64 0) (.bool false):=by
 rw[hW];refine⟨(ae w _).alloc (by simp) _,by simp,(Rq.new _ _ _ _ _ _ _).alloc _,?_⟩;have:=Tk.new (w.alloc (.cells #[.bool n,v,.int .i64 e,.bool m,u,.int .i64 f] 73)) 135 (.slice none 0 0) (.int .i64 0) (.bool false);simpa using this
theorem Dp {w:World}{a b:Option Addr}{ca cb:Nat}(n m:Bool) (X Y:Nat) (e f:Int) (size lX lY lH cut H tO W0 Lf WH:Nat) (t bb z x y1 y2:Int) (tt:Bool)
 (AX:Arg w a (ws X).length ca (ws X)) (AY:Arg w b (ws Y).length cb (ws Y))
 (he0:-1048576<=e) (he1:e<=1048576) (hf0:-1048576<=f) (hf1:f<=1048576) (hs:size<=1000) (Y8:bl Y=lY) (Y9:bl X=lX) (Za:bl H=lH) (bX:lX<=262144) (bY:lY<=262144) (bH:lH<=262144)
 (ht:(lY:Int)+(size:Int)-262144=t) (hcut:max t 0=(cut:Int)) (bcut:cut<=2000)
 (e1:aV Y (-(cut:Int))=(H,0)) (hbb:(lH:Int)+(size:Int)-(lX:Int)=bb) (e2:aV X bb=(tO,0)) (e3:oG tO H=(W0,Lf,0))
 (HL:Hid (∀ (u:World) (p q r s:Option Addr) (cp cq cr cs:Nat),Arg u p (ws W0).length cp (ws W0)->Arg u q (ws Lf).length cq (ws Lf)->Arg u r (ws Y).length cr (ws Y)->Arg u s (ws H).length cs (ws H)->At 164 #[.slice p (ws W0).length cp,.slice q (ws Lf).length cq,.slice r (ws Y).length cr,.slice s (ws H).length cs,.int .i64 (cut:Nat)] u (.int .i64 z)))
 (hz:decide (z<0)=false)
 (h1:e-f=y1) (h2:y1-bb=y2) (h3:y2-(cut:Int)=x) (KV:(decide (z=0)&&decide (0<=bb))=tt)
 (l1:(ws H).length<=8192) (l2:(ws tO).length<=8192) (l3:(ws W0).length<=8192) (l4:(ws Lf).length<=8192) :
 As 127 #[.agg #[.bool n,.slice a (ws X).length ca,.int .i64 e,.bool m,.slice b (ws Y).length cb,.int .i64 f],.int .i64 (size:Nat)] w fun r w'=>(∃ v,r=.returned (.agg #[v,.int .i64 x,.bool tt])/\Nt w.heap.size w' v W0)/\An w w':=by
 obtain⟨W1,hW1⟩:=af ((w.alloc (.cells #[.bool n,.slice a (ws X).length ca,.int .i64 e,.bool m,.slice b (ws Y).length cb,.int .i64 f] 73)).alloc (.cells #[.slice none 0 0,.int .i64 0,.bool false] 135));obtain⟨hB,hz1,RQ,SK⟩:=zo w n _ e m _ f W1 hW1;have Dq:aV (val (ws Y)) (-(cut:Int))=(H,0):=by rw[aj];exact e1
 have e2':aV (val (ws X)) bb=(tO,0):=by rw[aj];exact e2
 have e3':oG (val (ws tO)) (val (ws H))=(W0,Lf,0):=by rw[aj,aj];exact e3
 have Zb:bl (val (ws Y))=lY:=by rw[aj];exact Y8
 have Zc:bl (val (ws X))=lX:=by rw[aj];exact Y9
 have Zd:bl (val (ws H))=lH:=by rw[aj];exact Za
 have E:=(iC Dq e2' e3' Zb Zc Zd);have SZ:=(aJ hz1 hB);have hs2:w.heap.size+2<=W1.heap.size:=by omega
 have hbel:=hB;have S0:=(dJ hbel (AX.below hB) (AY.below hB) RQ SK);clear hbel;clear e1 e2 e3 Dq e2' e3' Zb Zc Zd Y8 Y9 Za AX AY hB RQ SK hz1;go_enter Tryz.func127,Tryz.ntmps127
 go_upto_region 1 with fail
 rw[<-hW1];clear hW1;obtain⟨x0,x1,x2,x3,x4,x5⟩:=S0.o.r3.1.facts
 go_quiet (fail)
 clear x0 x1 x2 x3 x4 x5;generalize hV:World.drewN W1 _=V1;have hb:An W1 V1:=by rw[<-hV];exact Below.drewN' (aB _ _) _
 clear hV;obtain⟨au,AX,AY,RQ,SK⟩:=S0.o;have hbn:=au.trans (hb.mono au.size);have S1:=dJ hbn (AX.below hb) (AY.below hb) (RQ.below hb) (SK.below hb);clear au AX AY RQ SK;clear hb hbn S0;obtain⟨au,AX,AY,RQ,SK⟩:=S1.o;have HC:=hid (nG AY E.o.r3.1);clear au AX AY RQ SK;go_wp2_with fail;refine HC.o.mono ?_;rintro r u2 ⟨rfl,hb⟩;clear HC;obtain⟨au,AX,AY,RQ,SK⟩:=S1.o;have hbn:=au.trans (hb.mono au.size);have S2:=dJ hbn (AX.below hb) (AY.below hb) (RQ.below hb) (SK.below hb);clear au AX AY RQ SK;clear hb hbn S1;obtain⟨au,AX,AY,RQ,SK⟩:=S2.o;have HC:=hid (fo (-(cut:Int)) AY E.o.1 (by omega) (by omega));clear au AX AY RQ SK;go_wp2_with fail;refine HC.o.mono ?_;rintro r u3 ⟨v,rfl,hN,hb⟩;obtain⟨a1,c1,rfl,_⟩:=hN.arg (by omega);clear HC;obtain⟨au,AX,AY,RQ,SK⟩:=S2.o;have hbn:=au.trans (hb.mono au.size);have S3:=iC hbn (AX.below hb) (AY.below hb) (RQ.below hb) (SK.below hb) (hN.mono au.size);clear au AX AY RQ SK;clear hb hbn S2;clear hN;obtain⟨au,AX,AY,RQ,SK,NH⟩:=S3.o;have HC:=hid (nG (NH.aR (by omega)).2 E.o.r5);clear au AX AY RQ SK NH;go_wp2_with fail;refine HC.o.mono ?_;rintro r u4 ⟨rfl,hb⟩;clear HC;obtain⟨au,AX,AY,RQ,SK,NH⟩:=S3.o;have hbn:=au.trans (hb.mono au.size);have S4:=iC hbn (AX.below hb) (AY.below hb) (RQ.below hb) (SK.below hb) (NH.below hb);clear au AX AY RQ SK NH;clear hb hbn S3;obtain⟨au,AX,AY,RQ,SK,NH⟩:=S4.o;have HC:=hid (nG AX E.o.r4.1);clear au AX AY RQ SK NH;go_wp2_with fail;refine HC.o.mono ?_;rintro r u5 ⟨rfl,hb⟩;clear HC;obtain⟨au,AX,AY,RQ,SK,NH⟩:=S4.o;have hbn:=au.trans (hb.mono au.size);have S5:=iC hbn (AX.below hb) (AY.below hb) (RQ.below hb) (SK.below hb) (NH.below hb);clear au AX AY RQ SK NH;clear hb hbn S4;obtain⟨au,AX,AY,RQ,SK,NH⟩:=S5.o;have HC:=hid (fo bb AX E.o.2.1 (by omega) (by omega));clear au AX AY RQ SK NH;go_wp2_with fail;refine HC.o.mono ?_;rintro r u6 ⟨v,rfl,hN,hb⟩;obtain⟨a2,c2,rfl,_⟩:=hN.arg (by omega);clear HC;obtain⟨au,AX,AY,RQ,SK,NH⟩:=S5.o;have hbn:=au.trans (hb.mono au.size);have S6:=jY hbn (AX.below hb) (AY.below hb) (RQ.below hb) (SK.below hb) (NH.below hb) (hN.mono au.size);clear au AX AY RQ SK NH;clear hb hbn S5;clear hN;obtain⟨au,AX,AY,RQ,SK,NH,NV⟩:=S6.o;have HC:=hid (I9 (NV.aR (by omega)).2 (NH.aR (by omega)).2 E.o.r2.1);clear au AX AY RQ SK NH NV;go_wp2_with fail;refine HC.o.mono ?_;rintro r u7 ⟨v,v2,rfl,hN,hM,hb⟩;obtain⟨a3,c3,rfl,_⟩:=hN.arg (by omega);obtain⟨a4,c4,rfl,_⟩:=hM.arg (by omega);clear HC;obtain⟨au,AX,AY,RQ,SK,NH,NV⟩:=S6.o;have hbn:=au.trans (hb.mono au.size);have S7:=qb hbn (AX.below hb) (AY.below hb) (RQ.below hb) (SK.below hb) (NH.below hb) (hN.mono au.size) (hM.mono au.size);clear au AX AY RQ SK NH NV;clear hb hbn S6;clear hN hM;obtain⟨au,AX,AY,RQ,SK,NH,NW,NL⟩:=S7.o;have HC:=hid (HL.o u7 _ _ _ _ _ _ _ _ (NW.aR (by omega)).2 (NL.aR (by omega)).2 AY (NH.aR (by omega)).2);clear au AX AY RQ SK NH NW NL;go_wp2_with fail;refine HC.o.mono ?_;rintro r u8 ⟨rfl,hb⟩;clear HC;obtain⟨au,AX,AY,RQ,SK,NH,NW,NL⟩:=S7.o;have hbn:=au.trans (hb.mono au.size);have S8:=qb hbn (AX.below hb) (AY.below hb) (RQ.below hb) (SK.below hb) (NH.below hb) (NW.below hb) (NL.below hb);clear au AX AY RQ SK NH NW NL;clear hb hbn S7;obtain⟨au,AX,AY,RQ,SK,NH,NW,NL⟩:=S8.o;have hlast:=bO au NW SK;obtain⟨x0,x1,x2,x3,x4,x5⟩:=RQ.facts;obtain⟨s0,s1,s2,sH,sI,sJ⟩:=SK.facts;have hsz:=ak (SK.lt);clear au AX AY RQ SK NH NW NL;clear S8 E HL;have htA:=ak KV;clear KV;go_wp2
 all_goals (
  obtain⟨au,NZ,SK⟩:=hlast.o;have hsz:=au.size;refine aC (uJ _ (w.heap.size+1) (.slice a3 (ws W0).length c3) x _ _ rfl (SK.set _ _ _)) rfl ⟨⟨.slice a3 (ws W0).length c3,?_,NZ.mR SK (by decide) _ _ _⟩,cK au hsz (by omega) _ _ _⟩;rw[<-htA.o]
  first | rfl | simp[*])
theorem Dt {w:World}{a b:Option Addr}{ca cb:Nat}(n m:Bool) (X Y:Nat) (e f:Int) (size lX lY lH cut H tO W0 Lf WH:Nat) (t bb z x y1 y2:Int) (tt:Bool)
 (AX:Arg w a (ws X).length ca (ws X)) (AY:Arg w b (ws Y).length cb (ws Y))
 (he0:-1048576<=e) (he1:e<=1048576) (hf0:-1048576<=f) (hf1:f<=1048576) (hs:size<=1000) (Y8:bl Y=lY) (Y9:bl X=lX) (Za:bl H=lH) (bX:lX<=262144) (bY:lY<=262144) (bH:lH<=262144)
 (ht:(lY:Int)+(size:Int)-262144=t) (hcut:max t 0=(cut:Int)) (bcut:cut<=2000)
 (e1:aV Y (-(cut:Int))=(H,0)) (hbb:(lH:Int)+(size:Int)-(lX:Int)=bb) (e2:aV X bb=(tO,0)) (e3:oG tO H=(W0,Lf,0))
 (HL:Hid (∀ (u:World) (p q r s:Option Addr) (cp cq cr cs:Nat),Arg u p (ws W0).length cp (ws W0)->Arg u q (ws Lf).length cq (ws Lf)->Arg u r (ws Y).length cr (ws Y)->Arg u s (ws H).length cs (ws H)->At 164 #[.slice p (ws W0).length cp,.slice q (ws Lf).length cq,.slice r (ws Y).length cr,.slice s (ws H).length cs,.int .i64 (cut:Nat)] u (.int .i64 z)))
 (hz:decide (z<0)=true) (e4:oF W0 1=(WH,0))
 (h1:e-f=y1) (h2:y1-bb=y2) (h3:y2-(cut:Int)=x) (KV:(decide (z=0)&&decide (0<=bb))=tt)
 (l1:(ws H).length<=8192) (l2:(ws tO).length<=8192) (l3:(ws W0).length<=8192) (l4:(ws Lf).length<=8192) (l5:(ws WH).length<=8192) :
 As 127 #[.agg #[.bool n,.slice a (ws X).length ca,.int .i64 e,.bool m,.slice b (ws Y).length cb,.int .i64 f],.int .i64 (size:Nat)] w fun r w'=>(∃ v,r=.returned (.agg #[v,.int .i64 x,.bool tt])/\Nt w.heap.size w' v WH)/\An w w':=by
 obtain⟨W1,hW1⟩:=af ((w.alloc (.cells #[.bool n,.slice a (ws X).length ca,.int .i64 e,.bool m,.slice b (ws Y).length cb,.int .i64 f] 73)).alloc (.cells #[.slice none 0 0,.int .i64 0,.bool false] 135));obtain⟨hB,hz1,RQ,SK⟩:=zo w n _ e m _ f W1 hW1;have Dq:aV (val (ws Y)) (-(cut:Int))=(H,0):=by rw[aj];exact e1
 have e2':aV (val (ws X)) bb=(tO,0):=by rw[aj];exact e2
 have e3':oG (val (ws tO)) (val (ws H))=(W0,Lf,0):=by rw[aj,aj];exact e3
 have Zb:bl (val (ws Y))=lY:=by rw[aj];exact Y8
 have Zc:bl (val (ws X))=lX:=by rw[aj];exact Y9
 have Zd:bl (val (ws H))=lH:=by rw[aj];exact Za
 have E:=(iC Dq e2' e3' Zb Zc Zd);have SZ:=(aJ hz1 hB);have hs2:w.heap.size+2<=W1.heap.size:=by omega
 have e4':oF (val (ws W0)) (val (ws 1))=(WH,0):=by rw[aj,aj];exact e4
 have E4:=ak e4';have l1s:(ws 1).length<=8192:=by rw[sU];simp
 clear e4 e4';have hbel:=hB;have S0:=(dJ hbel (AX.below hB) (AY.below hB) RQ SK);clear hbel;clear e1 e2 e3 Dq e2' e3' Zb Zc Zd Y8 Y9 Za AX AY hB RQ SK hz1;go_enter Tryz.func127,Tryz.ntmps127
 go_upto_region 1 with fail
 rw[<-hW1];clear hW1;obtain⟨x0,x1,x2,x3,x4,x5⟩:=S0.o.r3.1.facts
 go_quiet (fail)
 clear x0 x1 x2 x3 x4 x5;generalize hV:World.drewN W1 _=V1;have hb:An W1 V1:=by rw[<-hV];exact Below.drewN' (aB _ _) _
 clear hV;obtain⟨au,AX,AY,RQ,SK⟩:=S0.o;have hbn:=au.trans (hb.mono au.size);have S1:=dJ hbn (AX.below hb) (AY.below hb) (RQ.below hb) (SK.below hb);clear au AX AY RQ SK;clear hb hbn S0;obtain⟨au,AX,AY,RQ,SK⟩:=S1.o;have HC:=hid (nG AY E.o.r3.1);clear au AX AY RQ SK;go_wp2_with fail;refine HC.o.mono ?_;rintro r u2 ⟨rfl,hb⟩;clear HC;obtain⟨au,AX,AY,RQ,SK⟩:=S1.o;have hbn:=au.trans (hb.mono au.size);have S2:=dJ hbn (AX.below hb) (AY.below hb) (RQ.below hb) (SK.below hb);clear au AX AY RQ SK;clear hb hbn S1;obtain⟨au,AX,AY,RQ,SK⟩:=S2.o;have HC:=hid (fo (-(cut:Int)) AY E.o.1 (by omega) (by omega));clear au AX AY RQ SK;go_wp2_with fail;refine HC.o.mono ?_;rintro r u3 ⟨v,rfl,hN,hb⟩;obtain⟨a1,c1,rfl,_⟩:=hN.arg (by omega);clear HC;obtain⟨au,AX,AY,RQ,SK⟩:=S2.o;have hbn:=au.trans (hb.mono au.size);have S3:=iC hbn (AX.below hb) (AY.below hb) (RQ.below hb) (SK.below hb) (hN.mono au.size);clear au AX AY RQ SK;clear hb hbn S2;clear hN;obtain⟨au,AX,AY,RQ,SK,NH⟩:=S3.o;have HC:=hid (nG (NH.aR (by omega)).2 E.o.r5);clear au AX AY RQ SK NH;go_wp2_with fail;refine HC.o.mono ?_;rintro r u4 ⟨rfl,hb⟩;clear HC;obtain⟨au,AX,AY,RQ,SK,NH⟩:=S3.o;have hbn:=au.trans (hb.mono au.size);have S4:=iC hbn (AX.below hb) (AY.below hb) (RQ.below hb) (SK.below hb) (NH.below hb);clear au AX AY RQ SK NH;clear hb hbn S3;obtain⟨au,AX,AY,RQ,SK,NH⟩:=S4.o;have HC:=hid (nG AX E.o.r4.1);clear au AX AY RQ SK NH;go_wp2_with fail;refine HC.o.mono ?_;rintro r u5 ⟨rfl,hb⟩;clear HC;obtain⟨au,AX,AY,RQ,SK,NH⟩:=S4.o;have hbn:=au.trans (hb.mono au.size);have S5:=iC hbn (AX.below hb) (AY.below hb) (RQ.below hb) (SK.below hb) (NH.below hb);clear au AX AY RQ SK NH;clear hb hbn S4;obtain⟨au,AX,AY,RQ,SK,NH⟩:=S5.o;have HC:=hid (fo bb AX E.o.2.1 (by omega) (by omega));clear au AX AY RQ SK NH;go_wp2_with fail;refine HC.o.mono ?_;rintro r u6 ⟨v,rfl,hN,hb⟩;obtain⟨a2,c2,rfl,_⟩:=hN.arg (by omega);clear HC;obtain⟨au,AX,AY,RQ,SK,NH⟩:=S5.o;have hbn:=au.trans (hb.mono au.size);have S6:=jY hbn (AX.below hb) (AY.below hb) (RQ.below hb) (SK.below hb) (NH.below hb) (hN.mono au.size);clear au AX AY RQ SK NH;clear hb hbn S5;clear hN;obtain⟨au,AX,AY,RQ,SK,NH,NV⟩:=S6.o;have HC:=hid (I9 (NV.aR (by omega)).2 (NH.aR (by omega)).2 E.o.r2.1);clear au AX AY RQ SK NH NV;go_wp2_with fail;refine HC.o.mono ?_;rintro r u7 ⟨v,v2,rfl,hN,hM,hb⟩;obtain⟨a3,c3,rfl,_⟩:=hN.arg (by omega);obtain⟨a4,c4,rfl,_⟩:=hM.arg (by omega);clear HC;obtain⟨au,AX,AY,RQ,SK,NH,NV⟩:=S6.o;have hbn:=au.trans (hb.mono au.size);have S7:=qb hbn (AX.below hb) (AY.below hb) (RQ.below hb) (SK.below hb) (NH.below hb) (hN.mono au.size) (hM.mono au.size);clear au AX AY RQ SK NH NV;clear hb hbn S6;clear hN hM;obtain⟨au,AX,AY,RQ,SK,NH,NW,NL⟩:=S7.o;have HC:=hid (HL.o u7 _ _ _ _ _ _ _ _ (NW.aR (by omega)).2 (NL.aR (by omega)).2 AY (NH.aR (by omega)).2);clear au AX AY RQ SK NH NW NL;go_wp2_with fail;refine HC.o.mono ?_;rintro r u8 ⟨rfl,hb⟩;clear HC;obtain⟨au,AX,AY,RQ,SK,NH,NW,NL⟩:=S7.o;have hbn:=au.trans (hb.mono au.size);have S8:=qb hbn (AX.below hb) (AY.below hb) (RQ.below hb) (SK.below hb) (NH.below hb) (NW.below hb) (NL.below hb);clear au AX AY RQ SK NH NW NL;clear hb hbn S7;obtain⟨au,AX,AY,RQ,SK,NH,NW,NL⟩:=S8.o;have HC:=hid (qA 1 u8 (by omega));clear au AX AY RQ SK NH NW NL;go_wp2_with fail;refine HC.o.mono ?_;rintro r u9 ⟨v,rfl,hN,hb⟩;obtain⟨a5,c5,rfl,_⟩:=hN.arg (by omega);clear HC;obtain⟨au,AX,AY,RQ,SK,NH,NW,NL⟩:=S8.o;have hbn:=au.trans (hb.mono au.size);have S9:=Rj hbn (AX.below hb) (AY.below hb) (RQ.below hb) (SK.below hb) (NH.below hb) (NW.below hb) (NL.below hb) (hN.mono au.size);clear au AX AY RQ SK NH NW NL;clear hb hbn S8;clear hN;obtain⟨au,AX,AY,RQ,SK,NH,NW,NL,NO⟩:=S9.o;have HC:=hid (vP (NW.aR (by omega)).2 (NO.aR (by omega)).2 E4.o);clear au AX AY RQ SK NH NW NL NO;go_wp2_with fail;refine HC.o.mono ?_;rintro r u10 ⟨v,rfl,hN,hb⟩;obtain⟨a6,c6,rfl,_⟩:=hN.arg (by omega);clear HC;obtain⟨au,AX,AY,RQ,SK,NH,NW,NL,NO⟩:=S9.o;have hbn:=au.trans (hb.mono au.size);have I5:=xZ hbn (AX.below hb) (AY.below hb) (RQ.below hb) (SK.below hb) (NH.below hb) (NW.below hb) (NL.below hb) (NO.below hb) (hN.mono au.size);clear au AX AY RQ SK NH NW NL NO;clear hb hbn S9;clear hN;obtain⟨au,AX,AY,RQ,SK,NH,NW,NL,NO,NR⟩:=I5.o;have hlast:=bO au NR SK;obtain⟨x0,x1,x2,x3,x4,x5⟩:=RQ.facts;obtain⟨s0,s1,s2,sH,sI,sJ⟩:=SK.facts;have hsz:=ak (SK.lt);clear au AX AY RQ SK NH NW NL NO NR;clear I5 E HL;have htA:=ak KV;clear KV;go_wp2
 all_goals (
  obtain⟨au,NZ,SK⟩:=hlast.o;have hsz:=au.size;refine aC (uJ _ (w.heap.size+1) (.slice a6 (ws WH).length c6) x _ _ rfl (SK.set _ _ _)) rfl ⟨⟨.slice a6 (ws WH).length c6,?_,NZ.mR SK (by decide) _ _ _⟩,cK au hsz (by omega) _ _ _⟩;rw[<-htA.o]
  first | rfl | simp[*])
theorem fU{X:Nat}(h:bl X<=262144):¬ LG X:=fun k=>by have:=(uE X).1 k;omega
theorem LJ{X Y V:Nat}(h1:¬ LG X)(h2:¬ LG Y)(h3:¬ LG V)(e:X*Y=V):j6 X Y=(V,0):=by subst e;unfold j6;rw[if_neg (by simp[h1,h2]),if_neg h3]
theorem cu{X:Nat}(h:bl X<=262144):(ws X).length<=8192:=by have:=fU h;unfold LG at this;omega
theorem dU{X k:Nat}(h:X<2^k):bl X<=k:=by
 by_cases h0:X=0
 · subst h0;rw[dD];omega
 · have:=(jD (a:=2) (by decide)).1 (fu (ib X h0) h);have:=dG X h0;omega
theorem mU{X Y:Nat}(h:X<=Y)(k:bl Y<=262144):bl X<=262144:=by
 have:=dU (fu h (iF Y));omega
theorem Du(x y:Nat):decide (bu x y<0)=decide (x<y):=by
 unfold bu
 by_cases h:x<y
 · simp[h]
 · by_cases h2:y<x <;> simp[h,h2]
theorem Py(x y:Nat):decide (bu x y=0)=decide (x=y):=by
 unfold bu
 by_cases h:x<y
 · have:x≠y:=by omega
   simp[h,this]
 · by_cases h2:y<x
   · have:x≠y:=by omega
     simp[h,h2,this]
   · have:x=y:=by omega
     simp[this]
theorem zt {w:World}{a b:Option Addr}{ca cb:Nat}(n m:Bool) (X Y:Nat) (e f:Int) (size:Nat)
 (AX:Arg w a (ws X).length ca (ws X)) (AY:Arg w b (ws Y).length cb (ws Y)) (hX:X=0\/X%2=1) (hY:Y≠0)
 (he0:-1048576<=e) (he1:e<=1048576) (hf0:-1048576<=f) (hf1:f<=1048576) (hs0:1<=size) (hs:size<=1000) (bX:bl X<=262144) (bY:bl Y<=262144) :
 As 127 #[.agg #[.bool n,.slice a (ws X).length ca,.int .i64 e,.bool m,.slice b (ws Y).length cb,.int .i64 f],.int .i64 (size:Nat)] w fun r w'=>(∃ v,r=.returned (.agg #[v,.int .i64 (e-f-lJ X Y size-fB Y size),.bool (oO X Y size)])/\Nt w.heap.size w' v (dS X Y size))/\An w w':=by
 have D:=iI X Y size hX hY hs0 hs bX bY;have wH:=dG Y hY;have cutb:fB Y size<=1000/\fB Y size<bl Y:=by unfold fB;omega
 have bH:bl (jk Y size)<=262144:=by have:=D.Vl;omega
 have hHc:bl (jk Y size)+size<=262144\/fB Y size=0:=by have:=D.Vl;unfold fB at *;omega
 have hbyb:-262144<=lJ X Y size/\lJ X Y size<=264000:=by unfold lJ;omega
 have WY:bl (pW X Y size)<=262144:=by
  have:=dU D.tO;have h2:bl (jk Y size)+size<=262144:=by have:=D.Vl;unfold fB at this;omega
  omega
 have Ze:bl (mQ X Y size)<=262144:=by have:=dU D.w0;omega
 have bLf:bl (p8 X Y size)<=262144:=mU (jf D.lef) bH;have e1:aV Y (-((fB Y size:Nat):Int))=(jk Y size,0):=tQ (fU bY) rfl
 have e2:aV X (lJ X Y size)=(pW X Y size,0):=by
  by_cases hb:lJ X Y size<0
  · have:=tQ (X:=X) (k:=(-lJ X Y size).toNat) (V:=pW X Y size) (fU bX) (by unfold pW;rw[if_pos hb]);rw[show -(((-lJ X Y size).toNat:Nat):Int)=lJ X Y size by omega] at this;exact this
  · have:=pK (X:=X) (k:=(lJ X Y size).toNat) (V:=pW X Y size) (fU bX) (by
     by_cases h0:X=0
     · exact .inl h0
     · right
       have h2:bl (jk Y size)+size<=262144:=by have:=D.Vl;unfold fB at this;omega
       unfold lJ at *;omega) (by unfold pW;rw[if_neg hb])
    rw[show(((lJ X Y size).toNat:Nat):Int)=lJ X Y size by omega] at this;exact this
 have e3:oG (pW X Y size) (jk Y size)=(mQ X Y size,p8 X Y size,0):=TE (fU WY) (fU bH) D.hig rfl rfl
 -- what cmpLow is asked
 have Zf:jk Y size*2^fB Y size<=Y:=D.low';have bBk:bl (jk Y size*2^fB Y size)<=262144:=mU Zf bY;have bLo:bl (Dn Y size)<=262144:=mU (yI _ _) bY
 have bTk:bl (oM X Y size)<=262144:=by
  have h1:oM X Y size<2^(size+1+fB Y size):=by
   unfold oM;rw[aL];exact qW D.w0 D.YY
  have:=dU h1;omega
 have bHs:bl (qG X Y size)<=262144:=by
  refine mU (Y:=Y) (cB ?_ Zf) bY;exact fQ _ (jf D.lef)
 have c1:aV (jk Y size) ((fB Y size:Nat):Int)=(jk Y size*2^fB Y size,0):=pK (fU bH) (.inr (by have:=D.Vl;omega)) rfl;have c2:oF Y (jk Y size*2^fB Y size)=(Dn Y size,0):=vR (fU bY) (fU bBk) (by unfold Dn;omega);have c3:j6 (mQ X Y size) (Dn Y size)=(oM X Y size,0):=LJ (fU Ze) (fU bLo) (fU bTk) rfl
 have c4:aV (p8 X Y size) ((fB Y size:Nat):Int)=(qG X Y size,0):=pK (fU bLf) (by
  by_cases h0:p8 X Y size=0
  · exact .inl h0
  · right
    have hlt:p8 X Y size<=jk Y size:=jf D.lef;have:=dU (fu hlt (iF (jk Y size)));have:=D.Vl
    omega) rfl
 have HC:Hid (∀ (u:World) (p q r s:Option Addr) (cp cq cr cs:Nat),Arg u p (ws (mQ X Y size)).length cp (ws (mQ X Y size))->Arg u q (ws (p8 X Y size)).length cq (ws (p8 X Y size))->Arg u r (ws Y).length cr (ws Y)->Arg u s (ws (jk Y size)).length cs (ws (jk Y size))->At 164 #[.slice p (ws (mQ X Y size)).length cp,.slice q (ws (p8 X Y size)).length cq,.slice r (ws Y).length cr,.slice s (ws (jk Y size)).length cs,.int .i64 ((fB Y size:Nat):Int)] u (.int .i64 (bu (qG X Y size) (oM X Y size)))) :=
  fun u p q r s cp cq cr cs A1 A2 A3 A4=>Gv _ _ _ _ (fB Y size) _ _ _ _ _ A1 A2 A3 A4 (by omega) c1 c2 c3 c4 rfl (cu bBk) (cu bLo) (cu bTk) (cu bHs)
 have KV:(decide (bu (qG X Y size) (oM X Y size)=0)&&decide (0<=lJ X Y size))=oO X Y size:=by rw[Py];rfl
 have hcut:max ((bl Y:Int)+(size:Int)-262144) 0=((fB Y size:Nat):Int):=by unfold fB;omega
 by_cases hlt:qG X Y size<oM X Y size
 · have hz:decide (bu (qG X Y size) (oM X Y size)<0)=true:=by rw[Du];exact decide_eq_true hlt
   have e4:oF (mQ X Y size) 1=(dS X Y size,0):=by
    refine vR (fU Ze) (fU (by decide)) ?_;have:=D.less hlt;unfold dS;rw[if_pos hlt];omega
   exact Dt n m X Y e f size (bl X) (bl Y) (bl (jk Y size)) (fB Y size) (jk Y size) (pW X Y size) (mQ X Y size) (p8 X Y size) (dS X Y size) _ (lJ X Y size) _ _ _ _ (oO X Y size) AX AY he0 he1 hf0 hf1 hs rfl rfl rfl bX bY bH rfl hcut (by omega) e1 rfl e2 e3 HC hz e4 rfl rfl rfl KV (cu bH) (cu WY) (cu Ze) (cu bLf) (cu (mU (Y:=mQ X Y size) (by unfold dS;rw[if_pos hlt];omega) Ze))
 · have hz:decide (bu (qG X Y size) (oM X Y size)<0)=false:=by rw[Du];exact decide_eq_false hlt
   have eW:dS X Y size=mQ X Y size:=by unfold dS;rw[if_neg hlt]
   rw[eW];exact Dp n m X Y e f size (bl X) (bl Y) (bl (jk Y size)) (fB Y size) (jk Y size) (pW X Y size) (mQ X Y size) (p8 X Y size) 0 _ (lJ X Y size) _ _ _ _ (oO X Y size) AX AY he0 he1 hf0 hf1 hs rfl rfl rfl bX bY bH rfl hcut (by omega) e1 rfl e2 e3 HC hz rfl rfl rfl KV (cu bH) (cu WY) (cu Ze) (cu bLf)
theorem xg(W:World)(g:Nat)(n:Bool)(v:Value)(e k:Int)(tmps:Array Value)(ht:tmps[4]?.getD undef=.pointer (some ⟨g,0,none⟩))(hk:tmps[5]?.getD undef=.int .i64 k)(D:Tk W g 37 (.bool n) v (.int .i64 e)) :
 (results Tryz.f126 tmps).run Tryz.prog W=.ok (.tuple #[.agg #[.bool n,v,.int .i64 e],.int .i64 k]) W:=by
 obtain⟨x0,x1,x2,_,_,_⟩:=D.facts;simp[results,Tryz.results126,ht,hk,go_sem,x0,x1,x2]
theorem zu(w:World)(v:Value)(x:Int)(t:Bool)(W:World)(hW:W=(w.alloc (.cells #[v,.int .i64 x,.bool t] 135)).alloc (.cells #[.bool false,.slice none 0 0,.int .i64 0] 37)) :
 An w W/\W.heap.size=w.heap.size+2/\Tk W w.heap.size 135 v (.int .i64 x) (.bool t)/\Tk W (w.heap.size+1) 37 (.bool false) (.slice none 0 0) (.int .i64 0):=by
 rw[hW];refine⟨(ae w _).alloc (by simp) _,by simp,(Tk.new _ _ _ _ _).alloc _,?_⟩;have:=Tk.new (w.alloc (.cells #[v,.int .i64 x,.bool t] 135)) 37 (.bool false) (.slice none 0 0) (.int .i64 0);simpa using this
theorem Gw {w:World}{a:Option Addr}{ca:Nat}(n:Bool) (W M2 M3:Nat) (x y E:Int) (dn:Bool) (V:Nat) (de er:Int) (AW:Arg w a (ws W).length ca (ws W)) (hx0:-10000000<=x) (hx1:x<=10000000)
 (e1:aV W 1=(M2,0)) (hy:x-1=y) (hE:min (max y (-4096)) 4096=E) (l2:(ws M2).length<=8192) (lV:(ws V).length<=8192)
 (HM:Hid (∀ (u:World) (p:Option Addr) (q:Nat),An w u->Arg u p (ws M2).length q (ws M2)->As 98 #[.bool n,.slice p (ws M2).length q,.int .i64 E] u fun r w'=>(∃ v,r=.returned (.tuple #[.agg #[.bool dn,v,.int .i64 de],.int .i64 er])/\Nt u.heap.size w' v V)/\An u w')) :
 As 126 #[.bool n,.agg #[.slice a (ws W).length ca,.int .i64 x,.bool true]] w fun r w'=>(∃ v,r=.returned (.tuple #[.agg #[.bool dn,v,.int .i64 de],.int .i64 er])/\Nt w.heap.size w' v V)/\An w w':=by
 obtain⟨W1,hW1⟩:=af ((w.alloc (.cells #[.slice a (ws W).length ca,.int .i64 x,.bool true] 135)).alloc (.cells #[.bool false,.slice none 0 0,.int .i64 0] 37));obtain⟨hB,hz1,SK,DK⟩:=zu w _ x true W1 hW1;have Dq:aV (val (ws W)) 1=(M2,0):=by rw[aj];exact e1
 have E1:=ak Dq;have hs2:w.heap.size+2<=W1.heap.size:=by omega
 have l1s:(ws 1).length<=8192:=by rw[sU];simp
 have hbel:=hB;have S0:=(fE hbel (AW.below hB) SK DK);clear hbel;clear e1 Dq AW hB SK DK hz1;go_enter Tryz.func126,Tryz.ntmps126;obtain⟨x0,x1,x2,_,_,_⟩:=S0.o.r2.1.facts;obtain⟨au,AW,SK,DK⟩:=S0.o;have HC:=hid (fo 1 AW E1.o (by omega) (by omega));clear au AW SK DK
 go_upto_region 1 with fail
 rw[<-hW1];clear hW1;go_wp2_with fail;clear x0 x1 x2;refine HC.o.mono ?_;rintro r u1 ⟨v,rfl,hN,hb⟩;obtain⟨a1,c1,rfl,_⟩:=hN.arg (by omega);clear HC;obtain⟨au,AW,SK,DK⟩:=S0.o;have hbn:=au.trans (hb.mono au.size);have S1:=dJ hbn (AW.below hb) (SK.below hb) (DK.below hb) (hN.mono au.size);clear au AW SK DK;clear hb hbn S0;clear hN;obtain⟨x0,x1,x2,_,_,_⟩:=S1.o.r2.1.facts;obtain⟨au,AW,SK,DK,N2⟩:=S1.o;have HC:=hid (HM.o u1 _ _ au (N2.aR (by omega)).2);clear au AW SK DK N2;go_wp2_with fail;clear x0 x1 x2;refine HC.o.mono ?_;rintro r u2 ⟨⟨v,rfl,hN⟩,hb⟩;obtain⟨a7,c7,rfl,_⟩:=hN.arg (by omega);clear HC;obtain⟨au,AW,SK,DK,N2⟩:=S1.o;have hbn:=au.trans (hb.mono au.size);have S2:=iC hbn (AW.below hb) (SK.below hb) (DK.below hb) (N2.below hb) (hN.mono au.size);clear au AW SK DK N2;clear hb hbn S1;clear hN;obtain⟨au,AW,SK,DK,N2,NV⟩:=S2.o;have hlast:=bO au NV DK;obtain⟨s0,s1,s2,sH,sI,sJ⟩:=DK.facts;clear au AW SK DK N2 NV;clear S2 HM;go_wp2;obtain⟨au,NZ,DK⟩:=hlast.o;have hsz:=au.size;exact aC (xg _ (w.heap.size+1) dn (.slice a7 (ws V).length c7) de er _ rfl rfl (DK.set _ _ _)) rfl ⟨⟨_,rfl,NZ.mR DK (by decide) _ _ _⟩,cK au hsz (by omega) _ _ _⟩
theorem LK {w:World}{a:Option Addr}{ca:Nat}(n:Bool) (W M2 M3:Nat) (x y E:Int) (dn:Bool) (V:Nat) (de er:Int) (AW:Arg w a (ws W).length ca (ws W)) (hx0:-10000000<=x) (hx1:x<=10000000)
 (e1:aV W 1=(M2,0)) (e2:uY M2 1=(M3,0)) (hy:x-1=y) (hE:min (max y (-4096)) 4096=E) (l2:(ws M2).length<=8192) (l3:(ws M3).length<=8192) (lV:(ws V).length<=8192)
 (HM:Hid (∀ (u:World) (p:Option Addr) (q:Nat),An w u->Arg u p (ws M3).length q (ws M3)->As 98 #[.bool n,.slice p (ws M3).length q,.int .i64 E] u fun r w'=>(∃ v,r=.returned (.tuple #[.agg #[.bool dn,v,.int .i64 de],.int .i64 er])/\Nt u.heap.size w' v V)/\An u w')) :
 As 126 #[.bool n,.agg #[.slice a (ws W).length ca,.int .i64 x,.bool false]] w fun r w'=>(∃ v,r=.returned (.tuple #[.agg #[.bool dn,v,.int .i64 de],.int .i64 er])/\Nt w.heap.size w' v V)/\An w w':=by
 obtain⟨W1,hW1⟩:=af ((w.alloc (.cells #[.slice a (ws W).length ca,.int .i64 x,.bool false] 135)).alloc (.cells #[.bool false,.slice none 0 0,.int .i64 0] 37));obtain⟨hB,hz1,SK,DK⟩:=zu w _ x false W1 hW1;have Dq:aV (val (ws W)) 1=(M2,0):=by rw[aj];exact e1
 have e2':uY (val (ws M2)) (val (ws 1))=(M3,0):=by rw[aj,aj];exact e2
 have E2:=ak e2';clear e2 e2';have E1:=ak Dq;have hs2:w.heap.size+2<=W1.heap.size:=by omega
 have l1s:(ws 1).length<=8192:=by rw[sU];simp
 have hbel:=hB;have S0:=(fE hbel (AW.below hB) SK DK);clear hbel;clear e1 Dq AW hB SK DK hz1;go_enter Tryz.func126,Tryz.ntmps126;obtain⟨x0,x1,x2,_,_,_⟩:=S0.o.r2.1.facts;obtain⟨au,AW,SK,DK⟩:=S0.o;have HC:=hid (fo 1 AW E1.o (by omega) (by omega));clear au AW SK DK
 go_upto_region 1 with fail
 rw[<-hW1];clear hW1;go_wp2_with fail;clear x0 x1 x2;refine HC.o.mono ?_;rintro r u1 ⟨v,rfl,hN,hb⟩;obtain⟨a1,c1,rfl,_⟩:=hN.arg (by omega);clear HC;obtain⟨au,AW,SK,DK⟩:=S0.o;have hbn:=au.trans (hb.mono au.size);have S1:=dJ hbn (AW.below hb) (SK.below hb) (DK.below hb) (hN.mono au.size);clear au AW SK DK;clear hb hbn S0;clear hN;obtain⟨x0,x1,x2,_,_,_⟩:=S1.o.r2.1.facts;obtain⟨au,AW,SK,DK,N2⟩:=S1.o;have HC:=hid (qA 1 u1 (by omega));clear au AW SK DK N2;go_wp2_with fail;clear x0 x1 x2;refine HC.o.mono ?_;rintro r u2 ⟨v,rfl,hN,hb⟩;obtain⟨a5,c5,rfl,_⟩:=hN.arg (by omega);clear HC;obtain⟨au,AW,SK,DK,N2⟩:=S1.o;have hbn:=au.trans (hb.mono au.size);have S2:=iC hbn (AW.below hb) (SK.below hb) (DK.below hb) (N2.below hb) (hN.mono au.size);clear au AW SK DK N2;clear hb hbn S1;clear hN;obtain⟨au,AW,SK,DK,N2,NO⟩:=S2.o;have HC:=hid (vO (N2.aR (by omega)).2 (NO.aR (by omega)).2 E2.o);clear au AW SK DK N2 NO;go_wp2_with fail;refine HC.o.mono ?_;rintro r u3 ⟨v,rfl,hN,hb⟩;obtain⟨a6,c6,rfl,_⟩:=hN.arg (by omega);clear HC;obtain⟨au,AW,SK,DK,N2,NO⟩:=S2.o;have hbn:=au.trans (hb.mono au.size);have S3:=jY hbn (AW.below hb) (SK.below hb) (DK.below hb) (N2.below hb) (NO.below hb) (hN.mono au.size);clear au AW SK DK N2 NO;clear hb hbn S2;clear hN;obtain⟨x0,x1,x2,_,_,_⟩:=S3.o.r2.1.facts;obtain⟨au,AW,SK,DK,N2,NO,N3⟩:=S3.o;have HC:=hid (HM.o u3 _ _ au (N3.aR (by omega)).2);clear au AW SK DK N2 NO N3;go_wp2_with fail;clear x0 x1 x2;refine HC.o.mono ?_;rintro r u4 ⟨⟨v,rfl,hN⟩,hb⟩;obtain⟨a7,c7,rfl,_⟩:=hN.arg (by omega);clear HC;obtain⟨au,AW,SK,DK,N2,NO,N3⟩:=S3.o;have hbn:=au.trans (hb.mono au.size);have S4:=qb hbn (AW.below hb) (SK.below hb) (DK.below hb) (N2.below hb) (NO.below hb) (N3.below hb) (hN.mono au.size);clear au AW SK DK N2 NO N3;clear hb hbn S3;clear hN;obtain⟨au,AW,SK,DK,N2,NO,N3,NV⟩:=S4.o;have hlast:=bO au NV DK;obtain⟨s0,s1,s2,sH,sI,sJ⟩:=DK.facts;clear au AW SK DK N2 NO N3 NV;clear S4 HM;go_wp2;obtain⟨au,NZ,DK⟩:=hlast.o;have hsz:=au.size;exact aC (xg _ (w.heap.size+1) dn (.slice a7 (ws V).length c7) de er _ rfl rfl (DK.set _ _ _)) rfl ⟨⟨_,rfl,NZ.mR DK (by decide) _ _ _⟩,cK au hsz (by omega) _ _ _⟩
theorem xh{w:World}{a:Option Addr}{ca:Nat}(n:Bool)(W:Nat)(x:Int)(t:Bool)(AW:Arg w a (ws W).length ca (ws W))(hT:dH w)(hx0:-10000000<=x)(hx1:x<=10000000)(hW:bl W<=1000) :
 As 126 #[.bool n,.agg #[.slice a (ws W).length ca,.int .i64 x,.bool t]] w fun r w'=>bN w.heap.size w' r (mkS n (2*W+(if t then 0 else 1)) (eF x))/\An w w':=by
 have hLW:¬ LG W:=fun k=>by have:=(uE W).1 k;omega
 have e1:aV W 1=(2*W,0):=by
  have:=pK (X:=W) (k:=1) (V:=2*W) hLW (.inr (by omega)) (by omega);simpa using this
 have b2:∀ d,d<=1->bl (2*W+d)<=1001:=by
  intro d hd;have h1:=iF W;have h2:2*W+d<2^(bl W+1):=by rw[iq];omega
  by_cases h0:2*W+d=0
  · rw[h0,dD];omega
  · have:=(jD (a:=2) (by decide)).1 (fu (ib _ h0) h2);have:=dG _ h0;omega
 have l8:∀ d,d<=1->(ws (2*W+d)).length<=8192/\¬ LG (2*W+d):=by
  intro d hd;have hb:=b2 d hd;have hn:¬ LG (2*W+d):=fun k=>by have:=(uE (2*W+d)).1 k;omega
  exact⟨by unfold LG at hn;omega,hn⟩
 have cl0:-4096<=eF x/\eF x<=4096:=by unfold eF;omega
 unfold bN;have hl:=aI n (2*W+(if t then 0 else 1)) (eF x)
 cases t with
 | true =>
   simp only[if_true,gW] at hl |-;refine Gw n W (2*W) 0 x _ _ _ _ _ _ AW hx0 hx1 e1 rfl rfl (l8 0 (by omega)).1 hl ?_;intro u p q hu hA;have:=ic hA (hT.belows hu) n (eF x) (by omega) (by omega);rw[aj] at this;exact this
 | false =>
   simp only[fe,if_false] at hl |-;refine LK n W (2*W) (2*W+1) x _ _ _ _ _ _ AW hx0 hx1 e1 (vQ (l8 1 (by omega)).2 rfl) rfl rfl (l8 0 (by omega)).1 (l8 1 (by omega)).1 hl ?_;intro u p q hu hA;have:=ic hA (hT.belows hu) n (eF x) (by omega) (by omega);rw[aj] at this;exact this
theorem jJ(w:World)(n:Bool)(v:Value)(e:Int)(m:Bool)(u:Value)(f:Int)(W:World)(hW:W=(w.alloc (.cells #[.bool n,v,.int .i64 e,.bool m,u,.int .i64 f] 73)).alloc (.cells #[.bool false,.slice none 0 0,.int .i64 0] 37)) :
 An w W/\W.heap.size=w.heap.size+2/\Rq W w.heap.size n v e m u f/\Tk W (w.heap.size+1) 37 (.bool false) (.slice none 0 0) (.int .i64 0):=by
 rw[hW];refine⟨(ae w _).alloc (by simp) _,by simp,(Rq.new _ _ _ _ _ _ _).alloc _,?_⟩;have:=Tk.new (w.alloc (.cells #[.bool n,v,.int .i64 e,.bool m,u,.int .i64 f] 73)) 37 (.bool false) (.slice none 0 0) (.int .i64 0);simpa using this
theorem rP(W:World)(g:Nat)(n:Bool)(v:Value)(e k:Int)(tmps:Array Value)(ht:tmps[2]?.getD undef=.pointer (some ⟨g,0,none⟩))(hk:tmps[3]?.getD undef=.int .i64 k)(D:Tk W g 37 (.bool n) v (.int .i64 e)) :
 (results Tryz.f81 tmps).run Tryz.prog W=.ok (.tuple #[.agg #[.bool n,v,.int .i64 e],.int .i64 k]) W:=by
 obtain⟨x0,x1,x2,_,_,_⟩:=D.facts;simp[results,Tryz.results81,ht,hk,go_sem,x0,x1,x2]
theorem yu {w:World}{a b:Option Addr}{la ca lb cb:Nat}(n m:Bool) (e f:Int) (WH:Nat) (x:Int) (tt:Bool) (dn:Bool) (V:Nat) (de er:Int) (lW:(ws WH).length<=8192) (lV:(ws V).length<=8192)
 (HD:Hid (∀ u,An w u->As 127 #[.agg #[.bool n,.slice a la ca,.int .i64 e,.bool m,.slice b lb cb,.int .i64 f],.int .i64 64] u fun r w'=>(∃ v,r=.returned (.agg #[v,.int .i64 x,.bool tt])/\Nt u.heap.size w' v WH)/\An u w'))
 (HI:Hid (∀ (u:World) (p:Option Addr) (q:Nat),An w u->Arg u p (ws WH).length q (ws WH)->As 126 #[.bool n,.agg #[.slice p (ws WH).length q,.int .i64 x,.bool tt]] u fun r w'=>(∃ v,r=.returned (.tuple #[.agg #[.bool dn,v,.int .i64 de],.int .i64 er])/\Nt u.heap.size w' v V)/\An u w')) :
 As 81 #[.agg #[.bool n,.slice a la ca,.int .i64 e,.bool m,.slice b lb cb,.int .i64 f]] w fun r w'=>(∃ v,r=.returned (.tuple #[.agg #[.bool dn,v,.int .i64 de],.int .i64 er])/\Nt w.heap.size w' v V)/\An w w':=by
 obtain⟨W1,hW1⟩:=af ((w.alloc (.cells #[.bool n,.slice a la ca,.int .i64 e,.bool m,.slice b lb cb,.int .i64 f] 73)).alloc (.cells #[.bool false,.slice none 0 0,.int .i64 0] 37));obtain⟨hB,hz1,RQ,DK⟩:=jJ w n _ e m _ f W1 hW1;have T1:=hid (HD.o W1 hB);have T2:=hid (HD.o W1.drew hB.drew);obtain⟨x0,x1,x2,x3,x4,x5⟩:=RQ.facts;obtain⟨s0,s1,s2,sH,sI,sJ⟩:=DK.facts;have hs1:w.heap.size+2<=W1.heap.size:=by omega
 have SB:=(bO hB RQ DK);clear hB hz1 RQ DK HD;go_enter Tryz.func81,Tryz.ntmps81;go_wp2_with fail;rw[<-hW1];clear hW1;have ne1:w.heap.size≠w.heap.size+1:=by omega
 have MO:w.heap.size+1≠w.heap.size:=by omega
 go_region_held3 (fun w'=>w'.cell? ⟨w.heap.size,0,none⟩=some (.bool n)/\w'.cell? ⟨w.heap.size,1,none⟩=some (.slice a la ca)/\w'.cell? ⟨w.heap.size,2,none⟩=some (.int .i64 e)/\w'.cell? ⟨w.heap.size,3,none⟩=some (.bool m)/\w'.cell? ⟨w.heap.size,4,none⟩=some (.slice b lb cb)/\w'.cell? ⟨w.heap.size,5,none⟩=some (.int .i64 f)) (go_keep) (first
  | (go_at_call 127
     first | with_reducible refine T1.o.mono ?_ | with_reducible refine T2.o.mono ?_
     rintro r u1 ⟨⟨v,rfl,hN⟩,hb⟩;obtain⟨a1,c1,rfl,_⟩:=hN.arg (by omega);have hb1:An W1 u1:=by first | exact hb | exact((aB _ W1).drew).trans (hb.mono (aA _))
     have BW:An w u1:=SB.o.1.trans (hb1.mono (by omega));have HI1:=hid (HI.o u1 _ _ BW (hN.aR (by omega)).2);obtain⟨p0,p1,p2,IP,IQ,IU⟩:=(SB.o.r2.below hb1).facts;obtain⟨q0,q1,q2,q3,q4,q5⟩:=(SB.o.2.1.below hb1).facts;have S1:=(bO BW (SB.o.2.1.below hb1) (SB.o.r2.below hb1))
     clear hb hb1 BW hN)
  | (go_at_call 126
     with_reducible refine HI1.o.mono ?_
     rintro r u2 ⟨⟨v,rfl,hN⟩,hb⟩;obtain⟨a4,c4,rfl,_⟩:=hN.arg (by omega);have LD:=S1.o.r2.below hb;obtain⟨t0,t1,t2,Ra,Rb,Rc⟩:=LD.facts;obtain⟨i0,i1,i2,i3,i4,i5⟩:=(S1.o.2.1.below hb).facts;have FV:=bO (S1.o.1.trans (hb.mono S1.o.1.size)) (hN.mono S1.o.1.size) LD
     clear hN hb LD))
 all_goals (
  go_wp2;obtain⟨au,NZ,DK⟩:=FV.o;have hsz:=au.size
  first
  | exact aC (rP _ (w.heap.size+1) dn (.slice a4 (ws V).length c4) de er _ rfl rfl (DK.set _ _ _)) rfl ⟨⟨_,rfl,NZ.mR DK (by decide) _ _ _⟩,cK au hsz (by omega) _ _ _⟩
  | exact aC (rP _ (w.heap.size+1) dn (.slice a4 (ws V).length c4) de er _ rfl rfl (DK.set _ _ _)) rfl ⟨⟨_,rfl,NZ.mR DK (by decide) _ _ _⟩,(cK au hsz (by omega) _ _ _).drew⟩)
theorem Be {w:World}{a b:Option Addr}{ca cb:Nat}(n m:Bool) (X Y:Nat) (e f:Int)
 (AX:Arg w a (ws X).length ca (ws X)) (AY:Arg w b (ws Y).length cb (ws Y)) (hT:dH w) (hX:X=0\/X%2=1) (hY:Y≠0)
 (he0:-1048576<=e) (he1:e<=1048576) (hf0:-1048576<=f) (hf1:f<=1048576) (bX:bl X<=262144) (bY:bl Y<=262144) :
 As 81 #[.agg #[.bool n,.slice a (ws X).length ca,.int .i64 e,.bool m,.slice b (ws Y).length cb,.int .i64 f]] w fun r w' =>
  bN w.heap.size w' r (mkS n (2*dS X Y 64+(if oO X Y 64 then 0 else 1)) (eF (e-f-lJ X Y 64-fB Y 64)))/\An w w':=by
 have D:=iI X Y 64 hX hY (by omega) (by omega) bX bY;have bW:bl (dS X Y 64)<=65:=dU D.most;have hc:fB Y 64<=64:=by unfold fB;omega
 have hb:-262144<=lJ X Y 64/\lJ X Y 64<=264000:=by have:=D.Vl;unfold lJ;omega
 unfold bN;refine yu n m e f (dS X Y 64) (e-f-lJ X Y 64-fB Y 64) (oO X Y 64) _ _ _ _ (cu (by omega)) (aI _ _ _) ?_ ?_
 · intro u hu;exact zt n m X Y e f 64 (AX.below hu) (AY.below hu) hX hY he0 he1 hf0 hf1 (by omega) (by omega) bX bY
 · intro u p q hu hA;exact xh n (dS X Y 64) _ (oO X Y 64) hA (hT.belows hu) (by omega) (by omega) (by omega)
theorem nH(W:World)(g:Nat)(v:Value)(x:Int)(t:Bool)(tmps:Array Value)(ht:tmps[2]?.getD undef=.pointer (some ⟨g,0,none⟩))(D:Tk W g 135 v (.int .i64 x) (.bool t)) :
 (results Tryz.f145 tmps).run Tryz.prog W=.ok (.agg #[v,.int .i64 x,.bool t]) W:=by
 obtain⟨x0,x1,x2,_,_,_⟩:=D.facts;simp[results,Tryz.results145,ht,go_sem,x0,x1,x2]
theorem Dv(w:World)(v:Value)(x:Int)(t:Bool)(W:World)(hW:W=(w.alloc (.cells #[v,.int .i64 x,.bool t] 135)).alloc (.cells #[.slice none 0 0,.int .i64 0,.bool false] 135)) :
 An w W/\W.heap.size=w.heap.size+2/\Tk W w.heap.size 135 v (.int .i64 x) (.bool t)/\Tk W (w.heap.size+1) 135 (.slice none 0 0) (.int .i64 0) (.bool false):=by
 rw[hW];refine⟨(ae w _).alloc (by simp) _,by simp,(Tk.new _ _ _ _ _).alloc _,?_⟩;have:=Tk.new (w.alloc (.cells #[v,.int .i64 x,.bool t] 135)) 135 (.slice none 0 0) (.int .i64 0) (.bool false);simpa using this
theorem Gx{w:World}{a:Option Addr}{ca:Nat}(W H:Nat)(x y:Int)(AW:Arg w a (ws W).length ca (ws W))(hx0:-10000000<=x)(hx1:x<=10000000)(e1:aV W (-1)=(H,0))(hy:x+1=y)(l2:(ws H).length<=8192)(b:Bool)(hb0:decide (W/2^0%2=1)=b) :
 As 145 #[.agg #[.slice a (ws W).length ca,.int .i64 x,.bool true]] w fun r w'=>(∃ v,r=.returned (.agg #[v,.int .i64 y,.bool (!b)])/\Nt w.heap.size w' v H)/\An w w':=by
 obtain⟨W1,hW1⟩:=af ((w.alloc (.cells #[.slice a (ws W).length ca,.int .i64 x,.bool true] 135)).alloc (.cells #[.slice none 0 0,.int .i64 0,.bool false] 135));obtain⟨hB,hz1,SK,RK⟩:=Dv w _ x true W1 hW1;have Dq:aV (val (ws W)) (-1)=(H,0):=by rw[aj];exact e1
 have HC:=hid (fo (-1) (AW.below hB) Dq (by omega) (by omega));obtain⟨x0,x1,x2,_,_,_⟩:=SK.facts;have hs2:w.heap.size+2<=W1.heap.size:=by omega
 have S0:=(fE hB SK RK (AW.below hB));clear hB SK RK AW hz1 e1 Dq;go_enter Tryz.func145,Tryz.ntmps145
 go_upto_region 1 with fail
 rw[<-hW1];clear hW1;go_wp2_with fail;clear x0 x1 x2;refine HC.o.mono ?_;rintro r u1 ⟨v,rfl,hN,hb⟩;obtain⟨a1,c1,rfl,_⟩:=hN.arg (by omega);clear HC;obtain⟨au,SK,RK,AW⟩:=S0.o;obtain⟨x0,x1,x2,_,_,_⟩:=(SK.below hb).facts;obtain⟨s0,s1,s2,sH,sI,sJ⟩:=(RK.below hb).facts;have S1:=(bO (au.trans (hb.mono au.size)) (RK.below hb) (hN.mono au.size))
 have HB1:∀ w',w'=u1\/w'=u1.drew->As 179 #[.slice a (ws W).length ca,.int .i64 0] w' fun r w''=>r=.returned (.bool b)/\w''=w':=by
  intro w' hw;have:=rD (ws W) a (ws W).length ca w'.heap.size 0 w' rfl (AW.below hb).wf (by rcases hw with rfl | rfl;exact(AW.below hb).rd;exact(AW.below hb).rd) (by omega);rw[aj,hb0] at this;exact this
 have HB:=hid HB1;clear HB1 hb0;have hwy:IntKind.i64.wrap y=y:=by simp[IntKind.wrap,IntKind.bits,IntKind.signed];omega
 have ne1:w.heap.size≠w.heap.size+1:=by omega
 have MO:w.heap.size+1≠w.heap.size:=by omega
 clear au SK RK AW hN S0 hb;go_wp2_with fail
 go_region_held3 (fun w'=>w'.cell? ⟨w.heap.size,0,none⟩=some (.slice a (ws W).length ca)/\w'.cell? ⟨w.heap.size,1,none⟩=some (.int .i64 x)/\w'.cell? ⟨w.heap.size,2,none⟩=some (.bool true)) (go_keep) (first
  | (go_at_call 179
     with_reducible refine(HB.o _ (by first | exact .inl rfl | exact .inr rfl)).mono ?_
     rintro r u2 ⟨rfl,rfl⟩))
 all_goals (
  go_wp2;obtain⟨au,RK,NZ⟩:=S1.o;have hsz:=au.size
  first
  | exact aC (nH _ (w.heap.size+1) (.slice a1 (ws H).length c1) y _ _ rfl (RK.set _ _ _)) rfl ⟨⟨_,rfl,NZ.mR RK (by decide) _ _ _⟩,cK au hsz (by omega) _ _ _⟩
  | exact aC (nH _ (w.heap.size+1) (.slice a1 (ws H).length c1) y _ _ rfl (RK.set _ _ _)) rfl ⟨⟨_,rfl,NZ.mR RK (by decide) _ _ _⟩,(cK au hsz (by omega) _ _ _).drew⟩)
theorem LM{w:World}{a:Option Addr}{ca:Nat}(W H:Nat)(x y:Int)(AW:Arg w a (ws W).length ca (ws W))(hx0:-10000000<=x)(hx1:x<=10000000)(e1:aV W (-1)=(H,0))(hy:x+1=y)(l2:(ws H).length<=8192) :
 As 145 #[.agg #[.slice a (ws W).length ca,.int .i64 x,.bool false]] w fun r w'=>(∃ v,r=.returned (.agg #[v,.int .i64 y,.bool false])/\Nt w.heap.size w' v H)/\An w w':=by
 obtain⟨W1,hW1⟩:=af ((w.alloc (.cells #[.slice a (ws W).length ca,.int .i64 x,.bool false] 135)).alloc (.cells #[.slice none 0 0,.int .i64 0,.bool false] 135));obtain⟨hB,hz1,SK,RK⟩:=Dv w _ x false W1 hW1;have Dq:aV (val (ws W)) (-1)=(H,0):=by rw[aj];exact e1
 have HC:=hid (fo (-1) (AW.below hB) Dq (by omega) (by omega));obtain⟨x0,x1,x2,_,_,_⟩:=SK.facts;have hs2:w.heap.size+2<=W1.heap.size:=by omega
 have S0:=(fE hB SK RK (AW.below hB));clear hB SK RK AW hz1 e1 Dq;go_enter Tryz.func145,Tryz.ntmps145
 go_upto_region 1 with fail
 rw[<-hW1];clear hW1;go_wp2_with fail;clear x0 x1 x2;refine HC.o.mono ?_;rintro r u1 ⟨v,rfl,hN,hb⟩;obtain⟨a1,c1,rfl,_⟩:=hN.arg (by omega);clear HC;obtain⟨au,SK,RK,AW⟩:=S0.o;obtain⟨x0,x1,x2,_,_,_⟩:=(SK.below hb).facts;obtain⟨s0,s1,s2,sH,sI,sJ⟩:=(RK.below hb).facts;have S1:=(bO (au.trans (hb.mono au.size)) (RK.below hb) (hN.mono au.size));have hwy:IntKind.i64.wrap y=y:=by simp[IntKind.wrap,IntKind.bits,IntKind.signed];omega
 have ne1:w.heap.size≠w.heap.size+1:=by omega
 have MO:w.heap.size+1≠w.heap.size:=by omega
 clear au SK RK AW hN S0 hb;go_wp2_with fail
 go_region
 all_goals (
  go_wp2;obtain⟨au,RK,NZ⟩:=S1.o;have hsz:=au.size
  first
  | exact aC (nH _ (w.heap.size+1) (.slice a1 (ws H).length c1) y _ _ rfl (RK.set _ _ _)) rfl ⟨⟨_,rfl,NZ.mR RK (by decide) _ _ _⟩,cK au hsz (by omega) _ _ _⟩
  | exact aC (nH _ (w.heap.size+1) (.slice a1 (ws H).length c1) y _ _ rfl (RK.set _ _ _)) rfl ⟨⟨_,rfl,NZ.mR RK (by decide) _ _ _⟩,(cK au hsz (by omega) _ _ _).drew⟩)
theorem jv(W:World)(g:Nat)(n:Bool)(v:Value)(e k:Int)(tmps:Array Value)(ht:tmps[2]?.getD undef=.pointer (some ⟨g,0,none⟩))(hk:tmps[3]?.getD undef=.int .i64 k)(D:Tk W g 37 (.bool n) v (.int .i64 e)) :
 (results Tryz.f100 tmps).run Tryz.prog W=.ok (.tuple #[.agg #[.bool n,v,.int .i64 e],.int .i64 k]) W:=by
 obtain⟨x0,x1,x2,_,_,_⟩:=D.facts;simp[results,Tryz.results100,ht,hk,go_sem,x0,x1,x2]
theorem Pz{w:World}{a b:Option Addr}{la ca lb cb:Nat}(m:Bool)(e f:Int) :
 At 100 #[.agg #[.bool true,.slice a la ca,.int .i64 e,.bool m,.slice b lb cb,.int .i64 f]] w (.tuple #[.agg #[.bool false,.slice none 0 0,.int .i64 0],.int .i64 110]):=by
 obtain⟨W1,hW1⟩:=af ((w.alloc (.cells #[.bool true,.slice a la ca,.int .i64 e,.bool m,.slice b lb cb,.int .i64 f] 73)).alloc (.cells #[.bool false,.slice none 0 0,.int .i64 0] 37));obtain⟨hB,hz1,RQ,DK⟩:=jJ w true _ e m _ f W1 hW1;obtain⟨x0,x1,x2,x3,x4,x5⟩:=RQ.facts;obtain⟨s0,s1,s2,sH,sI,sJ⟩:=DK.facts;have SB:=(aJ hB DK);clear hB hz1 RQ DK;go_enter Tryz.func100,Tryz.ntmps100
 go_upto_region 1 with fail
 rw[<-hW1];clear hW1;go_wp2;obtain⟨au,DK⟩:=SB.o;exact aC (jv _ (w.heap.size+1) false (.slice none 0 0) 0 110 _ rfl rfl (DK.set _ _ _)) rfl ⟨rfl,cK au au.size (by omega) _ _ _⟩
theorem Bf {w:World}{a b:Option Addr}{la ca lb cb:Nat}(m:Bool) (e f:Int) (WH H R L lL:Nat) (x y h:Int) (tt bL:Bool) (dn:Bool) (V:Nat) (de er:Int) (lW:(ws WH).length<=8192) (lH:(ws H).length<=8192) (lR:(ws R).length<=8192) (lLL:(ws L).length<=8192) (lV:(ws V).length<=8192)
 (hx0:-10000000<=x) (hx1:x<=10000000) (WZ:(x.tmod 2==0)=true) (hh:x.tdiv 2=h) (hh0:-10000000<=h) (hh1:h<=10000000)
 (HD:Hid (∀ u,An w u->As 127 #[.agg #[.bool false,.slice a la ca,.int .i64 e,.bool m,.slice b lb cb,.int .i64 f],.int .i64 129] u fun r w'=>(∃ v,r=.returned (.agg #[v,.int .i64 x,.bool true])/\Nt u.heap.size w' v WH)/\An u w'))
 (HR:Hid (∀ (u:World) (p:Option Addr) (q:Nat),Arg u p (ws WH).length q (ws WH)->As 146 #[.slice p (ws WH).length q] u fun r w'=>∃ v v',r=.returned (.tuple #[v,v'])/\Nt u.heap.size w' v R/\Nt u.heap.size w' v' L/\An u w'))
 (HL:Hid (∀ (u:World) (p:Option Addr) (q:Nat),Arg u p (ws L).length q (ws L)->At 86 #[.slice p (ws L).length q] u (.int .i64 (lL:Nat)))) (hlL:((lL:Int)==0)=bL) (hlL2:(lL==0)=bL)
 (HI:Hid (∀ (u:World) (p:Option Addr) (q:Nat),An w u->Arg u p (ws R).length q (ws R)->As 126 #[.bool false,.agg #[.slice p (ws R).length q,.int .i64 h,.bool bL]] u fun r w'=>(∃ v,r=.returned (.tuple #[.agg #[.bool dn,v,.int .i64 de],.int .i64 er])/\Nt u.heap.size w' v V)/\An u w')) :
 As 100 #[.agg #[.bool false,.slice a la ca,.int .i64 e,.bool m,.slice b lb cb,.int .i64 f]] w fun r w'=>(∃ v,r=.returned (.tuple #[.agg #[.bool dn,v,.int .i64 de],.int .i64 er])/\Nt w.heap.size w' v V)/\An w w':=by
 obtain⟨W1,hW1⟩:=af ((w.alloc (.cells #[.bool false,.slice a la ca,.int .i64 e,.bool m,.slice b lb cb,.int .i64 f] 73)).alloc (.cells #[.bool false,.slice none 0 0,.int .i64 0] 37));obtain⟨hB,hz1,RQ,DK⟩:=jJ w false _ e m _ f W1 hW1;have T1:=hid (HD.o W1 hB);obtain⟨x0,x1,x2,x3,x4,x5⟩:=RQ.facts;have hs1:w.heap.size+2<=W1.heap.size:=by omega
 have SB:=(aJ hB DK);clear hB hz1 RQ DK HD;go_enter Tryz.func100,Tryz.ntmps100
 go_upto_region 1 with fail
 rw[<-hW1];clear hW1;go_wp2_with fail;clear x0 x1 x2 x3 x4 x5;refine T1.o.mono ?_;rintro r u1 ⟨⟨v,rfl,hN⟩,hb⟩;obtain⟨a1,c1,rfl,_⟩:=hN.arg (by omega);clear T1;obtain⟨U1,aQ⟩:=af (u1.alloc (.cells #[.slice a1 (ws WH).length c1,.int .i64 x,.bool true] 135));have iU:An u1 U1:=by rw[aQ];exact ae _ _
 have SK:Tk U1 u1.heap.size 135 (.slice a1 (ws WH).length c1) (.int .i64 x) (.bool true):=by rw[aQ];exact Tk.new _ _ _ _ _
 obtain⟨au,DK⟩:=SB.o;have bb:=au.trans (hb.mono au.size);obtain⟨gS,PD⟩:∃ g,u1.heap.size=g:=⟨_,rfl⟩;have W9:w.heap.size+2<=gS:=by have:=DK.lt;have:=hb.size;omega
 rw[PD] at SK;have S1:=(fE (bb.trans (iU.mono bb.size)) ((DK.below hb).below iU) ((hN.below iU).mono au.size) SK);obtain⟨x0,x1,x2,bE,bF,bG⟩:=SK.facts;clear au DK bb hb iU hN SK SB
 go_upto_region 4 with fail
 rw[<-aQ];clear aQ PD;have HC:=hid (HR.o U1 a1 c1 (S1.o.r2.1.aR (by omega)).2);go_wp2_with fail;clear x0 x1 x2 bE bF bG;refine HC.o.mono ?_;rintro r u3 ⟨v,v',rfl,hN,hM,hb⟩;obtain⟨a3,c3,rfl,_⟩:=hN.arg (by omega);obtain⟨a4,c4,rfl,_⟩:=hM.arg (by omega);clear HC HR;obtain⟨au,DK,NW,SK⟩:=S1.o;have bb:=au.trans (hb.mono au.size);have uZ:=SK.below hb;have Gy:=DK.below hb;obtain⟨x0,x1,x2,bE,bF,bG⟩:=uZ.facts;obtain⟨s0,s1,s2,sH,sI,sJ⟩:=Gy.facts;have hwh:IntKind.i64.wrap h=h:=by simp[IntKind.wrap,IntKind.bits,IntKind.signed];omega
 have S3:=(dJ bb Gy (hN.mono au.size) (hM.mono au.size) uZ);have ne1:gS≠w.heap.size+1:=by omega
 have MO:w.heap.size+1≠gS:=by omega
 have L1:=hid (HL.o u3 a4 c4 (S3.o.r3.1.aR (by omega)).2);have L2:=hid (HL.o u3.drew a4 c4 ((S3.o.r3.1.below ((aB _ u3).drew)).aR (by omega)).2);clear au DK NW SK bb hb hN hM uZ Gy S1;go_wp2_with fail
 go_region_held3 (fun w'=>w'.cell? ⟨gS,0,none⟩=some (.slice a1 (ws WH).length c1)/\w'.cell? ⟨gS,1,none⟩=some (.int .i64 x)/\w'.cell? ⟨gS,2,none⟩=some (.bool true)) (go_keep) (first
  | (go_at_call 86
     first | with_reducible refine L1.o.mono ?_ | with_reducible refine L2.o.mono ?_
     rintro r u4 ⟨rfl,hb⟩;have hb1:An u3 u4:=by first | exact hb | exact((aB _ u3).drew).trans (hb.mono (aA _))
     obtain⟨au,DK,NR,NL,SK⟩:=S3.o;have bb:=au.trans (hb1.mono au.size);have I1:=hid (HI.o u4 a3 c3 bb ((NR.below hb1).aR (by omega)).2);have S4:=(bO bb (DK.below hb1) (SK.below hb1));obtain⟨p0,p1,p2,IP,IQ,IU⟩:=(SK.below hb1).facts;obtain⟨q0,q1,q2,zb,ze,zf⟩:=(DK.below hb1).facts
     clear hb hb1 bb au DK NR NL SK)
  | (go_at_call 126
     with_reducible refine I1.o.mono ?_
     rintro r u5 ⟨⟨v,rfl,hN⟩,hb⟩;obtain⟨a7,c7,rfl,_⟩:=hN.arg (by omega);obtain⟨au,DK,SK⟩:=S4.o;obtain⟨i0,i1,i2,OH,OI,OJ⟩:=(SK.below hb).facts;obtain⟨t0,t1,t2,Ra,Rb,Rc⟩:=(DK.below hb).facts;have FV:=(bO (au.trans (hb.mono au.size)) (hN.mono au.size) (DK.below hb))
     clear hN hb au DK SK))
 all_goals (
  go_wp2;obtain⟨au,NZ,DK⟩:=FV.o;have hsz:=au.size
  first
  | exact aC (jv _ (w.heap.size+1) dn (.slice a7 (ws V).length c7) de er _ rfl rfl (DK.set _ _ _)) rfl ⟨⟨_,rfl,NZ.mR DK (by decide) _ _ _⟩,cK au hsz (by omega) _ _ _⟩
  | exact aC (jv _ (w.heap.size+1) dn (.slice a7 (ws V).length c7) de er _ rfl rfl (DK.set _ _ _)) rfl ⟨⟨_,rfl,NZ.mR DK (by decide) _ _ _⟩,(cK au hsz (by omega) _ _ _).drew⟩)
theorem Bg {w:World}{a b:Option Addr}{la ca lb cb:Nat}(m:Bool) (e f:Int) (WH H R L lL:Nat) (x y h:Int) (tt bL:Bool) (dn:Bool) (V:Nat) (de er:Int) (lW:(ws WH).length<=8192) (lH:(ws H).length<=8192) (lR:(ws R).length<=8192) (lLL:(ws L).length<=8192) (lV:(ws V).length<=8192)
 (hx0:-10000000<=x) (hx1:x<=10000000) (WZ:(x.tmod 2==0)=true) (hh:x.tdiv 2=h) (hh0:-10000000<=h) (hh1:h<=10000000)
 (HD:Hid (∀ u,An w u->As 127 #[.agg #[.bool false,.slice a la ca,.int .i64 e,.bool m,.slice b lb cb,.int .i64 f],.int .i64 129] u fun r w'=>(∃ v,r=.returned (.agg #[v,.int .i64 x,.bool false])/\Nt u.heap.size w' v WH)/\An u w'))
 (HR:Hid (∀ (u:World) (p:Option Addr) (q:Nat),Arg u p (ws WH).length q (ws WH)->As 146 #[.slice p (ws WH).length q] u fun r w'=>∃ v v',r=.returned (.tuple #[v,v'])/\Nt u.heap.size w' v R/\Nt u.heap.size w' v' L/\An u w'))
 (HI:Hid (∀ (u:World) (p:Option Addr) (q:Nat),An w u->Arg u p (ws R).length q (ws R)->As 126 #[.bool false,.agg #[.slice p (ws R).length q,.int .i64 h,.bool false]] u fun r w'=>(∃ v,r=.returned (.tuple #[.agg #[.bool dn,v,.int .i64 de],.int .i64 er])/\Nt u.heap.size w' v V)/\An u w')) :
 As 100 #[.agg #[.bool false,.slice a la ca,.int .i64 e,.bool m,.slice b lb cb,.int .i64 f]] w fun r w'=>(∃ v,r=.returned (.tuple #[.agg #[.bool dn,v,.int .i64 de],.int .i64 er])/\Nt w.heap.size w' v V)/\An w w':=by
 obtain⟨W1,hW1⟩:=af ((w.alloc (.cells #[.bool false,.slice a la ca,.int .i64 e,.bool m,.slice b lb cb,.int .i64 f] 73)).alloc (.cells #[.bool false,.slice none 0 0,.int .i64 0] 37));obtain⟨hB,hz1,RQ,DK⟩:=jJ w false _ e m _ f W1 hW1;have T1:=hid (HD.o W1 hB);obtain⟨x0,x1,x2,x3,x4,x5⟩:=RQ.facts;have hs1:w.heap.size+2<=W1.heap.size:=by omega
 have SB:=(aJ hB DK);clear hB hz1 RQ DK HD;go_enter Tryz.func100,Tryz.ntmps100
 go_upto_region 1 with fail
 rw[<-hW1];clear hW1;go_wp2_with fail;clear x0 x1 x2 x3 x4 x5;refine T1.o.mono ?_;rintro r u1 ⟨⟨v,rfl,hN⟩,hb⟩;obtain⟨a1,c1,rfl,_⟩:=hN.arg (by omega);clear T1;obtain⟨U1,aQ⟩:=af (u1.alloc (.cells #[.slice a1 (ws WH).length c1,.int .i64 x,.bool false] 135));have iU:An u1 U1:=by rw[aQ];exact ae _ _
 have SK:Tk U1 u1.heap.size 135 (.slice a1 (ws WH).length c1) (.int .i64 x) (.bool false):=by rw[aQ];exact Tk.new _ _ _ _ _
 obtain⟨au,DK⟩:=SB.o;have bb:=au.trans (hb.mono au.size);obtain⟨gS,PD⟩:∃ g,u1.heap.size=g:=⟨_,rfl⟩;have W9:w.heap.size+2<=gS:=by have:=DK.lt;have:=hb.size;omega
 rw[PD] at SK;have S1:=(fE (bb.trans (iU.mono bb.size)) ((DK.below hb).below iU) ((hN.below iU).mono au.size) SK);obtain⟨x0,x1,x2,bE,bF,bG⟩:=SK.facts;clear au DK bb hb iU hN SK SB
 go_upto_region 4 with fail
 rw[<-aQ];clear aQ PD;have HC:=hid (HR.o U1 a1 c1 (S1.o.r2.1.aR (by omega)).2);go_wp2_with fail;clear x0 x1 x2 bE bF bG;refine HC.o.mono ?_;rintro r u3 ⟨v,v',rfl,hN,hM,hb⟩;obtain⟨a3,c3,rfl,_⟩:=hN.arg (by omega);obtain⟨a4,c4,rfl,_⟩:=hM.arg (by omega);clear HC HR;obtain⟨au,DK,NW,SK⟩:=S1.o;have bb:=au.trans (hb.mono au.size);have uZ:=SK.below hb;have Gy:=DK.below hb;obtain⟨x0,x1,x2,bE,bF,bG⟩:=uZ.facts;obtain⟨s0,s1,s2,sH,sI,sJ⟩:=Gy.facts;have hwh:IntKind.i64.wrap h=h:=by simp[IntKind.wrap,IntKind.bits,IntKind.signed];omega
 have S3:=(dJ bb Gy (hN.mono au.size) (hM.mono au.size) uZ);have ne1:gS≠w.heap.size+1:=by omega
 have MO:w.heap.size+1≠gS:=by omega
 have I1:=hid (HI.o u3 a3 c3 S3.o.1 (S3.o.r2.1.aR (by omega)).2);have I2:=hid (HI.o u3.drew a3 c3 S3.o.1.drew ((S3.o.r2.1.below ((aB _ u3).drew)).aR (by omega)).2);clear au DK NW SK bb hb hN hM uZ Gy S1;go_wp2_with fail
 first | (go_region_with (first
  | (go_at_call 126
     first | with_reducible refine I1.o.mono ?_ | with_reducible refine I2.o.mono ?_
     rintro r u5 ⟨⟨v,rfl,hN⟩,hb⟩;have hb1:An u3 u5:=by first | exact hb | exact((aB _ u3).drew).trans (hb.mono (aA _))
     obtain⟨a7,c7,rfl,_⟩:=hN.arg (by omega);obtain⟨au,DK,NR,NL,SK⟩:=S3.o;obtain⟨i0,i1,i2,OH,OI,OJ⟩:=(SK.below hb1).facts;obtain⟨t0,t1,t2,Ra,Rb,Rc⟩:=(DK.below hb1).facts;have hN':Nt w.heap.size u5 (.slice a7 (ws V).length c7) V:=hN.mono au.size;have FV:=(bO (au.trans (hb1.mono au.size)) hN' (DK.below hb1))
     clear hN hN' hb hb1 au DK SK NR NL))) | fail
 all_goals (
  go_wp2;obtain⟨au,NZ,DK⟩:=FV.o;have hsz:=au.size
  first
  | exact aC (jv _ (w.heap.size+1) dn (.slice a7 (ws V).length c7) de er _ rfl rfl (DK.set _ _ _)) rfl ⟨⟨_,rfl,NZ.mR DK (by decide) _ _ _⟩,cK au hsz (by omega) _ _ _⟩
  | exact aC (jv _ (w.heap.size+1) dn (.slice a7 (ws V).length c7) de er _ rfl rfl (DK.set _ _ _)) rfl ⟨⟨_,rfl,NZ.mR DK (by decide) _ _ _⟩,(cK au hsz (by omega) _ _ _).drew⟩)
theorem j9{P:Prop}(h:P:=by
 rw[dM];exact⟨cK bb bb.size (by omega) _ _ _,(DK.below hb).but (lh _ _ _ _ _) (by omega),(hN.mono au.size).mR uZ (by decide) _ _ _,uZ.set _ _ _⟩):P:=h
theorem Dw {w:World}{a b:Option Addr}{la ca lb cb:Nat}(m:Bool) (e f:Int) (WH H R L lL:Nat) (x y h:Int) (tt bL:Bool) (dn:Bool) (V:Nat) (de er:Int) (lW:(ws WH).length<=8192) (lH:(ws H).length<=8192) (lR:(ws R).length<=8192) (lLL:(ws L).length<=8192) (lV:(ws V).length<=8192)
 (hx0:-10000000<=y) (hx1:y<=10000000) (WZ:(x.tmod 2==0)=false) (hh:y.tdiv 2=h) (hh0:-10000000<=h) (hh1:h<=10000000)
 (HD:Hid (∀ u,An w u->As 127 #[.agg #[.bool false,.slice a la ca,.int .i64 e,.bool m,.slice b lb cb,.int .i64 f],.int .i64 129] u fun r w'=>(∃ v,r=.returned (.agg #[v,.int .i64 x,.bool tt])/\Nt u.heap.size w' v WH)/\An u w'))
 (HH:Hid (∀ (u:World) (p:Option Addr) (q:Nat),Arg u p (ws WH).length q (ws WH)->As 145 #[.agg #[.slice p (ws WH).length q,.int .i64 x,.bool tt]] u fun r w'=>(∃ v,r=.returned (.agg #[v,.int .i64 y,.bool true])/\Nt u.heap.size w' v H)/\An u w'))
 (HR:Hid (∀ (u:World) (p:Option Addr) (q:Nat),Arg u p (ws H).length q (ws H)->As 146 #[.slice p (ws H).length q] u fun r w'=>∃ v v',r=.returned (.tuple #[v,v'])/\Nt u.heap.size w' v R/\Nt u.heap.size w' v' L/\An u w'))
 (HL:Hid (∀ (u:World) (p:Option Addr) (q:Nat),Arg u p (ws L).length q (ws L)->At 86 #[.slice p (ws L).length q] u (.int .i64 (lL:Nat)))) (hlL:((lL:Int)==0)=bL) (hlL2:(lL==0)=bL)
 (HI:Hid (∀ (u:World) (p:Option Addr) (q:Nat),An w u->Arg u p (ws R).length q (ws R)->As 126 #[.bool false,.agg #[.slice p (ws R).length q,.int .i64 h,.bool bL]] u fun r w'=>(∃ v,r=.returned (.tuple #[.agg #[.bool dn,v,.int .i64 de],.int .i64 er])/\Nt u.heap.size w' v V)/\An u w')) :
 As 100 #[.agg #[.bool false,.slice a la ca,.int .i64 e,.bool m,.slice b lb cb,.int .i64 f]] w fun r w'=>(∃ v,r=.returned (.tuple #[.agg #[.bool dn,v,.int .i64 de],.int .i64 er])/\Nt w.heap.size w' v V)/\An w w':=by
 obtain⟨W1,hW1⟩:=af ((w.alloc (.cells #[.bool false,.slice a la ca,.int .i64 e,.bool m,.slice b lb cb,.int .i64 f] 73)).alloc (.cells #[.bool false,.slice none 0 0,.int .i64 0] 37));obtain⟨hB,hz1,RQ,DK⟩:=jJ w false _ e m _ f W1 hW1;have T1:=hid (HD.o W1 hB);obtain⟨x0,x1,x2,x3,x4,x5⟩:=RQ.facts;have hs1:w.heap.size+2<=W1.heap.size:=by omega
 have SB:=(aJ hB DK);clear hB hz1 RQ DK HD;go_enter Tryz.func100,Tryz.ntmps100
 go_upto_region 1 with fail
 rw[<-hW1];clear hW1;go_wp2_with fail;clear x0 x1 x2 x3 x4 x5;refine T1.o.mono ?_;rintro r u1 ⟨⟨v,rfl,hN⟩,hb⟩;obtain⟨a1,c1,rfl,_⟩:=hN.arg (by omega);clear T1;obtain⟨U1,aQ⟩:=af (u1.alloc (.cells #[.slice a1 (ws WH).length c1,.int .i64 x,.bool tt] 135));have iU:An u1 U1:=by rw[aQ];exact ae _ _
 have SK:Tk U1 u1.heap.size 135 (.slice a1 (ws WH).length c1) (.int .i64 x) (.bool tt):=by rw[aQ];exact Tk.new _ _ _ _ _
 obtain⟨au,DK⟩:=SB.o;have bb:=au.trans (hb.mono au.size);obtain⟨gS,PD⟩:∃ g,u1.heap.size=g:=⟨_,rfl⟩;have W9:w.heap.size+2<=gS:=by have:=DK.lt;have:=hb.size;omega
 rw[PD] at SK;have S1:=(fE (bb.trans (iU.mono bb.size)) ((DK.below hb).below iU) ((hN.below iU).mono au.size) SK);obtain⟨x0,x1,x2,bE,bF,bG⟩:=SK.facts;clear au DK bb hb iU hN SK SB
 go_upto_region 4 with fail
 rw[<-aQ];clear aQ PD;have HC:=hid (HH.o U1 a1 c1 (S1.o.r2.1.aR (by omega)).2);go_wp2_with fail;clear x0 x1 x2;refine HC.o.mono ?_;rintro r u2 ⟨⟨v,rfl,hN⟩,hb⟩;obtain⟨a2,c2,rfl,_⟩:=hN.arg (by omega);clear HC HH;obtain⟨au,DK,NW,SK⟩:=S1.o;have uZ:=SK.below hb;obtain⟨x0,x1,x2,bI,bJ,bK⟩:=uZ.facts;obtain⟨U2,dM⟩:=af (dh u2 gS (.slice a2 (ws H).length c2) (.int .i64 y) (.bool true));have bb:=au.trans (hb.mono au.size)
 have S2:Aside (An w U2/\Tk U2 (w.heap.size+1) 37 (.bool false) (.slice none 0 0) (.int .i64 0)/\Nt w.heap.size U2 (.slice a2 (ws H).length c2) H/\Tk U2 gS 135 (.slice a2 (ws H).length c2) (.int .i64 y) (.bool true)):=by
  exact j9
 clear au DK NW SK uZ bb hb hN S1;unfold dh at dM;have Zg:=ak dM;clear dM
 go_upto_region 6 with fail
 rw[<-Zg.o];clear Zg x0 x1 x2 bE bF bG bI bJ bK;obtain⟨x0,x1,x2,bE,bF,bG⟩:=S2.o.r3.facts;have HC:=hid (HR.o U2 a2 c2 (S2.o.r2.1.aR (by omega)).2);go_wp2_with fail;clear x0 x1 x2 bE bF bG;refine HC.o.mono ?_;rintro r u3 ⟨v,v',rfl,hN,hM,hb⟩;obtain⟨a3,c3,rfl,_⟩:=hN.arg (by omega);obtain⟨a4,c4,rfl,_⟩:=hM.arg (by omega);clear HC HR;obtain⟨au,DK,NW,SK⟩:=S2.o;have bb:=au.trans (hb.mono au.size);have uZ:=SK.below hb;have Gy:=DK.below hb;obtain⟨x0,x1,x2,bE,bF,bG⟩:=uZ.facts;obtain⟨s0,s1,s2,sH,sI,sJ⟩:=Gy.facts;have hwh:IntKind.i64.wrap h=h:=by simp[IntKind.wrap,IntKind.bits,IntKind.signed];omega
 have S3:=(dJ bb Gy (hN.mono au.size) (hM.mono au.size) uZ);have ne1:gS≠w.heap.size+1:=by omega
 have MO:w.heap.size+1≠gS:=by omega
 have L1:=hid (HL.o u3 a4 c4 (S3.o.r3.1.aR (by omega)).2);have L2:=hid (HL.o u3.drew a4 c4 ((S3.o.r3.1.below ((aB _ u3).drew)).aR (by omega)).2);clear au DK NW SK bb hb hN hM uZ Gy S2;go_wp2_with fail
 go_region_held3 (fun w'=>w'.cell? ⟨gS,0,none⟩=some (.slice a2 (ws H).length c2)/\w'.cell? ⟨gS,1,none⟩=some (.int .i64 y)/\w'.cell? ⟨gS,2,none⟩=some (.bool true)) (go_keep) (first
  | (go_at_call 86
     first | with_reducible refine L1.o.mono ?_ | with_reducible refine L2.o.mono ?_
     rintro r u4 ⟨rfl,hb⟩;have hb1:An u3 u4:=by first | exact hb | exact((aB _ u3).drew).trans (hb.mono (aA _))
     obtain⟨au,DK,NR,NL,SK⟩:=S3.o;have bb:=au.trans (hb1.mono au.size);have I1:=hid (HI.o u4 a3 c3 bb ((NR.below hb1).aR (by omega)).2);have S4:=(bO bb (DK.below hb1) (SK.below hb1));obtain⟨p0,p1,p2,IP,IQ,IU⟩:=(SK.below hb1).facts;obtain⟨q0,q1,q2,zb,ze,zf⟩:=(DK.below hb1).facts
     clear hb hb1 bb au DK NR NL SK)
  | (go_at_call 126
     with_reducible refine I1.o.mono ?_
     rintro r u5 ⟨⟨v,rfl,hN⟩,hb⟩;obtain⟨a7,c7,rfl,_⟩:=hN.arg (by omega);obtain⟨au,DK,SK⟩:=S4.o;obtain⟨i0,i1,i2,OH,OI,OJ⟩:=(SK.below hb).facts;obtain⟨t0,t1,t2,Ra,Rb,Rc⟩:=(DK.below hb).facts;have FV:=(bO (au.trans (hb.mono au.size)) (hN.mono au.size) (DK.below hb))
     clear hN hb au DK SK))
 all_goals (
  go_wp2;obtain⟨au,NZ,DK⟩:=FV.o;have hsz:=au.size
  first
  | exact aC (jv _ (w.heap.size+1) dn (.slice a7 (ws V).length c7) de er _ rfl rfl (DK.set _ _ _)) rfl ⟨⟨_,rfl,NZ.mR DK (by decide) _ _ _⟩,cK au hsz (by omega) _ _ _⟩
  | exact aC (jv _ (w.heap.size+1) dn (.slice a7 (ws V).length c7) de er _ rfl rfl (DK.set _ _ _)) rfl ⟨⟨_,rfl,NZ.mR DK (by decide) _ _ _⟩,(cK au hsz (by omega) _ _ _).drew⟩)
theorem Dx {w:World}{a b:Option Addr}{la ca lb cb:Nat}(m:Bool) (e f:Int) (WH H R L lL:Nat) (x y h:Int) (tt bL:Bool) (dn:Bool) (V:Nat) (de er:Int) (lW:(ws WH).length<=8192) (lH:(ws H).length<=8192) (lR:(ws R).length<=8192) (lLL:(ws L).length<=8192) (lV:(ws V).length<=8192)
 (hx0:-10000000<=y) (hx1:y<=10000000) (WZ:(x.tmod 2==0)=false) (hh:y.tdiv 2=h) (hh0:-10000000<=h) (hh1:h<=10000000)
 (HD:Hid (∀ u,An w u->As 127 #[.agg #[.bool false,.slice a la ca,.int .i64 e,.bool m,.slice b lb cb,.int .i64 f],.int .i64 129] u fun r w'=>(∃ v,r=.returned (.agg #[v,.int .i64 x,.bool tt])/\Nt u.heap.size w' v WH)/\An u w'))
 (HH:Hid (∀ (u:World) (p:Option Addr) (q:Nat),Arg u p (ws WH).length q (ws WH)->As 145 #[.agg #[.slice p (ws WH).length q,.int .i64 x,.bool tt]] u fun r w'=>(∃ v,r=.returned (.agg #[v,.int .i64 y,.bool false])/\Nt u.heap.size w' v H)/\An u w'))
 (HR:Hid (∀ (u:World) (p:Option Addr) (q:Nat),Arg u p (ws H).length q (ws H)->As 146 #[.slice p (ws H).length q] u fun r w'=>∃ v v',r=.returned (.tuple #[v,v'])/\Nt u.heap.size w' v R/\Nt u.heap.size w' v' L/\An u w'))
 (HI:Hid (∀ (u:World) (p:Option Addr) (q:Nat),An w u->Arg u p (ws R).length q (ws R)->As 126 #[.bool false,.agg #[.slice p (ws R).length q,.int .i64 h,.bool false]] u fun r w'=>(∃ v,r=.returned (.tuple #[.agg #[.bool dn,v,.int .i64 de],.int .i64 er])/\Nt u.heap.size w' v V)/\An u w')) :
 As 100 #[.agg #[.bool false,.slice a la ca,.int .i64 e,.bool m,.slice b lb cb,.int .i64 f]] w fun r w'=>(∃ v,r=.returned (.tuple #[.agg #[.bool dn,v,.int .i64 de],.int .i64 er])/\Nt w.heap.size w' v V)/\An w w':=by
 obtain⟨W1,hW1⟩:=af ((w.alloc (.cells #[.bool false,.slice a la ca,.int .i64 e,.bool m,.slice b lb cb,.int .i64 f] 73)).alloc (.cells #[.bool false,.slice none 0 0,.int .i64 0] 37));obtain⟨hB,hz1,RQ,DK⟩:=jJ w false _ e m _ f W1 hW1;have T1:=hid (HD.o W1 hB);obtain⟨x0,x1,x2,x3,x4,x5⟩:=RQ.facts;have hs1:w.heap.size+2<=W1.heap.size:=by omega
 have SB:=(aJ hB DK);clear hB hz1 RQ DK HD;go_enter Tryz.func100,Tryz.ntmps100
 go_upto_region 1 with fail
 rw[<-hW1];clear hW1;go_wp2_with fail;clear x0 x1 x2 x3 x4 x5;refine T1.o.mono ?_;rintro r u1 ⟨⟨v,rfl,hN⟩,hb⟩;obtain⟨a1,c1,rfl,_⟩:=hN.arg (by omega);clear T1;obtain⟨U1,aQ⟩:=af (u1.alloc (.cells #[.slice a1 (ws WH).length c1,.int .i64 x,.bool tt] 135));have iU:An u1 U1:=by rw[aQ];exact ae _ _
 have SK:Tk U1 u1.heap.size 135 (.slice a1 (ws WH).length c1) (.int .i64 x) (.bool tt):=by rw[aQ];exact Tk.new _ _ _ _ _
 obtain⟨au,DK⟩:=SB.o;have bb:=au.trans (hb.mono au.size);obtain⟨gS,PD⟩:∃ g,u1.heap.size=g:=⟨_,rfl⟩;have W9:w.heap.size+2<=gS:=by have:=DK.lt;have:=hb.size;omega
 rw[PD] at SK;have S1:=(fE (bb.trans (iU.mono bb.size)) ((DK.below hb).below iU) ((hN.below iU).mono au.size) SK);obtain⟨x0,x1,x2,bE,bF,bG⟩:=SK.facts;clear au DK bb hb iU hN SK SB
 go_upto_region 4 with fail
 rw[<-aQ];clear aQ PD;have HC:=hid (HH.o U1 a1 c1 (S1.o.r2.1.aR (by omega)).2);go_wp2_with fail;clear x0 x1 x2;refine HC.o.mono ?_;rintro r u2 ⟨⟨v,rfl,hN⟩,hb⟩;obtain⟨a2,c2,rfl,_⟩:=hN.arg (by omega);clear HC HH;obtain⟨au,DK,NW,SK⟩:=S1.o;have uZ:=SK.below hb;obtain⟨x0,x1,x2,bI,bJ,bK⟩:=uZ.facts;obtain⟨U2,dM⟩:=af (dh u2 gS (.slice a2 (ws H).length c2) (.int .i64 y) (.bool false));have bb:=au.trans (hb.mono au.size)
 have S2:Aside (An w U2/\Tk U2 (w.heap.size+1) 37 (.bool false) (.slice none 0 0) (.int .i64 0)/\Nt w.heap.size U2 (.slice a2 (ws H).length c2) H/\Tk U2 gS 135 (.slice a2 (ws H).length c2) (.int .i64 y) (.bool false)):=by
  exact j9
 clear au DK NW SK uZ bb hb hN S1;unfold dh at dM;have Zg:=ak dM;clear dM
 go_upto_region 6 with fail
 rw[<-Zg.o];clear Zg x0 x1 x2 bE bF bG bI bJ bK;obtain⟨x0,x1,x2,bE,bF,bG⟩:=S2.o.r3.facts;have HC:=hid (HR.o U2 a2 c2 (S2.o.r2.1.aR (by omega)).2);go_wp2_with fail;clear x0 x1 x2 bE bF bG;refine HC.o.mono ?_;rintro r u3 ⟨v,v',rfl,hN,hM,hb⟩;obtain⟨a3,c3,rfl,_⟩:=hN.arg (by omega);obtain⟨a4,c4,rfl,_⟩:=hM.arg (by omega);clear HC HR;obtain⟨au,DK,NW,SK⟩:=S2.o;have bb:=au.trans (hb.mono au.size);have uZ:=SK.below hb;have Gy:=DK.below hb;obtain⟨x0,x1,x2,bE,bF,bG⟩:=uZ.facts;obtain⟨s0,s1,s2,sH,sI,sJ⟩:=Gy.facts;have hwh:IntKind.i64.wrap h=h:=by simp[IntKind.wrap,IntKind.bits,IntKind.signed];omega
 have S3:=(dJ bb Gy (hN.mono au.size) (hM.mono au.size) uZ);have ne1:gS≠w.heap.size+1:=by omega
 have MO:w.heap.size+1≠gS:=by omega
 have I1:=hid (HI.o u3 a3 c3 S3.o.1 (S3.o.r2.1.aR (by omega)).2);have I2:=hid (HI.o u3.drew a3 c3 S3.o.1.drew ((S3.o.r2.1.below ((aB _ u3).drew)).aR (by omega)).2);clear au DK NW SK bb hb hN hM uZ Gy S2;go_wp2_with fail
 first | (go_region_with (first
  | (go_at_call 126
     first | with_reducible refine I1.o.mono ?_ | with_reducible refine I2.o.mono ?_
     rintro r u5 ⟨⟨v,rfl,hN⟩,hb⟩;have hb1:An u3 u5:=by first | exact hb | exact((aB _ u3).drew).trans (hb.mono (aA _))
     obtain⟨a7,c7,rfl,_⟩:=hN.arg (by omega);obtain⟨au,DK,NR,NL,SK⟩:=S3.o;obtain⟨i0,i1,i2,OH,OI,OJ⟩:=(SK.below hb1).facts;obtain⟨t0,t1,t2,Ra,Rb,Rc⟩:=(DK.below hb1).facts;have hN':Nt w.heap.size u5 (.slice a7 (ws V).length c7) V:=hN.mono au.size;have FV:=(bO (au.trans (hb1.mono au.size)) hN' (DK.below hb1))
     clear hN hN' hb hb1 au DK SK NR NL))) | fail
 all_goals (
  go_wp2;obtain⟨au,NZ,DK⟩:=FV.o;have hsz:=au.size
  first
  | exact aC (jv _ (w.heap.size+1) dn (.slice a7 (ws V).length c7) de er _ rfl rfl (DK.set _ _ _)) rfl ⟨⟨_,rfl,NZ.mR DK (by decide) _ _ _⟩,cK au hsz (by omega) _ _ _⟩
  | exact aC (jv _ (w.heap.size+1) dn (.slice a7 (ws V).length c7) de er _ rfl rfl (DK.set _ _ _)) rfl ⟨⟨_,rfl,NZ.mR DK (by decide) _ _ _⟩,(cK au hsz (by omega) _ _ _).drew⟩)
end
end Go.Proofs.YteginbngplldaaaGreatDoor
