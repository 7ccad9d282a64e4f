import Derived.Test.YteginbngplldaaaGreatDoorD39x
import Derived.BigQuiet
import Derived.Deep.Cut
import Derived.Test.YteginbngplldaaaGreatDoorD2x
import Derived.Deep.RegionHeld3
import Derived.Deep.CutRange
set_option linter.unusedVariables false
set_option linter.unusedSimpArgs false
set_option maxHeartbeats 16000000
set_option maxRecDepth 20000
namespace Go.Proofs.YteginbngplldaaaGreatDoor
section
open Go.RowKit
theorem uG (W:World) (g:Nat) (v:Value) (x:Int) (t:Bool) (tmps:Array Value) (ht:tmps[4]?.getD undef=.pointer (some ⟨g,0,none⟩)) (D:Tk W g 135 v (.int .i64 x) (.bool t)) :
 (results Tryz.f127 tmps).run Tryz.prog W=.ok (.agg #[v,.int .i64 x,.bool t]) W:=by
 obtain ⟨x0,x1,x2,_,_,_⟩:=D.facts;simp [results,Tryz.results127,ht,go_sem,x0,x1,x2]
theorem zu (w:World) (n:Bool) (v:Value) (e:Int) (m:Bool) (u:Value) (f:Int) (W:World) (hW:W=(w.alloc (.cells #[.bool n,v,.int .i64 e,.bool m,u,.int .i64 f] 73)).alloc (.cells #[.slice none 0 0,.int .i64 0,.bool false] 135)) :
 Below w.heap.size w W/\W.heap.size=w.heap.size+2/\Rq W w.heap.size n v e m u f/\Tk W (w.heap.size+1) 135 (.slice none 0 0) (.int .i64 0) (.bool false):=by
 rw [hW];refine ⟨(ae w _).alloc (by simp) _,by simp,(Rq.new _ _ _ _ _ _ _).alloc _,?_⟩;have:=Tk.new (w.alloc (.cells #[.bool n,v,.int .i64 e,.bool m,u,.int .i64 f] 73)) 135 (.slice none 0 0) (.int .i64 0) (.bool false);simpa using this
theorem Dm {w:World}{a b:Option Addr}{ca cb:Nat}(n m:Bool) (X Y:Nat) (e f:Int) (size lX lY lH cut H tL W0 Lf WH:Nat) (t bb z x y1 y2:Int) (tt:Bool)
 (AX:Arg w a (ws X).length ca (ws X)) (AY:Arg w b (ws Y).length cb (ws Y))
 (he0:-1048576<=e) (he1:e<=1048576) (hf0:-1048576<=f) (hf1:f<=1048576) (hs:size<=1000) (YV:bl Y=lY) (YW:bl X=lX) (YX:bl H=lH) (bX:lX<=262144) (bY:lY<=262144) (bH:lH<=262144)
 (ht:(lY:Int)+(size:Int)-262144=t) (hcut:max t 0=(cut:Int)) (bcut:cut<=2000)
 (e1:aU Y (-(cut:Int))=(H,0)) (hbb:(lH:Int)+(size:Int)-(lX:Int)=bb) (e2:aU X bb=(tL,0)) (e3:oh tL H=(W0,Lf,0))
 (HL:Hid (∀ (u:World) (p q r s:Option Addr) (cp cq cr cs:Nat),Arg u p (ws W0).length cp (ws W0)->Arg u q (ws Lf).length cq (ws Lf)->Arg u r (ws Y).length cr (ws Y)->Arg u s (ws H).length cs (ws H)->Calls Tryz.prog 164 #[.slice p (ws W0).length cp,.slice q (ws Lf).length cq,.slice r (ws Y).length cr,.slice s (ws H).length cs,.int .i64 (cut:Nat)] u fun r w'=>r=.returned (.int .i64 z)/\Below u.heap.size u w'))
 (hz:decide (z<0)=false)
 (h1:e-f=y1) (h2:y1-bb=y2) (h3:y2-(cut:Int)=x) (KC:(decide (z=0)&&decide (0<=bb))=tt)
 (l1:(ws H).length<=8192) (l2:(ws tL).length<=8192) (l3:(ws W0).length<=8192) (l4:(ws Lf).length<=8192) :
 Calls Tryz.prog 127 #[.agg #[.bool n,.slice a (ws X).length ca,.int .i64 e,.bool m,.slice b (ws Y).length cb,.int .i64 f],.int .i64 (size:Nat)] w fun r w'=>(∃ v,r=.returned (.agg #[v,.int .i64 x,.bool tt])/\Nt w.heap.size w' v W0)/\Below w.heap.size w w':=by
 obtain ⟨W1,hW1⟩:=af ((w.alloc (.cells #[.bool n,.slice a (ws X).length ca,.int .i64 e,.bool m,.slice b (ws Y).length cb,.int .i64 f] 73)).alloc (.cells #[.slice none 0 0,.int .i64 0,.bool false] 135));obtain ⟨hB,hz1,RQ,SK⟩:=zu w n _ e m _ f W1 hW1;have Dn:aU (val (ws Y)) (-(cut:Int))=(H,0):=by rw [ah];exact e1
 have e2':aU (val (ws X)) bb=(tL,0):=by rw [ah];exact e2
 have e3':oh (val (ws tL)) (val (ws H))=(W0,Lf,0):=by rw [ah,ah];exact e3
 have YY:bl (val (ws Y))=lY:=by rw [ah];exact YV
 have YZ:bl (val (ws X))=lX:=by rw [ah];exact YW
 have Y0:bl (val (ws H))=lH:=by rw [ah];exact YX
 have E:=(iM Dn e2' e3' YY YZ Y0);have SZ:=(aK hz1 hB);have hs2:w.heap.size+2<=W1.heap.size:=by omega
 have hbel:=hB;have S0:=(dK hbel (AX.below hB) (AY.below hB) RQ SK);clear hbel;clear e1 e2 e3 Dn e2' e3' YY YZ Y0 YV YW YX AX AY hB RQ SK hz1;go_enter Tryz.func127,Tryz.ntmps127
 go_upto_region 1 with fail
 rw [<-hW1];clear hW1;obtain ⟨x0,x1,x2,x3,x4,x5⟩:=S0.o.r3.1.facts
 go_quiet (fail)
 clear x0 x1 x2 x3 x4 x5;generalize hV:World.drewN W1 _=V1;have hb:Below W1.heap.size W1 V1:=by rw [<-hV];exact Below.drewN' (aB _ _) _
 clear hV;obtain ⟨au,AX,AY,RQ,SK⟩:=S0.o;have hbn:=au.trans (hb.mono au.size);have S1:=dK hbn (AX.below hb) (AY.below hb) (RQ.below hb) (SK.below hb);clear au AX AY RQ SK;clear hb hbn S0;obtain ⟨au,AX,AY,RQ,SK⟩:=S1.o;have HC:=hid (nu AY E.o.r3.1);clear au AX AY RQ SK;go_wp2_with fail;refine HC.o.mono ?_;rintro r u2 ⟨rfl,hb⟩;clear HC;obtain ⟨au,AX,AY,RQ,SK⟩:=S1.o;have hbn:=au.trans (hb.mono au.size);have S2:=dK hbn (AX.below hb) (AY.below hb) (RQ.below hb) (SK.below hb);clear au AX AY RQ SK;clear hb hbn S1;obtain ⟨au,AX,AY,RQ,SK⟩:=S2.o;have HC:=hid (eZ (-(cut:Int)) AY E.o.1 (by omega) (by omega));clear au AX AY RQ SK;go_wp2_with fail;refine HC.o.mono ?_;rintro r u3 ⟨v,rfl,hN,hb⟩;obtain ⟨a1,c1,rfl,_⟩:=hN.arg (by omega);clear HC;obtain ⟨au,AX,AY,RQ,SK⟩:=S2.o;have hbn:=au.trans (hb.mono au.size);have S3:=iM hbn (AX.below hb) (AY.below hb) (RQ.below hb) (SK.below hb) (hN.mono au.size);clear au AX AY RQ SK;clear hb hbn S2;clear hN;obtain ⟨au,AX,AY,RQ,SK,NH⟩:=S3.o;have HC:=hid (nu (NH.aR (by omega)).2 E.o.r5);clear au AX AY RQ SK NH;go_wp2_with fail;refine HC.o.mono ?_;rintro r u4 ⟨rfl,hb⟩;clear HC;obtain ⟨au,AX,AY,RQ,SK,NH⟩:=S3.o;have hbn:=au.trans (hb.mono au.size);have S4:=iM hbn (AX.below hb) (AY.below hb) (RQ.below hb) (SK.below hb) (NH.below hb);clear au AX AY RQ SK NH;clear hb hbn S3;obtain ⟨au,AX,AY,RQ,SK,NH⟩:=S4.o;have HC:=hid (nu AX E.o.r4.1);clear au AX AY RQ SK NH;go_wp2_with fail;refine HC.o.mono ?_;rintro r u5 ⟨rfl,hb⟩;clear HC;obtain ⟨au,AX,AY,RQ,SK,NH⟩:=S4.o;have hbn:=au.trans (hb.mono au.size);have S5:=iM hbn (AX.below hb) (AY.below hb) (RQ.below hb) (SK.below hb) (NH.below hb);clear au AX AY RQ SK NH;clear hb hbn S4;obtain ⟨au,AX,AY,RQ,SK,NH⟩:=S5.o;have HC:=hid (eZ bb AX E.o.2.1 (by omega) (by omega));clear au AX AY RQ SK NH;go_wp2_with fail;refine HC.o.mono ?_;rintro r u6 ⟨v,rfl,hN,hb⟩;obtain ⟨a2,c2,rfl,_⟩:=hN.arg (by omega);clear HC;obtain ⟨au,AX,AY,RQ,SK,NH⟩:=S5.o;have hbn:=au.trans (hb.mono au.size);have S6:=lZ hbn (AX.below hb) (AY.below hb) (RQ.below hb) (SK.below hb) (NH.below hb) (hN.mono au.size);clear au AX AY RQ SK NH;clear hb hbn S5;clear hN;obtain ⟨au,AX,AY,RQ,SK,NH,NV⟩:=S6.o;have HC:=hid (IX (NV.aR (by omega)).2 (NH.aR (by omega)).2 E.o.r2.1);clear au AX AY RQ SK NH NV;go_wp2_with fail;refine HC.o.mono ?_;rintro r u7 ⟨v,v2,rfl,hN,hM,hb⟩;obtain ⟨a3,c3,rfl,_⟩:=hN.arg (by omega);obtain ⟨a4,c4,rfl,_⟩:=hM.arg (by omega);clear HC;obtain ⟨au,AX,AY,RQ,SK,NH,NV⟩:=S6.o;have hbn:=au.trans (hb.mono au.size);have S7:=su hbn (AX.below hb) (AY.below hb) (RQ.below hb) (SK.below hb) (NH.below hb) (hN.mono au.size) (hM.mono au.size);clear au AX AY RQ SK NH NV;clear hb hbn S6;clear hN hM;obtain ⟨au,AX,AY,RQ,SK,NH,NW,NL⟩:=S7.o;have HC:=hid (HL.o u7 _ _ _ _ _ _ _ _ (NW.aR (by omega)).2 (NL.aR (by omega)).2 AY (NH.aR (by omega)).2);clear au AX AY RQ SK NH NW NL;go_wp2_with fail;refine HC.o.mono ?_;rintro r u8 ⟨rfl,hb⟩;clear HC;obtain ⟨au,AX,AY,RQ,SK,NH,NW,NL⟩:=S7.o;have hbn:=au.trans (hb.mono au.size);have S8:=su hbn (AX.below hb) (AY.below hb) (RQ.below hb) (SK.below hb) (NH.below hb) (NW.below hb) (NL.below hb);clear au AX AY RQ SK NH NW NL;clear hb hbn S7;obtain ⟨au,AX,AY,RQ,SK,NH,NW,NL⟩:=S8.o;have hlast:=cK au NW SK;obtain ⟨x0,x1,x2,x3,x4,x5⟩:=RQ.facts;obtain ⟨s0,s1,s2,sF,sG,sH⟩:=SK.facts;have hsz:=ak (SK.lt);clear au AX AY RQ SK NH NW NL;clear S8 E HL;have htA:=ak KC;clear KC;go_wp2
 all_goals (
  obtain ⟨au,NZ,SK⟩:=hlast.o;have hsz:=au.size;refine aC (uG _ (w.heap.size+1) (.slice a3 (ws W0).length c3) x _ _ rfl (SK.set _ _ _)) rfl ⟨⟨.slice a3 (ws W0).length c3,?_,NZ.mI SK (by decide) _ _ _⟩,bM au hsz (by omega) _ _ _⟩;rw [<-htA.o]
  first | rfl | simp [*])
theorem Dp {w:World}{a b:Option Addr}{ca cb:Nat}(n m:Bool) (X Y:Nat) (e f:Int) (size lX lY lH cut H tL W0 Lf WH:Nat) (t bb z x y1 y2:Int) (tt:Bool)
 (AX:Arg w a (ws X).length ca (ws X)) (AY:Arg w b (ws Y).length cb (ws Y))
 (he0:-1048576<=e) (he1:e<=1048576) (hf0:-1048576<=f) (hf1:f<=1048576) (hs:size<=1000) (YV:bl Y=lY) (YW:bl X=lX) (YX:bl H=lH) (bX:lX<=262144) (bY:lY<=262144) (bH:lH<=262144)
 (ht:(lY:Int)+(size:Int)-262144=t) (hcut:max t 0=(cut:Int)) (bcut:cut<=2000)
 (e1:aU Y (-(cut:Int))=(H,0)) (hbb:(lH:Int)+(size:Int)-(lX:Int)=bb) (e2:aU X bb=(tL,0)) (e3:oh tL H=(W0,Lf,0))
 (HL:Hid (∀ (u:World) (p q r s:Option Addr) (cp cq cr cs:Nat),Arg u p (ws W0).length cp (ws W0)->Arg u q (ws Lf).length cq (ws Lf)->Arg u r (ws Y).length cr (ws Y)->Arg u s (ws H).length cs (ws H)->Calls Tryz.prog 164 #[.slice p (ws W0).length cp,.slice q (ws Lf).length cq,.slice r (ws Y).length cr,.slice s (ws H).length cs,.int .i64 (cut:Nat)] u fun r w'=>r=.returned (.int .i64 z)/\Below u.heap.size u w'))
 (hz:decide (z<0)=true) (e4:og W0 1=(WH,0))
 (h1:e-f=y1) (h2:y1-bb=y2) (h3:y2-(cut:Int)=x) (KC:(decide (z=0)&&decide (0<=bb))=tt)
 (l1:(ws H).length<=8192) (l2:(ws tL).length<=8192) (l3:(ws W0).length<=8192) (l4:(ws Lf).length<=8192) (l5:(ws WH).length<=8192) :
 Calls Tryz.prog 127 #[.agg #[.bool n,.slice a (ws X).length ca,.int .i64 e,.bool m,.slice b (ws Y).length cb,.int .i64 f],.int .i64 (size:Nat)] w fun r w'=>(∃ v,r=.returned (.agg #[v,.int .i64 x,.bool tt])/\Nt w.heap.size w' v WH)/\Below w.heap.size w w':=by
 obtain ⟨W1,hW1⟩:=af ((w.alloc (.cells #[.bool n,.slice a (ws X).length ca,.int .i64 e,.bool m,.slice b (ws Y).length cb,.int .i64 f] 73)).alloc (.cells #[.slice none 0 0,.int .i64 0,.bool false] 135));obtain ⟨hB,hz1,RQ,SK⟩:=zu w n _ e m _ f W1 hW1;have Dn:aU (val (ws Y)) (-(cut:Int))=(H,0):=by rw [ah];exact e1
 have e2':aU (val (ws X)) bb=(tL,0):=by rw [ah];exact e2
 have e3':oh (val (ws tL)) (val (ws H))=(W0,Lf,0):=by rw [ah,ah];exact e3
 have YY:bl (val (ws Y))=lY:=by rw [ah];exact YV
 have YZ:bl (val (ws X))=lX:=by rw [ah];exact YW
 have Y0:bl (val (ws H))=lH:=by rw [ah];exact YX
 have E:=(iM Dn e2' e3' YY YZ Y0);have SZ:=(aK hz1 hB);have hs2:w.heap.size+2<=W1.heap.size:=by omega
 have e4':og (val (ws W0)) (val (ws 1))=(WH,0):=by rw [ah,ah];exact e4
 have E4:=ak e4';have l1s:(ws 1).length<=8192:=by rw [sQ];simp
 clear e4 e4';have hbel:=hB;have S0:=(dK hbel (AX.below hB) (AY.below hB) RQ SK);clear hbel;clear e1 e2 e3 Dn e2' e3' YY YZ Y0 YV YW YX AX AY hB RQ SK hz1;go_enter Tryz.func127,Tryz.ntmps127
 go_upto_region 1 with fail
 rw [<-hW1];clear hW1;obtain ⟨x0,x1,x2,x3,x4,x5⟩:=S0.o.r3.1.facts
 go_quiet (fail)
 clear x0 x1 x2 x3 x4 x5;generalize hV:World.drewN W1 _=V1;have hb:Below W1.heap.size W1 V1:=by rw [<-hV];exact Below.drewN' (aB _ _) _
 clear hV;obtain ⟨au,AX,AY,RQ,SK⟩:=S0.o;have hbn:=au.trans (hb.mono au.size);have S1:=dK hbn (AX.below hb) (AY.below hb) (RQ.below hb) (SK.below hb);clear au AX AY RQ SK;clear hb hbn S0;obtain ⟨au,AX,AY,RQ,SK⟩:=S1.o;have HC:=hid (nu AY E.o.r3.1);clear au AX AY RQ SK;go_wp2_with fail;refine HC.o.mono ?_;rintro r u2 ⟨rfl,hb⟩;clear HC;obtain ⟨au,AX,AY,RQ,SK⟩:=S1.o;have hbn:=au.trans (hb.mono au.size);have S2:=dK hbn (AX.below hb) (AY.below hb) (RQ.below hb) (SK.below hb);clear au AX AY RQ SK;clear hb hbn S1;obtain ⟨au,AX,AY,RQ,SK⟩:=S2.o;have HC:=hid (eZ (-(cut:Int)) AY E.o.1 (by omega) (by omega));clear au AX AY RQ SK;go_wp2_with fail;refine HC.o.mono ?_;rintro r u3 ⟨v,rfl,hN,hb⟩;obtain ⟨a1,c1,rfl,_⟩:=hN.arg (by omega);clear HC;obtain ⟨au,AX,AY,RQ,SK⟩:=S2.o;have hbn:=au.trans (hb.mono au.size);have S3:=iM hbn (AX.below hb) (AY.below hb) (RQ.below hb) (SK.below hb) (hN.mono au.size);clear au AX AY RQ SK;clear hb hbn S2;clear hN;obtain ⟨au,AX,AY,RQ,SK,NH⟩:=S3.o;have HC:=hid (nu (NH.aR (by omega)).2 E.o.r5);clear au AX AY RQ SK NH;go_wp2_with fail;refine HC.o.mono ?_;rintro r u4 ⟨rfl,hb⟩;clear HC;obtain ⟨au,AX,AY,RQ,SK,NH⟩:=S3.o;have hbn:=au.trans (hb.mono au.size);have S4:=iM hbn (AX.below hb) (AY.below hb) (RQ.below hb) (SK.below hb) (NH.below hb);clear au AX AY RQ SK NH;clear hb hbn S3;obtain ⟨au,AX,AY,RQ,SK,NH⟩:=S4.o;have HC:=hid (nu AX E.o.r4.1);clear au AX AY RQ SK NH;go_wp2_with fail;refine HC.o.mono ?_;rintro r u5 ⟨rfl,hb⟩;clear HC;obtain ⟨au,AX,AY,RQ,SK,NH⟩:=S4.o;have hbn:=au.trans (hb.mono au.size);have S5:=iM hbn (AX.below hb) (AY.below hb) (RQ.below hb) (SK.below hb) (NH.below hb);clear au AX AY RQ SK NH;clear hb hbn S4;obtain ⟨au,AX,AY,RQ,SK,NH⟩:=S5.o;have HC:=hid (eZ bb AX E.o.2.1 (by omega) (by omega));clear au AX AY RQ SK NH;go_wp2_with fail;refine HC.o.mono ?_;rintro r u6 ⟨v,rfl,hN,hb⟩;obtain ⟨a2,c2,rfl,_⟩:=hN.arg (by omega);clear HC;obtain ⟨au,AX,AY,RQ,SK,NH⟩:=S5.o;have hbn:=au.trans (hb.mono au.size);have S6:=lZ hbn (AX.below hb) (AY.below hb) (RQ.below hb) (SK.below hb) (NH.below hb) (hN.mono au.size);clear au AX AY RQ SK NH;clear hb hbn S5;clear hN;obtain ⟨au,AX,AY,RQ,SK,NH,NV⟩:=S6.o;have HC:=hid (IX (NV.aR (by omega)).2 (NH.aR (by omega)).2 E.o.r2.1);clear au AX AY RQ SK NH NV;go_wp2_with fail;refine HC.o.mono ?_;rintro r u7 ⟨v,v2,rfl,hN,hM,hb⟩;obtain ⟨a3,c3,rfl,_⟩:=hN.arg (by omega);obtain ⟨a4,c4,rfl,_⟩:=hM.arg (by omega);clear HC;obtain ⟨au,AX,AY,RQ,SK,NH,NV⟩:=S6.o;have hbn:=au.trans (hb.mono au.size);have S7:=su hbn (AX.below hb) (AY.below hb) (RQ.below hb) (SK.below hb) (NH.below hb) (hN.mono au.size) (hM.mono au.size);clear au AX AY RQ SK NH NV;clear hb hbn S6;clear hN hM;obtain ⟨au,AX,AY,RQ,SK,NH,NW,NL⟩:=S7.o;have HC:=hid (HL.o u7 _ _ _ _ _ _ _ _ (NW.aR (by omega)).2 (NL.aR (by omega)).2 AY (NH.aR (by omega)).2);clear au AX AY RQ SK NH NW NL;go_wp2_with fail;refine HC.o.mono ?_;rintro r u8 ⟨rfl,hb⟩;clear HC;obtain ⟨au,AX,AY,RQ,SK,NH,NW,NL⟩:=S7.o;have hbn:=au.trans (hb.mono au.size);have S8:=su hbn (AX.below hb) (AY.below hb) (RQ.below hb) (SK.below hb) (NH.below hb) (NW.below hb) (NL.below hb);clear au AX AY RQ SK NH NW NL;clear hb hbn S7;obtain ⟨au,AX,AY,RQ,SK,NH,NW,NL⟩:=S8.o;have HC:=hid (qi 1 u8 (by omega));clear au AX AY RQ SK NH NW NL;go_wp2_with fail;refine HC.o.mono ?_;rintro r u9 ⟨v,rfl,hN,hb⟩;obtain ⟨a5,c5,rfl,_⟩:=hN.arg (by omega);clear HC;obtain ⟨au,AX,AY,RQ,SK,NH,NW,NL⟩:=S8.o;have hbn:=au.trans (hb.mono au.size);have S9:=QL hbn (AX.below hb) (AY.below hb) (RQ.below hb) (SK.below hb) (NH.below hb) (NW.below hb) (NL.below hb) (hN.mono au.size);clear au AX AY RQ SK NH NW NL;clear hb hbn S8;clear hN;obtain ⟨au,AX,AY,RQ,SK,NH,NW,NL,NO⟩:=S9.o;have HC:=hid (vL (NW.aR (by omega)).2 (NO.aR (by omega)).2 E4.o);clear au AX AY RQ SK NH NW NL NO;go_wp2_with fail;refine HC.o.mono ?_;rintro r u10 ⟨v,rfl,hN,hb⟩;obtain ⟨a6,c6,rfl,_⟩:=hN.arg (by omega);clear HC;obtain ⟨au,AX,AY,RQ,SK,NH,NW,NL,NO⟩:=S9.o;have hbn:=au.trans (hb.mono au.size);have IQ:=x8 hbn (AX.below hb) (AY.below hb) (RQ.below hb) (SK.below hb) (NH.below hb) (NW.below hb) (NL.below hb) (NO.below hb) (hN.mono au.size);clear au AX AY RQ SK NH NW NL NO;clear hb hbn S9;clear hN;obtain ⟨au,AX,AY,RQ,SK,NH,NW,NL,NO,NR⟩:=IQ.o;have hlast:=cK au NR SK;obtain ⟨x0,x1,x2,x3,x4,x5⟩:=RQ.facts;obtain ⟨s0,s1,s2,sF,sG,sH⟩:=SK.facts;have hsz:=ak (SK.lt);clear au AX AY RQ SK NH NW NL NO NR;clear IQ E HL;have htA:=ak KC;clear KC;go_wp2
 all_goals (
  obtain ⟨au,NZ,SK⟩:=hlast.o;have hsz:=au.size;refine aC (uG _ (w.heap.size+1) (.slice a6 (ws WH).length c6) x _ _ rfl (SK.set _ _ _)) rfl ⟨⟨.slice a6 (ws WH).length c6,?_,NZ.mI SK (by decide) _ _ _⟩,bM au hsz (by omega) _ _ _⟩;rw [<-htA.o]
  first | rfl | simp [*])
theorem fO {X:Nat}(h:bl X<=262144):¬ LG X:=fun k=>by have:=(uA X).1 k;omega
theorem Lc {X Y V:Nat}(h1:¬ LG X) (h2:¬ LG Y) (h3:¬ LG V) (e:X*Y=V):jS X Y=(V,0):=by subst e;unfold jS;rw [if_neg (by simp [h1,h2]),if_neg h3]
theorem bK {X:Nat}(h:bl X<=262144):(ws X).length<=8192:=by have:=fO h;unfold LG at this;omega
theorem dP {X k:Nat}(h:X<2^k):bl X<=k:=by
 by_cases h0:X=0
 · subst h0;rw [dA];omega
 · have:=(jv (a:=2) (by decide)).1 (gQ (gW X h0) h);have:=dD X h0;omega
theorem mJ {X Y:Nat}(h:X<=Y) (k:bl Y<=262144):bl X<=262144:=by
 have:=dP (gQ h (iB Y));omega
theorem Dq (x y:Nat):decide (aX x y<0)=decide (x<y):=by
 unfold aX
 by_cases h:x<y
 · simp [h]
 · by_cases h2:y<x <;> simp [h,h2]
theorem O3 (x y:Nat):decide (aX x y=0)=decide (x=y):=by
 unfold aX
 by_cases h:x<y
 · have:x≠y:=by omega
   simp [h,this]
 · by_cases h2:y<x
   · have:x≠y:=by omega
     simp [h,h2,this]
   · have:x=y:=by omega
     simp [this]
theorem zw {w:World}{a b:Option Addr}{ca cb:Nat}(n m:Bool) (X Y:Nat) (e f:Int) (size:Nat)
 (AX:Arg w a (ws X).length ca (ws X)) (AY:Arg w b (ws Y).length cb (ws Y)) (hX:X=0\/X%2=1) (hY:Y≠0)
 (he0:-1048576<=e) (he1:e<=1048576) (hf0:-1048576<=f) (hf1:f<=1048576) (hs0:1<=size) (hs:size<=1000) (bX:bl X<=262144) (bY:bl Y<=262144) :
 Calls Tryz.prog 127 #[.agg #[.bool n,.slice a (ws X).length ca,.int .i64 e,.bool m,.slice b (ws Y).length cb,.int .i64 f],.int .i64 (size:Nat)] w fun r w'=>(∃ v,r=.returned (.agg #[v,.int .i64 (e-f-lq X Y size-fB Y size),.bool (ou X Y size)])/\Nt w.heap.size w' v (dO X Y size))/\Below w.heap.size w w':=by
 have D:=iE X Y size hX hY hs0 hs bX bY;have wF:=dD Y hY;have cutb:fB Y size<=1000/\fB Y size<bl Y:=by unfold fB;omega
 have bH:bl (jg Y size)<=262144:=by have:=D.UR;omega
 have hHc:bl (jg Y size)+size<=262144\/fB Y size=0:=by have:=D.UR;unfold fB at *;omega
 have hbyb:-262144<=lq X Y size/\lq X Y size<=264000:=by unfold lq;omega
 have Wv:bl (pJ X Y size)<=262144:=by
  have:=dP D.tL;have h2:bl (jg Y size)+size<=262144:=by have:=D.UR;unfold fB at this;omega
  omega
 have Y2:bl (mH X Y size)<=262144:=by have:=dP D.w0;omega
 have bLf:bl (pK X Y size)<=262144:=mJ (lK D.lef) bH;have e1:aU Y (-((fB Y size:Nat):Int))=(jg Y size,0):=tN (fO bY) rfl
 have e2:aU X (lq X Y size)=(pJ X Y size,0):=by
  by_cases hb:lq X Y size<0
  · have:=tN (X:=X) (k:=(-lq X Y size).toNat) (V:=pJ X Y size) (fO bX) (by unfold pJ;rw [if_pos hb]);rw [show -(((-lq X Y size).toNat:Nat):Int)=lq X Y size by omega] at this;exact this
  · have:=o8 (X:=X) (k:=(lq X Y size).toNat) (V:=pJ X Y size) (fO bX) (by
     by_cases h0:X=0
     · exact .inl h0
     · right
       have h2:bl (jg Y size)+size<=262144:=by have:=D.UR;unfold fB at this;omega
       unfold lq at *;omega) (by unfold pJ;rw [if_neg hb])
    rw [show (((lq X Y size).toNat:Nat):Int)=lq X Y size by omega] at this;exact this
 have e3:oh (pJ X Y size) (jg Y size)=(mH X Y size,pK X Y size,0):=Te (fO Wv) (fO bH) D.hig rfl rfl
 -- what cmpLow is asked
 have Y3:jg Y size*2^fB Y size<=Y:=D.low';have bBk:bl (jg Y size*2^fB Y size)<=262144:=mJ Y3 bY;have bLo:bl (Dl Y size)<=262144:=mJ (yK _ _) bY
 have bTk:bl (oq X Y size)<=262144:=by
  have h1:oq X Y size<2^(size+1+fB Y size):=by
   unfold oq;rw [aJ];exact qO D.w0 D.YM
  have:=dP h1;omega
 have bHs:bl (qx X Y size)<=262144:=by
  refine mJ (Y:=Y) (dC ?_ Y3) bY;exact fK _ (lK D.lef)
 have c1:aU (jg Y size) ((fB Y size:Nat):Int)=(jg Y size*2^fB Y size,0):=o8 (fO bH) (.inr (by have:=D.UR;omega)) rfl;have c2:og Y (jg Y size*2^fB Y size)=(Dl Y size,0):=vN (fO bY) (fO bBk) (by unfold Dl;omega);have c3:jS (mH X Y size) (Dl Y size)=(oq X Y size,0):=Lc (fO Y2) (fO bLo) (fO bTk) rfl
 have c4:aU (pK X Y size) ((fB Y size:Nat):Int)=(qx X Y size,0):=o8 (fO bLf) (by
  by_cases h0:pK X Y size=0
  · exact .inl h0
  · right
    have hlt:pK X Y size<=jg Y size:=lK D.lef;have:=dP (gQ hlt (iB (jg Y size)));have:=D.UR
    omega) rfl
 have HC:Hid (∀ (u:World) (p q r s:Option Addr) (cp cq cr cs:Nat),Arg u p (ws (mH X Y size)).length cp (ws (mH X Y size))->Arg u q (ws (pK X Y size)).length cq (ws (pK X Y size))->Arg u r (ws Y).length cr (ws Y)->Arg u s (ws (jg Y size)).length cs (ws (jg Y size))->Calls Tryz.prog 164 #[.slice p (ws (mH X Y size)).length cp,.slice q (ws (pK X Y size)).length cq,.slice r (ws Y).length cr,.slice s (ws (jg Y size)).length cs,.int .i64 ((fB Y size:Nat):Int)] u fun r w'=>r=.returned (.int .i64 (aX (qx X Y size) (oq X Y size)))/\Below u.heap.size u w') :=
  fun u p q r s cp cq cr cs A1 A2 A3 A4=>Gn _ _ _ _ (fB Y size) _ _ _ _ _ A1 A2 A3 A4 (by omega) c1 c2 c3 c4 rfl (bK bBk) (bK bLo) (bK bTk) (bK bHs)
 have KC:(decide (aX (qx X Y size) (oq X Y size)=0)&&decide (0<=lq X Y size))=ou X Y size:=by rw [O3];rfl
 have hcut:max ((bl Y:Int)+(size:Int)-262144) 0=((fB Y size:Nat):Int):=by unfold fB;omega
 by_cases hlt:qx X Y size<oq X Y size
 · have hz:decide (aX (qx X Y size) (oq X Y size)<0)=true:=by rw [Dq];exact decide_eq_true hlt
   have e4:og (mH X Y size) 1=(dO X Y size,0):=by
    refine vN (fO Y2) (fO (by decide)) ?_;have:=D.less hlt;unfold dO;rw [if_pos hlt];omega
   exact Dp n m X Y e f size (bl X) (bl Y) (bl (jg Y size)) (fB Y size) (jg Y size) (pJ X Y size) (mH X Y size) (pK X Y size) (dO X Y size) _ (lq X Y size) _ _ _ _ (ou X Y size) AX AY he0 he1 hf0 hf1 hs rfl rfl rfl bX bY bH rfl hcut (by omega) e1 rfl e2 e3 HC hz e4 rfl rfl rfl KC (bK bH) (bK Wv) (bK Y2) (bK bLf) (bK (mJ (Y:=mH X Y size) (by unfold dO;rw [if_pos hlt];omega) Y2))
 · have hz:decide (aX (qx X Y size) (oq X Y size)<0)=false:=by rw [Dq];exact decide_eq_false hlt
   have eW:dO X Y size=mH X Y size:=by unfold dO;rw [if_neg hlt]
   rw [eW];exact Dm n m X Y e f size (bl X) (bl Y) (bl (jg Y size)) (fB Y size) (jg Y size) (pJ X Y size) (mH X Y size) (pK X Y size) 0 _ (lq X Y size) _ _ _ _ (ou X Y size) AX AY he0 he1 hf0 hf1 hs rfl rfl rfl bX bY bH rfl hcut (by omega) e1 rfl e2 e3 HC hz rfl rfl rfl KC (bK bH) (bK Wv) (bK Y2) (bK bLf)
theorem xc (W:World) (g:Nat) (n:Bool) (v:Value) (e k:Int) (tmps:Array Value) (ht:tmps[4]?.getD undef=.pointer (some ⟨g,0,none⟩)) (hk:tmps[5]?.getD undef=.int .i64 k) (D:Tk W g 37 (.bool n) v (.int .i64 e)) :
 (results Tryz.f126 tmps).run Tryz.prog W=.ok (.tuple #[.agg #[.bool n,v,.int .i64 e],.int .i64 k]) W:=by
 obtain ⟨x0,x1,x2,_,_,_⟩:=D.facts;simp [results,Tryz.results126,ht,hk,go_sem,x0,x1,x2]
theorem zx (w:World) (v:Value) (x:Int) (t:Bool) (W:World) (hW:W=(w.alloc (.cells #[v,.int .i64 x,.bool t] 135)).alloc (.cells #[.bool false,.slice none 0 0,.int .i64 0] 37)) :
 Below w.heap.size w W/\W.heap.size=w.heap.size+2/\Tk W w.heap.size 135 v (.int .i64 x) (.bool t)/\Tk W (w.heap.size+1) 37 (.bool false) (.slice none 0 0) (.int .i64 0):=by
 rw [hW];refine ⟨(ae w _).alloc (by simp) _,by simp,(Tk.new _ _ _ _ _).alloc _,?_⟩;have:=Tk.new (w.alloc (.cells #[v,.int .i64 x,.bool t] 135)) 37 (.bool false) (.slice none 0 0) (.int .i64 0);simpa using this
theorem Gp {w:World}{a:Option Addr}{ca:Nat}(n:Bool) (W M2 M3:Nat) (x y E:Int) (dn:Bool) (V:Nat) (de er:Int) (AW:Arg w a (ws W).length ca (ws W)) (hx0:-10000000<=x) (hx1:x<=10000000)
 (e1:aU W 1=(M2,0)) (hy:x-1=y) (hE:min (max y (-4096)) 4096=E) (l2:(ws M2).length<=8192) (lV:(ws V).length<=8192)
 (HM:Hid (∀ (u:World) (p:Option Addr) (q:Nat),Below w.heap.size w u->Arg u p (ws M2).length q (ws M2)->Calls Tryz.prog 98 #[.bool n,.slice p (ws M2).length q,.int .i64 E] u fun r w'=>(∃ v,r=.returned (.tuple #[.agg #[.bool dn,v,.int .i64 de],.int .i64 er])/\Nt u.heap.size w' v V)/\Below u.heap.size u w')) :
 Calls Tryz.prog 126 #[.bool n,.agg #[.slice a (ws W).length ca,.int .i64 x,.bool true]] w fun r w'=>(∃ v,r=.returned (.tuple #[.agg #[.bool dn,v,.int .i64 de],.int .i64 er])/\Nt w.heap.size w' v V)/\Below w.heap.size w w':=by
 obtain ⟨W1,hW1⟩:=af ((w.alloc (.cells #[.slice a (ws W).length ca,.int .i64 x,.bool true] 135)).alloc (.cells #[.bool false,.slice none 0 0,.int .i64 0] 37));obtain ⟨hB,hz1,SK,DK⟩:=zx w _ x true W1 hW1;have Dn:aU (val (ws W)) 1=(M2,0):=by rw [ah];exact e1
 have E1:=ak Dn;have hs2:w.heap.size+2<=W1.heap.size:=by omega
 have l1s:(ws 1).length<=8192:=by rw [sQ];simp
 have hbel:=hB;have S0:=(fF hbel (AW.below hB) SK DK);clear hbel;clear e1 Dn AW hB SK DK hz1;go_enter Tryz.func126,Tryz.ntmps126;obtain ⟨x0,x1,x2,_,_,_⟩:=S0.o.r2.1.facts;obtain ⟨au,AW,SK,DK⟩:=S0.o;have HC:=hid (eZ 1 AW E1.o (by omega) (by omega));clear au AW SK DK
 go_upto_region 1 with fail
 rw [<-hW1];clear hW1;go_wp2_with fail;clear x0 x1 x2;refine HC.o.mono ?_;rintro r u1 ⟨v,rfl,hN,hb⟩;obtain ⟨a1,c1,rfl,_⟩:=hN.arg (by omega);clear HC;obtain ⟨au,AW,SK,DK⟩:=S0.o;have hbn:=au.trans (hb.mono au.size);have S1:=dK hbn (AW.below hb) (SK.below hb) (DK.below hb) (hN.mono au.size);clear au AW SK DK;clear hb hbn S0;clear hN;obtain ⟨x0,x1,x2,_,_,_⟩:=S1.o.r2.1.facts;obtain ⟨au,AW,SK,DK,N2⟩:=S1.o;have HC:=hid (HM.o u1 _ _ au (N2.aR (by omega)).2);clear au AW SK DK N2;go_wp2_with fail;clear x0 x1 x2;refine HC.o.mono ?_;rintro r u2 ⟨⟨v,rfl,hN⟩,hb⟩;obtain ⟨a7,c7,rfl,_⟩:=hN.arg (by omega);clear HC;obtain ⟨au,AW,SK,DK,N2⟩:=S1.o;have hbn:=au.trans (hb.mono au.size);have S2:=iM hbn (AW.below hb) (SK.below hb) (DK.below hb) (N2.below hb) (hN.mono au.size);clear au AW SK DK N2;clear hb hbn S1;clear hN;obtain ⟨au,AW,SK,DK,N2,NV⟩:=S2.o;have hlast:=cK au NV DK;obtain ⟨s0,s1,s2,sF,sG,sH⟩:=DK.facts;clear au AW SK DK N2 NV;clear S2 HM;go_wp2;obtain ⟨au,NZ,DK⟩:=hlast.o;have hsz:=au.size;exact aC (xc _ (w.heap.size+1) dn (.slice a7 (ws V).length c7) de er _ rfl rfl (DK.set _ _ _)) rfl ⟨⟨_,rfl,NZ.mI DK (by decide) _ _ _⟩,bM au hsz (by omega) _ _ _⟩
theorem Ld {w:World}{a:Option Addr}{ca:Nat}(n:Bool) (W M2 M3:Nat) (x y E:Int) (dn:Bool) (V:Nat) (de er:Int) (AW:Arg w a (ws W).length ca (ws W)) (hx0:-10000000<=x) (hx1:x<=10000000)
 (e1:aU W 1=(M2,0)) (e2:uU M2 1=(M3,0)) (hy:x-1=y) (hE:min (max y (-4096)) 4096=E) (l2:(ws M2).length<=8192) (l3:(ws M3).length<=8192) (lV:(ws V).length<=8192)
 (HM:Hid (∀ (u:World) (p:Option Addr) (q:Nat),Below w.heap.size w u->Arg u p (ws M3).length q (ws M3)->Calls Tryz.prog 98 #[.bool n,.slice p (ws M3).length q,.int .i64 E] u fun r w'=>(∃ v,r=.returned (.tuple #[.agg #[.bool dn,v,.int .i64 de],.int .i64 er])/\Nt u.heap.size w' v V)/\Below u.heap.size u w')) :
 Calls Tryz.prog 126 #[.bool n,.agg #[.slice a (ws W).length ca,.int .i64 x,.bool false]] w fun r w'=>(∃ v,r=.returned (.tuple #[.agg #[.bool dn,v,.int .i64 de],.int .i64 er])/\Nt w.heap.size w' v V)/\Below w.heap.size w w':=by
 obtain ⟨W1,hW1⟩:=af ((w.alloc (.cells #[.slice a (ws W).length ca,.int .i64 x,.bool false] 135)).alloc (.cells #[.bool false,.slice none 0 0,.int .i64 0] 37));obtain ⟨hB,hz1,SK,DK⟩:=zx w _ x false W1 hW1;have Dn:aU (val (ws W)) 1=(M2,0):=by rw [ah];exact e1
 have e2':uU (val (ws M2)) (val (ws 1))=(M3,0):=by rw [ah,ah];exact e2
 have E2:=ak e2';clear e2 e2';have E1:=ak Dn;have hs2:w.heap.size+2<=W1.heap.size:=by omega
 have l1s:(ws 1).length<=8192:=by rw [sQ];simp
 have hbel:=hB;have S0:=(fF hbel (AW.below hB) SK DK);clear hbel;clear e1 Dn AW hB SK DK hz1;go_enter Tryz.func126,Tryz.ntmps126;obtain ⟨x0,x1,x2,_,_,_⟩:=S0.o.r2.1.facts;obtain ⟨au,AW,SK,DK⟩:=S0.o;have HC:=hid (eZ 1 AW E1.o (by omega) (by omega));clear au AW SK DK
 go_upto_region 1 with fail
 rw [<-hW1];clear hW1;go_wp2_with fail;clear x0 x1 x2;refine HC.o.mono ?_;rintro r u1 ⟨v,rfl,hN,hb⟩;obtain ⟨a1,c1,rfl,_⟩:=hN.arg (by omega);clear HC;obtain ⟨au,AW,SK,DK⟩:=S0.o;have hbn:=au.trans (hb.mono au.size);have S1:=dK hbn (AW.below hb) (SK.below hb) (DK.below hb) (hN.mono au.size);clear au AW SK DK;clear hb hbn S0;clear hN;obtain ⟨x0,x1,x2,_,_,_⟩:=S1.o.r2.1.facts;obtain ⟨au,AW,SK,DK,N2⟩:=S1.o;have HC:=hid (qi 1 u1 (by omega));clear au AW SK DK N2;go_wp2_with fail;clear x0 x1 x2;refine HC.o.mono ?_;rintro r u2 ⟨v,rfl,hN,hb⟩;obtain ⟨a5,c5,rfl,_⟩:=hN.arg (by omega);clear HC;obtain ⟨au,AW,SK,DK,N2⟩:=S1.o;have hbn:=au.trans (hb.mono au.size);have S2:=iM hbn (AW.below hb) (SK.below hb) (DK.below hb) (N2.below hb) (hN.mono au.size);clear au AW SK DK N2;clear hb hbn S1;clear hN;obtain ⟨au,AW,SK,DK,N2,NO⟩:=S2.o;have HC:=hid (vJ (N2.aR (by omega)).2 (NO.aR (by omega)).2 E2.o);clear au AW SK DK N2 NO;go_wp2_with fail;refine HC.o.mono ?_;rintro r u3 ⟨v,rfl,hN,hb⟩;obtain ⟨a6,c6,rfl,_⟩:=hN.arg (by omega);clear HC;obtain ⟨au,AW,SK,DK,N2,NO⟩:=S2.o;have hbn:=au.trans (hb.mono au.size);have S3:=lZ hbn (AW.below hb) (SK.below hb) (DK.below hb) (N2.below hb) (NO.below hb) (hN.mono au.size);clear au AW SK DK N2 NO;clear hb hbn S2;clear hN;obtain ⟨x0,x1,x2,_,_,_⟩:=S3.o.r2.1.facts;obtain ⟨au,AW,SK,DK,N2,NO,N3⟩:=S3.o;have HC:=hid (HM.o u3 _ _ au (N3.aR (by omega)).2);clear au AW SK DK N2 NO N3;go_wp2_with fail;clear x0 x1 x2;refine HC.o.mono ?_;rintro r u4 ⟨⟨v,rfl,hN⟩,hb⟩;obtain ⟨a7,c7,rfl,_⟩:=hN.arg (by omega);clear HC;obtain ⟨au,AW,SK,DK,N2,NO,N3⟩:=S3.o;have hbn:=au.trans (hb.mono au.size);have S4:=su hbn (AW.below hb) (SK.below hb) (DK.below hb) (N2.below hb) (NO.below hb) (N3.below hb) (hN.mono au.size);clear au AW SK DK N2 NO N3;clear hb hbn S3;clear hN;obtain ⟨au,AW,SK,DK,N2,NO,N3,NV⟩:=S4.o;have hlast:=cK au NV DK;obtain ⟨s0,s1,s2,sF,sG,sH⟩:=DK.facts;clear au AW SK DK N2 NO N3 NV;clear S4 HM;go_wp2;obtain ⟨au,NZ,DK⟩:=hlast.o;have hsz:=au.size;exact aC (xc _ (w.heap.size+1) dn (.slice a7 (ws V).length c7) de er _ rfl rfl (DK.set _ _ _)) rfl ⟨⟨_,rfl,NZ.mI DK (by decide) _ _ _⟩,bM au hsz (by omega) _ _ _⟩
theorem xe {w:World}{a:Option Addr}{ca:Nat}(n:Bool) (W:Nat) (x:Int) (t:Bool) (AW:Arg w a (ws W).length ca (ws W)) (hT:dF w) (hx0:-10000000<=x) (hx1:x<=10000000) (hW:bl W<=1000) :
 Calls Tryz.prog 126 #[.bool n,.agg #[.slice a (ws W).length ca,.int .i64 x,.bool t]] w fun r w'=>bG w.heap.size w' r (mkS n (2*W+(if t then 0 else 1)) (eu x))/\Below w.heap.size w w':=by
 have hLW:¬ LG W:=fun k=>by have:=(uA W).1 k;omega
 have e1:aU W 1=(2*W,0):=by
  have:=o8 (X:=W) (k:=1) (V:=2*W) hLW (.inr (by omega)) (by omega);simpa using this
 have b2:∀ d,d<=1->bl (2*W+d)<=1001:=by
  intro d hd;have h1:=iB W;have h2:2*W+d<2^(bl W+1):=by rw [dM];omega
  by_cases h0:2*W+d=0
  · rw [h0,dA];omega
  · have:=(jv (a:=2) (by decide)).1 (gQ (gW _ h0) h2);have:=dD _ h0;omega
 have l8:∀ d,d<=1->(ws (2*W+d)).length<=8192/\¬ LG (2*W+d):=by
  intro d hd;have hb:=b2 d hd;have hn:¬ LG (2*W+d):=fun k=>by have:=(uA (2*W+d)).1 k;omega
  exact ⟨by unfold LG at hn;omega,hn⟩
 have cl0:-4096<=eu x/\eu x<=4096:=by unfold eu;omega
 unfold bG;have hl:=aI n (2*W+(if t then 0 else 1)) (eu x)
 cases t with
 | true =>
   simp only [if_true,gP] at hl |-;refine Gp n W (2*W) 0 x _ _ _ _ _ _ AW hx0 hx1 e1 rfl rfl (l8 0 (by omega)).1 hl ?_;intro u p q hu hA;have:=gX hA (hT.belows hu) n (eu x) (by omega) (by omega);rw [ah] at this;exact this
 | false =>
   simp only [eY,if_false] at hl |-;refine Ld n W (2*W) (2*W+1) x _ _ _ _ _ _ AW hx0 hx1 e1 (vM (l8 1 (by omega)).2 rfl) rfl rfl (l8 0 (by omega)).1 (l8 1 (by omega)).1 hl ?_;intro u p q hu hA;have:=gX hA (hT.belows hu) n (eu x) (by omega) (by omega);rw [ah] at this;exact this
theorem jE (w:World) (n:Bool) (v:Value) (e:Int) (m:Bool) (u:Value) (f:Int) (W:World) (hW:W=(w.alloc (.cells #[.bool n,v,.int .i64 e,.bool m,u,.int .i64 f] 73)).alloc (.cells #[.bool false,.slice none 0 0,.int .i64 0] 37)) :
 Below w.heap.size w W/\W.heap.size=w.heap.size+2/\Rq W w.heap.size n v e m u f/\Tk W (w.heap.size+1) 37 (.bool false) (.slice none 0 0) (.int .i64 0):=by
 rw [hW];refine ⟨(ae w _).alloc (by simp) _,by simp,(Rq.new _ _ _ _ _ _ _).alloc _,?_⟩;have:=Tk.new (w.alloc (.cells #[.bool n,v,.int .i64 e,.bool m,u,.int .i64 f] 73)) 37 (.bool false) (.slice none 0 0) (.int .i64 0);simpa using this
theorem rH (W:World) (g:Nat) (n:Bool) (v:Value) (e k:Int) (tmps:Array Value) (ht:tmps[2]?.getD undef=.pointer (some ⟨g,0,none⟩)) (hk:tmps[3]?.getD undef=.int .i64 k) (D:Tk W g 37 (.bool n) v (.int .i64 e)) :
 (results Tryz.f81 tmps).run Tryz.prog W=.ok (.tuple #[.agg #[.bool n,v,.int .i64 e],.int .i64 k]) W:=by
 obtain ⟨x0,x1,x2,_,_,_⟩:=D.facts;simp [results,Tryz.results81,ht,hk,go_sem,x0,x1,x2]
theorem yw {w:World}{a b:Option Addr}{la ca lb cb:Nat}(n m:Bool) (e f:Int) (WH:Nat) (x:Int) (tt:Bool) (dn:Bool) (V:Nat) (de er:Int) (lW:(ws WH).length<=8192) (lV:(ws V).length<=8192)
 (HD:Hid (∀ u,Below w.heap.size w u->Calls Tryz.prog 127 #[.agg #[.bool n,.slice a la ca,.int .i64 e,.bool m,.slice b lb cb,.int .i64 f],.int .i64 64] u fun r w'=>(∃ v,r=.returned (.agg #[v,.int .i64 x,.bool tt])/\Nt u.heap.size w' v WH)/\Below u.heap.size u w'))
 (HI:Hid (∀ (u:World) (p:Option Addr) (q:Nat),Below w.heap.size w u->Arg u p (ws WH).length q (ws WH)->Calls Tryz.prog 126 #[.bool n,.agg #[.slice p (ws WH).length q,.int .i64 x,.bool tt]] u fun r w'=>(∃ v,r=.returned (.tuple #[.agg #[.bool dn,v,.int .i64 de],.int .i64 er])/\Nt u.heap.size w' v V)/\Below u.heap.size u w')) :
 Calls Tryz.prog 81 #[.agg #[.bool n,.slice a la ca,.int .i64 e,.bool m,.slice b lb cb,.int .i64 f]] w fun r w'=>(∃ v,r=.returned (.tuple #[.agg #[.bool dn,v,.int .i64 de],.int .i64 er])/\Nt w.heap.size w' v V)/\Below w.heap.size w w':=by
 obtain ⟨W1,hW1⟩:=af ((w.alloc (.cells #[.bool n,.slice a la ca,.int .i64 e,.bool m,.slice b lb cb,.int .i64 f] 73)).alloc (.cells #[.bool false,.slice none 0 0,.int .i64 0] 37));obtain ⟨hB,hz1,RQ,DK⟩:=jE w n _ e m _ f W1 hW1;have T1:=hid (HD.o W1 hB);have T2:=hid (HD.o W1.drew hB.drew);obtain ⟨x0,x1,x2,x3,x4,x5⟩:=RQ.facts;obtain ⟨s0,s1,s2,sF,sG,sH⟩:=DK.facts;have hs1:w.heap.size+2<=W1.heap.size:=by omega
 have SB:=(cK hB RQ DK);clear hB hz1 RQ DK HD;go_enter Tryz.func81,Tryz.ntmps81;go_wp2_with fail;rw [<-hW1];clear hW1;have ne1:w.heap.size≠w.heap.size+1:=by omega
 have Mj:w.heap.size+1≠w.heap.size:=by omega
 go_region_held3 (fun w'=>w'.cell? ⟨w.heap.size,0,none⟩=some (.bool n)/\w'.cell? ⟨w.heap.size,1,none⟩=some (.slice a la ca)/\w'.cell? ⟨w.heap.size,2,none⟩=some (.int .i64 e)/\w'.cell? ⟨w.heap.size,3,none⟩=some (.bool m)/\w'.cell? ⟨w.heap.size,4,none⟩=some (.slice b lb cb)/\w'.cell? ⟨w.heap.size,5,none⟩=some (.int .i64 f)) (go_keep) (first
  | (go_at_call 127
     first | with_reducible refine T1.o.mono ?_ | with_reducible refine T2.o.mono ?_
     rintro r u1 ⟨⟨v,rfl,hN⟩,hb⟩;obtain ⟨a1,c1,rfl,_⟩:=hN.arg (by omega);have hb1:Below W1.heap.size W1 u1:=by first | exact hb | exact ((aB _ W1).drew).trans (hb.mono (aA _))
     have BW:Below w.heap.size w u1:=SB.o.1.trans (hb1.mono (by omega));have HI1:=hid (HI.o u1 _ _ BW (hN.aR (by omega)).2);obtain ⟨p0,p1,p2,IC,IE,IG⟩:=(SB.o.r2.below hb1).facts;obtain ⟨q0,q1,q2,q3,q4,q5⟩:=(SB.o.2.1.below hb1).facts;have S1:=(cK BW (SB.o.2.1.below hb1) (SB.o.r2.below hb1))
     clear hb hb1 BW hN)
  | (go_at_call 126
     with_reducible refine HI1.o.mono ?_
     rintro r u2 ⟨⟨v,rfl,hN⟩,hb⟩;obtain ⟨a4,c4,rfl,_⟩:=hN.arg (by omega);have LD:=S1.o.r2.below hb;obtain ⟨t0,t1,t2,QQ,QS,QT⟩:=LD.facts;obtain ⟨i0,i1,i2,i3,i4,i5⟩:=(S1.o.2.1.below hb).facts;have FV:=cK (S1.o.1.trans (hb.mono S1.o.1.size)) (hN.mono S1.o.1.size) LD
     clear hN hb LD))
 all_goals (
  go_wp2;obtain ⟨au,NZ,DK⟩:=FV.o;have hsz:=au.size
  first
  | exact aC (rH _ (w.heap.size+1) dn (.slice a4 (ws V).length c4) de er _ rfl rfl (DK.set _ _ _)) rfl ⟨⟨_,rfl,NZ.mI DK (by decide) _ _ _⟩,bM au hsz (by omega) _ _ _⟩
  | exact aC (rH _ (w.heap.size+1) dn (.slice a4 (ws V).length c4) de er _ rfl rfl (DK.set _ _ _)) rfl ⟨⟨_,rfl,NZ.mI DK (by decide) _ _ _⟩,(bM au hsz (by omega) _ _ _).drew⟩)
theorem Bf {w:World}{a b:Option Addr}{ca cb:Nat}(n m:Bool) (X Y:Nat) (e f:Int)
 (AX:Arg w a (ws X).length ca (ws X)) (AY:Arg w b (ws Y).length cb (ws Y)) (hT:dF w) (hX:X=0\/X%2=1) (hY:Y≠0)
 (he0:-1048576<=e) (he1:e<=1048576) (hf0:-1048576<=f) (hf1:f<=1048576) (bX:bl X<=262144) (bY:bl Y<=262144) :
 Calls Tryz.prog 81 #[.agg #[.bool n,.slice a (ws X).length ca,.int .i64 e,.bool m,.slice b (ws Y).length cb,.int .i64 f]] w fun r w' =>
  bG w.heap.size w' r (mkS n (2*dO X Y 64+(if ou X Y 64 then 0 else 1)) (eu (e-f-lq X Y 64-fB Y 64)))/\Below w.heap.size w w':=by
 have D:=iE X Y 64 hX hY (by omega) (by omega) bX bY;have bW:bl (dO X Y 64)<=65:=dP D.most;have hc:fB Y 64<=64:=by unfold fB;omega
 have hb:-262144<=lq X Y 64/\lq X Y 64<=264000:=by have:=D.UR;unfold lq;omega
 unfold bG;refine yw n m e f (dO X Y 64) (e-f-lq X Y 64-fB Y 64) (ou X Y 64) _ _ _ _ (bK (by omega)) (aI _ _ _) ?_ ?_
 · intro u hu;exact zw n m X Y e f 64 (AX.below hu) (AY.below hu) hX hY he0 he1 hf0 hf1 (by omega) (by omega) bX bY
 · intro u p q hu hA;exact xe n (dO X Y 64) _ (ou X Y 64) hA (hT.belows hu) (by omega) (by omega) (by omega)
theorem nz (W:World) (g:Nat) (v:Value) (x:Int) (t:Bool) (tmps:Array Value) (ht:tmps[2]?.getD undef=.pointer (some ⟨g,0,none⟩)) (D:Tk W g 135 v (.int .i64 x) (.bool t)) :
 (results Tryz.f145 tmps).run Tryz.prog W=.ok (.agg #[v,.int .i64 x,.bool t]) W:=by
 obtain ⟨x0,x1,x2,_,_,_⟩:=D.facts;simp [results,Tryz.results145,ht,go_sem,x0,x1,x2]
theorem Dt (w:World) (v:Value) (x:Int) (t:Bool) (W:World) (hW:W=(w.alloc (.cells #[v,.int .i64 x,.bool t] 135)).alloc (.cells #[.slice none 0 0,.int .i64 0,.bool false] 135)) :
 Below w.heap.size w W/\W.heap.size=w.heap.size+2/\Tk W w.heap.size 135 v (.int .i64 x) (.bool t)/\Tk W (w.heap.size+1) 135 (.slice none 0 0) (.int .i64 0) (.bool false):=by
 rw [hW];refine ⟨(ae w _).alloc (by simp) _,by simp,(Tk.new _ _ _ _ _).alloc _,?_⟩;have:=Tk.new (w.alloc (.cells #[v,.int .i64 x,.bool t] 135)) 135 (.slice none 0 0) (.int .i64 0) (.bool false);simpa using this
theorem Gq {w:World}{a:Option Addr}{ca:Nat}(W H:Nat) (x y:Int) (AW:Arg w a (ws W).length ca (ws W)) (hx0:-10000000<=x) (hx1:x<=10000000) (e1:aU W (-1)=(H,0)) (hy:x+1=y) (l2:(ws H).length<=8192) (b:Bool) (hb0:decide (W/2^0%2=1)=b) :
 Calls Tryz.prog 145 #[.agg #[.slice a (ws W).length ca,.int .i64 x,.bool true]] w fun r w'=>(∃ v,r=.returned (.agg #[v,.int .i64 y,.bool (!b)])/\Nt w.heap.size w' v H)/\Below w.heap.size w w':=by
 obtain ⟨W1,hW1⟩:=af ((w.alloc (.cells #[.slice a (ws W).length ca,.int .i64 x,.bool true] 135)).alloc (.cells #[.slice none 0 0,.int .i64 0,.bool false] 135));obtain ⟨hB,hz1,SK,RK⟩:=Dt w _ x true W1 hW1;have Dn:aU (val (ws W)) (-1)=(H,0):=by rw [ah];exact e1
 have HC:=hid (eZ (-1) (AW.below hB) Dn (by omega) (by omega));obtain ⟨x0,x1,x2,_,_,_⟩:=SK.facts;have hs2:w.heap.size+2<=W1.heap.size:=by omega
 have S0:=(fF hB SK RK (AW.below hB));clear hB SK RK AW hz1 e1 Dn;go_enter Tryz.func145,Tryz.ntmps145
 go_upto_region 1 with fail
 rw [<-hW1];clear hW1;go_wp2_with fail;clear x0 x1 x2;refine HC.o.mono ?_;rintro r u1 ⟨v,rfl,hN,hb⟩;obtain ⟨a1,c1,rfl,_⟩:=hN.arg (by omega);clear HC;obtain ⟨au,SK,RK,AW⟩:=S0.o;obtain ⟨x0,x1,x2,_,_,_⟩:=(SK.below hb).facts;obtain ⟨s0,s1,s2,sF,sG,sH⟩:=(RK.below hb).facts;have S1:=(cK (au.trans (hb.mono au.size)) (RK.below hb) (hN.mono au.size))
 have HB1:∀ w',w'=u1\/w'=u1.drew->Calls Tryz.prog 179 #[.slice a (ws W).length ca,.int .i64 0] w' fun r w''=>r=.returned (.bool b)/\w''=w':=by
  intro w' hw;have:=q8 (ws W) a (ws W).length ca w'.heap.size 0 w' rfl (AW.below hb).wf (by rcases hw with rfl | rfl;exact (AW.below hb).rd;exact (AW.below hb).rd) (by omega);rw [ah,hb0] at this;exact this
 have HB:=hid HB1;clear HB1 hb0;have hwy:IntKind.i64.wrap y=y:=by simp [IntKind.wrap,IntKind.bits,IntKind.signed];omega
 have ne1:w.heap.size≠w.heap.size+1:=by omega
 have Mj:w.heap.size+1≠w.heap.size:=by omega
 clear au SK RK AW hN S0 hb;go_wp2_with fail
 go_region_held3 (fun w'=>w'.cell? ⟨w.heap.size,0,none⟩=some (.slice a (ws W).length ca)/\w'.cell? ⟨w.heap.size,1,none⟩=some (.int .i64 x)/\w'.cell? ⟨w.heap.size,2,none⟩=some (.bool true)) (go_keep) (first
  | (go_at_call 179
     with_reducible refine (HB.o _ (by first | exact .inl rfl | exact .inr rfl)).mono ?_
     rintro r u2 ⟨rfl,rfl⟩))
 all_goals (
  go_wp2;obtain ⟨au,RK,NZ⟩:=S1.o;have hsz:=au.size
  first
  | exact aC (nz _ (w.heap.size+1) (.slice a1 (ws H).length c1) y _ _ rfl (RK.set _ _ _)) rfl ⟨⟨_,rfl,NZ.mI RK (by decide) _ _ _⟩,bM au hsz (by omega) _ _ _⟩
  | exact aC (nz _ (w.heap.size+1) (.slice a1 (ws H).length c1) y _ _ rfl (RK.set _ _ _)) rfl ⟨⟨_,rfl,NZ.mI RK (by decide) _ _ _⟩,(bM au hsz (by omega) _ _ _).drew⟩)
theorem Lg {w:World}{a:Option Addr}{ca:Nat}(W H:Nat) (x y:Int) (AW:Arg w a (ws W).length ca (ws W)) (hx0:-10000000<=x) (hx1:x<=10000000) (e1:aU W (-1)=(H,0)) (hy:x+1=y) (l2:(ws H).length<=8192) :
 Calls Tryz.prog 145 #[.agg #[.slice a (ws W).length ca,.int .i64 x,.bool false]] w fun r w'=>(∃ v,r=.returned (.agg #[v,.int .i64 y,.bool false])/\Nt w.heap.size w' v H)/\Below w.heap.size w w':=by
 obtain ⟨W1,hW1⟩:=af ((w.alloc (.cells #[.slice a (ws W).length ca,.int .i64 x,.bool false] 135)).alloc (.cells #[.slice none 0 0,.int .i64 0,.bool false] 135));obtain ⟨hB,hz1,SK,RK⟩:=Dt w _ x false W1 hW1;have Dn:aU (val (ws W)) (-1)=(H,0):=by rw [ah];exact e1
 have HC:=hid (eZ (-1) (AW.below hB) Dn (by omega) (by omega));obtain ⟨x0,x1,x2,_,_,_⟩:=SK.facts;have hs2:w.heap.size+2<=W1.heap.size:=by omega
 have S0:=(fF hB SK RK (AW.below hB));clear hB SK RK AW hz1 e1 Dn;go_enter Tryz.func145,Tryz.ntmps145
 go_upto_region 1 with fail
 rw [<-hW1];clear hW1;go_wp2_with fail;clear x0 x1 x2;refine HC.o.mono ?_;rintro r u1 ⟨v,rfl,hN,hb⟩;obtain ⟨a1,c1,rfl,_⟩:=hN.arg (by omega);clear HC;obtain ⟨au,SK,RK,AW⟩:=S0.o;obtain ⟨x0,x1,x2,_,_,_⟩:=(SK.below hb).facts;obtain ⟨s0,s1,s2,sF,sG,sH⟩:=(RK.below hb).facts;have S1:=(cK (au.trans (hb.mono au.size)) (RK.below hb) (hN.mono au.size));have hwy:IntKind.i64.wrap y=y:=by simp [IntKind.wrap,IntKind.bits,IntKind.signed];omega
 have ne1:w.heap.size≠w.heap.size+1:=by omega
 have Mj:w.heap.size+1≠w.heap.size:=by omega
 clear au SK RK AW hN S0 hb;go_wp2_with fail
 go_region
 all_goals (
  go_wp2;obtain ⟨au,RK,NZ⟩:=S1.o;have hsz:=au.size
  first
  | exact aC (nz _ (w.heap.size+1) (.slice a1 (ws H).length c1) y _ _ rfl (RK.set _ _ _)) rfl ⟨⟨_,rfl,NZ.mI RK (by decide) _ _ _⟩,bM au hsz (by omega) _ _ _⟩
  | exact aC (nz _ (w.heap.size+1) (.slice a1 (ws H).length c1) y _ _ rfl (RK.set _ _ _)) rfl ⟨⟨_,rfl,NZ.mI RK (by decide) _ _ _⟩,(bM au hsz (by omega) _ _ _).drew⟩)
theorem jo (W:World) (g:Nat) (n:Bool) (v:Value) (e k:Int) (tmps:Array Value) (ht:tmps[2]?.getD undef=.pointer (some ⟨g,0,none⟩)) (hk:tmps[3]?.getD undef=.int .i64 k) (D:Tk W g 37 (.bool n) v (.int .i64 e)) :
 (results Tryz.f100 tmps).run Tryz.prog W=.ok (.tuple #[.agg #[.bool n,v,.int .i64 e],.int .i64 k]) W:=by
 obtain ⟨x0,x1,x2,_,_,_⟩:=D.facts;simp [results,Tryz.results100,ht,hk,go_sem,x0,x1,x2]
theorem O4 {w:World}{a b:Option Addr}{la ca lb cb:Nat}(m:Bool) (e f:Int) :
 Calls Tryz.prog 100 #[.agg #[.bool true,.slice a la ca,.int .i64 e,.bool m,.slice b lb cb,.int .i64 f]] w fun r w'=>r=.returned (.tuple #[.agg #[.bool false,.slice none 0 0,.int .i64 0],.int .i64 110])/\Below w.heap.size w w':=by
 obtain ⟨W1,hW1⟩:=af ((w.alloc (.cells #[.bool true,.slice a la ca,.int .i64 e,.bool m,.slice b lb cb,.int .i64 f] 73)).alloc (.cells #[.bool false,.slice none 0 0,.int .i64 0] 37));obtain ⟨hB,hz1,RQ,DK⟩:=jE w true _ e m _ f W1 hW1;obtain ⟨x0,x1,x2,x3,x4,x5⟩:=RQ.facts;obtain ⟨s0,s1,s2,sF,sG,sH⟩:=DK.facts;have SB:=(aK hB DK);clear hB hz1 RQ DK;go_enter Tryz.func100,Tryz.ntmps100
 go_upto_region 1 with fail
 rw [<-hW1];clear hW1;go_wp2;obtain ⟨au,DK⟩:=SB.o;exact aC (jo _ (w.heap.size+1) false (.slice none 0 0) 0 110 _ rfl rfl (DK.set _ _ _)) rfl ⟨rfl,bM au au.size (by omega) _ _ _⟩
theorem Bg {w:World}{a b:Option Addr}{la ca lb cb:Nat}(m:Bool) (e f:Int) (WH H R L lL:Nat) (x y h:Int) (tt bL:Bool) (dn:Bool) (V:Nat) (de er:Int) (lW:(ws WH).length<=8192) (lH:(ws H).length<=8192) (lR:(ws R).length<=8192) (lLL:(ws L).length<=8192) (lV:(ws V).length<=8192)
 (hx0:-10000000<=x) (hx1:x<=10000000) (Ww:(x.tmod 2==0)=true) (hh:x.tdiv 2=h) (hh0:-10000000<=h) (hh1:h<=10000000)
 (HD:Hid (∀ u,Below w.heap.size w u->Calls Tryz.prog 127 #[.agg #[.bool false,.slice a la ca,.int .i64 e,.bool m,.slice b lb cb,.int .i64 f],.int .i64 129] u fun r w'=>(∃ v,r=.returned (.agg #[v,.int .i64 x,.bool true])/\Nt u.heap.size w' v WH)/\Below u.heap.size u w'))
 (HR:Hid (∀ (u:World) (p:Option Addr) (q:Nat),Arg u p (ws WH).length q (ws WH)->Calls Tryz.prog 146 #[.slice p (ws WH).length q] u fun r w'=>∃ v v',r=.returned (.tuple #[v,v'])/\Nt u.heap.size w' v R/\Nt u.heap.size w' v' L/\Below u.heap.size u w'))
 (HL:Hid (∀ (u:World) (p:Option Addr) (q:Nat),Arg u p (ws L).length q (ws L)->Calls Tryz.prog 86 #[.slice p (ws L).length q] u fun r w'=>r=.returned (.int .i64 (lL:Nat))/\Below u.heap.size u w')) (hlL:((lL:Int)==0)=bL) (hlL2:(lL==0)=bL)
 (HI:Hid (∀ (u:World) (p:Option Addr) (q:Nat),Below w.heap.size w u->Arg u p (ws R).length q (ws R)->Calls Tryz.prog 126 #[.bool false,.agg #[.slice p (ws R).length q,.int .i64 h,.bool bL]] u fun r w'=>(∃ v,r=.returned (.tuple #[.agg #[.bool dn,v,.int .i64 de],.int .i64 er])/\Nt u.heap.size w' v V)/\Below u.heap.size u w')) :
 Calls Tryz.prog 100 #[.agg #[.bool false,.slice a la ca,.int .i64 e,.bool m,.slice b lb cb,.int .i64 f]] w fun r w'=>(∃ v,r=.returned (.tuple #[.agg #[.bool dn,v,.int .i64 de],.int .i64 er])/\Nt w.heap.size w' v V)/\Below w.heap.size w w':=by
 obtain ⟨W1,hW1⟩:=af ((w.alloc (.cells #[.bool false,.slice a la ca,.int .i64 e,.bool m,.slice b lb cb,.int .i64 f] 73)).alloc (.cells #[.bool false,.slice none 0 0,.int .i64 0] 37));obtain ⟨hB,hz1,RQ,DK⟩:=jE w false _ e m _ f W1 hW1;have T1:=hid (HD.o W1 hB);obtain ⟨x0,x1,x2,x3,x4,x5⟩:=RQ.facts;have hs1:w.heap.size+2<=W1.heap.size:=by omega
 have SB:=(aK hB DK);clear hB hz1 RQ DK HD;go_enter Tryz.func100,Tryz.ntmps100
 go_upto_region 1 with fail
 rw [<-hW1];clear hW1;go_wp2_with fail;clear x0 x1 x2 x3 x4 x5;refine T1.o.mono ?_;rintro r u1 ⟨⟨v,rfl,hN⟩,hb⟩;obtain ⟨a1,c1,rfl,_⟩:=hN.arg (by omega);clear T1;obtain ⟨U1,aP⟩:=af (u1.alloc (.cells #[.slice a1 (ws WH).length c1,.int .i64 x,.bool true] 135));have iR:Below u1.heap.size u1 U1:=by rw [aP];exact ae _ _
 have SK:Tk U1 u1.heap.size 135 (.slice a1 (ws WH).length c1) (.int .i64 x) (.bool true):=by rw [aP];exact Tk.new _ _ _ _ _
 obtain ⟨au,DK⟩:=SB.o;have bb:=au.trans (hb.mono au.size);obtain ⟨gS,O5⟩:∃ g,u1.heap.size=g:=⟨_,rfl⟩;have Wx:w.heap.size+2<=gS:=by have:=DK.lt;have:=hb.size;omega
 rw [O5] at SK;have S1:=(fF (bb.trans (iR.mono bb.size)) ((DK.below hb).below iR) ((hN.below iR).mono au.size) SK);obtain ⟨x0,x1,x2,bC,bE,bF⟩:=SK.facts;clear au DK bb hb iR hN SK SB
 go_upto_region 4 with fail
 rw [<-aP];clear aP O5;have HC:=hid (HR.o U1 a1 c1 (S1.o.r2.1.aR (by omega)).2);go_wp2_with fail;clear x0 x1 x2 bC bE bF;refine HC.o.mono ?_;rintro r u3 ⟨v,v',rfl,hN,hM,hb⟩;obtain ⟨a3,c3,rfl,_⟩:=hN.arg (by omega);obtain ⟨a4,c4,rfl,_⟩:=hM.arg (by omega);clear HC HR;obtain ⟨au,DK,NW,SK⟩:=S1.o;have bb:=au.trans (hb.mono au.size);have uV:=SK.below hb;have Gr:=DK.below hb;obtain ⟨x0,x1,x2,bC,bE,bF⟩:=uV.facts;obtain ⟨s0,s1,s2,sF,sG,sH⟩:=Gr.facts;have hwh:IntKind.i64.wrap h=h:=by simp [IntKind.wrap,IntKind.bits,IntKind.signed];omega
 have S3:=(dK bb Gr (hN.mono au.size) (hM.mono au.size) uV);have ne1:gS≠w.heap.size+1:=by omega
 have Mj:w.heap.size+1≠gS:=by omega
 have L1:=hid (HL.o u3 a4 c4 (S3.o.r3.1.aR (by omega)).2);have L2:=hid (HL.o u3.drew a4 c4 ((S3.o.r3.1.below ((aB _ u3).drew)).aR (by omega)).2);clear au DK NW SK bb hb hN hM uV Gr S1;go_wp2_with fail
 go_region_held3 (fun w'=>w'.cell? ⟨gS,0,none⟩=some (.slice a1 (ws WH).length c1)/\w'.cell? ⟨gS,1,none⟩=some (.int .i64 x)/\w'.cell? ⟨gS,2,none⟩=some (.bool true)) (go_keep) (first
  | (go_at_call 86
     first | with_reducible refine L1.o.mono ?_ | with_reducible refine L2.o.mono ?_
     rintro r u4 ⟨rfl,hb⟩;have hb1:Below u3.heap.size u3 u4:=by first | exact hb | exact ((aB _ u3).drew).trans (hb.mono (aA _))
     obtain ⟨au,DK,NR,NL,SK⟩:=S3.o;have bb:=au.trans (hb1.mono au.size);have I1:=hid (HI.o u4 a3 c3 bb ((NR.below hb1).aR (by omega)).2);have S4:=(cK bb (DK.below hb1) (SK.below hb1));obtain ⟨p0,p1,p2,IC,IE,IG⟩:=(SK.below hb1).facts;obtain ⟨q0,q1,q2,zf,zg,zh⟩:=(DK.below hb1).facts
     clear hb hb1 bb au DK NR NL SK)
  | (go_at_call 126
     with_reducible refine I1.o.mono ?_
     rintro r u5 ⟨⟨v,rfl,hN⟩,hb⟩;obtain ⟨a7,c7,rfl,_⟩:=hN.arg (by omega);obtain ⟨au,DK,SK⟩:=S4.o;obtain ⟨i0,i1,i2,Od,Oe,Og⟩:=(SK.below hb).facts;obtain ⟨t0,t1,t2,QQ,QS,QT⟩:=(DK.below hb).facts;have FV:=(cK (au.trans (hb.mono au.size)) (hN.mono au.size) (DK.below hb))
     clear hN hb au DK SK))
 all_goals (
  go_wp2;obtain ⟨au,NZ,DK⟩:=FV.o;have hsz:=au.size
  first
  | exact aC (jo _ (w.heap.size+1) dn (.slice a7 (ws V).length c7) de er _ rfl rfl (DK.set _ _ _)) rfl ⟨⟨_,rfl,NZ.mI DK (by decide) _ _ _⟩,bM au hsz (by omega) _ _ _⟩
  | exact aC (jo _ (w.heap.size+1) dn (.slice a7 (ws V).length c7) de er _ rfl rfl (DK.set _ _ _)) rfl ⟨⟨_,rfl,NZ.mI DK (by decide) _ _ _⟩,(bM au hsz (by omega) _ _ _).drew⟩)
theorem Bh {w:World}{a b:Option Addr}{la ca lb cb:Nat}(m:Bool) (e f:Int) (WH H R L lL:Nat) (x y h:Int) (tt bL:Bool) (dn:Bool) (V:Nat) (de er:Int) (lW:(ws WH).length<=8192) (lH:(ws H).length<=8192) (lR:(ws R).length<=8192) (lLL:(ws L).length<=8192) (lV:(ws V).length<=8192)
 (hx0:-10000000<=x) (hx1:x<=10000000) (Ww:(x.tmod 2==0)=true) (hh:x.tdiv 2=h) (hh0:-10000000<=h) (hh1:h<=10000000)
 (HD:Hid (∀ u,Below w.heap.size w u->Calls Tryz.prog 127 #[.agg #[.bool false,.slice a la ca,.int .i64 e,.bool m,.slice b lb cb,.int .i64 f],.int .i64 129] u fun r w'=>(∃ v,r=.returned (.agg #[v,.int .i64 x,.bool false])/\Nt u.heap.size w' v WH)/\Below u.heap.size u w'))
 (HR:Hid (∀ (u:World) (p:Option Addr) (q:Nat),Arg u p (ws WH).length q (ws WH)->Calls Tryz.prog 146 #[.slice p (ws WH).length q] u fun r w'=>∃ v v',r=.returned (.tuple #[v,v'])/\Nt u.heap.size w' v R/\Nt u.heap.size w' v' L/\Below u.heap.size u w'))
 (HI:Hid (∀ (u:World) (p:Option Addr) (q:Nat),Below w.heap.size w u->Arg u p (ws R).length q (ws R)->Calls Tryz.prog 126 #[.bool false,.agg #[.slice p (ws R).length q,.int .i64 h,.bool false]] u fun r w'=>(∃ v,r=.returned (.tuple #[.agg #[.bool dn,v,.int .i64 de],.int .i64 er])/\Nt u.heap.size w' v V)/\Below u.heap.size u w')) :
 Calls Tryz.prog 100 #[.agg #[.bool false,.slice a la ca,.int .i64 e,.bool m,.slice b lb cb,.int .i64 f]] w fun r w'=>(∃ v,r=.returned (.tuple #[.agg #[.bool dn,v,.int .i64 de],.int .i64 er])/\Nt w.heap.size w' v V)/\Below w.heap.size w w':=by
 obtain ⟨W1,hW1⟩:=af ((w.alloc (.cells #[.bool false,.slice a la ca,.int .i64 e,.bool m,.slice b lb cb,.int .i64 f] 73)).alloc (.cells #[.bool false,.slice none 0 0,.int .i64 0] 37));obtain ⟨hB,hz1,RQ,DK⟩:=jE w false _ e m _ f W1 hW1;have T1:=hid (HD.o W1 hB);obtain ⟨x0,x1,x2,x3,x4,x5⟩:=RQ.facts;have hs1:w.heap.size+2<=W1.heap.size:=by omega
 have SB:=(aK hB DK);clear hB hz1 RQ DK HD;go_enter Tryz.func100,Tryz.ntmps100
 go_upto_region 1 with fail
 rw [<-hW1];clear hW1;go_wp2_with fail;clear x0 x1 x2 x3 x4 x5;refine T1.o.mono ?_;rintro r u1 ⟨⟨v,rfl,hN⟩,hb⟩;obtain ⟨a1,c1,rfl,_⟩:=hN.arg (by omega);clear T1;obtain ⟨U1,aP⟩:=af (u1.alloc (.cells #[.slice a1 (ws WH).length c1,.int .i64 x,.bool false] 135));have iR:Below u1.heap.size u1 U1:=by rw [aP];exact ae _ _
 have SK:Tk U1 u1.heap.size 135 (.slice a1 (ws WH).length c1) (.int .i64 x) (.bool false):=by rw [aP];exact Tk.new _ _ _ _ _
 obtain ⟨au,DK⟩:=SB.o;have bb:=au.trans (hb.mono au.size);obtain ⟨gS,O5⟩:∃ g,u1.heap.size=g:=⟨_,rfl⟩;have Wx:w.heap.size+2<=gS:=by have:=DK.lt;have:=hb.size;omega
 rw [O5] at SK;have S1:=(fF (bb.trans (iR.mono bb.size)) ((DK.below hb).below iR) ((hN.below iR).mono au.size) SK);obtain ⟨x0,x1,x2,bC,bE,bF⟩:=SK.facts;clear au DK bb hb iR hN SK SB
 go_upto_region 4 with fail
 rw [<-aP];clear aP O5;have HC:=hid (HR.o U1 a1 c1 (S1.o.r2.1.aR (by omega)).2);go_wp2_with fail;clear x0 x1 x2 bC bE bF;refine HC.o.mono ?_;rintro r u3 ⟨v,v',rfl,hN,hM,hb⟩;obtain ⟨a3,c3,rfl,_⟩:=hN.arg (by omega);obtain ⟨a4,c4,rfl,_⟩:=hM.arg (by omega);clear HC HR;obtain ⟨au,DK,NW,SK⟩:=S1.o;have bb:=au.trans (hb.mono au.size);have uV:=SK.below hb;have Gr:=DK.below hb;obtain ⟨x0,x1,x2,bC,bE,bF⟩:=uV.facts;obtain ⟨s0,s1,s2,sF,sG,sH⟩:=Gr.facts;have hwh:IntKind.i64.wrap h=h:=by simp [IntKind.wrap,IntKind.bits,IntKind.signed];omega
 have S3:=(dK bb Gr (hN.mono au.size) (hM.mono au.size) uV);have ne1:gS≠w.heap.size+1:=by omega
 have Mj:w.heap.size+1≠gS:=by omega
 have I1:=hid (HI.o u3 a3 c3 S3.o.1 (S3.o.r2.1.aR (by omega)).2);have I2:=hid (HI.o u3.drew a3 c3 S3.o.1.drew ((S3.o.r2.1.below ((aB _ u3).drew)).aR (by omega)).2);clear au DK NW SK bb hb hN hM uV Gr S1;go_wp2_with fail
 first | (go_region_with (first
  | (go_at_call 126
     first | with_reducible refine I1.o.mono ?_ | with_reducible refine I2.o.mono ?_
     rintro r u5 ⟨⟨v,rfl,hN⟩,hb⟩;have hb1:Below u3.heap.size u3 u5:=by first | exact hb | exact ((aB _ u3).drew).trans (hb.mono (aA _))
     obtain ⟨a7,c7,rfl,_⟩:=hN.arg (by omega);obtain ⟨au,DK,NR,NL,SK⟩:=S3.o;obtain ⟨i0,i1,i2,Od,Oe,Og⟩:=(SK.below hb1).facts;obtain ⟨t0,t1,t2,QQ,QS,QT⟩:=(DK.below hb1).facts;have hN':Nt w.heap.size u5 (.slice a7 (ws V).length c7) V:=hN.mono au.size;have FV:=(cK (au.trans (hb1.mono au.size)) hN' (DK.below hb1))
     clear hN hN' hb hb1 au DK SK NR NL))) | fail
 all_goals (
  go_wp2;obtain ⟨au,NZ,DK⟩:=FV.o;have hsz:=au.size
  first
  | exact aC (jo _ (w.heap.size+1) dn (.slice a7 (ws V).length c7) de er _ rfl rfl (DK.set _ _ _)) rfl ⟨⟨_,rfl,NZ.mI DK (by decide) _ _ _⟩,bM au hsz (by omega) _ _ _⟩
  | exact aC (jo _ (w.heap.size+1) dn (.slice a7 (ws V).length c7) de er _ rfl rfl (DK.set _ _ _)) rfl ⟨⟨_,rfl,NZ.mI DK (by decide) _ _ _⟩,(bM au hsz (by omega) _ _ _).drew⟩)
theorem jz{P:Prop}(h:P:=by
 rw [dJ];exact ⟨bM bb bb.size (by omega) _ _ _,(DK.below hb).but (kU _ _ _ _ _) (by omega),(hN.mono au.size).mI uV (by decide) _ _ _,uV.set _ _ _⟩):P:=h
theorem Du {w:World}{a b:Option Addr}{la ca lb cb:Nat}(m:Bool) (e f:Int) (WH H R L lL:Nat) (x y h:Int) (tt bL:Bool) (dn:Bool) (V:Nat) (de er:Int) (lW:(ws WH).length<=8192) (lH:(ws H).length<=8192) (lR:(ws R).length<=8192) (lLL:(ws L).length<=8192) (lV:(ws V).length<=8192)
 (hx0:-10000000<=y) (hx1:y<=10000000) (Ww:(x.tmod 2==0)=false) (hh:y.tdiv 2=h) (hh0:-10000000<=h) (hh1:h<=10000000)
 (HD:Hid (∀ u,Below w.heap.size w u->Calls Tryz.prog 127 #[.agg #[.bool false,.slice a la ca,.int .i64 e,.bool m,.slice b lb cb,.int .i64 f],.int .i64 129] u fun r w'=>(∃ v,r=.returned (.agg #[v,.int .i64 x,.bool tt])/\Nt u.heap.size w' v WH)/\Below u.heap.size u w'))
 (HH:Hid (∀ (u:World) (p:Option Addr) (q:Nat),Arg u p (ws WH).length q (ws WH)->Calls Tryz.prog 145 #[.agg #[.slice p (ws WH).length q,.int .i64 x,.bool tt]] u fun r w'=>(∃ v,r=.returned (.agg #[v,.int .i64 y,.bool true])/\Nt u.heap.size w' v H)/\Below u.heap.size u w'))
 (HR:Hid (∀ (u:World) (p:Option Addr) (q:Nat),Arg u p (ws H).length q (ws H)->Calls Tryz.prog 146 #[.slice p (ws H).length q] u fun r w'=>∃ v v',r=.returned (.tuple #[v,v'])/\Nt u.heap.size w' v R/\Nt u.heap.size w' v' L/\Below u.heap.size u w'))
 (HL:Hid (∀ (u:World) (p:Option Addr) (q:Nat),Arg u p (ws L).length q (ws L)->Calls Tryz.prog 86 #[.slice p (ws L).length q] u fun r w'=>r=.returned (.int .i64 (lL:Nat))/\Below u.heap.size u w')) (hlL:((lL:Int)==0)=bL) (hlL2:(lL==0)=bL)
 (HI:Hid (∀ (u:World) (p:Option Addr) (q:Nat),Below w.heap.size w u->Arg u p (ws R).length q (ws R)->Calls Tryz.prog 126 #[.bool false,.agg #[.slice p (ws R).length q,.int .i64 h,.bool bL]] u fun r w'=>(∃ v,r=.returned (.tuple #[.agg #[.bool dn,v,.int .i64 de],.int .i64 er])/\Nt u.heap.size w' v V)/\Below u.heap.size u w')) :
 Calls Tryz.prog 100 #[.agg #[.bool false,.slice a la ca,.int .i64 e,.bool m,.slice b lb cb,.int .i64 f]] w fun r w'=>(∃ v,r=.returned (.tuple #[.agg #[.bool dn,v,.int .i64 de],.int .i64 er])/\Nt w.heap.size w' v V)/\Below w.heap.size w w':=by
 obtain ⟨W1,hW1⟩:=af ((w.alloc (.cells #[.bool false,.slice a la ca,.int .i64 e,.bool m,.slice b lb cb,.int .i64 f] 73)).alloc (.cells #[.bool false,.slice none 0 0,.int .i64 0] 37));obtain ⟨hB,hz1,RQ,DK⟩:=jE w false _ e m _ f W1 hW1;have T1:=hid (HD.o W1 hB);obtain ⟨x0,x1,x2,x3,x4,x5⟩:=RQ.facts;have hs1:w.heap.size+2<=W1.heap.size:=by omega
 have SB:=(aK hB DK);clear hB hz1 RQ DK HD;go_enter Tryz.func100,Tryz.ntmps100
 go_upto_region 1 with fail
 rw [<-hW1];clear hW1;go_wp2_with fail;clear x0 x1 x2 x3 x4 x5;refine T1.o.mono ?_;rintro r u1 ⟨⟨v,rfl,hN⟩,hb⟩;obtain ⟨a1,c1,rfl,_⟩:=hN.arg (by omega);clear T1;obtain ⟨U1,aP⟩:=af (u1.alloc (.cells #[.slice a1 (ws WH).length c1,.int .i64 x,.bool tt] 135));have iR:Below u1.heap.size u1 U1:=by rw [aP];exact ae _ _
 have SK:Tk U1 u1.heap.size 135 (.slice a1 (ws WH).length c1) (.int .i64 x) (.bool tt):=by rw [aP];exact Tk.new _ _ _ _ _
 obtain ⟨au,DK⟩:=SB.o;have bb:=au.trans (hb.mono au.size);obtain ⟨gS,O5⟩:∃ g,u1.heap.size=g:=⟨_,rfl⟩;have Wx:w.heap.size+2<=gS:=by have:=DK.lt;have:=hb.size;omega
 rw [O5] at SK;have S1:=(fF (bb.trans (iR.mono bb.size)) ((DK.below hb).below iR) ((hN.below iR).mono au.size) SK);obtain ⟨x0,x1,x2,bC,bE,bF⟩:=SK.facts;clear au DK bb hb iR hN SK SB
 go_upto_region 4 with fail
 rw [<-aP];clear aP O5;have HC:=hid (HH.o U1 a1 c1 (S1.o.r2.1.aR (by omega)).2);go_wp2_with fail;clear x0 x1 x2;refine HC.o.mono ?_;rintro r u2 ⟨⟨v,rfl,hN⟩,hb⟩;obtain ⟨a2,c2,rfl,_⟩:=hN.arg (by omega);clear HC HH;obtain ⟨au,DK,NW,SK⟩:=S1.o;have uV:=SK.below hb;obtain ⟨x0,x1,x2,bU,bZ,cu⟩:=uV.facts;obtain ⟨U2,dJ⟩:=af (dh u2 gS (.slice a2 (ws H).length c2) (.int .i64 y) (.bool true));have bb:=au.trans (hb.mono au.size)
 have S2:Aside (Below w.heap.size w U2/\Tk U2 (w.heap.size+1) 37 (.bool false) (.slice none 0 0) (.int .i64 0)/\Nt w.heap.size U2 (.slice a2 (ws H).length c2) H/\Tk U2 gS 135 (.slice a2 (ws H).length c2) (.int .i64 y) (.bool true)):=by
  exact jz
 clear au DK NW SK uV bb hb hN S1;unfold dh at dJ;have Y4:=ak dJ;clear dJ
 go_upto_region 6 with fail
 rw [<-Y4.o];clear Y4 x0 x1 x2 bC bE bF bU bZ cu;obtain ⟨x0,x1,x2,bC,bE,bF⟩:=S2.o.r3.facts;have HC:=hid (HR.o U2 a2 c2 (S2.o.r2.1.aR (by omega)).2);go_wp2_with fail;clear x0 x1 x2 bC bE bF;refine HC.o.mono ?_;rintro r u3 ⟨v,v',rfl,hN,hM,hb⟩;obtain ⟨a3,c3,rfl,_⟩:=hN.arg (by omega);obtain ⟨a4,c4,rfl,_⟩:=hM.arg (by omega);clear HC HR;obtain ⟨au,DK,NW,SK⟩:=S2.o;have bb:=au.trans (hb.mono au.size);have uV:=SK.below hb;have Gr:=DK.below hb;obtain ⟨x0,x1,x2,bC,bE,bF⟩:=uV.facts;obtain ⟨s0,s1,s2,sF,sG,sH⟩:=Gr.facts;have hwh:IntKind.i64.wrap h=h:=by simp [IntKind.wrap,IntKind.bits,IntKind.signed];omega
 have S3:=(dK bb Gr (hN.mono au.size) (hM.mono au.size) uV);have ne1:gS≠w.heap.size+1:=by omega
 have Mj:w.heap.size+1≠gS:=by omega
 have L1:=hid (HL.o u3 a4 c4 (S3.o.r3.1.aR (by omega)).2);have L2:=hid (HL.o u3.drew a4 c4 ((S3.o.r3.1.below ((aB _ u3).drew)).aR (by omega)).2);clear au DK NW SK bb hb hN hM uV Gr S2;go_wp2_with fail
 go_region_held3 (fun w'=>w'.cell? ⟨gS,0,none⟩=some (.slice a2 (ws H).length c2)/\w'.cell? ⟨gS,1,none⟩=some (.int .i64 y)/\w'.cell? ⟨gS,2,none⟩=some (.bool true)) (go_keep) (first
  | (go_at_call 86
     first | with_reducible refine L1.o.mono ?_ | with_reducible refine L2.o.mono ?_
     rintro r u4 ⟨rfl,hb⟩;have hb1:Below u3.heap.size u3 u4:=by first | exact hb | exact ((aB _ u3).drew).trans (hb.mono (aA _))
     obtain ⟨au,DK,NR,NL,SK⟩:=S3.o;have bb:=au.trans (hb1.mono au.size);have I1:=hid (HI.o u4 a3 c3 bb ((NR.below hb1).aR (by omega)).2);have S4:=(cK bb (DK.below hb1) (SK.below hb1));obtain ⟨p0,p1,p2,IC,IE,IG⟩:=(SK.below hb1).facts;obtain ⟨q0,q1,q2,zf,zg,zh⟩:=(DK.below hb1).facts
     clear hb hb1 bb au DK NR NL SK)
  | (go_at_call 126
     with_reducible refine I1.o.mono ?_
     rintro r u5 ⟨⟨v,rfl,hN⟩,hb⟩;obtain ⟨a7,c7,rfl,_⟩:=hN.arg (by omega);obtain ⟨au,DK,SK⟩:=S4.o;obtain ⟨i0,i1,i2,Od,Oe,Og⟩:=(SK.below hb).facts;obtain ⟨t0,t1,t2,QQ,QS,QT⟩:=(DK.below hb).facts;have FV:=(cK (au.trans (hb.mono au.size)) (hN.mono au.size) (DK.below hb))
     clear hN hb au DK SK))
 all_goals (
  go_wp2;obtain ⟨au,NZ,DK⟩:=FV.o;have hsz:=au.size
  first
  | exact aC (jo _ (w.heap.size+1) dn (.slice a7 (ws V).length c7) de er _ rfl rfl (DK.set _ _ _)) rfl ⟨⟨_,rfl,NZ.mI DK (by decide) _ _ _⟩,bM au hsz (by omega) _ _ _⟩
  | exact aC (jo _ (w.heap.size+1) dn (.slice a7 (ws V).length c7) de er _ rfl rfl (DK.set _ _ _)) rfl ⟨⟨_,rfl,NZ.mI DK (by decide) _ _ _⟩,(bM au hsz (by omega) _ _ _).drew⟩)
theorem Dv {w:World}{a b:Option Addr}{la ca lb cb:Nat}(m:Bool) (e f:Int) (WH H R L lL:Nat) (x y h:Int) (tt bL:Bool) (dn:Bool) (V:Nat) (de er:Int) (lW:(ws WH).length<=8192) (lH:(ws H).length<=8192) (lR:(ws R).length<=8192) (lLL:(ws L).length<=8192) (lV:(ws V).length<=8192)
 (hx0:-10000000<=y) (hx1:y<=10000000) (Ww:(x.tmod 2==0)=false) (hh:y.tdiv 2=h) (hh0:-10000000<=h) (hh1:h<=10000000)
 (HD:Hid (∀ u,Below w.heap.size w u->Calls Tryz.prog 127 #[.agg #[.bool false,.slice a la ca,.int .i64 e,.bool m,.slice b lb cb,.int .i64 f],.int .i64 129] u fun r w'=>(∃ v,r=.returned (.agg #[v,.int .i64 x,.bool tt])/\Nt u.heap.size w' v WH)/\Below u.heap.size u w'))
 (HH:Hid (∀ (u:World) (p:Option Addr) (q:Nat),Arg u p (ws WH).length q (ws WH)->Calls Tryz.prog 145 #[.agg #[.slice p (ws WH).length q,.int .i64 x,.bool tt]] u fun r w'=>(∃ v,r=.returned (.agg #[v,.int .i64 y,.bool false])/\Nt u.heap.size w' v H)/\Below u.heap.size u w'))
 (HR:Hid (∀ (u:World) (p:Option Addr) (q:Nat),Arg u p (ws H).length q (ws H)->Calls Tryz.prog 146 #[.slice p (ws H).length q] u fun r w'=>∃ v v',r=.returned (.tuple #[v,v'])/\Nt u.heap.size w' v R/\Nt u.heap.size w' v' L/\Below u.heap.size u w'))
 (HI:Hid (∀ (u:World) (p:Option Addr) (q:Nat),Below w.heap.size w u->Arg u p (ws R).length q (ws R)->Calls Tryz.prog 126 #[.bool false,.agg #[.slice p (ws R).length q,.int .i64 h,.bool false]] u fun r w'=>(∃ v,r=.returned (.tuple #[.agg #[.bool dn,v,.int .i64 de],.int .i64 er])/\Nt u.heap.size w' v V)/\Below u.heap.size u w')) :
 Calls Tryz.prog 100 #[.agg #[.bool false,.slice a la ca,.int .i64 e,.bool m,.slice b lb cb,.int .i64 f]] w fun r w'=>(∃ v,r=.returned (.tuple #[.agg #[.bool dn,v,.int .i64 de],.int .i64 er])/\Nt w.heap.size w' v V)/\Below w.heap.size w w':=by
 obtain ⟨W1,hW1⟩:=af ((w.alloc (.cells #[.bool false,.slice a la ca,.int .i64 e,.bool m,.slice b lb cb,.int .i64 f] 73)).alloc (.cells #[.bool false,.slice none 0 0,.int .i64 0] 37));obtain ⟨hB,hz1,RQ,DK⟩:=jE w false _ e m _ f W1 hW1;have T1:=hid (HD.o W1 hB);obtain ⟨x0,x1,x2,x3,x4,x5⟩:=RQ.facts;have hs1:w.heap.size+2<=W1.heap.size:=by omega
 have SB:=(aK hB DK);clear hB hz1 RQ DK HD;go_enter Tryz.func100,Tryz.ntmps100
 go_upto_region 1 with fail
 rw [<-hW1];clear hW1;go_wp2_with fail;clear x0 x1 x2 x3 x4 x5;refine T1.o.mono ?_;rintro r u1 ⟨⟨v,rfl,hN⟩,hb⟩;obtain ⟨a1,c1,rfl,_⟩:=hN.arg (by omega);clear T1;obtain ⟨U1,aP⟩:=af (u1.alloc (.cells #[.slice a1 (ws WH).length c1,.int .i64 x,.bool tt] 135));have iR:Below u1.heap.size u1 U1:=by rw [aP];exact ae _ _
 have SK:Tk U1 u1.heap.size 135 (.slice a1 (ws WH).length c1) (.int .i64 x) (.bool tt):=by rw [aP];exact Tk.new _ _ _ _ _
 obtain ⟨au,DK⟩:=SB.o;have bb:=au.trans (hb.mono au.size);obtain ⟨gS,O5⟩:∃ g,u1.heap.size=g:=⟨_,rfl⟩;have Wx:w.heap.size+2<=gS:=by have:=DK.lt;have:=hb.size;omega
 rw [O5] at SK;have S1:=(fF (bb.trans (iR.mono bb.size)) ((DK.below hb).below iR) ((hN.below iR).mono au.size) SK);obtain ⟨x0,x1,x2,bC,bE,bF⟩:=SK.facts;clear au DK bb hb iR hN SK SB
 go_upto_region 4 with fail
 rw [<-aP];clear aP O5;have HC:=hid (HH.o U1 a1 c1 (S1.o.r2.1.aR (by omega)).2);go_wp2_with fail;clear x0 x1 x2;refine HC.o.mono ?_;rintro r u2 ⟨⟨v,rfl,hN⟩,hb⟩;obtain ⟨a2,c2,rfl,_⟩:=hN.arg (by omega);clear HC HH;obtain ⟨au,DK,NW,SK⟩:=S1.o;have uV:=SK.below hb;obtain ⟨x0,x1,x2,bU,bZ,cu⟩:=uV.facts;obtain ⟨U2,dJ⟩:=af (dh u2 gS (.slice a2 (ws H).length c2) (.int .i64 y) (.bool false));have bb:=au.trans (hb.mono au.size)
 have S2:Aside (Below w.heap.size w U2/\Tk U2 (w.heap.size+1) 37 (.bool false) (.slice none 0 0) (.int .i64 0)/\Nt w.heap.size U2 (.slice a2 (ws H).length c2) H/\Tk U2 gS 135 (.slice a2 (ws H).length c2) (.int .i64 y) (.bool false)):=by
  exact jz
 clear au DK NW SK uV bb hb hN S1;unfold dh at dJ;have Y4:=ak dJ;clear dJ
 go_upto_region 6 with fail
 rw [<-Y4.o];clear Y4 x0 x1 x2 bC bE bF bU bZ cu;obtain ⟨x0,x1,x2,bC,bE,bF⟩:=S2.o.r3.facts;have HC:=hid (HR.o U2 a2 c2 (S2.o.r2.1.aR (by omega)).2);go_wp2_with fail;clear x0 x1 x2 bC bE bF;refine HC.o.mono ?_;rintro r u3 ⟨v,v',rfl,hN,hM,hb⟩;obtain ⟨a3,c3,rfl,_⟩:=hN.arg (by omega);obtain ⟨a4,c4,rfl,_⟩:=hM.arg (by omega);clear HC HR;obtain ⟨au,DK,NW,SK⟩:=S2.o;have bb:=au.trans (hb.mono au.size);have uV:=SK.below hb;have Gr:=DK.below hb;obtain ⟨x0,x1,x2,bC,bE,bF⟩:=uV.facts;obtain ⟨s0,s1,s2,sF,sG,sH⟩:=Gr.facts;have hwh:IntKind.i64.wrap h=h:=by simp [IntKind.wrap,IntKind.bits,IntKind.signed];omega
 have S3:=(dK bb Gr (hN.mono au.size) (hM.mono au.size) uV);have ne1:gS≠w.heap.size+1:=by omega
 have Mj:w.heap.size+1≠gS:=by omega
 have I1:=hid (HI.o u3 a3 c3 S3.o.1 (S3.o.r2.1.aR (by omega)).2);have I2:=hid (HI.o u3.drew a3 c3 S3.o.1.drew ((S3.o.r2.1.below ((aB _ u3).drew)).aR (by omega)).2);clear au DK NW SK bb hb hN hM uV Gr S2;go_wp2_with fail
 first | (go_region_with (first
  | (go_at_call 126
     first | with_reducible refine I1.o.mono ?_ | with_reducible refine I2.o.mono ?_
     rintro r u5 ⟨⟨v,rfl,hN⟩,hb⟩;have hb1:Below u3.heap.size u3 u5:=by first | exact hb | exact ((aB _ u3).drew).trans (hb.mono (aA _))
     obtain ⟨a7,c7,rfl,_⟩:=hN.arg (by omega);obtain ⟨au,DK,NR,NL,SK⟩:=S3.o;obtain ⟨i0,i1,i2,Od,Oe,Og⟩:=(SK.below hb1).facts;obtain ⟨t0,t1,t2,QQ,QS,QT⟩:=(DK.below hb1).facts;have hN':Nt w.heap.size u5 (.slice a7 (ws V).length c7) V:=hN.mono au.size;have FV:=(cK (au.trans (hb1.mono au.size)) hN' (DK.below hb1))
     clear hN hN' hb hb1 au DK SK NR NL))) | fail
 all_goals (
  go_wp2;obtain ⟨au,NZ,DK⟩:=FV.o;have hsz:=au.size
  first
  | exact aC (jo _ (w.heap.size+1) dn (.slice a7 (ws V).length c7) de er _ rfl rfl (DK.set _ _ _)) rfl ⟨⟨_,rfl,NZ.mI DK (by decide) _ _ _⟩,bM au hsz (by omega) _ _ _⟩
  | exact aC (jo _ (w.heap.size+1) dn (.slice a7 (ws V).length c7) de er _ rfl rfl (DK.set _ _ _)) rfl ⟨⟨_,rfl,NZ.mI DK (by decide) _ _ _⟩,(bM au hsz (by omega) _ _ _).drew⟩)
end
end Go.Proofs.YteginbngplldaaaGreatDoor
