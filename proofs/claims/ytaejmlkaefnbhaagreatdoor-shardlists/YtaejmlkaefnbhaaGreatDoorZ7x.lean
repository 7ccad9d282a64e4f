import Derived.Test.YtaejmlkaefnbhaaGreatDoorX2x
import Derived.Deep.RegionHeld3
import Derived.Test.YtaejmlkaefnbhaaGreatDoorD30x
import Derived.Deep.Cut
import Derived.Deep.OwnRows
import Derived.Deep.LoopGhost
import Derived.Test.YtaejmlkaefnbhaaGreatDoorD16x
import Derived.Test.YtaejmlkaefnbhaaGreatDoorD21x
import Derived.Test.YtaejmlkaefnbhaaGreatDoorBW6x
import Derived.Test.YtaejmlkaefnbhaaGreatDoorS11ax
import Derived.Test.YtaejmlkaefnbhaaGreatDoorBIeeex
import Derived.Laws.FloatArith
import Derived.BigQuiet
import Derived.Deep.RegionWith
import Derived.Deep.CutRange
import Derived.Test.YtaejmlkaefnbhaaGreatDoorW14x
import Derived.Test.YtaejmlkaefnbhaaGreatDoorW24x
import Derived.ProofKit
import Derived.OpenShut
import Derived.ChangeOld
import Derived.SizedLaws
import Derived.ChangeArms
import Derived.KernelRfl
import Derived.ArgAppend
import Derived.Maps.AppendAt
import Derived.WalkMore
import Derived.OwnWalk
import Derived.RangeFuncNested
import Derived.RangeFuncBound
import Derived.RangeFuncCalls
import Derived.RangeFuncLeaves
import Derived.RangeFuncBox
import Derived.Shelf.Abstract
import Derived.Shelf.RegionOpen
import Derived.WalkKit
import Derived.OwnWalkIn
import Derived.TacticsInMore
import Derived.LoopNIn
import Derived.LoopIn
set_option linter.unusedVariables false
set_option linter.unusedSimpArgs false
set_option maxHeartbeats 16000000
set_option maxRecDepth 20000
namespace Go.Proofs.YtaejmlkaefnbhaaGreatDoor
namespace J
end J
section
open Go.RowKit
theorem JU(w:World)(n:Bool)(v:Value)(e:Int)(m:Bool)(u:Value)(f:Int)(W:World)(hW:W=(w.alloc (.cells #[.bool n,v,.int .i64 e,.bool m,u,.int .i64 f] 137)).alloc (.cells #[.bool false,.slice none 0 0,.int .i64 0] 77)) :
 Below w.heap.size w W/\W.heap.size=w.heap.size+2/\Rq W w.heap.size n v e m u f/\Tk W (w.heap.size+1) 77 (.bool false) (.slice none 0 0) (.int .i64 0):=by
 rw[hW];refine⟨(ag w _).alloc aL _,aL,(Rq.new _ _ _ _ _ _ _).alloc _,?_⟩;have:=Tk.new (w.alloc (.cells #[.bool n,v,.int .i64 e,.bool m,u,.int .i64 f] 137)) 77 (.bool false) (.slice none 0 0) (.int .i64 0);simpa using this
theorem sH(W:World)(g:Nat)(n:Bool)(v:Value)(e k:Int)(tmps:Array Value)(ht:tmps[2]?.getD undef=.pointer (some ⟨g,0,none⟩))(hk:tmps[3]?.getD undef=.int .i64 k)(D:Tk W g 77 (.bool n) v (.int .i64 e)) :
 (results Tryz.f132 tmps).run Tryz.prog W=.ok (.tuple #[.agg #[.bool n,v,.int .i64 e],.int .i64 k]) W:=by
 obtain⟨x0,x1,x2,_,_,_⟩:=D.facts;simp[results,Tryz.results132,ht,hk,go_sem,x0,x1,x2]
theorem zR {w:World}{a b:Option Addr}{la ca lb cb:Nat}(n m:Bool) (e f:Int) (WH:Nat) (x:Int) (tt:Bool) (dn:Bool) (V:Nat) (de er:Int) (lW:(ws WH).length<=8192) (lV:(ws V).length<=8192)
 (HD:Hid (∀ u,Below w.heap.size w u->Calls Tryz.prog 210 #[.agg #[.bool n,.slice a la ca,.int .i64 e,.bool m,.slice b lb cb,.int .i64 f],.int .i64 64] u fun r w'=>(∃ v,r=.returned (.agg #[v,.int .i64 x,.bool tt])/\Nt u.heap.size w' v WH)/\Below u.heap.size u w'))
 (HI:Hid (∀ (u:World) (p:Option Addr) (q:Nat),Below w.heap.size w u->Arg u p (ws WH).length q (ws WH)->Calls Tryz.prog 209 #[.bool n,.agg #[.slice p (ws WH).length q,.int .i64 x,.bool tt]] u fun r w'=>(∃ v,r=.returned (.tuple #[.agg #[.bool dn,v,.int .i64 de],.int .i64 er])/\Nt u.heap.size w' v V)/\Below u.heap.size u w')) :
 Calls Tryz.prog 132 #[.agg #[.bool n,.slice a la ca,.int .i64 e,.bool m,.slice b lb cb,.int .i64 f]] w fun r w'=>(∃ v,r=.returned (.tuple #[.agg #[.bool dn,v,.int .i64 de],.int .i64 er])/\Nt w.heap.size w' v V)/\Below w.heap.size w w':=by
 obtain⟨W1,hW1⟩:=ah ((w.alloc (.cells #[.bool n,.slice a la ca,.int .i64 e,.bool m,.slice b lb cb,.int .i64 f] 137)).alloc (.cells #[.bool false,.slice none 0 0,.int .i64 0] 77));obtain⟨hB,hz1,RQ,DK⟩:=JU w n _ e m _ f W1 hW1;have T1:=hid (HD.o W1 hB);have T2:=hid (HD.o W1.drew hB.drew);obtain⟨x0,x1,x2,x3,x4,x5⟩:=RQ.facts;obtain⟨s0,s1,s2,IG,II,IJ⟩:=DK.facts;have hs1:w.heap.size+2<=W1.heap.size:=af
 have SB:=(bM hB RQ DK);clear hB hz1 RQ DK HD;go_enter Tryz.func132,Tryz.ntmps132;go_wp2_with fail;rw[<-hW1];clear hW1;have ne1:w.heap.size≠w.heap.size+1:=af
 have ne2:w.heap.size+1≠w.heap.size:=af
 go_region_held3 (fun w'=>w'.cell? ⟨w.heap.size,0,none⟩=some (.bool n)/\w'.cell? ⟨w.heap.size,1,none⟩=some (.slice a la ca)/\w'.cell? ⟨w.heap.size,2,none⟩=some (.int .i64 e)/\w'.cell? ⟨w.heap.size,3,none⟩=some (.bool m)/\w'.cell? ⟨w.heap.size,4,none⟩=some (.slice b lb cb)/\w'.cell? ⟨w.heap.size,5,none⟩=some (.int .i64 f)) (go_keep) (first
  | (go_at_call 210
     first | with_reducible refine T1.o.mono ?_ | with_reducible refine T2.o.mono ?_
     rintro r u1 ⟨⟨v,rfl,hN⟩,hb⟩;obtain⟨a1,c1,rfl,_⟩:=hN.arg af;have hb1:Below W1.heap.size W1 u1:=by first | exact hb | exact((aG _ W1).drew).trans (hb.mono (aB _))
     have BW:Below w.heap.size w u1:=SB.o.1.trans (hb1.mono af);have HI1:=hid (HI.o u1 _ _ BW (hN.cB af).2);obtain⟨p0,p1,p2,ZE,ZF,ZG⟩:=(SB.o.r2.below hb1).facts;obtain⟨q0,q1,q2,q3,q4,q5⟩:=(SB.o.2.1.below hb1).facts;have S1:=(bM BW (SB.o.2.1.below hb1) (SB.o.r2.below hb1))
     clear hb hb1 BW hN)
  | (go_at_call 209
     with_reducible refine HI1.o.mono ?_
     rintro r u2 ⟨⟨v,rfl,hN⟩,hb⟩;obtain⟨a4,c4,rfl,_⟩:=hN.arg af;have LD:=S1.o.r2.below hb;obtain⟨t0,t1,t2,tf0,tf1,tf2⟩:=LD.facts;obtain⟨i0,i1,i2,i3,i4,i5⟩:=(S1.o.2.1.below hb).facts;have FV:=bM (S1.o.1.trans (hb.mono S1.o.1.size)) (hN.mono S1.o.1.size) LD
     clear hN hb LD))
 all_goals (
  go_wp2;obtain⟨aD,NZ,DK⟩:=FV.o;have hsz:=aD.size
  first
  | exact aJ (sH _ (w.heap.size+1) dn (.slice a4 (ws V).length c4) de er _ rfl rfl (DK.set _ _ _)) rfl ⟨⟨_,rfl,NZ.Pj DK aA _ _ _⟩,kP aD hsz af _ _ _⟩
  | exact aJ (sH _ (w.heap.size+1) dn (.slice a4 (ws V).length c4) de er _ rfl rfl (DK.set _ _ _)) rfl ⟨⟨_,rfl,NZ.Pj DK aA _ _ _⟩,(kP aD hsz af _ _ _).drew⟩)
theorem Dy {w:World}{a b:Option Addr}{ca cb:Nat}(n m:Bool) (X Y:Nat) (e f:Int)
 (AX:Arg w a (ws X).length ca (ws X)) (AY:Arg w b (ws Y).length cb (ws Y)) (hT:bO w) (hX:X=0\/X%2=1) (hY:Y≠0)
 (he0:-1048576<=e) (he1:e<=1048576) (hf0:-1048576<=f) (hf1:f<=1048576) (bX:bl X<=262144) (bY:bl Y<=262144) :
 Calls Tryz.prog 132 #[.agg #[.bool n,.slice a (ws X).length ca,.int .i64 e,.bool m,.slice b (ws Y).length cb,.int .i64 f]] w fun r w' =>
  dh w.heap.size w' r (mkS n (2*kJ X Y 64+(if EH X Y 64 then 0 else 1)) (jL (e-f-oW X Y 64-fV Y 64)))/\Below w.heap.size w w':=by
 have D:=qY X Y 64 hX hY af af bX bY;have bW:bl (kJ X Y 64)<=65:=fO D.most;have hc:fV Y 64<=64:=by unfold fV;omega
 have hb:-262144<=oW X Y 64/\oW X Y 64<=264000:=by have:=D.ZX;unfold oW;omega
 unfold dh;refine zR n m e f (kJ X Y 64) (e-f-oW X Y 64-fV Y 64) (EH X Y 64) _ _ _ _ (gL af) (bC _ _ _) ?_ ?_
 · intro u hu;exact Po n m X Y e f 64 (AX.below hu) (AY.below hu) hX hY he0 he1 hf0 hf1 af af bX bY
 · intro u p q hu hA;exact JS n (kJ X Y 64) _ (EH X Y 64) hA (hT.belows hu) af af af
theorem yF(W:World)(g:Nat)(n:Bool)(v:Value)(e:Int)(m:Bool)(u:Value)(f k:Int)(tmps:Array Value)(ht:tmps[2]?.getD undef=.pointer (some ⟨g,0,none⟩))(hk:tmps[3]?.getD undef=.int .i64 k)(D:Rq W g n v e m u f) :
 (results Tryz.f254 tmps).run Tryz.prog W=.ok (.tuple #[.agg #[.bool n,v,.int .i64 e,.bool m,u,.int .i64 f],.int .i64 k]) W:=by
 obtain⟨x0,x1,x2,x3,x4,x5⟩:=D.facts;simp[results,Tryz.results254,ht,hk,go_sem,x0,x1,x2,x3,x4,x5]
theorem qZ(w:World)(n:Bool)(v:Value)(e:Int)(m:Bool)(u:Value)(f:Int)(W:World)(hW:W=(w.alloc (.cells #[.bool n,v,.int .i64 e,.bool m,u,.int .i64 f] 137)).alloc (.cells #[.bool false,.slice none 0 0,.int .i64 0,.bool false,.slice none 0 0,.int .i64 0] 137)) :
 Below w.heap.size w W/\W.heap.size=w.heap.size+2/\Rq W w.heap.size n v e m u f/\Rq W (w.heap.size+1) false (.slice none 0 0) 0 false (.slice none 0 0) 0:=by
 rw[hW];refine⟨(ag w _).alloc aL _,aL,(Rq.new _ _ _ _ _ _ _).alloc _,?_⟩;have:=Rq.new (w.alloc (.cells #[.bool n,v,.int .i64 e,.bool m,u,.int .i64 f] 137)) false (.slice none 0 0) 0 false (.slice none 0 0) 0;simpa using this
theorem WK {w:World}{a b:Option Addr}{la ca lb cb:Nat}(n m:Bool) (e f:Int) (n1 m1:Bool) (X Y:Nat) (e1 f1:Int) (lX:(ws X).length<=8192) (lY:(ws Y).length<=8192)
 (H1:Hid (∀ u,Below w.heap.size w u->Calls Tryz.prog 192 #[.bool n,.slice a la ca,.int .i64 e] u fun r w'=>(∃ v,r=.returned (.tuple #[.agg #[.bool n1,v,.int .i64 e1],.int .i64 0])/\Nt u.heap.size w' v X)/\Below u.heap.size u w'))
 (H2:Hid (∀ u,Below w.heap.size w u->Calls Tryz.prog 192 #[.bool m,.slice b lb cb,.int .i64 f] u fun r w'=>(∃ v,r=.returned (.tuple #[.agg #[.bool m1,v,.int .i64 f1],.int .i64 0])/\Nt u.heap.size w' v Y)/\Below u.heap.size u w')) :
 Calls Tryz.prog 254 #[.agg #[.bool n,.slice a la ca,.int .i64 e,.bool m,.slice b lb cb,.int .i64 f]] w fun r w'=>(∃ v u,r=.returned (.tuple #[.agg #[.bool n1,v,.int .i64 e1,.bool m1,u,.int .i64 f1],.int .i64 0])/\Nt w.heap.size w' v X/\Nt w.heap.size w' u Y/\Ap v u)/\Below w.heap.size w w':=by
 obtain⟨W1,hW1⟩:=ah ((w.alloc (.cells #[.bool n,.slice a la ca,.int .i64 e,.bool m,.slice b lb cb,.int .i64 f] 137)).alloc (.cells #[.bool false,.slice none 0 0,.int .i64 0,.bool false,.slice none 0 0,.int .i64 0] 137));obtain⟨hB,hz1,RQ,RR⟩:=qZ w n _ e m _ f W1 hW1;have hs2:w.heap.size+2<=W1.heap.size:=af
 have hbel:=hB;have S0:=(bM hbel RQ RR);clear hbel;clear hB RQ RR hz1;go_enter Tryz.func254,Tryz.ntmps254;obtain⟨x0,x1,x2,x3,x4,x5⟩:=S0.o.2.1.facts;obtain⟨aD,RQ,RR⟩:=S0.o;have HC:=hid (H1.o W1 aD);clear aD RQ RR
 go_upto_region 1 with fail
 rw[<-hW1];clear hW1;go_wp2_with fail;clear x0 x1 x2 x3 x4 x5;refine HC.o.mono ?_;rintro r u1 ⟨⟨v,rfl,hN⟩,hb⟩;obtain⟨a1,c1,rfl,_⟩:=hN.arg af;clear HC;obtain⟨aD,RQ,RR⟩:=S0.o;have hbn:=aD.trans (hb.mono aD.size);have S1:=mh hbn (RQ.below hb) (RR.below hb) (hN.mono aD.size);clear aD RQ RR;clear hb hbn S0;clear hN;obtain⟨U1,dJ⟩:=ah (u1.alloc (.cells #[.bool n1,.slice a1 (ws X).length c1,.int .i64 e1] 77));obtain⟨aD,RQ,RR,NX⟩:=S1.o;have nD:Below u1.heap.size u1 U1:=by rw[dJ];exact ag _ _
 have TN:Tk U1 u1.heap.size 77 (.bool n1) (.slice a1 (ws X).length c1) (.int .i64 e1):=by rw[dJ];exact Tk.new _ _ _ _ _
 have hbn:=aD.trans (nD.mono aD.size);have hgu:w.heap.size+2<=u1.heap.size:=by have:=RR.lt;omega
 have S2:=iq hbn (RQ.below nD) (RR.below nD) (NX.below nD) TN;obtain⟨x0,x1,x2,x3,x4,x5⟩:=(RQ.below nD).facts;clear aD RQ RR NX;clear nD hbn TN S1 H1;obtain⟨aD,RQ,RR,NX,TN⟩:=S2.o;have HC:=hid (H2.o U1 aD);clear aD RQ RR NX TN
 go_upto_region 4 with fail
 rw[<-dJ];clear dJ;go_wp2_with fail;clear x0 x1 x2 x3 x4 x5;refine HC.o.mono ?_;rintro r u3 ⟨⟨v,rfl,hN⟩,hb⟩;obtain⟨a2,c2,rfl,_⟩:=hN.arg af;clear HC;obtain⟨aD,RQ,RR,NX,TN⟩:=S2.o;have hbn:=aD.trans (hb.mono aD.size);have S3:=EF hbn (RQ.below hb) (RR.below hb) (NX.below hb) (TN.below hb) (hN.mono aD.size) (NX.ap hN);clear aD RQ RR NX TN;clear hb hbn S2;clear hN;obtain⟨U3,JV⟩:=ah (u3.alloc (.cells #[.bool m1,.slice a2 (ws Y).length c2,.int .i64 f1] 77));obtain⟨aD,RQ,RR,NX,TN,NY,AP⟩:=S3.o;have nD:Below u3.heap.size u3 U3:=by rw[JV];exact ag _ _
 have TD:Tk U3 u3.heap.size 77 (.bool m1) (.slice a2 (ws Y).length c2) (.int .i64 f1):=by rw[JV];exact Tk.new _ _ _ _ _
 have hbn:=aD.trans (nD.mono aD.size);have SZ:=iq hbn (RR.below nD) (NX.below nD) (NY.below nD) AP;obtain⟨x0,x1,x2,_,_,_⟩:=(TN.below nD).facts;obtain⟨y0,y1,y2,_,_,_⟩:=TD.facts;obtain⟨r0,r1,r2,r3,r4,r5⟩:=(RR.below nD).facts;obtain⟨mJ,mK,mM,rf3,rf4,rf5⟩:=(RR.below nD).frz;clear aD RQ RR NX TN NY AP;clear nD hbn TD S3 H2
 go_upto_region 5 with fail
 rw[<-JV];clear JV;go_wp2;obtain⟨aD,RR,NX,NY,AP⟩:=SZ.o;have hbl:=aD.size;refine aJ (yF _ (w.heap.size+1) n1 (.slice a1 (ws X).length c1) e1 m1 (.slice a2 (ws Y).length c2) f1 0 _ rfl rfl (RR.set _ _ _ _ _ _)) rfl ⟨⟨_,_,rfl,NX.st6k RR _ _ _ _ _ _,NY.st6k RR _ _ _ _ _ _,AP⟩,uz aD hbl af _ _ _ _ _ _⟩
theorem Pv {w:World}{a b:Option Addr}{la ca lb cb:Nat}(n m:Bool) (e f:Int) (n1 m1:Bool) (X Y:Nat) (e1 f1:Int) (lX:(ws X).length<=8192) (lY:(ws Y).length<=8192)
 (H1:Hid (∀ u,Below w.heap.size w u->Calls Tryz.prog 192 #[.bool n,.slice a la ca,.int .i64 e] u fun r w'=>(∃ v,r=.returned (.tuple #[.agg #[.bool n1,v,.int .i64 e1],.int .i64 2])/\Nt u.heap.size w' v X)/\Below u.heap.size u w'))
  :
 Calls Tryz.prog 254 #[.agg #[.bool n,.slice a la ca,.int .i64 e,.bool m,.slice b lb cb,.int .i64 f]] w fun r w'=>(∃ v u,r=.returned (.tuple #[.agg #[.bool false,v,.int .i64 0,.bool false,u,.int .i64 0],.int .i64 2])/\v=.slice none 0 0/\u=.slice none 0 0)/\Below w.heap.size w w':=by
 obtain⟨W1,hW1⟩:=ah ((w.alloc (.cells #[.bool n,.slice a la ca,.int .i64 e,.bool m,.slice b lb cb,.int .i64 f] 137)).alloc (.cells #[.bool false,.slice none 0 0,.int .i64 0,.bool false,.slice none 0 0,.int .i64 0] 137));obtain⟨hB,hz1,RQ,RR⟩:=qZ w n _ e m _ f W1 hW1;have hs2:w.heap.size+2<=W1.heap.size:=af
 have hbel:=hB;have S0:=(bM hbel RQ RR);clear hbel;clear hB RQ RR hz1;go_enter Tryz.func254,Tryz.ntmps254;obtain⟨x0,x1,x2,x3,x4,x5⟩:=S0.o.2.1.facts;obtain⟨aD,RQ,RR⟩:=S0.o;have HC:=hid (H1.o W1 aD);clear aD RQ RR
 go_upto_region 1 with fail
 rw[<-hW1];clear hW1;go_wp2_with fail;clear x0 x1 x2 x3 x4 x5;refine HC.o.mono ?_;rintro r u1 ⟨⟨v,rfl,hN⟩,hb⟩;obtain⟨a1,c1,rfl,_⟩:=hN.arg af;clear HC;obtain⟨aD,RQ,RR⟩:=S0.o;have hbn:=aD.trans (hb.mono aD.size);have S1:=bM hbn (RQ.below hb) (RR.below hb);clear aD RQ RR;clear hb hbn S0;clear hN;obtain⟨U1,dJ⟩:=ah (u1.alloc (.cells #[.bool n1,.slice a1 (ws X).length c1,.int .i64 e1] 77));obtain⟨aD,RQ,RR⟩:=S1.o;have nD:Below u1.heap.size u1 U1:=by rw[dJ];exact ag _ _
 have hlast:=aT (aD.trans (nD.mono aD.size)) (RR.below nD);obtain⟨r0,r1,r2,r3,r4,r5⟩:=(RR.below nD).facts;obtain⟨mJ,mK,mM,rf3,rf4,rf5⟩:=(RR.below nD).frz;clear aD RQ RR;clear S1 H1 nD
 go_upto_region 2 with fail
 rw[<-dJ];clear dJ;go_wp2;obtain⟨aD,RR⟩:=hlast.o;exact aJ (yF _ (w.heap.size+1) false (.slice none 0 0) 0 false (.slice none 0 0) 0 2 _ rfl rfl (RR.set _ _ _ _ _ _)) rfl ⟨⟨_,_,rfl,rfl,rfl⟩,uz aD aD.size af _ _ _ _ _ _⟩
theorem Pw {w:World}{a b:Option Addr}{la ca lb cb:Nat}(n m:Bool) (e f:Int) (n1 m1:Bool) (X Y:Nat) (e1 f1:Int) (lX:(ws X).length<=8192) (lY:(ws Y).length<=8192)
 (H1:Hid (∀ u,Below w.heap.size w u->Calls Tryz.prog 192 #[.bool n,.slice a la ca,.int .i64 e] u fun r w'=>(∃ v,r=.returned (.tuple #[.agg #[.bool n1,v,.int .i64 e1],.int .i64 0])/\Nt u.heap.size w' v X)/\Below u.heap.size u w'))
 (H2:Hid (∀ u,Below w.heap.size w u->Calls Tryz.prog 192 #[.bool m,.slice b lb cb,.int .i64 f] u fun r w'=>(∃ v,r=.returned (.tuple #[.agg #[.bool m1,v,.int .i64 f1],.int .i64 2])/\Nt u.heap.size w' v Y)/\Below u.heap.size u w')) :
 Calls Tryz.prog 254 #[.agg #[.bool n,.slice a la ca,.int .i64 e,.bool m,.slice b lb cb,.int .i64 f]] w fun r w'=>(∃ v u,r=.returned (.tuple #[.agg #[.bool false,v,.int .i64 0,.bool false,u,.int .i64 0],.int .i64 2])/\v=.slice none 0 0/\u=.slice none 0 0)/\Below w.heap.size w w':=by
 obtain⟨W1,hW1⟩:=ah ((w.alloc (.cells #[.bool n,.slice a la ca,.int .i64 e,.bool m,.slice b lb cb,.int .i64 f] 137)).alloc (.cells #[.bool false,.slice none 0 0,.int .i64 0,.bool false,.slice none 0 0,.int .i64 0] 137));obtain⟨hB,hz1,RQ,RR⟩:=qZ w n _ e m _ f W1 hW1;have hs2:w.heap.size+2<=W1.heap.size:=af
 have hbel:=hB;have S0:=(bM hbel RQ RR);clear hbel;clear hB RQ RR hz1;go_enter Tryz.func254,Tryz.ntmps254;obtain⟨x0,x1,x2,x3,x4,x5⟩:=S0.o.2.1.facts;obtain⟨aD,RQ,RR⟩:=S0.o;have HC:=hid (H1.o W1 aD);clear aD RQ RR
 go_upto_region 1 with fail
 rw[<-hW1];clear hW1;go_wp2_with fail;clear x0 x1 x2 x3 x4 x5;refine HC.o.mono ?_;rintro r u1 ⟨⟨v,rfl,hN⟩,hb⟩;obtain⟨a1,c1,rfl,_⟩:=hN.arg af;clear HC;obtain⟨aD,RQ,RR⟩:=S0.o;have hbn:=aD.trans (hb.mono aD.size);have S1:=mh hbn (RQ.below hb) (RR.below hb) (hN.mono aD.size);clear aD RQ RR;clear hb hbn S0;clear hN;obtain⟨U1,dJ⟩:=ah (u1.alloc (.cells #[.bool n1,.slice a1 (ws X).length c1,.int .i64 e1] 77));obtain⟨aD,RQ,RR,NX⟩:=S1.o;have nD:Below u1.heap.size u1 U1:=by rw[dJ];exact ag _ _
 have TN:Tk U1 u1.heap.size 77 (.bool n1) (.slice a1 (ws X).length c1) (.int .i64 e1):=by rw[dJ];exact Tk.new _ _ _ _ _
 have hbn:=aD.trans (nD.mono aD.size);have hgu:w.heap.size+2<=u1.heap.size:=by have:=RR.lt;omega
 have S2:=iq hbn (RQ.below nD) (RR.below nD) (NX.below nD) TN;obtain⟨x0,x1,x2,x3,x4,x5⟩:=(RQ.below nD).facts;clear aD RQ RR NX;clear nD hbn TN S1 H1;obtain⟨aD,RQ,RR,NX,TN⟩:=S2.o;have HC:=hid (H2.o U1 aD);clear aD RQ RR NX TN
 go_upto_region 4 with fail
 rw[<-dJ];clear dJ;go_wp2_with fail;clear x0 x1 x2 x3 x4 x5;refine HC.o.mono ?_;rintro r u3 ⟨⟨v,rfl,hN⟩,hb⟩;obtain⟨a2,c2,rfl,_⟩:=hN.arg af;clear HC;obtain⟨aD,RQ,RR,NX,TN⟩:=S2.o;have hbn:=aD.trans (hb.mono aD.size);have S3:=iq hbn (RQ.below hb) (RR.below hb) (NX.below hb) (TN.below hb);clear aD RQ RR NX TN;clear hb hbn S2;clear hN;obtain⟨U3,JV⟩:=ah (u3.alloc (.cells #[.bool m1,.slice a2 (ws Y).length c2,.int .i64 f1] 77));obtain⟨aD,RQ,RR,NX,TN⟩:=S3.o;have nD:Below u3.heap.size u3 U3:=by rw[JV];exact ag _ _
 have hlast:=aT (aD.trans (nD.mono aD.size)) (RR.below nD);obtain⟨r0,r1,r2,r3,r4,r5⟩:=(RR.below nD).facts;obtain⟨mJ,mK,mM,rf3,rf4,rf5⟩:=(RR.below nD).frz;clear aD RQ RR NX TN;clear S3 H2 nD
 go_upto_region 5 with fail
 rw[<-JV];clear JV;go_wp2;obtain⟨aD,RR⟩:=hlast.o;exact aJ (yF _ (w.heap.size+1) false (.slice none 0 0) 0 false (.slice none 0 0) 0 2 _ rfl rfl (RR.set _ _ _ _ _ _)) rfl ⟨⟨_,_,rfl,rfl,rfl⟩,uz aD aD.size af _ _ _ _ _ _⟩
theorem infoR:(Tryz.prog.info? 137).map (fun i=>(i.zero,i.size,i.bytes))=some (some (.agg #[.bool false,.slice none 0 0,.int .i64 0,.bool false,.slice none 0 0,.int .i64 0]),6,80):=by kernel_rfl
theorem Dz(w:World) :
 (Instr.makeSlice 226 (.int .i64 1) (.int .i64 1)).run Tryz.prog w=.ok (.slice (some ⟨w.heap.size,0,none⟩) 1 1) (w.alloc (.cells #[.bool false,.slice none 0 0,.int .i64 0,.bool false,.slice none 0 0,.int .i64 0] 137)):=by
 have h:=infoR;have e:IntKind.i64.wrap 1=1:=aA
 cases hq:Tryz.prog.info? 137 with
 | none=>rw[hq] at h;simp at h
 | some i =>
   rw[hq] at h;simp at h;simp[Instr.makeSlice,go_sem,Tryz.underlying226,hq,h,typeInfo,e]
structure Ri where
 n:Bool
 v:Value
 X:Nat
 e:Int
 m:Bool
 u:Value
 Y:Nat
 f:Int
def Av(w:World)(v:Value)(X:Nat):Prop:=∃ a l c xs,v=.slice a l c/\Arg w a l c xs/\val xs=X
theorem Av.below{w w':World}{v:Value}{X:Nat}(h:Av w v X)(hb:Below w.heap.size w w'):Av w' v X:=by
 obtain⟨a,l,c,xs,rfl,hA,hv⟩:=h;exact⟨a,l,c,xs,rfl,hA.below hb,hv⟩
theorem Nt.av{lo:Nat}{w:World}{v:Value}{X:Nat}(h:Nt lo w v X)(hs:(ws X).length<=35184372088832):Av w v X:=by
 obtain⟨a,c,rfl,hA⟩:=h.arg hs;exact⟨a,_,c,_,rfl,hA,aC X⟩
def DC(w:World)(g k:Nat)(I:Nat->Ri):Prop:=∃ cur:Array Value,w.heap[g]?=some (.cells cur 137 (0,0))/\∀ i,i<k->cur[i*6]?=some (.bool (I i).n)/\cur[i*6+1]?=some (I i).v/\cur[i*6+2]?=some (.int .i64 (I i).e)/\cur[i*6+3]?=some (.bool (I i).m)/\cur[i*6+4]?=some (I i).u/\cur[i*6+5]?=some (.int .i64 (I i).f)
theorem DC.lt{w:World}{g k:Nat}{I:Nat->Ri}(h:DC w g k I):g<w.heap.size:=by obtain⟨c,h,_⟩:=h;exact(fG.1 h).1
theorem DC.below{w w':World}{g k:Nat}{I:Nat->Ri}(h:DC w g k I)(hb:Below w.heap.size w w'):DC w' g k I:=by
 have hl:=h.lt;obtain⟨c,h,r⟩:=h;exact⟨c,by rw[hb.block g hl];exact h,r⟩
theorem DC.facts{w:World}{g k:Nat}{I:Nat->Ri}(h:DC w g k I)(i:Nat)(hi:i<k) :
 w.cell? ⟨g,i*6,none⟩=some (.bool (I i).n)/\w.cell? ⟨g,i*6+1,none⟩=some (I i).v/\w.cell? ⟨g,i*6+2,none⟩=some (.int .i64 (I i).e)/\w.cell? ⟨g,i*6+3,none⟩=some (.bool (I i).m)/\w.cell? ⟨g,i*6+4,none⟩=some (I i).u/\w.cell? ⟨g,i*6+5,none⟩=some (.int .i64 (I i).f):=by
 obtain⟨c,h,r⟩:=h;obtain⟨r0,r1,r2,r3,r4,r5⟩:=r i hi;simp[World.cell?,h,r0,r1,r2,r3,r4,r5]
def mP(I:Nat->Ri)(k:Nat):Int :=
 if (List.range k).any (fun i=>decide (iP (I i).m (I i).Y<0)) then 1
 else if (List.range k).any (fun i=>!((mkS (I i).n (I i).X (I i).e).isSome&&(mkS (I i).m (I i).Y (I i).f).isSome)) then 2
 else if (List.range k).any (fun i=>decide (dX (mkS (I i).m (I i).Y (I i).f)=0)) then 21 else 0
theorem JW{k i:Nat}{p:Nat->Bool}(hi:i<k)(h:p i=true):(List.range k).any p=true:=List.any_eq_true.2 ⟨i,kX.2 hi,h⟩
theorem uA{k:Nat}{p:Nat->Bool}(h:∀ i,i<k->p i=false):(List.range k).any p=false:=by
 rw[List.any_eq_false];intro i hi;rw[h i (kX.1 hi)];simp
structure RIn (w:World) (g k:Nat) (I:Nat->Ri):Prop where
 row:DC w g k I
 one:∀ i,i<k->Av w (I i).v (I i).X/\Av w (I i).u (I i).Y
 o7:∀ i,i<k->-9223372036854775808<=(I i).e/\(I i).e<=9223372036854775807/\-9223372036854775808<=(I i).f/\(I i).f<=9223372036854775807
 tab:bO w
theorem RIn.below{w w':World}{g k:Nat}{I:Nat->Ri}(h:RIn w g k I)(hb:Below w.heap.size w w'):RIn w' g k I :=
 ⟨h.row.below hb,fun i hi=>⟨(h.one i hi).1.below hb,(h.one i hi).2.below hb⟩,h.o7,h.tab.belows hb⟩
def yG(I:Nat->Ri)(V:Nat->Value×Value)(i:Nat):Ri :=
 ⟨dN (mkS (I i).n (I i).X (I i).e),(V i).1,dX (mkS (I i).n (I i).X (I i).e),dE (mkS (I i).n (I i).X (I i).e),dN (mkS (I i).m (I i).Y (I i).f),(V i).2,dX (mkS (I i).m (I i).Y (I i).f),dE (mkS (I i).m (I i).Y (I i).f)⟩
structure Px (lo:Nat) (w:World) (g k:Nat) (I:Nat->Ri) (V:Nat->Value×Value):Prop where
 row:DC w g k (yG I V)
 own:lo<=g
 nts:∀ i,i<k->Nt lo w (V i).1 (dX (mkS (I i).n (I i).X (I i).e))/\Nt lo w (V i).2 (dX (mkS (I i).m (I i).Y (I i).f))
theorem Px.below{lo:Nat}{w w':World}{g k:Nat}{I:Nat->Ri}{V:Nat->Value×Value}(h:Px lo w g k I V)(hb:Below w.heap.size w w'):Px lo w' g k I V :=
 ⟨h.row.below hb,h.own,fun i hi=>⟨(h.nts i hi).1.below hb,(h.nts i hi).2.below hb⟩⟩
abbrev Tm(w:World)(g o:Nat)(a b c d e f:Value):World:=(((((w.setCell ⟨g,o,none⟩ a).setCell ⟨g,o+1,none⟩ b).setCell ⟨g,o+2,none⟩ c).setCell ⟨g,o+3,none⟩ d).setCell ⟨g,o+4,none⟩ e).setCell ⟨g,o+5,none⟩ f
theorem o8(g o:Nat)(w:World)(a b c d e f:Value):But g w (Tm w g o a b c d e f):=((((((But.refl g w).set _ _).set _ _).set _ _).set _ _).set _ _).set _ _
theorem DF{w:World}{g T:Nat}{cur:Array Value}{fz:Nat×Nat}(h:w.heap[g]?=some (.cells cur T fz))(o:Nat)(v:Value):(w.setCell ⟨g,o,none⟩ v).heap[g]?=some (.cells (cur.setIfInBounds o v) T fz):=by
 simp[World.setCell,iA,h]
theorem JX{w:World}{g T:Nat}{cur:Array Value}{fz:Nat×Nat}(h:w.heap[g]?=some (.cells cur T fz))(o:Nat)(a b c d e f:Value)(ho:o+5<cur.size) :
 ∃ cur',(Tm w g o a b c d e f).heap[g]?=some (.cells cur' T fz)/\cur'.size=cur.size/\(cur'[o]?=some a/\cur'[o+1]?=some b/\cur'[o+2]?=some c/\cur'[o+3]?=some d/\cur'[o+4]?=some e/\cur'[o+5]?=some f)/\∀ j,(j<o\/o+5<j)->cur'[j]?=cur[j]?:=by
 refine⟨_,DF (DF (DF (DF (DF (DF h o a) (o+1) b) (o+2) c) (o+3) d) (o+4) e) (o+5) f,aL,?_,?_⟩
 · simp[Ad];omega
 · intro j hj;have n0:o≠j:=af
   have n1:o+1≠j:=af
   have n2:o+2≠j:=af
   have n3:o+3≠j:=af
   have n4:o+4≠j:=af
   have n5:o+5≠j:=af
   simp[Ad,n0,n1,n2,n3,n4,n5]
structure lh (lo:Nat) (w:World) (g k i:Nat) (I:Nat->Ri) (V:Nat->Value×Value):Prop where
 row:∃ cur:Array Value,w.heap[g]?=some (.cells cur 137 (0,0))/\cur.size=6*k/\∀ j,j<i->cur[j*6]?=some (.bool (yG I V j).n)/\cur[j*6+1]?=some (yG I V j).v/\cur[j*6+2]?=some (.int .i64 (yG I V j).e)/\cur[j*6+3]?=some (.bool (yG I V j).m)/\cur[j*6+4]?=some (yG I V j).u/\cur[j*6+5]?=some (.int .i64 (yG I V j).f)
 own:lo<=g
 nts:∀ j,j<i->Nt lo w (V j).1 (dX (mkS (I j).n (I j).X (I j).e))/\Nt lo w (V j).2 (dX (mkS (I j).m (I j).Y (I j).f))
theorem lh.lt{lo:Nat}{w:World}{g k i:Nat}{I:Nat->Ri}{V:Nat->Value×Value}(h:lh lo w g k i I V):g<w.heap.size:=by obtain⟨c,h,_⟩:=h.row;exact(fG.1 h).1
theorem lh.below{lo:Nat}{w w':World}{g k i:Nat}{I:Nat->Ri}{V:Nat->Value×Value}(h:lh lo w g k i I V)(hb:Below w.heap.size w w'):lh lo w' g k i I V:=by
 have hl:=h.lt;obtain⟨⟨c,h1,r⟩,h2,h3⟩:=h;exact⟨⟨c,by rw[hb.block g hl];exact h1,r⟩,h2,fun j hj=>⟨(h3 j hj).1.below hb,(h3 j hj).2.below hb⟩⟩
theorem lh.room{lo:Nat}{w:World}{g k i:Nat}{I:Nat->Ri}{V:Nat->Value×Value}(h:lh lo w g k i I V)(j:Nat)(hj:j<6*k):(∃ v,w.cell? ⟨g,j,none⟩=some v)/\w.frozen? ⟨g,j,none⟩=false:=by
 obtain⟨⟨c,h1,hs,r⟩,h2,h3⟩:=h;refine⟨⟨c[j]'(by omega),?_⟩,?_⟩
 · simp[World.cell?,h1]
 · simp[World.frozen?,h1]
theorem lh.o{lo:Nat}{w:World}{g k:Nat}{I:Nat->Ri}{V:Nat->Value×Value}(h:lh lo w g k k I V):Px lo w g k I V:=by
 obtain⟨⟨c,h1,hs,r⟩,h2,h3⟩:=h;exact⟨⟨c,h1,r⟩,h2,h3⟩
theorem lh.step {lo:Nat}{w:World}{g k i:Nat}{I:Nat->Ri}{V:Nat->Value×Value}(h:lh lo w g k i I V) (hi:i<k) (v u:Value)
 (hv:Nt lo w v (dX (mkS (I i).n (I i).X (I i).e))) (hu:Nt lo w u (dX (mkS (I i).m (I i).Y (I i).f))) :
 ∃ V',lh lo (Tm w g (i*6) (.bool (dN (mkS (I i).n (I i).X (I i).e))) v (.int .i64 (dE (mkS (I i).n (I i).X (I i).e))) (.bool (dN (mkS (I i).m (I i).Y (I i).f))) u (.int .i64 (dE (mkS (I i).m (I i).Y (I i).f)))) g k (i+1) I V':=by
 obtain⟨⟨c,h1,hs,r⟩,h2,h3⟩:=h;obtain⟨c',k1,k2,k3,k4⟩:=JX h1 (i*6) (.bool (dN (mkS (I i).n (I i).X (I i).e))) v (.int .i64 (dE (mkS (I i).n (I i).X (I i).e))) (.bool (dN (mkS (I i).m (I i).Y (I i).f))) u (.int .i64 (dE (mkS (I i).m (I i).Y (I i).f))) af;refine⟨fun j=>if j=i then(v,u) else V j,⟨c',k1,af,fun j hj=>?_⟩,h2,fun j hj=>?_⟩
 · by_cases e:j=i
   · subst e;simp only[yG,if_true];exact k3
   · have:=r j af;rw[k4 _ af,k4 _ af,k4 _ af,k4 _ af,k4 _ af,k4 _ af];simp only[yG,if_neg e] at this |-;exact this
 · by_cases e:j=i
   · subst e;simp only[if_true];exact⟨hv.off (o8 _ _ _ _ _ _ _ _ _) (hv.qG aA h1),hu.off (o8 _ _ _ _ _ _ _ _ _) (hu.qG aA h1)⟩
   · simp only[if_neg e];obtain⟨q1,q2⟩:=h3 j af;exact⟨q1.off (o8 _ _ _ _ _ _ _ _ _) (q1.qG aA h1),q2.off (o8 _ _ _ _ _ _ _ _ _) (q2.qG aA h1)⟩
theorem sgnD{w:World}{n:Bool}{v:Value}{X:Nat}{e:Int}(h:Av w v X):Calls Tryz.prog 52 #[.agg #[.bool n,v,.int .i64 e]] w fun r w'=>r=.returned (.int .i64 (iP n X))/\Below w.heap.size w w':=by
 obtain⟨a,l,c,xs,rfl,hA,rfl⟩:=h;exact fK hA n e
theorem formD{w:World}{r:Ri}(h1:Av w r.v r.X)(h2:Av w r.u r.Y)(hT:bO w)(b0:-9223372036854775808<=r.e)(b1:r.e<=9223372036854775807)(b2:-9223372036854775808<=r.f)(b3:r.f<=9223372036854775807) :
 Calls Tryz.prog 254 #[.agg #[.bool r.n,r.v,.int .i64 r.e,.bool r.m,r.u,.int .i64 r.f]] w fun q w' =>
  (((mkS r.n r.X r.e).isSome&&(mkS r.m r.Y r.f).isSome)=true->∃ v u,q=.returned (.tuple #[.agg #[.bool (dN (mkS r.n r.X r.e)),v,.int .i64 (dE (mkS r.n r.X r.e)),.bool (dN (mkS r.m r.Y r.f)),u,.int .i64 (dE (mkS r.m r.Y r.f))],.int .i64 0])/\Nt w.heap.size w' v (dX (mkS r.n r.X r.e))/\Nt w.heap.size w' u (dX (mkS r.m r.Y r.f))/\Ap v u) /\
  (((mkS r.n r.X r.e).isSome&&(mkS r.m r.Y r.f).isSome)=false->q=.returned (.tuple #[.agg #[.bool false,.slice none 0 0,.int .i64 0,.bool false,.slice none 0 0,.int .i64 0],.int .i64 2]))/\Below w.heap.size w w':=by
 obtain⟨n,v,X,e,m,u,Y,f⟩:=r;simp only at *;obtain⟨a,l,c,xs,rfl,hA,rfl⟩:=h1;obtain⟨b,k,d,ys,rfl,hB,rfl⟩:=h2;have l1:=bC n (val xs) e;have l2:=bC m (val ys) f;have H1:∀ u,Below w.heap.size w u->Calls Tryz.prog 192 #[.bool n,.slice a l c,.int .i64 e] u fun r w'=>dh u.heap.size w' r (mkS n (val xs) e)/\Below u.heap.size u w':=fun u hu=>fJ (hA.below hu) (hT.belows hu) n e b0 b1;have H2:∀ u,Below w.heap.size w u->Calls Tryz.prog 192 #[.bool m,.slice b k d,.int .i64 f] u fun r w'=>dh u.heap.size w' r (mkS m (val ys) f)/\Below u.heap.size u w':=fun u hu=>fJ (hB.below hu) (hT.belows hu) m f b2 b3;simp only[dh] at H1 H2;generalize mkS n (val xs) e=o at *;generalize mkS m (val ys) f=p at *
 cases ho:o.isSome with
 | false =>
   have he:qx o=2:=by unfold qx;rw[ho];rfl
   rw[he] at H1;refine(Pv n m e f (dN o) false (dX o) 0 (dE o) 0 l1 (by rw[ws0];omega) H1).mono ?_;rintro r w' ⟨⟨v,u,h,rfl,rfl⟩,hb⟩;exact⟨fun hh=>(by cases hh),fun _=>h,hb⟩
 | true =>
   have he:qx o=0:=by unfold qx;rw[ho];rfl
   rw[he] at H1
   cases hp:p.isSome with
   | false =>
     have he:qx p=2:=by unfold qx;rw[hp];rfl
     rw[he] at H2;refine(Pw n m e f (dN o) (dN p) (dX o) (dX p) (dE o) (dE p) l1 l2 H1 H2).mono ?_;rintro r w' ⟨⟨v,u,h,rfl,rfl⟩,hb⟩;exact⟨fun hh=>(by cases hh),fun _=>h,hb⟩
   | true =>
     have he:qx p=0:=by unfold qx;rw[hp];rfl
     rw[he] at H2;refine(WK n m e f (dN o) (dN p) (dX o) (dX p) (dE o) (dE p) l1 l2 H1 H2).mono ?_;rintro r w' ⟨⟨v,u,h,hN,hM,hap⟩,hb⟩;exact⟨fun _=>⟨v,u,h,hN,hM,hap⟩,fun hh=>(by cases hh),hb⟩
theorem Z4(w:World)(g:Nat)(I:Nat->Ri)(h:RIn w g 1 I) :
 Calls Tryz.prog 208 #[.slice (some ⟨g,0,none⟩) 1 1] w fun r w' =>
  ((mP I 1≠0/\r=.returned (.tuple #[.slice none 0 0,.int .i64 (mP I 1)])) \/
   (mP I 1=0/\∃ g' V,r=.returned (.tuple #[.slice (some ⟨g',0,none⟩) 1 1,.int .i64 0])/\Px w.heap.size w' g' 1 I V))/\Below w.heap.size w w':=by
 have MK:=Dz;have hH:=au h;clear h;go_enter Tryz.func208,Tryz.ntmps208;go_wp2_with fail
 go_loopg [15] 1 (fun gk iv wr=>∃ i:Nat,gk+i=1/\iv=.int .i64 (i:Nat)/\Aside (Below w.heap.size w wr/\∀ j,j<i->decide (iP (I j).m (I j).Y<0)=false))
 case atStart=>exact⟨0,af,rfl,aG _ _,fun j hj=>by omega⟩
 case round =>
  obtain⟨i,hgi,rfl,HR⟩:=hrel
  by_cases hi:i<1
  · have hin:=hH.o.below HR.o.1;obtain⟨g0,g1,g2,g3,g4,g5⟩:=hin.row.facts i hi;obtain⟨A1,A2⟩:=hin.one i hi;obtain⟨n,v,X,e,m,u,Y,f,hI⟩:∃ n v X e m u Y f,I i=⟨n,v,X,e,m,u,Y,f⟩:=⟨_,_,_,_,_,_,_,_,rfl⟩;rw[hI] at g0 g1 g2 g3 g4 g5 A1 A2;simp only at g0 g1 g2 g3 g4 g5 A1 A2;obtain⟨a1,l1,c1,xs,rfl,-,-⟩:=id A1;obtain⟨a2,l2,c2,ys,rfl,-,-⟩:=id A2;obtain⟨U,hU⟩:=ah (wr.alloc (.cells #[.bool n,.slice a1 l1 c1,.int .i64 e,.bool m,.slice a2 l2 c2,.int .i64 f] 137));have rE:Below wr.heap.size wr U:=by rw[hU];exact ag _ _
    have RQ:Rq U wr.heap.size n (.slice a1 l1 c1) e m (.slice a2 l2 c2) f:=by rw[hU];exact Rq.new _ _ _ _ _ _ _
    obtain⟨x0,x1,x2,x3,x4,x5⟩:=RQ.facts;have HC:=hid (sgnD (n:=m) (e:=f) (A2.below rE));obtain⟨s,hs⟩:∃ s,iP m Y=s:=⟨_,rfl⟩;rw[hs] at HC;have SI:=(iq (HR.o.1.trans (rE.mono HR.o.1.size)) HR.o.2 hI hs hi);clear rE RQ A1 A2 hin HR hI hs;have hli:(i:Int)<1:=af
    have hl0:(0:Int)<=(i:Int):=af
    go_upto_region 4 with fail
    rw[<-hU];clear hU g0 g1 g2 g3 g4 g5;go_wp2_with fail;clear x0 x1 x2 x3 x4 x5;refine HC.o.mono ?_;rintro r u1 ⟨rfl,hb⟩;have S2:=au (SI.o.1.trans (hb.mono SI.o.1.size));clear hb HC
    by_cases hneg:s<0
    · have hn:=decide_eq_true hneg;go_wp2_with fail
      go_ret2
      obtain⟨_,hbef,hI,hs,hi⟩:=SI.o
      have hE:mP I 1=1:=by
       unfold mP;rw[if_pos (JW hi (by rw[hI];simp only;rw[hs];exact decide_eq_true hneg))]
      rw[hE];exact⟨.inl ⟨aA,rfl⟩,S2.o⟩
    · have hn:decide (s<0)=false:=decide_eq_false af;go_wp2_with fail;go_roundg (1-(i+1))
      case measure=>omega
      case rel =>
       obtain⟨_,hbef,hI,hs,hi⟩:=SI.o;refine⟨i+1,af,by go_num,S2.o,fun j hj=>?_⟩
       by_cases hji:j=i
       · subst hji;rw[hI];simp only;rw[hs];exact decide_eq_false af
       · exact hbef j af
  · obtain rfl:i=1:=af
    obtain⟨M,hM⟩:=ah (wr.alloc (.cells #[.bool false,.slice none 0 0,.int .i64 0,.bool false,.slice none 0 0,.int .i64 0] 137));have hbM:Below wr.heap.size wr M:=by rw[hM];exact ag _ _
    have hpM:lh w.heap.size M wr.heap.size 1 0 I (fun _=>(.slice none 0 0,.slice none 0 0)):=by
     rw[hM];exact⟨⟨_,jC _ _,rfl,fun j hj=>by omega⟩,HR.o.1.size,fun j hj=>by omega⟩
    have S1:=(bM HR.o.2 hpM (HR.o.1.trans (hbM.mono HR.o.1.size)));obtain⟨gO,hgO⟩:=ah (wr.heap.size);clear HR hbM hpM hi hgi
    go_upto_region 9 with fail
    rw[<-hM];rw[<-hgO] at S1 |-;clear hM hgO
    go_loopg [29] 1 (fun gk iv wr=>∃ i:Nat,gk+i=1/\iv=.int .i64 (i:Nat)/\Aside (Below w.heap.size w wr/\(∀ j,j<i->((mkS (I j).n (I j).X (I j).e).isSome&&(mkS (I j).m (I j).Y (I j).f).isSome)=true)/\∃ V,lh w.heap.size wr gO 1 i I V))
    case atStart=>exact⟨0,af,rfl,S1.o.r2,fun j hj=>by omega,_,S1.o.2.1⟩
    case round =>
     obtain⟨i,hgi,rfl,HR⟩:=hrel;have SS:=au S1.o.1;clear S1
     by_cases hi:i<1
     · obtain⟨aD,hbef,V,hP⟩:=HR.o;have hin:=hH.o.below aD;obtain⟨g0,g1,g2,g3,g4,g5⟩:=hin.row.facts i hi;obtain⟨A1,A2⟩:=hin.one i hi;obtain⟨b0,b1,b2,b3⟩:=hin.o7 i hi;have hFD:=fun(u:World) (hb:Below wr.heap.size wr u)=>formD (r:=I i) (A1.below hb) (A2.below hb) ((hin.below hb).tab) b0 b1 b2 b3;obtain⟨n,v,X,e,m,u,Y,f,hI⟩:∃ n v X e m u Y f,I i=⟨n,v,X,e,m,u,Y,f⟩:=⟨_,_,_,_,_,_,_,_,rfl⟩;rw[hI] at g0 g1 g2 g3 g4 g5 A1 A2 hFD;simp only at g0 g1 g2 g3 g4 g5 A1 A2 hFD;obtain⟨a1,l1,c1,xs,rfl,-,-⟩:=id A1;obtain⟨a2,l2,c2,ys,rfl,-,-⟩:=id A2;obtain⟨U,hU⟩:=ah (wr.alloc (.cells #[.bool n,.slice a1 l1 c1,.int .i64 e,.bool m,.slice a2 l2 c2,.int .i64 f] 137));have rE:Below wr.heap.size wr U:=by rw[hU];exact ag _ _
       have RQ:Rq U wr.heap.size n (.slice a1 l1 c1) e m (.slice a2 l2 c2) f:=by rw[hU];exact Rq.new _ _ _ _ _ _ _
       obtain⟨x0,x1,x2,x3,x4,x5⟩:=RQ.facts;have HC:=hid (hFD U rE);have lo1:=bC n X e;have lo2:=bC m Y f;obtain⟨o,ho⟩:∃ o,mkS n X e=o:=⟨_,rfl⟩;obtain⟨p,hp⟩:∃ p,mkS m Y f=p:=⟨_,rfl⟩;rw[ho,hp] at HC;rw[ho] at lo1;rw[hp] at lo2;have SI:=(EF (aD.trans (rE.mono aD.size)) hbef hI ho hp hi (hP.below rE));clear rE RQ A1 A2 hin HR hI ho hp aD hbef hP hFD b0 b1 b2 b3;have hli:(i:Int)<1:=af
       have hl0:(0:Int)<=(i:Int):=af
       go_upto_region 11 with fail
       rw[<-hU];clear hU g0 g1 g2 g3 g4 g5;go_wp2_with fail;clear x0 x1 x2 x3 x4 x5;refine HC.o.mono ?_;rintro r u1 ⟨h1,h2,hb⟩;clear HC
       cases hok:(o.isSome&&p.isSome) with
       | false =>
         obtain rfl:=h2 hok;have S2:=au (SI.o.1.trans (hb.mono SI.o.1.size));clear h1 h2 hb;go_wp2_with fail
         go_ret2
         obtain⟨_,hbef,hI,ho,hp,hi,_⟩:=SI.o
         have hE:mP I 1=2:=by
          unfold mP;rw[uA (p:=fun i=>decide (iP (I i).m (I i).Y<0)) SS.o,if_neg Ae,if_pos (JW hi (by rw[hI];simp only;rw[ho,hp,hok];rfl))]
         rw[hE];exact⟨.inl ⟨aA,rfl⟩,S2.o.alloc S2.o.size _⟩
       | true =>
         obtain⟨v1,v2,rfl,hN,hM2,-⟩:=h1 hok;obtain⟨p1,q1,rfl,_⟩:=hN.arg af;obtain⟨p2,q2,rfl,_⟩:=hM2.arg af;obtain⟨U2,IE⟩:=ah (u1.alloc (.cells #[.bool (dN o),.slice p1 (ws (dX o)).length q1,.int .i64 (dE o),.bool (dN p),.slice p2 (ws (dX p)).length q2,.int .i64 (dE p)] 137));have rE:Below u1.heap.size u1 U2:=by rw[IE];exact ag _ _
         have RQ:Rq U2 u1.heap.size (dN o) (.slice p1 (ws (dX o)).length q1) (dE o) (dN p) (.slice p2 (ws (dX p)).length q2) (dE p):=by rw[IE];exact Rq.new _ _ _ _ _ _ _
         obtain⟨x0,x1,x2,x3,x4,x5⟩:=RQ.facts;have hP2:=(SI.o.r6.below hb).below rE;have hb2:=(SI.o.1.trans (hb.mono SI.o.1.size)).trans (rE.mono (aV SI.o.1.size hb.size));obtain⟨⟨y0,r0⟩,f0⟩:=hP2.room (i*6) af;obtain⟨⟨y1,r1⟩,f1⟩:=hP2.room (i*6+1) af;obtain⟨⟨y2,r2⟩,f2⟩:=hP2.room (i*6+2) af;obtain⟨⟨y3,r3⟩,f3⟩:=hP2.room (i*6+3) af;obtain⟨⟨y4,r4⟩,f4⟩:=hP2.room (i*6+4) af;obtain⟨⟨y5,r5⟩,f5⟩:=hP2.room (i*6+5) af;obtain⟨W',hW'⟩:∃ W',W'=Tm U2 gO (i*6) (.bool (dN o)) (.slice p1 (ws (dX o)).length q1) (.int .i64 (dE o)) (.bool (dN p)) (.slice p2 (ws (dX p)).length q2) (.int .i64 (dE p)):=⟨_,rfl⟩
         have S3:Aside (Below w.heap.size w W'/\(∀ j,j<i+1->((mkS (I j).n (I j).X (I j).e).isSome&&(mkS (I j).m (I j).Y (I j).f).isSome)=true)/\∃ V,lh w.heap.size W' gO 1 (i+1) I V):=by
          obtain⟨_,hbef,hI,ho,hp,hi,_⟩:=SI.o;refine⟨?_,?_,?_⟩
          · rw[hW'];exact But.below hb2 (o8 _ _ _ _ _ _ _ _ _) hb2.size hP2.own
          · intro j hj
            by_cases e:j=i
            · subst e;rw[hI];simp only;rw[ho,hp,hok]
            · exact hbef j af
          · have hsz:=SI.o.1.size;have:=hP2.step hi (.slice p1 (ws (dX o)).length q1) (.slice p2 (ws (dX p)).length q2) (by rw[hI];simp only;rw[ho];exact(hN.below rE).mono hsz) (by rw[hI];simp only;rw[hp];exact(hM2.below rE).mono hsz);rw[hI] at this;simp only at this;rw[ho,hp,<-hW'] at this;exact this
         have neq:u1.heap.size≠gO:=by have:=(SI.o.r6.below hb).lt;omega
         clear h1 h2 hb hN hM2 rE RQ hP2 hb2 SI
         go_upto_region 12 with fail
         rw[<-IE];clear IE;go_wp2_with fail;unfold Tm at hW';go_roundg (1-(i+1))
         case measure=>omega
         case rel =>
          refine⟨i+1,af,by go_num,?_⟩
          first | rw[<-hW'] | (rw[hW'] at S3)
          exact S3
     · obtain rfl:i=1:=af
       obtain⟨aD,hbef,V,hP⟩:=HR.o;have hO:=hP.o;have S2:=(bM aD hbef hO);have hi0:wr=wr:=rfl;clear HR aD hbef hP hO hi hgi
       go_upto_region 17 with fail
       go_loopg [49] 1 (fun gk iv wr=>∃ i:Nat,gk+i=1/\iv=.int .i64 (i:Nat)/\Aside (Below w.heap.size w wr/\(∀ j,j<i->decide (dX (mkS (I j).m (I j).Y (I j).f)=0)=false)/\Px w.heap.size wr gO 1 I V))
       case atStart=>exact⟨0,af,rfl,S2.o.1,fun j hj=>by omega,S2.o.r2⟩
       case round =>
        obtain⟨i,hgi,rfl,HR⟩:=hrel;have SS2:=au S2.o.2.1;clear S2
        by_cases hi:i<1
        · obtain⟨aD,hbef,hO⟩:=HR.o;obtain⟨g0,g1,g2,g3,g4,g5⟩:=hO.row.facts i hi;obtain⟨A1,A2⟩:=hO.nts i hi;have lo1:=bC (I i).n (I i).X (I i).e;have lo2:=bC (I i).m (I i).Y (I i).f;unfold yG at g0 g1 g2 g3 g4 g5;simp only at g0 g1 g2 g3 g4 g5;obtain⟨o,ho⟩:∃ o,mkS (I i).n (I i).X (I i).e=o:=⟨_,rfl⟩;obtain⟨p,hp⟩:∃ p,mkS (I i).m (I i).Y (I i).f=p:=⟨_,rfl⟩;rw[ho] at g0 g2 A1 lo1;rw[hp] at g3 g5 A2 lo2;obtain⟨v1,hv1⟩:∃ v1,(V i).1=v1:=⟨_,rfl⟩;obtain⟨v2,hv2⟩:∃ v2,(V i).2=v2:=⟨_,rfl⟩;rw[hv1] at g1 A1;rw[hv2] at g4 A2;obtain⟨p1,q1,rfl,_⟩:=A1.arg af;obtain⟨p2,q2,rfl,_⟩:=A2.arg af;obtain⟨U,hU⟩:=ah (wr.alloc (.cells #[.bool (dN o),.slice p1 (ws (dX o)).length q1,.int .i64 (dE o),.bool (dN p),.slice p2 (ws (dX p)).length q2,.int .i64 (dE p)] 137));have rE:Below wr.heap.size wr U:=by rw[hU];exact ag _ _
          have RQ:Rq U wr.heap.size (dN o) (.slice p1 (ws (dX o)).length q1) (dE o) (dN p) (.slice p2 (ws (dX p)).length q2) (dE p):=by rw[hU];exact Rq.new _ _ _ _ _ _ _
          obtain⟨x0,x1,x2,x3,x4,x5⟩:=RQ.facts;have HC:=hid (sgnD (n:=dN p) (e:=dE p) ((A2.below rE).av af));obtain⟨s,hs⟩:∃ s,iP (dN p) (dX p)=s:=⟨_,rfl⟩;rw[hs] at HC;have SI:=(rG (aD.trans (rE.mono aD.size)) hbef hp hs hi (hO.below rE));clear rE RQ A1 A2 HR ho hp hv1 hv2 hs aD hbef hO;have hli:(i:Int)<1:=af
          have hl0:(0:Int)<=(i:Int):=af
          go_upto_region 19 with fail
          rw[<-hU];clear hU g0 g1 g2 g3 g4 g5;go_wp2_with fail;clear x0 x1 x2 x3 x4 x5;refine HC.o.mono ?_;rintro r u1 ⟨rfl,hb⟩;have S2:=(aT (SI.o.1.trans (hb.mono SI.o.1.size)) (SI.o.r5.below hb));clear hb HC
          by_cases hz:s=0
          · have hn:(s==0)=true:=by simp[hz]
            have hsz:=SI;clear SI;go_wp2_with fail
            go_ret2
            obtain⟨_,hbef,hp,hs,hi,_⟩:=hsz.o
            have hE:mP I 1=21:=by
             unfold mP;rw[uA (p:=fun i=>decide (iP (I i).m (I i).Y<0)) SS.o,if_neg Ae,uA (p:=fun i=>!((mkS (I i).n (I i).X (I i).e).isSome&&(mkS (I i).m (I i).Y (I i).f).isSome)) (fun j hj=>by rw[SS2.o j hj];rfl),if_neg Ae,if_pos (JW hi (by simp only[hp];exact decide_eq_true (mO.1 (hs.trans hz))))]
            rw[hE];exact⟨.inl ⟨aA,rfl⟩,S2.o.1⟩
          · have hn:(s==0)=false:=by simp[hz]
            go_wp2_with fail;go_roundg (1-(i+1))
            case measure=>omega
            case rel =>
             obtain⟨_,hbef,hp,hs,hi,_⟩:=SI.o;refine⟨i+1,af,by go_num,S2.o.1,fun j hj=>?_,S2.o.2⟩
             by_cases hji:j=i
             · subst hji;rw[hp];exact decide_eq_false (fun h0=>hz (hs.symm.trans (mO.2 h0)))
             · exact hbef j af
        · obtain rfl:i=1:=af
          have S3:=HR;clear HR hi hgi;go_wp2_with fail
          go_ret2
          have hE:mP I 1=0:=by
           unfold mP;rw[uA (p:=fun i=>decide (iP (I i).m (I i).Y<0)) SS.o,if_neg Ae,uA (p:=fun i=>!((mkS (I i).n (I i).X (I i).e).isSome&&(mkS (I i).m (I i).Y (I i).f).isSome)) (fun j hj=>by rw[SS2.o j hj];rfl),if_neg Ae,uA (p:=fun i=>decide (dX (mkS (I i).m (I i).Y (I i).f)=0)) S3.o.2.1,if_neg Ae]
          exact⟨.inr ⟨hE,gO,V,rfl,S3.o.r2⟩,S3.o.1⟩
theorem YE{I:Nat->Ri}{k:Nat}(h:mP I k=0)(i:Nat)(hi:i<k):¬ iP (I i).m (I i).Y<0/\(mkS (I i).n (I i).X (I i).e).isSome=true/\(mkS (I i).m (I i).Y (I i).f).isSome=true/\dX (mkS (I i).m (I i).Y (I i).f)≠0:=by
 unfold mP at h
 split at h
 · omega
 · rename_i h1
   split at h
   · omega
   · rename_i h2
     split at h
     · omega
     · rename_i h3;simp only[Bool.not_eq_true,List.any_eq_false,kX] at h1 h2 h3;have k1:=h1 i hi;have k2:=h2 i hi;have k3:=h3 i hi;simp at k1 k2 k3;exact⟨af,k2.1,k2.2,k3⟩
theorem DI{n:Bool}{X:Nat}{e:Int}{o:Option (Bool×Nat×Int)}(h:mkS n X e=o)(hs:o.isSome=true):mkS (dN o) (dX o) (dE o)=o:=by
 cases o with
 | none=>cases hs
 | some d =>
   obtain⟨n1,X1,e1⟩:=d;exact(di h).self
theorem WL{n:Bool}{X:Nat}{e:Int}{o:Option (Bool×Nat×Int)}(h:mkS n X e=o):-1048576<=dE o/\dE o<=1048576:=by
 cases o with
 | none=>exact⟨aA,aA⟩
 | some d =>
   obtain⟨n1,X1,e1⟩:=d;have:=di h;exact⟨this.down,this.up⟩
structure Rv (w:World) (r:Ri):Prop where
 num:Av w r.v r.X
 den:Av w r.u r.Y
 be:-9223372036854775808<=r.e/\r.e<=9223372036854775807
 bf:-9223372036854775808<=r.f/\r.f<=9223372036854775807
theorem Rv.below{w w':World}{r:Ri}(h:Rv w r)(hb:Below w.heap.size w w'):Rv w' r:=⟨h.num.below hb,h.den.below hb,h.be,h.bf⟩
theorem rin1(W:World)(r:Ri)(hr:Rv W r)(hT:bO W)(R:World)(hR:R=W.alloc (.cells #[.bool r.n,r.v,.int .i64 r.e,.bool r.m,r.u,.int .i64 r.f] 137)):RIn R W.heap.size 1 (fun _=>r):=by
 have hb:Below W.heap.size W R:=by rw[hR];exact ag _ _
 refine⟨⟨_,by rw[hR];exact jC _ _,?_⟩,fun i hi=>⟨hr.num.below hb,hr.den.below hb⟩,fun i hi=>⟨hr.be.1,hr.be.2,hr.bf.1,hr.bf.2⟩,hT.belows hb⟩;intro i hi;obtain rfl:i=0:=af
 simp
theorem Bp(w:World)(n:Bool)(v:Value)(e:Int)(m:Bool)(u:Value)(f:Int)(W:World)(hW:W=w.alloc (.cells #[.bool n,v,.int .i64 e,.bool m,u,.int .i64 f] 137)) :
 Below w.heap.size w W/\W.heap.size=w.heap.size+1/\Rq W w.heap.size n v e m u f:=by
 rw[hW];exact⟨ag w _,aL,Rq.new _ _ _ _ _ _ _⟩
theorem Qas{P:Prop}(h:P:=by
 go_enter Tryz.func131,Tryz.ntmps131
 go_upto_region 1 with fail
 rw[<-hW1];clear hW1;go_wp2
 go_ret2
 exact⟨rfl,S0.o⟩):P:=h
theorem q8 {w:World}{n m:Bool}{a b:Option Addr}{la ca lb cb:Nat}{X Y:Nat}{e f:Int}(mode:Int) (hr:Rv w ⟨n,.slice a la ca,X,e,m,.slice b lb cb,Y,f⟩) (hT:bO w)
 (o1 o2 z:Option (Bool×Nat×Int)) (ew:Int) (rw':Nat×Int) (ho1:mkS n X e=o1) (ho2:mkS m Y f=o2) (lz:(ws (dX z)).length<=8192) (hew:ew≠0->rw'.1=0/\rw'.2=ew)
 (ANS:Nat×Int) (hANS:ANS=if mode<0\/4<mode then(0,1) else if mP (fun _=>(⟨n,.slice a la ca,X,e,m,.slice b lb cb,Y,f⟩:Ri)) 1=0 then rw' else(0,mP (fun _=>(⟨n,.slice a la ca,X,e,m,.slice b lb cb,Y,f⟩:Ri)) 1))
 (HW:Hid (∀ (u:World) (p q:Value),Below w.heap.size w u->Nt w.heap.size u p (dX o1)->Nt w.heap.size u q (dX o2)->mP (fun _=>(⟨n,.slice a la ca,X,e,m,.slice b lb cb,Y,f⟩:Ri)) 1=0->Calls Tryz.prog 132 #[.agg #[.bool (dN o1),p,.int .i64 (dE o1),.bool (dN o2),q,.int .i64 (dE o2)]] u fun r w'=>(∃ v,r=.returned (.tuple #[.agg #[.bool (dN z),v,.int .i64 (dE z)],.int .i64 ew])/\Nt u.heap.size w' v (dX z))/\Below u.heap.size u w'))
 (HR:Hid (∀ (u:World) (p:Option Addr) (q:Nat),ew=0->¬ (mode<0\/4<mode)->mP (fun _=>(⟨n,.slice a la ca,X,e,m,.slice b lb cb,Y,f⟩:Ri)) 1=0->Below w.heap.size w u->Arg u p (ws (dX z)).length q (ws (dX z))->Calls Tryz.prog 54 #[.agg #[.bool (dN z),.slice p (ws (dX z)).length q,.int .i64 (dE z)],.int .i64 mode] u fun r w'=>r=.returned (.tuple #[.float .f64 rw'.1,.int .i64 rw'.2])/\Below u.heap.size u w')) :
 Calls Tryz.prog 131 #[.agg #[.bool n,.slice a la ca,.int .i64 e,.bool m,.slice b lb cb,.int .i64 f],.int .i64 mode,.func (.func 132) #[] #[],.func (.func 54) #[] #[]] w fun r w'=>r=.returned (.tuple #[.float .f64 ANS.1,.int .i64 ANS.2])/\Below w.heap.size w w':=by
 obtain⟨W1,hW1⟩:=ah (w.alloc (.cells #[.bool n,.slice a la ca,.int .i64 e,.bool m,.slice b lb cb,.int .i64 f] 137));obtain⟨hB,hz1,Q1⟩:=Bp w n _ e m _ f W1 hW1
 by_cases hm:mode<0\/4<mode
 · rw[if_pos hm] at hANS;subst hANS;have S0:=au hB;clear hB hz1 Q1 HW HR hr hT
   by_cases hm0:mode<0
   · have d1:=decide_eq_true hm0;exact Qas
   · have d1:=decide_eq_false hm0;have OX:4<mode:=af
     have d2:=decide_eq_true OX;clear hm;exact Qas
 · rw[if_neg hm] at hANS;obtain⟨R,hR⟩:=ah (W1.alloc (.cells #[.bool n,.slice a la ca,.int .i64 e,.bool m,.slice b lb cb,.int .i64 f] 137));have hin:=rin1 W1 _ (hr.below hB) (hT.belows hB) R hR;have hbR:Below W1.heap.size W1 R:=by rw[hR];exact ag _ _
   have HF:=hid (Z4 R W1.heap.size _ hin);obtain⟨I,hI⟩:∃ I:Nat->Ri,(fun _=>(⟨n,.slice a la ca,X,e,m,.slice b lb cb,Y,f⟩:Ri))=I:=⟨_,rfl⟩;rw[hI] at HF hANS HW HR;obtain⟨x0,x1,x2,x3,x4,x5⟩:=Q1.facts;have HAn:=au hANS;have S0:=(mh (hB.trans (hbR.mono hB.size)) hI ho1 ho2);have d1:decide (mode<0)=false:=decide_eq_false (fun h=>hm (.inl h));have d2:decide (4<mode)=false:=decide_eq_false (fun h=>hm (.inr h));have HM:=au hm;obtain⟨g12,Py⟩:∃ g,W1.heap.size=g:=⟨_,rfl⟩;rw[Py] at HF;clear hB hz1 Q1 hin hbR hr hT hANS hI ho1 ho2 hm;go_enter Tryz.func131,Tryz.ntmps131
   go_upto_region 1 with fail
   rw[<-hW1];clear hW1;go_wp2_with fail;rw[<-hR];clear hR Py x0 x1 x2 x3 x4 x5;refine HF.o.mono ?_;rintro r u1 ⟨hor,hb⟩;clear HF;obtain⟨aD,hI,ho1,ho2⟩:=S0.o;have S1:=au (aD.trans (hb.mono aD.size));rcases hor with ⟨hne,rfl⟩|⟨h0,g',V,rfl,hO⟩
   · have HA2:=HAn.o;rw[if_neg hne] at HA2;obtain⟨er,her⟩:∃ er,mP I 1=er:=⟨_,rfl⟩;rw[her] at hne HA2 |-;have HA3:=au HA2;have hnb:(er==0)=false:=by simp[hne]
     clear HAn HA2 her hne aD hb hI ho1 ho2 S0 HW HR;go_wp2
     go_ret2
     rw[HA3.o];exact⟨rfl,S1.o⟩
   · have HA2:=HAn.o;rw[if_pos h0] at HA2;obtain⟨q0,q1,q2,q3,q4,q5⟩:=hO.row.facts 0 af;obtain⟨N1,N2⟩:=hO.nts 0 af;simp only[gT,dm] at q0 q1 q2 q3 q4 q5;unfold yG at q0 q1 q2 q3 q4 q5;have e0:I 0=⟨n,.slice a la ca,X,e,m,.slice b lb cb,Y,f⟩:=by rw[<-hI]
     rw[e0] at N1 N2;simp only[e0] at q0 q1 q2 q3 q4 q5 N1 N2;have m1:=bC n X e;have m2:=bC m Y f;rw[ho1] at q0 q2 N1 m1;rw[ho2] at q3 q5 N2 m2;obtain⟨v1,hv1⟩:∃ v1,(V 0).1=v1:=⟨_,rfl⟩;obtain⟨v2,hv2⟩:∃ v1,(V 0).2=v1:=⟨_,rfl⟩;rw[hv1] at q1 N1;rw[hv2] at q4 N2;obtain⟨a1,c1,rfl,_⟩:=N1.arg af;obtain⟨a2,c2,rfl,_⟩:=N2.arg af;have HC:=hid (HW.o u1 _ _ (aD.trans (hb.mono aD.size)) (N1.mono (by have:=aD.size;omega)) (N2.mono (by have:=aD.size;omega)) h0);have S2:=(aT h0 HA2);clear HAn HA2 aD hb hI ho1 ho2 S0 hO N1 N2 HW h0 hv1 hv2 e0;go_wp2_with fail;clear q0 q1 q2 q3 q4 q5;refine HC.o.mono ?_;rintro r u2 ⟨⟨v,rfl,NZ⟩,hb⟩;obtain⟨az,cz,rfl,_⟩:=NZ.arg af;clear HC;obtain⟨U3,JV⟩:=ah (u2.alloc (.cells #[.bool (dN z),.slice az (ws (dX z)).length cz,.int .i64 (dE z)] 77));have nD:Below u2.heap.size u2 U3:=by rw[JV];exact ag _ _
     have bb:=S1.o.trans (hb.mono S1.o.size);have bc:=bb.trans (nD.mono bb.size)
     by_cases Tn:ew=0
     · have TZ:Tk U3 u2.heap.size 77 (.bool (dN z)) (.slice az (ws (dX z)).length cz) (.int .i64 (dE z)):=by rw[JV];exact Tk.new _ _ _ _ _
       have HD:=hid (HR.o U3 az cz Tn HM.o S2.o.1 bc ((NZ.below nD).cB af).2);obtain⟨x0,x1,x2,_,_,_⟩:=TZ.facts;have S3:=(aT bc S2.o.2);clear bb bc hb nD NZ TZ S1 S2 HR HM hew;subst Tn
       go_upto_region 7 with fail
       rw[<-JV];clear JV;go_wp2_with fail;refine HD.o.mono ?_;rintro r u3 ⟨rfl,hb⟩;have S4:=au (S3.o.1.trans (hb.mono S3.o.1.size));clear hb HD x0 x1 x2;go_wp2
       go_ret2
       rw[S3.o.2];exact⟨rfl,S4.o⟩
     · have hnb:(ew==0)=false:=by simp[Tn]
       have hA:ANS=(0,ew):=by
        rw[S2.o.2];have:=hew Tn;rw[<-this.1,<-this.2]
       have S3:=(aT bc hA);clear bb bc hb nD NZ S1 S2 HR HM hew hA Tn
       go_upto_region 7 with fail
       rw[<-JV];clear JV;go_wp2
       go_ret2
       rw[S3.o.2];exact⟨rfl,S3.o.1⟩
theorem Tp {w:World}{a b:Option Addr}{la ca lb cb:Nat}(n m:Bool) (e f mode:Int) (ANS:Nat×Int)
 (HR:Hid (∀ u:World,Below w.heap.size w u->Calls Tryz.prog 131 #[.agg #[.bool n,.slice a la ca,.int .i64 e,.bool m,.slice b lb cb,.int .i64 f],.int .i64 mode,.func (.func 132) #[] #[],.func (.func 54) #[] #[]] u fun r w'=>r=.returned (.tuple #[.float .f64 ANS.1,.int .i64 ANS.2])/\Below u.heap.size u w')) :
 Calls Tryz.prog 70 #[.agg #[.bool n,.slice a la ca,.int .i64 e,.bool m,.slice b lb cb,.int .i64 f],.int .i64 mode] w fun r w'=>r=.returned (.tuple #[.float .f64 ANS.1,.int .i64 ANS.2])/\Below w.heap.size w w':=by
 obtain⟨W1,hW1⟩:=ah (w.alloc (.cells #[.bool n,.slice a la ca,.int .i64 e,.bool m,.slice b lb cb,.int .i64 f] 137));obtain⟨hB,hz1,Q1⟩:=Bp w n _ e m _ f W1 hW1;have HC:=hid (HR.o W1 hB);obtain⟨x0,x1,x2,x3,x4,x5⟩:=Q1.facts;have S0:=au hB;clear hB hz1 Q1 HR;go_enter Tryz.func70,Tryz.ntmps70
 go_upto_region 1 with fail
 rw[<-hW1];clear hW1;go_wp2_with fail;refine HC.o.mono ?_;rintro r u1 ⟨rfl,hb⟩;have S1:=au (S0.o.trans (hb.mono S0.o.size));clear hb HC x0 x1 x2 x3 x4 x5;go_wp2
 go_ret2
 exact⟨rfl,S1.o⟩
theorem Pz(n:Bool)(M:Nat)(E:Int)(hM:M≠0)(hb:bl M<=1001)(h0:-4096<=E)(h1:E<=4096):mkS n M E=some (n,M/2^lo M,E+lo M)/\(M/2^lo M)%2=1/\M=M/2^lo M*2^lo M/\lo M<=1001:=by
 obtain⟨q,h2,h3,h4⟩:=gX M hM;refine⟨?_,af,by rw[h3,bR];exact h2,af⟩;unfold mkS;rw[if_neg hM,if_neg af]
def qz(n:Bool)(X:Nat)(e:Int)(Y:Nat)(f:Int):Option (Bool×Nat×Int):=mkS n (2*kJ X Y 64+(if EH X Y 64 then 0 else 1)) (jL (e-f-oW X Y 64-fV Y 64))
theorem Bq(x:Int):-4096<=jL x/\jL x<=4096:=by unfold jL;omega
theorem Z5{W d k:Nat}(h:W<2^k)(hd:d<=1):bl (2*W+d)<=k+1:=fO (by rw[fw];omega)
theorem Z6:Grid vK 9218868437227405312:=by
 refine⟨aA,?_,fun {k l} h=>Ta.2 h,fun k hk=>?_⟩
 · have:=jS 0 0 (.inl rfl) af;simpa using this
 · by_cases h:k<4503599627370496
   · refine⟨k,0,?_,?_,af,af⟩
     · have:=jS 0 k (.inl rfl) af;rw[gT,dm] at this;exact this
     · have:=jS 0 (k+1) (.inl rfl) af;rw[gT,dm] at this;exact this
   · obtain⟨q,hq⟩:∃ q,k/4503599627370496=q:=⟨_,rfl⟩;obtain⟨g,hg⟩:∃ g,k%4503599627370496=g:=⟨_,rfl⟩;refine⟨4503599627370496+g,q-1,?_,?_,af,af⟩
     · have:=jS (q-1) (4503599627370496+g) (.inr af) af;rw[show(q-1)*4503599627370496+(4503599627370496+g)=k by omega] at this;exact this
     · have:=jS (q-1) (4503599627370496+g+1) (.inr af) af;rw[show(q-1)*4503599627370496+(4503599627370496+g+1)=k+1 by omega] at this;exact this
theorem Br(n:Bool)(X:Nat)(e:Int)(Y:Nat)(f:Int)(hX:X=0\/X%2=1)(hY:Y≠0)(bX:bl X<=262144)(bY:bl Y<=262144):(qz n X e Y f).isSome=true:=by
 have D:=qY X Y 64 hX hY af af bX bY;have hW2:=D.most;have hd:(if EH X Y 64 then 0 else 1)<=1:=by split <;> omega
 have hb:=Z5 hW2 hd;unfold qz
 by_cases hM:2*kJ X Y 64+(if EH X Y 64 then 0 else 1)=0
 · rw[hM,gz];rfl
 · rw[(Pz n _ _ hM af (Bq _).1 (Bq _).2).1];rfl
def oneI(r:Ri):Nat->Ri:=fun _=>r
noncomputable def Gy (rnd:Option (Bool×Nat×Int)->Int->Nat×Int) (r:Ri) (mode:Int):Nat×Int :=
 if mode<0\/4<mode then(0,1) else if mP (oneI r) 1=0 then rnd (qz (dN (mkS r.n r.X r.e)) (dX (mkS r.n r.X r.e)) (dE (mkS r.n r.X r.e)) (dX (mkS r.m r.Y r.f)) (dE (mkS r.m r.Y r.f))) mode else(0,mP (oneI r) 1)
theorem uB{n:Bool}{X:Nat}{e:Int}(h:(mkS n X e).isSome=true):tZ (dN (mkS n X e)) (dX (mkS n X e)) (dE (mkS n X e)):=by
 cases ho:mkS n X e with
 | none=>rw[ho] at h;cases h
 | some d =>
   obtain⟨n1,X1,e1⟩:=d;exact di ho
theorem tZ.par{n:Bool}{X:Nat}{e:Int}(h:tZ n X e):X=0\/X%2=1:=by rcases h.odd with q | q;exact .inr q;exact .inl q.1
theorem JY(n:Bool)(X:Nat)(e:Int)(Y:Nat)(f:Int)(hs:(qz n X e Y f).isSome=true):mkS (dN (qz n X e Y f)) (dX (qz n X e Y f)) (dE (qz n X e Y f))=qz n X e Y f:=DI (o:=qz n X e Y f) rfl hs
theorem DJ{w:World}{n m:Bool}{a b:Option Addr}{la ca lb cb:Nat}{X Y:Nat}{e f:Int}(mode:Int)(hr:Rv w ⟨n,.slice a la ca,X,e,m,.slice b lb cb,Y,f⟩)(hT:bO w) :
 Calls Tryz.prog 70 #[.agg #[.bool n,.slice a la ca,.int .i64 e,.bool m,.slice b lb cb,.int .i64 f],.int .i64 mode] w fun r w' =>
  r=.returned (.tuple #[.float .f64 (Gy nC ⟨n,.slice a la ca,X,e,m,.slice b lb cb,Y,f⟩ mode).1,.int .i64 (Gy nC ⟨n,.slice a la ca,X,e,m,.slice b lb cb,Y,f⟩ mode).2])/\Below w.heap.size w w':=by
 refine Tp n m e f mode (Gy nC ⟨n,.slice a la ca,X,e,m,.slice b lb cb,Y,f⟩ mode) ?_;intro u hu;have hrT:=hr.below hu;have LZ:=hT.belows hu;refine q8 mode hrT LZ (mkS n X e) (mkS m Y f) (qz (dN (mkS n X e)) (dX (mkS n X e)) (dE (mkS n X e)) (dX (mkS m Y f)) (dE (mkS m Y f))) 0 (nC (qz (dN (mkS n X e)) (dX (mkS n X e)) (dE (mkS n X e)) (dX (mkS m Y f)) (dE (mkS m Y f))) mode) rfl rfl (bC _ _ _) (fun h=>absurd rfl h) _ rfl ?_ ?_
 · intro v p q hv N1 N2 h0;obtain⟨k1,k2,k3,k4⟩:=YE h0 0 af;simp only at k1 k2 k3 k4;have F1:=uB k2;have F2:=uB k3;obtain⟨a1,c1,rfl,A1⟩:=N1.arg (by have:=iT F1;omega);obtain⟨a2,c2,rfl,A2⟩:=N2.arg (by have:=iT F2;omega);have hq:=Dy (dN (mkS n X e)) (dN (mkS m Y f)) (dX (mkS n X e)) (dX (mkS m Y f)) (dE (mkS n X e)) (dE (mkS m Y f)) A1 A2 (LZ.belows hv) F1.par k4 F1.down F1.up F2.down F2.up F1.size F2.size;have hs:=Br (dN (mkS n X e)) (dX (mkS n X e)) (dE (mkS n X e)) (dX (mkS m Y f)) (dE (mkS m Y f)) F1.par k4 F1.size F2.size;have he:qx (qz (dN (mkS n X e)) (dX (mkS n X e)) (dE (mkS n X e)) (dX (mkS m Y f)) (dE (mkS m Y f)))=0:=by unfold qx;rw[hs];rfl
   unfold dh at hq;rw[show mkS (dN (mkS n X e)) (2*kJ (dX (mkS n X e)) (dX (mkS m Y f)) 64+(if EH (dX (mkS n X e)) (dX (mkS m Y f)) 64 then 0 else 1)) (jL (dE (mkS n X e)-dE (mkS m Y f)-oW (dX (mkS n X e)) (dX (mkS m Y f)) 64-fV (dX (mkS m Y f)) 64))=qz (dN (mkS n X e)) (dX (mkS n X e)) (dE (mkS n X e)) (dX (mkS m Y f)) (dE (mkS m Y f)) from rfl,he] at hq;exact hq
 · intro v p q _ hm h0 hv hA;obtain⟨k1,k2,k3,k4⟩:=YE h0 0 af;simp only at k1 k2 k3 k4;have F1:=uB k2;have F2:=uB k3;have hs:=Br (dN (mkS n X e)) (dX (mkS n X e)) (dE (mkS n X e)) (dX (mkS m Y f)) (dE (mkS m Y f)) F1.par k4 F1.size F2.size;have rg:=WL (o:=qz (dN (mkS n X e)) (dX (mkS n X e)) (dE (mkS n X e)) (dX (mkS m Y f)) (dE (mkS m Y f))) rfl;have hR:=uo hA (LZ.belows hv) (dN (qz (dN (mkS n X e)) (dX (mkS n X e)) (dE (mkS n X e)) (dX (mkS m Y f)) (dE (mkS m Y f)))) (dE (qz (dN (mkS n X e)) (dX (mkS n X e)) (dE (mkS n X e)) (dX (mkS m Y f)) (dE (mkS m Y f)))) mode af af;rw[aC,JY _ _ _ _ _ hs] at hR;exact hR
def Z7(o:Option (Bool×Nat×Int)):Option (Bool×Nat×Int):=match o with
 | none=>none
 | some (n,X,e)=>mkS (!n) X e
theorem Tq(n:Bool)(X:Nat)(e:Int):Z7 (mkS n X e)=mkS (!n) X e:=by
 by_cases h0:X=0
 · subst h0;rw[gz,gz];rfl
 · cases ho:mkS n X e with
   | none =>
     unfold mkS at ho |-;rw[if_neg h0] at ho |-
     split at ho
     · rename_i h;rw[if_pos h];rfl
     · cases ho
   | some d =>
     unfold mkS at ho |-;rw[if_neg h0] at ho |-
     split at ho
     · cases ho
     · rename_i h
       cases ho
       rw[if_neg h];show mkS (!n) (X/2^lo X) (e+lo X)=_;have hF:tZ n (X/2^lo X) (e+lo X):=di (n:=n) (X:=X) (e:=e) (by unfold mkS;rw[if_neg h0,if_neg h])
       have hF2:tZ (!n) (X/2^lo X) (e+lo X):=⟨by
        rcases hF.odd with q|⟨q,_,_⟩
        · exact .inl q
        · exfalso;obtain⟨k,h2,h3,h4⟩:=gX X h0
          omega,hF.size,hF.up,hF.down⟩
       exact hF2.self
theorem Gz{o:Option (Bool×Nat×Int)}(hs:o.isSome=true):mkS (!(dN o)) (dX o) (dE o)=Z7 o:=by
 cases o with
 | none=>cases hs
 | some d=>rfl
theorem PD(n:Bool)(k Y:Nat)(e:Int):mkS n (2^k*Y) e=mkS n Y (e+k):=by
 induction k generalizing e with
 | zero=>simp
 | succ k ih=>rw[fw,bR (2^k) 2,dH,xY,ih];congr 1;omega
def Iv(o:Option (Bool×Nat×Int))(lo hi:Int):Prop:=∃ n X e,o=some (n,X,e)/\tZ n X e/\(X=0\/(lo<=e/\e+(bl X:Int)<=hi))
theorem Iv.mono{o:Option (Bool×Nat×Int)}{a b c d:Int}(h:Iv o a b)(h1:c<=a)(h2:b<=d):Iv o c d:=by
 obtain⟨n,X,e,h,F,hb⟩:=h;exact⟨n,X,e,h,F,af⟩
theorem DN(n:Bool)(X:Nat)(e a b:Int)(h:X=0\/(a<=e/\e+(bl X:Int)<=b))(hw:b-a<=262144)(ha:-1048576<=a)(hb:b<=1048576):Iv (mkS n X e) a b:=by
 by_cases h0:X=0
 · subst h0;rw[gz];exact⟨false,0,0,rfl,⟨.inr ⟨rfl,rfl,rfl⟩,by rw[eY];omega,af,af⟩,.inl rfl⟩
 · obtain⟨h1,h2⟩:=h.resolve_left h0;obtain⟨k,o1,o2,o3⟩:=gX X h0;have hp:=fH (X/2^lo X) af
   have e1:mkS n X e=some (n,X/2^lo X,e+lo X):=by
    unfold mkS;rw[if_neg h0,if_neg af]
   exact⟨n,_,_,e1,di e1,.inr af⟩
theorem PE(X Y:Nat):bl (X*Y)<=bl X+bl Y:=fO (by rw[aW];exact Ch (iF X) (iF Y))
theorem Iv.mul{o p:Option (Bool×Nat×Int)}{a b c d:Int}(h1:Iv o a b)(h2:Iv p c d)(hw:(b+d)-(a+c)<=262144)(hl:-1048576<=a+c)(hh:b+d<=1048576):Iv (dM o p) (a+c) (b+d):=by
 obtain⟨n,X,e,rfl,F,hx⟩:=h1;obtain⟨m,Y,f,rfl,G,hy⟩:=h2;show Iv (mkS (n != m) (X*Y) (e+f)) _ _;refine DN _ _ _ _ _ ?_ hw hl hh;rcases hx with rfl|hx
 · left;rw[gT]
 · rcases hy with rfl | hy
   · left;rw[nL]
   · right
     have:=PE X Y;omega
theorem PG{X k:Nat}{j:Nat}(h:bl X+k<=j):X*2^k<2^j:=by
 have h1:=iF X;have h2:X*2^k<2^bl X*2^k:=jV h1 (bK k);rw[<-aW] at h2;exact gG h2 (gF aA h)
theorem GA(n m:Bool)(X Y:Nat)(e f a b:Int)(hfe:f<=e)(ha:a<=f)(h1:e+(bl X:Int)<=b)(h2:f+(bl Y:Int)<=b)(hw:b+1-a<=262144)(hl:-1048576<=a)(hh:b+1<=1048576)(hX:X≠0):Iv (nP n X e m Y f) a (b+1):=by
 have hp:=fH X hX;unfold nP;rw[if_neg af];obtain⟨j,hj⟩:∃ j:Nat,(j:Int)=b-f:=⟨(b-f).toNat,af⟩;have b1:X*2^(e-f).toNat<2^j:=PG af;have b2:Y<2^j:=gG (iF Y) (gF aA af)
 have fin:∀ (s:Bool) (Z:Nat),Z<2^(j+1)->Iv (mkS s Z f) a (b+1):=by
  intro s Z hZ;refine DN s Z f a (b+1) ?_ hw hl hh
  by_cases h0:Z=0
  · exact .inl h0
  · right
    have:=fO hZ;omega
 have b3:(2:Nat)^(j+1)=2*2^j:=by rw[fw,bR]
 split
 · exact fin _ _ af
 · split
   · exact fin _ _ af
   · exact fin _ _ af
theorem Iv.add{o p:Option (Bool×Nat×Int)}{a b:Int}(h1:Iv o a b)(h2:Iv p a b)(hw:b+1-a<=262144)(hl:-1048576<=a)(hh:b+1<=1048576):Iv (iO o p) a (b+1):=by
 have h1':=h1;have h2':=h2;obtain⟨n,X,e,rfl,F,hx⟩:=h1;obtain⟨m,Y,f,rfl,G,hy⟩:=h2;show Iv (wu (n,X,e) (m,Y,f)) a (b+1);unfold wu;simp only
 by_cases hX:X=0
 · rw[if_pos hX];exact h2'.mono af af
 · rw[if_neg hX]
   by_cases hY:Y=0
   · rw[if_pos hY];exact h1'.mono af af
   · rw[if_neg hY];have ex:=hx.resolve_left hX;have ey:=hy.resolve_left hY
     split
     · exact GA m n Y X f e a b af ex.1 ey.2 ex.2 hw hl hh hY
     · exact GA n m X Y e f a b af ey.1 ex.2 ey.2 hw hl hh hX
def uC(o:Option (Bool×Nat×Int)):Int:=zv (-1048576) (dN o,dX o,dE o)
theorem fvO{o:Option (Bool×Nat×Int)}{n:Bool}{X:Nat}{e:Int}(h:mkS n X e=o)(hs:o.isSome=true):Fv (-1048576) o (uC o):=by
 cases o with
 | none=>cases hs
 | some d=>obtain⟨n1,X1,e1⟩:=d;exact⟨n1,X1,e1,rfl,di h,rfl⟩
theorem Fv.Tt{o:Option (Bool×Nat×Int)}{B z:Int}(h:Fv B o z):dX o=0↔z=0:=by
 obtain⟨n,X,e,rfl,F,rfl⟩:=h.ex;constructor
 · intro h0;exact qf B h0
 · intro h0;show X=0;rcases rO X with q|q
   · exact q
   · exfalso;have:=nW q (bK (e-B).toNat);unfold zv nQ at h0
     cases n <;> simp only[dY,if_false,if_true] at h0 <;> omega
theorem Fv.WM{o:Option (Bool×Nat×Int)}{B z:Int}(h:Fv B o z):dN o=true↔z<0:=by
 obtain⟨n,X,e,rfl,F,rfl⟩:=h.ex;show n=true↔_;rcases F.odd with q|⟨rfl,rfl,rfl⟩
 · have:=nW (show 0<X by omega) (bK (e-B).toNat);unfold zv nQ
   cases n <;> simp only[dY,if_false,if_true,false_iff,true_iff] <;> omega
 · simp[zv]
theorem Fv.DI{o:Option (Bool×Nat×Int)}{B z:Int}(h:Fv B o z):mkS (dN o) (dX o) (dE o)=o:=by
 obtain⟨n,X,e,rfl,F,rfl⟩:=h.ex;exact F.self
theorem Fv.len{o:Option (Bool×Nat×Int)}{B z:Int}(h:Fv B o z):(ws (dX o)).length<=8192:=by
 obtain⟨n,X,e,rfl,F,_⟩:=h.ex;exact iT F
def Fm(o:Option (Bool×Nat×Int)):Prop:=∃ B x,Fv B o x
theorem Fm.len{o:Option (Bool×Nat×Int)}(h:Fm o):(ws (dX o)).length<=8192:=by obtain⟨B,x,h⟩:=h;exact h.len
theorem Fm.re{o:Option (Bool×Nat×Int)}(h:Fm o):mkS (dN o) (dX o) (dE o)=o:=by obtain⟨B,x,h⟩:=h;exact h.DI
theorem Fm.o7{o:Option (Bool×Nat×Int)}(h:Fm o):-9223372036854775808<=dE o/\dE o<=9223372036854775807:=by
 obtain⟨B,x,h⟩:=h;obtain⟨n,X,e,rfl,F,_⟩:=h.ex;have:=F.up;have:=F.down;show -9223372036854775808<=e/\e<=9223372036854775807;omega
def noW(x:Nat):Bool:=aP x==0
theorem DT:vK 0=0:=by
 have:=jS 0 0 (.inl rfl) af;simpa using this
theorem fv_no{x:Nat}(h:noW x=true):qW x=0:=by
 have e:aP x=0:=by simpa [noW] using h
 unfold qW;rw[e,DT]
 cases fM x <;> rfl
def Z8(V:Int):Option (Bool×Nat×Int):=mkS (decide (V<0)) V.natAbs (-1074)
theorem Qaz{P:Prop}(h:P:=by
 unfold nQ
 by_cases h:V<0
 · rw[decide_eq_true h,if_pos rfl];omega
 · rw[decide_eq_false h,if_neg aA];omega):P:=h
theorem WO(V:Int):nQ (decide (V<0))*(V.natAbs:Int)=V:=by
 exact Qaz
theorem Z9(V:Int)(m:Nat)(hm:m<=200000)(hV:V.natAbs<2^m):Fo (Z8 V) (V*(UU:Int)) (-1074) ((m:Int)-1074):=by
 by_cases h0:V=0
 · subst h0;refine⟨⟨false,0,0,?_,?_,?_,.inl rfl⟩⟩
   · unfold Z8;exact gz _ _
   · exact di (gz false 0)
   · rw[qf _ rfl];simp
 · obtain⟨X,e,h1,h2,h3,h4⟩:=ZT (decide (V<0)) V.natAbs (-1074) (-1074) ((m:Int)-1074) af af (by have:=blLe hV;omega) af af af;refine⟨⟨_,X,e,h1,di h1,?_,.inr ⟨h3,h4⟩⟩⟩;rw[ma h1 (-2097152) (.inr af)];have e1:(2:Nat)^((-1074:Int) - -2097152).toNat=UU*SS:=US _ aA;rw[e1,dU,dU,<-kC,WO,kC]
theorem WQ{o:Option (Bool×Nat×Int)}{V L H:Int}(h:Fo o (V*(UU:Int)) L H)(m:Nat)(hm:m<=200000)(hV:V.natAbs<2^m):o=Z8 V:=by
 obtain⟨n,X,e,rfl,F1,z1,_⟩:=h.ex;obtain⟨n',X',e',h2,F2,z2,_⟩:=(Z9 V m hm hV).ex;rw[h2];obtain⟨rfl,rfl,rfl⟩:=SX F1 F2 (-2097152) af (by rw[z1,z2]);rfl
theorem JZ{x:Nat}(hx:Wd x)(fx:iY x)(m:Nat)(hm:m=2098):(qW x).natAbs<2^m:=by
 unfold qW;rw[Td];have:=Tc (aP x) fx 2045 rfl;obtain⟨a,ha⟩:∃ a,a=2045:=⟨_,rfl⟩;have h2:=Tc (aP x) fx a ha;rw[show m=53+a by omega,aW];exact h2
theorem aaa{x:Nat}(hx:Wd x)(fx:iY x):ofK (fM x) (aP x)=Z8 (qW x):=by
 obtain⟨n,X,e,h1,h2,_⟩:=of_fo (fM x) (aP x) fx;rw[h1];exact WQ h2 2098 af (JZ hx fx 2098 rfl)
theorem WR(x:Nat)(hx:Wd x/\iY x)(w:World)(hT:bO w) :
 Calls Tryz.prog 137 #[.float .f64 x] w fun r w'=>(∃ v,r=.returned (.tuple #[.agg #[.bool (dN (Z8 (qW x))),v,.int .i64 (dE (Z8 (qW x)))],.int .i64 0])/\Nt w.heap.size w' v (dX (Z8 (qW x))))/\Below w.heap.size w w':=by
 obtain⟨h1,h2,h3,_⟩:=Wu (fM x) (aP x) (nV hx.2);have:=RX (fM x) (aP x/4503599627370496) (aP x%4503599627370496) h2 h3 w hT;rw[<-h1,<-wd_of x hx.1] at this;refine this.mono ?_;rintro r w' ⟨⟨v,rfl,hN⟩,hb⟩;have e:=aaa hx.1 hx.2;unfold ofK at e;rw[e] at hN |-;have he:ofE (aP x/4503599627370496)=0:=by unfold ofE;rw[if_neg (by have:=hx.2;omega)]
 rw[he];exact⟨⟨v,rfl,hN⟩,hb⟩
end
section
open Go.RowKit J
theorem uD(g:Nat)(w:World)(x y z:Value):But g w (dx w g x y z):=(((But.refl g w).set _ _).set _ _).set _ _
def Lo(w:World)(g:Nat)(o:Option (Bool×Nat×Int)):Prop:=∃ a c,Dk w g (dN o) (.slice a (ws (dX o)).length c) (dE o)/\Nt 0 w (.slice a (ws (dX o)).length c) (dX o)
theorem Lo.below{w w':World}{g:Nat}{o:Option (Bool×Nat×Int)}(h:Lo w g o)(hb:Below w.heap.size w w'):Lo w' g o:=by
 obtain⟨a,c,h1,h2⟩:=h;exact⟨a,c,h1.below hb,h2.below hb⟩
theorem Lo.lt{w:World}{g:Nat}{o:Option (Bool×Nat×Int)}(h:Lo w g o):g<w.heap.size:=by
 obtain⟨a,c,h1,h2⟩:=h;exact h1.lt
theorem Nt.Mm{lo g:Nat}{w:World}{v:Value}{X:Nat}{n:Bool}{a:Option Addr}{l c:Nat}{e:Int}(h:Nt lo w v X)(D:Dk w g n (.slice a l c) e)(x y z:Value):Nt lo (dx w g x y z) v X:=by
 refine h.off (uD g w x y z) ?_;rcases h.2 with ⟨rfl,_⟩|⟨g',cap,cur,rfl,_,hg,_⟩
 · simp[Value.ownBlock]
 · intro e';obtain rfl:g'=g:=by simpa [Value.ownBlock] using e'
   rw[show w.heap[g']?=_ from D] at hg;simp at hg
theorem Lo.set{w:World}{g:Nat}{o p:Option (Bool×Nat×Int)}(h:Lo w g o){a:Option Addr}{c:Nat}(hN:Nt 0 w (.slice a (ws (dX p)).length c) (dX p)) :
 Lo (dx w g (.bool (dN p)) (.slice a (ws (dX p)).length c) (.int .i64 (dE p))) g p:=by
 obtain⟨a0,c0,h1,h2⟩:=h;exact⟨a,c,h1.set _ _ _,hN.Mm h1 _ _ _⟩
theorem Lo.other{w:World}{g g':Nat}{o p:Option (Bool×Nat×Int)}(h:Lo w g o)(h':Lo w g' p)(hg:g≠g')(x y z:Value):Lo (dx w g' x y z) g o:=by
 obtain⟨a,c,h1,h2⟩:=h;obtain⟨a0,c0,k1,k2⟩:=h';exact⟨a,c,h1.other _ hg _ _ _,h2.Mm k1 _ _ _⟩
theorem Lo.new{w:World}{o:Option (Bool×Nat×Int)}{a:Option Addr}{c:Nat}(hN:Nt 0 w (.slice a (ws (dX o)).length c) (dX o)):Lo (w.alloc (Obj.cells #[.bool (dN o),.slice a (ws (dX o)).length c,.int .i64 (dE o)] 77)) w.heap.size o :=
 ⟨a,c,Dk.new _ _ _ _,hN.below (ag _ _)⟩
abbrev dz:Option (Bool×Nat×Int):=some (false,0,0)
theorem Bt:(ws (dX dz)).length=0:=by simp[dX,bB]
theorem Lo.zero(w:World):Lo (w.alloc (Obj.cells #[.bool false,.slice none 0 0,.int .i64 0] 77)) w.heap.size dz:=by
 refine⟨none,0,?_,?_⟩
 · rw[Bt];exact Dk.new _ _ _ _
 · rw[Bt];exact Nt.nil _ _
theorem Fm.er{o:Option (Bool×Nat×Int)}(h:Fm o):qx o=0:=by
 obtain⟨B,x,h⟩:=h;obtain⟨n,X,e,rfl,_⟩:=h.ex;rfl
theorem Fm.a12{o:Option (Bool×Nat×Int)}{w:World}{a:Option Addr}{c:Nat}(F:Fm o)(N:Nt 0 w (.slice a (ws (dX o)).length c) (dX o)):Arg w a (ws (dX o)).length c (ws (dX o)):=(N.cB (aV F.len aA)).2
theorem Tu{U:World}{a b:Option Addr}{c d:Nat}{o p q:Option (Bool×Nat×Int)}(F:Fm o)(G:Fm p)(N1:Nt 0 U (.slice a (ws (dX o)).length c) (dX o))(N2:Nt 0 U (.slice b (ws (dX p)).length d) (dX p))(hT:bO U)(h:dM o p=q)(H:Fm q) :
 Calls Tryz.prog 194 #[.agg #[.bool (dN o),.slice a (ws (dX o)).length c,.int .i64 (dE o)],.agg #[.bool (dN p),.slice b (ws (dX p)).length d,.int .i64 (dE p)]] U fun r w'=>(∃ v,r=.returned (.tuple #[.agg #[.bool (dN q),v,.int .i64 (dE q)],.int .i64 0])/\Nt U.heap.size w' v (dX q))/\Below U.heap.size U w':=by
 have:=yu (F.a12 N1) (G.a12 N2) hT (dN o) (dN p) (dE o) (dE p) F.o7.1 F.o7.2 G.o7.1 G.o7.2;rw[aC,aC,F.re,G.re,h] at this;unfold dh at this;rw[H.er] at this;exact this
theorem Mo{U:World}{a b:Option Addr}{c d:Nat}{o p q:Option (Bool×Nat×Int)}(F:Fm o)(G:Fm p)(N1:Nt 0 U (.slice a (ws (dX o)).length c) (dX o))(N2:Nt 0 U (.slice b (ws (dX p)).length d) (dX p))(hT:bO U)(h:iO o p=q)(H:Fm q) :
 Calls Tryz.prog 101 #[.agg #[.bool (dN o),.slice a (ws (dX o)).length c,.int .i64 (dE o)],.agg #[.bool (dN p),.slice b (ws (dX p)).length d,.int .i64 (dE p)]] U fun r w'=>(∃ v,r=.returned (.tuple #[.agg #[.bool (dN q),v,.int .i64 (dE q)],.int .i64 0])/\Nt U.heap.size w' v (dX q))/\Below U.heap.size U w':=by
 have:=F8 (F.a12 N1) (G.a12 N2) hT (dN o) (dN p) (dE o) (dE p) F.o7.1 F.o7.2 G.o7.1 G.o7.2;rw[aC,aC,F.re,G.re,h] at this;unfold dh at this;rw[H.er] at this;exact this
theorem Lo.shape{w:World}{lo:Nat}{v:Value}{q:Option (Bool×Nat×Int)}(H:Fm q)(h:Nt lo w v (dX q)):∃ a c,v=.slice a (ws (dX q)).length c/\Nt 0 w v (dX q):=by
 obtain⟨a,c,rfl,_⟩:=h.arg (aV H.len aA);exact⟨a,c,rfl,h.mono (jd _)⟩
end
section
open Go.RowKit
theorem aab{n:Bool}{X:Nat}{e:Int}(F:tZ n X e)(B:Int):Fv B (some (n,X,e)) (zv B (n,X,e)):=⟨n,X,e,rfl,F,rfl⟩
theorem Iv.fm{o:Option (Bool×Nat×Int)}{a b:Int}(h:Iv o a b):Fm o:=by
 obtain⟨n,X,e,rfl,F,_⟩:=h;exact⟨0,_,aab F 0⟩
theorem aac{o:Option (Bool×Nat×Int)}{B x:Int}(h:Fv B o x)(hB:B<=-1048576)(D:Int)(hD:D<=0):Fv (B+D) o (x*((2^(0-D).toNat:Nat):Int)):=by
 obtain⟨n',X',e',hx,F',hz⟩:=h.ex;refine⟨n',X',e',hx,F',?_⟩;rw[<-hz];unfold zv;simp only;rw[kC,<-dU,dH,<-aW];have:=F'.down;rw[show(e'-(B+D)).toNat=(e'-B).toNat+(0-D).toNat by omega]
end
section
open Go.RowKit J
def EK:Nat:=1048576
theorem exP(a:Nat):∃ u:Nat,u=2^a:=⟨_,rfl⟩
noncomputable def MM:Nat:=Classical.choose (exP EK)
theorem aad:MM=2^EK:=IZ (exP EK)
theorem M_pos:0<MM:=by rw[aad];exact bK _
theorem Fm.sm{o:Option (Bool×Nat×Int)}(h:Fm o):o.isSome=true:=by
 obtain⟨B,x,h⟩:=h;obtain⟨n,X,e,rfl,_⟩:=h.ex;rfl
theorem Fm.val{o:Option (Bool×Nat×Int)}(h:Fm o):Fv (-1048576) o (uC o):=fvO h.re h.sm
theorem Fv.uniq{B x y:Int}{o:Option (Bool×Nat×Int)}(h1:Fv B o x)(h2:Fv B o y):x=y:=by
 obtain⟨n,X,e,ho,_,hz⟩:=h1.ex;obtain⟨n',X',e',ho',_,hz'⟩:=h2.ex;rw[ho] at ho'
 cases ho'
 exact hz.symm.trans hz'
theorem val_mul{o p:Option (Bool×Nat×Int)}(F:Fm o)(G:Fm p)(H:Fm (dM o p)):uC (dM o p)*(MM:Int)=uC o*uC p:=by
 have h1:=Fv.mul aA aA F.val G.val H.sm;have h2:=aac H.val aA (-1048576) aA;rw[show((0:Int) - -1048576).toNat=EK from rfl,<-aad] at h2;exact(h1.uniq h2).symm
theorem val_add{o p:Option (Bool×Nat×Int)}(F:Fm o)(G:Fm p)(H:Fm (iO o p)):uC (iO o p)=uC o+uC p :=
 H.val.uniq (Fv.add aA F.val G.val H.sm)
theorem yH{o p:Option (Bool×Nat×Int)}(F:Fm o)(G:Fm p)(h:uC o=uC p):o=p:=by
 obtain⟨h1,h2,h3⟩:=Fv.same aA F.val G.val h;obtain⟨n,X,e,rfl,_⟩:=F.val.ex;obtain⟨m,Y,f,rfl,_⟩:=G.val.ex;have h1:n=m:=h1;have h2:X=Y:=h2;have h3:e=f:=h3;rw[h1,h2,h3]
theorem val_mk{n:Bool}{X:Nat}{e:Int}(h:Fm (mkS n X e))(he:-1048576<=e)(k:Nat)(hk:(e+1048576).toNat=k):uC (mkS n X e)=nQ n*((X*2^k:Nat):Int):=by
 obtain⟨⟨n',Y,f⟩,ho⟩:=xA.1 h.sm;have:=ma ho (-1048576) (.inr he);rw[show(e - -1048576).toNat=k by rw[<-hk];congr 1] at this;rw[<-this,ho];rfl
theorem J4(V:Int)(K:Nat):nQ (decide (V<0))*((V.natAbs*K:Nat):Int)=V*(K:Int):=by
 rw[dU,<-kC];congr 1;exact Qaz
theorem YF(V:Int)(m:Nat)(hm:m<=100000)(hV:V.natAbs<2^m):Iv (mi V) (-2148) ((m:Int)-2148):=by
 unfold mi;refine DN _ _ _ _ _ (.inr ⟨af,?_⟩) af af af;have:=fO hV;omega
theorem YG(V:Int)(m:Nat)(hm:m<=100000)(hV:V.natAbs<2^m):Fm (mi V):=(YF V m hm hV).fm
theorem WS:mi 0=dz:=gz _ _
def Bd(m:Nat)(V:Int):Prop:=V.natAbs<=2^m
theorem Bd.mono{m k:Nat}{V:Int}(h:Bd m V)(hk:m<=k):Bd k V:=aV h (gF aA hk)
theorem Bd.lt{m:Nat}{V:Int}(h:Bd m V):V.natAbs<2^(m+1):=by
 unfold Bd at h;rw[fw];have:=bK m;omega
theorem Bd.mul{a b:Nat}{V W:Int}(h:Bd a V)(k:Bd b W):Bd (a+b) (V*W):=by
 unfold Bd at *;rw[Int.natAbs_mul,aW];exact mo h k
theorem Bd.add{m:Nat}{V W:Int}(h:Bd m V)(k:Bd m W):Bd (m+1) (V+W):=by
 unfold Bd at *;rw[fw];omega
theorem Bd.neg{m:Nat}{V:Int}(h:Bd m V):Bd m (-V):=by
 unfold Bd at *;rw[Int.natAbs_neg];exact h
theorem Bd.sub{m:Nat}{V W:Int}(h:Bd m V)(k:Bd m W):Bd (m+1) (V-W):=by
 rw[Int.sub_eq_add_neg];exact h.add k.neg
theorem Bd.zero(m:Nat):Bd m 0:=jd _
theorem Bd.nat{n k:Nat}(h:n<=2^k):Bd k (n:Int):=h
def gV(u:Nat)(V:Int):Option (Bool×Nat×Int):=mkS (decide (V<0)) V.natAbs (-(u:Int))
theorem PH{u m:Nat}{V:Int}(hu:u<=100000)(hm:m<=99999)(hV:Bd m V):Iv (gV u V) (-(u:Int)) (((m+1:Nat):Int)-(u:Int)):=by
 unfold gV;refine DN _ _ _ _ _ (.inr ⟨af,?_⟩) af af af;have:=fO hV.lt;omega
theorem cu{u m:Nat}{V:Int}(hu:u<=100000)(hm:m<=99999)(hV:Bd m V):Fm (gV u V):=(PH hu hm hV).fm
theorem qH{u:Nat}{V:Int}(h:Fm (gV u V))(hu:u<=1000000)(k:Nat)(hk:k+u=EK):uC (gV u V)=V*((2^k:Nat):Int):=by
 unfold gV at h |-;rw[val_mk h af k (by unfold EK at hk;omega),J4]
theorem YH(u:Nat)(hu:u<=1000000):∃ k,k+u=EK:=⟨EK-u,by unfold EK;omega⟩
theorem sI{u v a b:Nat}{V W:Int}(hu:u<=50000)(hv:v<=50000)(ha:a<=40000)(hb:b<=40000)(h1:Bd a V)(h2:Bd b W):dM (gV u V) (gV v W)=gV (u+v) (V*W):=by
 have F:=PH (u:=u) af af h1;have G:=PH (u:=v) af af h2;have hF:=(F.mul G af af af).fm;have hG:=cu (u:=u+v) af af (h1.mul h2);refine yH hF hG ?_;obtain⟨k1,e1⟩:=YH u af;obtain⟨k2,e2⟩:=YH v af;obtain⟨k3,e3⟩:=YH (u+v) af;have h:=val_mul F.fm G.fm hF;rw[qH F.fm af k1 e1,qH G.fm af k2 e2] at h;rw[qH hG af k3 e3];have hM:=M_pos;refine Int.eq_of_mul_eq_mul_right (a:=(MM:Int)) af (h.trans ?_)
 have e:((2^k1:Nat):Int)*((2^k2:Nat):Int)=((2^k3:Nat):Int)*(MM:Int):=by
  rw[<-dU,<-dU,aad,<-aW,<-aW,show k1+k2=k3+EK by omega]
 rw[kC (V*W),<-e,kC,kC,Int.mul_left_comm W]
theorem yI{u m:Nat}{V W:Int}(hu:u<=100000)(hm:m<=90000)(h1:Bd m V)(h2:Bd m W):iO (gV u V) (gV u W)=gV u (V+W):=by
 have F:=PH (u:=u) af af h1;have G:=PH (u:=u) af af h2;have hF:=(F.add G af af af).fm;have hG:=cu (u:=u) af af (h1.add h2);refine yH hF hG ?_;obtain⟨k1,e1⟩:=YH u af;rw[val_add F.fm G.fm hF,qH F.fm af k1 e1,qH G.fm af k1 e1,qH hG af k1 e1,Int.add_mul]
theorem g_neg(u:Nat)(W:Int):Z7 (gV u W)=gV u (-W):=by
 unfold gV;rw[Tq,Int.natAbs_neg]
 by_cases h:W=0
 · subst h;rw[Int.natAbs_zero,gz,gz]
 · congr 1
   by_cases h1:W<0
   · rw[decide_eq_true h1,decide_eq_false af];rfl
   · rw[decide_eq_false h1,decide_eq_true af];rfl
theorem YI{u m:Nat}{V W:Int}(hu:u<=100000)(hm:m<=90000)(h1:Bd m V)(h2:Bd m W):iO (gV u V) (mkS (!dN (gV u W)) (dX (gV u W)) (dE (gV u W)))=gV u (V-W):=by
 rw[Gz (cu (u:=u) af af h2).sm,g_neg,yI hu hm h1 h2.neg,<-Int.sub_eq_add_neg]
theorem yJ(u:Nat):gV u 0=dz:=gz _ _
theorem q9{u m:Nat}{V:Int}(hu:u<=100000)(hm:m<=90000)(h:Bd m V):(dX (gV u V)=0↔V=0)/\(dN (gV u V)=true↔V<0):=by
 have F:=cu (u:=u) hu af h;obtain⟨k,e⟩:=YH u af;have hv:=F.val;rw[qH F af k e] at hv;have hp:(0:Int)<((2^k:Nat):Int):=by have:=bK k;omega
 refine⟨hv.Tt.trans ?_,hv.WM.trans ?_⟩
 · constructor
   · intro q;rcases Int.mul_eq_zero.1 q with q|q
     · exact q
     · omega
   · rintro rfl;rw[Int.zero_mul]
 · constructor
   · intro q;rcases Int.lt_or_le V 0 with r|r
     · exact r
     · have:=Int.mul_nonneg r (Int.le_of_lt hp);omega
   · intro q;exact Int.mul_neg_of_neg_of_pos q hp
def tS(f:Nat->Int):Nat->Int
 | 0=>0
 | n+1=>tS f n+f n
theorem YJ{f:Nat->Int}{m:Nat}:∀ {n:Nat},(∀ i,i<n->Bd m (f i))->(tS f n).natAbs<=n*2^m
 | 0,_=>by simp[tS]
 | n+1,h=>by
   have h1:=YJ (n:=n) fun i hi=>h i af;have h2:=h n af;unfold Bd at h2;show(tS f n+f n).natAbs<=_;rw[xB];omega
theorem YK{f:Nat->Int}{m n:Nat}(h:∀ i,i<n->Bd m (f i))(hn:n<=65536)(k:Nat)(hk:k<=n):Bd (m+16) (tS f k):=by
 have h1:=YJ (n:=k) fun i hi=>h i af;have h2:k*2^m<=65536*2^m:=dF _ af;unfold Bd;rw[aW,bR (2^m)];exact aV h1 h2
theorem Mq{x:Nat}(hx:x<18446744073709551616)(fx:iY x):Bd 2098 (qW x):=by
 obtain⟨m,hm⟩:∃ m,m=2098:=⟨_,rfl⟩;have h:Bd m (qW x):=nV (JZ hx fx m hm);rw[hm] at h;exact h
attribute [irreducible] Bd
def exR(xs:List Nat)(mode a b:Int):Nat×Int:=if mode<0\/4<mode\/may a b=false then(0,1) else if 65536<xs.length then(0,2) else JN (vS xs) (sS xs) mode a b
end
end Go.Proofs.YtaejmlkaefnbhaaGreatDoor
