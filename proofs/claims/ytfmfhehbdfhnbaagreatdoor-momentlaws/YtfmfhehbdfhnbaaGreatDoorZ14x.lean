import Derived.Test.YtfmfhehbdfhnbaaGreatDoorZ7x
import Derived.Test.YtfmfhehbdfhnbaaGreatDoorJ11x
import Derived.Test.YtfmfhehbdfhnbaaGreatDoorD20x
import Derived.Deep.Cut
import Derived.Test.YtfmfhehbdfhnbaaGreatDoorW50x
import Derived.Test.YtfmfhehbdfhnbaaGreatDoorBIeeex
import Derived.Laws.FloatArith
import Derived.Test.YtfmfhehbdfhnbaaGreatDoorD39x
import Derived.Test.YtfmfhehbdfhnbaaGreatDoorZ1x
import Derived.Deep.RegionHeld3
import Derived.Test.YtfmfhehbdfhnbaaGreatDoorW25x
import Derived.Test.YtfmfhehbdfhnbaaGreatDoorD32cx
import Derived.Test.YtfmfhehbdfhnbaaGreatDoorD8x
import Derived.BigQuiet
import Derived.Deep.CutRange
import Derived.ProofKit
import Derived.OpenShut
import Derived.ChangeOld
import Derived.SizedLaws
import Derived.ChangeArms
import Derived.KernelRfl
import Derived.ArgAppend
import Derived.Maps.AppendAt
import Derived.WalkMore
import Derived.OwnWalk
import Derived.Test.YtfmfhehbdfhnbaaGreatDoorD15x
import Derived.Deep.RegionWith
import Derived.ChangeKeysEq
import Derived.Laws.OwnMore
import Derived.Lib.SliceRun
import Derived.Deep.RegionHeld
import Derived.Test.YtfmfhehbdfhnbaaGreatDoorM7x
import Derived.Test.YtfmfhehbdfhnbaaGreatDoorD30x
import Derived.RangeFuncNested
import Derived.RangeFuncBound
import Derived.RangeFuncCalls
import Derived.RangeFuncLeaves
import Derived.RangeFuncBox
import Derived.Shelf.Abstract
import Derived.Shelf.RegionOpen
import Derived.WalkKit
import Derived.OwnWalkIn
import Derived.TacticsInMore
import Derived.LoopNIn
import Derived.LoopIn
set_option linter.unusedVariables false
set_option linter.unusedSimpArgs false
set_option maxHeartbeats 16000000
set_option maxRecDepth 20000
namespace Go.Proofs.YtfmfhehbdfhnbaaGreatDoor
namespace J
end J
section
open Go.RowKit
theorem rq(w:World)(n:Bool)(v:Value)(e:Int)(m:Bool)(u:Value)(f:Int)(W:World)(hW:W=w.alloc (.cells #[.bool n,v,.int .i64 e,.bool m,u,.int .i64 f] 58)) :
 Below w.heap.size w W/\W.heap.size=w.heap.size+1/\Rq W w.heap.size n v e m u f:=by
 rw[hW];exact⟨af w _,aQ,Rq.new _ _ _ _ _ _ _⟩
theorem zc{P:Prop}(h:P:=by
 by_cases hm0:mode<0
 · have d1:=decide_eq_true hm0;go_enter Tryz.func58,Tryz.ntmps58
   go_upto_region 1 with fail
   rw[<-hW1];clear hW1;go_wp2
   go_ret2
   exact⟨rfl,S0.o⟩
 · have d1:=decide_eq_false hm0;have sU:4<mode:=ae
   have d2:=decide_eq_true sU;clear hm;go_enter Tryz.func58,Tryz.ntmps58
   go_upto_region 1 with fail
   rw[<-hW1];clear hW1;go_wp2
   go_ret2
   exact⟨rfl,S0.o⟩):P:=h
theorem ZS{P:Prop}(h:P:=by
 have HF:=hid (RX R W1.heap.size _ hin);obtain⟨I,hI⟩:∃ I:Nat->Ri,(fun _=>(⟨n,.slice a la ca,X,e,m,.slice b lb cb,Y,f⟩:Ri))=I:=⟨_,rfl⟩;rw[hI] at HF hANS HW HR;obtain⟨x0,x1,x2,x3,x4,x5⟩:=Q1.facts;have Wq:=aA hANS;have S0:=(ic (hB.trans (hbR.mono hB.size)) hI ho1 ho2);have d1:decide (mode<0)=false:=decide_eq_false (fun h=>hm (.inl h));have d2:decide (4<mode)=false:=decide_eq_false (fun h=>hm (.inr h));have HM:=aA hm;obtain⟨g12,pF⟩:∃ g,W1.heap.size=g:=⟨_,rfl⟩;rw[pF] at HF;clear hB hz1 Q1 hin hbR hr hT hANS hI ho1 ho2 hm;go_enter Tryz.func58,Tryz.ntmps58
 go_upto_region 1 with fail
 rw[<-hW1];clear hW1;go_wp2_with fail;rw[<-hR];clear hR pF x0 x1 x2 x3 x4 x5;refine HF.o.mono ?_;rintro r u1 ⟨hor,hb⟩;clear HF;obtain⟨aB,hI,ho1,ho2⟩:=S0.o;have S1:=aA (aB.trans (hb.mono aB.size));rcases hor with ⟨hne,rfl⟩|⟨h0,g',V,rfl,hO⟩
 · have HA2:=Wq.o;rw[if_neg hne] at HA2;obtain⟨er,her⟩:∃ er,j6 I 1=er:=⟨_,rfl⟩;rw[her] at hne HA2 |-;have HA3:=aA HA2;have hnb:(er==0)=false:=by simp[hne]
   clear Wq HA2 her hne aB hb hI ho1 ho2 S0 HW HR;go_wp2
   go_ret2
   rw[HA3.o];exact⟨rfl,S1.o⟩
 · have HA2:=Wq.o;rw[if_pos h0] at HA2;obtain⟨q0,q1,q2,q3,q4,q5⟩:=hO.row.facts 0 ae;obtain⟨N1,N2⟩:=hO.nts 0 ae;simp only[dL,eP] at q0 q1 q2 q3 q4 q5;unfold xm at q0 q1 q2 q3 q4 q5;have e0:I 0=⟨n,.slice a la ca,X,e,m,.slice b lb cb,Y,f⟩:=by rw[<-hI]
   rw[e0] at N1 N2;simp only[e0] at q0 q1 q2 q3 q4 q5 N1 N2;have m1:=aR n X e;have m2:=aR m Y f;rw[ho1] at q0 q2 N1 m1;rw[ho2] at q3 q5 N2 m2;obtain⟨v1,hv1⟩:∃ v1,(V 0).1=v1:=⟨_,rfl⟩;obtain⟨v2,hv2⟩:∃ v1,(V 0).2=v1:=⟨_,rfl⟩;rw[hv1] at q1 N1;rw[hv2] at q4 N2;obtain⟨a1,c1,rfl,_⟩:=N1.arg ae;obtain⟨a2,c2,rfl,_⟩:=N2.arg ae;have HC:=hid (HW.o u1 _ _ (aB.trans (hb.mono aB.size)) (N1.mono (by have:=aB.size;omega)) (N2.mono (by have:=aB.size;omega)) h0);have S2:=(aP h0 HA2);clear Wq HA2 aB hb hI ho1 ho2 S0 hO N1 N2 HW h0 hv1 hv2 e0;go_wp2_with fail;clear q0 q1 q2 q3 q4 q5;refine HC.o.mono ?_;rintro r u2 ⟨⟨v,rfl,NZ⟩,hb⟩;obtain⟨az,cz,rfl,_⟩:=NZ.arg ae;clear HC;obtain⟨U3,Ao⟩:=ah (u2.alloc (.cells #[.bool (dN z),.slice az (ws (dX z)).length cz,.int .i64 (dE z)] 25));have jB:Below u2.heap.size u2 U3:=by rw[Ao];exact af _ _
   have bb:=S1.o.trans (hb.mono S1.o.size);have bc:=bb.trans (jB.mono bb.size)
   by_cases zC:ew=0
   · have TZ:Tk U3 u2.heap.size 25 (.bool (dN z)) (.slice az (ws (dX z)).length cz) (.int .i64 (dE z)):=by rw[Ao];exact Tk.new _ _ _ _ _
     have HD:=hid (HR.o U3 az cz zC HM.o S2.o.1 bc ((NZ.below jB).aY ae).2);obtain⟨x0,x1,x2,_,_,_⟩:=TZ.facts;have S3:=(aP bc S2.o.2);clear bb bc hb jB NZ TZ S1 S2 HR HM Zx;subst zC
     go_upto_region 7 with fail
     rw[<-Ao];clear Ao;go_wp2_with fail;refine HD.o.mono ?_;rintro r u3 ⟨rfl,hb⟩;have S4:=aA (S3.o.1.trans (hb.mono S3.o.1.size));clear hb HD x0 x1 x2;go_wp2
     go_ret2
     rw[S3.o.2];exact⟨rfl,S4.o⟩
   · have hnb:(ew==0)=false:=by simp[zC]
     have hA:ANS=(0,ew):=by
      rw[S2.o.2];have:=Zx zC;rw[<-this.1,<-this.2]
     have S3:=(aP bc hA);clear bb bc hb jB NZ S1 S2 HR HM Zx hA zC
     go_upto_region 7 with fail
     rw[<-Ao];clear Ao;go_wp2
     go_ret2
     rw[S3.o.2];exact⟨rfl,S3.o.1⟩):P:=h
theorem sJ {w:World}{n m:Bool}{a b:Option Addr}{la ca lb cb:Nat}{X Y:Nat}{e f:Int}(mode:Int) (hr:Rv w ⟨n,.slice a la ca,X,e,m,.slice b lb cb,Y,f⟩) (hT:dU w)
 (o1 o2 z:Option (Bool×Nat×Int)) (ew:Int) (rw':Nat×Int) (ho1:mkS n X e=o1) (ho2:mkS m Y f=o2) (lz:(ws (dX z)).length<=8192) (Zx:ew≠0->rw'.1=0/\rw'.2=ew)
 (ANS:Nat×Int) (hANS:ANS=if mode<0\/4<mode then(0,1) else if j6 (fun _=>(⟨n,.slice a la ca,X,e,m,.slice b lb cb,Y,f⟩:Ri)) 1=0 then rw' else(0,j6 (fun _=>(⟨n,.slice a la ca,X,e,m,.slice b lb cb,Y,f⟩:Ri)) 1))
 (HW:Hid (∀ (u:World) (p q:Value),Below w.heap.size w u->Nt w.heap.size u p (dX o1)->Nt w.heap.size u q (dX o2)->j6 (fun _=>(⟨n,.slice a la ca,X,e,m,.slice b lb cb,Y,f⟩:Ri)) 1=0->Calls Tryz.prog 59 #[.agg #[.bool (dN o1),p,.int .i64 (dE o1),.bool (dN o2),q,.int .i64 (dE o2)]] u fun r w'=>(∃ v,r=.returned (.tuple #[.agg #[.bool (dN z),v,.int .i64 (dE z)],.int .i64 ew])/\Nt u.heap.size w' v (dX z))/\Below u.heap.size u w'))
 (HR:Hid (∀ (u:World) (p:Option Addr) (q:Nat),ew=0->¬ (mode<0\/4<mode)->j6 (fun _=>(⟨n,.slice a la ca,X,e,m,.slice b lb cb,Y,f⟩:Ri)) 1=0->Below w.heap.size w u->Arg u p (ws (dX z)).length q (ws (dX z))->Calls Tryz.prog 60 #[.agg #[.bool (dN z),.slice p (ws (dX z)).length q,.int .i64 (dE z)],.int .i64 mode] u fun r w'=>r=.returned (.tuple #[.float .f64 rw'.1,.int .i64 rw'.2])/\Below u.heap.size u w')) :
 Calls Tryz.prog 58 #[.agg #[.bool n,.slice a la ca,.int .i64 e,.bool m,.slice b lb cb,.int .i64 f],.int .i64 mode,.func (.func 59) #[] #[],.func (.func 60) #[] #[]] w fun r w'=>r=.returned (.tuple #[.float .f64 ANS.1,.int .i64 ANS.2])/\Below w.heap.size w w':=by
 obtain⟨W1,hW1⟩:=ah (w.alloc (.cells #[.bool n,.slice a la ca,.int .i64 e,.bool m,.slice b lb cb,.int .i64 f] 58));obtain⟨hB,hz1,Q1⟩:=rq w n _ e m _ f W1 hW1
 by_cases hm:mode<0\/4<mode
 · rw[if_pos hm] at hANS;subst hANS;have S0:=aA hB;clear hB hz1 Q1 HW HR hr hT
   exact zc
 · rw[if_neg hm] at hANS;obtain⟨R,hR⟩:=ah (W1.alloc (.cells #[.bool n,.slice a la ca,.int .i64 e,.bool m,.slice b lb cb,.int .i64 f] 58));have hin:=rin1 W1 _ (hr.below hB) (hT.belows hB) R hR;have hbR:Below W1.heap.size W1 R:=by rw[hR];exact af _ _
   exact ZS
theorem RY {w:World}{a b:Option Addr}{la ca lb cb:Nat}(n m:Bool) (e f mode:Int) (ANS:Nat×Int)
 (HR:Hid (∀ u:World,Below w.heap.size w u->Calls Tryz.prog 58 #[.agg #[.bool n,.slice a la ca,.int .i64 e,.bool m,.slice b lb cb,.int .i64 f],.int .i64 mode,.func (.func 59) #[] #[],.func (.func 60) #[] #[]] u fun r w'=>r=.returned (.tuple #[.float .f64 ANS.1,.int .i64 ANS.2])/\Below u.heap.size u w')) :
 Calls Tryz.prog 27 #[.agg #[.bool n,.slice a la ca,.int .i64 e,.bool m,.slice b lb cb,.int .i64 f],.int .i64 mode] w fun r w'=>r=.returned (.tuple #[.float .f64 ANS.1,.int .i64 ANS.2])/\Below w.heap.size w w':=by
 obtain⟨W1,hW1⟩:=ah (w.alloc (.cells #[.bool n,.slice a la ca,.int .i64 e,.bool m,.slice b lb cb,.int .i64 f] 58));obtain⟨hB,hz1,Q1⟩:=rq w n _ e m _ f W1 hW1;have HC:=hid (HR.o W1 hB);obtain⟨x0,x1,x2,x3,x4,x5⟩:=Q1.facts;have S0:=aA hB;clear hB hz1 Q1 HR;go_enter Tryz.func27,Tryz.ntmps27
 go_upto_region 1 with fail
 rw[<-hW1];clear hW1;go_wp2_with fail;refine HC.o.mono ?_;rintro r u1 ⟨rfl,hb⟩;have S1:=aA (S0.o.trans (hb.mono S0.o.size));clear hb HC x0 x1 x2 x3 x4 x5;go_wp2
 go_ret2
 exact⟨rfl,S1.o⟩
theorem lC {w:World}{n m:Bool}{a b:Option Addr}{la ca lb cb:Nat}{X Y:Nat}{e f:Int}(mode:Int) (hr:Rv w ⟨n,.slice a la ca,X,e,m,.slice b lb cb,Y,f⟩) (hT:dU w)
 (o1 o2 z:Option (Bool×Nat×Int)) (ew:Int) (rw':Nat×Int) (ho1:mkS n X e=o1) (ho2:mkS m Y f=o2) (lz:(ws (dX z)).length<=8192) (Zx:ew≠0->rw'.1=0/\rw'.2=ew)
 (ANS:Nat×Int) (hANS:ANS=if mode<0\/4<mode then(0,1) else if j6 (fun _=>(⟨n,.slice a la ca,X,e,m,.slice b lb cb,Y,f⟩:Ri)) 1=0 then rw' else(0,j6 (fun _=>(⟨n,.slice a la ca,X,e,m,.slice b lb cb,Y,f⟩:Ri)) 1))
 (HW:Hid (∀ (u:World) (p q:Value),Below w.heap.size w u->Nt w.heap.size u p (dX o1)->Nt w.heap.size u q (dX o2)->j6 (fun _=>(⟨n,.slice a la ca,X,e,m,.slice b lb cb,Y,f⟩:Ri)) 1=0->Calls Tryz.prog 82 #[.agg #[.bool (dN o1),p,.int .i64 (dE o1),.bool (dN o2),q,.int .i64 (dE o2)]] u fun r w'=>(∃ v,r=.returned (.tuple #[.agg #[.bool (dN z),v,.int .i64 (dE z)],.int .i64 ew])/\Nt u.heap.size w' v (dX z))/\Below u.heap.size u w'))
 (HR:Hid (∀ (u:World) (p:Option Addr) (q:Nat),ew=0->¬ (mode<0\/4<mode)->j6 (fun _=>(⟨n,.slice a la ca,X,e,m,.slice b lb cb,Y,f⟩:Ri)) 1=0->Below w.heap.size w u->Arg u p (ws (dX z)).length q (ws (dX z))->Calls Tryz.prog 60 #[.agg #[.bool (dN z),.slice p (ws (dX z)).length q,.int .i64 (dE z)],.int .i64 mode] u fun r w'=>r=.returned (.tuple #[.float .f64 rw'.1,.int .i64 rw'.2])/\Below u.heap.size u w')) :
 Calls Tryz.prog 58 #[.agg #[.bool n,.slice a la ca,.int .i64 e,.bool m,.slice b lb cb,.int .i64 f],.int .i64 mode,.func (.func 82) #[] #[],.func (.func 60) #[] #[]] w fun r w'=>r=.returned (.tuple #[.float .f64 ANS.1,.int .i64 ANS.2])/\Below w.heap.size w w':=by
 obtain⟨W1,hW1⟩:=ah (w.alloc (.cells #[.bool n,.slice a la ca,.int .i64 e,.bool m,.slice b lb cb,.int .i64 f] 58));obtain⟨hB,hz1,Q1⟩:=rq w n _ e m _ f W1 hW1
 by_cases hm:mode<0\/4<mode
 · rw[if_pos hm] at hANS;subst hANS;have S0:=aA hB;clear hB hz1 Q1 HW HR hr hT
   exact zc
 · rw[if_neg hm] at hANS;obtain⟨R,hR⟩:=ah (W1.alloc (.cells #[.bool n,.slice a la ca,.int .i64 e,.bool m,.slice b lb cb,.int .i64 f] 58));have hin:=rin1 W1 _ (hr.below hB) (hT.belows hB) R hR;have hbR:Below W1.heap.size W1 R:=by rw[hR];exact af _ _
   exact ZS
theorem RZ {w:World}{a b:Option Addr}{la ca lb cb:Nat}(n m:Bool) (e f mode:Int) (ANS:Nat×Int)
 (HR:Hid (∀ u:World,Below w.heap.size w u->Calls Tryz.prog 58 #[.agg #[.bool n,.slice a la ca,.int .i64 e,.bool m,.slice b lb cb,.int .i64 f],.int .i64 mode,.func (.func 82) #[] #[],.func (.func 60) #[] #[]] u fun r w'=>r=.returned (.tuple #[.float .f64 ANS.1,.int .i64 ANS.2])/\Below u.heap.size u w')) :
 Calls Tryz.prog 44 #[.agg #[.bool n,.slice a la ca,.int .i64 e,.bool m,.slice b lb cb,.int .i64 f],.int .i64 mode] w fun r w'=>r=.returned (.tuple #[.float .f64 ANS.1,.int .i64 ANS.2])/\Below w.heap.size w w':=by
 obtain⟨W1,hW1⟩:=ah (w.alloc (.cells #[.bool n,.slice a la ca,.int .i64 e,.bool m,.slice b lb cb,.int .i64 f] 58));obtain⟨hB,hz1,Q1⟩:=rq w n _ e m _ f W1 hW1;have HC:=hid (HR.o W1 hB);obtain⟨x0,x1,x2,x3,x4,x5⟩:=Q1.facts;have S0:=aA hB;clear hB hz1 Q1 HR;go_enter Tryz.func44,Tryz.ntmps44
 go_upto_region 1 with fail
 rw[<-hW1];clear hW1;go_wp2_with fail;refine HC.o.mono ?_;rintro r u1 ⟨rfl,hb⟩;have S1:=aA (S0.o.trans (hb.mono S0.o.size));clear hb HC x0 x1 x2 x3 x4 x5;go_wp2
 go_ret2
 exact⟨rfl,S1.o⟩
theorem vJ(n:Bool)(M:Nat)(E:Int)(hM:M≠0)(hb:bl M<=1001)(h0:-4096<=E)(h1:E<=4096):mkS n M E=some (n,M/2^lo M,E+lo M)/\(M/2^lo M)%2=1/\M=M/2^lo M*2^lo M/\lo M<=1001:=by
 obtain⟨q,h2,h3,h4⟩:=jb M hM;refine⟨?_,ae,by rw[h3,cu];exact h2,ae⟩;unfold mkS;rw[if_neg hM,if_neg ae]
def oz(n:Bool)(X:Nat)(e:Int)(Y:Nat)(f:Int):Option (Bool×Nat×Int):=mkS n (2*fA X Y 64+(if qH X Y 64 then 0 else 1)) (fP (e-f-mZ X Y 64-gP Y 64))
def sM(X:Nat)(e:Int)(Y:Nat)(f:Int):Int:=e-f-mZ X Y 129-gP Y 129
def fZ(X:Nat)(e:Int)(Y:Nat)(f:Int):Nat:=RN (fA X Y 129) (sM X e Y f)
theorem zD(W:Nat):∃ r,o5 W r:=by
 induction W with
 | zero=>exact⟨0,by unfold o5;omega⟩
 | succ W ih =>
   obtain⟨r,h1,h2⟩:=ih
   by_cases h:W+1<(r+1)*(r+1)
   · exact⟨r,ae,h⟩
   · refine⟨r+1,ae,?_⟩;have:(r+1)*(r+1)<(r+1+1)*(r+1+1):=rH ae ae;omega
noncomputable def jW (W:Nat):Nat:=Classical.choose (zD W)
theorem zF(W:Nat):o5 W (jW W):=CO (zD W)
def Ws(X:Nat)(e:Int)(Y:Nat)(f:Int):Bool:=X8 (fA X Y 129) (sM X e Y f) (qH X Y 129)
noncomputable def OD (X:Nat) (e:Int) (Y:Nat) (f:Int):Bool:=Ws X e Y f&&decide (fZ X e Y f=jW (fZ X e Y f)*jW (fZ X e Y f))
noncomputable def xn (X:Nat) (e:Int) (Y:Nat) (f:Int):Option (Bool×Nat×Int):=mkS false (2*jW (fZ X e Y f)+(if OD X e Y f then 0 else 1)) (fP (xV (sM X e Y f)/2))
theorem jS(x:Int):-4096<=fP x/\fP x<=4096:=by unfold fP;omega
theorem zG{R k W:Nat}(h:R*R<=W)(hW:W<2^(2*k)):R<2^k:=by
 rcases jK R (2^k) with q|q
 · exact q
 · have:=kC q q;rw[<-aJ,show k+k=2*k by omega] at this;omega
theorem R5{R k W:Nat}(h:W<(R+1)*(R+1))(hW:2^(2*k)<=W):2^k<=R:=by
 rcases jK R (2^k) with q|q
 · have:=kC (show R+1<=2^k from q) (show R+1<=2^k from q);rw[<-aJ,show k+k=2*k by omega] at this;omega
 · exact q
theorem Jo(X:Nat)(e:Int)(Y:Nat)(f:Int)(D:RI X Y 129):fZ X e Y f<2^130:=by
 have:=D.most;unfold fZ RN
 split <;> omega
theorem Zy(X:Nat)(e:Int)(Y:Nat)(f:Int)(D:RI X Y 129)(hX:X≠0):2^(2*63)<=fZ X e Y f:=by
 have:=D.least hX;have e1:(2:Nat)^(129-1)=4*2^(2*63):=aj
 have e2:(1:Nat)<=2^(2*63):=aZ _;unfold fZ RN
 split <;> omega
theorem DU{W d k:Nat}(h:W<2^k)(hd:d<=1):bl (2*W+d)<=k+1:=gI (by rw[fC];omega)
theorem vL:Wj vK 9218868437227405312:=by
 refine⟨aj,?_,fun {k l} h=>qE.2 h,fun k hk=>?_⟩
 · have:=gm 0 0 (.inl rfl) ae;simpa using this
 · by_cases h:k<4503599627370496
   · refine⟨k,0,?_,?_,ae,ae⟩
     · have:=gm 0 k (.inl rfl) ae;rw[dL,eP] at this;exact this
     · have:=gm 0 (k+1) (.inl rfl) ae;rw[dL,eP] at this;exact this
   · obtain⟨q,hq⟩:∃ q,k/4503599627370496=q:=⟨_,rfl⟩;obtain⟨g,hg⟩:∃ g,k%4503599627370496=g:=⟨_,rfl⟩;refine⟨4503599627370496+g,q-1,?_,?_,ae,ae⟩
     · have:=gm (q-1) (4503599627370496+g) (.inr ae) ae;rw[show(q-1)*4503599627370496+(4503599627370496+g)=k by omega] at this;exact this
     · have:=gm (q-1) (4503599627370496+g+1) (.inr ae) ae;rw[show(q-1)*4503599627370496+(4503599627370496+g+1)=k+1 by omega] at this;exact this
theorem Wt{K:Nat}{t:Bool}{m:Int}{V S':Nat}(h:I6 K t m V S'):gN vK 9218868437227405312 1 K t m V S':=by
 refine⟨h.fin,h.pos,fun ht=>?_,fun ht=>?_,fun ht hl=>?_,fun ht=>?_⟩
 · rw[rM];exact h.one ht
 · rw[rM];exact h.low ht
 · rw[rM] at hl;have:=h.NI ht hl;rw[rM,rM,fI];exact this
 · rw[rM];rcases h.high ht with q|⟨q,r⟩
   · exact .inl q
   · exact .inr ⟨ae,r⟩
theorem KP(n:Bool)(M:Nat)(E:Int)(hM:M≠0)(hb:bl M<=1001)(h0:-4096<=E)(h1:E<=4096) :
 ∃ K t m,gN vK 9218868437227405312 1 K t m (M*2^(E+(1074:Nat)).toNat) (2^(-(E+(1074:Nat))).toNat)/\∀ mode:Int,0<=mode->mode<=4->iC (mkS n M E) mode=(rK mode n K t m+(if n then 9223372036854775808 else 0),0):=by
 obtain⟨e1,e2,e3,e4⟩:=vJ n M E hM hb h0 h1;obtain⟨M',hM'⟩:∃ M',M/2^lo M=M':=⟨_,rfl⟩;obtain⟨l,hl⟩:∃ l,lo M=l:=⟨_,rfl⟩;rw[hM',hl] at e1 e3;rw[hM'] at e2;rw[hl] at e4;have hL:=lies M' (E+l) e2 ae ae (min E (-1074)) ae ae;refine⟨I5 M' (E+l),(jw 53 (-1074) 1024 M' (E+l)).2.2.1,(jw 53 (-1074) 1024 M' (E+l)).2.2.2,?_,?_⟩
 · have:=Wt hL;rw[e3]
   have w1:M'*2^(E+(l:Int)-min E (-1074)).toNat=M'*2^l*2^(E+(1074:Nat)).toNat:=by
    rw[aM,<-aJ];congr 2;omega
   have w2:(-1074-min E (-1074)).toNat=(-(E+(1074:Nat))).toNat:=ae
   rw[w1,w2] at this;exact this
 · intro mode hm0 sU;rw[e1];unfold iC;rw[if_neg ae];simp only;rw[if_neg ae,xS]
theorem quo64(n:Bool)(X:Nat)(e:Int)(Y:Nat)(f:Int)(hX:X%2=1)(hY:Y≠0)(bX:bl X<=262144)(bY:bl Y<=262144) :
 ∃ K t m,gN vK 9218868437227405312 1 K t m (uh X e f 1074 1) (nO Y e f 1074 1)/\∀ mode:Int,0<=mode->mode<=4->iC (oz n X e Y f) mode=(rK mode n K t m+(if n then 9223372036854775808 else 0),0):=by
 have D:=jd X Y 64 (.inr hX) hY ae ae bX bY;have hX0:X≠0:=ae
 have hW1:=D.least hX0;have hW2:=D.most;have c63:(2:Nat)^(64-1)=9223372036854775808:=aj
 have sp:=RL X Y e f 1074 hY D;have hd:(if qH X Y 64 then 0 else 1)<=1:=by split <;> omega
 obtain⟨K,t,m,hL,hR⟩:=KP n (2*fA X Y 64+(if qH X Y 64 then 0 else 1)) (fP (e-f-mZ X Y 64-gP Y 64)) ae (by have:=DU hW2 hd;omega) (jS _).1 (jS _).2;refine⟨K,t,m,hL.FJ vL ae sp.pos ?_,hR⟩;exact wK 1 (fA X Y 64) _ _ _ 1074 _ ae ae (Nat.lt_trans hW2 aj) hd ae ae sp
theorem Yc(X:Nat)(e:Int)(Y:Nat)(f:Int)(hX:X%2=1)(hY:Y≠0)(bX:bl X<=262144)(bY:bl Y<=262144) :
 ∃ K t m,gN vK 9218868437227405312 2 K t m (uh X e f 1074 2) (nO Y e f 1074 2)/\∀ mode:Int,0<=mode->mode<=4->iC (xn X e Y f) mode=(rK mode false K t m,0):=by
 have D:=jd X Y 129 (.inr hX) hY ae ae bX bY;have hX0:X≠0:=ae
 have g1:=Zy X e Y f D hX0;have g2:=Jo X e Y f D;obtain⟨r1,r2⟩:=zF (fZ X e Y f);have q1:=R5 r2 g1;have q2:jW (fZ X e Y f)<2^65:=zG r1 (by rw[show 2*65=130 by rfl];exact g2);have sp:=Ow X Y e f 1074 (jW (fZ X e Y f)) hY D (sM X e Y f) rfl (zF _);have hd:(if OD X e Y f then 0 else 1)<=1:=by split <;> omega
 have c63:(2:Nat)^63=9223372036854775808:=aj
 obtain⟨K,t,m,hL,hR⟩:=KP false (2*jW (fZ X e Y f)+(if OD X e Y f then 0 else 1)) (fP (xV (sM X e Y f)/2)) ae (by have:=DU q2 hd;omega) (jS _).1 (jS _).2;refine⟨K,t,m,hL.FJ vL ae sp.pos ?_,fun mode h0 h4=>?_⟩
 · exact wK 2 (jW (fZ X e Y f)) _ _ _ 1074 _ ae ae (Nat.lt_trans q2 aj) hd ae ae sp
 · have:=hR mode h0 h4;simp only[fJ,if_false,fT] at this;exact this
theorem Cj(n:Bool)(X:Nat)(e:Int)(Y:Nat)(f:Int)(hX:X=0\/X%2=1)(hY:Y≠0)(bX:bl X<=262144)(bY:bl Y<=262144):(oz n X e Y f).isSome=true:=by
 have D:=jd X Y 64 hX hY ae ae bX bY;have hW2:=D.most;have hd:(if qH X Y 64 then 0 else 1)<=1:=by split <;> omega
 have hb:=DU hW2 hd;unfold oz
 by_cases hM:2*fA X Y 64+(if qH X Y 64 then 0 else 1)=0
 · rw[hM,fq];rfl
 · rw[(vJ n _ _ hM ae (jS _).1 (jS _).2).1];rfl
theorem F8(X:Nat)(e:Int)(Y:Nat)(f:Int)(hX:X=0\/X%2=1)(hY:Y≠0)(bX:bl X<=262144)(bY:bl Y<=262144):(xn X e Y f).isSome=true:=by
 have D:=jd X Y 129 hX hY ae ae bX bY;have g2:=Jo X e Y f D;obtain⟨r1,r2⟩:=zF (fZ X e Y f);have q2:jW (fZ X e Y f)<2^65:=zG r1 (by rw[show 2*65=130 by rfl];exact g2);have hd:(if OD X e Y f then 0 else 1)<=1:=by split <;> omega
 have hb:=DU q2 hd;unfold xn
 by_cases hM:2*jW (fZ X e Y f)+(if OD X e Y f then 0 else 1)=0
 · rw[hM,fq];rfl
 · rw[(vJ false _ _ hM ae (jS _).1 (jS _).2).1];rfl
theorem zH(Y size:Nat)(hY:Y≠0)(hs0:1<=size)(hs:size<=1000)(bY:bl Y<=262144):fA 0 Y size=0/\qH 0 Y size=true:=by
 have D:=jd 0 Y size (.inl rfl) hY hs0 hs (by rw[dZ];omega) bY;have hby:0<=mZ 0 Y size:=by unfold mZ;rw[dZ];omega
 have hlev:rC 0 Y size=0:=by unfold rC;split <;> simp
 have h1:oq 0 Y size=0:=by unfold oq;rw[hlev,Nat.zero_div]
 have h2:rD 0 Y size=0:=by unfold rD;rw[hlev,Nat.zero_mod]
 have h3:sH 0 Y size=0:=by unfold sH;rw[h2,dL]
 have h4:qG 0 Y size=0:=by unfold qG;rw[h1,dL]
 refine⟨?_,?_⟩
 · unfold fA;rw[h3,h4,if_neg ae,h1]
 · unfold qH;rw[h3,h4];simp[hby]
theorem F9(n:Bool)(e:Int)(Y:Nat)(f:Int)(hY:Y≠0)(bY:bl Y<=262144):oz n 0 e Y f=some (false,0,0):=by
 obtain⟨h1,h2⟩:=zH Y 64 hY ae ae bY;unfold oz;rw[h1,h2];exact fq _ _
theorem Jp(e:Int)(Y:Nat)(f:Int)(hY:Y≠0)(bY:bl Y<=262144):xn 0 e Y f=some (false,0,0):=by
 obtain⟨h1,h2⟩:=zH Y 129 hY ae ae bY;have hW:fZ 0 e Y f=0:=by unfold fZ RN;rw[h1];split <;> rfl
 have hR:jW 0=0:=by
  have:=(zF 0).1;rcases jZ (jW 0) with q|q
  · exact q
  · have:=iq q q;omega
 have hT:Ws 0 e Y f=true:=by unfold Ws X8;rw[h1,h2];split <;> rfl
 have hD:OD 0 e Y f=true:=by unfold OD;rw[hT,hW,hR];rfl
 unfold xn;rw[hD,hW,hR];exact fq _ _
theorem Ga{x:Int}(h:x%2=0):(x.tmod 2==0)=true:=by
 have:(2:Int) ∣ x:=Int.dvd_of_emod_eq_zero h;rw[Int.tmod_eq_zero_of_dvd this];rfl
theorem KQ{x:Int}(h:¬ x%2=0):(x.tmod 2==0)=false:=by
 apply beq_eq_false_iff_ne.2;intro k;exact h (Int.emod_eq_zero_of_dvd (Int.dvd_of_tmod_eq_zero k))
theorem OE{x:Int}(h:x%2=0):x.tdiv 2=x/2:=by
 obtain⟨k,hk⟩:=Int.dvd_of_emod_eq_zero h;subst hk;rw[Int.mul_tdiv_cancel_left _ aj,Int.mul_ediv_cancel_left _ aj]
theorem R7(x:Int):xV x%2=0:=by unfold xV;split <;> omega
theorem zI {w:World}{a b:Option Addr}{ca cb:Nat}(m:Bool) (X Y:Nat) (e f:Int)
 (AX:Arg w a (ws X).length ca (ws X)) (AY:Arg w b (ws Y).length cb (ws Y)) (hT:dU w) (hX:X=0\/X%2=1) (hY:Y≠0)
 (he0:-1048576<=e) (he1:e<=1048576) (hf0:-1048576<=f) (hf1:f<=1048576) (bX:bl X<=262144) (bY:bl Y<=262144) :
 Calls Tryz.prog 82 #[.agg #[.bool false,.slice a (ws X).length ca,.int .i64 e,.bool m,.slice b (ws Y).length cb,.int .i64 f]] w fun r w'=>dm w.heap.size w' r (xn X e Y f)/\Below w.heap.size w w':=by
 have D:=jd X Y 129 hX hY ae ae bX bY;have bW:bl (fA X Y 129)<=130:=gI D.most;have hc:gP Y 129<=129:=by unfold gP;omega
 have hb:-262144<=mZ X Y 129/\mZ X Y 129<=264000:=by have:=D.X6;unfold mZ;omega
 have hx:-10000000<sM X e Y f/\sM X e Y f<10000000:=by unfold sM;omega
 have HD:∀ u,Below w.heap.size w u->Calls Tryz.prog 104 #[.agg #[.bool false,.slice a (ws X).length ca,.int .i64 e,.bool m,.slice b (ws Y).length cb,.int .i64 f],.int .i64 129] u fun r w'=>(∃ v,r=.returned (.agg #[v,.int .i64 (sM X e Y f),.bool (qH X Y 129)])/\Nt u.heap.size w' v (fA X Y 129))/\Below u.heap.size u w':=fun u hu=>Ch false m X Y e f 129 (AX.below hu) (AY.below hu) hX hY he0 he1 hf0 hf1 ae ae bX bY;obtain⟨r1,r2⟩:=zF (fZ X e Y f);have g2:=Jo X e Y f D;have q2:jW (fZ X e Y f)<2^65:=zG r1 (by rw[show 2*65=130 by rfl];exact g2);have bR:bl (jW (fZ X e Y f))<=65:=gI q2;have bW':bl (fZ X e Y f)<=130:=gI g2;have bL:bl (fZ X e Y f-jW (fZ X e Y f)*jW (fZ X e Y f))<=262144:=ow (Bp _ _) ae
 have HR:∀ (u:World) (p:Option Addr) (q:Nat),Arg u p (ws (fZ X e Y f)).length q (ws (fZ X e Y f))->Calls Tryz.prog 121 #[.slice p (ws (fZ X e Y f)).length q] u fun r w'=>∃ v v',r=.returned (.tuple #[v,v'])/\Nt u.heap.size w' v (jW (fZ X e Y f))/\Nt u.heap.size w' v' (fZ X e Y f-jW (fZ X e Y f)*jW (fZ X e Y f))/\Below u.heap.size u w':=by
  intro u p q hA;exact RO hA (by rw[ak];exact⟨r1,r2⟩) (by rw[ak])
 have HL:∀ (u:World) (p:Option Addr) (q:Nat),Arg u p (ws (fZ X e Y f-jW (fZ X e Y f)*jW (fZ X e Y f))).length q (ws (fZ X e Y f-jW (fZ X e Y f)*jW (fZ X e Y f)))->Calls Tryz.prog 93 #[.slice p (ws (fZ X e Y f-jW (fZ X e Y f)*jW (fZ X e Y f))).length q] u fun r w'=>r=.returned (.int .i64 (bl (fZ X e Y f-jW (fZ X e Y f)*jW (fZ X e Y f)):Nat))/\Below u.heap.size u w':=by
  intro u p q hA;exact pz hA (by rw[ak])
 have hz:(bl (fZ X e Y f-jW (fZ X e Y f)*jW (fZ X e Y f))==0)=decide (fZ X e Y f=jW (fZ X e Y f)*jW (fZ X e Y f)):=by
  by_cases h:fZ X e Y f=jW (fZ X e Y f)*jW (fZ X e Y f)
  · rw[decide_eq_true h,show fZ X e Y f-jW (fZ X e Y f)*jW (fZ X e Y f)=0 by omega,dZ];rfl
  · rw[decide_eq_false h];have:=eu (fZ X e Y f-jW (fZ X e Y f)*jW (fZ X e Y f)) ae;exact beq_eq_false_iff_ne.2 ae
 have hz2:(((bl (fZ X e Y f-jW (fZ X e Y f)*jW (fZ X e Y f)):Nat):Int)==0)=decide (fZ X e Y f=jW (fZ X e Y f)*jW (fZ X e Y f)):=by
  rw[<-hz]
  by_cases h:bl (fZ X e Y f-jW (fZ X e Y f)*jW (fZ X e Y f))=0
  · rw[h];rfl
  · rw[beq_eq_false_iff_ne.2 h,beq_eq_false_iff_ne.2 (show((bl (fZ X e Y f-jW (fZ X e Y f)*jW (fZ X e Y f)):Nat):Int)≠0 by omega)]
 have hvx:=R7 (sM X e Y f);have hhr:-10000000<=xV (sM X e Y f)/\xV (sM X e Y f)<=10000000:=by unfold xV;split <;> omega
 have HI:∀ (d:Bool) (u:World) (p:Option Addr) (q:Nat),d=OD X e Y f->Below w.heap.size w u->Arg u p (ws (jW (fZ X e Y f))).length q (ws (jW (fZ X e Y f)))->Calls Tryz.prog 103 #[.bool false,.agg #[.slice p (ws (jW (fZ X e Y f))).length q,.int .i64 (xV (sM X e Y f)/2),.bool d]] u fun r w'=>dm u.heap.size w' r (xn X e Y f)/\Below u.heap.size u w':=by
  intro d u p q hd hu hA;subst hd;exact zz false _ _ _ hA (hT.belows hu) ae ae ae
 have lV:=aR false (2*jW (fZ X e Y f)+(if OD X e Y f then 0 else 1)) (fP (xV (sM X e Y f)/2));have ht:=OE hvx;unfold dm at HI |-
 by_cases hev:sM X e Y f%2=0
 · have eW:fZ X e Y f=fA X Y 129:=by unfold fZ RN;rw[if_pos hev]
   have eX:xV (sM X e Y f)=sM X e Y f:=by unfold xV;rw[if_pos hev]
   have eT:Ws X e Y f=qH X Y 129:=by unfold Ws X8;rw[if_pos hev]
   rw[eX] at ht hhr
   cases hat:qH X Y 129 with
   | true =>
     rw[hat] at HD eT;refine DI m e f (fA X Y 129) 0 (jW (fZ X e Y f)) (fZ X e Y f-jW (fZ X e Y f)*jW (fZ X e Y f)) _ (sM X e Y f) 0 (xV (sM X e Y f)/2) false _ _ _ _ _ (cZ ae) (by rw[ws0];omega) (cZ ae) (cZ bL) lV ae ae (Ga hev) (by rw[eX];exact ht) ae ae HD (by rw[eW] at HR |-;exact HR) HL hz2 hz ?_;intro u p q hu hA;exact HI _ u p q (by unfold OD;rw[eT];rfl) hu hA
   | false =>
     rw[hat] at HD eT;refine DJ m e f (fA X Y 129) 0 (jW (fZ X e Y f)) (fZ X e Y f-jW (fZ X e Y f)*jW (fZ X e Y f)) 0 (sM X e Y f) 0 (xV (sM X e Y f)/2) false false _ _ _ _ (cZ ae) (by rw[ws0];omega) (cZ ae) (cZ bL) lV ae ae (Ga hev) (by rw[eX];exact ht) ae ae HD (by rw[eW] at HR |-;exact HR) ?_;intro u p q hu hA;exact HI _ u p q (by unfold OD;rw[eT];rfl) hu hA
 · have eW:fZ X e Y f=fA X Y 129/2:=by unfold fZ RN;rw[if_neg hev]
   have eX:xV (sM X e Y f)=sM X e Y f+1:=by unfold xV;rw[if_neg hev]
   have eT:Ws X e Y f=(qH X Y 129&&decide (fA X Y 129%2=0)):=by unfold Ws X8;rw[if_neg hev]
   have e1:bz (fA X Y 129) (-1)=(fZ X e Y f,0):=by
    have:=vG (X:=fA X Y 129) (k:=1) (V:=fZ X e Y f) (il ae) (by rw[eW]);exact this
   have HH:∀ (t':Bool) (u:World) (p:Option Addr) (q:Nat),t'=Ws X e Y f->Arg u p (ws (fA X Y 129)).length q (ws (fA X Y 129))->Calls Tryz.prog 120 #[.agg #[.slice p (ws (fA X Y 129)).length q,.int .i64 (sM X e Y f),.bool (qH X Y 129)]] u fun r w'=>(∃ v,r=.returned (.agg #[v,.int .i64 (xV (sM X e Y f)),.bool t'])/\Nt u.heap.size w' v (fZ X e Y f))/\Below u.heap.size u w':=by
    intro t' u p q ht' hA;rw[ht',eT]
    cases hat:qH X Y 129 with
    | true =>
      have hb:(!decide (fA X Y 129/2^0%2=1))=(true&&decide (fA X Y 129%2=0)):=by
       rw[gK,wm,tC]
       by_cases h:fA X Y 129%2=0
       · rw[decide_eq_true h,decide_eq_false ae];rfl
       · rw[decide_eq_false h,decide_eq_true ae];rfl
      rw[<-hb];exact Jk (fA X Y 129) _ _ _ hA ae ae e1 eX.symm (cZ ae) _ rfl
    | false=>exact Oz (fA X Y 129) _ _ _ hA ae ae e1 eX.symm (cZ ae)
   cases hsT:Ws X e Y f with
   | true =>
     refine FW m e f (fA X Y 129) (fZ X e Y f) (jW (fZ X e Y f)) (fZ X e Y f-jW (fZ X e Y f)*jW (fZ X e Y f)) _ (sM X e Y f) (xV (sM X e Y f)) (xV (sM X e Y f)/2) (qH X Y 129) _ _ _ _ _ (cZ ae) (cZ ae) (cZ ae) (cZ bL) lV hhr.1 hhr.2 (KQ hev) ht ae ae HD (fun u p q hA=>HH true u p q hsT.symm hA) HR HL hz2 hz ?_;intro u p q hu hA;exact HI _ u p q (by unfold OD;rw[hsT];rfl) hu hA
   | false =>
     refine FZ m e f (fA X Y 129) (fZ X e Y f) (jW (fZ X e Y f)) (fZ X e Y f-jW (fZ X e Y f)*jW (fZ X e Y f)) 0 (sM X e Y f) (xV (sM X e Y f)) (xV (sM X e Y f)/2) (qH X Y 129) false _ _ _ _ (cZ ae) (cZ ae) (cZ ae) (cZ bL) lV hhr.1 hhr.2 (KQ hev) ht ae ae HD (fun u p q hA=>HH false u p q hsT.symm hA) HR ?_;intro u p q hu hA;exact HI _ u p q (by unfold OD;rw[hsT];rfl) hu hA
def OG(r:Ri):Nat->Ri:=fun _=>r
noncomputable def Gb (rnd:Option (Bool×Nat×Int)->Int->Nat×Int) (r:Ri) (mode:Int):Nat×Int :=
 if mode<0\/4<mode then(0,1) else if j6 (OG r) 1=0 then rnd (oz (dN (mkS r.n r.X r.e)) (dX (mkS r.n r.X r.e)) (dE (mkS r.n r.X r.e)) (dX (mkS r.m r.Y r.f)) (dE (mkS r.m r.Y r.f))) mode else(0,j6 (OG r) 1)
noncomputable def xq (rnd:Option (Bool×Nat×Int)->Int->Nat×Int) (r:Ri) (mode:Int):Nat×Int :=
 if mode<0\/4<mode then(0,1) else if j6 (OG r) 1=0 then(if dN (mkS r.n r.X r.e) then(0,110) else rnd (xn (dX (mkS r.n r.X r.e)) (dE (mkS r.n r.X r.e)) (dX (mkS r.m r.Y r.f)) (dE (mkS r.m r.Y r.f))) mode) else(0,j6 (OG r) 1)
theorem lN{n:Bool}{X:Nat}{e:Int}(h:(mkS n X e).isSome=true):o8 (dN (mkS n X e)) (dX (mkS n X e)) (dE (mkS n X e)):=by
 cases ho:mkS n X e with
 | none=>rw[ho] at h;cases h
 | some d =>
   obtain⟨n1,X1,e1⟩:=d;exact cK ho
theorem o8.par{n:Bool}{X:Nat}{e:Int}(h:o8 n X e):X=0\/X%2=1:=by rcases h.odd with q | q;exact .inr q;exact .inl q.1
theorem OH(X:Nat)(e:Int)(Y:Nat)(f:Int)(hs:(xn X e Y f).isSome=true):mkS (dN (xn X e Y f)) (dX (xn X e Y f)) (dE (xn X e Y f))=xn X e Y f:=zB (o:=xn X e Y f) rfl hs
theorem Jq(n:Bool)(X:Nat)(e:Int)(Y:Nat)(f:Int)(hs:(oz n X e Y f).isSome=true):mkS (dN (oz n X e Y f)) (dX (oz n X e Y f)) (dE (oz n X e Y f))=oz n X e Y f:=zB (o:=oz n X e Y f) rfl hs
theorem R8{w:World}{n m:Bool}{a b:Option Addr}{la ca lb cb:Nat}{X Y:Nat}{e f:Int}(mode:Int)(hr:Rv w ⟨n,.slice a la ca,X,e,m,.slice b lb cb,Y,f⟩)(hT:dU w) :
 Calls Tryz.prog 27 #[.agg #[.bool n,.slice a la ca,.int .i64 e,.bool m,.slice b lb cb,.int .i64 f],.int .i64 mode] w fun r w' =>
  r=.returned (.tuple #[.float .f64 (Gb iC ⟨n,.slice a la ca,X,e,m,.slice b lb cb,Y,f⟩ mode).1,.int .i64 (Gb iC ⟨n,.slice a la ca,X,e,m,.slice b lb cb,Y,f⟩ mode).2])/\Below w.heap.size w w':=by
 refine RY n m e f mode (Gb iC ⟨n,.slice a la ca,X,e,m,.slice b lb cb,Y,f⟩ mode) ?_;intro u hu;have hrT:=hr.below hu;have su:=hT.belows hu;refine sJ mode hrT su (mkS n X e) (mkS m Y f) (oz (dN (mkS n X e)) (dX (mkS n X e)) (dE (mkS n X e)) (dX (mkS m Y f)) (dE (mkS m Y f))) 0 (iC (oz (dN (mkS n X e)) (dX (mkS n X e)) (dE (mkS n X e)) (dX (mkS m Y f)) (dE (mkS m Y f))) mode) rfl rfl (aR _ _ _) (fun h=>absurd rfl h) _ rfl ?_ ?_
 · intro v p q hv N1 N2 h0;obtain⟨k1,k2,k3,k4⟩:=F7 h0 0 ae;simp only at k1 k2 k3 k4;have F1:=lN k2;have F2:=lN k3;obtain⟨a1,c1,rfl,A1⟩:=N1.arg (by have:=dS F1;omega);obtain⟨a2,c2,rfl,A2⟩:=N2.arg (by have:=dS F2;omega);have hq:=DF (dN (mkS n X e)) (dN (mkS m Y f)) (dX (mkS n X e)) (dX (mkS m Y f)) (dE (mkS n X e)) (dE (mkS m Y f)) A1 A2 (su.belows hv) F1.par k4 F1.down F1.up F2.down F2.up F1.size F2.size;have hs:=Cj (dN (mkS n X e)) (dX (mkS n X e)) (dE (mkS n X e)) (dX (mkS m Y f)) (dE (mkS m Y f)) F1.par k4 F1.size F2.size;have he:o7 (oz (dN (mkS n X e)) (dX (mkS n X e)) (dE (mkS n X e)) (dX (mkS m Y f)) (dE (mkS m Y f)))=0:=by unfold o7;rw[hs];rfl
   unfold dm at hq;rw[show mkS (dN (mkS n X e)) (2*fA (dX (mkS n X e)) (dX (mkS m Y f)) 64+(if qH (dX (mkS n X e)) (dX (mkS m Y f)) 64 then 0 else 1)) (fP (dE (mkS n X e)-dE (mkS m Y f)-mZ (dX (mkS n X e)) (dX (mkS m Y f)) 64-gP (dX (mkS m Y f)) 64))=oz (dN (mkS n X e)) (dX (mkS n X e)) (dE (mkS n X e)) (dX (mkS m Y f)) (dE (mkS m Y f)) from rfl,he] at hq;exact hq
 · intro v p q _ hm h0 hv hA;obtain⟨k1,k2,k3,k4⟩:=F7 h0 0 ae;simp only at k1 k2 k3 k4;have F1:=lN k2;have F2:=lN k3;have hs:=Cj (dN (mkS n X e)) (dX (mkS n X e)) (dE (mkS n X e)) (dX (mkS m Y f)) (dE (mkS m Y f)) F1.par k4 F1.size F2.size;have rg:=KO (o:=oz (dN (mkS n X e)) (dX (mkS n X e)) (dE (mkS n X e)) (dX (mkS m Y f)) (dE (mkS m Y f))) rfl;have hR:=Ca hA (su.belows hv) (dN (oz (dN (mkS n X e)) (dX (mkS n X e)) (dE (mkS n X e)) (dX (mkS m Y f)) (dE (mkS m Y f)))) (dE (oz (dN (mkS n X e)) (dX (mkS n X e)) (dE (mkS n X e)) (dX (mkS m Y f)) (dE (mkS m Y f)))) mode ae ae;rw[ak,Jq _ _ _ _ _ hs] at hR;exact hR
theorem Zz{w:World}{n m:Bool}{a b:Option Addr}{la ca lb cb:Nat}{X Y:Nat}{e f:Int}(mode:Int)(hr:Rv w ⟨n,.slice a la ca,X,e,m,.slice b lb cb,Y,f⟩)(hT:dU w) :
 Calls Tryz.prog 44 #[.agg #[.bool n,.slice a la ca,.int .i64 e,.bool m,.slice b lb cb,.int .i64 f],.int .i64 mode] w fun r w' =>
  r=.returned (.tuple #[.float .f64 (xq iC ⟨n,.slice a la ca,X,e,m,.slice b lb cb,Y,f⟩ mode).1,.int .i64 (xq iC ⟨n,.slice a la ca,X,e,m,.slice b lb cb,Y,f⟩ mode).2])/\Below w.heap.size w w':=by
 refine RZ n m e f mode (xq iC ⟨n,.slice a la ca,X,e,m,.slice b lb cb,Y,f⟩ mode) ?_;intro u hu;have hrT:=hr.below hu;have su:=hT.belows hu
 cases hn:dN (mkS n X e) with
 | true =>
   refine lC mode hrT su (mkS n X e) (mkS m Y f) none 110 (0,110) rfl rfl (by show(ws 0).length<=8192;rw[ws0];omega) (fun h=>⟨rfl,rfl⟩) _ (by unfold xq;simp only;rw[hn];rfl) ?_ ?_
   · intro v p q hv N1 N2 h0;obtain⟨k1,k2,k3,k4⟩:=F7 h0 0 ae;simp only at k1 k2 k3 k4;obtain⟨a1,c1,rfl,A1⟩:=N1.arg (by have:=dS (lN k2);omega);obtain⟨a2,c2,rfl,A2⟩:=N2.arg (by have:=dS (lN k3);omega);rw[hn];refine(RS _ _ _).mono ?_;rintro r w' ⟨rfl,hb⟩;exact⟨⟨_,rfl,Nt.nil _ _⟩,hb⟩
   · intro v p q h110;exact absurd h110 aj
 | false =>
   have hz:(0:Int)≠0->(iC (xn (dX (mkS n X e)) (dE (mkS n X e)) (dX (mkS m Y f)) (dE (mkS m Y f))) mode).1=0/\(iC (xn (dX (mkS n X e)) (dE (mkS n X e)) (dX (mkS m Y f)) (dE (mkS m Y f))) mode).2=0:=fun h=>absurd rfl h;refine lC mode hrT su (mkS n X e) (mkS m Y f) (xn (dX (mkS n X e)) (dE (mkS n X e)) (dX (mkS m Y f)) (dE (mkS m Y f))) 0 (iC (xn (dX (mkS n X e)) (dE (mkS n X e)) (dX (mkS m Y f)) (dE (mkS m Y f))) mode) rfl rfl (aR _ _ _) hz _ (by unfold xq;simp only;rw[hn];rfl) ?_ ?_
   · intro v p q hv N1 N2 h0;obtain⟨k1,k2,k3,k4⟩:=F7 h0 0 ae;simp only at k1 k2 k3 k4;have F1:=lN k2;have F2:=lN k3;obtain⟨a1,c1,rfl,A1⟩:=N1.arg (by have:=dS F1;omega);obtain⟨a2,c2,rfl,A2⟩:=N2.arg (by have:=dS F2;omega);have hq:=zI (dN (mkS m Y f)) (dX (mkS n X e)) (dX (mkS m Y f)) (dE (mkS n X e)) (dE (mkS m Y f)) A1 A2 (su.belows hv) F1.par k4 F1.down F1.up F2.down F2.up F1.size F2.size;have hs:=F8 (dX (mkS n X e)) (dE (mkS n X e)) (dX (mkS m Y f)) (dE (mkS m Y f)) F1.par k4 F1.size F2.size;have he:o7 (xn (dX (mkS n X e)) (dE (mkS n X e)) (dX (mkS m Y f)) (dE (mkS m Y f)))=0:=by unfold o7;rw[hs];rfl
     unfold dm at hq;rw[he] at hq;rw[hn];exact hq
   · intro v p q _ hm h0 hv hA;obtain⟨k1,k2,k3,k4⟩:=F7 h0 0 ae;simp only at k1 k2 k3 k4;have F1:=lN k2;have F2:=lN k3;have hs:=F8 (dX (mkS n X e)) (dE (mkS n X e)) (dX (mkS m Y f)) (dE (mkS m Y f)) F1.par k4 F1.size F2.size;have rg:=KO (o:=xn (dX (mkS n X e)) (dE (mkS n X e)) (dX (mkS m Y f)) (dE (mkS m Y f))) rfl;have hR:=Ca hA (su.belows hv) (dN (xn (dX (mkS n X e)) (dE (mkS n X e)) (dX (mkS m Y f)) (dE (mkS m Y f)))) (dE (xn (dX (mkS n X e)) (dE (mkS n X e)) (dX (mkS m Y f)) (dE (mkS m Y f)))) mode ae ae;rw[ak,OH _ _ _ _ hs] at hR;exact hR
def ZA(o:Option (Bool×Nat×Int)):Option (Bool×Nat×Int):=match o with
 | none=>none
 | some (n,X,e)=>mkS (!n) X e
theorem R9(n:Bool)(X:Nat)(e:Int):ZA (mkS n X e)=mkS (!n) X e:=by
 by_cases h0:X=0
 · subst h0;rw[fq,fq];rfl
 · cases ho:mkS n X e with
   | none =>
     unfold mkS at ho |-;rw[if_neg h0] at ho |-
     split at ho
     · rename_i h;rw[if_pos h];rfl
     · cases ho
   | some d =>
     unfold mkS at ho |-;rw[if_neg h0] at ho |-
     split at ho
     · cases ho
     · rename_i h
       cases ho
       rw[if_neg h];show mkS (!n) (X/2^lo X) (e+lo X)=_;have hF:o8 n (X/2^lo X) (e+lo X):=cK (n:=n) (X:=X) (e:=e) (by unfold mkS;rw[if_neg h0,if_neg h])
       have hF2:o8 (!n) (X/2^lo X) (e+lo X):=⟨by
        rcases hF.odd with q|⟨q,_,_⟩
        · exact .inl q
        · exfalso;obtain⟨k,h2,h3,h4⟩:=jb X h0
          omega,hF.size,hF.up,hF.down⟩
       exact hF2.self
theorem wN{o:Option (Bool×Nat×Int)}(hs:o.isSome=true):mkS (!(dN o)) (dX o) (dE o)=ZA o:=by
 cases o with
 | none=>cases hs
 | some d=>rfl
def xu(X:Nat)(n:Bool)(e:Int)(Y:Nat)(m:Bool)(f:Int):Int:=if xg m Y<0 then 1 else if (mkS n X e).isSome&&(mkS m Y f).isSome then(if dX (mkS m Y f)=0 then 21 else 0) else 2
theorem qK(r:Ri):j6 (OG r) 1=xu r.X r.n r.e r.Y r.m r.f:=by
 unfold j6 xu OG;simp only[show List.range 1=[0] from rfl,List.any_cons,List.any_nil,Bool.or_false,decide_eq_true_eq]
 cases (mkS r.n r.X r.e).isSome <;> cases (mkS r.m r.Y r.f).isSome <;> simp
def Iv(o:Option (Bool×Nat×Int))(lo hi:Int):Prop:=∃ n X e,o=some (n,X,e)/\o8 n X e/\(X=0\/(lo<=e/\e+(bl X:Int)<=hi))
theorem Iv.mono{o:Option (Bool×Nat×Int)}{a b c d:Int}(h:Iv o a b)(h1:c<=a)(h2:b<=d):Iv o c d:=by
 obtain⟨n,X,e,h,F,hb⟩:=h;exact⟨n,X,e,h,F,ae⟩
theorem Jr(n:Bool)(X:Nat)(e a b:Int)(h:X=0\/(a<=e/\e+(bl X:Int)<=b))(hw:b-a<=262144)(ha:-1048576<=a)(hb:b<=1048576):Iv (mkS n X e) a b:=by
 by_cases h0:X=0
 · subst h0;rw[fq];exact⟨false,0,0,rfl,⟨.inr ⟨rfl,rfl,rfl⟩,by rw[dZ];omega,ae,ae⟩,.inl rfl⟩
 · obtain⟨h1,h2⟩:=h.resolve_left h0;obtain⟨k,o1,o2,o3⟩:=jb X h0;have hp:=eu (X/2^lo X) ae
   have e1:mkS n X e=some (n,X/2^lo X,e+lo X):=by
    unfold mkS;rw[if_neg h0,if_neg ae]
   exact⟨n,_,_,e1,cK e1,.inr ae⟩
theorem OI(X Y:Nat):bl (X*Y)<=bl X+bl Y:=gI (by rw[aJ];exact rH (iT X) (iT Y))
theorem Iv.mul{o p:Option (Bool×Nat×Int)}{a b c d:Int}(h1:Iv o a b)(h2:Iv p c d)(hw:(b+d)-(a+c)<=262144)(hl:-1048576<=a+c)(hh:b+d<=1048576):Iv (fu o p) (a+c) (b+d):=by
 obtain⟨n,X,e,rfl,F,hx⟩:=h1;obtain⟨m,Y,f,rfl,G,hy⟩:=h2;show Iv (mkS (n != m) (X*Y) (e+f)) _ _;refine Jr _ _ _ _ _ ?_ hw hl hh;rcases hx with rfl|hx
 · left;rw[dL]
 · rcases hy with rfl | hy
   · left;rw[jY]
   · right
     have:=OI X Y;omega
theorem OJ{X k:Nat}{j:Nat}(h:bl X+k<=j):X*2^k<2^j:=by
 have h1:=iT X;have h2:X*2^k<2^bl X*2^k:=dO h1 (aZ k);rw[<-aJ] at h2;exact iQ h2 (fe aj h)
theorem Gc(n m:Bool)(X Y:Nat)(e f a b:Int)(hfe:f<=e)(ha:a<=f)(h1:e+(bl X:Int)<=b)(h2:f+(bl Y:Int)<=b)(hw:b+1-a<=262144)(hl:-1048576<=a)(hh:b+1<=1048576)(hX:X≠0):Iv (ll n X e m Y f) a (b+1):=by
 have hp:=eu X hX;unfold ll;rw[if_neg ae];obtain⟨j,hj⟩:∃ j:Nat,(j:Int)=b-f:=⟨(b-f).toNat,ae⟩;have b1:X*2^(e-f).toNat<2^j:=OJ ae;have b2:Y<2^j:=iQ (iT Y) (fe aj ae)
 have fin:∀ (s:Bool) (Z:Nat),Z<2^(j+1)->Iv (mkS s Z f) a (b+1):=by
  intro s Z hZ;refine Jr s Z f a (b+1) ?_ hw hl hh
  by_cases h0:Z=0
  · exact .inl h0
  · right
    have:=gI hZ;omega
 have b3:(2:Nat)^(j+1)=2*2^j:=by rw[fC,cu]
 split
 · exact fin _ _ ae
 · split
   · exact fin _ _ ae
   · exact fin _ _ ae
theorem Iv.add{o p:Option (Bool×Nat×Int)}{a b:Int}(h1:Iv o a b)(h2:Iv p a b)(hw:b+1-a<=262144)(hl:-1048576<=a)(hh:b+1<=1048576):Iv (jv o p) a (b+1):=by
 have h1':=h1;have h2':=h2;obtain⟨n,X,e,rfl,F,hx⟩:=h1;obtain⟨m,Y,f,rfl,G,hy⟩:=h2;show Iv (tZ (n,X,e) (m,Y,f)) a (b+1);unfold tZ;simp only
 by_cases hX:X=0
 · rw[if_pos hX];exact h2'.mono ae ae
 · rw[if_neg hX]
   by_cases hY:Y=0
   · rw[if_pos hY];exact h1'.mono ae ae
   · rw[if_neg hY];have ex:=hx.resolve_left hX;have ey:=hy.resolve_left hY
     split
     · exact Gc m n Y X f e a b ae ex.1 ey.2 ex.2 hw hl hh hY
     · exact Gc n m X Y e f a b ae ey.1 ex.2 ey.2 hw hl hh hX
def xw(o:Option (Bool×Nat×Int)):Int:=zv (-1048576) (dN o,dX o,dE o)
theorem fvO{o:Option (Bool×Nat×Int)}{n:Bool}{X:Nat}{e:Int}(h:mkS n X e=o)(hs:o.isSome=true):Fv (-1048576) o (xw o):=by
 cases o with
 | none=>cases hs
 | some d=>obtain⟨n1,X1,e1⟩:=d;exact⟨n1,X1,e1,rfl,cK h,rfl⟩
theorem Fv.Sa{o:Option (Bool×Nat×Int)}{B z:Int}(h:Fv B o z):dX o=0↔z=0:=by
 obtain⟨n,X,e,rfl,F,rfl⟩:=h.ex;constructor
 · intro h0;exact qY B h0
 · intro h0;show X=0;rcases jZ X with q|q
   · exact q
   · exfalso;have:=iq q (aZ (e-B).toNat);unfold zv qX at h0
     cases n <;> simp only[fJ,if_false,if_true] at h0 <;> omega
theorem Fv.Wu{o:Option (Bool×Nat×Int)}{B z:Int}(h:Fv B o z):dN o=true↔z<0:=by
 obtain⟨n,X,e,rfl,F,rfl⟩:=h.ex;show n=true↔_;rcases F.odd with q|⟨rfl,rfl,rfl⟩
 · have:=iq (show 0<X by omega) (aZ (e-B).toNat);unfold zv qX
   cases n <;> simp only[fJ,if_false,if_true,false_iff,true_iff] <;> omega
 · simp[zv]
theorem Fv.zB{o:Option (Bool×Nat×Int)}{B z:Int}(h:Fv B o z):mkS (dN o) (dX o) (dE o)=o:=by
 obtain⟨n,X,e,rfl,F,rfl⟩:=h.ex;exact F.self
theorem Fv.len{o:Option (Bool×Nat×Int)}{B z:Int}(h:Fv B o z):(ws (dX o)).length<=8192:=by
 obtain⟨n,X,e,rfl,F,_⟩:=h.ex;exact dS F
def Fm(o:Option (Bool×Nat×Int)):Prop:=∃ B x,Fv B o x
theorem Fm.len{o:Option (Bool×Nat×Int)}(h:Fm o):(ws (dX o)).length<=8192:=by obtain⟨B,x,h⟩:=h;exact h.len
theorem Fm.re{o:Option (Bool×Nat×Int)}(h:Fm o):mkS (dN o) (dX o) (dE o)=o:=by obtain⟨B,x,h⟩:=h;exact h.zB
theorem Fm.qI{o:Option (Bool×Nat×Int)}(h:Fm o):-9223372036854775808<=dE o/\dE o<=9223372036854775807:=by
 obtain⟨B,x,h⟩:=h;obtain⟨n,X,e,rfl,F,_⟩:=h.ex;have:=F.up;have:=F.down;show -9223372036854775808<=e/\e<=9223372036854775807;omega
theorem xW:vK 0=0:=by
 have:=gm 0 0 (.inl rfl) ae;simpa using this
def Sb(V:Int):Option (Bool×Nat×Int):=mkS (decide (V<0)) V.natAbs (-1074)
theorem Qai{P:Prop}(h:P:=by
 unfold qX
 by_cases h:V<0
 · rw[decide_eq_true h,if_pos rfl];omega
 · rw[decide_eq_false h,if_neg aj];omega):P:=h
theorem Wv(V:Int):qX (decide (V<0))*(V.natAbs:Int)=V:=by
 exact Qai
theorem ZE(V:Int)(m:Nat)(hm:m<=200000)(hV:V.natAbs<2^m):Fo (Sb V) (V*(UU:Int)) (-1074) ((m:Int)-1074):=by
 by_cases h0:V=0
 · subst h0;refine⟨⟨false,0,0,?_,?_,?_,.inl rfl⟩⟩
   · unfold Sb;exact fq _ _
   · exact cK (fq false 0)
   · rw[qY _ rfl];simp
 · obtain⟨X,e,h1,h2,h3,h4⟩:=Rn (decide (V<0)) V.natAbs (-1074) (-1074) ((m:Int)-1074) ae ae (by have:=blLe hV;omega) ae ae ae;refine⟨⟨_,X,e,h1,cK h1,?_,.inr ⟨h3,h4⟩⟩⟩;rw[nM h1 (-2097152) (.inr ae)];have e1:(2:Nat)^((-1074:Int) - -2097152).toNat=UU*SS:=US _ aj;rw[e1,gM,gM,<-kE,Wv,kE]
theorem Ww{o:Option (Bool×Nat×Int)}{V L H:Int}(h:Fo o (V*(UU:Int)) L H)(m:Nat)(hm:m<=200000)(hV:V.natAbs<2^m):o=Sb V:=by
 obtain⟨n,X,e,rfl,F1,z1,_⟩:=h.ex;obtain⟨n',X',e',h2,F2,z2,_⟩:=(ZE V m hm hV).ex;rw[h2];obtain⟨rfl,rfl,rfl⟩:=Rk F1 F2 (-2097152) ae (by rw[z1,z2]);rfl
theorem Sc{x:Nat}(hx:Wd x)(fx:dR x)(m:Nat)(hm:m=2098):(q8 x).natAbs<2^m:=by
 unfold q8;rw[Zo];have:=RA (aK x) fx 2045 rfl;obtain⟨a,ha⟩:∃ a,a=2045:=⟨_,rfl⟩;have h2:=RA (aK x) fx a ha;rw[show m=53+a by omega,aJ];exact h2
theorem Sd{x:Nat}(hx:Wd x)(fx:dR x):XZ (aV x) (aK x)=Sb (q8 x):=by
 obtain⟨n,X,e,h1,h2,_⟩:=RB (aV x) (aK x) fx;rw[h1];exact Ww h2 2098 ae (Sc hx fx 2098 rfl)
theorem Wx(x:Nat)(hx:Wd x/\dR x)(w:World)(hT:dU w) :
 Calls Tryz.prog 83 #[.float .f64 x] w fun r w'=>(∃ v,r=.returned (.tuple #[.agg #[.bool (dN (Sb (q8 x))),v,.int .i64 (dE (Sb (q8 x)))],.int .i64 0])/\Nt w.heap.size w' v (dX (Sb (q8 x))))/\Below w.heap.size w w':=by
 obtain⟨h1,h2,h3,_⟩:=mD (aV x) (aK x) (jm hx.2);have:=QH (aV x) (aK x/4503599627370496) (aK x%4503599627370496) h2 h3 w hT;rw[<-h1,<-qd x hx.1] at this;refine this.mono ?_;rintro r w' ⟨⟨v,rfl,hN⟩,hb⟩;have e:=Sd hx.1 hx.2;unfold XZ at e;rw[e] at hN |-;have he:QF (aK x/4503599627370496)=0:=by unfold QF;rw[if_neg (by have:=hx.2;omega)]
 rw[he];exact⟨⟨v,rfl,hN⟩,hb⟩
end
section
open Go.RowKit J
theorem mG(g:Nat)(w:World)(x y z:Value):But g w (dM w g x y z):=(((But.refl g w).set _ _).set _ _).set _ _
def Lo(w:World)(g:Nat)(o:Option (Bool×Nat×Int)):Prop:=∃ a c,Dk w g (dN o) (.slice a (ws (dX o)).length c) (dE o)/\Nt 0 w (.slice a (ws (dX o)).length c) (dX o)
theorem Lo.below{w w':World}{g:Nat}{o:Option (Bool×Nat×Int)}(h:Lo w g o)(hb:Below w.heap.size w w'):Lo w' g o:=by
 obtain⟨a,c,h1,h2⟩:=h;exact⟨a,c,h1.below hb,h2.below hb⟩
theorem Lo.lt{w:World}{g:Nat}{o:Option (Bool×Nat×Int)}(h:Lo w g o):g<w.heap.size:=by
 obtain⟨a,c,h1,h2⟩:=h;exact h1.lt
theorem Nt.uj{lo g:Nat}{w:World}{v:Value}{X:Nat}{n:Bool}{a:Option Addr}{l c:Nat}{e:Int}(h:Nt lo w v X)(D:Dk w g n (.slice a l c) e)(x y z:Value):Nt lo (dM w g x y z) v X:=by
 refine h.off (mG g w x y z) ?_;rcases h.2 with ⟨rfl,_⟩|⟨g',cap,cur,rfl,_,hg,_⟩
 · simp[Value.ownBlock]
 · intro e';obtain rfl:g'=g:=by simpa [Value.ownBlock] using e'
   rw[show w.heap[g']?=_ from D] at hg;simp at hg
theorem Lo.set{w:World}{g:Nat}{o p:Option (Bool×Nat×Int)}(h:Lo w g o){a:Option Addr}{c:Nat}(hN:Nt 0 w (.slice a (ws (dX p)).length c) (dX p)) :
 Lo (dM w g (.bool (dN p)) (.slice a (ws (dX p)).length c) (.int .i64 (dE p))) g p:=by
 obtain⟨a0,c0,h1,h2⟩:=h;exact⟨a,c,h1.set _ _ _,hN.uj h1 _ _ _⟩
theorem Lo.other{w:World}{g g':Nat}{o p:Option (Bool×Nat×Int)}(h:Lo w g o)(h':Lo w g' p)(hg:g≠g')(x y z:Value):Lo (dM w g' x y z) g o:=by
 obtain⟨a,c,h1,h2⟩:=h;obtain⟨a0,c0,k1,k2⟩:=h';exact⟨a,c,h1.other _ hg _ _ _,h2.uj k1 _ _ _⟩
theorem Lo.new{w:World}{o:Option (Bool×Nat×Int)}{a:Option Addr}{c:Nat}(hN:Nt 0 w (.slice a (ws (dX o)).length c) (dX o)):Lo (w.alloc (Obj.cells #[.bool (dN o),.slice a (ws (dX o)).length c,.int .i64 (dE o)] 25)) w.heap.size o :=
 ⟨a,c,Dk.new _ _ _ _,hN.below (af _ _)⟩
abbrev iY:Option (Bool×Nat×Int):=some (false,0,0)
theorem Yd:(ws (dX iY)).length=0:=by simp[dX,bO]
theorem Lo.zero(w:World):Lo (w.alloc (Obj.cells zD3 25)) w.heap.size iY:=by
 refine⟨none,0,?_,?_⟩
 · rw[Yd];exact Dk.new _ _ _ _
 · rw[Yd];exact Nt.nil _ _
theorem Fm.er{o:Option (Bool×Nat×Int)}(h:Fm o):o7 o=0:=by
 obtain⟨B,x,h⟩:=h;obtain⟨n,X,e,rfl,_⟩:=h.ex;rfl
theorem Fm.a12{o:Option (Bool×Nat×Int)}{w:World}{a:Option Addr}{c:Nat}(F:Fm o)(N:Nt 0 w (.slice a (ws (dX o)).length c) (dX o)):Arg w a (ws (dX o)).length c (ws (dX o)):=(N.aY (dW F.len aj)).2
theorem ZF{U:World}{a b:Option Addr}{c d:Nat}{o p q:Option (Bool×Nat×Int)}(F:Fm o)(G:Fm p)(N1:Nt 0 U (.slice a (ws (dX o)).length c) (dX o))(N2:Nt 0 U (.slice b (ws (dX p)).length d) (dX p))(hT:dU U)(h:fu o p=q)(H:Fm q) :
 Calls Tryz.prog 56 #[.agg #[.bool (dN o),.slice a (ws (dX o)).length c,.int .i64 (dE o)],.agg #[.bool (dN p),.slice b (ws (dX p)).length d,.int .i64 (dE p)]] U fun r w'=>(∃ v,r=.returned (.tuple #[.agg #[.bool (dN q),v,.int .i64 (dE q)],.int .i64 0])/\Nt U.heap.size w' v (dX q))/\Below U.heap.size U w':=by
 have:=zi (F.a12 N1) (G.a12 N2) hT (dN o) (dN p) (dE o) (dE p) F.qI.1 F.qI.2 G.qI.1 G.qI.2;rw[ak,ak,F.re,G.re,h] at this;unfold dm at this;rw[H.er] at this;exact this
theorem Wy{U:World}{a b:Option Addr}{c d:Nat}{o p q:Option (Bool×Nat×Int)}(F:Fm o)(G:Fm p)(N1:Nt 0 U (.slice a (ws (dX o)).length c) (dX o))(N2:Nt 0 U (.slice b (ws (dX p)).length d) (dX p))(hT:dU U)(h:jv o p=q)(H:Fm q) :
 Calls Tryz.prog 100 #[.agg #[.bool (dN o),.slice a (ws (dX o)).length c,.int .i64 (dE o)],.agg #[.bool (dN p),.slice b (ws (dX p)).length d,.int .i64 (dE p)]] U fun r w'=>(∃ v,r=.returned (.tuple #[.agg #[.bool (dN q),v,.int .i64 (dE q)],.int .i64 0])/\Nt U.heap.size w' v (dX q))/\Below U.heap.size U w':=by
 have:=Fg (F.a12 N1) (G.a12 N2) hT (dN o) (dN p) (dE o) (dE p) F.qI.1 F.qI.2 G.qI.1 G.qI.2;rw[ak,ak,F.re,G.re,h] at this;unfold dm at this;rw[H.er] at this;exact this
theorem Lo.shape{w:World}{lo:Nat}{v:Value}{q:Option (Bool×Nat×Int)}(H:Fm q)(h:Nt lo w v (dX q)):∃ a c,v=.slice a (ws (dX q)).length c/\Nt 0 w v (dX q):=by
 obtain⟨a,c,rfl,_⟩:=h.arg (dW H.len aj);exact⟨a,c,rfl,h.mono (nV _)⟩
end
section
open Go.RowKit
theorem ZG{n:Bool}{X:Nat}{e:Int}(F:o8 n X e)(B:Int):Fv B (some (n,X,e)) (zv B (n,X,e)):=⟨n,X,e,rfl,F,rfl⟩
end
section
open Go.RowKit Go.Shelf J
attribute [local go_sem] Oper.semAt_some
def oW(x:Nat):Option (Bool×Nat×Int):=Sb (q8 x)
end
section
open Go.RowKit
theorem Iv.fm{o:Option (Bool×Nat×Int)}{a b:Int}(h:Iv o a b):Fm o:=by
 obtain⟨n,X,e,rfl,F,_⟩:=h;exact⟨0,_,ZG F 0⟩
theorem ZH{o:Option (Bool×Nat×Int)}{B x:Int}(h:Fv B o x)(hB:B<=-1048576)(D:Int)(hD:D<=0):Fv (B+D) o (x*((2^(0-D).toNat:Nat):Int)):=by
 obtain⟨n',X',e',hx,F',hz⟩:=h.ex;refine⟨n',X',e',hx,F',?_⟩;rw[<-hz];unfold zv;simp only;rw[kE,<-gM,aM,<-aJ];have:=F'.down;rw[show(e'-(B+D)).toNat=(e'-B).toNat+(0-D).toNat by omega]
end
section
open Go.RowKit J
def EK:Nat:=1048576
theorem exP(a:Nat):∃ u:Nat,u=2^a:=⟨_,rfl⟩
noncomputable def MM:Nat:=Classical.choose (exP EK)
theorem ZI:MM=2^EK:=CO (exP EK)
theorem M_pos:0<MM:=by rw[ZI];exact aZ _
theorem Fm.sm{o:Option (Bool×Nat×Int)}(h:Fm o):o.isSome=true:=by
 obtain⟨B,x,h⟩:=h;obtain⟨n,X,e,rfl,_⟩:=h.ex;rfl
theorem Fm.val{o:Option (Bool×Nat×Int)}(h:Fm o):Fv (-1048576) o (xw o):=fvO h.re h.sm
theorem Fv.uniq{B x y:Int}{o:Option (Bool×Nat×Int)}(h1:Fv B o x)(h2:Fv B o y):x=y:=by
 obtain⟨n,X,e,ho,_,hz⟩:=h1.ex;obtain⟨n',X',e',ho',_,hz'⟩:=h2.ex;rw[ho] at ho'
 cases ho'
 exact hz.symm.trans hz'
theorem val_mul{o p:Option (Bool×Nat×Int)}(F:Fm o)(G:Fm p)(H:Fm (fu o p)):xw (fu o p)*(MM:Int)=xw o*xw p:=by
 have h1:=Fv.mul aj aj F.val G.val H.sm;have h2:=ZH H.val aj (-1048576) aj;rw[show((0:Int) - -1048576).toNat=EK from rfl,<-ZI] at h2;exact(h1.uniq h2).symm
theorem val_add{o p:Option (Bool×Nat×Int)}(F:Fm o)(G:Fm p)(H:Fm (jv o p)):xw (jv o p)=xw o+xw p :=
 H.val.uniq (Fv.add aj F.val G.val H.sm)
theorem Gd{o p:Option (Bool×Nat×Int)}(F:Fm o)(G:Fm p)(h:xw o=xw p):o=p:=by
 obtain⟨h1,h2,h3⟩:=Fv.same aj F.val G.val h;obtain⟨n,X,e,rfl,_⟩:=F.val.ex;obtain⟨m,Y,f,rfl,_⟩:=G.val.ex;have h1:n=m:=h1;have h2:X=Y:=h2;have h3:e=f:=h3;rw[h1,h2,h3]
theorem val_mk{n:Bool}{X:Nat}{e:Int}(h:Fm (mkS n X e))(he:-1048576<=e)(k:Nat)(hk:(e+1048576).toNat=k):xw (mkS n X e)=qX n*((X*2^k:Nat):Int):=by
 obtain⟨⟨n',Y,f⟩,ho⟩:=CL.1 h.sm;have:=nM ho (-1048576) (.inr he);rw[show(e - -1048576).toNat=k by rw[<-hk];congr 1] at this;rw[<-this,ho];rfl
theorem Js(V:Int)(K:Nat):qX (decide (V<0))*((V.natAbs*K:Nat):Int)=V*(K:Int):=by
 rw[gM,<-kE];congr 1;exact Qai
def Bd(m:Nat)(V:Int):Prop:=V.natAbs<=2^m
theorem Bd.mono{m k:Nat}{V:Int}(h:Bd m V)(hk:m<=k):Bd k V:=dW h (fe aj hk)
theorem Bd.lt{m:Nat}{V:Int}(h:Bd m V):V.natAbs<2^(m+1):=by
 unfold Bd at h;rw[fC];have:=aZ m;omega
theorem Bd.mul{a b:Nat}{V W:Int}(h:Bd a V)(k:Bd b W):Bd (a+b) (V*W):=by
 unfold Bd at *;rw[yj,aJ];exact kC h k
theorem Bd.add{m:Nat}{V W:Int}(h:Bd m V)(k:Bd m W):Bd (m+1) (V+W):=by
 unfold Bd at *;rw[fC];omega
theorem Bd.neg{m:Nat}{V:Int}(h:Bd m V):Bd m (-V):=by
 unfold Bd at *;rw[Int.natAbs_neg];exact h
theorem Bd.sub{m:Nat}{V W:Int}(h:Bd m V)(k:Bd m W):Bd (m+1) (V-W):=by
 rw[Int.sub_eq_add_neg];exact h.add k.neg
theorem Bd.zero(m:Nat):Bd m 0:=nV _
theorem Bd.one(m:Nat):Bd m 1:=aZ m
theorem Bd.nat{n k:Nat}(h:n<=2^k):Bd k (n:Int):=h
theorem Bd.pow{a:Nat}{V:Int}(h:Bd a V):∀ k:Nat,Bd (a*k) (V^k)
 | 0=>by rw[Int.pow_zero];exact Bd.one _
 | k+1=>by rw[Int.pow_succ,yn];exact(Bd.pow h k).mul h
def gV(u:Nat)(V:Int):Option (Bool×Nat×Int):=mkS (decide (V<0)) V.natAbs (-(u:Int))
theorem OL{u m:Nat}{V:Int}(hu:u<=100000)(hm:m<=99999)(hV:Bd m V):Iv (gV u V) (-(u:Int)) (((m+1:Nat):Int)-(u:Int)):=by
 unfold gV;refine Jr _ _ _ _ _ (.inr ⟨ae,?_⟩) ae ae ae;have:=gI hV.lt;omega
theorem dJ{u m:Nat}{V:Int}(hu:u<=100000)(hm:m<=99999)(hV:Bd m V):Fm (gV u V):=(OL hu hm hV).fm
theorem zJ{u:Nat}{V:Int}(h:Fm (gV u V))(hu:u<=1000000)(k:Nat)(hk:k+u=EK):xw (gV u V)=V*((2^k:Nat):Int):=by
 unfold gV at h |-;rw[val_mk h ae k (by unfold EK at hk;omega),Js]
theorem exK(u:Nat)(hu:u<=1000000):∃ k,k+u=EK:=⟨EK-u,by unfold EK;omega⟩
theorem mY{u v a b:Nat}{V W:Int}(hu:u<=50000)(hv:v<=50000)(ha:a<=40000)(hb:b<=40000)(h1:Bd a V)(h2:Bd b W):fu (gV u V) (gV v W)=gV (u+v) (V*W):=by
 have F:=OL (u:=u) ae ae h1;have G:=OL (u:=v) ae ae h2;have hF:=(F.mul G ae ae ae).fm;have hG:=dJ (u:=u+v) ae ae (h1.mul h2);refine Gd hF hG ?_;obtain⟨k1,e1⟩:=exK u ae;obtain⟨k2,e2⟩:=exK v ae;obtain⟨k3,e3⟩:=exK (u+v) ae;have h:=val_mul F.fm G.fm hF;rw[zJ F.fm ae k1 e1,zJ G.fm ae k2 e2] at h;rw[zJ hG ae k3 e3];have hM:=M_pos;refine Int.eq_of_mul_eq_mul_right (a:=(MM:Int)) ae (h.trans ?_)
 have e:((2^k1:Nat):Int)*((2^k2:Nat):Int)=((2^k3:Nat):Int)*(MM:Int):=by
  rw[<-gM,<-gM,ZI,<-aJ,<-aJ,show k1+k2=k3+EK by omega]
 rw[kE (V*W),<-e,kE,kE,Int.mul_left_comm W]
theorem zK{u m:Nat}{V W:Int}(hu:u<=100000)(hm:m<=90000)(h1:Bd m V)(h2:Bd m W):jv (gV u V) (gV u W)=gV u (V+W):=by
 have F:=OL (u:=u) ae ae h1;have G:=OL (u:=u) ae ae h2;have hF:=(F.add G ae ae ae).fm;have hG:=dJ (u:=u) ae ae (h1.add h2);refine Gd hF hG ?_;obtain⟨k1,e1⟩:=exK u ae;rw[val_add F.fm G.fm hF,zJ F.fm ae k1 e1,zJ G.fm ae k1 e1,zJ hG ae k1 e1,Int.add_mul]
theorem Ye(u:Nat)(W:Int):ZA (gV u W)=gV u (-W):=by
 unfold gV;rw[R9,Int.natAbs_neg]
 by_cases h:W=0
 · subst h;rw[Int.natAbs_zero,fq,fq]
 · congr 1
   by_cases h1:W<0
   · rw[decide_eq_true h1,decide_eq_false ae];rfl
   · rw[decide_eq_false h1,decide_eq_true ae];rfl
theorem Sg{u m:Nat}{V W:Int}(hu:u<=100000)(hm:m<=90000)(h1:Bd m V)(h2:Bd m W):jv (gV u V) (mkS (!dN (gV u W)) (dX (gV u W)) (dE (gV u W)))=gV u (V-W):=by
 rw[wN (dJ (u:=u) ae ae h2).sm,Ye,zK hu hm h1 h2.neg,<-Int.sub_eq_add_neg]
theorem nP(u:Nat):gV u 0=iY:=fq _ _
theorem g_oW(x:Nat):oW x=gV 1074 (q8 x):=rfl
theorem ZJ{u m:Nat}{V:Int}(hu:u<=100000)(hm:m<=90000)(h:Bd m V):(dX (gV u V)=0↔V=0)/\(dN (gV u V)=true↔V<0):=by
 have F:=dJ (u:=u) hu ae h;obtain⟨k,e⟩:=exK u ae;have hv:=F.val;rw[zJ F ae k e] at hv;have hp:(0:Int)<((2^k:Nat):Int):=by have:=aZ k;omega
 refine⟨hv.Sa.trans ?_,hv.Wu.trans ?_⟩
 · constructor
   · intro q;rcases yD.1 q with q|q
     · exact q
     · omega
   · rintro rfl;rw[Int.zero_mul]
 · constructor
   · intro q;rcases Int.lt_or_le V 0 with r|r
     · exact r
     · have:=uL r (yu hp);omega
   · intro q;exact Int.mul_neg_of_neg_of_pos q hp
def tS(f:Nat->Int):Nat->Int
 | 0=>0
 | n+1=>tS f n+f n
theorem kg{f g:Nat->Int}:∀ {n:Nat},(∀ i,i<n->f i=g i)->tS f n=tS g n
 | 0,_=>rfl
 | n+1,h=>by
   show tS f n+f n=tS g n+g n;rw[kg fun i hi=>h i ae,h n ae]
theorem Yf{f:Nat->Int}{m:Nat}:∀ {n:Nat},(∀ i,i<n->Bd m (f i))->(tS f n).natAbs<=n*2^m
 | 0,_=>by simp[tS]
 | n+1,h=>by
   have h1:=Yf (n:=n) fun i hi=>h i ae;have h2:=h n ae;unfold Bd at h2;show(tS f n+f n).natAbs<=_;rw[yo];omega
theorem uk{f:Nat->Int}{m n:Nat}(h:∀ i,i<n->Bd m (f i))(hn:n<=65536)(k:Nat)(hk:k<=n):Bd (m+16) (tS f k):=by
 have h1:=Yf (n:=k) fun i hi=>h i ae;have h2:k*2^m<=65536*2^m:=eZ _ ae;unfold Bd;rw[aJ,cu (2^m)];exact dW h1 h2
theorem Si(f g:Nat->Int):∀ n,tS (fun i=>f i+g i) n=tS f n+tS g n
 | 0=>rfl
 | n+1=>by
   show tS _ n+(f n+g n)=tS f n+f n+(tS g n+g n);rw[Si f g n];omega
theorem qL(c:Int)(f:Nat->Int):∀ n,tS (fun i=>c*f i) n=c*tS f n
 | 0=>by simp[tS]
 | n+1=>by
   show tS _ n+c*f n=c*(tS f n+f n);rw[qL c f n,Int.mul_add]
theorem Sj{x:Nat}(hx:x<18446744073709551616)(fx:dR x):Bd 2098 (q8 x):=by
 obtain⟨m,hm⟩:∃ m,m=2098:=⟨_,rfl⟩;have h:Bd m (q8 x):=jm (Sc hx fx m hm);rw[hm] at h;exact h
attribute [irreducible] Bd
end
section
open Go.RowKit
open Go.Proofs.YtfmfhehbdfhnbaaGreatDoor.B (bF aH bw)
attribute [local go_sem] bF aH
def kd(b:Nat):Nat :=
 if 9218868437227405312<b%9223372036854775808 then 5
 else if b%9223372036854775808=9218868437227405312 then(if b/9223372036854775808=1 then 4 else 3)
 else if b%9223372036854775808=0 then(if b/9223372036854775808=1 then 1 else 2)
 else 0
def kp(k:Nat):Nat:=if k=5 then 0 else if k=3 then 1 else if k=4 then 2 else if k=1 then 3 else if k=2 then 4 else 5
theorem kd_bw(s:Bool)(e f:Nat)(he:e<2048)(hf:f<4503599627370496):kd (bw s e f)=if e=2047 then(if f=0 then(if s then 4 else 3) else 5) else if e=0/\f=0 then(if s then 1 else 2) else 0:=by
 unfold kd bw;have h1:(s.toNat*9223372036854775808+e*4503599627370496+f)%9223372036854775808=e*4503599627370496+f:=by cases s <;> simp only[kU,kV] <;> omega
 have h2:(s.toNat*9223372036854775808+e*4503599627370496+f)/9223372036854775808=s.toNat:=by cases s <;> simp only[kU,kV] <;> omega
 rw[h1,h2]
 by_cases he2:e=2047
 · subst he2;rw[if_pos rfl]
   by_cases hf0:f=0
   · subst hf0;cases s <;> simp
   · rw[if_pos ae,if_neg hf0]
 · rw[if_neg he2,if_neg ae,if_neg ae]
   by_cases h0:e=0/\f=0
   · obtain⟨rfl,rfl⟩:=h0;cases s <;> simp
   · rw[if_neg ae,if_neg h0]
theorem zL(neg:Bool)(a b:Int)(w:World):Calls Tryz.prog 158 #[.bool neg,.int .i64 a,.int .i64 b] w fun r w'=>r=.returned (.int .i64 (if neg then a else b))/\w'=w:=by
 cases neg <;>
 · go_enter Tryz.func158,Tryz.ntmps158;exact XS
theorem yq{P:Prop}(h:P:=by
 go_enter Tryz.func114,Tryz.ntmps114;go_wp2_with fail;refine(H.o _).mono ?_;rintro r w1 ⟨rfl,hb1⟩;have HB:=aA hb1;have hz:=hb1.size;clear hb1;go_wp2;go_ret;exact⟨rfl,(HB.o.alloc hz _)⟩):P:=h
theorem z6{P:Prop}(h:P:=by
 rw[hk];clear hc hg hx hk;go_enter Tryz.func114,Tryz.ntmps114;go_wp2_with fail;refine(H.o _).mono ?_;rintro r w1 ⟨rfl,hb1⟩;have HB:=aA hb1;have hz:=hb1.size;clear hb1;go_wp2_with fail;refine(HS.o _).mono ?_;rintro r w2 ⟨rfl,rfl⟩;go_wp2;go_ret;exact⟨rfl,(HB.o.alloc hz _)⟩):P:=h
theorem Sk(b:Nat)(hb:b<18446744073709551616)(w:World):Calls Tryz.prog 114 #[.float .f64 b] w fun r w'=>r=.returned (.int .i64 (kp (kd b):Nat))/\Below w.heap.size w w':=by
 obtain⟨s,e,f,he,hf,rfl⟩:=B.bw_of b hb;rw[kd_bw s e f he hf];have H:=hid (B.uN s e f he hf);obtain⟨x1,hx1⟩:∃ x,B.xp e=x:=⟨_,rfl⟩;obtain⟨x2,hx2⟩:∃ x,B.fr e f=x:=⟨_,rfl⟩;rw[hx1,hx2] at H;clear hx1 hx2 hb
 by_cases he2:e=2047
 · subst he2
   by_cases hf0:f=0
   · subst hf0;have hc:B.cls 2047 0=3:=by unfold B.cls;rw[if_pos rfl,if_pos rfl]
     have hg:B.ng s 2047 0=s:=by unfold B.ng;rw[if_neg aQ]
     rw[hc,hg] at H;rw[if_pos rfl,if_pos rfl];have HS:=hid (zL s 2 1);obtain⟨x,hx⟩:∃ x:Int,(if s then 2 else 1)=x:=⟨_,rfl⟩;rw[hx] at HS;have hk:((kp (if s then 4 else 3):Nat):Int)=x:=by cases s <;> (subst hx;rfl)
     exact z6
   · have hc:B.cls 2047 f=4:=by unfold B.cls;rw[if_pos rfl,if_neg hf0]
     rw[hc] at H;rw[if_pos rfl,if_neg hf0];obtain⟨x3,hx3⟩:∃ x,B.ng s 2047 f=x:=⟨_,rfl⟩;rw[hx3] at H;clear hc hx3;exact yq
 · rw[if_neg he2];have hg:B.ng s e f=s:=by unfold B.ng;rw[if_neg (fun h=>he2 h.1)]
   rw[hg] at H
   by_cases h0:e=0/\f=0
   · obtain⟨rfl,rfl⟩:=h0;have hc:B.cls 0 0=0:=by unfold B.cls;rw[if_neg ae,if_pos rfl,if_pos rfl]
     rw[hc] at H;rw[if_pos ⟨rfl,rfl⟩];have HS:=hid (zL s 3 4);obtain⟨x,hx⟩:∃ x:Int,(if s then 3 else 4)=x:=⟨_,rfl⟩;rw[hx] at HS;have hk:((kp (if s then 1 else 2):Nat):Int)=x:=by cases s <;> (subst hx;rfl)
     exact z6
   · rw[if_neg h0]
     obtain⟨c,hc,h1,h2,h3⟩:∃ c:Int,B.cls e f=c/\(c==4)=false/\(c==3)=false/\(c==0)=false:=by
      unfold B.cls;rw[if_neg he2]
      by_cases he0:e=0
      · rw[if_pos he0,if_neg (fun h=>h0 ⟨he0,h⟩)];exact⟨_,rfl,aj,aj,aj⟩
      · rw[if_neg he0];exact⟨_,rfl,aj,aj,aj⟩
     rw[hc] at H;clear hc hg;exact yq
end
section
open Go.RowKit J
theorem zM{n K:Nat}{t:Bool}{m:Int}{V S:Nat}(h:gN vK 9218868437227405312 n K t m V S):vK K^n*S<=V/\((if t then K else K+1)<9218868437227405312->V<=vK (if t then K else K+1)^n*S):=by
 cases t with
 | true =>
   have:=h.one rfl;simp only[if_true];exact⟨ae,fun _=>by omega⟩
 | false =>
   have h1:=h.low rfl;simp only[fJ,if_false];refine⟨ae,fun hu=>?_⟩;rcases h.high rfl with q|⟨q,_⟩
   · omega
   · omega
end
section
open Go.RowKit
theorem rof8(x:Nat)(hx:Wd x/\dR x)(w:World) :
 Calls Tryz.prog 77 #[.float .f64 x] w fun r w'=>(∃ v,r=.returned (.tuple #[.agg #[.bool (dN (Sb (q8 x))),v,.int .i64 (dE (Sb (q8 x)))],.int .i64 0])/\Nt w.heap.size w' v (dX (Sb (q8 x))))/\Below w.heap.size w w':=by
 obtain⟨h1,h2,h3,_⟩:=mD (aV x) (aK x) (jm hx.2);have:=E9 (aV x) (aK x/4503599627370496) (aK x%4503599627370496) h2 h3 w;rw[<-h1,<-qd x hx.1] at this;refine this.mono ?_;rintro r w' ⟨⟨v,rfl,hN⟩,hb⟩;have e:=Sd hx.1 hx.2;unfold XZ at e;rw[e] at hN |-;have he:QF (aK x/4503599627370496)=0:=by unfold QF;rw[if_neg (by have:=hx.2;omega)]
 rw[he];exact⟨⟨v,rfl,hN⟩,hb⟩
section
attribute [local go_sem] B.bF B.aH
end
end
section
open Go.RowKit J
theorem Fm.two{o:Option (Bool×Nat×Int)}(h:Fm o):(ws (dX o)).length<=2000000:=dW h.len aj
theorem ZK{U:World}{a b:Option Addr}{c d:Nat}{o p q:Option (Bool×Nat×Int)}(F:Fm o)(G:Fm p)(N1:Nt 0 U (.slice a (ws (dX o)).length c) (dX o))(N2:Nt 0 U (.slice b (ws (dX p)).length d) (dX p))(h:fu o p=q)(H:Fm q) :
 Calls Tryz.prog 31 #[.agg #[.bool (dN o),.slice a (ws (dX o)).length c,.int .i64 (dE o)],.agg #[.bool (dN p),.slice b (ws (dX p)).length d,.int .i64 (dE p)]] U fun r w'=>(∃ v,r=.returned (.tuple #[.agg #[.bool (dN q),v,.int .i64 (dE q)],.int .i64 0])/\Nt U.heap.size w' v (dX q))/\Below U.heap.size U w':=by
 have:=Cb (F.a12 N1) (G.a12 N2) F.two G.two (dN o) (dN p) (dE o) (dE p) F.qI.1 F.qI.2 G.qI.1 G.qI.2;rw[ak,ak,F.re,G.re,h] at this;unfold dm at this;rw[H.er] at this;exact this
theorem ZL{U:World}{a b:Option Addr}{c d:Nat}{o p q:Option (Bool×Nat×Int)}(F:Fm o)(G:Fm p)(N1:Nt 0 U (.slice a (ws (dX o)).length c) (dX o))(N2:Nt 0 U (.slice b (ws (dX p)).length d) (dX p))(h:jv o p=q)(H:Fm q) :
 Calls Tryz.prog 64 #[.agg #[.bool (dN o),.slice a (ws (dX o)).length c,.int .i64 (dE o)],.agg #[.bool (dN p),.slice b (ws (dX p)).length d,.int .i64 (dE p)]] U fun r w'=>(∃ v,r=.returned (.tuple #[.agg #[.bool (dN q),v,.int .i64 (dE q)],.int .i64 0])/\Nt U.heap.size w' v (dX q))/\Below U.heap.size U w':=by
 have:=Ny (F.a12 N1) (G.a12 N2) F.two G.two (dN o) (dN p) (dE o) (dE p) F.qI.1 F.qI.2 G.qI.1 G.qI.2;rw[ak,ak,F.re,G.re,h] at this;unfold dm at this;rw[H.er] at this;exact this
theorem rof12(x:Nat)(hx:x<18446744073709551616)(fx:dR x)(w:World) :
 Calls Tryz.prog 77 #[.float .f64 x] w fun r w'=>(∃ v,r=.returned (.tuple #[.agg #[.bool (dN (oW x)),v,.int .i64 (dE (oW x))],.int .i64 0])/\Nt w.heap.size w' v (dX (oW x)))/\Below w.heap.size w w':=rof8 x ⟨hx,fx⟩ w
end
end Go.Proofs.YtfmfhehbdfhnbaaGreatDoor
