import Derived.Test.YtfmfhehbdfhnbaaGreatDoorZ7x
import Derived.Test.YtfmfhehbdfhnbaaGreatDoorD32ex
import Derived.Test.YtfmfhehbdfhnbaaGreatDoorD16x
import Derived.Test.YtfmfhehbdfhnbaaGreatDoorD21x
import Derived.Deep.Cut
import Derived.Test.YtfmfhehbdfhnbaaGreatDoorD2x
import Derived.Test.YtfmfhehbdfhnbaaGreatDoorW17x
import Derived.Laws.FloatArith
import Derived.Test.YtfmfhehbdfhnbaaGreatDoorJ19x
import Derived.Deep.RegionHeld3
import Derived.Test.YtfmfhehbdfhnbaaGreatDoorW40x
import Derived.Test.YtfmfhehbdfhnbaaGreatDoorD8x
import Derived.BigQuiet
import Derived.Deep.CutRange
import Derived.ProofKit
import Derived.OpenShut
import Derived.ChangeOld
import Derived.ChangeArms
import Derived.KernelRfl
import Derived.ArgAppend
import Derived.Maps.AppendAt
import Derived.WalkMore
import Derived.OwnWalk
import Derived.Deep.RegionWith
import Derived.Test.YtfmfhehbdfhnbaaGreatDoorM1x
import Derived.ChangeKeysEq
import Derived.Laws.OwnMore
import Derived.Lib.SliceRun
import Derived.Deep.RegionHeld
import Derived.Test.YtfmfhehbdfhnbaaGreatDoorW7x
import Derived.RangeFuncNested
import Derived.RangeFuncBound
import Derived.RangeFuncCalls
import Derived.RangeFuncLeaves
import Derived.RangeFuncBox
import Derived.Shelf.Abstract
import Derived.Shelf.RegionOpen
import Derived.WalkKit
import Derived.OwnWalkIn
import Derived.TacticsInMore
import Derived.LoopNIn
import Derived.LoopIn
import Derived.Test.YtfmfhehbdfhnbaaGreatDoorD31x
set_option linter.unusedVariables false
set_option linter.unusedSimpArgs false
set_option maxHeartbeats 16000000
set_option maxRecDepth 20000
namespace Go.Proofs.YtfmfhehbdfhnbaaGreatDoor
namespace J
end J
section
open Go.RowKit
theorem oZ (w:World) (n:Bool) (v:Value) (e:Int) (m:Bool) (u:Value) (f:Int) (W:World) (hW:W=w.alloc (.cells #[.bool n,v,.int .i64 e,.bool m,u,.int .i64 f] 58)) :
 Below w.heap.size w W/\W.heap.size=w.heap.size+1/\Rq W w.heap.size n v e m u f:=by
 rw [hW];exact ⟨ae w _,aO,Rq.new _ _ _ _ _ _ _⟩
theorem qw {w:World}{n m:Bool}{a b:Option Addr}{la ca lb cb:Nat}{X Y:Nat}{e f:Int}(mode:Int) (hr:Rv w ⟨n,.slice a la ca,X,e,m,.slice b lb cb,Y,f⟩) (hT:dJ w)
 (o1 o2 z:Option (Bool×Nat×Int)) (ew:Int) (rw':Nat×Int) (ho1:mkS n X e=o1) (ho2:mkS m Y f=o2) (lz:(ws (dX z)).length<=8192) (VC:ew≠0->rw'.1=0/\rw'.2=ew)
 (ANS:Nat×Int) (hANS:ANS=if mode<0\/4<mode then (0,1) else if iT (fun _=>(⟨n,.slice a la ca,X,e,m,.slice b lb cb,Y,f⟩:Ri)) 1=0 then rw' else (0,iT (fun _=>(⟨n,.slice a la ca,X,e,m,.slice b lb cb,Y,f⟩:Ri)) 1))
 (HW:Hid (∀ (u:World) (p q:Value),Below w.heap.size w u->Nt w.heap.size u p (dX o1)->Nt w.heap.size u q (dX o2)->iT (fun _=>(⟨n,.slice a la ca,X,e,m,.slice b lb cb,Y,f⟩:Ri)) 1=0->Calls Tryz.prog 59 #[.agg #[.bool (dN o1),p,.int .i64 (dE o1),.bool (dN o2),q,.int .i64 (dE o2)]] u fun r w'=>(∃ v,r=.returned (.tuple #[.agg #[.bool (dN z),v,.int .i64 (dE z)],.int .i64 ew])/\Nt u.heap.size w' v (dX z))/\Below u.heap.size u w'))
 (HR:Hid (∀ (u:World) (p:Option Addr) (q:Nat),ew=0->¬ (mode<0\/4<mode)->iT (fun _=>(⟨n,.slice a la ca,X,e,m,.slice b lb cb,Y,f⟩:Ri)) 1=0->Below w.heap.size w u->Arg u p (ws (dX z)).length q (ws (dX z))->Calls Tryz.prog 60 #[.agg #[.bool (dN z),.slice p (ws (dX z)).length q,.int .i64 (dE z)],.int .i64 mode] u fun r w'=>r=.returned (.tuple #[.float .f64 rw'.1,.int .i64 rw'.2])/\Below u.heap.size u w')) :
 Calls Tryz.prog 58 #[.agg #[.bool n,.slice a la ca,.int .i64 e,.bool m,.slice b lb cb,.int .i64 f],.int .i64 mode,.func (.func 59) #[] #[],.func (.func 60) #[] #[]] w fun r w'=>r=.returned (.tuple #[.float .f64 ANS.1,.int .i64 ANS.2])/\Below w.heap.size w w':=by
 obtain ⟨W1,hW1⟩:=ah (w.alloc (.cells #[.bool n,.slice a la ca,.int .i64 e,.bool m,.slice b lb cb,.int .i64 f] 58));obtain ⟨hB,hz1,Q1⟩:=oZ w n _ e m _ f W1 hW1
 by_cases hm:mode<0\/4<mode
 · rw [if_pos hm] at hANS;subst hANS;have S0:=ak hB;clear hB hz1 Q1 HW HR hr hT
   by_cases hm0:mode<0
   · have d1:=decide_eq_true hm0;go_enter Tryz.func58,Tryz.ntmps58
     go_upto_region 1 with fail
     rw [<-hW1];clear hW1;go_wp2
     go_ret2
     exact ⟨rfl,S0.o⟩
   · have d1:=decide_eq_false hm0;have o9:4<mode:=af
     have d2:=decide_eq_true o9;clear hm;go_enter Tryz.func58,Tryz.ntmps58
     go_upto_region 1 with fail
     rw [<-hW1];clear hW1;go_wp2
     go_ret2
     exact ⟨rfl,S0.o⟩
 · rw [if_neg hm] at hANS;obtain ⟨R,hR⟩:=ah (W1.alloc (.cells #[.bool n,.slice a la ca,.int .i64 e,.bool m,.slice b lb cb,.int .i64 f] 58));have hin:=Yb W1 _ (hr.below hB) (hT.belows hB) R hR;have hbR:Below W1.heap.size W1 R:=by rw [hR];exact ae _ _
   have HF:=hid (Ol R W1.heap.size _ hin);obtain ⟨I,hI⟩:∃ I:Nat->Ri,(fun _=>(⟨n,.slice a la ca,X,e,m,.slice b lb cb,Y,f⟩:Ri))=I:=⟨_,rfl⟩;rw [hI] at HF hANS HW HR;obtain ⟨x0,x1,x2,x3,x4,x5⟩:=Q1.facts;have RL:=ak hANS;have S0:=(gK (hB.trans (hbR.mono hB.size)) hI ho1 ho2);have d1:decide (mode<0)=false:=decide_eq_false (fun h=>hm (.inl h));have d2:decide (4<mode)=false:=decide_eq_false (fun h=>hm (.inr h));have HM:=ak hm;obtain ⟨g12,nz⟩:∃ g,W1.heap.size=g:=⟨_,rfl⟩;rw [nz] at HF;clear hB hz1 Q1 hin hbR hr hT hANS hI ho1 ho2 hm;go_enter Tryz.func58,Tryz.ntmps58
   go_upto_region 1 with fail
   rw [<-hW1];clear hW1;go_wp2_with fail;rw [<-hR];clear hR nz x0 x1 x2 x3 x4 x5;refine HF.o.mono ?_;rintro r u1 ⟨hor,hb⟩;clear HF;obtain ⟨aB,hI,ho1,ho2⟩:=S0.o;have S1:=ak (aB.trans (hb.mono aB.size));rcases hor with ⟨hne,rfl⟩|⟨h0,g',V,rfl,hO⟩
   · have HA2:=RL.o;rw [if_neg hne] at HA2;obtain ⟨er,her⟩:∃ er,iT I 1=er:=⟨_,rfl⟩;rw [her] at hne HA2 |-;have HA3:=ak HA2;have hnb:(er==0)=false:=by simp [hne]
     clear RL HA2 her hne aB hb hI ho1 ho2 S0 HW HR;go_wp2
     go_ret2
     rw [HA3.o];exact ⟨rfl,S1.o⟩
   · have HA2:=RL.o;rw [if_pos h0] at HA2;obtain ⟨q0,q1,q2,q3,q4,q5⟩:=hO.row.facts 0 af;obtain ⟨N1,N2⟩:=hO.Wy 0 af;simp only [eQ,dS] at q0 q1 q2 q3 q4 q5;unfold uK at q0 q1 q2 q3 q4 q5;have e0:I 0=⟨n,.slice a la ca,X,e,m,.slice b lb cb,Y,f⟩:=by rw [<-hI]
     rw [e0] at N1 N2;simp only [e0] at q0 q1 q2 q3 q4 q5 N1 N2;have m1:=aM n X e;have m2:=aM m Y f;rw [ho1] at q0 q2 N1 m1;rw [ho2] at q3 q5 N2 m2;obtain ⟨v1,hv1⟩:∃ v1,(V 0).1=v1:=⟨_,rfl⟩;obtain ⟨v2,hv2⟩:∃ v1,(V 0).2=v1:=⟨_,rfl⟩;rw [hv1] at q1 N1;rw [hv2] at q4 N2;obtain ⟨a1,c1,rfl,_⟩:=N1.arg af;obtain ⟨a2,c2,rfl,_⟩:=N2.arg af;have HC:=hid (HW.o u1 _ _ (aB.trans (hb.mono aB.size)) (N1.mono (by have:=aB.size;omega)) (N2.mono (by have:=aB.size;omega)) h0);have S2:=(aJ h0 HA2);clear RL HA2 aB hb hI ho1 ho2 S0 hO N1 N2 HW h0 hv1 hv2 e0;go_wp2_with fail;clear q0 q1 q2 q3 q4 q5;refine HC.o.mono ?_;rintro r u2 ⟨⟨v,rfl,NZ⟩,hb⟩;obtain ⟨az,cz,rfl,_⟩:=NZ.arg af;clear HC;obtain ⟨U3,xG⟩:=ah (u2.alloc (.cells #[.bool (dN z),.slice az (ws (dX z)).length cz,.int .i64 (dE z)] 25));have iJ:Below u2.heap.size u2 U3:=by rw [xG];exact ae _ _
     have bb:=S1.o.trans (hb.mono S1.o.size);have bc:=bb.trans (iJ.mono bb.size)
     by_cases wS:ew=0
     · have TZ:Tk U3 u2.heap.size 25 (.bool (dN z)) (.slice az (ws (dX z)).length cz) (.int .i64 (dE z)):=by rw [xG];exact Tk.new _ _ _ _ _
       have HD:=hid (HR.o U3 az cz wS HM.o S2.o.1 bc ((NZ.below iJ).aU af).2);obtain ⟨x0,x1,x2,_,_,_⟩:=TZ.facts;have S3:=(aJ bc S2.o.2);clear bb bc hb iJ NZ TZ S1 S2 HR HM VC;subst wS
       go_upto_region 7 with fail
       rw [<-xG];clear xG;go_wp2_with fail;refine HD.o.mono ?_;rintro r u3 ⟨rfl,hb⟩;have S4:=ak (S3.o.1.trans (hb.mono S3.o.1.size));clear hb HD x0 x1 x2;go_wp2
       go_ret2
       rw [S3.o.2];exact ⟨rfl,S4.o⟩
     · have hnb:(ew==0)=false:=by simp [wS]
       have hA:ANS=(0,ew):=by
        rw [S2.o.2];have:=VC wS;rw [<-this.1,<-this.2]
       have S3:=(aJ bc hA);clear bb bc hb iJ NZ S1 S2 HR HM VC hA wS
       go_upto_region 7 with fail
       rw [<-xG];clear xG;go_wp2
       go_ret2
       rw [S3.o.2];exact ⟨rfl,S3.o.1⟩
theorem Om {w:World}{a b:Option Addr}{la ca lb cb:Nat}(n m:Bool) (e f mode:Int) (ANS:Nat×Int)
 (HR:Hid (∀ u:World,Below w.heap.size w u->Calls Tryz.prog 58 #[.agg #[.bool n,.slice a la ca,.int .i64 e,.bool m,.slice b lb cb,.int .i64 f],.int .i64 mode,.func (.func 59) #[] #[],.func (.func 60) #[] #[]] u fun r w'=>r=.returned (.tuple #[.float .f64 ANS.1,.int .i64 ANS.2])/\Below u.heap.size u w')) :
 Calls Tryz.prog 27 #[.agg #[.bool n,.slice a la ca,.int .i64 e,.bool m,.slice b lb cb,.int .i64 f],.int .i64 mode] w fun r w'=>r=.returned (.tuple #[.float .f64 ANS.1,.int .i64 ANS.2])/\Below w.heap.size w w':=by
 obtain ⟨W1,hW1⟩:=ah (w.alloc (.cells #[.bool n,.slice a la ca,.int .i64 e,.bool m,.slice b lb cb,.int .i64 f] 58));obtain ⟨hB,hz1,Q1⟩:=oZ w n _ e m _ f W1 hW1;have HC:=hid (HR.o W1 hB);obtain ⟨x0,x1,x2,x3,x4,x5⟩:=Q1.facts;have S0:=ak hB;clear hB hz1 Q1 HR;go_enter Tryz.func27,Tryz.ntmps27
 go_upto_region 1 with fail
 rw [<-hW1];clear hW1;go_wp2_with fail;refine HC.o.mono ?_;rintro r u1 ⟨rfl,hb⟩;have S1:=ak (S0.o.trans (hb.mono S0.o.size));clear hb HC x0 x1 x2 x3 x4 x5;go_wp2
 go_ret2
 exact ⟨rfl,S1.o⟩
theorem jP {w:World}{n m:Bool}{a b:Option Addr}{la ca lb cb:Nat}{X Y:Nat}{e f:Int}(mode:Int) (hr:Rv w ⟨n,.slice a la ca,X,e,m,.slice b lb cb,Y,f⟩) (hT:dJ w)
 (o1 o2 z:Option (Bool×Nat×Int)) (ew:Int) (rw':Nat×Int) (ho1:mkS n X e=o1) (ho2:mkS m Y f=o2) (lz:(ws (dX z)).length<=8192) (VC:ew≠0->rw'.1=0/\rw'.2=ew)
 (ANS:Nat×Int) (hANS:ANS=if mode<0\/4<mode then (0,1) else if iT (fun _=>(⟨n,.slice a la ca,X,e,m,.slice b lb cb,Y,f⟩:Ri)) 1=0 then rw' else (0,iT (fun _=>(⟨n,.slice a la ca,X,e,m,.slice b lb cb,Y,f⟩:Ri)) 1))
 (HW:Hid (∀ (u:World) (p q:Value),Below w.heap.size w u->Nt w.heap.size u p (dX o1)->Nt w.heap.size u q (dX o2)->iT (fun _=>(⟨n,.slice a la ca,X,e,m,.slice b lb cb,Y,f⟩:Ri)) 1=0->Calls Tryz.prog 82 #[.agg #[.bool (dN o1),p,.int .i64 (dE o1),.bool (dN o2),q,.int .i64 (dE o2)]] u fun r w'=>(∃ v,r=.returned (.tuple #[.agg #[.bool (dN z),v,.int .i64 (dE z)],.int .i64 ew])/\Nt u.heap.size w' v (dX z))/\Below u.heap.size u w'))
 (HR:Hid (∀ (u:World) (p:Option Addr) (q:Nat),ew=0->¬ (mode<0\/4<mode)->iT (fun _=>(⟨n,.slice a la ca,X,e,m,.slice b lb cb,Y,f⟩:Ri)) 1=0->Below w.heap.size w u->Arg u p (ws (dX z)).length q (ws (dX z))->Calls Tryz.prog 60 #[.agg #[.bool (dN z),.slice p (ws (dX z)).length q,.int .i64 (dE z)],.int .i64 mode] u fun r w'=>r=.returned (.tuple #[.float .f64 rw'.1,.int .i64 rw'.2])/\Below u.heap.size u w')) :
 Calls Tryz.prog 58 #[.agg #[.bool n,.slice a la ca,.int .i64 e,.bool m,.slice b lb cb,.int .i64 f],.int .i64 mode,.func (.func 82) #[] #[],.func (.func 60) #[] #[]] w fun r w'=>r=.returned (.tuple #[.float .f64 ANS.1,.int .i64 ANS.2])/\Below w.heap.size w w':=by
 obtain ⟨W1,hW1⟩:=ah (w.alloc (.cells #[.bool n,.slice a la ca,.int .i64 e,.bool m,.slice b lb cb,.int .i64 f] 58));obtain ⟨hB,hz1,Q1⟩:=oZ w n _ e m _ f W1 hW1
 by_cases hm:mode<0\/4<mode
 · rw [if_pos hm] at hANS;subst hANS;have S0:=ak hB;clear hB hz1 Q1 HW HR hr hT
   by_cases hm0:mode<0
   · have d1:=decide_eq_true hm0;go_enter Tryz.func58,Tryz.ntmps58
     go_upto_region 1 with fail
     rw [<-hW1];clear hW1;go_wp2
     go_ret2
     exact ⟨rfl,S0.o⟩
   · have d1:=decide_eq_false hm0;have o9:4<mode:=af
     have d2:=decide_eq_true o9;clear hm;go_enter Tryz.func58,Tryz.ntmps58
     go_upto_region 1 with fail
     rw [<-hW1];clear hW1;go_wp2
     go_ret2
     exact ⟨rfl,S0.o⟩
 · rw [if_neg hm] at hANS;obtain ⟨R,hR⟩:=ah (W1.alloc (.cells #[.bool n,.slice a la ca,.int .i64 e,.bool m,.slice b lb cb,.int .i64 f] 58));have hin:=Yb W1 _ (hr.below hB) (hT.belows hB) R hR;have hbR:Below W1.heap.size W1 R:=by rw [hR];exact ae _ _
   have HF:=hid (Ol R W1.heap.size _ hin);obtain ⟨I,hI⟩:∃ I:Nat->Ri,(fun _=>(⟨n,.slice a la ca,X,e,m,.slice b lb cb,Y,f⟩:Ri))=I:=⟨_,rfl⟩;rw [hI] at HF hANS HW HR;obtain ⟨x0,x1,x2,x3,x4,x5⟩:=Q1.facts;have RL:=ak hANS;have S0:=(gK (hB.trans (hbR.mono hB.size)) hI ho1 ho2);have d1:decide (mode<0)=false:=decide_eq_false (fun h=>hm (.inl h));have d2:decide (4<mode)=false:=decide_eq_false (fun h=>hm (.inr h));have HM:=ak hm;obtain ⟨g12,nz⟩:∃ g,W1.heap.size=g:=⟨_,rfl⟩;rw [nz] at HF;clear hB hz1 Q1 hin hbR hr hT hANS hI ho1 ho2 hm;go_enter Tryz.func58,Tryz.ntmps58
   go_upto_region 1 with fail
   rw [<-hW1];clear hW1;go_wp2_with fail;rw [<-hR];clear hR nz x0 x1 x2 x3 x4 x5;refine HF.o.mono ?_;rintro r u1 ⟨hor,hb⟩;clear HF;obtain ⟨aB,hI,ho1,ho2⟩:=S0.o;have S1:=ak (aB.trans (hb.mono aB.size));rcases hor with ⟨hne,rfl⟩|⟨h0,g',V,rfl,hO⟩
   · have HA2:=RL.o;rw [if_neg hne] at HA2;obtain ⟨er,her⟩:∃ er,iT I 1=er:=⟨_,rfl⟩;rw [her] at hne HA2 |-;have HA3:=ak HA2;have hnb:(er==0)=false:=by simp [hne]
     clear RL HA2 her hne aB hb hI ho1 ho2 S0 HW HR;go_wp2
     go_ret2
     rw [HA3.o];exact ⟨rfl,S1.o⟩
   · have HA2:=RL.o;rw [if_pos h0] at HA2;obtain ⟨q0,q1,q2,q3,q4,q5⟩:=hO.row.facts 0 af;obtain ⟨N1,N2⟩:=hO.Wy 0 af;simp only [eQ,dS] at q0 q1 q2 q3 q4 q5;unfold uK at q0 q1 q2 q3 q4 q5;have e0:I 0=⟨n,.slice a la ca,X,e,m,.slice b lb cb,Y,f⟩:=by rw [<-hI]
     rw [e0] at N1 N2;simp only [e0] at q0 q1 q2 q3 q4 q5 N1 N2;have m1:=aM n X e;have m2:=aM m Y f;rw [ho1] at q0 q2 N1 m1;rw [ho2] at q3 q5 N2 m2;obtain ⟨v1,hv1⟩:∃ v1,(V 0).1=v1:=⟨_,rfl⟩;obtain ⟨v2,hv2⟩:∃ v1,(V 0).2=v1:=⟨_,rfl⟩;rw [hv1] at q1 N1;rw [hv2] at q4 N2;obtain ⟨a1,c1,rfl,_⟩:=N1.arg af;obtain ⟨a2,c2,rfl,_⟩:=N2.arg af;have HC:=hid (HW.o u1 _ _ (aB.trans (hb.mono aB.size)) (N1.mono (by have:=aB.size;omega)) (N2.mono (by have:=aB.size;omega)) h0);have S2:=(aJ h0 HA2);clear RL HA2 aB hb hI ho1 ho2 S0 hO N1 N2 HW h0 hv1 hv2 e0;go_wp2_with fail;clear q0 q1 q2 q3 q4 q5;refine HC.o.mono ?_;rintro r u2 ⟨⟨v,rfl,NZ⟩,hb⟩;obtain ⟨az,cz,rfl,_⟩:=NZ.arg af;clear HC;obtain ⟨U3,xG⟩:=ah (u2.alloc (.cells #[.bool (dN z),.slice az (ws (dX z)).length cz,.int .i64 (dE z)] 25));have iJ:Below u2.heap.size u2 U3:=by rw [xG];exact ae _ _
     have bb:=S1.o.trans (hb.mono S1.o.size);have bc:=bb.trans (iJ.mono bb.size)
     by_cases wS:ew=0
     · have TZ:Tk U3 u2.heap.size 25 (.bool (dN z)) (.slice az (ws (dX z)).length cz) (.int .i64 (dE z)):=by rw [xG];exact Tk.new _ _ _ _ _
       have HD:=hid (HR.o U3 az cz wS HM.o S2.o.1 bc ((NZ.below iJ).aU af).2);obtain ⟨x0,x1,x2,_,_,_⟩:=TZ.facts;have S3:=(aJ bc S2.o.2);clear bb bc hb iJ NZ TZ S1 S2 HR HM VC;subst wS
       go_upto_region 7 with fail
       rw [<-xG];clear xG;go_wp2_with fail;refine HD.o.mono ?_;rintro r u3 ⟨rfl,hb⟩;have S4:=ak (S3.o.1.trans (hb.mono S3.o.1.size));clear hb HD x0 x1 x2;go_wp2
       go_ret2
       rw [S3.o.2];exact ⟨rfl,S4.o⟩
     · have hnb:(ew==0)=false:=by simp [wS]
       have hA:ANS=(0,ew):=by
        rw [S2.o.2];have:=VC wS;rw [<-this.1,<-this.2]
       have S3:=(aJ bc hA);clear bb bc hb iJ NZ S1 S2 HR HM VC hA wS
       go_upto_region 7 with fail
       rw [<-xG];clear xG;go_wp2
       go_ret2
       rw [S3.o.2];exact ⟨rfl,S3.o.1⟩
theorem Oo {w:World}{a b:Option Addr}{la ca lb cb:Nat}(n m:Bool) (e f mode:Int) (ANS:Nat×Int)
 (HR:Hid (∀ u:World,Below w.heap.size w u->Calls Tryz.prog 58 #[.agg #[.bool n,.slice a la ca,.int .i64 e,.bool m,.slice b lb cb,.int .i64 f],.int .i64 mode,.func (.func 82) #[] #[],.func (.func 60) #[] #[]] u fun r w'=>r=.returned (.tuple #[.float .f64 ANS.1,.int .i64 ANS.2])/\Below u.heap.size u w')) :
 Calls Tryz.prog 44 #[.agg #[.bool n,.slice a la ca,.int .i64 e,.bool m,.slice b lb cb,.int .i64 f],.int .i64 mode] w fun r w'=>r=.returned (.tuple #[.float .f64 ANS.1,.int .i64 ANS.2])/\Below w.heap.size w w':=by
 obtain ⟨W1,hW1⟩:=ah (w.alloc (.cells #[.bool n,.slice a la ca,.int .i64 e,.bool m,.slice b lb cb,.int .i64 f] 58));obtain ⟨hB,hz1,Q1⟩:=oZ w n _ e m _ f W1 hW1;have HC:=hid (HR.o W1 hB);obtain ⟨x0,x1,x2,x3,x4,x5⟩:=Q1.facts;have S0:=ak hB;clear hB hz1 Q1 HR;go_enter Tryz.func44,Tryz.ntmps44
 go_upto_region 1 with fail
 rw [<-hW1];clear hW1;go_wp2_with fail;refine HC.o.mono ?_;rintro r u1 ⟨rfl,hb⟩;have S1:=ak (S0.o.trans (hb.mono S0.o.size));clear hb HC x0 x1 x2 x3 x4 x5;go_wp2
 go_ret2
 exact ⟨rfl,S1.o⟩
theorem tH (n:Bool) (M:Nat) (E:Int) (hM:M≠0) (hb:bl M<=1001) (h0:-4096<=E) (h1:E<=4096):mkS n M E=some (n,M/2^lo M,E+lo M)/\(M/2^lo M)%2=1/\M=M/2^lo M*2^lo M/\lo M<=1001:=by
 obtain ⟨q,h2,h3,h4⟩:=iw M hM;refine ⟨?_,af,by rw [h3,df];exact h2,af⟩;unfold mkS;rw [if_neg hM,if_neg af]
def mG (n:Bool) (X:Nat) (e:Int) (Y:Nat) (f:Int):Option (Bool×Nat×Int):=mkS n (2*dQ X Y 64+(if oo X Y 64 then 0 else 1)) (dZ (e-f-lg X Y 64-fE Y 64))
def qx (X:Nat) (e:Int) (Y:Nat) (f:Int):Int:=e-f-lg X Y 129-fE Y 129
def eZ (X:Nat) (e:Int) (Y:Nat) (f:Int):Nat:=Od (dQ X Y 129) (qx X e Y f)
theorem wT (W:Nat):∃ r,mX W r:=by
 induction W with
 | zero=>exact ⟨0,by unfold mX;omega⟩
 | succ W ih =>
   obtain ⟨r,h1,h2⟩:=ih
   by_cases h:W+1<(r+1)*(r+1)
   · exact ⟨r,af,h⟩
   · refine ⟨r+1,af,?_⟩;have:(r+1)*(r+1)<(r+1+1)*(r+1+1):=qG af af;omega
noncomputable def jb (W:Nat):Nat:=Classical.choose (wT W)
theorem wU (W:Nat):mX W (jb W):=zt (wT W)
def RN (X:Nat) (e:Int) (Y:Nat) (f:Int):Bool:=Uf (dQ X Y 129) (qx X e Y f) (oo X Y 129)
noncomputable def Kr (X:Nat) (e:Int) (Y:Nat) (f:Int):Bool:=RN X e Y f&&decide (eZ X e Y f=jb (eZ X e Y f)*jb (eZ X e Y f))
noncomputable def uL (X:Nat) (e:Int) (Y:Nat) (f:Int):Option (Bool×Nat×Int):=mkS false (2*jb (eZ X e Y f)+(if Kr X e Y f then 0 else 1)) (dZ (vF (qx X e Y f)/2))
theorem iW (x:Int):-4096<=dZ x/\dZ x<=4096:=by unfold dZ;omega
theorem wV {R k W:Nat}(h:R*R<=W) (hW:W<2^(2*k)):R<2^k:=by
 rcases kI R (2^k) with q|q
 · exact q
 · have:=jv q q;rw [<-aL,show k+k=2*k by omega] at this;omega
theorem Oq {R k W:Nat}(h:W<(R+1)*(R+1)) (hW:2^(2*k)<=W):2^k<=R:=by
 rcases kI R (2^k) with q|q
 · have:=jv (show R+1<=2^k from q) (show R+1<=2^k from q);rw [<-aL,show k+k=2*k by omega] at this;omega
 · exact q
theorem Ff (X:Nat) (e:Int) (Y:Nat) (f:Int) (D:Oa X Y 129):eZ X e Y f<2^130:=by
 have:=D.most;unfold eZ Od
 split <;> omega
theorem VD (X:Nat) (e:Int) (Y:Nat) (f:Int) (D:Oa X Y 129) (hX:X≠0):2^(2*63)<=eZ X e Y f:=by
 have:=D.least hX;have e1:(2:Nat)^(129-1)=4*2^(2*63):=au
 have e2:(1:Nat)<=2^(2*63):=bu _;unfold eZ Od
 split <;> omega
theorem Ai {W d k:Nat}(h:W<2^k) (hd:d<=1):bl (2*W+d)<=k+1:=dR (by rw [gY];omega)
theorem qy:N9 vK 9218868437227405312:=by
 refine ⟨au,?_,fun {k l} h=>Ub.2 h,fun k hk=>?_⟩
 · have:=ji 0 0 (.inl rfl) af;simpa using this
 · by_cases h:k<4503599627370496
   · refine ⟨k,0,?_,?_,af,af⟩
     · have:=ji 0 k (.inl rfl) af;rw [eQ,dS] at this;exact this
     · have:=ji 0 (k+1) (.inl rfl) af;rw [eQ,dS] at this;exact this
   · obtain ⟨q,hq⟩:∃ q,k/4503599627370496=q:=⟨_,rfl⟩;obtain ⟨g,hg⟩:∃ g,k%4503599627370496=g:=⟨_,rfl⟩;refine ⟨4503599627370496+g,q-1,?_,?_,af,af⟩
     · have:=ji (q-1) (4503599627370496+g) (.inr af) af;rw [show (q-1)*4503599627370496+(4503599627370496+g)=k by omega] at this;exact this
     · have:=ji (q-1) (4503599627370496+g+1) (.inr af) af;rw [show (q-1)*4503599627370496+(4503599627370496+g+1)=k+1 by omega] at this;exact this
theorem RO {K:Nat}{t:Bool}{m:Int}{V S':Nat}(h:XG K t m V S'):ig vK 9218868437227405312 1 K t m V S':=by
 refine ⟨h.fin,h.pos,fun ht=>?_,fun ht=>?_,fun ht hl=>?_,fun ht=>?_⟩
 · rw [mf];exact h.one ht
 · rw [mf];exact h.low ht
 · rw [mf] at hl;have:=h.Rp ht hl;rw [mf,mf,fF];exact this
 · rw [mf];rcases h.high ht with q|⟨q,r⟩
   · exact .inl q
   · exact .inr ⟨af,r⟩
theorem Hm (n:Bool) (M:Nat) (E:Int) (hM:M≠0) (hb:bl M<=1001) (h0:-4096<=E) (h1:E<=4096) :
 ∃ K t m,ig vK 9218868437227405312 1 K t m (M*2^(E+(1074:Nat)).toNat) (2^(-(E+(1074:Nat))).toNat)/\∀ mode:Int,0<=mode->mode<=4->gW (mkS n M E) mode=(rK mode n K t m+(if n then 9223372036854775808 else 0),0):=by
 obtain ⟨e1,e2,e3,e4⟩:=tH n M E hM hb h0 h1;obtain ⟨M',hM'⟩:∃ M',M/2^lo M=M':=⟨_,rfl⟩;obtain ⟨l,hl⟩:∃ l,lo M=l:=⟨_,rfl⟩;rw [hM',hl] at e1 e3;rw [hM'] at e2;rw [hl] at e4;have hL:=lies M' (E+l) e2 af af (min E (-1074)) af af;refine ⟨Lb M' (E+l),(iP 53 (-1074) 1024 M' (E+l)).2.2.1,(iP 53 (-1074) 1024 M' (E+l)).2.2.2,?_,?_⟩
 · have:=RO hL;rw [e3]
   have w1:M'*2^(E+(l:Int)-min E (-1074)).toNat=M'*2^l*2^(E+(1074:Nat)).toNat:=by
    rw [aN,<-aL];congr 2;omega
   have w2:(-1074-min E (-1074)).toNat=(-(E+(1074:Nat))).toNat:=af
   rw [w1,w2] at this;exact this
 · intro mode hm0 o9;rw [e1];unfold gW;rw [if_neg af];simp only;rw [if_neg af,Rs]
theorem Ui (n:Bool) (X:Nat) (e:Int) (Y:Nat) (f:Int) (hX:X%2=1) (hY:Y≠0) (bX:bl X<=262144) (bY:bl Y<=262144) :
 ∃ K t m,ig vK 9218868437227405312 1 K t m (iR X e f 1074 1) (gX Y e f 1074 1)/\∀ mode:Int,0<=mode->mode<=4->gW (mG n X e Y f) mode=(rK mode n K t m+(if n then 9223372036854775808 else 0),0):=by
 have D:=iy X Y 64 (.inr hX) hY af af bX bY;have hX0:X≠0:=af
 have hW1:=D.least hX0;have hW2:=D.most;have c63:(2:Nat)^(64-1)=9223372036854775808:=au
 have sp:=Oc X Y e f 1074 hY D;have hd:(if oo X Y 64 then 0 else 1)<=1:=by split <;> omega
 obtain ⟨K,t,m,hL,hR⟩:=Hm n (2*dQ X Y 64+(if oo X Y 64 then 0 else 1)) (dZ (e-f-lg X Y 64-fE Y 64)) af (by have:=Ai hW2 hd;omega) (iW _).1 (iW _).2;refine ⟨K,t,m,hL.Cu qy af sp.pos ?_,hR⟩;exact uy 1 (dQ X Y 64) _ _ _ 1074 _ af af (Nat.lt_trans hW2 au) hd af af sp
theorem Uj (X:Nat) (e:Int) (Y:Nat) (f:Int) (hX:X%2=1) (hY:Y≠0) (bX:bl X<=262144) (bY:bl Y<=262144) :
 ∃ K t m,ig vK 9218868437227405312 2 K t m (iR X e f 1074 2) (gX Y e f 1074 2)/\∀ mode:Int,0<=mode->mode<=4->gW (uL X e Y f) mode=(rK mode false K t m,0):=by
 have D:=iy X Y 129 (.inr hX) hY af af bX bY;have hX0:X≠0:=af
 have g1:=VD X e Y f D hX0;have g2:=Ff X e Y f D;obtain ⟨r1,r2⟩:=wU (eZ X e Y f);have q1:=Oq r2 g1;have q2:jb (eZ X e Y f)<2^65:=wV r1 (by rw [show 2*65=130 by rfl];exact g2);have sp:=Kj X Y e f 1074 (jb (eZ X e Y f)) hY D (qx X e Y f) rfl (wU _);have hd:(if Kr X e Y f then 0 else 1)<=1:=by split <;> omega
 have c63:(2:Nat)^63=9223372036854775808:=au
 obtain ⟨K,t,m,hL,hR⟩:=Hm false (2*jb (eZ X e Y f)+(if Kr X e Y f then 0 else 1)) (dZ (vF (qx X e Y f)/2)) af (by have:=Ai q2 hd;omega) (iW _).1 (iW _).2;refine ⟨K,t,m,hL.Cu qy af sp.pos ?_,fun mode h0 h4=>?_⟩
 · exact uy 2 (jb (eZ X e Y f)) _ _ _ 1074 _ af af (Nat.lt_trans q2 au) hd af af sp
 · have:=hR mode h0 h4;simp only [fq,if_false,gM] at this;exact this
theorem yT (n:Bool) (X:Nat) (e:Int) (Y:Nat) (f:Int) (hX:X=0\/X%2=1) (hY:Y≠0) (bX:bl X<=262144) (bY:bl Y<=262144):(mG n X e Y f).isSome=true:=by
 have D:=iy X Y 64 hX hY af af bX bY;have hW2:=D.most;have hd:(if oo X Y 64 then 0 else 1)<=1:=by split <;> omega
 have hb:=Ai hW2 hd;unfold mG
 by_cases hM:2*dQ X Y 64+(if oo X Y 64 then 0 else 1)=0
 · rw [hM,eY];rfl
 · rw [(tH n _ _ hM af (iW _).1 (iW _).2).1];rfl
theorem CJ (X:Nat) (e:Int) (Y:Nat) (f:Int) (hX:X=0\/X%2=1) (hY:Y≠0) (bX:bl X<=262144) (bY:bl Y<=262144):(uL X e Y f).isSome=true:=by
 have D:=iy X Y 129 hX hY af af bX bY;have g2:=Ff X e Y f D;obtain ⟨r1,r2⟩:=wU (eZ X e Y f);have q2:jb (eZ X e Y f)<2^65:=wV r1 (by rw [show 2*65=130 by rfl];exact g2);have hd:(if Kr X e Y f then 0 else 1)<=1:=by split <;> omega
 have hb:=Ai q2 hd;unfold uL
 by_cases hM:2*jb (eZ X e Y f)+(if Kr X e Y f then 0 else 1)=0
 · rw [hM,eY];rfl
 · rw [(tH false _ _ hM af (iW _).1 (iW _).2).1];rfl
theorem wW (Y size:Nat) (hY:Y≠0) (hs0:1<=size) (hs:size<=1000) (bY:bl Y<=262144):dQ 0 Y size=0/\oo 0 Y size=true:=by
 have D:=iy 0 Y size (.inl rfl) hY hs0 hs (by rw [dG];omega) bY;have hby:0<=lg 0 Y size:=by unfold lg;rw [dG];omega
 have Yc:pg 0 Y size=0:=by unfold pg;split <;> simp
 have h1:mD 0 Y size=0:=by unfold mD;rw [Yc,Nat.zero_div]
 have h2:pz 0 Y size=0:=by unfold pz;rw [Yc,Nat.zero_mod]
 have h3:qm 0 Y size=0:=by unfold qm;rw [h2,eQ]
 have h4:om 0 Y size=0:=by unfold om;rw [h1,eQ]
 refine ⟨?_,?_⟩
 · unfold dQ;rw [h3,h4,if_neg af,h1]
 · unfold oo;rw [h3,h4];simp [hby]
theorem CK (n:Bool) (e:Int) (Y:Nat) (f:Int) (hY:Y≠0) (bY:bl Y<=262144):mG n 0 e Y f=some (false,0,0):=by
 obtain ⟨h1,h2⟩:=wW Y 64 hY af af bY;unfold mG;rw [h1,h2];exact eY _ _
theorem Fg (e:Int) (Y:Nat) (f:Int) (hY:Y≠0) (bY:bl Y<=262144):uL 0 e Y f=some (false,0,0):=by
 obtain ⟨h1,h2⟩:=wW Y 129 hY af af bY;have hW:eZ 0 e Y f=0:=by unfold eZ Od;rw [h1];split <;> rfl
 have hR:jb 0=0:=by
  have:=(wU 0).1;rcases kF (jb 0) with q|q
  · exact q
  · have:=ik q q;omega
 have hT:RN 0 e Y f=true:=by unfold RN Uf;rw [h1,h2];split <;> rfl
 have hD:Kr 0 e Y f=true:=by unfold Kr;rw [hT,hW,hR];rfl
 unfold uL;rw [hD,hW,hR];exact eY _ _
theorem CL {x:Int}(h:x%2=0):(x.tmod 2==0)=true:=by
 have:(2:Int) ∣ x:=Int.dvd_of_emod_eq_zero h;rw [Int.tmod_eq_zero_of_dvd this];rfl
theorem Ho {x:Int}(h:¬ x%2=0):(x.tmod 2==0)=false:=by
 apply beq_eq_false_iff_ne.2;intro k;exact h (Int.emod_eq_zero_of_dvd (Int.dvd_of_tmod_eq_zero k))
theorem Kt {x:Int}(h:x%2=0):x.tdiv 2=x/2:=by
 obtain ⟨k,hk⟩:=Int.dvd_of_emod_eq_zero h;subst hk;rw [Int.mul_tdiv_cancel_left _ au,Int.mul_ediv_cancel_left _ au]
theorem Ot (x:Int):vF x%2=0:=by unfold vF;split <;> omega
theorem wX {w:World}{a b:Option Addr}{ca cb:Nat}(m:Bool) (X Y:Nat) (e f:Int)
 (AX:Arg w a (ws X).length ca (ws X)) (AY:Arg w b (ws Y).length cb (ws Y)) (hT:dJ w) (hX:X=0\/X%2=1) (hY:Y≠0)
 (he0:-1048576<=e) (he1:e<=1048576) (hf0:-1048576<=f) (hf1:f<=1048576) (bX:bl X<=262144) (bY:bl Y<=262144) :
 Calls Tryz.prog 82 #[.agg #[.bool false,.slice a (ws X).length ca,.int .i64 e,.bool m,.slice b (ws Y).length cb,.int .i64 f]] w fun r w'=>cK w.heap.size w' r (uL X e Y f)/\Below w.heap.size w w':=by
 have D:=iy X Y 129 hX hY af af bX bY;have bW:bl (dQ X Y 129)<=130:=dR D.most;have hc:fE Y 129<=129:=by unfold fE;omega
 have hb:-262144<=lg X Y 129/\lg X Y 129<=264000:=by have:=D.Ud;unfold lg;omega
 have hx:-10000000<qx X e Y f/\qx X e Y f<10000000:=by unfold qx;omega
 have HD:∀ u,Below w.heap.size w u->Calls Tryz.prog 104 #[.agg #[.bool false,.slice a (ws X).length ca,.int .i64 e,.bool m,.slice b (ws Y).length cb,.int .i64 f],.int .i64 129] u fun r w'=>(∃ v,r=.returned (.agg #[v,.int .i64 (qx X e Y f),.bool (oo X Y 129)])/\Nt u.heap.size w' v (dQ X Y 129))/\Below u.heap.size u w':=fun u hu=>yR false m X Y e f 129 (AX.below hu) (AY.below hu) hX hY he0 he1 hf0 hf1 af af bX bY;obtain ⟨r1,r2⟩:=wU (eZ X e Y f);have g2:=Ff X e Y f D;have q2:jb (eZ X e Y f)<2^65:=wV r1 (by rw [show 2*65=130 by rfl];exact g2);have bR:bl (jb (eZ X e Y f))<=65:=dR q2;have bW':bl (eZ X e Y f)<=130:=dR g2;have bL:bl (eZ X e Y f-jb (eZ X e Y f)*jb (eZ X e Y f))<=262144:=mF (yc _ _) af
 have HR:∀ (u:World) (p:Option Addr) (q:Nat),Arg u p (ws (eZ X e Y f)).length q (ws (eZ X e Y f))->Calls Tryz.prog 121 #[.slice p (ws (eZ X e Y f)).length q] u fun r w'=>∃ v v',r=.returned (.tuple #[v,v'])/\Nt u.heap.size w' v (jb (eZ X e Y f))/\Nt u.heap.size w' v' (eZ X e Y f-jb (eZ X e Y f)*jb (eZ X e Y f))/\Below u.heap.size u w':=by
  intro u p q hA;exact Oe hA (by rw [aj];exact ⟨r1,r2⟩) (by rw [aj])
 have HL:∀ (u:World) (p:Option Addr) (q:Nat),Arg u p (ws (eZ X e Y f-jb (eZ X e Y f)*jb (eZ X e Y f))).length q (ws (eZ X e Y f-jb (eZ X e Y f)*jb (eZ X e Y f)))->Calls Tryz.prog 93 #[.slice p (ws (eZ X e Y f-jb (eZ X e Y f)*jb (eZ X e Y f))).length q] u fun r w'=>r=.returned (.int .i64 (bl (eZ X e Y f-jb (eZ X e Y f)*jb (eZ X e Y f)):Nat))/\Below u.heap.size u w':=by
  intro u p q hA;exact nk hA (by rw [aj])
 have hz:(bl (eZ X e Y f-jb (eZ X e Y f)*jb (eZ X e Y f))==0)=decide (eZ X e Y f=jb (eZ X e Y f)*jb (eZ X e Y f)):=by
  by_cases h:eZ X e Y f=jb (eZ X e Y f)*jb (eZ X e Y f)
  · rw [decide_eq_true h,show eZ X e Y f-jb (eZ X e Y f)*jb (eZ X e Y f)=0 by omega,dG];rfl
  · rw [decide_eq_false h];have:=dI (eZ X e Y f-jb (eZ X e Y f)*jb (eZ X e Y f)) af;exact beq_eq_false_iff_ne.2 af
 have hz2:(((bl (eZ X e Y f-jb (eZ X e Y f)*jb (eZ X e Y f)):Nat):Int)==0)=decide (eZ X e Y f=jb (eZ X e Y f)*jb (eZ X e Y f)):=by
  rw [<-hz]
  by_cases h:bl (eZ X e Y f-jb (eZ X e Y f)*jb (eZ X e Y f))=0
  · rw [h];rfl
  · rw [beq_eq_false_iff_ne.2 h,beq_eq_false_iff_ne.2 (show ((bl (eZ X e Y f-jb (eZ X e Y f)*jb (eZ X e Y f)):Nat):Int)≠0 by omega)]
 have hvx:=Ot (qx X e Y f);have Yd:-10000000<=vF (qx X e Y f)/\vF (qx X e Y f)<=10000000:=by unfold vF;split <;> omega
 have HI:∀ (d:Bool) (u:World) (p:Option Addr) (q:Nat),d=Kr X e Y f->Below w.heap.size w u->Arg u p (ws (jb (eZ X e Y f))).length q (ws (jb (eZ X e Y f)))->Calls Tryz.prog 103 #[.bool false,.agg #[.slice p (ws (jb (eZ X e Y f))).length q,.int .i64 (vF (qx X e Y f)/2),.bool d]] u fun r w'=>cK u.heap.size w' r (uL X e Y f)/\Below u.heap.size u w':=by
  intro d u p q hd hu hA;subst hd;exact wN false _ _ _ hA (hT.belows hu) af af af
 have lV:=aM false (2*jb (eZ X e Y f)+(if Kr X e Y f then 0 else 1)) (dZ (vF (qx X e Y f)/2));have ht:=Kt hvx;unfold cK at HI |-
 by_cases hev:qx X e Y f%2=0
 · have eW:eZ X e Y f=dQ X Y 129:=by unfold eZ Od;rw [if_pos hev]
   have eX:vF (qx X e Y f)=qx X e Y f:=by unfold vF;rw [if_pos hev]
   have eT:RN X e Y f=oo X Y 129:=by unfold RN Uf;rw [if_pos hev]
   rw [eX] at ht Yd
   cases hat:oo X Y 129 with
   | true =>
     rw [hat] at HD eT;refine Ad m e f (dQ X Y 129) 0 (jb (eZ X e Y f)) (eZ X e Y f-jb (eZ X e Y f)*jb (eZ X e Y f)) _ (qx X e Y f) 0 (vF (qx X e Y f)/2) false _ _ _ _ _ (bZ af) (by rw [Wx];omega) (bZ af) (bZ bL) lV af af (CL hev) (by rw [eX];exact ht) af af HD (by rw [eW] at HR |-;exact HR) HL hz2 hz ?_;intro u p q hu hA;exact HI _ u p q (by unfold Kr;rw [eT];rfl) hu hA
   | false =>
     rw [hat] at HD eT;refine Ae m e f (dQ X Y 129) 0 (jb (eZ X e Y f)) (eZ X e Y f-jb (eZ X e Y f)*jb (eZ X e Y f)) 0 (qx X e Y f) 0 (vF (qx X e Y f)/2) false false _ _ _ _ (bZ af) (by rw [Wx];omega) (bZ af) (bZ bL) lV af af (CL hev) (by rw [eX];exact ht) af af HD (by rw [eW] at HR |-;exact HR) ?_;intro u p q hu hA;exact HI _ u p q (by unfold Kr;rw [eT];rfl) hu hA
 · have eW:eZ X e Y f=dQ X Y 129/2:=by unfold eZ Od;rw [if_neg hev]
   have eX:vF (qx X e Y f)=qx X e Y f+1:=by unfold vF;rw [if_neg hev]
   have eT:RN X e Y f=(oo X Y 129&&decide (dQ X Y 129%2=0)):=by unfold RN Uf;rw [if_neg hev]
   have e1:aW (dQ X Y 129) (-1)=(eZ X e Y f,0):=by
    have:=tu (X:=dQ X Y 129) (k:=1) (V:=eZ X e Y f) (fT af) (by rw [eW]);exact this
   have HH:∀ (t':Bool) (u:World) (p:Option Addr) (q:Nat),t'=RN X e Y f->Arg u p (ws (dQ X Y 129)).length q (ws (dQ X Y 129))->Calls Tryz.prog 120 #[.agg #[.slice p (ws (dQ X Y 129)).length q,.int .i64 (qx X e Y f),.bool (oo X Y 129)]] u fun r w'=>(∃ v,r=.returned (.agg #[v,.int .i64 (vF (qx X e Y f)),.bool t'])/\Nt u.heap.size w' v (eZ X e Y f))/\Below u.heap.size u w':=by
    intro t' u p q ht' hA;rw [ht',eT]
    cases hat:oo X Y 129 with
    | true =>
      have hb:(!decide (dQ X Y 129/2^0%2=1))=(true&&decide (dQ X Y 129%2=0)):=by
       rw [fC,tT,qJ]
       by_cases h:dQ X Y 129%2=0
       · rw [decide_eq_true h,decide_eq_false af];rfl
       · rw [decide_eq_false h,decide_eq_true af];rfl
      rw [<-hb];exact E9 (dQ X Y 129) _ _ _ hA af af e1 eX.symm (bZ af) _ rfl
    | false=>exact Km (dQ X Y 129) _ _ _ hA af af e1 eX.symm (bZ af)
   cases Y6:RN X e Y f with
   | true =>
     refine CE m e f (dQ X Y 129) (eZ X e Y f) (jb (eZ X e Y f)) (eZ X e Y f-jb (eZ X e Y f)*jb (eZ X e Y f)) _ (qx X e Y f) (vF (qx X e Y f)) (vF (qx X e Y f)/2) (oo X Y 129) _ _ _ _ _ (bZ af) (bZ af) (bZ af) (bZ bL) lV Yd.1 Yd.2 (Ho hev) ht af af HD (fun u p q hA=>HH true u p q Y6.symm hA) HR HL hz2 hz ?_;intro u p q hu hA;exact HI _ u p q (by unfold Kr;rw [Y6];rfl) hu hA
   | false =>
     refine CF m e f (dQ X Y 129) (eZ X e Y f) (jb (eZ X e Y f)) (eZ X e Y f-jb (eZ X e Y f)*jb (eZ X e Y f)) 0 (qx X e Y f) (vF (qx X e Y f)) (vF (qx X e Y f)/2) (oo X Y 129) false _ _ _ _ (bZ af) (bZ af) (bZ af) (bZ bL) lV Yd.1 Yd.2 (Ho hev) ht af af HD (fun u p q hA=>HH false u p q Y6.symm hA) HR ?_;intro u p q hu hA;exact HI _ u p q (by unfold Kr;rw [Y6];rfl) hu hA
def CO (r:Ri):Nat->Ri:=fun _=>r
noncomputable def ru (rnd:Option (Bool×Nat×Int)->Int->Nat×Int) (r:Ri) (mode:Int):Nat×Int :=
 if mode<0\/4<mode then (0,1) else if iT (CO r) 1=0 then rnd (mG (dN (mkS r.n r.X r.e)) (dX (mkS r.n r.X r.e)) (dE (mkS r.n r.X r.e)) (dX (mkS r.m r.Y r.f)) (dE (mkS r.m r.Y r.f))) mode else (0,iT (CO r) 1)
noncomputable def uM (rnd:Option (Bool×Nat×Int)->Int->Nat×Int) (r:Ri) (mode:Int):Nat×Int :=
 if mode<0\/4<mode then (0,1) else if iT (CO r) 1=0 then (if dN (mkS r.n r.X r.e) then (0,110) else rnd (uL (dX (mkS r.n r.X r.e)) (dE (mkS r.n r.X r.e)) (dX (mkS r.m r.Y r.f)) (dE (mkS r.m r.Y r.f))) mode) else (0,iT (CO r) 1)
theorem jl {n:Bool}{X:Nat}{e:Int}(h:(mkS n X e).isSome=true):sN (dN (mkS n X e)) (dX (mkS n X e)) (dE (mkS n X e)):=by
 cases ho:mkS n X e with
 | none=>rw [ho] at h;cases h
 | some d =>
   obtain ⟨n1,X1,e1⟩:=d;exact bM ho
theorem sN.par {n:Bool}{X:Nat}{e:Int}(h:sN n X e):X=0\/X%2=1:=by rcases h.odd with q | q;exact .inr q;exact .inl q.1
theorem Ku (X:Nat) (e:Int) (Y:Nat) (f:Int) (hs:(uL X e Y f).isSome=true):mkS (dN (uL X e Y f)) (dX (uL X e Y f)) (dE (uL X e Y f))=uL X e Y f:=wR (o:=uL X e Y f) rfl hs
theorem Fh (n:Bool) (X:Nat) (e:Int) (Y:Nat) (f:Int) (hs:(mG n X e Y f).isSome=true):mkS (dN (mG n X e Y f)) (dX (mG n X e Y f)) (dE (mG n X e Y f))=mG n X e Y f:=wR (o:=mG n X e Y f) rfl hs
theorem Ou {w:World}{n m:Bool}{a b:Option Addr}{la ca lb cb:Nat}{X Y:Nat}{e f:Int}(mode:Int) (hr:Rv w ⟨n,.slice a la ca,X,e,m,.slice b lb cb,Y,f⟩) (hT:dJ w) :
 Calls Tryz.prog 27 #[.agg #[.bool n,.slice a la ca,.int .i64 e,.bool m,.slice b lb cb,.int .i64 f],.int .i64 mode] w fun r w' =>
  r=.returned (.tuple #[.float .f64 (ru gW ⟨n,.slice a la ca,X,e,m,.slice b lb cb,Y,f⟩ mode).1,.int .i64 (ru gW ⟨n,.slice a la ca,X,e,m,.slice b lb cb,Y,f⟩ mode).2])/\Below w.heap.size w w':=by
 refine Om n m e f mode (ru gW ⟨n,.slice a la ca,X,e,m,.slice b lb cb,Y,f⟩ mode) ?_;intro u hu;have Y7:=hr.below hu;have qi:=hT.belows hu;refine qw mode Y7 qi (mkS n X e) (mkS m Y f) (mG (dN (mkS n X e)) (dX (mkS n X e)) (dE (mkS n X e)) (dX (mkS m Y f)) (dE (mkS m Y f))) 0 (gW (mG (dN (mkS n X e)) (dX (mkS n X e)) (dE (mkS n X e)) (dX (mkS m Y f)) (dE (mkS m Y f))) mode) rfl rfl (aM _ _ _) (fun h=>absurd rfl h) _ rfl ?_ ?_
 · intro v p q hv N1 N2 h0;obtain ⟨k1,k2,k3,k4⟩:=CG h0 0 af;simp only at k1 k2 k3 k4;have F1:=jl k2;have F2:=jl k3;obtain ⟨a1,c1,rfl,A1⟩:=N1.arg (by have:=dH F1;omega);obtain ⟨a2,c2,rfl,A2⟩:=N2.arg (by have:=dH F2;omega);have hq:=Ac (dN (mkS n X e)) (dN (mkS m Y f)) (dX (mkS n X e)) (dX (mkS m Y f)) (dE (mkS n X e)) (dE (mkS m Y f)) A1 A2 (qi.belows hv) F1.par k4 F1.down F1.up F2.down F2.up F1.size F2.size;have hs:=yT (dN (mkS n X e)) (dX (mkS n X e)) (dE (mkS n X e)) (dX (mkS m Y f)) (dE (mkS m Y f)) F1.par k4 F1.size F2.size;have he:l9 (mG (dN (mkS n X e)) (dX (mkS n X e)) (dE (mkS n X e)) (dX (mkS m Y f)) (dE (mkS m Y f)))=0:=by unfold l9;rw [hs];rfl
   unfold cK at hq;rw [show mkS (dN (mkS n X e)) (2*dQ (dX (mkS n X e)) (dX (mkS m Y f)) 64+(if oo (dX (mkS n X e)) (dX (mkS m Y f)) 64 then 0 else 1)) (dZ (dE (mkS n X e)-dE (mkS m Y f)-lg (dX (mkS n X e)) (dX (mkS m Y f)) 64-fE (dX (mkS m Y f)) 64))=mG (dN (mkS n X e)) (dX (mkS n X e)) (dE (mkS n X e)) (dX (mkS m Y f)) (dE (mkS m Y f)) from rfl,he] at hq;exact hq
 · intro v p q _ hm h0 hv hA;obtain ⟨k1,k2,k3,k4⟩:=CG h0 0 af;simp only at k1 k2 k3 k4;have F1:=jl k2;have F2:=jl k3;have hs:=yT (dN (mkS n X e)) (dX (mkS n X e)) (dE (mkS n X e)) (dX (mkS m Y f)) (dE (mkS m Y f)) F1.par k4 F1.size F2.size;have rg:=Hl (o:=mG (dN (mkS n X e)) (dX (mkS n X e)) (dE (mkS n X e)) (dX (mkS m Y f)) (dE (mkS m Y f))) rfl;have hR:=yN hA (qi.belows hv) (dN (mG (dN (mkS n X e)) (dX (mkS n X e)) (dE (mkS n X e)) (dX (mkS m Y f)) (dE (mkS m Y f)))) (dE (mG (dN (mkS n X e)) (dX (mkS n X e)) (dE (mkS n X e)) (dX (mkS m Y f)) (dE (mkS m Y f)))) mode af af;rw [aj,Fh _ _ _ _ _ hs] at hR;exact hR
theorem VE {w:World}{n m:Bool}{a b:Option Addr}{la ca lb cb:Nat}{X Y:Nat}{e f:Int}(mode:Int) (hr:Rv w ⟨n,.slice a la ca,X,e,m,.slice b lb cb,Y,f⟩) (hT:dJ w) :
 Calls Tryz.prog 44 #[.agg #[.bool n,.slice a la ca,.int .i64 e,.bool m,.slice b lb cb,.int .i64 f],.int .i64 mode] w fun r w' =>
  r=.returned (.tuple #[.float .f64 (uM gW ⟨n,.slice a la ca,X,e,m,.slice b lb cb,Y,f⟩ mode).1,.int .i64 (uM gW ⟨n,.slice a la ca,X,e,m,.slice b lb cb,Y,f⟩ mode).2])/\Below w.heap.size w w':=by
 refine Oo n m e f mode (uM gW ⟨n,.slice a la ca,X,e,m,.slice b lb cb,Y,f⟩ mode) ?_;intro u hu;have Y7:=hr.below hu;have qi:=hT.belows hu
 cases hn:dN (mkS n X e) with
 | true =>
   refine jP mode Y7 qi (mkS n X e) (mkS m Y f) none 110 (0,110) rfl rfl (by show (ws 0).length<=8192;rw [Wx];omega) (fun h=>⟨rfl,rfl⟩) _ (by unfold uM;simp only;rw [hn];rfl) ?_ ?_
   · intro v p q hv N1 N2 h0;obtain ⟨k1,k2,k3,k4⟩:=CG h0 0 af;simp only at k1 k2 k3 k4;obtain ⟨a1,c1,rfl,A1⟩:=N1.arg (by have:=dH (jl k2);omega);obtain ⟨a2,c2,rfl,A2⟩:=N2.arg (by have:=dH (jl k3);omega);rw [hn];refine (Oh _ _ _).mono ?_;rintro r w' ⟨rfl,hb⟩;exact ⟨⟨_,rfl,Nt.nil _ _⟩,hb⟩
   · intro v p q h110;exact absurd h110 au
 | false =>
   have hz:(0:Int)≠0->(gW (uL (dX (mkS n X e)) (dE (mkS n X e)) (dX (mkS m Y f)) (dE (mkS m Y f))) mode).1=0/\(gW (uL (dX (mkS n X e)) (dE (mkS n X e)) (dX (mkS m Y f)) (dE (mkS m Y f))) mode).2=0:=fun h=>absurd rfl h;refine jP mode Y7 qi (mkS n X e) (mkS m Y f) (uL (dX (mkS n X e)) (dE (mkS n X e)) (dX (mkS m Y f)) (dE (mkS m Y f))) 0 (gW (uL (dX (mkS n X e)) (dE (mkS n X e)) (dX (mkS m Y f)) (dE (mkS m Y f))) mode) rfl rfl (aM _ _ _) hz _ (by unfold uM;simp only;rw [hn];rfl) ?_ ?_
   · intro v p q hv N1 N2 h0;obtain ⟨k1,k2,k3,k4⟩:=CG h0 0 af;simp only at k1 k2 k3 k4;have F1:=jl k2;have F2:=jl k3;obtain ⟨a1,c1,rfl,A1⟩:=N1.arg (by have:=dH F1;omega);obtain ⟨a2,c2,rfl,A2⟩:=N2.arg (by have:=dH F2;omega);have hq:=wX (dN (mkS m Y f)) (dX (mkS n X e)) (dX (mkS m Y f)) (dE (mkS n X e)) (dE (mkS m Y f)) A1 A2 (qi.belows hv) F1.par k4 F1.down F1.up F2.down F2.up F1.size F2.size;have hs:=CJ (dX (mkS n X e)) (dE (mkS n X e)) (dX (mkS m Y f)) (dE (mkS m Y f)) F1.par k4 F1.size F2.size;have he:l9 (uL (dX (mkS n X e)) (dE (mkS n X e)) (dX (mkS m Y f)) (dE (mkS m Y f)))=0:=by unfold l9;rw [hs];rfl
     unfold cK at hq;rw [he] at hq;rw [hn];exact hq
   · intro v p q _ hm h0 hv hA;obtain ⟨k1,k2,k3,k4⟩:=CG h0 0 af;simp only at k1 k2 k3 k4;have F1:=jl k2;have F2:=jl k3;have hs:=CJ (dX (mkS n X e)) (dE (mkS n X e)) (dX (mkS m Y f)) (dE (mkS m Y f)) F1.par k4 F1.size F2.size;have rg:=Hl (o:=uL (dX (mkS n X e)) (dE (mkS n X e)) (dX (mkS m Y f)) (dE (mkS m Y f))) rfl;have hR:=yN hA (qi.belows hv) (dN (uL (dX (mkS n X e)) (dE (mkS n X e)) (dX (mkS m Y f)) (dE (mkS m Y f)))) (dE (uL (dX (mkS n X e)) (dE (mkS n X e)) (dX (mkS m Y f)) (dE (mkS m Y f)))) mode af af;rw [aj,Ku _ _ _ _ hs] at hR;exact hR
def VF (o:Option (Bool×Nat×Int)):Option (Bool×Nat×Int):=match o with
 | none=>none
 | some (n,X,e)=>mkS (!n) X e
theorem Ov (n:Bool) (X:Nat) (e:Int):VF (mkS n X e)=mkS (!n) X e:=by
 by_cases h0:X=0
 · subst h0;rw [eY,eY];rfl
 · cases ho:mkS n X e with
   | none =>
     unfold mkS at ho |-;rw [if_neg h0] at ho |-
     split at ho
     · rename_i h;rw [if_pos h];rfl
     · cases ho
   | some d =>
     unfold mkS at ho |-;rw [if_neg h0] at ho |-
     split at ho
     · cases ho
     · rename_i h
       cases ho
       rw [if_neg h];show mkS (!n) (X/2^lo X) (e+lo X)=_;have hF:sN n (X/2^lo X) (e+lo X):=bM (n:=n) (X:=X) (e:=e) (by unfold mkS;rw [if_neg h0,if_neg h])
       have hF2:sN (!n) (X/2^lo X) (e+lo X):=⟨by
        rcases hF.odd with q|⟨q,_,_⟩
        · exact .inl q
        · exfalso;obtain ⟨k,h2,h3,h4⟩:=iw X h0
          omega,hF.size,hF.up,hF.down⟩
       exact hF2.self
theorem uB {o:Option (Bool×Nat×Int)}(hs:o.isSome=true):mkS (!(dN o)) (dX o) (dE o)=VF o:=by
 cases o with
 | none=>cases hs
 | some d=>rfl
def ll (X:Nat) (n:Bool) (e:Int) (Y:Nat) (m:Bool) (f:Int):Int:=if q8 m Y<0 then 1 else if (mkS n X e).isSome&&(mkS m Y f).isSome then (if dX (mkS m Y f)=0 then 21 else 0) else 2
theorem ou (r:Ri):iT (CO r) 1=ll r.X r.n r.e r.Y r.m r.f:=by
 unfold iT ll CO;simp only [show List.range 1=[0] from rfl,List.any_cons,List.any_nil,Bool.or_false,decide_eq_true_eq]
 cases (mkS r.n r.X r.e).isSome <;> cases (mkS r.m r.Y r.f).isSome <;> simp
def Iv (o:Option (Bool×Nat×Int)) (lo hi:Int):Prop:=∃ n X e,o=some (n,X,e)/\sN n X e/\(X=0\/(lo<=e/\e+(bl X:Int)<=hi))
theorem Iv.mono {o:Option (Bool×Nat×Int)}{a b c d:Int}(h:Iv o a b) (h1:c<=a) (h2:b<=d):Iv o c d:=by
 obtain ⟨n,X,e,h,F,hb⟩:=h;exact ⟨n,X,e,h,F,af⟩
theorem Fj (n:Bool) (X:Nat) (e a b:Int) (h:X=0\/(a<=e/\e+(bl X:Int)<=b)) (hw:b-a<=262144) (ha:-1048576<=a) (hb:b<=1048576):Iv (mkS n X e) a b:=by
 by_cases h0:X=0
 · subst h0;rw [eY];exact ⟨false,0,0,rfl,⟨.inr ⟨rfl,rfl,rfl⟩,by rw [dG];omega,af,af⟩,.inl rfl⟩
 · obtain ⟨h1,h2⟩:=h.resolve_left h0;obtain ⟨k,o1,o2,o3⟩:=iw X h0;have hp:=dI (X/2^lo X) af
   have e1:mkS n X e=some (n,X/2^lo X,e+lo X):=by
    unfold mkS;rw [if_neg h0,if_neg af]
   exact ⟨n,_,_,e1,bM e1,.inr af⟩
theorem tJ (X Y:Nat):bl (X*Y)<=bl X+bl Y:=dR (by rw [aL];exact qG (il X) (il Y))
theorem Iv.mul {o p:Option (Bool×Nat×Int)}{a b c d:Int}(h1:Iv o a b) (h2:Iv p c d) (hw:(b+d)-(a+c)<=262144) (hl:-1048576<=a+c) (hh:b+d<=1048576):Iv (dK o p) (a+c) (b+d):=by
 obtain ⟨n,X,e,rfl,F,hx⟩:=h1;obtain ⟨m,Y,f,rfl,G,hy⟩:=h2;show Iv (mkS (n != m) (X*Y) (e+f)) _ _;refine Fj _ _ _ _ _ ?_ hw hl hh;rcases hx with rfl|hx
 · left;rw [eQ]
 · rcases hy with rfl | hy
   · left;rw [nG]
   · right
     have:=tJ X Y;omega
theorem Kv {X k:Nat}{j:Nat}(h:bl X+k<=j):X*2^k<2^j:=by
 have h1:=il X;have h2:X*2^k<2^bl X*2^k:=fD h1 (bu k);rw [<-aL] at h2;exact iC h2 (fB au h)
theorem CP (n m:Bool) (X Y:Nat) (e f a b:Int) (hfe:f<=e) (ha:a<=f) (h1:e+(bl X:Int)<=b) (h2:f+(bl Y:Int)<=b) (hw:b+1-a<=262144) (hl:-1048576<=a) (hh:b+1<=1048576) (hX:X≠0):Iv (jM n X e m Y f) a (b+1):=by
 have hp:=dI X hX;unfold jM;rw [if_neg af];obtain ⟨j,hj⟩:∃ j:Nat,(j:Int)=b-f:=⟨(b-f).toNat,af⟩;have b1:X*2^(e-f).toNat<2^j:=Kv af;have b2:Y<2^j:=iC (il Y) (fB au af)
 have fin:∀ (s:Bool) (Z:Nat),Z<2^(j+1)->Iv (mkS s Z f) a (b+1):=by
  intro s Z hZ;refine Fj s Z f a (b+1) ?_ hw hl hh
  by_cases h0:Z=0
  · exact .inl h0
  · right
    have:=dR hZ;omega
 have b3:(2:Nat)^(j+1)=2*2^j:=by rw [gY,df]
 split
 · exact fin _ _ af
 · split
   · exact fin _ _ af
   · exact fin _ _ af
theorem Iv.add {o p:Option (Bool×Nat×Int)}{a b:Int}(h1:Iv o a b) (h2:Iv p a b) (hw:b+1-a<=262144) (hl:-1048576<=a) (hh:b+1<=1048576):Iv (iF o p) a (b+1):=by
 have h1':=h1;have h2':=h2;obtain ⟨n,X,e,rfl,F,hx⟩:=h1;obtain ⟨m,Y,f,rfl,G,hy⟩:=h2;show Iv (qY (n,X,e) (m,Y,f)) a (b+1);unfold qY;simp only
 by_cases hX:X=0
 · rw [if_pos hX];exact h2'.mono af af
 · rw [if_neg hX]
   by_cases hY:Y=0
   · rw [if_pos hY];exact h1'.mono af af
   · rw [if_neg hY];have ex:=hx.resolve_left hX;have ey:=hy.resolve_left hY
     split
     · exact CP m n Y X f e a b af ex.1 ey.2 ex.2 hw hl hh hY
     · exact CP n m X Y e f a b af ey.1 ex.2 ey.2 hw hl hh hX
def uN (o:Option (Bool×Nat×Int)):Int:=zv (-1048576) (dN o,dX o,dE o)
theorem fvO {o:Option (Bool×Nat×Int)}{n:Bool}{X:Nat}{e:Int}(h:mkS n X e=o) (hs:o.isSome=true):Fv (-1048576) o (uN o):=by
 cases o with
 | none=>cases hs
 | some d=>obtain ⟨n1,X1,e1⟩:=d;exact ⟨n1,X1,e1,rfl,bM h,rfl⟩
theorem Fv.Ow {o:Option (Bool×Nat×Int)}{B z:Int}(h:Fv B o z):dX o=0↔z=0:=by
 obtain ⟨n,X,e,rfl,F,rfl⟩:=h.ex;constructor
 · intro h0;exact oO B h0
 · intro h0;show X=0;rcases kF X with q|q
   · exact q
   · exfalso;have:=ik q (bu (e-B).toNat);unfold zv p8 at h0
     cases n <;> simp only [fq,if_false,if_true] at h0 <;> omega
theorem Fv.RP {o:Option (Bool×Nat×Int)}{B z:Int}(h:Fv B o z):dN o=true↔z<0:=by
 obtain ⟨n,X,e,rfl,F,rfl⟩:=h.ex;show n=true↔_;rcases F.odd with q|⟨rfl,rfl,rfl⟩
 · have:=ik (show 0<X by omega) (bu (e-B).toNat);unfold zv p8
   cases n <;> simp only [fq,if_false,if_true,false_iff,true_iff] <;> omega
 · simp [zv]
theorem Fv.wR {o:Option (Bool×Nat×Int)}{B z:Int}(h:Fv B o z):mkS (dN o) (dX o) (dE o)=o:=by
 obtain ⟨n,X,e,rfl,F,rfl⟩:=h.ex;exact F.self
theorem Ox (x y:Int):jh x y=-jh y x:=by unfold jh;split <;> split <;> omega
theorem Fv.len {o:Option (Bool×Nat×Int)}{B z:Int}(h:Fv B o z):(ws (dX o)).length<=8192:=by
 obtain ⟨n,X,e,rfl,F,_⟩:=h.ex;exact dH F
end
section
open Go.ChangeShapes Go.WideShapes Go.ChangeAt Go.RowKit
structure Oy (w:World) (a:Option Addr) (n c:Nat) (xs:List Nat) (e:Int):Prop where
 came:Came w a n c xs
 lo:-9223372036854775808<=e
 hi:e<=9223372036854775807
end
section
open Go.RowKit
def Al (w:World) (v:Value) (X:Nat):Prop:=∃ a l c xs,v=.slice a l c/\Arg w a l c xs/\val xs=X/\l<=2000000
theorem Al.below {w w':World}{v:Value}{X:Nat}(h:Al w v X) (hb:Below w.heap.size w w'):Al w' v X:=by
 obtain ⟨a,l,c,xs,rfl,hA,hv,hl⟩:=h;exact ⟨a,l,c,xs,rfl,hA.below hb,hv,hl⟩
def Fm (o:Option (Bool×Nat×Int)):Prop:=∃ B x,Fv B o x
theorem Fm.len {o:Option (Bool×Nat×Int)}(h:Fm o):(ws (dX o)).length<=8192:=by obtain ⟨B,x,h⟩:=h;exact h.len
theorem Fm.re {o:Option (Bool×Nat×Int)}(h:Fm o):mkS (dN o) (dX o) (dE o)=o:=by obtain ⟨B,x,h⟩:=h;exact h.wR
theorem Fm.p9 {o:Option (Bool×Nat×Int)}(h:Fm o):-9223372036854775808<=dE o/\dE o<=9223372036854775807:=by
 obtain ⟨B,x,h⟩:=h;obtain ⟨n,X,e,rfl,F,_⟩:=h.ex;have:=F.up;have:=F.down;show -9223372036854775808<=e/\e<=9223372036854775807;omega
theorem RS:vK 0=0:=by
 have:=ji 0 0 (.inl rfl) af;simpa using this
def VG (V:Int):Option (Bool×Nat×Int):=mkS (decide (V<0)) V.natAbs (-1074)
theorem RU (V:Int):p8 (decide (V<0))*(V.natAbs:Int)=V:=by
 unfold p8
 by_cases h:V<0
 · rw [decide_eq_true h,if_pos rfl];omega
 · rw [decide_eq_false h,if_neg au];omega
theorem VH (V:Int) (m:Nat) (hm:m<=200000) (hV:V.natAbs<2^m):Fo (VG V) (V*(UU:Int)) (-1074) ((m:Int)-1074):=by
 by_cases h0:V=0
 · subst h0;refine ⟨⟨false,0,0,?_,?_,?_,.inl rfl⟩⟩
   · unfold VG;exact eY _ _
   · exact bM (eY false 0)
   · rw [oO _ rfl];simp
 · obtain ⟨X,e,h1,h2,h3,h4⟩:=Vt (decide (V<0)) V.natAbs (-1074) (-1074) ((m:Int)-1074) af af (by have:=blLe hV;omega) af af af;refine ⟨⟨_,X,e,h1,bM h1,?_,.inr ⟨h3,h4⟩⟩⟩;rw [lT h1 (-2097152) (.inr af)];have e1:(2:Nat)^((-1074:Int) - -2097152).toNat=UU*SS:=US _ au;rw [e1,fU,fU,<-mh,RU,mh]
theorem RV {o:Option (Bool×Nat×Int)}{V L H:Int}(h:Fo o (V*(UU:Int)) L H) (m:Nat) (hm:m<=200000) (hV:V.natAbs<2^m):o=VG V:=by
 obtain ⟨n,X,e,rfl,F1,z1,_⟩:=h.ex;obtain ⟨n',X',e',h2,F2,z2,_⟩:=(VH V m hm hV).ex;rw [h2];obtain ⟨rfl,rfl,rfl⟩:=NK F1 F2 (-2097152) af (by rw [z1,z2]);rfl
theorem Oz {x:Nat}(hx:Wd x) (fx:iY x) (m:Nat) (hm:m=2098):(Kg x).natAbs<2^m:=by
 unfold Kg;rw [Vw];have:=N8 (jN x) fx 2045 rfl;obtain ⟨a,ha⟩:∃ a,a=2045:=⟨_,rfl⟩;have h2:=N8 (jN x) fx a ha;rw [show m=53+a by omega,aL];exact h2
theorem VI {x:Nat}(hx:Wd x) (fx:iY x):Ww (uI x) (jN x)=VG (Kg x):=by
 obtain ⟨n,X,e,h1,h2,_⟩:=XK (uI x) (jN x) fx;rw [h1];exact RV h2 2098 af (Oz hx fx 2098 rfl)
theorem RX (x:Nat) (hx:Wd x/\iY x) (w:World) (hT:dJ w) :
 Calls Tryz.prog 83 #[.float .f64 x] w fun r w'=>(∃ v,r=.returned (.tuple #[.agg #[.bool (dN (VG (Kg x))),v,.int .i64 (dE (VG (Kg x)))],.int .i64 0])/\Nt w.heap.size w' v (dX (VG (Kg x))))/\Below w.heap.size w w':=by
 obtain ⟨h1,h2,h3,_⟩:=Rt (uI x) (jN x) (mg hx.2);have:=MV (uI x) (jN x/4503599627370496) (jN x%4503599627370496) h2 h3 w hT;rw [<-h1,<-XI x hx.1] at this;refine this.mono ?_;rintro r w' ⟨⟨v,rfl,hN⟩,hb⟩;have e:=VI hx.1 hx.2;unfold Ww at e;rw [e] at hN |-;have he:Ws (jN x/4503599627370496)=0:=by unfold Ws;rw [if_neg (by have:=hx.2;omega)]
 rw [he];exact ⟨⟨v,rfl,hN⟩,hb⟩
end
section
open Go.RowKit J
theorem ku (g:Nat) (w:World) (x y z:Value):But g w (cZ w g x y z):=(((But.refl g w).set _ _).set _ _).set _ _
def Lo (w:World) (g:Nat) (o:Option (Bool×Nat×Int)):Prop:=∃ a c,Dk w g (dN o) (.slice a (ws (dX o)).length c) (dE o)/\Nt 0 w (.slice a (ws (dX o)).length c) (dX o)
theorem Lo.below {w w':World}{g:Nat}{o:Option (Bool×Nat×Int)}(h:Lo w g o) (hb:Below w.heap.size w w'):Lo w' g o:=by
 obtain ⟨a,c,h1,h2⟩:=h;exact ⟨a,c,h1.below hb,h2.below hb⟩
theorem Lo.lt {w:World}{g:Nat}{o:Option (Bool×Nat×Int)}(h:Lo w g o):g<w.heap.size:=by
 obtain ⟨a,c,h1,h2⟩:=h;exact h1.lt
theorem Nt.rz {lo g:Nat}{w:World}{v:Value}{X:Nat}{n:Bool}{a:Option Addr}{l c:Nat}{e:Int}(h:Nt lo w v X) (D:Dk w g n (.slice a l c) e) (x y z:Value):Nt lo (cZ w g x y z) v X:=by
 refine h.off (ku g w x y z) ?_;rcases h.2 with ⟨rfl,_⟩|⟨g',cap,cur,rfl,_,hg,_⟩
 · simp [Value.ownBlock]
 · intro e';obtain rfl:g'=g:=by simpa [Value.ownBlock] using e'
   rw [show w.heap[g']?=_ from D] at hg;simp at hg
theorem Lo.set {w:World}{g:Nat}{o p:Option (Bool×Nat×Int)}(h:Lo w g o) {a:Option Addr}{c:Nat}(hN:Nt 0 w (.slice a (ws (dX p)).length c) (dX p)) :
 Lo (cZ w g (.bool (dN p)) (.slice a (ws (dX p)).length c) (.int .i64 (dE p))) g p:=by
 obtain ⟨a0,c0,h1,h2⟩:=h;exact ⟨a,c,h1.set _ _ _,hN.rz h1 _ _ _⟩
theorem Lo.other {w:World}{g g':Nat}{o p:Option (Bool×Nat×Int)}(h:Lo w g o) (h':Lo w g' p) (hg:g≠g') (x y z:Value):Lo (cZ w g' x y z) g o:=by
 obtain ⟨a,c,h1,h2⟩:=h;obtain ⟨a0,c0,k1,k2⟩:=h';exact ⟨a,c,h1.other _ hg _ _ _,h2.rz k1 _ _ _⟩
theorem Lo.new {w:World}{o:Option (Bool×Nat×Int)}{a:Option Addr}{c:Nat}(hN:Nt 0 w (.slice a (ws (dX o)).length c) (dX o)):Lo (w.alloc (Obj.cells #[.bool (dN o),.slice a (ws (dX o)).length c,.int .i64 (dE o)] 25)) w.heap.size o :=
 ⟨a,c,Dk.new _ _ _ _,hN.below (ae _ _)⟩
abbrev iX:Option (Bool×Nat×Int):=some (false,0,0)
theorem Uk:(ws (dX iX)).length=0:=by simp [dX,bI]
theorem Lo.zero (w:World):Lo (w.alloc (Obj.cells #[.bool false,.slice none 0 0,.int .i64 0] 25)) w.heap.size iX:=by
 refine ⟨none,0,?_,?_⟩
 · rw [Uk];exact Dk.new _ _ _ _
 · rw [Uk];exact Nt.nil _ _
theorem Fm.er {o:Option (Bool×Nat×Int)}(h:Fm o):l9 o=0:=by
 obtain ⟨B,x,h⟩:=h;obtain ⟨n,X,e,rfl,_⟩:=h.ex;rfl
theorem Fm.a12 {o:Option (Bool×Nat×Int)}{w:World}{a:Option Addr}{c:Nat}(F:Fm o) (N:Nt 0 w (.slice a (ws (dX o)).length c) (dX o)):Arg w a (ws (dX o)).length c (ws (dX o)):=(N.aU (dP F.len au)).2
theorem VJ {U:World}{a b:Option Addr}{c d:Nat}{o p q:Option (Bool×Nat×Int)}(F:Fm o) (G:Fm p) (N1:Nt 0 U (.slice a (ws (dX o)).length c) (dX o)) (N2:Nt 0 U (.slice b (ws (dX p)).length d) (dX p)) (hT:dJ U) (h:dK o p=q) (H:Fm q) :
 Calls Tryz.prog 56 #[.agg #[.bool (dN o),.slice a (ws (dX o)).length c,.int .i64 (dE o)],.agg #[.bool (dN p),.slice b (ws (dX p)).length d,.int .i64 (dE p)]] U fun r w'=>(∃ v,r=.returned (.tuple #[.agg #[.bool (dN q),v,.int .i64 (dE q)],.int .i64 0])/\Nt U.heap.size w' v (dX q))/\Below U.heap.size U w':=by
 have:=wG (F.a12 N1) (G.a12 N2) hT (dN o) (dN p) (dE o) (dE p) F.p9.1 F.p9.2 G.p9.1 G.p9.2;rw [aj,aj,F.re,G.re,h] at this;unfold cK at this;rw [H.er] at this;exact this
theorem RY {U:World}{a b:Option Addr}{c d:Nat}{o p q:Option (Bool×Nat×Int)}(F:Fm o) (G:Fm p) (N1:Nt 0 U (.slice a (ws (dX o)).length c) (dX o)) (N2:Nt 0 U (.slice b (ws (dX p)).length d) (dX p)) (hT:dJ U) (h:iF o p=q) (H:Fm q) :
 Calls Tryz.prog 100 #[.agg #[.bool (dN o),.slice a (ws (dX o)).length c,.int .i64 (dE o)],.agg #[.bool (dN p),.slice b (ws (dX p)).length d,.int .i64 (dE p)]] U fun r w'=>(∃ v,r=.returned (.tuple #[.agg #[.bool (dN q),v,.int .i64 (dE q)],.int .i64 0])/\Nt U.heap.size w' v (dX q))/\Below U.heap.size U w':=by
 have:=Ch (F.a12 N1) (G.a12 N2) hT (dN o) (dN p) (dE o) (dE p) F.p9.1 F.p9.2 G.p9.1 G.p9.2;rw [aj,aj,F.re,G.re,h] at this;unfold cK at this;rw [H.er] at this;exact this
theorem Lo.shape {w:World}{lo:Nat}{v:Value}{q:Option (Bool×Nat×Int)}(H:Fm q) (h:Nt lo w v (dX q)):∃ a c,v=.slice a (ws (dX q)).length c/\Nt 0 w v (dX q):=by
 obtain ⟨a,c,rfl,_⟩:=h.arg (dP H.len au);exact ⟨a,c,rfl,h.mono (pQ _)⟩
end
section
open Go.RowKit
theorem Aj (x y c:Int) (hc:0<c):jh (x*c) (y*c)=jh x y:=by
 unfold jh;have h1:x*c<y*c↔x<y:=⟨fun h=>zg h (Bc hc),fun h=>zf h hc⟩;have h2:y*c<x*c↔y<x:=⟨fun h=>zg h (Bc hc),fun h=>zf h hc⟩;simp only [h1,h2]
theorem VK {n:Bool}{X:Nat}{e:Int}(F:sN n X e) (B:Int):Fv B (some (n,X,e)) (zv B (n,X,e)):=⟨n,X,e,rfl,F,rfl⟩
theorem Iv.fm {o:Option (Bool×Nat×Int)}{a b:Int}(h:Iv o a b):Fm o:=by
 obtain ⟨n,X,e,rfl,F,_⟩:=h;exact ⟨0,_,VK F 0⟩
theorem VL {o:Option (Bool×Nat×Int)}{B x:Int}(h:Fv B o x) (hB:B<=-1048576) (D:Int) (hD:D<=0):Fv (B+D) o (x*((2^(0-D).toNat:Nat):Int)):=by
 obtain ⟨n',X',e',hx,F',hz⟩:=h.ex;refine ⟨n',X',e',hx,F',?_⟩;rw [<-hz];unfold zv;simp only;rw [mh,<-fU,aN,<-aL];have:=F'.down;rw [show (e'-(B+D)).toNat=(e'-B).toNat+(0-D).toNat by omega]
end
section
open Go.RowKit J
def EK:Nat:=1048576
theorem exP (a:Nat):∃ u:Nat,u=2^a:=⟨_,rfl⟩
noncomputable def MM:Nat:=Classical.choose (exP EK)
theorem VM:MM=2^EK:=zt (exP EK)
theorem Ye:0<MM:=by rw [VM];exact bu _
theorem Fm.sm {o:Option (Bool×Nat×Int)}(h:Fm o):o.isSome=true:=by
 obtain ⟨B,x,h⟩:=h;obtain ⟨n,X,e,rfl,_⟩:=h.ex;rfl
theorem Fm.val {o:Option (Bool×Nat×Int)}(h:Fm o):Fv (-1048576) o (uN o):=fvO h.re h.sm
theorem Fv.uniq {B x y:Int}{o:Option (Bool×Nat×Int)}(h1:Fv B o x) (h2:Fv B o y):x=y:=by
 obtain ⟨n,X,e,ho,_,hz⟩:=h1.ex;obtain ⟨n',X',e',ho',_,hz'⟩:=h2.ex;rw [ho] at ho'
 cases ho'
 exact hz.symm.trans hz'
theorem val_mul {o p:Option (Bool×Nat×Int)}(F:Fm o) (G:Fm p) (H:Fm (dK o p)):uN (dK o p)*(MM:Int)=uN o*uN p:=by
 have h1:=Fv.mul au au F.val G.val H.sm;have h2:=VL H.val au (-1048576) au;rw [show ((0:Int) - -1048576).toNat=EK from rfl,<-VM] at h2;exact (h1.uniq h2).symm
theorem val_add {o p:Option (Bool×Nat×Int)}(F:Fm o) (G:Fm p) (H:Fm (iF o p)):uN (iF o p)=uN o+uN p :=
 H.val.uniq (Fv.add au F.val G.val H.sm)
theorem CQ {o p:Option (Bool×Nat×Int)}(F:Fm o) (G:Fm p) (h:uN o=uN p):o=p:=by
 obtain ⟨h1,h2,h3⟩:=Fv.same au F.val G.val h;obtain ⟨n,X,e,rfl,_⟩:=F.val.ex;obtain ⟨m,Y,f,rfl,_⟩:=G.val.ex;have h1:n=m:=h1;have h2:X=Y:=h2;have h3:e=f:=h3;rw [h1,h2,h3]
theorem val_mk {n:Bool}{X:Nat}{e:Int}(h:Fm (mkS n X e)) (he:-1048576<=e) (k:Nat) (hk:(e+1048576).toNat=k):uN (mkS n X e)=p8 n*((X*2^k:Nat):Int):=by
 obtain ⟨⟨n',Y,f⟩,ho⟩:=zo.1 h.sm;have:=lT ho (-1048576) (.inr he);rw [show (e - -1048576).toNat=k by rw [<-hk];congr 1] at this;rw [<-this,ho];rfl
theorem Fp (V:Int) (K:Nat):p8 (decide (V<0))*((V.natAbs*K:Nat):Int)=V*(K:Int):=by
 rw [fU,<-mh];congr 1;unfold p8
 by_cases h:V<0
 · rw [decide_eq_true h,if_pos rfl];omega
 · rw [decide_eq_false h,if_neg au];omega
def Bd (m:Nat) (V:Int):Prop:=V.natAbs<=2^m
theorem Bd.mono {m k:Nat}{V:Int}(h:Bd m V) (hk:m<=k):Bd k V:=dP h (fB au hk)
theorem Bd.lt {m:Nat}{V:Int}(h:Bd m V):V.natAbs<2^(m+1):=by
 unfold Bd at h;rw [gY];have:=bu m;omega
theorem Bd.mul {a b:Nat}{V W:Int}(h:Bd a V) (k:Bd b W):Bd (a+b) (V*W):=by
 unfold Bd at *;rw [Int.natAbs_mul,aL];exact jv h k
theorem Bd.add {m:Nat}{V W:Int}(h:Bd m V) (k:Bd m W):Bd (m+1) (V+W):=by
 unfold Bd at *;rw [gY];omega
theorem Bd.neg {m:Nat}{V:Int}(h:Bd m V):Bd m (-V):=by
 unfold Bd at *;rw [Int.natAbs_neg];exact h
theorem Bd.sub {m:Nat}{V W:Int}(h:Bd m V) (k:Bd m W):Bd (m+1) (V-W):=by
 rw [Int.sub_eq_add_neg];exact h.add k.neg
theorem Bd.one (m:Nat):Bd m 1:=bu m
theorem Bd.nat {n k:Nat}(h:n<=2^k):Bd k (n:Int):=h
theorem Bd.pow {a:Nat}{V:Int}(h:Bd a V):∀ k:Nat,Bd (a*k) (V^k)
 | 0=>by rw [Int.pow_zero];exact Bd.one _
 | k+1=>by rw [Int.pow_succ,Bb];exact (Bd.pow h k).mul h
def gV (u:Nat) (V:Int):Option (Bool×Nat×Int):=mkS (decide (V<0)) V.natAbs (-(u:Int))
theorem Kw {u m:Nat}{V:Int}(hu:u<=100000) (hm:m<=99999) (hV:Bd m V):Iv (gV u V) (-(u:Int)) (((m+1:Nat):Int)-(u:Int)):=by
 unfold gV;refine Fj _ _ _ _ _ (.inr ⟨af,?_⟩) af af af;have:=dR hV.lt;omega
theorem dB {u m:Nat}{V:Int}(hu:u<=100000) (hm:m<=99999) (hV:Bd m V):Fm (gV u V):=(Kw hu hm hV).fm
theorem wY {u:Nat}{V:Int}(h:Fm (gV u V)) (hu:u<=1000000) (k:Nat) (hk:k+u=EK):uN (gV u V)=V*((2^k:Nat):Int):=by
 unfold gV at h |-;rw [val_mk h af k (by unfold EK at hk;omega),Fp]
theorem Yf (u:Nat) (hu:u<=1000000):∃ k,k+u=EK:=⟨EK-u,by unfold EK;omega⟩
theorem mH {u v a b:Nat}{V W:Int}(hu:u<=50000) (hv:v<=50000) (ha:a<=40000) (hb:b<=40000) (h1:Bd a V) (h2:Bd b W):dK (gV u V) (gV v W)=gV (u+v) (V*W):=by
 have F:=Kw (u:=u) af af h1;have G:=Kw (u:=v) af af h2;have hF:=(F.mul G af af af).fm;have hG:=dB (u:=u+v) af af (h1.mul h2);refine CQ hF hG ?_;obtain ⟨k1,e1⟩:=Yf u af;obtain ⟨k2,e2⟩:=Yf v af;obtain ⟨k3,e3⟩:=Yf (u+v) af;have h:=val_mul F.fm G.fm hF;rw [wY F.fm af k1 e1,wY G.fm af k2 e2] at h;rw [wY hG af k3 e3];have hM:=Ye;refine Int.eq_of_mul_eq_mul_right (a:=(MM:Int)) af (h.trans ?_)
 have e:((2^k1:Nat):Int)*((2^k2:Nat):Int)=((2^k3:Nat):Int)*(MM:Int):=by
  rw [<-fU,<-fU,VM,<-aL,<-aL,show k1+k2=k3+EK by omega]
 rw [mh (V*W),<-e,mh,mh,Int.mul_left_comm W]
theorem CR {u m:Nat}{V W:Int}(hu:u<=100000) (hm:m<=90000) (h1:Bd m V) (h2:Bd m W):iF (gV u V) (gV u W)=gV u (V+W):=by
 have F:=Kw (u:=u) af af h1;have G:=Kw (u:=u) af af h2;have hF:=(F.add G af af af).fm;have hG:=dB (u:=u) af af (h1.add h2);refine CQ hF hG ?_;obtain ⟨k1,e1⟩:=Yf u af;rw [val_add F.fm G.fm hF,wY F.fm af k1 e1,wY G.fm af k1 e1,wY hG af k1 e1,Int.add_mul]
theorem Ul (u:Nat) (W:Int):VF (gV u W)=gV u (-W):=by
 unfold gV;rw [Ov,Int.natAbs_neg]
 by_cases h:W=0
 · subst h;rw [Int.natAbs_zero,eY,eY]
 · congr 1
   by_cases h1:W<0
   · rw [decide_eq_true h1,decide_eq_false af];rfl
   · rw [decide_eq_false h1,decide_eq_true af];rfl
theorem Um {u m:Nat}{V W:Int}(hu:u<=100000) (hm:m<=90000) (h1:Bd m V) (h2:Bd m W):iF (gV u V) (mkS (!dN (gV u W)) (dX (gV u W)) (dE (gV u W)))=gV u (V-W):=by
 rw [uB (dB (u:=u) af af h2).sm,Ul,CR hu hm h1 h2.neg,<-Int.sub_eq_add_neg]
theorem wZ (u:Nat):gV u 0=iX:=eY _ _
theorem VN {u m:Nat}{V:Int}(hu:u<=100000) (hm:m<=90000) (h:Bd m V):(dX (gV u V)=0↔V=0)/\(dN (gV u V)=true↔V<0):=by
 have F:=dB (u:=u) hu af h;obtain ⟨k,e⟩:=Yf u af;have hv:=F.val;rw [wY F af k e] at hv;have hp:(0:Int)<((2^k:Nat):Int):=by have:=bu k;omega
 refine ⟨hv.Ow.trans ?_,hv.RP.trans ?_⟩
 · constructor
   · intro q;rcases Int.mul_eq_zero.1 q with q|q
     · exact q
     · omega
   · rintro rfl;rw [Int.zero_mul]
 · constructor
   · intro q;rcases Int.lt_or_le V 0 with r|r
     · exact r
     · have:=Int.mul_nonneg r (Bc hp);omega
   · intro q;exact Int.mul_neg_of_neg_of_pos q hp
def tS (f:Nat->Int):Nat->Int
 | 0=>0
 | n+1=>tS f n+f n
theorem Un {f:Nat->Int}{m:Nat}:∀ {n:Nat},(∀ i,i<n->Bd m (f i))->(tS f n).natAbs<=n*2^m
 | 0,_=>by simp [tS]
 | n+1,h=>by
   have h1:=Un (n:=n) fun i hi=>h i af;have h2:=h n af;unfold Bd at h2;show (tS f n+f n).natAbs<=_;rw [Nat.succ_mul];omega
theorem CS {f:Nat->Int}{m n:Nat}(h:∀ i,i<n->Bd m (f i)) (hn:n<=65536) (k:Nat) (hk:k<=n):Bd (m+16) (tS f k):=by
 have h1:=Un (n:=k) fun i hi=>h i af;have h2:k*2^m<=65536*2^m:=fO _ af;unfold Bd;rw [aL,df (2^m)];exact dP h1 h2
theorem Uo {x:Nat}(hx:x<18446744073709551616) (fx:iY x):Bd 2098 (Kg x):=by
 obtain ⟨m,hm⟩:∃ m,m=2098:=⟨_,rfl⟩;have h:Bd m (Kg x):=mg (Oz hx fx m hm);rw [hm] at h;exact h
attribute [irreducible] Bd
end
section
open Go.RowKit
open Go.Proofs.YtfmfhehbdfhnbaaGreatDoor.B (cO aI bw)
attribute [local go_sem] cO aI
def kd (b:Nat):Nat :=
 if 9218868437227405312<b%9223372036854775808 then 5
 else if b%9223372036854775808=9218868437227405312 then (if b/9223372036854775808=1 then 4 else 3)
 else if b%9223372036854775808=0 then (if b/9223372036854775808=1 then 1 else 2)
 else 0
def kp (k:Nat):Nat:=if k=5 then 0 else if k=3 then 1 else if k=4 then 2 else if k=1 then 3 else if k=2 then 4 else 5
theorem Yg (s:Bool) (e f:Nat) (he:e<2048) (hf:f<4503599627370496):kd (bw s e f)=if e=2047 then (if f=0 then (if s then 4 else 3) else 5) else if e=0/\f=0 then (if s then 1 else 2) else 0:=by
 unfold kd bw;have h1:(s.toNat*9223372036854775808+e*4503599627370496+f)%9223372036854775808=e*4503599627370496+f:=by cases s <;> simp only [kG,kH] <;> omega
 have h2:(s.toNat*9223372036854775808+e*4503599627370496+f)/9223372036854775808=s.toNat:=by cases s <;> simp only [kG,kH] <;> omega
 rw [h1,h2]
 by_cases he2:e=2047
 · subst he2;rw [if_pos rfl]
   by_cases hf0:f=0
   · subst hf0;cases s <;> simp
   · rw [if_pos af,if_neg hf0]
 · rw [if_neg he2,if_neg af,if_neg af]
   by_cases h0:e=0/\f=0
   · obtain ⟨rfl,rfl⟩:=h0;cases s <;> simp
   · rw [if_neg af,if_neg h0]
theorem w9 (neg:Bool) (a b:Int) (w:World):Calls Tryz.prog 158 #[.bool neg,.int .i64 a,.int .i64 b] w fun r w'=>r=.returned (.int .i64 (if neg then a else b))/\w'=w:=by
 cases neg <;>
 · go_enter Tryz.func158,Tryz.ntmps158;go_wp2;go_ret;exact ⟨rfl,rfl⟩
theorem OA (b:Nat) (hb:b<18446744073709551616) (w:World):Calls Tryz.prog 114 #[.float .f64 b] w fun r w'=>r=.returned (.int .i64 (kp (kd b):Nat))/\Below w.heap.size w w':=by
 obtain ⟨s,e,f,he,hf,rfl⟩:=B.Xd b hb;rw [Yg s e f he hf];have H:=hid (B.sI s e f he hf);obtain ⟨x1,hx1⟩:∃ x,B.xp e=x:=⟨_,rfl⟩;obtain ⟨x2,hx2⟩:∃ x,B.fr e f=x:=⟨_,rfl⟩;rw [hx1,hx2] at H;clear hx1 hx2 hb
 by_cases he2:e=2047
 · subst he2
   by_cases hf0:f=0
   · subst hf0;have hc:B.cls 2047 0=3:=by unfold B.cls;rw [if_pos rfl,if_pos rfl]
     have hg:B.ng s 2047 0=s:=by unfold B.ng;rw [if_neg aO]
     rw [hc,hg] at H;rw [if_pos rfl,if_pos rfl];have HS:=hid (w9 s 2 1);obtain ⟨x,hx⟩:∃ x:Int,(if s then 2 else 1)=x:=⟨_,rfl⟩;rw [hx] at HS;have hk:((kp (if s then 4 else 3):Nat):Int)=x:=by cases s <;> (subst hx;rfl)
     rw [hk];clear hc hg hx hk;go_enter Tryz.func114,Tryz.ntmps114;go_wp2_with fail;refine (H.o _).mono ?_;rintro r w1 ⟨rfl,hb1⟩;have HB:=ak hb1;have hz:=hb1.size;clear hb1;go_wp2_with fail;refine (HS.o _).mono ?_;rintro r w2 ⟨rfl,rfl⟩;go_wp2;go_ret;exact ⟨rfl,(HB.o.alloc hz _)⟩
   · have hc:B.cls 2047 f=4:=by unfold B.cls;rw [if_pos rfl,if_neg hf0]
     rw [hc] at H;rw [if_pos rfl,if_neg hf0];obtain ⟨x3,hx3⟩:∃ x,B.ng s 2047 f=x:=⟨_,rfl⟩;rw [hx3] at H;clear hc hx3;go_enter Tryz.func114,Tryz.ntmps114;go_wp2_with fail;refine (H.o _).mono ?_;rintro r w1 ⟨rfl,hb1⟩;have HB:=ak hb1;have hz:=hb1.size;clear hb1;go_wp2;go_ret;exact ⟨rfl,(HB.o.alloc hz _)⟩
 · rw [if_neg he2];have hg:B.ng s e f=s:=by unfold B.ng;rw [if_neg (fun h=>he2 h.1)]
   rw [hg] at H
   by_cases h0:e=0/\f=0
   · obtain ⟨rfl,rfl⟩:=h0;have hc:B.cls 0 0=0:=by unfold B.cls;rw [if_neg af,if_pos rfl,if_pos rfl]
     rw [hc] at H;rw [if_pos ⟨rfl,rfl⟩];have HS:=hid (w9 s 3 4);obtain ⟨x,hx⟩:∃ x:Int,(if s then 3 else 4)=x:=⟨_,rfl⟩;rw [hx] at HS;have hk:((kp (if s then 1 else 2):Nat):Int)=x:=by cases s <;> (subst hx;rfl)
     rw [hk];clear hc hg hx hk;go_enter Tryz.func114,Tryz.ntmps114;go_wp2_with fail;refine (H.o _).mono ?_;rintro r w1 ⟨rfl,hb1⟩;have HB:=ak hb1;have hz:=hb1.size;clear hb1;go_wp2_with fail;refine (HS.o _).mono ?_;rintro r w2 ⟨rfl,rfl⟩;go_wp2;go_ret;exact ⟨rfl,(HB.o.alloc hz _)⟩
   · rw [if_neg h0]
     obtain ⟨c,hc,h1,h2,h3⟩:∃ c:Int,B.cls e f=c/\(c==4)=false/\(c==3)=false/\(c==0)=false:=by
      unfold B.cls;rw [if_neg he2]
      by_cases he0:e=0
      · rw [if_pos he0,if_neg (fun h=>h0 ⟨he0,h⟩)];exact ⟨_,rfl,au,au,au⟩
      · rw [if_neg he0];exact ⟨_,rfl,au,au,au⟩
     rw [hc] at H;clear hc hg;go_enter Tryz.func114,Tryz.ntmps114;go_wp2_with fail;refine (H.o _).mono ?_;rintro r w1 ⟨rfl,hb1⟩;have HB:=ak hb1;have hz:=hb1.size;clear hb1;go_wp2;go_ret;exact ⟨rfl,(HB.o.alloc hz _)⟩
end
section
open Go.RowKit J
theorem Fm.two {o:Option (Bool×Nat×Int)}(h:Fm o):(ws (dX o)).length<=2000000:=dP h.len au
theorem VO {U:World}{a b:Option Addr}{c d:Nat}{o p q:Option (Bool×Nat×Int)}(F:Fm o) (G:Fm p) (N1:Nt 0 U (.slice a (ws (dX o)).length c) (dX o)) (N2:Nt 0 U (.slice b (ws (dX p)).length d) (dX p)) (h:dK o p=q) (H:Fm q) :
 Calls Tryz.prog 31 #[.agg #[.bool (dN o),.slice a (ws (dX o)).length c,.int .i64 (dE o)],.agg #[.bool (dN p),.slice b (ws (dX p)).length d,.int .i64 (dE p)]] U fun r w'=>(∃ v,r=.returned (.tuple #[.agg #[.bool (dN q),v,.int .i64 (dE q)],.int .i64 0])/\Nt U.heap.size w' v (dX q))/\Below U.heap.size U w':=by
 have:=sV (F.a12 N1) (G.a12 N2) F.two G.two (dN o) (dN p) (dE o) (dE p) F.p9.1 F.p9.2 G.p9.1 G.p9.2;rw [aj,aj,F.re,G.re,h] at this;unfold cK at this;rw [H.er] at this;exact this
end
end Go.Proofs.YtfmfhehbdfhnbaaGreatDoor
