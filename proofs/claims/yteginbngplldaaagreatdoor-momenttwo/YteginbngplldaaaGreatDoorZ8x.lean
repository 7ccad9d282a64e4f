import Derived.Test.YteginbngplldaaaGreatDoorD39x
import Derived.Test.YteginbngplldaaaGreatDoorD30x
import Derived.Deep.Cut
import Derived.Test.YteginbngplldaaaGreatDoorD32cx
import Derived.Deep.OwnRows
import Derived.Deep.LoopGhost
import Derived.Deep.RegionHeld3
import Derived.Test.YteginbngplldaaaGreatDoorD19x
import Derived.Test.YteginbngplldaaaGreatDoorD2x
import Derived.Test.YteginbngplldaaaGreatDoorD15x
import Derived.Test.YteginbngplldaaaGreatDoorW17x
import Derived.Laws.FloatArith
import Derived.Test.YteginbngplldaaaGreatDoorZ3x
set_option linter.unusedVariables false
set_option linter.unusedSimpArgs false
set_option maxHeartbeats 16000000
set_option maxRecDepth 20000
namespace Go.Proofs.YteginbngplldaaaGreatDoor
section
open Go.RowKit
theorem xk(W:World)(g:Nat)(n:Bool)(v:Value)(e:Int)(m:Bool)(u:Value)(f k:Int)(tmps:Array Value)(ht:tmps[2]?.getD undef=.pointer (some ⟨g,0,none⟩))(hk:tmps[3]?.getD undef=.int .i64 k)(D:Rq W g n v e m u f) :
 (results Tryz.f160 tmps).run Tryz.prog W=.ok (.tuple #[.agg #[.bool n,v,.int .i64 e,.bool m,u,.int .i64 f],.int .i64 k]) W:=by
 obtain⟨x0,x1,x2,x3,x4,x5⟩:=D.facts;simp[results,Tryz.results160,ht,hk,go_sem,x0,x1,x2,x3,x4,x5]
theorem qH(w:World)(n:Bool)(v:Value)(e:Int)(m:Bool)(u:Value)(f:Int)(W:World)(hW:W=(w.alloc (.cells #[.bool n,v,.int .i64 e,.bool m,u,.int .i64 f] 73)).alloc (.cells #[.bool false,.slice none 0 0,.int .i64 0,.bool false,.slice none 0 0,.int .i64 0] 73)) :
 An w W/\W.heap.size=w.heap.size+2/\Rq W w.heap.size n v e m u f/\Rq W (w.heap.size+1) false (.slice none 0 0) 0 false (.slice none 0 0) 0:=by
 rw[hW];refine⟨(ae w _).alloc (by simp) _,by simp,(Rq.new _ _ _ _ _ _ _).alloc _,?_⟩;have:=Rq.new (w.alloc (.cells #[.bool n,v,.int .i64 e,.bool m,u,.int .i64 f] 73)) false (.slice none 0 0) 0 false (.slice none 0 0) 0;simpa using this
theorem TF {w:World}{a b:Option Addr}{la ca lb cb:Nat}(n m:Bool) (e f:Int) (n1 m1:Bool) (X Y:Nat) (e1 f1:Int) (lX:(ws X).length<=8192) (lY:(ws Y).length<=8192)
 (H1:Hid (∀ u,An w u->As 98 #[.bool n,.slice a la ca,.int .i64 e] u fun r w'=>(∃ v,r=.returned (.tuple #[.agg #[.bool n1,v,.int .i64 e1],.int .i64 0])/\Nt u.heap.size w' v X)/\An u w'))
 (H2:Hid (∀ u,An w u->As 98 #[.bool m,.slice b lb cb,.int .i64 f] u fun r w'=>(∃ v,r=.returned (.tuple #[.agg #[.bool m1,v,.int .i64 f1],.int .i64 0])/\Nt u.heap.size w' v Y)/\An u w')) :
 As 160 #[.agg #[.bool n,.slice a la ca,.int .i64 e,.bool m,.slice b lb cb,.int .i64 f]] w fun r w'=>(∃ v u,r=.returned (.tuple #[.agg #[.bool n1,v,.int .i64 e1,.bool m1,u,.int .i64 f1],.int .i64 0])/\Nt w.heap.size w' v X/\Nt w.heap.size w' u Y/\Ap v u)/\An w w':=by
 obtain⟨W1,hW1⟩:=af ((w.alloc (.cells #[.bool n,.slice a la ca,.int .i64 e,.bool m,.slice b lb cb,.int .i64 f] 73)).alloc (.cells #[.bool false,.slice none 0 0,.int .i64 0,.bool false,.slice none 0 0,.int .i64 0] 73));obtain⟨hB,hz1,RQ,RR⟩:=qH w n _ e m _ f W1 hW1;have hs2:w.heap.size+2<=W1.heap.size:=by omega
 have hbel:=hB;have S0:=(bO hbel RQ RR);clear hbel;clear hB RQ RR hz1;go_enter Tryz.func160,Tryz.ntmps160;obtain⟨x0,x1,x2,x3,x4,x5⟩:=S0.o.2.1.facts;obtain⟨au,RQ,RR⟩:=S0.o;have HC:=hid (H1.o W1 au);clear au RQ RR
 go_upto_region 1 with fail
 rw[<-hW1];clear hW1;go_wp2_with fail;clear x0 x1 x2 x3 x4 x5;refine HC.o.mono ?_;rintro r u1 ⟨⟨v,rfl,hN⟩,hb⟩;obtain⟨a1,c1,rfl,_⟩:=hN.arg (by omega);clear HC;obtain⟨au,RQ,RR⟩:=S0.o;have hbn:=au.trans (hb.mono au.size);have S1:=fE hbn (RQ.below hb) (RR.below hb) (hN.mono au.size);clear au RQ RR;clear hb hbn S0;clear hN;obtain⟨U1,aQ⟩:=af (u1.alloc (.cells #[.bool n1,.slice a1 (ws X).length c1,.int .i64 e1] 37));obtain⟨au,RQ,RR,NX⟩:=S1.o;have iU:An u1 U1:=by rw[aQ];exact ae _ _
 have TN:Tk U1 u1.heap.size 37 (.bool n1) (.slice a1 (ws X).length c1) (.int .i64 e1):=by rw[aQ];exact Tk.new _ _ _ _ _
 have hbn:=au.trans (iU.mono au.size);have hgu:w.heap.size+2<=u1.heap.size:=by have:=RR.lt;omega
 have S2:=dJ hbn (RQ.below iU) (RR.below iU) (NX.below iU) TN;obtain⟨x0,x1,x2,x3,x4,x5⟩:=(RQ.below iU).facts;clear au RQ RR NX;clear iU hbn TN S1 H1;obtain⟨au,RQ,RR,NX,TN⟩:=S2.o;have HC:=hid (H2.o U1 au);clear au RQ RR NX TN
 go_upto_region 4 with fail
 rw[<-aQ];clear aQ;go_wp2_with fail;clear x0 x1 x2 x3 x4 x5;refine HC.o.mono ?_;rintro r u3 ⟨⟨v,rfl,hN⟩,hb⟩;obtain⟨a2,c2,rfl,_⟩:=hN.arg (by omega);clear HC;obtain⟨au,RQ,RR,NX,TN⟩:=S2.o;have hbn:=au.trans (hb.mono au.size);have S3:=jY hbn (RQ.below hb) (RR.below hb) (NX.below hb) (TN.below hb) (hN.mono au.size) (NX.ap hN);clear au RQ RR NX TN;clear hb hbn S2;clear hN;obtain⟨U3,xX⟩:=af (u3.alloc (.cells #[.bool m1,.slice a2 (ws Y).length c2,.int .i64 f1] 37));obtain⟨au,RQ,RR,NX,TN,NY,AP⟩:=S3.o;have iU:An u3 U3:=by rw[xX];exact ae _ _
 have TD:Tk U3 u3.heap.size 37 (.bool m1) (.slice a2 (ws Y).length c2) (.int .i64 f1):=by rw[xX];exact Tk.new _ _ _ _ _
 have hbn:=au.trans (iU.mono au.size);have SZ:=dJ hbn (RR.below iU) (NX.below iU) (NY.below iU) AP;obtain⟨x0,x1,x2,_,_,_⟩:=(TN.below iU).facts;obtain⟨y0,y1,y2,_,_,_⟩:=TD.facts;obtain⟨r0,r1,r2,r3,r4,r5⟩:=(RR.below iU).facts;obtain⟨gK,gL,gM,XQ,rf4,rf5⟩:=(RR.below iU).frz;clear au RQ RR NX TN NY AP;clear iU hbn TD S3 H2
 go_upto_region 5 with fail
 rw[<-xX];clear xX;go_wp2;obtain⟨au,RR,NX,NY,AP⟩:=SZ.o;have hbl:=au.size;refine aC (xk _ (w.heap.size+1) n1 (.slice a1 (ws X).length c1) e1 m1 (.slice a2 (ws Y).length c2) f1 0 _ rfl rfl (RR.set _ _ _ _ _ _)) rfl ⟨⟨_,_,rfl,NX.Y7 RR _ _ _ _ _ _,NY.Y7 RR _ _ _ _ _ _,AP⟩,tT au hbl (by omega) _ _ _ _ _ _⟩
theorem LU {w:World}{a b:Option Addr}{la ca lb cb:Nat}(n m:Bool) (e f:Int) (n1 m1:Bool) (X Y:Nat) (e1 f1:Int) (lX:(ws X).length<=8192) (lY:(ws Y).length<=8192)
 (H1:Hid (∀ u,An w u->As 98 #[.bool n,.slice a la ca,.int .i64 e] u fun r w'=>(∃ v,r=.returned (.tuple #[.agg #[.bool n1,v,.int .i64 e1],.int .i64 2])/\Nt u.heap.size w' v X)/\An u w'))
  :
 As 160 #[.agg #[.bool n,.slice a la ca,.int .i64 e,.bool m,.slice b lb cb,.int .i64 f]] w fun r w'=>(∃ v u,r=.returned (.tuple #[.agg #[.bool false,v,.int .i64 0,.bool false,u,.int .i64 0],.int .i64 2])/\v=.slice none 0 0/\u=.slice none 0 0)/\An w w':=by
 obtain⟨W1,hW1⟩:=af ((w.alloc (.cells #[.bool n,.slice a la ca,.int .i64 e,.bool m,.slice b lb cb,.int .i64 f] 73)).alloc (.cells #[.bool false,.slice none 0 0,.int .i64 0,.bool false,.slice none 0 0,.int .i64 0] 73));obtain⟨hB,hz1,RQ,RR⟩:=qH w n _ e m _ f W1 hW1;have hs2:w.heap.size+2<=W1.heap.size:=by omega
 have hbel:=hB;have S0:=(bO hbel RQ RR);clear hbel;clear hB RQ RR hz1;go_enter Tryz.func160,Tryz.ntmps160;obtain⟨x0,x1,x2,x3,x4,x5⟩:=S0.o.2.1.facts;obtain⟨au,RQ,RR⟩:=S0.o;have HC:=hid (H1.o W1 au);clear au RQ RR
 go_upto_region 1 with fail
 rw[<-hW1];clear hW1;go_wp2_with fail;clear x0 x1 x2 x3 x4 x5;refine HC.o.mono ?_;rintro r u1 ⟨⟨v,rfl,hN⟩,hb⟩;obtain⟨a1,c1,rfl,_⟩:=hN.arg (by omega);clear HC;obtain⟨au,RQ,RR⟩:=S0.o;have hbn:=au.trans (hb.mono au.size);have S1:=bO hbn (RQ.below hb) (RR.below hb);clear au RQ RR;clear hb hbn S0;clear hN;obtain⟨U1,aQ⟩:=af (u1.alloc (.cells #[.bool n1,.slice a1 (ws X).length c1,.int .i64 e1] 37));obtain⟨au,RQ,RR⟩:=S1.o;have iU:An u1 U1:=by rw[aQ];exact ae _ _
 have hlast:=aJ (au.trans (iU.mono au.size)) (RR.below iU);obtain⟨r0,r1,r2,r3,r4,r5⟩:=(RR.below iU).facts;obtain⟨gK,gL,gM,XQ,rf4,rf5⟩:=(RR.below iU).frz;clear au RQ RR;clear S1 H1 iU
 go_upto_region 2 with fail
 rw[<-aQ];clear aQ;go_wp2;obtain⟨au,RR⟩:=hlast.o;exact aC (xk _ (w.heap.size+1) false (.slice none 0 0) 0 false (.slice none 0 0) 0 2 _ rfl rfl (RR.set _ _ _ _ _ _)) rfl ⟨⟨_,_,rfl,rfl,rfl⟩,tT au au.size (by omega) _ _ _ _ _ _⟩
theorem LV {w:World}{a b:Option Addr}{la ca lb cb:Nat}(n m:Bool) (e f:Int) (n1 m1:Bool) (X Y:Nat) (e1 f1:Int) (lX:(ws X).length<=8192) (lY:(ws Y).length<=8192)
 (H1:Hid (∀ u,An w u->As 98 #[.bool n,.slice a la ca,.int .i64 e] u fun r w'=>(∃ v,r=.returned (.tuple #[.agg #[.bool n1,v,.int .i64 e1],.int .i64 0])/\Nt u.heap.size w' v X)/\An u w'))
 (H2:Hid (∀ u,An w u->As 98 #[.bool m,.slice b lb cb,.int .i64 f] u fun r w'=>(∃ v,r=.returned (.tuple #[.agg #[.bool m1,v,.int .i64 f1],.int .i64 2])/\Nt u.heap.size w' v Y)/\An u w')) :
 As 160 #[.agg #[.bool n,.slice a la ca,.int .i64 e,.bool m,.slice b lb cb,.int .i64 f]] w fun r w'=>(∃ v u,r=.returned (.tuple #[.agg #[.bool false,v,.int .i64 0,.bool false,u,.int .i64 0],.int .i64 2])/\v=.slice none 0 0/\u=.slice none 0 0)/\An w w':=by
 obtain⟨W1,hW1⟩:=af ((w.alloc (.cells #[.bool n,.slice a la ca,.int .i64 e,.bool m,.slice b lb cb,.int .i64 f] 73)).alloc (.cells #[.bool false,.slice none 0 0,.int .i64 0,.bool false,.slice none 0 0,.int .i64 0] 73));obtain⟨hB,hz1,RQ,RR⟩:=qH w n _ e m _ f W1 hW1;have hs2:w.heap.size+2<=W1.heap.size:=by omega
 have hbel:=hB;have S0:=(bO hbel RQ RR);clear hbel;clear hB RQ RR hz1;go_enter Tryz.func160,Tryz.ntmps160;obtain⟨x0,x1,x2,x3,x4,x5⟩:=S0.o.2.1.facts;obtain⟨au,RQ,RR⟩:=S0.o;have HC:=hid (H1.o W1 au);clear au RQ RR
 go_upto_region 1 with fail
 rw[<-hW1];clear hW1;go_wp2_with fail;clear x0 x1 x2 x3 x4 x5;refine HC.o.mono ?_;rintro r u1 ⟨⟨v,rfl,hN⟩,hb⟩;obtain⟨a1,c1,rfl,_⟩:=hN.arg (by omega);clear HC;obtain⟨au,RQ,RR⟩:=S0.o;have hbn:=au.trans (hb.mono au.size);have S1:=fE hbn (RQ.below hb) (RR.below hb) (hN.mono au.size);clear au RQ RR;clear hb hbn S0;clear hN;obtain⟨U1,aQ⟩:=af (u1.alloc (.cells #[.bool n1,.slice a1 (ws X).length c1,.int .i64 e1] 37));obtain⟨au,RQ,RR,NX⟩:=S1.o;have iU:An u1 U1:=by rw[aQ];exact ae _ _
 have TN:Tk U1 u1.heap.size 37 (.bool n1) (.slice a1 (ws X).length c1) (.int .i64 e1):=by rw[aQ];exact Tk.new _ _ _ _ _
 have hbn:=au.trans (iU.mono au.size);have hgu:w.heap.size+2<=u1.heap.size:=by have:=RR.lt;omega
 have S2:=dJ hbn (RQ.below iU) (RR.below iU) (NX.below iU) TN;obtain⟨x0,x1,x2,x3,x4,x5⟩:=(RQ.below iU).facts;clear au RQ RR NX;clear iU hbn TN S1 H1;obtain⟨au,RQ,RR,NX,TN⟩:=S2.o;have HC:=hid (H2.o U1 au);clear au RQ RR NX TN
 go_upto_region 4 with fail
 rw[<-aQ];clear aQ;go_wp2_with fail;clear x0 x1 x2 x3 x4 x5;refine HC.o.mono ?_;rintro r u3 ⟨⟨v,rfl,hN⟩,hb⟩;obtain⟨a2,c2,rfl,_⟩:=hN.arg (by omega);clear HC;obtain⟨au,RQ,RR,NX,TN⟩:=S2.o;have hbn:=au.trans (hb.mono au.size);have S3:=dJ hbn (RQ.below hb) (RR.below hb) (NX.below hb) (TN.below hb);clear au RQ RR NX TN;clear hb hbn S2;clear hN;obtain⟨U3,xX⟩:=af (u3.alloc (.cells #[.bool m1,.slice a2 (ws Y).length c2,.int .i64 f1] 37));obtain⟨au,RQ,RR,NX,TN⟩:=S3.o;have iU:An u3 U3:=by rw[xX];exact ae _ _
 have hlast:=aJ (au.trans (iU.mono au.size)) (RR.below iU);obtain⟨r0,r1,r2,r3,r4,r5⟩:=(RR.below iU).facts;obtain⟨gK,gL,gM,XQ,rf4,rf5⟩:=(RR.below iU).frz;clear au RQ RR NX TN;clear S3 H2 iU
 go_upto_region 5 with fail
 rw[<-xX];clear xX;go_wp2;obtain⟨au,RR⟩:=hlast.o;exact aC (xk _ (w.heap.size+1) false (.slice none 0 0) 0 false (.slice none 0 0) 0 2 _ rfl rfl (RR.set _ _ _ _ _ _)) rfl ⟨⟨_,_,rfl,rfl,rfl⟩,tT au au.size (by omega) _ _ _ _ _ _⟩
theorem Zh:(Tryz.prog.info? 73).map (fun i=>(i.zero,i.size,i.bytes))=some (some (.agg #[.bool false,.slice none 0 0,.int .i64 0,.bool false,.slice none 0 0,.int .i64 0]),6,80):=by kernel_rfl
theorem Bh(w:World) :
 (Instr.makeSlice 130 (.int .i64 1) (.int .i64 1)).run Tryz.prog w=.ok (.slice (some ⟨w.heap.size,0,none⟩) 1 1) (w.alloc (.cells #[.bool false,.slice none 0 0,.int .i64 0,.bool false,.slice none 0 0,.int .i64 0] 73)):=by
 have h:=Zh;have e:IntKind.i64.wrap 1=1:=by decide
 cases hq:Tryz.prog.info? 73 with
 | none=>rw[hq] at h;simp at h
 | some i =>
   rw[hq] at h;simp at h;simp[Instr.makeSlice,go_sem,Tryz.underlying130,hq,h,typeInfo,e]
structure Ri where
 n:Bool
 v:Value
 X:Nat
 e:Int
 m:Bool
 u:Value
 Y:Nat
 f:Int
def Av(w:World)(v:Value)(X:Nat):Prop:=∃ a l c xs,v=.slice a l c/\Arg w a l c xs/\val xs=X
theorem Av.below{w w':World}{v:Value}{X:Nat}(h:Av w v X)(hb:An w w'):Av w' v X:=by
 obtain⟨a,l,c,xs,rfl,hA,hv⟩:=h;exact⟨a,l,c,xs,rfl,hA.below hb,hv⟩
theorem Nt.av{lo:Nat}{w:World}{v:Value}{X:Nat}(h:Nt lo w v X)(hs:(ws X).length<=35184372088832):Av w v X:=by
 obtain⟨a,c,rfl,hA⟩:=h.arg hs;exact⟨a,_,c,_,rfl,hA,aj X⟩
def Bi(w:World)(g k:Nat)(I:Nat->Ri):Prop:=∃ cur:Array Value,w.heap[g]?=some (.cells cur 73 (0,0))/\∀ i,i<k->cur[i*6]?=some (.bool (I i).n)/\cur[i*6+1]?=some (I i).v/\cur[i*6+2]?=some (.int .i64 (I i).e)/\cur[i*6+3]?=some (.bool (I i).m)/\cur[i*6+4]?=some (I i).u/\cur[i*6+5]?=some (.int .i64 (I i).f)
theorem Bi.lt{w:World}{g k:Nat}{I:Nat->Ri}(h:Bi w g k I):g<w.heap.size:=by obtain⟨c,h,_⟩:=h;exact(fV.1 h).1
theorem Bi.below{w w':World}{g k:Nat}{I:Nat->Ri}(h:Bi w g k I)(hb:An w w'):Bi w' g k I:=by
 have hl:=h.lt;obtain⟨c,h,r⟩:=h;exact⟨c,by rw[hb.block g hl];exact h,r⟩
theorem Bi.facts{w:World}{g k:Nat}{I:Nat->Ri}(h:Bi w g k I)(i:Nat)(hi:i<k) :
 w.cell? ⟨g,i*6,none⟩=some (.bool (I i).n)/\w.cell? ⟨g,i*6+1,none⟩=some (I i).v/\w.cell? ⟨g,i*6+2,none⟩=some (.int .i64 (I i).e)/\w.cell? ⟨g,i*6+3,none⟩=some (.bool (I i).m)/\w.cell? ⟨g,i*6+4,none⟩=some (I i).u/\w.cell? ⟨g,i*6+5,none⟩=some (.int .i64 (I i).f):=by
 obtain⟨c,h,r⟩:=h;obtain⟨r0,r1,r2,r3,r4,r5⟩:=r i hi;simp[World.cell?,h,r0,r1,r2,r3,r4,r5]
def iM(I:Nat->Ri)(k:Nat):Int :=
 if (List.range k).any (fun i=>decide (rO (I i).m (I i).Y<0)) then 1
 else if (List.range k).any (fun i=>!((mkS (I i).n (I i).X (I i).e).isSome&&(mkS (I i).m (I i).Y (I i).f).isSome)) then 2
 else if (List.range k).any (fun i=>decide (dX (mkS (I i).m (I i).Y (I i).f)=0)) then 21 else 0
theorem Gz{k i:Nat}{p:Nat->Bool}(hi:i<k)(h:p i=true):(List.range k).any p=true:=List.any_eq_true.2 ⟨i,List.mem_range.2 hi,h⟩
theorem tV{k:Nat}{p:Nat->Bool}(h:∀ i,i<k->p i=false):(List.range k).any p=false:=by
 rw[List.any_eq_false];intro i hi;rw[h i (List.mem_range.1 hi)];simp
structure Zi (w:World) (g k:Nat) (I:Nat->Ri):Prop where
 row:Bi w g k I
 one:∀ i,i<k->Av w (I i).v (I i).X/\Av w (I i).u (I i).Y
 mV:∀ i,i<k->-9223372036854775808<=(I i).e/\(I i).e<=9223372036854775807/\-9223372036854775808<=(I i).f/\(I i).f<=9223372036854775807
 tab:dH w
theorem Zi.below{w w':World}{g k:Nat}{I:Nat->Ri}(h:Zi w g k I)(hb:An w w'):Zi w' g k I :=
 ⟨h.row.below hb,fun i hi=>⟨(h.one i hi).1.below hb,(h.one i hi).2.below hb⟩,h.mV,h.tab.belows hb⟩
def ve(I:Nat->Ri)(V:Nat->Value×Value)(i:Nat):Ri :=
 ⟨dN (mkS (I i).n (I i).X (I i).e),(V i).1,dX (mkS (I i).n (I i).X (I i).e),dE (mkS (I i).n (I i).X (I i).e),dN (mkS (I i).m (I i).Y (I i).f),(V i).2,dX (mkS (I i).m (I i).Y (I i).f),dE (mkS (I i).m (I i).Y (I i).f)⟩
structure LW (lo:Nat) (w:World) (g k:Nat) (I:Nat->Ri) (V:Nat->Value×Value):Prop where
 row:Bi w g k (ve I V)
 own:lo<=g
 XU:∀ i,i<k->Nt lo w (V i).1 (dX (mkS (I i).n (I i).X (I i).e))/\Nt lo w (V i).2 (dX (mkS (I i).m (I i).Y (I i).f))
theorem LW.below{lo:Nat}{w w':World}{g k:Nat}{I:Nat->Ri}{V:Nat->Value×Value}(h:LW lo w g k I V)(hb:An w w'):LW lo w' g k I V :=
 ⟨h.row.below hb,h.own,fun i hi=>⟨(h.XU i hi).1.below hb,(h.XU i hi).2.below hb⟩⟩
abbrev PE(w:World)(g o:Nat)(a b c d e f:Value):World:=(((((w.setCell ⟨g,o,none⟩ a).setCell ⟨g,o+1,none⟩ b).setCell ⟨g,o+2,none⟩ c).setCell ⟨g,o+3,none⟩ d).setCell ⟨g,o+4,none⟩ e).setCell ⟨g,o+5,none⟩ f
theorem oZ(g o:Nat)(w:World)(a b c d e f:Value):But g w (PE w g o a b c d e f):=((((((But.refl g w).set _ _).set _ _).set _ _).set _ _).set _ _).set _ _
theorem Bj{w:World}{g T:Nat}{cur:Array Value}{fz:Nat×Nat}(h:w.heap[g]?=some (.cells cur T fz))(o:Nat)(v:Value):(w.setCell ⟨g,o,none⟩ v).heap[g]?=some (.cells (cur.setIfInBounds o v) T fz):=by
 simp[World.setCell,kP,h]
theorem GA{w:World}{g T:Nat}{cur:Array Value}{fz:Nat×Nat}(h:w.heap[g]?=some (.cells cur T fz))(o:Nat)(a b c d e f:Value)(ho:o+5<cur.size) :
 ∃ cur',(PE w g o a b c d e f).heap[g]?=some (.cells cur' T fz)/\cur'.size=cur.size/\(cur'[o]?=some a/\cur'[o+1]?=some b/\cur'[o+2]?=some c/\cur'[o+3]?=some d/\cur'[o+4]?=some e/\cur'[o+5]?=some f)/\∀ j,(j<o\/o+5<j)->cur'[j]?=cur[j]?:=by
 refine⟨_,Bj (Bj (Bj (Bj (Bj (Bj h o a) (o+1) b) (o+2) c) (o+3) d) (o+4) e) (o+5) f,by simp,?_,?_⟩
 · simp[yK];omega
 · intro j hj;have n0:o≠j:=by omega
   have n1:o+1≠j:=by omega
   have n2:o+2≠j:=by omega
   have n3:o+3≠j:=by omega
   have n4:o+4≠j:=by omega
   have n5:o+5≠j:=by omega
   simp[yK,n0,n1,n2,n3,n4,n5]
structure lD (lo:Nat) (w:World) (g k i:Nat) (I:Nat->Ri) (V:Nat->Value×Value):Prop where
 row:∃ cur:Array Value,w.heap[g]?=some (.cells cur 73 (0,0))/\cur.size=6*k/\∀ j,j<i->cur[j*6]?=some (.bool (ve I V j).n)/\cur[j*6+1]?=some (ve I V j).v/\cur[j*6+2]?=some (.int .i64 (ve I V j).e)/\cur[j*6+3]?=some (.bool (ve I V j).m)/\cur[j*6+4]?=some (ve I V j).u/\cur[j*6+5]?=some (.int .i64 (ve I V j).f)
 own:lo<=g
 XU:∀ j,j<i->Nt lo w (V j).1 (dX (mkS (I j).n (I j).X (I j).e))/\Nt lo w (V j).2 (dX (mkS (I j).m (I j).Y (I j).f))
theorem lD.lt{lo:Nat}{w:World}{g k i:Nat}{I:Nat->Ri}{V:Nat->Value×Value}(h:lD lo w g k i I V):g<w.heap.size:=by obtain⟨c,h,_⟩:=h.row;exact(fV.1 h).1
theorem lD.below{lo:Nat}{w w':World}{g k i:Nat}{I:Nat->Ri}{V:Nat->Value×Value}(h:lD lo w g k i I V)(hb:An w w'):lD lo w' g k i I V:=by
 have hl:=h.lt;obtain⟨⟨c,h1,r⟩,h2,h3⟩:=h;exact⟨⟨c,by rw[hb.block g hl];exact h1,r⟩,h2,fun j hj=>⟨(h3 j hj).1.below hb,(h3 j hj).2.below hb⟩⟩
theorem lD.room{lo:Nat}{w:World}{g k i:Nat}{I:Nat->Ri}{V:Nat->Value×Value}(h:lD lo w g k i I V)(j:Nat)(hj:j<6*k):(∃ v,w.cell? ⟨g,j,none⟩=some v)/\w.frozen? ⟨g,j,none⟩=false:=by
 obtain⟨⟨c,h1,hs,r⟩,h2,h3⟩:=h;refine⟨⟨c[j]'(by omega),?_⟩,?_⟩
 · simp[World.cell?,h1]
 · simp[World.frozen?,h1]
theorem lD.o{lo:Nat}{w:World}{g k:Nat}{I:Nat->Ri}{V:Nat->Value×Value}(h:lD lo w g k k I V):LW lo w g k I V:=by
 obtain⟨⟨c,h1,hs,r⟩,h2,h3⟩:=h;exact⟨⟨c,h1,r⟩,h2,h3⟩
theorem lD.step {lo:Nat}{w:World}{g k i:Nat}{I:Nat->Ri}{V:Nat->Value×Value}(h:lD lo w g k i I V) (hi:i<k) (v u:Value)
 (hv:Nt lo w v (dX (mkS (I i).n (I i).X (I i).e))) (hu:Nt lo w u (dX (mkS (I i).m (I i).Y (I i).f))) :
 ∃ V',lD lo (PE w g (i*6) (.bool (dN (mkS (I i).n (I i).X (I i).e))) v (.int .i64 (dE (mkS (I i).n (I i).X (I i).e))) (.bool (dN (mkS (I i).m (I i).Y (I i).f))) u (.int .i64 (dE (mkS (I i).m (I i).Y (I i).f)))) g k (i+1) I V':=by
 obtain⟨⟨c,h1,hs,r⟩,h2,h3⟩:=h;obtain⟨c',k1,k2,k3,k4⟩:=GA h1 (i*6) (.bool (dN (mkS (I i).n (I i).X (I i).e))) v (.int .i64 (dE (mkS (I i).n (I i).X (I i).e))) (.bool (dN (mkS (I i).m (I i).Y (I i).f))) u (.int .i64 (dE (mkS (I i).m (I i).Y (I i).f))) (by omega);refine⟨fun j=>if j=i then(v,u) else V j,⟨c',k1,by omega,fun j hj=>?_⟩,h2,fun j hj=>?_⟩
 · by_cases e:j=i
   · subst e;simp only[ve,if_true];exact k3
   · have:=r j (by omega);rw[k4 _ (by omega),k4 _ (by omega),k4 _ (by omega),k4 _ (by omega),k4 _ (by omega),k4 _ (by omega)];simp only[ve,if_neg e] at this |-;exact this
 · by_cases e:j=i
   · subst e;simp only[if_true];exact⟨hv.off (oZ _ _ _ _ _ _ _ _ _) (hv.fJ (by decide) h1),hu.off (oZ _ _ _ _ _ _ _ _ _) (hu.fJ (by decide) h1)⟩
   · simp only[if_neg e];obtain⟨q1,q2⟩:=h3 j (by omega);exact⟨q1.off (oZ _ _ _ _ _ _ _ _ _) (q1.fJ (by decide) h1),q2.off (oZ _ _ _ _ _ _ _ _ _) (q2.fJ (by decide) h1)⟩
theorem Zj{w:World}{n:Bool}{v:Value}{X:Nat}{e:Int}(h:Av w v X):At 42 #[.agg #[.bool n,v,.int .i64 e]] w (.int .i64 (rO n X)):=by
 obtain⟨a,l,c,xs,rfl,hA,rfl⟩:=h;exact tN hA n e
theorem Zl{w:World}{r:Ri}(h1:Av w r.v r.X)(h2:Av w r.u r.Y)(hT:dH w)(b0:-9223372036854775808<=r.e)(b1:r.e<=9223372036854775807)(b2:-9223372036854775808<=r.f)(b3:r.f<=9223372036854775807) :
 As 160 #[.agg #[.bool r.n,r.v,.int .i64 r.e,.bool r.m,r.u,.int .i64 r.f]] w fun q w' =>
  (((mkS r.n r.X r.e).isSome&&(mkS r.m r.Y r.f).isSome)=true->∃ v u,q=.returned (.tuple #[.agg #[.bool (dN (mkS r.n r.X r.e)),v,.int .i64 (dE (mkS r.n r.X r.e)),.bool (dN (mkS r.m r.Y r.f)),u,.int .i64 (dE (mkS r.m r.Y r.f))],.int .i64 0])/\Nt w.heap.size w' v (dX (mkS r.n r.X r.e))/\Nt w.heap.size w' u (dX (mkS r.m r.Y r.f))/\Ap v u) /\
  (((mkS r.n r.X r.e).isSome&&(mkS r.m r.Y r.f).isSome)=false->q=.returned (.tuple #[.agg #[.bool false,.slice none 0 0,.int .i64 0,.bool false,.slice none 0 0,.int .i64 0],.int .i64 2]))/\An w w':=by
 obtain⟨n,v,X,e,m,u,Y,f⟩:=r;simp only at *;obtain⟨a,l,c,xs,rfl,hA,rfl⟩:=h1;obtain⟨b,k,d,ys,rfl,hB,rfl⟩:=h2;have l1:=aI n (val xs) e;have l2:=aI m (val ys) f;have H1:∀ u,An w u->As 98 #[.bool n,.slice a l c,.int .i64 e] u fun r w'=>bN u.heap.size w' r (mkS n (val xs) e)/\An u w':=fun u hu=>ic (hA.below hu) (hT.belows hu) n e b0 b1;have H2:∀ u,An w u->As 98 #[.bool m,.slice b k d,.int .i64 f] u fun r w'=>bN u.heap.size w' r (mkS m (val ys) f)/\An u w':=fun u hu=>ic (hB.below hu) (hT.belows hu) m f b2 b3;simp only[bN] at H1 H2;generalize mkS n (val xs) e=o at *;generalize mkS m (val ys) f=p at *
 cases ho:o.isSome with
 | false =>
   have he:nU o=2:=by unfold nU;rw[ho];rfl
   rw[he] at H1;refine(LU n m e f (dN o) false (dX o) 0 (dE o) 0 l1 (by rw[XT];omega) H1).mono ?_;rintro r w' ⟨⟨v,u,h,rfl,rfl⟩,hb⟩;exact⟨fun hh=>(by cases hh),fun _=>h,hb⟩
 | true =>
   have he:nU o=0:=by unfold nU;rw[ho];rfl
   rw[he] at H1
   cases hp:p.isSome with
   | false =>
     have he:nU p=2:=by unfold nU;rw[hp];rfl
     rw[he] at H2;refine(LV n m e f (dN o) (dN p) (dX o) (dX p) (dE o) (dE p) l1 l2 H1 H2).mono ?_;rintro r w' ⟨⟨v,u,h,rfl,rfl⟩,hb⟩;exact⟨fun hh=>(by cases hh),fun _=>h,hb⟩
   | true =>
     have he:nU p=0:=by unfold nU;rw[hp];rfl
     rw[he] at H2;refine(TF n m e f (dN o) (dN p) (dX o) (dX p) (dE o) (dE p) l1 l2 H1 H2).mono ?_;rintro r w' ⟨⟨v,u,h,hN,hM,hap⟩,hb⟩;exact⟨fun _=>⟨v,u,h,hN,hM,hap⟩,fun hh=>(by cases hh),hb⟩
theorem PG(w:World)(g:Nat)(I:Nat->Ri)(h:Zi w g 1 I) :
 As 125 #[.slice (some ⟨g,0,none⟩) 1 1] w fun r w' =>
  ((iM I 1≠0/\r=.returned (.tuple #[.slice none 0 0,.int .i64 (iM I 1)])) \/
   (iM I 1=0/\∃ g' V,r=.returned (.tuple #[.slice (some ⟨g',0,none⟩) 1 1,.int .i64 0])/\LW w.heap.size w' g' 1 I V))/\An w w':=by
 have MK:=Bh;have hH:=ak h;clear h;go_enter Tryz.func125,Tryz.ntmps125;go_wp2_with fail
 go_loopg [15] 1 (fun gk iv wr=>∃ i:Nat,gk+i=1/\iv=.int .i64 (i:Nat)/\Aside (An w wr/\∀ j,j<i->decide (rO (I j).m (I j).Y<0)=false))
 case atStart=>exact⟨0,by omega,rfl,aB _ _,fun j hj=>by omega⟩
 case round =>
  obtain⟨i,hgi,rfl,HR⟩:=hrel
  by_cases hi:i<1
  · have hin:=hH.o.below HR.o.1;obtain⟨g0,g1,g2,g3,g4,g5⟩:=hin.row.facts i hi;obtain⟨A1,A2⟩:=hin.one i hi;obtain⟨n,v,X,e,m,u,Y,f,hI⟩:∃ n v X e m u Y f,I i=⟨n,v,X,e,m,u,Y,f⟩:=⟨_,_,_,_,_,_,_,_,rfl⟩;rw[hI] at g0 g1 g2 g3 g4 g5 A1 A2;simp only at g0 g1 g2 g3 g4 g5 A1 A2;obtain⟨a1,l1,c1,xs,rfl,-,-⟩:=id A1;obtain⟨a2,l2,c2,ys,rfl,-,-⟩:=id A2;obtain⟨U,hU⟩:=af (wr.alloc (.cells #[.bool n,.slice a1 l1 c1,.int .i64 e,.bool m,.slice a2 l2 c2,.int .i64 f] 73));have uK:Below wr.heap.size wr U:=by rw[hU];exact ae _ _
    have RQ:Rq U wr.heap.size n (.slice a1 l1 c1) e m (.slice a2 l2 c2) f:=by rw[hU];exact Rq.new _ _ _ _ _ _ _
    obtain⟨x0,x1,x2,x3,x4,x5⟩:=RQ.facts;have HC:=hid (Zj (n:=m) (e:=f) (A2.below uK));obtain⟨s,hs⟩:∃ s,rO m Y=s:=⟨_,rfl⟩;rw[hs] at HC;have SI:=(dJ (HR.o.1.trans (uK.mono HR.o.1.size)) HR.o.2 hI hs hi);clear uK RQ A1 A2 hin HR hI hs;have hli:(i:Int)<1:=by omega
    have hl0:(0:Int)<=(i:Int):=by omega
    go_upto_region 4 with fail
    rw[<-hU];clear hU g0 g1 g2 g3 g4 g5;go_wp2_with fail;clear x0 x1 x2 x3 x4 x5;refine HC.o.mono ?_;rintro r u1 ⟨rfl,hb⟩;have S2:=ak (SI.o.1.trans (hb.mono SI.o.1.size));clear hb HC
    by_cases hneg:s<0
    · have hn:=decide_eq_true hneg;go_wp2_with fail
      go_ret2
      obtain⟨_,hbef,hI,hs,hi⟩:=SI.o
      have hE:iM I 1=1:=by
       unfold iM;rw[if_pos (Gz hi (by rw[hI];simp only;rw[hs];exact decide_eq_true hneg))]
      rw[hE];exact⟨.inl ⟨by decide,rfl⟩,S2.o⟩
    · have hn:decide (s<0)=false:=decide_eq_false (by omega);go_wp2_with fail;go_roundg (1-(i+1))
      case measure=>omega
      case rel =>
       obtain⟨_,hbef,hI,hs,hi⟩:=SI.o;refine⟨i+1,by omega,by go_num,S2.o,fun j hj=>?_⟩
       by_cases hji:j=i
       · subst hji;rw[hI];simp only;rw[hs];exact decide_eq_false (by omega)
       · exact hbef j (by omega)
  · obtain rfl:i=1:=by omega
    obtain⟨M,hM⟩:=af (wr.alloc (.cells #[.bool false,.slice none 0 0,.int .i64 0,.bool false,.slice none 0 0,.int .i64 0] 73));have hbM:Below wr.heap.size wr M:=by rw[hM];exact ae _ _
    have hpM:lD w.heap.size M wr.heap.size 1 0 I (fun _=>(.slice none 0 0,.slice none 0 0)):=by
     rw[hM];exact⟨⟨_,gZ _ _,rfl,fun j hj=>by omega⟩,HR.o.1.size,fun j hj=>by omega⟩
    have S1:=(bO HR.o.2 hpM (HR.o.1.trans (hbM.mono HR.o.1.size)));obtain⟨gO,hgO⟩:=af (wr.heap.size);clear HR hbM hpM hi hgi
    go_upto_region 9 with fail
    rw[<-hM];rw[<-hgO] at S1 |-;clear hM hgO
    go_loopg [29] 1 (fun gk iv wr=>∃ i:Nat,gk+i=1/\iv=.int .i64 (i:Nat)/\Aside (An w wr/\(∀ j,j<i->((mkS (I j).n (I j).X (I j).e).isSome&&(mkS (I j).m (I j).Y (I j).f).isSome)=true)/\∃ V,lD w.heap.size wr gO 1 i I V))
    case atStart=>exact⟨0,by omega,rfl,S1.o.r2,fun j hj=>by omega,_,S1.o.2.1⟩
    case round =>
     obtain⟨i,hgi,rfl,HR⟩:=hrel;have SS:=ak S1.o.1;clear S1
     by_cases hi:i<1
     · obtain⟨au,hbef,V,hP⟩:=HR.o;have hin:=hH.o.below au;obtain⟨g0,g1,g2,g3,g4,g5⟩:=hin.row.facts i hi;obtain⟨A1,A2⟩:=hin.one i hi;obtain⟨b0,b1,b2,b3⟩:=hin.mV i hi;have hFD:=fun(u:World) (hb:Below wr.heap.size wr u)=>Zl (r:=I i) (A1.below hb) (A2.below hb) ((hin.below hb).tab) b0 b1 b2 b3;obtain⟨n,v,X,e,m,u,Y,f,hI⟩:∃ n v X e m u Y f,I i=⟨n,v,X,e,m,u,Y,f⟩:=⟨_,_,_,_,_,_,_,_,rfl⟩;rw[hI] at g0 g1 g2 g3 g4 g5 A1 A2 hFD;simp only at g0 g1 g2 g3 g4 g5 A1 A2 hFD;obtain⟨a1,l1,c1,xs,rfl,-,-⟩:=id A1;obtain⟨a2,l2,c2,ys,rfl,-,-⟩:=id A2;obtain⟨U,hU⟩:=af (wr.alloc (.cells #[.bool n,.slice a1 l1 c1,.int .i64 e,.bool m,.slice a2 l2 c2,.int .i64 f] 73));have uK:Below wr.heap.size wr U:=by rw[hU];exact ae _ _
       have RQ:Rq U wr.heap.size n (.slice a1 l1 c1) e m (.slice a2 l2 c2) f:=by rw[hU];exact Rq.new _ _ _ _ _ _ _
       obtain⟨x0,x1,x2,x3,x4,x5⟩:=RQ.facts;have HC:=hid (hFD U uK);have lo1:=aI n X e;have lo2:=aI m Y f;obtain⟨o,ho⟩:∃ o,mkS n X e=o:=⟨_,rfl⟩;obtain⟨p,hp⟩:∃ p,mkS m Y f=p:=⟨_,rfl⟩;rw[ho,hp] at HC;rw[ho] at lo1;rw[hp] at lo2;have SI:=(jY (au.trans (uK.mono au.size)) hbef hI ho hp hi (hP.below uK));clear uK RQ A1 A2 hin HR hI ho hp au hbef hP hFD b0 b1 b2 b3;have hli:(i:Int)<1:=by omega
       have hl0:(0:Int)<=(i:Int):=by omega
       go_upto_region 11 with fail
       rw[<-hU];clear hU g0 g1 g2 g3 g4 g5;go_wp2_with fail;clear x0 x1 x2 x3 x4 x5;refine HC.o.mono ?_;rintro r u1 ⟨h1,h2,hb⟩;clear HC
       cases hok:(o.isSome&&p.isSome) with
       | false =>
         obtain rfl:=h2 hok;have S2:=ak (SI.o.1.trans (hb.mono SI.o.1.size));clear h1 h2 hb;go_wp2_with fail
         go_ret2
         obtain⟨_,hbef,hI,ho,hp,hi,_⟩:=SI.o
         have hE:iM I 1=2:=by
          unfold iM;rw[tV (p:=fun i=>decide (rO (I i).m (I i).Y<0)) SS.o,if_neg yL,if_pos (Gz hi (by rw[hI];simp only;rw[ho,hp,hok];rfl))]
         rw[hE];exact⟨.inl ⟨by decide,rfl⟩,S2.o.alloc S2.o.size _⟩
       | true =>
         obtain⟨v1,v2,rfl,hN,hM2,-⟩:=h1 hok;obtain⟨p1,q1,rfl,_⟩:=hN.arg (by omega);obtain⟨p2,q2,rfl,_⟩:=hM2.arg (by omega);obtain⟨U2,dM⟩:=af (u1.alloc (.cells #[.bool (dN o),.slice p1 (ws (dX o)).length q1,.int .i64 (dE o),.bool (dN p),.slice p2 (ws (dX p)).length q2,.int .i64 (dE p)] 73));have uK:An u1 U2:=by rw[dM];exact ae _ _
         have RQ:Rq U2 u1.heap.size (dN o) (.slice p1 (ws (dX o)).length q1) (dE o) (dN p) (.slice p2 (ws (dX p)).length q2) (dE p):=by rw[dM];exact Rq.new _ _ _ _ _ _ _
         obtain⟨x0,x1,x2,x3,x4,x5⟩:=RQ.facts;have hP2:=(SI.o.r6.below hb).below uK;have hb2:=(SI.o.1.trans (hb.mono SI.o.1.size)).trans (uK.mono (cB SI.o.1.size hb.size));obtain⟨⟨y0,r0⟩,f0⟩:=hP2.room (i*6) (by omega);obtain⟨⟨y1,r1⟩,f1⟩:=hP2.room (i*6+1) (by omega);obtain⟨⟨y2,r2⟩,f2⟩:=hP2.room (i*6+2) (by omega);obtain⟨⟨y3,r3⟩,f3⟩:=hP2.room (i*6+3) (by omega);obtain⟨⟨y4,r4⟩,f4⟩:=hP2.room (i*6+4) (by omega);obtain⟨⟨y5,r5⟩,f5⟩:=hP2.room (i*6+5) (by omega);obtain⟨W',hW'⟩:∃ W',W'=PE U2 gO (i*6) (.bool (dN o)) (.slice p1 (ws (dX o)).length q1) (.int .i64 (dE o)) (.bool (dN p)) (.slice p2 (ws (dX p)).length q2) (.int .i64 (dE p)):=⟨_,rfl⟩
         have S3:Aside (An w W'/\(∀ j,j<i+1->((mkS (I j).n (I j).X (I j).e).isSome&&(mkS (I j).m (I j).Y (I j).f).isSome)=true)/\∃ V,lD w.heap.size W' gO 1 (i+1) I V):=by
          obtain⟨_,hbef,hI,ho,hp,hi,_⟩:=SI.o;refine⟨?_,?_,?_⟩
          · rw[hW'];exact But.below hb2 (oZ _ _ _ _ _ _ _ _ _) hb2.size hP2.own
          · intro j hj
            by_cases e:j=i
            · subst e;rw[hI];simp only;rw[ho,hp,hok]
            · exact hbef j (by omega)
          · have hsz:=SI.o.1.size;have:=hP2.step hi (.slice p1 (ws (dX o)).length q1) (.slice p2 (ws (dX p)).length q2) (by rw[hI];simp only;rw[ho];exact(hN.below uK).mono hsz) (by rw[hI];simp only;rw[hp];exact(hM2.below uK).mono hsz);rw[hI] at this;simp only at this;rw[ho,hp,<-hW'] at this;exact this
         have neq:u1.heap.size≠gO:=by have:=(SI.o.r6.below hb).lt;omega
         clear h1 h2 hb hN hM2 uK RQ hP2 hb2 SI
         go_upto_region 12 with fail
         rw[<-dM];clear dM;go_wp2_with fail;unfold PE at hW';go_roundg (1-(i+1))
         case measure=>omega
         case rel =>
          refine⟨i+1,by omega,by go_num,?_⟩
          first | rw[<-hW'] | (rw[hW'] at S3)
          exact S3
     · obtain rfl:i=1:=by omega
       obtain⟨au,hbef,V,hP⟩:=HR.o;have hO:=hP.o;have S2:=(bO au hbef hO);have hi0:wr=wr:=rfl;clear HR au hbef hP hO hi hgi
       go_upto_region 17 with fail
       go_loopg [49] 1 (fun gk iv wr=>∃ i:Nat,gk+i=1/\iv=.int .i64 (i:Nat)/\Aside (An w wr/\(∀ j,j<i->decide (dX (mkS (I j).m (I j).Y (I j).f)=0)=false)/\LW w.heap.size wr gO 1 I V))
       case atStart=>exact⟨0,by omega,rfl,S2.o.1,fun j hj=>by omega,S2.o.r2⟩
       case round =>
        obtain⟨i,hgi,rfl,HR⟩:=hrel;have SS2:=ak S2.o.2.1;clear S2
        by_cases hi:i<1
        · obtain⟨au,hbef,hO⟩:=HR.o;obtain⟨g0,g1,g2,g3,g4,g5⟩:=hO.row.facts i hi;obtain⟨A1,A2⟩:=hO.XU i hi;have lo1:=aI (I i).n (I i).X (I i).e;have lo2:=aI (I i).m (I i).Y (I i).f;unfold ve at g0 g1 g2 g3 g4 g5;simp only at g0 g1 g2 g3 g4 g5;obtain⟨o,ho⟩:∃ o,mkS (I i).n (I i).X (I i).e=o:=⟨_,rfl⟩;obtain⟨p,hp⟩:∃ p,mkS (I i).m (I i).Y (I i).f=p:=⟨_,rfl⟩;rw[ho] at g0 g2 A1 lo1;rw[hp] at g3 g5 A2 lo2;obtain⟨v1,hv1⟩:∃ v1,(V i).1=v1:=⟨_,rfl⟩;obtain⟨v2,hv2⟩:∃ v2,(V i).2=v2:=⟨_,rfl⟩;rw[hv1] at g1 A1;rw[hv2] at g4 A2;obtain⟨p1,q1,rfl,_⟩:=A1.arg (by omega);obtain⟨p2,q2,rfl,_⟩:=A2.arg (by omega);obtain⟨U,hU⟩:=af (wr.alloc (.cells #[.bool (dN o),.slice p1 (ws (dX o)).length q1,.int .i64 (dE o),.bool (dN p),.slice p2 (ws (dX p)).length q2,.int .i64 (dE p)] 73));have uK:Below wr.heap.size wr U:=by rw[hU];exact ae _ _
          have RQ:Rq U wr.heap.size (dN o) (.slice p1 (ws (dX o)).length q1) (dE o) (dN p) (.slice p2 (ws (dX p)).length q2) (dE p):=by rw[hU];exact Rq.new _ _ _ _ _ _ _
          obtain⟨x0,x1,x2,x3,x4,x5⟩:=RQ.facts;have HC:=hid (Zj (n:=dN p) (e:=dE p) ((A2.below uK).av (by omega)));obtain⟨s,hs⟩:∃ s,rO (dN p) (dX p)=s:=⟨_,rfl⟩;rw[hs] at HC;have SI:=(iC (au.trans (uK.mono au.size)) hbef hp hs hi (hO.below uK));clear uK RQ A1 A2 HR ho hp hv1 hv2 hs au hbef hO;have hli:(i:Int)<1:=by omega
          have hl0:(0:Int)<=(i:Int):=by omega
          go_upto_region 19 with fail
          rw[<-hU];clear hU g0 g1 g2 g3 g4 g5;go_wp2_with fail;clear x0 x1 x2 x3 x4 x5;refine HC.o.mono ?_;rintro r u1 ⟨rfl,hb⟩;have S2:=(aJ (SI.o.1.trans (hb.mono SI.o.1.size)) (SI.o.r5.below hb));clear hb HC
          by_cases hz:s=0
          · have hn:(s==0)=true:=by simp[hz]
            have hsz:=SI;clear SI;go_wp2_with fail
            go_ret2
            obtain⟨_,hbef,hp,hs,hi,_⟩:=hsz.o
            have hE:iM I 1=21:=by
             unfold iM;rw[tV (p:=fun i=>decide (rO (I i).m (I i).Y<0)) SS.o,if_neg yL,tV (p:=fun i=>!((mkS (I i).n (I i).X (I i).e).isSome&&(mkS (I i).m (I i).Y (I i).f).isSome)) (fun j hj=>by rw[SS2.o j hj];rfl),if_neg yL,if_pos (Gz hi (by simp only[hp];exact decide_eq_true (zl.1 (hs.trans hz))))]
            rw[hE];exact⟨.inl ⟨by decide,rfl⟩,S2.o.1⟩
          · have hn:(s==0)=false:=by simp[hz]
            go_wp2_with fail;go_roundg (1-(i+1))
            case measure=>omega
            case rel =>
             obtain⟨_,hbef,hp,hs,hi,_⟩:=SI.o;refine⟨i+1,by omega,by go_num,S2.o.1,fun j hj=>?_,S2.o.2⟩
             by_cases hji:j=i
             · subst hji;rw[hp];exact decide_eq_false (fun h0=>hz (hs.symm.trans (zl.2 h0)))
             · exact hbef j (by omega)
        · obtain rfl:i=1:=by omega
          have S3:=HR;clear HR hi hgi;go_wp2_with fail
          go_ret2
          have hE:iM I 1=0:=by
           unfold iM;rw[tV (p:=fun i=>decide (rO (I i).m (I i).Y<0)) SS.o,if_neg yL,tV (p:=fun i=>!((mkS (I i).n (I i).X (I i).e).isSome&&(mkS (I i).m (I i).Y (I i).f).isSome)) (fun j hj=>by rw[SS2.o j hj];rfl),if_neg yL,tV (p:=fun i=>decide (dX (mkS (I i).m (I i).Y (I i).f)=0)) S3.o.2.1,if_neg yL]
          exact⟨.inr ⟨hE,gO,V,rfl,S3.o.r2⟩,S3.o.1⟩
theorem Dy{I:Nat->Ri}{k:Nat}(h:iM I k=0)(i:Nat)(hi:i<k):¬ rO (I i).m (I i).Y<0/\(mkS (I i).n (I i).X (I i).e).isSome=true/\(mkS (I i).m (I i).Y (I i).f).isSome=true/\dX (mkS (I i).m (I i).Y (I i).f)≠0:=by
 unfold iM at h
 split at h
 · omega
 · rename_i h1
   split at h
   · omega
   · rename_i h2
     split at h
     · omega
     · rename_i h3;simp only[zW,List.any_eq_false,List.mem_range] at h1 h2 h3;have k1:=h1 i hi;have k2:=h2 i hi;have k3:=h3 i hi;simp at k1 k2 k3;exact⟨by omega,k2.1,k2.2,k3⟩
theorem xm{n:Bool}{X:Nat}{e:Int}{o:Option (Bool×Nat×Int)}(h:mkS n X e=o)(hs:o.isSome=true):mkS (dN o) (dX o) (dE o)=o:=by
 cases o with
 | none=>cases hs
 | some d =>
   obtain⟨n1,X1,e1⟩:=d;exact(bZ h).self
theorem Jb{n:Bool}{X:Nat}{e:Int}{o:Option (Bool×Nat×Int)}(h:mkS n X e=o):-1048576<=dE o/\dE o<=1048576:=by
 cases o with
 | none=>exact⟨by decide,by decide⟩
 | some d =>
   obtain⟨n1,X1,e1⟩:=d;have:=bZ h;exact⟨this.down,this.up⟩
structure Rv (w:World) (r:Ri):Prop where
 num:Av w r.v r.X
 den:Av w r.u r.Y
 be:-9223372036854775808<=r.e/\r.e<=9223372036854775807
 bf:-9223372036854775808<=r.f/\r.f<=9223372036854775807
theorem Rv.below{w w':World}{r:Ri}(h:Rv w r)(hb:An w w'):Rv w' r:=⟨h.num.below hb,h.den.below hb,h.be,h.bf⟩
theorem Zm(W:World)(r:Ri)(hr:Rv W r)(hT:dH W)(R:World)(hR:R=W.alloc (.cells #[.bool r.n,r.v,.int .i64 r.e,.bool r.m,r.u,.int .i64 r.f] 73)):Zi R W.heap.size 1 (fun _=>r):=by
 have hb:An W R:=by rw[hR];exact ae _ _
 refine⟨⟨_,by rw[hR];exact gZ _ _,?_⟩,fun i hi=>⟨hr.num.below hb,hr.den.below hb⟩,fun i hi=>⟨hr.be.1,hr.be.2,hr.bf.1,hr.bf.2⟩,hT.belows hb⟩;intro i hi;obtain rfl:i=0:=by omega
 simp
theorem pM(w:World)(n:Bool)(v:Value)(e:Int)(m:Bool)(u:Value)(f:Int)(W:World)(hW:W=w.alloc (.cells #[.bool n,v,.int .i64 e,.bool m,u,.int .i64 f] 73)) :
 An w W/\W.heap.size=w.heap.size+1/\Rq W w.heap.size n v e m u f:=by
 rw[hW];exact⟨ae w _,by simp,Rq.new _ _ _ _ _ _ _⟩
theorem qv{P:Prop}(h:P:=by
 by_cases hm0:mode<0
 · have d1:=decide_eq_true hm0;go_enter Tryz.func80,Tryz.ntmps80
   go_upto_region 1 with fail
   rw[<-hW1];clear hW1;go_wp2
   go_ret2
   exact⟨rfl,S0.o⟩
 · have d1:=decide_eq_false hm0;have mO:4<mode:=by omega
   have d2:=decide_eq_true mO;clear hm;go_enter Tryz.func80,Tryz.ntmps80
   go_upto_region 1 with fail
   rw[<-hW1];clear hW1;go_wp2
   go_ret2
   exact⟨rfl,S0.o⟩):P:=h
theorem ZS{P:Prop}(h:P:=by
 have HF:=hid (PG R W1.heap.size _ hin);obtain⟨I,hI⟩:∃ I:Nat->Ri,(fun _=>(⟨n,.slice a la ca,X,e,m,.slice b lb cb,Y,f⟩:Ri))=I:=⟨_,rfl⟩;rw[hI] at HF hANS HW HR;obtain⟨x0,x1,x2,x3,x4,x5⟩:=Q1.facts;have TG:=ak hANS;have S0:=(fE (hB.trans (hbR.mono hB.size)) hI ho1 ho2);have d1:decide (mode<0)=false:=decide_eq_false (fun h=>hm (.inl h));have d2:decide (4<mode)=false:=decide_eq_false (fun h=>hm (.inr h));have HM:=ak hm;obtain⟨g12,nI⟩:∃ g,W1.heap.size=g:=⟨_,rfl⟩;rw[nI] at HF;clear hB hz1 Q1 hin hbR hr hT hANS hI ho1 ho2 hm;go_enter Tryz.func80,Tryz.ntmps80
 go_upto_region 1 with fail
 rw[<-hW1];clear hW1;go_wp2_with fail;rw[<-hR];clear hR nI x0 x1 x2 x3 x4 x5;refine HF.o.mono ?_;rintro r u1 ⟨hor,hb⟩;clear HF;obtain⟨au,hI,ho1,ho2⟩:=S0.o;have S1:=ak (au.trans (hb.mono au.size));rcases hor with ⟨hne,rfl⟩|⟨h0,g',V,rfl,hO⟩
 · have HA2:=TG.o;rw[if_neg hne] at HA2;obtain⟨er,her⟩:∃ er,iM I 1=er:=⟨_,rfl⟩;rw[her] at hne HA2 |-;have HA3:=ak HA2;have hnb:(er==0)=false:=by simp[hne]
   clear TG HA2 her hne au hb hI ho1 ho2 S0 HW HR;go_wp2
   go_ret2
   rw[HA3.o];exact⟨rfl,S1.o⟩
 · have HA2:=TG.o;rw[if_pos h0] at HA2;obtain⟨q0,q1,q2,q3,q4,q5⟩:=hO.row.facts 0 (by omega);obtain⟨N1,N2⟩:=hO.XU 0 (by omega);simp only[eG,dK] at q0 q1 q2 q3 q4 q5;unfold ve at q0 q1 q2 q3 q4 q5;have e0:I 0=⟨n,.slice a la ca,X,e,m,.slice b lb cb,Y,f⟩:=by rw[<-hI]
   rw[e0] at N1 N2;simp only[e0] at q0 q1 q2 q3 q4 q5 N1 N2;have m1:=aI n X e;have m2:=aI m Y f;rw[ho1] at q0 q2 N1 m1;rw[ho2] at q3 q5 N2 m2;obtain⟨v1,hv1⟩:∃ v1,(V 0).1=v1:=⟨_,rfl⟩;obtain⟨v2,hv2⟩:∃ v1,(V 0).2=v1:=⟨_,rfl⟩;rw[hv1] at q1 N1;rw[hv2] at q4 N2;obtain⟨a1,c1,rfl,_⟩:=N1.arg (by omega);obtain⟨a2,c2,rfl,_⟩:=N2.arg (by omega);have HC:=hid (HW.o u1 _ _ (au.trans (hb.mono au.size)) (N1.mono (by have:=au.size;omega)) (N2.mono (by have:=au.size;omega)) h0);have S2:=(aJ h0 HA2);clear TG HA2 au hb hI ho1 ho2 S0 hO N1 N2 HW h0 hv1 hv2 e0;go_wp2_with fail;clear q0 q1 q2 q3 q4 q5;refine HC.o.mono ?_;rintro r u2 ⟨⟨v,rfl,NZ⟩,hb⟩;obtain⟨az,cz,rfl,_⟩:=NZ.arg (by omega);clear HC;obtain⟨U3,xX⟩:=af (u2.alloc (.cells #[.bool (dN z),.slice az (ws (dX z)).length cz,.int .i64 (dE z)] 37));have iU:An u2 U3:=by rw[xX];exact ae _ _
   have bb:=S1.o.trans (hb.mono S1.o.size);have bc:=bb.trans (iU.mono bb.size)
   by_cases xn:ew=0
   · have TZ:Tk U3 u2.heap.size 37 (.bool (dN z)) (.slice az (ws (dX z)).length cz) (.int .i64 (dE z)):=by rw[xX];exact Tk.new _ _ _ _ _
     have HD:=hid (HR.o U3 az cz xn HM.o S2.o.1 bc ((NZ.below iU).aR (by omega)).2);obtain⟨x0,x1,x2,_,_,_⟩:=TZ.facts;have S3:=(aJ bc S2.o.2);clear bb bc hb iU NZ TZ S1 S2 HR HM Xa;subst xn
     go_upto_region 7 with fail
     rw[<-xX];clear xX;go_wp2_with fail;refine HD.o.mono ?_;rintro r u3 ⟨rfl,hb⟩;have S4:=ak (S3.o.1.trans (hb.mono S3.o.1.size));clear hb HD x0 x1 x2;go_wp2
     go_ret2
     rw[S3.o.2];exact⟨rfl,S4.o⟩
   · have hnb:(ew==0)=false:=by simp[xn]
     have hA:ANS=(0,ew):=by
      rw[S2.o.2];have:=Xa xn;rw[<-this.1,<-this.2]
     have S3:=(aJ bc hA);clear bb bc hb iU NZ S1 S2 HR HM Xa hA xn
     go_upto_region 7 with fail
     rw[<-xX];clear xX;go_wp2
     go_ret2
     rw[S3.o.2];exact⟨rfl,S3.o.1⟩):P:=h
theorem qI {w:World}{n m:Bool}{a b:Option Addr}{la ca lb cb:Nat}{X Y:Nat}{e f:Int}(mode:Int) (hr:Rv w ⟨n,.slice a la ca,X,e,m,.slice b lb cb,Y,f⟩) (hT:dH w)
 (o1 o2 z:Option (Bool×Nat×Int)) (ew:Int) (rw':Nat×Int) (ho1:mkS n X e=o1) (ho2:mkS m Y f=o2) (lz:(ws (dX z)).length<=8192) (Xa:ew≠0->rw'.1=0/\rw'.2=ew)
 (ANS:Nat×Int) (hANS:ANS=if mode<0\/4<mode then(0,1) else if iM (fun _=>(⟨n,.slice a la ca,X,e,m,.slice b lb cb,Y,f⟩:Ri)) 1=0 then rw' else(0,iM (fun _=>(⟨n,.slice a la ca,X,e,m,.slice b lb cb,Y,f⟩:Ri)) 1))
 (HW:Hid (∀ (u:World) (p q:Value),An w u->Nt w.heap.size u p (dX o1)->Nt w.heap.size u q (dX o2)->iM (fun _=>(⟨n,.slice a la ca,X,e,m,.slice b lb cb,Y,f⟩:Ri)) 1=0->As 81 #[.agg #[.bool (dN o1),p,.int .i64 (dE o1),.bool (dN o2),q,.int .i64 (dE o2)]] u fun r w'=>(∃ v,r=.returned (.tuple #[.agg #[.bool (dN z),v,.int .i64 (dE z)],.int .i64 ew])/\Nt u.heap.size w' v (dX z))/\An u w'))
 (HR:Hid (∀ (u:World) (p:Option Addr) (q:Nat),ew=0->¬ (mode<0\/4<mode)->iM (fun _=>(⟨n,.slice a la ca,X,e,m,.slice b lb cb,Y,f⟩:Ri)) 1=0->An w u->Arg u p (ws (dX z)).length q (ws (dX z))->At 82 #[.agg #[.bool (dN z),.slice p (ws (dX z)).length q,.int .i64 (dE z)],.int .i64 mode] u (.tuple #[.float .f64 rw'.1,.int .i64 rw'.2]))) :
 At 80 #[.agg #[.bool n,.slice a la ca,.int .i64 e,.bool m,.slice b lb cb,.int .i64 f],.int .i64 mode,.func (.func 81) #[] #[],.func (.func 82) #[] #[]] w (.tuple #[.float .f64 ANS.1,.int .i64 ANS.2]):=by
 obtain⟨W1,hW1⟩:=af (w.alloc (.cells #[.bool n,.slice a la ca,.int .i64 e,.bool m,.slice b lb cb,.int .i64 f] 73));obtain⟨hB,hz1,Q1⟩:=pM w n _ e m _ f W1 hW1
 by_cases hm:mode<0\/4<mode
 · rw[if_pos hm] at hANS;subst hANS;have S0:=ak hB;clear hB hz1 Q1 HW HR hr hT
   exact qv
 · rw[if_neg hm] at hANS;obtain⟨R,hR⟩:=af (W1.alloc (.cells #[.bool n,.slice a la ca,.int .i64 e,.bool m,.slice b lb cb,.int .i64 f] 73));have hin:=Zm W1 _ (hr.below hB) (hT.belows hB) R hR;have hbR:An W1 R:=by rw[hR];exact ae _ _
   exact ZS
theorem PH {w:World}{a b:Option Addr}{la ca lb cb:Nat}(n m:Bool) (e f mode:Int) (ANS:Nat×Int)
 (HR:Hid (∀ u:World,An w u->At 80 #[.agg #[.bool n,.slice a la ca,.int .i64 e,.bool m,.slice b lb cb,.int .i64 f],.int .i64 mode,.func (.func 81) #[] #[],.func (.func 82) #[] #[]] u (.tuple #[.float .f64 ANS.1,.int .i64 ANS.2]))) :
 At 37 #[.agg #[.bool n,.slice a la ca,.int .i64 e,.bool m,.slice b lb cb,.int .i64 f],.int .i64 mode] w (.tuple #[.float .f64 ANS.1,.int .i64 ANS.2]):=by
 obtain⟨W1,hW1⟩:=af (w.alloc (.cells #[.bool n,.slice a la ca,.int .i64 e,.bool m,.slice b lb cb,.int .i64 f] 73));obtain⟨hB,hz1,Q1⟩:=pM w n _ e m _ f W1 hW1;have HC:=hid (HR.o W1 hB);obtain⟨x0,x1,x2,x3,x4,x5⟩:=Q1.facts;have S0:=ak hB;clear hB hz1 Q1 HR;go_enter Tryz.func37,Tryz.ntmps37
 go_upto_region 1 with fail
 rw[<-hW1];clear hW1;go_wp2_with fail;refine HC.o.mono ?_;rintro r u1 ⟨rfl,hb⟩;have S1:=ak (S0.o.trans (hb.mono S0.o.size));clear hb HC x0 x1 x2 x3 x4 x5;go_wp2
 go_ret2
 exact⟨rfl,S1.o⟩
theorem jT {w:World}{n m:Bool}{a b:Option Addr}{la ca lb cb:Nat}{X Y:Nat}{e f:Int}(mode:Int) (hr:Rv w ⟨n,.slice a la ca,X,e,m,.slice b lb cb,Y,f⟩) (hT:dH w)
 (o1 o2 z:Option (Bool×Nat×Int)) (ew:Int) (rw':Nat×Int) (ho1:mkS n X e=o1) (ho2:mkS m Y f=o2) (lz:(ws (dX z)).length<=8192) (Xa:ew≠0->rw'.1=0/\rw'.2=ew)
 (ANS:Nat×Int) (hANS:ANS=if mode<0\/4<mode then(0,1) else if iM (fun _=>(⟨n,.slice a la ca,X,e,m,.slice b lb cb,Y,f⟩:Ri)) 1=0 then rw' else(0,iM (fun _=>(⟨n,.slice a la ca,X,e,m,.slice b lb cb,Y,f⟩:Ri)) 1))
 (HW:Hid (∀ (u:World) (p q:Value),An w u->Nt w.heap.size u p (dX o1)->Nt w.heap.size u q (dX o2)->iM (fun _=>(⟨n,.slice a la ca,X,e,m,.slice b lb cb,Y,f⟩:Ri)) 1=0->As 100 #[.agg #[.bool (dN o1),p,.int .i64 (dE o1),.bool (dN o2),q,.int .i64 (dE o2)]] u fun r w'=>(∃ v,r=.returned (.tuple #[.agg #[.bool (dN z),v,.int .i64 (dE z)],.int .i64 ew])/\Nt u.heap.size w' v (dX z))/\An u w'))
 (HR:Hid (∀ (u:World) (p:Option Addr) (q:Nat),ew=0->¬ (mode<0\/4<mode)->iM (fun _=>(⟨n,.slice a la ca,X,e,m,.slice b lb cb,Y,f⟩:Ri)) 1=0->An w u->Arg u p (ws (dX z)).length q (ws (dX z))->At 82 #[.agg #[.bool (dN z),.slice p (ws (dX z)).length q,.int .i64 (dE z)],.int .i64 mode] u (.tuple #[.float .f64 rw'.1,.int .i64 rw'.2]))) :
 At 80 #[.agg #[.bool n,.slice a la ca,.int .i64 e,.bool m,.slice b lb cb,.int .i64 f],.int .i64 mode,.func (.func 100) #[] #[],.func (.func 82) #[] #[]] w (.tuple #[.float .f64 ANS.1,.int .i64 ANS.2]):=by
 obtain⟨W1,hW1⟩:=af (w.alloc (.cells #[.bool n,.slice a la ca,.int .i64 e,.bool m,.slice b lb cb,.int .i64 f] 73));obtain⟨hB,hz1,Q1⟩:=pM w n _ e m _ f W1 hW1
 by_cases hm:mode<0\/4<mode
 · rw[if_pos hm] at hANS;subst hANS;have S0:=ak hB;clear hB hz1 Q1 HW HR hr hT
   exact qv
 · rw[if_neg hm] at hANS;obtain⟨R,hR⟩:=af (W1.alloc (.cells #[.bool n,.slice a la ca,.int .i64 e,.bool m,.slice b lb cb,.int .i64 f] 73));have hin:=Zm W1 _ (hr.below hB) (hT.belows hB) R hR;have hbR:An W1 R:=by rw[hR];exact ae _ _
   exact ZS
theorem PI {w:World}{a b:Option Addr}{la ca lb cb:Nat}(n m:Bool) (e f mode:Int) (ANS:Nat×Int)
 (HR:Hid (∀ u:World,An w u->At 80 #[.agg #[.bool n,.slice a la ca,.int .i64 e,.bool m,.slice b lb cb,.int .i64 f],.int .i64 mode,.func (.func 100) #[] #[],.func (.func 82) #[] #[]] u (.tuple #[.float .f64 ANS.1,.int .i64 ANS.2]))) :
 At 53 #[.agg #[.bool n,.slice a la ca,.int .i64 e,.bool m,.slice b lb cb,.int .i64 f],.int .i64 mode] w (.tuple #[.float .f64 ANS.1,.int .i64 ANS.2]):=by
 obtain⟨W1,hW1⟩:=af (w.alloc (.cells #[.bool n,.slice a la ca,.int .i64 e,.bool m,.slice b lb cb,.int .i64 f] 73));obtain⟨hB,hz1,Q1⟩:=pM w n _ e m _ f W1 hW1;have HC:=hid (HR.o W1 hB);obtain⟨x0,x1,x2,x3,x4,x5⟩:=Q1.facts;have S0:=ak hB;clear hB hz1 Q1 HR;go_enter Tryz.func53,Tryz.ntmps53
 go_upto_region 1 with fail
 rw[<-hW1];clear hW1;go_wp2_with fail;refine HC.o.mono ?_;rintro r u1 ⟨rfl,hb⟩;have S1:=ak (S0.o.trans (hb.mono S0.o.size));clear hb HC x0 x1 x2 x3 x4 x5;go_wp2
 go_ret2
 exact⟨rfl,S1.o⟩
theorem tX(n:Bool)(M:Nat)(E:Int)(hM:M≠0)(hb:bl M<=1001)(h0:-4096<=E)(h1:E<=4096):mkS n M E=some (n,M/2^lo M,E+lo M)/\(M/2^lo M)%2=1/\M=M/2^lo M*2^lo M/\lo M<=1001:=by
 obtain⟨q,h2,h3,h4⟩:=iH M hM;refine⟨?_,by omega,by rw[h3,cZ];exact h2,by omega⟩;unfold mkS;rw[if_neg hM,if_neg (by omega)]
def mW(n:Bool)(X:Nat)(e:Int)(Y:Nat)(f:Int):Option (Bool×Nat×Int):=mkS n (2*dS X Y 64+(if oO X Y 64 then 0 else 1)) (eF (e-f-lJ X Y 64-fB Y 64))
def qJ(X:Nat)(e:Int)(Y:Nat)(f:Int):Int:=e-f-lJ X Y 129-fB Y 129
def eY(X:Nat)(e:Int)(Y:Nat)(f:Int):Nat:=Pw (dS X Y 129) (qJ X e Y f)
theorem xq(W:Nat):∃ r,nz W r:=by
 induction W with
 | zero=>exact⟨0,by unfold nz;omega⟩
 | succ W ih =>
   obtain⟨r,h1,h2⟩:=ih
   by_cases h:W+1<(r+1)*(r+1)
   · exact⟨r,by omega,h⟩
   · refine⟨r+1,by omega,?_⟩;have:(r+1)*(r+1)<(r+1+1)*(r+1+1):=qW (by omega) (by omega);omega
noncomputable def jl (W:Nat):Nat:=Classical.choose (xq W)
theorem xu(W:Nat):nz W (jl W):=zV (xq W)
def TH(X:Nat)(e:Int)(Y:Nat)(f:Int):Bool:=Vn (dS X Y 129) (qJ X e Y f) (oO X Y 129)
noncomputable def LY (X:Nat) (e:Int) (Y:Nat) (f:Int):Bool:=TH X e Y f&&decide (eY X e Y f=jl (eY X e Y f)*jl (eY X e Y f))
noncomputable def uL (X:Nat) (e:Int) (Y:Nat) (f:Int):Option (Bool×Nat×Int):=mkS false (2*jl (eY X e Y f)+(if LY X e Y f then 0 else 1)) (eF (vU (qJ X e Y f)/2))
theorem ji(x:Int):-4096<=eF x/\eF x<=4096:=by unfold eF;omega
theorem xw{R k W:Nat}(h:R*R<=W)(hW:W<2^(2*k)):R<2^k:=by
 rcases kV R (2^k) with q|q
 · exact q
 · have:=jC q q;rw[<-aL,show k+k=2*k by omega] at this;omega
theorem PK{R k W:Nat}(h:W<(R+1)*(R+1))(hW:2^(2*k)<=W):2^k<=R:=by
 rcases kV R (2^k) with q|q
 · have:=jC (show R+1<=2^k from q) (show R+1<=2^k from q);rw[<-aL,show k+k=2*k by omega] at this;omega
 · exact q
theorem GD(X:Nat)(e:Int)(Y:Nat)(f:Int)(D:Pq X Y 129):eY X e Y f<2^130:=by
 have:=D.most;unfold eY Pw
 split <;> omega
theorem Xb(X:Nat)(e:Int)(Y:Nat)(f:Int)(D:Pq X Y 129)(hX:X≠0):2^(2*63)<=eY X e Y f:=by
 have:=D.least hX;have e1:(2:Nat)^(129-1)=4*2^(2*63):=by decide
 have e2:(1:Nat)<=2^(2*63):=bz _;unfold eY Pw
 split <;> omega
theorem Bn{W d k:Nat}(h:W<2^k)(hd:d<=1):bl (2*W+d)<=k+1:=dU (by rw[iq];omega)
theorem o5:Pp vK 9218868437227405312:=by
 refine⟨by decide,?_,fun {k l} h=>Vi.2 h,fun k hk=>?_⟩
 · have:=jr 0 0 (.inl rfl) (by omega);simpa using this
 · by_cases h:k<4503599627370496
   · refine⟨k,0,?_,?_,by omega,by omega⟩
     · have:=jr 0 k (.inl rfl) (by omega);rw[eG,dK] at this;exact this
     · have:=jr 0 (k+1) (.inl rfl) (by omega);rw[eG,dK] at this;exact this
   · obtain⟨q,hq⟩:∃ q,k/4503599627370496=q:=⟨_,rfl⟩;obtain⟨g,hg⟩:∃ g,k%4503599627370496=g:=⟨_,rfl⟩;refine⟨4503599627370496+g,q-1,?_,?_,by omega,by omega⟩
     · have:=jr (q-1) (4503599627370496+g) (.inr (by omega)) (by omega);rw[show(q-1)*4503599627370496+(4503599627370496+g)=k by omega] at this;exact this
     · have:=jr (q-1) (4503599627370496+g+1) (.inr (by omega)) (by omega);rw[show(q-1)*4503599627370496+(4503599627370496+g+1)=k+1 by omega] at this;exact this
theorem TI{K:Nat}{t:Bool}{m:Int}{V S':Nat}(h:YT K t m V S'):ik vK 9218868437227405312 1 K t m V S':=by
 refine⟨h.fin,h.pos,fun ht=>?_,fun ht=>?_,fun ht hl=>?_,fun ht=>?_⟩
 · rw[mG];exact h.one ht
 · rw[mG];exact h.low ht
 · rw[mG] at hl;have:=h.Tp ht hl;rw[mG,mG,fF];exact this
 · rw[mG];rcases h.high ht with q|⟨q,r⟩
   · exact .inl q
   · exact .inr ⟨by omega,r⟩
theorem Jc(n:Bool)(M:Nat)(E:Int)(hM:M≠0)(hb:bl M<=1001)(h0:-4096<=E)(h1:E<=4096) :
 ∃ K t m,ik vK 9218868437227405312 1 K t m (M*2^(E+(1074:Nat)).toNat) (2^(-(E+(1074:Nat))).toNat)/\∀ mode:Int,0<=mode->mode<=4->fC (mkS n M E) mode=(rK mode n K t m+(if n then 9223372036854775808 else 0),0):=by
 obtain⟨e1,e2,e3,e4⟩:=tX n M E hM hb h0 h1;obtain⟨M',hM'⟩:∃ M',M/2^lo M=M':=⟨_,rfl⟩;obtain⟨l,hl⟩:∃ l,lo M=l:=⟨_,rfl⟩;rw[hM',hl] at e1 e3;rw[hM'] at e2;rw[hl] at e4;have hL:=lies M' (E+l) e2 (by omega) (by omega) (min E (-1074)) (by omega) (by omega);refine⟨MR M' (E+l),(iY 53 (-1074) 1024 M' (E+l)).2.2.1,(iY 53 (-1074) 1024 M' (E+l)).2.2.2,?_,?_⟩
 · have:=TI hL;rw[e3]
   have w1:M'*2^(E+(l:Int)-min E (-1074)).toNat=M'*2^l*2^(E+(1074:Nat)).toNat:=by
    rw[aM,<-aL];congr 2;omega
   have w2:(-1074-min E (-1074)).toNat=(-(E+(1074:Nat))).toNat:=by omega
   rw[w1,w2] at this;exact this
 · intro mode hm0 mO;rw[e1];unfold fC;rw[if_neg (by omega)];simp only;rw[if_neg (by omega),Tq]
theorem Vq(n:Bool)(X:Nat)(e:Int)(Y:Nat)(f:Int)(hX:X%2=1)(hY:Y≠0)(bX:bl X<=262144)(bY:bl Y<=262144) :
 ∃ K t m,ik vK 9218868437227405312 1 K t m (iQ X e f 1074 1) (gQ Y e f 1074 1)/\∀ mode:Int,0<=mode->mode<=4->fC (mW n X e Y f) mode=(rK mode n K t m+(if n then 9223372036854775808 else 0),0):=by
 have D:=iI X Y 64 (.inr hX) hY (by omega) (by omega) bX bY;have hX0:X≠0:=by omega
 have hW1:=D.least hX0;have hW2:=D.most;have c63:(2:Nat)^(64-1)=9223372036854775808:=by decide
 have sp:=Pv X Y e f 1074 hY D;have hd:(if oO X Y 64 then 0 else 1)<=1:=by split <;> omega
 obtain⟨K,t,m,hL,hR⟩:=Jc n (2*dS X Y 64+(if oO X Y 64 then 0 else 1)) (eF (e-f-lJ X Y 64-fB Y 64)) (by omega) (by have:=Bn hW2 hd;omega) (ji _).1 (ji _).2;refine⟨K,t,m,hL.Dm o5 (by omega) sp.pos ?_,hR⟩;exact uI 1 (dS X Y 64) _ _ _ 1074 _ (by omega) (by omega) (Nat.lt_trans hW2 (by decide)) hd (by omega) (by omega) sp
theorem PL(X:Nat)(e:Int)(Y:Nat)(f:Int)(hX:X%2=1)(hY:Y≠0)(bX:bl X<=262144)(bY:bl Y<=262144) :
 ∃ K t m,ik vK 9218868437227405312 2 K t m (iQ X e f 1074 2) (gQ Y e f 1074 2)/\∀ mode:Int,0<=mode->mode<=4->fC (uL X e Y f) mode=(rK mode false K t m,0):=by
 have D:=iI X Y 129 (.inr hX) hY (by omega) (by omega) bX bY;have hX0:X≠0:=by omega
 have g1:=Xb X e Y f D hX0;have g2:=GD X e Y f D;obtain⟨r1,r2⟩:=xu (eY X e Y f);have q1:=PK r2 g1;have q2:jl (eY X e Y f)<2^65:=xw r1 (by rw[show 2*65=130 by rfl];exact g2);have sp:=LH X Y e f 1074 (jl (eY X e Y f)) hY D (qJ X e Y f) rfl (xu _);have hd:(if LY X e Y f then 0 else 1)<=1:=by split <;> omega
 have c63:(2:Nat)^63=9223372036854775808:=by decide
 obtain⟨K,t,m,hL,hR⟩:=Jc false (2*jl (eY X e Y f)+(if LY X e Y f then 0 else 1)) (eF (vU (qJ X e Y f)/2)) (by omega) (by have:=Bn q2 hd;omega) (ji _).1 (ji _).2;refine⟨K,t,m,hL.Dm o5 (by omega) sp.pos ?_,fun mode h0 h4=>?_⟩
 · exact uI 2 (jl (eY X e Y f)) _ _ _ 1074 _ (by omega) (by omega) (Nat.lt_trans q2 (by decide)) hd (by omega) (by omega) sp
 · have:=hR mode h0 h4;simp only[fe,if_false,gW] at this;exact this
theorem zw(n:Bool)(X:Nat)(e:Int)(Y:Nat)(f:Int)(hX:X=0\/X%2=1)(hY:Y≠0)(bX:bl X<=262144)(bY:bl Y<=262144):(mW n X e Y f).isSome=true:=by
 have D:=iI X Y 64 hX hY (by omega) (by omega) bX bY;have hW2:=D.most;have hd:(if oO X Y 64 then 0 else 1)<=1:=by split <;> omega
 have hb:=Bn hW2 hd;unfold mW
 by_cases hM:2*dS X Y 64+(if oO X Y 64 then 0 else 1)=0
 · rw[hM,eQ];rfl
 · rw[(tX n _ _ hM (by omega) (ji _).1 (ji _).2).1];rfl
theorem Dz(X:Nat)(e:Int)(Y:Nat)(f:Int)(hX:X=0\/X%2=1)(hY:Y≠0)(bX:bl X<=262144)(bY:bl Y<=262144):(uL X e Y f).isSome=true:=by
 have D:=iI X Y 129 hX hY (by omega) (by omega) bX bY;have g2:=GD X e Y f D;obtain⟨r1,r2⟩:=xu (eY X e Y f);have q2:jl (eY X e Y f)<2^65:=xw r1 (by rw[show 2*65=130 by rfl];exact g2);have hd:(if LY X e Y f then 0 else 1)<=1:=by split <;> omega
 have hb:=Bn q2 hd;unfold uL
 by_cases hM:2*jl (eY X e Y f)+(if LY X e Y f then 0 else 1)=0
 · rw[hM,eQ];rfl
 · rw[(tX false _ _ hM (by omega) (ji _).1 (ji _).2).1];rfl
theorem xx(Y size:Nat)(hY:Y≠0)(hs0:1<=size)(hs:size<=1000)(bY:bl Y<=262144):dS 0 Y size=0/\oO 0 Y size=true:=by
 have D:=iI 0 Y size (.inl rfl) hY hs0 hs (by rw[dD];omega) bY;have hby:0<=lJ 0 Y size:=by unfold lJ;rw[dD];omega
 have Zn:pW 0 Y size=0:=by unfold pW;split <;> simp
 have h1:mQ 0 Y size=0:=by unfold mQ;rw[Zn,Nat.zero_div]
 have h2:p8 0 Y size=0:=by unfold p8;rw[Zn,Nat.zero_mod]
 have h3:qG 0 Y size=0:=by unfold qG;rw[h2,eG]
 have h4:oM 0 Y size=0:=by unfold oM;rw[h1,eG]
 refine⟨?_,?_⟩
 · unfold dS;rw[h3,h4,if_neg (by omega),h1]
 · unfold oO;rw[h3,h4];simp[hby]
theorem DC(n:Bool)(e:Int)(Y:Nat)(f:Int)(hY:Y≠0)(bY:bl Y<=262144):mW n 0 e Y f=some (false,0,0):=by
 obtain⟨h1,h2⟩:=xx Y 64 hY (by omega) (by omega) bY;unfold mW;rw[h1,h2];exact eQ _ _
theorem xy(e:Int)(Y:Nat)(f:Int)(hY:Y≠0)(bY:bl Y<=262144):uL 0 e Y f=some (false,0,0):=by
 obtain⟨h1,h2⟩:=xx Y 129 hY (by omega) (by omega) bY;have hW:eY 0 e Y f=0:=by unfold eY Pw;rw[h1];split <;> rfl
 have hR:jl 0=0:=by
  have:=(xu 0).1;rcases kU (jl 0) with q|q
  · exact q
  · have:=iE q q;omega
 have hT:TH 0 e Y f=true:=by unfold TH Vn;rw[h1,h2];split <;> rfl
 have hD:LY 0 e Y f=true:=by unfold LY;rw[hT,hW,hR];rfl
 unfold uL;rw[hD,hW,hR];exact eQ _ _
theorem DF{x:Int}(h:x%2=0):(x.tmod 2==0)=true:=by
 have:(2:Int) ∣ x:=Int.dvd_of_emod_eq_zero h;rw[Int.tmod_eq_zero_of_dvd this];rfl
theorem Jd{x:Int}(h:¬ x%2=0):(x.tmod 2==0)=false:=by
 apply beq_eq_false_iff_ne.2;intro k;exact h (Int.emod_eq_zero_of_dvd (Int.dvd_of_tmod_eq_zero k))
theorem LZ{x:Int}(h:x%2=0):x.tdiv 2=x/2:=by
 obtain⟨k,hk⟩:=Int.dvd_of_emod_eq_zero h;subst hk;rw[Int.mul_tdiv_cancel_left _ (by decide),Int.mul_ediv_cancel_left _ (by decide)]
theorem PM(x:Int):vU x%2=0:=by unfold vU;split <;> omega
theorem xz {w:World}{a b:Option Addr}{ca cb:Nat}(m:Bool) (X Y:Nat) (e f:Int)
 (AX:Arg w a (ws X).length ca (ws X)) (AY:Arg w b (ws Y).length cb (ws Y)) (hT:dH w) (hX:X=0\/X%2=1) (hY:Y≠0)
 (he0:-1048576<=e) (he1:e<=1048576) (hf0:-1048576<=f) (hf1:f<=1048576) (bX:bl X<=262144) (bY:bl Y<=262144) :
 As 100 #[.agg #[.bool false,.slice a (ws X).length ca,.int .i64 e,.bool m,.slice b (ws Y).length cb,.int .i64 f]] w fun r w'=>bN w.heap.size w' r (uL X e Y f)/\An w w':=by
 have D:=iI X Y 129 hX hY (by omega) (by omega) bX bY;have bW:bl (dS X Y 129)<=130:=dU D.most;have hc:fB Y 129<=129:=by unfold fB;omega
 have hb:-262144<=lJ X Y 129/\lJ X Y 129<=264000:=by have:=D.Vl;unfold lJ;omega
 have hx:-10000000<qJ X e Y f/\qJ X e Y f<10000000:=by unfold qJ;omega
 have HD:∀ u,An w u->As 127 #[.agg #[.bool false,.slice a (ws X).length ca,.int .i64 e,.bool m,.slice b (ws Y).length cb,.int .i64 f],.int .i64 129] u fun r w'=>(∃ v,r=.returned (.agg #[v,.int .i64 (qJ X e Y f),.bool (oO X Y 129)])/\Nt u.heap.size w' v (dS X Y 129))/\An u w':=fun u hu=>zt false m X Y e f 129 (AX.below hu) (AY.below hu) hX hY he0 he1 hf0 hf1 (by omega) (by omega) bX bY;obtain⟨r1,r2⟩:=xu (eY X e Y f);have g2:=GD X e Y f D;have q2:jl (eY X e Y f)<2^65:=xw r1 (by rw[show 2*65=130 by rfl];exact g2);have bR:bl (jl (eY X e Y f))<=65:=dU q2;have bW':bl (eY X e Y f)<=130:=dU g2;have bL:bl (eY X e Y f-jl (eY X e Y f)*jl (eY X e Y f))<=262144:=mU (yI _ _) (by omega)
 have HR:∀ (u:World) (p:Option Addr) (q:Nat),Arg u p (ws (eY X e Y f)).length q (ws (eY X e Y f))->As 146 #[.slice p (ws (eY X e Y f)).length q] u fun r w'=>∃ v v',r=.returned (.tuple #[v,v'])/\Nt u.heap.size w' v (jl (eY X e Y f))/\Nt u.heap.size w' v' (eY X e Y f-jl (eY X e Y f)*jl (eY X e Y f))/\An u w':=by
  intro u p q hA;exact Px hA (by rw[aj];exact⟨r1,r2⟩) (by rw[aj])
 have HL:∀ (u:World) (p:Option Addr) (q:Nat),Arg u p (ws (eY X e Y f-jl (eY X e Y f)*jl (eY X e Y f))).length q (ws (eY X e Y f-jl (eY X e Y f)*jl (eY X e Y f)))->At 86 #[.slice p (ws (eY X e Y f-jl (eY X e Y f)*jl (eY X e Y f))).length q] u (.int .i64 (bl (eY X e Y f-jl (eY X e Y f)*jl (eY X e Y f)):Nat)):=by
  intro u p q hA;exact nG hA (by rw[aj])
 have hz:(bl (eY X e Y f-jl (eY X e Y f)*jl (eY X e Y f))==0)=decide (eY X e Y f=jl (eY X e Y f)*jl (eY X e Y f)):=by
  by_cases h:eY X e Y f=jl (eY X e Y f)*jl (eY X e Y f)
  · rw[decide_eq_true h,show eY X e Y f-jl (eY X e Y f)*jl (eY X e Y f)=0 by omega,dD];rfl
  · rw[decide_eq_false h];have:=dG (eY X e Y f-jl (eY X e Y f)*jl (eY X e Y f)) (by omega);exact beq_eq_false_iff_ne.2 (by omega)
 have hz2:(((bl (eY X e Y f-jl (eY X e Y f)*jl (eY X e Y f)):Nat):Int)==0)=decide (eY X e Y f=jl (eY X e Y f)*jl (eY X e Y f)):=by
  rw[<-hz]
  by_cases h:bl (eY X e Y f-jl (eY X e Y f)*jl (eY X e Y f))=0
  · rw[h];rfl
  · rw[beq_eq_false_iff_ne.2 h,beq_eq_false_iff_ne.2 (show((bl (eY X e Y f-jl (eY X e Y f)*jl (eY X e Y f)):Nat):Int)≠0 by omega)]
 have hvx:=PM (qJ X e Y f);have Zo:-10000000<=vU (qJ X e Y f)/\vU (qJ X e Y f)<=10000000:=by unfold vU;split <;> omega
 have HI:∀ (d:Bool) (u:World) (p:Option Addr) (q:Nat),d=LY X e Y f->An w u->Arg u p (ws (jl (eY X e Y f))).length q (ws (jl (eY X e Y f)))->As 126 #[.bool false,.agg #[.slice p (ws (jl (eY X e Y f))).length q,.int .i64 (vU (qJ X e Y f)/2),.bool d]] u fun r w'=>bN u.heap.size w' r (uL X e Y f)/\An u w':=by
  intro d u p q hd hu hA;subst hd;exact xh false _ _ _ hA (hT.belows hu) (by omega) (by omega) (by omega)
 have lV:=aI false (2*jl (eY X e Y f)+(if LY X e Y f then 0 else 1)) (eF (vU (qJ X e Y f)/2));have ht:=LZ hvx;unfold bN at HI |-
 by_cases hev:qJ X e Y f%2=0
 · have eW:eY X e Y f=dS X Y 129:=by unfold eY Pw;rw[if_pos hev]
   have eX:vU (qJ X e Y f)=qJ X e Y f:=by unfold vU;rw[if_pos hev]
   have eT:TH X e Y f=oO X Y 129:=by unfold TH Vn;rw[if_pos hev]
   rw[eX] at ht Zo
   cases hat:oO X Y 129 with
   | true =>
     rw[hat] at HD eT;refine Bf m e f (dS X Y 129) 0 (jl (eY X e Y f)) (eY X e Y f-jl (eY X e Y f)*jl (eY X e Y f)) _ (qJ X e Y f) 0 (vU (qJ X e Y f)/2) false _ _ _ _ _ (cu (by omega)) (by rw[XT];omega) (cu (by omega)) (cu bL) lV (by omega) (by omega) (DF hev) (by rw[eX];exact ht) (by omega) (by omega) HD (by rw[eW] at HR |-;exact HR) HL hz2 hz ?_;intro u p q hu hA;exact HI _ u p q (by unfold LY;rw[eT];rfl) hu hA
   | false =>
     rw[hat] at HD eT;refine Bg m e f (dS X Y 129) 0 (jl (eY X e Y f)) (eY X e Y f-jl (eY X e Y f)*jl (eY X e Y f)) 0 (qJ X e Y f) 0 (vU (qJ X e Y f)/2) false false _ _ _ _ (cu (by omega)) (by rw[XT];omega) (cu (by omega)) (cu bL) lV (by omega) (by omega) (DF hev) (by rw[eX];exact ht) (by omega) (by omega) HD (by rw[eW] at HR |-;exact HR) ?_;intro u p q hu hA;exact HI _ u p q (by unfold LY;rw[eT];rfl) hu hA
 · have eW:eY X e Y f=dS X Y 129/2:=by unfold eY Pw;rw[if_neg hev]
   have eX:vU (qJ X e Y f)=qJ X e Y f+1:=by unfold vU;rw[if_neg hev]
   have eT:TH X e Y f=(oO X Y 129&&decide (dS X Y 129%2=0)):=by unfold TH Vn;rw[if_neg hev]
   have e1:aV (dS X Y 129) (-1)=(eY X e Y f,0):=by
    have:=tQ (X:=dS X Y 129) (k:=1) (V:=eY X e Y f) (fU (by omega)) (by rw[eW]);exact this
   have HH:∀ (t':Bool) (u:World) (p:Option Addr) (q:Nat),t'=TH X e Y f->Arg u p (ws (dS X Y 129)).length q (ws (dS X Y 129))->As 145 #[.agg #[.slice p (ws (dS X Y 129)).length q,.int .i64 (qJ X e Y f),.bool (oO X Y 129)]] u fun r w'=>(∃ v,r=.returned (.agg #[v,.int .i64 (vU (qJ X e Y f)),.bool t'])/\Nt u.heap.size w' v (eY X e Y f))/\An u w':=by
    intro t' u p q ht' hA;rw[ht',eT]
    cases hat:oO X Y 129 with
    | true =>
      have hb:(!decide (dS X Y 129/2^0%2=1))=(true&&decide (dS X Y 129%2=0)):=by
       rw[fw,um,og]
       by_cases h:dS X Y 129%2=0
       · rw[decide_eq_true h,decide_eq_false (by omega)];rfl
       · rw[decide_eq_false h,decide_eq_true (by omega)];rfl
      rw[<-hb];exact Gx (dS X Y 129) _ _ _ hA (by omega) (by omega) e1 eX.symm (cu (by omega)) _ rfl
    | false=>exact LM (dS X Y 129) _ _ _ hA (by omega) (by omega) e1 eX.symm (cu (by omega))
   cases hsT:TH X e Y f with
   | true =>
     refine Dw m e f (dS X Y 129) (eY X e Y f) (jl (eY X e Y f)) (eY X e Y f-jl (eY X e Y f)*jl (eY X e Y f)) _ (qJ X e Y f) (vU (qJ X e Y f)) (vU (qJ X e Y f)/2) (oO X Y 129) _ _ _ _ _ (cu (by omega)) (cu (by omega)) (cu (by omega)) (cu bL) lV Zo.1 Zo.2 (Jd hev) ht (by omega) (by omega) HD (fun u p q hA=>HH true u p q hsT.symm hA) HR HL hz2 hz ?_;intro u p q hu hA;exact HI _ u p q (by unfold LY;rw[hsT];rfl) hu hA
   | false =>
     refine Dx m e f (dS X Y 129) (eY X e Y f) (jl (eY X e Y f)) (eY X e Y f-jl (eY X e Y f)*jl (eY X e Y f)) 0 (qJ X e Y f) (vU (qJ X e Y f)) (vU (qJ X e Y f)/2) (oO X Y 129) false _ _ _ _ (cu (by omega)) (cu (by omega)) (cu (by omega)) (cu bL) lV Zo.1 Zo.2 (Jd hev) ht (by omega) (by omega) HD (fun u p q hA=>HH false u p q hsT.symm hA) HR ?_;intro u p q hu hA;exact HI _ u p q (by unfold LY;rw[hsT];rfl) hu hA
def yw(r:Ri):Nat->Ri:=fun _=>r
noncomputable def rQ (rnd:Option (Bool×Nat×Int)->Int->Nat×Int) (r:Ri) (mode:Int):Nat×Int :=
 if mode<0\/4<mode then(0,1) else if iM (yw r) 1=0 then rnd (mW (dN (mkS r.n r.X r.e)) (dX (mkS r.n r.X r.e)) (dE (mkS r.n r.X r.e)) (dX (mkS r.m r.Y r.f)) (dE (mkS r.m r.Y r.f))) mode else(0,iM (yw r) 1)
noncomputable def lN (rnd:Option (Bool×Nat×Int)->Int->Nat×Int) (r:Ri) (mode:Int):Nat×Int :=
 if mode<0\/4<mode then(0,1) else if iM (yw r) 1=0 then(if dN (mkS r.n r.X r.e) then(0,110) else rnd (uL (dX (mkS r.n r.X r.e)) (dE (mkS r.n r.X r.e)) (dX (mkS r.m r.Y r.f)) (dE (mkS r.m r.Y r.f))) mode) else(0,iM (yw r) 1)
theorem iN{n:Bool}{X:Nat}{e:Int}(h:(mkS n X e).isSome=true):tC (dN (mkS n X e)) (dX (mkS n X e)) (dE (mkS n X e)):=by
 cases ho:mkS n X e with
 | none=>rw[ho] at h;cases h
 | some d =>
   obtain⟨n1,X1,e1⟩:=d;exact bZ ho
theorem tC.par{n:Bool}{X:Nat}{e:Int}(h:tC n X e):X=0\/X%2=1:=by rcases h.odd with q | q;exact .inr q;exact .inl q.1
theorem L6(X:Nat)(e:Int)(Y:Nat)(f:Int)(hs:(uL X e Y f).isSome=true):mkS (dN (uL X e Y f)) (dX (uL X e Y f)) (dE (uL X e Y f))=uL X e Y f:=xm (o:=uL X e Y f) rfl hs
theorem GH(n:Bool)(X:Nat)(e:Int)(Y:Nat)(f:Int)(hs:(mW n X e Y f).isSome=true):mkS (dN (mW n X e Y f)) (dX (mW n X e Y f)) (dE (mW n X e Y f))=mW n X e Y f:=xm (o:=mW n X e Y f) rfl hs
theorem PN{w:World}{n m:Bool}{a b:Option Addr}{la ca lb cb:Nat}{X Y:Nat}{e f:Int}(mode:Int)(hr:Rv w ⟨n,.slice a la ca,X,e,m,.slice b lb cb,Y,f⟩)(hT:dH w) :
 As 37 #[.agg #[.bool n,.slice a la ca,.int .i64 e,.bool m,.slice b lb cb,.int .i64 f],.int .i64 mode] w fun r w' =>
  r=.returned (.tuple #[.float .f64 (rQ fC ⟨n,.slice a la ca,X,e,m,.slice b lb cb,Y,f⟩ mode).1,.int .i64 (rQ fC ⟨n,.slice a la ca,X,e,m,.slice b lb cb,Y,f⟩ mode).2])/\An w w':=by
 refine PH n m e f mode (rQ fC ⟨n,.slice a la ca,X,e,m,.slice b lb cb,Y,f⟩ mode) ?_;intro u hu;have hrT:=hr.below hu;have qD:=hT.belows hu;refine qI mode hrT qD (mkS n X e) (mkS m Y f) (mW (dN (mkS n X e)) (dX (mkS n X e)) (dE (mkS n X e)) (dX (mkS m Y f)) (dE (mkS m Y f))) 0 (fC (mW (dN (mkS n X e)) (dX (mkS n X e)) (dE (mkS n X e)) (dX (mkS m Y f)) (dE (mkS m Y f))) mode) rfl rfl (aI _ _ _) (fun h=>absurd rfl h) _ rfl ?_ ?_
 · intro v p q hv N1 N2 h0;obtain⟨k1,k2,k3,k4⟩:=Dy h0 0 (by omega);simp only at k1 k2 k3 k4;have F1:=iN k2;have F2:=iN k3;obtain⟨a1,c1,rfl,A1⟩:=N1.arg (by have:=dF F1;omega);obtain⟨a2,c2,rfl,A2⟩:=N2.arg (by have:=dF F2;omega);have hq:=Be (dN (mkS n X e)) (dN (mkS m Y f)) (dX (mkS n X e)) (dX (mkS m Y f)) (dE (mkS n X e)) (dE (mkS m Y f)) A1 A2 (qD.belows hv) F1.par k4 F1.down F1.up F2.down F2.up F1.size F2.size;have hs:=zw (dN (mkS n X e)) (dX (mkS n X e)) (dE (mkS n X e)) (dX (mkS m Y f)) (dE (mkS m Y f)) F1.par k4 F1.size F2.size;have he:nU (mW (dN (mkS n X e)) (dX (mkS n X e)) (dE (mkS n X e)) (dX (mkS m Y f)) (dE (mkS m Y f)))=0:=by unfold nU;rw[hs];rfl
   unfold bN at hq;rw[show mkS (dN (mkS n X e)) (2*dS (dX (mkS n X e)) (dX (mkS m Y f)) 64+(if oO (dX (mkS n X e)) (dX (mkS m Y f)) 64 then 0 else 1)) (eF (dE (mkS n X e)-dE (mkS m Y f)-lJ (dX (mkS n X e)) (dX (mkS m Y f)) 64-fB (dX (mkS m Y f)) 64))=mW (dN (mkS n X e)) (dX (mkS n X e)) (dE (mkS n X e)) (dX (mkS m Y f)) (dE (mkS m Y f)) from rfl,he] at hq;exact hq
 · intro v p q _ hm h0 hv hA;obtain⟨k1,k2,k3,k4⟩:=Dy h0 0 (by omega);simp only at k1 k2 k3 k4;have F1:=iN k2;have F2:=iN k3;have hs:=zw (dN (mkS n X e)) (dX (mkS n X e)) (dE (mkS n X e)) (dX (mkS m Y f)) (dE (mkS m Y f)) F1.par k4 F1.size F2.size;have rg:=Jb (o:=mW (dN (mkS n X e)) (dX (mkS n X e)) (dE (mkS n X e)) (dX (mkS m Y f)) (dE (mkS m Y f))) rfl;have hR:=zi hA (qD.belows hv) (dN (mW (dN (mkS n X e)) (dX (mkS n X e)) (dE (mkS n X e)) (dX (mkS m Y f)) (dE (mkS m Y f)))) (dE (mW (dN (mkS n X e)) (dX (mkS n X e)) (dE (mkS n X e)) (dX (mkS m Y f)) (dE (mkS m Y f)))) mode (by omega) (by omega);rw[aj,GH _ _ _ _ _ hs] at hR;exact hR
theorem Xc{w:World}{n m:Bool}{a b:Option Addr}{la ca lb cb:Nat}{X Y:Nat}{e f:Int}(mode:Int)(hr:Rv w ⟨n,.slice a la ca,X,e,m,.slice b lb cb,Y,f⟩)(hT:dH w) :
 As 53 #[.agg #[.bool n,.slice a la ca,.int .i64 e,.bool m,.slice b lb cb,.int .i64 f],.int .i64 mode] w fun r w' =>
  r=.returned (.tuple #[.float .f64 (lN fC ⟨n,.slice a la ca,X,e,m,.slice b lb cb,Y,f⟩ mode).1,.int .i64 (lN fC ⟨n,.slice a la ca,X,e,m,.slice b lb cb,Y,f⟩ mode).2])/\An w w':=by
 refine PI n m e f mode (lN fC ⟨n,.slice a la ca,X,e,m,.slice b lb cb,Y,f⟩ mode) ?_;intro u hu;have hrT:=hr.below hu;have qD:=hT.belows hu
 cases hn:dN (mkS n X e) with
 | true =>
   refine jT mode hrT qD (mkS n X e) (mkS m Y f) none 110 (0,110) rfl rfl (by show(ws 0).length<=8192;rw[XT];omega) (fun h=>⟨rfl,rfl⟩) _ (by unfold lN;simp only;rw[hn];rfl) ?_ ?_
   · intro v p q hv N1 N2 h0;obtain⟨k1,k2,k3,k4⟩:=Dy h0 0 (by omega);simp only at k1 k2 k3 k4;obtain⟨a1,c1,rfl,A1⟩:=N1.arg (by have:=dF (iN k2);omega);obtain⟨a2,c2,rfl,A2⟩:=N2.arg (by have:=dF (iN k3);omega);rw[hn];refine(Pz _ _ _).mono ?_;rintro r w' ⟨rfl,hb⟩;exact⟨⟨_,rfl,Nt.nil _ _⟩,hb⟩
   · intro v p q h110;exact absurd h110 (by decide)
 | false =>
   have hz:(0:Int)≠0->(fC (uL (dX (mkS n X e)) (dE (mkS n X e)) (dX (mkS m Y f)) (dE (mkS m Y f))) mode).1=0/\(fC (uL (dX (mkS n X e)) (dE (mkS n X e)) (dX (mkS m Y f)) (dE (mkS m Y f))) mode).2=0:=fun h=>absurd rfl h;refine jT mode hrT qD (mkS n X e) (mkS m Y f) (uL (dX (mkS n X e)) (dE (mkS n X e)) (dX (mkS m Y f)) (dE (mkS m Y f))) 0 (fC (uL (dX (mkS n X e)) (dE (mkS n X e)) (dX (mkS m Y f)) (dE (mkS m Y f))) mode) rfl rfl (aI _ _ _) hz _ (by unfold lN;simp only;rw[hn];rfl) ?_ ?_
   · intro v p q hv N1 N2 h0;obtain⟨k1,k2,k3,k4⟩:=Dy h0 0 (by omega);simp only at k1 k2 k3 k4;have F1:=iN k2;have F2:=iN k3;obtain⟨a1,c1,rfl,A1⟩:=N1.arg (by have:=dF F1;omega);obtain⟨a2,c2,rfl,A2⟩:=N2.arg (by have:=dF F2;omega);have hq:=xz (dN (mkS m Y f)) (dX (mkS n X e)) (dX (mkS m Y f)) (dE (mkS n X e)) (dE (mkS m Y f)) A1 A2 (qD.belows hv) F1.par k4 F1.down F1.up F2.down F2.up F1.size F2.size;have hs:=Dz (dX (mkS n X e)) (dE (mkS n X e)) (dX (mkS m Y f)) (dE (mkS m Y f)) F1.par k4 F1.size F2.size;have he:nU (uL (dX (mkS n X e)) (dE (mkS n X e)) (dX (mkS m Y f)) (dE (mkS m Y f)))=0:=by unfold nU;rw[hs];rfl
     unfold bN at hq;rw[he] at hq;rw[hn];exact hq
   · intro v p q _ hm h0 hv hA;obtain⟨k1,k2,k3,k4⟩:=Dy h0 0 (by omega);simp only at k1 k2 k3 k4;have F1:=iN k2;have F2:=iN k3;have hs:=Dz (dX (mkS n X e)) (dE (mkS n X e)) (dX (mkS m Y f)) (dE (mkS m Y f)) F1.par k4 F1.size F2.size;have rg:=Jb (o:=uL (dX (mkS n X e)) (dE (mkS n X e)) (dX (mkS m Y f)) (dE (mkS m Y f))) rfl;have hR:=zi hA (qD.belows hv) (dN (uL (dX (mkS n X e)) (dE (mkS n X e)) (dX (mkS m Y f)) (dE (mkS m Y f)))) (dE (uL (dX (mkS n X e)) (dE (mkS n X e)) (dX (mkS m Y f)) (dE (mkS m Y f)))) mode (by omega) (by omega);rw[aj,L6 _ _ _ _ hs] at hR;exact hR
def Xd(o:Option (Bool×Nat×Int)):Option (Bool×Nat×Int):=match o with
 | none=>none
 | some (n,X,e)=>mkS (!n) X e
theorem PO(n:Bool)(X:Nat)(e:Int):Xd (mkS n X e)=mkS (!n) X e:=by
 by_cases h0:X=0
 · subst h0;rw[eQ,eQ];rfl
 · cases ho:mkS n X e with
   | none =>
     unfold mkS at ho |-;rw[if_neg h0] at ho |-
     split at ho
     · rename_i h;rw[if_pos h];rfl
     · cases ho
   | some d =>
     unfold mkS at ho |-;rw[if_neg h0] at ho |-
     split at ho
     · cases ho
     · rename_i h
       cases ho
       rw[if_neg h];show mkS (!n) (X/2^lo X) (e+lo X)=_;have hF:tC n (X/2^lo X) (e+lo X):=bZ (n:=n) (X:=X) (e:=e) (by unfold mkS;rw[if_neg h0,if_neg h])
       have hF2:tC (!n) (X/2^lo X) (e+lo X):=⟨by
        rcases hF.odd with q|⟨q,_,_⟩
        · exact .inl q
        · exfalso;obtain⟨k,h2,h3,h4⟩:=iH X h0
          omega,hF.size,hF.up,hF.down⟩
       exact hF2.self
theorem uM{o:Option (Bool×Nat×Int)}(hs:o.isSome=true):mkS (!(dN o)) (dX o) (dE o)=Xd o:=by
 cases o with
 | none=>cases hs
 | some d=>rfl
end
end Go.Proofs.YteginbngplldaaaGreatDoor
