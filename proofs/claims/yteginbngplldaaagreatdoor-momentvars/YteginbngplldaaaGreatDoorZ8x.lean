import Derived.Test.YteginbngplldaaaGreatDoorD39x
import Derived.Test.YteginbngplldaaaGreatDoorD30x
import Derived.Deep.Cut
import Derived.Test.YteginbngplldaaaGreatDoorD32cx
import Derived.Deep.OwnRows
import Derived.Deep.LoopGhost
import Derived.Deep.RegionHeld3
import Derived.Test.YteginbngplldaaaGreatDoorD19x
import Derived.Test.YteginbngplldaaaGreatDoorD2x
import Derived.Test.YteginbngplldaaaGreatDoorD15x
import Derived.Test.YteginbngplldaaaGreatDoorW17x
import Derived.Laws.FloatArith
import Derived.Test.YteginbngplldaaaGreatDoorZ3x
set_option linter.unusedVariables false
set_option linter.unusedSimpArgs false
set_option maxHeartbeats 16000000
set_option maxRecDepth 20000
namespace Go.Proofs.YteginbngplldaaaGreatDoor
section
open Go.RowKit
theorem xg (W:World) (g:Nat) (n:Bool) (v:Value) (e:Int) (m:Bool) (u:Value) (f k:Int) (tmps:Array Value) (ht:tmps[2]?.getD undef=.pointer (some ⟨g,0,none⟩)) (hk:tmps[3]?.getD undef=.int .i64 k) (D:Rq W g n v e m u f) :
 (results Tryz.f160 tmps).run Tryz.prog W=.ok (.tuple #[.agg #[.bool n,v,.int .i64 e,.bool m,u,.int .i64 f],.int .i64 k]) W:=by
 obtain ⟨x0,x1,x2,x3,x4,x5⟩:=D.facts;simp [results,Tryz.results160,ht,hk,go_sem,x0,x1,x2,x3,x4,x5]
theorem qy (w:World) (n:Bool) (v:Value) (e:Int) (m:Bool) (u:Value) (f:Int) (W:World) (hW:W=(w.alloc (.cells #[.bool n,v,.int .i64 e,.bool m,u,.int .i64 f] 73)).alloc (.cells #[.bool false,.slice none 0 0,.int .i64 0,.bool false,.slice none 0 0,.int .i64 0] 73)) :
 Below w.heap.size w W/\W.heap.size=w.heap.size+2/\Rq W w.heap.size n v e m u f/\Rq W (w.heap.size+1) false (.slice none 0 0) 0 false (.slice none 0 0) 0:=by
 rw [hW];refine ⟨(ae w _).alloc (by simp) _,by simp,(Rq.new _ _ _ _ _ _ _).alloc _,?_⟩;have:=Rq.new (w.alloc (.cells #[.bool n,v,.int .i64 e,.bool m,u,.int .i64 f] 73)) false (.slice none 0 0) 0 false (.slice none 0 0) 0;simpa using this
theorem Tf {w:World}{a b:Option Addr}{la ca lb cb:Nat}(n m:Bool) (e f:Int) (n1 m1:Bool) (X Y:Nat) (e1 f1:Int) (lX:(ws X).length<=8192) (lY:(ws Y).length<=8192)
 (H1:Hid (∀ u,Below w.heap.size w u->Calls Tryz.prog 98 #[.bool n,.slice a la ca,.int .i64 e] u fun r w'=>(∃ v,r=.returned (.tuple #[.agg #[.bool n1,v,.int .i64 e1],.int .i64 0])/\Nt u.heap.size w' v X)/\Below u.heap.size u w'))
 (H2:Hid (∀ u,Below w.heap.size w u->Calls Tryz.prog 98 #[.bool m,.slice b lb cb,.int .i64 f] u fun r w'=>(∃ v,r=.returned (.tuple #[.agg #[.bool m1,v,.int .i64 f1],.int .i64 0])/\Nt u.heap.size w' v Y)/\Below u.heap.size u w')) :
 Calls Tryz.prog 160 #[.agg #[.bool n,.slice a la ca,.int .i64 e,.bool m,.slice b lb cb,.int .i64 f]] w fun r w'=>(∃ v u,r=.returned (.tuple #[.agg #[.bool n1,v,.int .i64 e1,.bool m1,u,.int .i64 f1],.int .i64 0])/\Nt w.heap.size w' v X/\Nt w.heap.size w' u Y/\Ap v u)/\Below w.heap.size w w':=by
 obtain ⟨W1,hW1⟩:=af ((w.alloc (.cells #[.bool n,.slice a la ca,.int .i64 e,.bool m,.slice b lb cb,.int .i64 f] 73)).alloc (.cells #[.bool false,.slice none 0 0,.int .i64 0,.bool false,.slice none 0 0,.int .i64 0] 73));obtain ⟨hB,hz1,RQ,RR⟩:=qy w n _ e m _ f W1 hW1;have hs2:w.heap.size+2<=W1.heap.size:=by omega
 have hbel:=hB;have S0:=(cK hbel RQ RR);clear hbel;clear hB RQ RR hz1;go_enter Tryz.func160,Tryz.ntmps160;obtain ⟨x0,x1,x2,x3,x4,x5⟩:=S0.o.2.1.facts;obtain ⟨au,RQ,RR⟩:=S0.o;have HC:=hid (H1.o W1 au);clear au RQ RR
 go_upto_region 1 with fail
 rw [<-hW1];clear hW1;go_wp2_with fail;clear x0 x1 x2 x3 x4 x5;refine HC.o.mono ?_;rintro r u1 ⟨⟨v,rfl,hN⟩,hb⟩;obtain ⟨a1,c1,rfl,_⟩:=hN.arg (by omega);clear HC;obtain ⟨au,RQ,RR⟩:=S0.o;have hbn:=au.trans (hb.mono au.size);have S1:=fF hbn (RQ.below hb) (RR.below hb) (hN.mono au.size);clear au RQ RR;clear hb hbn S0;clear hN;obtain ⟨U1,aP⟩:=af (u1.alloc (.cells #[.bool n1,.slice a1 (ws X).length c1,.int .i64 e1] 37));obtain ⟨au,RQ,RR,NX⟩:=S1.o;have iR:Below u1.heap.size u1 U1:=by rw [aP];exact ae _ _
 have TN:Tk U1 u1.heap.size 37 (.bool n1) (.slice a1 (ws X).length c1) (.int .i64 e1):=by rw [aP];exact Tk.new _ _ _ _ _
 have hbn:=au.trans (iR.mono au.size);have hgu:w.heap.size+2<=u1.heap.size:=by have:=RR.lt;omega
 have S2:=dK hbn (RQ.below iR) (RR.below iR) (NX.below iR) TN;obtain ⟨x0,x1,x2,x3,x4,x5⟩:=(RQ.below iR).facts;clear au RQ RR NX;clear iR hbn TN S1 H1;obtain ⟨au,RQ,RR,NX,TN⟩:=S2.o;have HC:=hid (H2.o U1 au);clear au RQ RR NX TN
 go_upto_region 4 with fail
 rw [<-aP];clear aP;go_wp2_with fail;clear x0 x1 x2 x3 x4 x5;refine HC.o.mono ?_;rintro r u3 ⟨⟨v,rfl,hN⟩,hb⟩;obtain ⟨a2,c2,rfl,_⟩:=hN.arg (by omega);clear HC;obtain ⟨au,RQ,RR,NX,TN⟩:=S2.o;have hbn:=au.trans (hb.mono au.size);have S3:=lZ hbn (RQ.below hb) (RR.below hb) (NX.below hb) (TN.below hb) (hN.mono au.size) (NX.ap hN);clear au RQ RR NX TN;clear hb hbn S2;clear hN;obtain ⟨U3,xZ⟩:=af (u3.alloc (.cells #[.bool m1,.slice a2 (ws Y).length c2,.int .i64 f1] 37));obtain ⟨au,RQ,RR,NX,TN,NY,AP⟩:=S3.o;have iR:Below u3.heap.size u3 U3:=by rw [xZ];exact ae _ _
 have TD:Tk U3 u3.heap.size 37 (.bool m1) (.slice a2 (ws Y).length c2) (.int .i64 f1):=by rw [xZ];exact Tk.new _ _ _ _ _
 have hbn:=au.trans (iR.mono au.size);have SZ:=dK hbn (RR.below iR) (NX.below iR) (NY.below iR) AP;obtain ⟨x0,x1,x2,_,_,_⟩:=(TN.below iR).facts;obtain ⟨y0,y1,y2,_,_,_⟩:=TD.facts;obtain ⟨r0,r1,r2,r3,r4,r5⟩:=(RR.below iR).facts;obtain ⟨gF,gG,gH,XD,rf4,rf5⟩:=(RR.below iR).frz;clear au RQ RR NX TN NY AP;clear iR hbn TD S3 H2
 go_upto_region 5 with fail
 rw [<-xZ];clear xZ;go_wp2;obtain ⟨au,RR,NX,NY,AP⟩:=SZ.o;have hbl:=au.size;refine aC (xg _ (w.heap.size+1) n1 (.slice a1 (ws X).length c1) e1 m1 (.slice a2 (ws Y).length c2) f1 0 _ rfl rfl (RR.set _ _ _ _ _ _)) rfl ⟨⟨_,_,rfl,NX.YU RR _ _ _ _ _ _,NY.YU RR _ _ _ _ _ _,AP⟩,tO au hbl (by omega) _ _ _ _ _ _⟩
theorem Lh {w:World}{a b:Option Addr}{la ca lb cb:Nat}(n m:Bool) (e f:Int) (n1 m1:Bool) (X Y:Nat) (e1 f1:Int) (lX:(ws X).length<=8192) (lY:(ws Y).length<=8192)
 (H1:Hid (∀ u,Below w.heap.size w u->Calls Tryz.prog 98 #[.bool n,.slice a la ca,.int .i64 e] u fun r w'=>(∃ v,r=.returned (.tuple #[.agg #[.bool n1,v,.int .i64 e1],.int .i64 2])/\Nt u.heap.size w' v X)/\Below u.heap.size u w'))
  :
 Calls Tryz.prog 160 #[.agg #[.bool n,.slice a la ca,.int .i64 e,.bool m,.slice b lb cb,.int .i64 f]] w fun r w'=>(∃ v u,r=.returned (.tuple #[.agg #[.bool false,v,.int .i64 0,.bool false,u,.int .i64 0],.int .i64 2])/\v=.slice none 0 0/\u=.slice none 0 0)/\Below w.heap.size w w':=by
 obtain ⟨W1,hW1⟩:=af ((w.alloc (.cells #[.bool n,.slice a la ca,.int .i64 e,.bool m,.slice b lb cb,.int .i64 f] 73)).alloc (.cells #[.bool false,.slice none 0 0,.int .i64 0,.bool false,.slice none 0 0,.int .i64 0] 73));obtain ⟨hB,hz1,RQ,RR⟩:=qy w n _ e m _ f W1 hW1;have hs2:w.heap.size+2<=W1.heap.size:=by omega
 have hbel:=hB;have S0:=(cK hbel RQ RR);clear hbel;clear hB RQ RR hz1;go_enter Tryz.func160,Tryz.ntmps160;obtain ⟨x0,x1,x2,x3,x4,x5⟩:=S0.o.2.1.facts;obtain ⟨au,RQ,RR⟩:=S0.o;have HC:=hid (H1.o W1 au);clear au RQ RR
 go_upto_region 1 with fail
 rw [<-hW1];clear hW1;go_wp2_with fail;clear x0 x1 x2 x3 x4 x5;refine HC.o.mono ?_;rintro r u1 ⟨⟨v,rfl,hN⟩,hb⟩;obtain ⟨a1,c1,rfl,_⟩:=hN.arg (by omega);clear HC;obtain ⟨au,RQ,RR⟩:=S0.o;have hbn:=au.trans (hb.mono au.size);have S1:=cK hbn (RQ.below hb) (RR.below hb);clear au RQ RR;clear hb hbn S0;clear hN;obtain ⟨U1,aP⟩:=af (u1.alloc (.cells #[.bool n1,.slice a1 (ws X).length c1,.int .i64 e1] 37));obtain ⟨au,RQ,RR⟩:=S1.o;have iR:Below u1.heap.size u1 U1:=by rw [aP];exact ae _ _
 have hlast:=aK (au.trans (iR.mono au.size)) (RR.below iR);obtain ⟨r0,r1,r2,r3,r4,r5⟩:=(RR.below iR).facts;obtain ⟨gF,gG,gH,XD,rf4,rf5⟩:=(RR.below iR).frz;clear au RQ RR;clear S1 H1 iR
 go_upto_region 2 with fail
 rw [<-aP];clear aP;go_wp2;obtain ⟨au,RR⟩:=hlast.o;exact aC (xg _ (w.heap.size+1) false (.slice none 0 0) 0 false (.slice none 0 0) 0 2 _ rfl rfl (RR.set _ _ _ _ _ _)) rfl ⟨⟨_,_,rfl,rfl,rfl⟩,tO au au.size (by omega) _ _ _ _ _ _⟩
theorem Li {w:World}{a b:Option Addr}{la ca lb cb:Nat}(n m:Bool) (e f:Int) (n1 m1:Bool) (X Y:Nat) (e1 f1:Int) (lX:(ws X).length<=8192) (lY:(ws Y).length<=8192)
 (H1:Hid (∀ u,Below w.heap.size w u->Calls Tryz.prog 98 #[.bool n,.slice a la ca,.int .i64 e] u fun r w'=>(∃ v,r=.returned (.tuple #[.agg #[.bool n1,v,.int .i64 e1],.int .i64 0])/\Nt u.heap.size w' v X)/\Below u.heap.size u w'))
 (H2:Hid (∀ u,Below w.heap.size w u->Calls Tryz.prog 98 #[.bool m,.slice b lb cb,.int .i64 f] u fun r w'=>(∃ v,r=.returned (.tuple #[.agg #[.bool m1,v,.int .i64 f1],.int .i64 2])/\Nt u.heap.size w' v Y)/\Below u.heap.size u w')) :
 Calls Tryz.prog 160 #[.agg #[.bool n,.slice a la ca,.int .i64 e,.bool m,.slice b lb cb,.int .i64 f]] w fun r w'=>(∃ v u,r=.returned (.tuple #[.agg #[.bool false,v,.int .i64 0,.bool false,u,.int .i64 0],.int .i64 2])/\v=.slice none 0 0/\u=.slice none 0 0)/\Below w.heap.size w w':=by
 obtain ⟨W1,hW1⟩:=af ((w.alloc (.cells #[.bool n,.slice a la ca,.int .i64 e,.bool m,.slice b lb cb,.int .i64 f] 73)).alloc (.cells #[.bool false,.slice none 0 0,.int .i64 0,.bool false,.slice none 0 0,.int .i64 0] 73));obtain ⟨hB,hz1,RQ,RR⟩:=qy w n _ e m _ f W1 hW1;have hs2:w.heap.size+2<=W1.heap.size:=by omega
 have hbel:=hB;have S0:=(cK hbel RQ RR);clear hbel;clear hB RQ RR hz1;go_enter Tryz.func160,Tryz.ntmps160;obtain ⟨x0,x1,x2,x3,x4,x5⟩:=S0.o.2.1.facts;obtain ⟨au,RQ,RR⟩:=S0.o;have HC:=hid (H1.o W1 au);clear au RQ RR
 go_upto_region 1 with fail
 rw [<-hW1];clear hW1;go_wp2_with fail;clear x0 x1 x2 x3 x4 x5;refine HC.o.mono ?_;rintro r u1 ⟨⟨v,rfl,hN⟩,hb⟩;obtain ⟨a1,c1,rfl,_⟩:=hN.arg (by omega);clear HC;obtain ⟨au,RQ,RR⟩:=S0.o;have hbn:=au.trans (hb.mono au.size);have S1:=fF hbn (RQ.below hb) (RR.below hb) (hN.mono au.size);clear au RQ RR;clear hb hbn S0;clear hN;obtain ⟨U1,aP⟩:=af (u1.alloc (.cells #[.bool n1,.slice a1 (ws X).length c1,.int .i64 e1] 37));obtain ⟨au,RQ,RR,NX⟩:=S1.o;have iR:Below u1.heap.size u1 U1:=by rw [aP];exact ae _ _
 have TN:Tk U1 u1.heap.size 37 (.bool n1) (.slice a1 (ws X).length c1) (.int .i64 e1):=by rw [aP];exact Tk.new _ _ _ _ _
 have hbn:=au.trans (iR.mono au.size);have hgu:w.heap.size+2<=u1.heap.size:=by have:=RR.lt;omega
 have S2:=dK hbn (RQ.below iR) (RR.below iR) (NX.below iR) TN;obtain ⟨x0,x1,x2,x3,x4,x5⟩:=(RQ.below iR).facts;clear au RQ RR NX;clear iR hbn TN S1 H1;obtain ⟨au,RQ,RR,NX,TN⟩:=S2.o;have HC:=hid (H2.o U1 au);clear au RQ RR NX TN
 go_upto_region 4 with fail
 rw [<-aP];clear aP;go_wp2_with fail;clear x0 x1 x2 x3 x4 x5;refine HC.o.mono ?_;rintro r u3 ⟨⟨v,rfl,hN⟩,hb⟩;obtain ⟨a2,c2,rfl,_⟩:=hN.arg (by omega);clear HC;obtain ⟨au,RQ,RR,NX,TN⟩:=S2.o;have hbn:=au.trans (hb.mono au.size);have S3:=dK hbn (RQ.below hb) (RR.below hb) (NX.below hb) (TN.below hb);clear au RQ RR NX TN;clear hb hbn S2;clear hN;obtain ⟨U3,xZ⟩:=af (u3.alloc (.cells #[.bool m1,.slice a2 (ws Y).length c2,.int .i64 f1] 37));obtain ⟨au,RQ,RR,NX,TN⟩:=S3.o;have iR:Below u3.heap.size u3 U3:=by rw [xZ];exact ae _ _
 have hlast:=aK (au.trans (iR.mono au.size)) (RR.below iR);obtain ⟨r0,r1,r2,r3,r4,r5⟩:=(RR.below iR).facts;obtain ⟨gF,gG,gH,XD,rf4,rf5⟩:=(RR.below iR).frz;clear au RQ RR NX TN;clear S3 H2 iR
 go_upto_region 5 with fail
 rw [<-xZ];clear xZ;go_wp2;obtain ⟨au,RR⟩:=hlast.o;exact aC (xg _ (w.heap.size+1) false (.slice none 0 0) 0 false (.slice none 0 0) 0 2 _ rfl rfl (RR.set _ _ _ _ _ _)) rfl ⟨⟨_,_,rfl,rfl,rfl⟩,tO au au.size (by omega) _ _ _ _ _ _⟩
theorem Y5:(Tryz.prog.info? 73).map (fun i=>(i.zero,i.size,i.bytes))=some (some (.agg #[.bool false,.slice none 0 0,.int .i64 0,.bool false,.slice none 0 0,.int .i64 0]),6,80):=by kernel_rfl
theorem Bi (w:World) :
 (Instr.makeSlice 130 (.int .i64 1) (.int .i64 1)).run Tryz.prog w=.ok (.slice (some ⟨w.heap.size,0,none⟩) 1 1) (w.alloc (.cells #[.bool false,.slice none 0 0,.int .i64 0,.bool false,.slice none 0 0,.int .i64 0] 73)):=by
 have h:=Y5;have e:IntKind.i64.wrap 1=1:=by decide
 cases hq:Tryz.prog.info? 73 with
 | none=>rw [hq] at h;simp at h
 | some i =>
   rw [hq] at h;simp at h;simp [Instr.makeSlice,go_sem,Tryz.underlying130,hq,h,typeInfo,e]
structure Ri where
 n:Bool
 v:Value
 X:Nat
 e:Int
 m:Bool
 u:Value
 Y:Nat
 f:Int
def Av (w:World) (v:Value) (X:Nat):Prop:=∃ a l c xs,v=.slice a l c/\Arg w a l c xs/\val xs=X
theorem Av.below {w w':World}{v:Value}{X:Nat}(h:Av w v X) (hb:Below w.heap.size w w'):Av w' v X:=by
 obtain ⟨a,l,c,xs,rfl,hA,hv⟩:=h;exact ⟨a,l,c,xs,rfl,hA.below hb,hv⟩
theorem Nt.av {lo:Nat}{w:World}{v:Value}{X:Nat}(h:Nt lo w v X) (hs:(ws X).length<=35184372088832):Av w v X:=by
 obtain ⟨a,c,rfl,hA⟩:=h.arg hs;exact ⟨a,_,c,_,rfl,hA,ah X⟩
def Bj (w:World) (g k:Nat) (I:Nat->Ri):Prop:=∃ cur:Array Value,w.heap[g]?=some (.cells cur 73 (0,0))/\∀ i,i<k->cur[i*6]?=some (.bool (I i).n)/\cur[i*6+1]?=some (I i).v/\cur[i*6+2]?=some (.int .i64 (I i).e)/\cur[i*6+3]?=some (.bool (I i).m)/\cur[i*6+4]?=some (I i).u/\cur[i*6+5]?=some (.int .i64 (I i).f)
theorem Bj.lt {w:World}{g k:Nat}{I:Nat->Ri}(h:Bj w g k I):g<w.heap.size:=by obtain ⟨c,h,_⟩:=h;exact (fP.1 h).1
theorem Bj.below {w w':World}{g k:Nat}{I:Nat->Ri}(h:Bj w g k I) (hb:Below w.heap.size w w'):Bj w' g k I:=by
 have hl:=h.lt;obtain ⟨c,h,r⟩:=h;exact ⟨c,by rw [hb.block g hl];exact h,r⟩
theorem Bj.facts {w:World}{g k:Nat}{I:Nat->Ri}(h:Bj w g k I) (i:Nat) (hi:i<k) :
 w.cell? ⟨g,i*6,none⟩=some (.bool (I i).n)/\w.cell? ⟨g,i*6+1,none⟩=some (I i).v/\w.cell? ⟨g,i*6+2,none⟩=some (.int .i64 (I i).e)/\w.cell? ⟨g,i*6+3,none⟩=some (.bool (I i).m)/\w.cell? ⟨g,i*6+4,none⟩=some (I i).u/\w.cell? ⟨g,i*6+5,none⟩=some (.int .i64 (I i).f):=by
 obtain ⟨c,h,r⟩:=h;obtain ⟨r0,r1,r2,r3,r4,r5⟩:=r i hi;simp [World.cell?,h,r0,r1,r2,r3,r4,r5]
def iJ (I:Nat->Ri) (k:Nat):Int :=
 if (List.range k).any (fun i=>decide (rF (I i).m (I i).Y<0)) then 1
 else if (List.range k).any (fun i=>!((mkS (I i).n (I i).X (I i).e).isSome&&(mkS (I i).m (I i).Y (I i).f).isSome)) then 2
 else if (List.range k).any (fun i=>decide (dX (mkS (I i).m (I i).Y (I i).f)=0)) then 21 else 0
theorem Gs {k i:Nat}{p:Nat->Bool}(hi:i<k) (h:p i=true):(List.range k).any p=true:=List.any_eq_true.2 ⟨i,List.mem_range.2 hi,h⟩
theorem tQ {k:Nat}{p:Nat->Bool}(h:∀ i,i<k->p i=false):(List.range k).any p=false:=by
 rw [List.any_eq_false];intro i hi;rw [h i (List.mem_range.1 hi)];simp
structure Y6 (w:World) (g k:Nat) (I:Nat->Ri):Prop where
 row:Bj w g k I
 one:∀ i,i<k->Av w (I i).v (I i).X/\Av w (I i).u (I i).Y
 mK:∀ i,i<k->-9223372036854775808<=(I i).e/\(I i).e<=9223372036854775807/\-9223372036854775808<=(I i).f/\(I i).f<=9223372036854775807
 tab:dF w
theorem Y6.below {w w':World}{g k:Nat}{I:Nat->Ri}(h:Y6 w g k I) (hb:Below w.heap.size w w'):Y6 w' g k I :=
 ⟨h.row.below hb,fun i hi=>⟨(h.one i hi).1.below hb,(h.one i hi).2.below hb⟩,h.mK,h.tab.belows hb⟩
def uW (I:Nat->Ri) (V:Nat->Value×Value) (i:Nat):Ri :=
 ⟨dN (mkS (I i).n (I i).X (I i).e),(V i).1,dX (mkS (I i).n (I i).X (I i).e),dE (mkS (I i).n (I i).X (I i).e),dN (mkS (I i).m (I i).Y (I i).f),(V i).2,dX (mkS (I i).m (I i).Y (I i).f),dE (mkS (I i).m (I i).Y (I i).f)⟩
structure Lj (lo:Nat) (w:World) (g k:Nat) (I:Nat->Ri) (V:Nat->Value×Value):Prop where
 row:Bj w g k (uW I V)
 own:lo<=g
 XG:∀ i,i<k->Nt lo w (V i).1 (dX (mkS (I i).n (I i).X (I i).e))/\Nt lo w (V i).2 (dX (mkS (I i).m (I i).Y (I i).f))
theorem Lj.below {lo:Nat}{w w':World}{g k:Nat}{I:Nat->Ri}{V:Nat->Value×Value}(h:Lj lo w g k I V) (hb:Below w.heap.size w w'):Lj lo w' g k I V :=
 ⟨h.row.below hb,h.own,fun i hi=>⟨(h.XG i hi).1.below hb,(h.XG i hi).2.below hb⟩⟩
abbrev O6 (w:World) (g o:Nat) (a b c d e f:Value):World:=(((((w.setCell ⟨g,o,none⟩ a).setCell ⟨g,o+1,none⟩ b).setCell ⟨g,o+2,none⟩ c).setCell ⟨g,o+3,none⟩ d).setCell ⟨g,o+4,none⟩ e).setCell ⟨g,o+5,none⟩ f
theorem ow (g o:Nat) (w:World) (a b c d e f:Value):But g w (O6 w g o a b c d e f):=((((((But.refl g w).set _ _).set _ _).set _ _).set _ _).set _ _).set _ _
theorem Bn {w:World}{g T:Nat}{cur:Array Value}{fz:Nat×Nat}(h:w.heap[g]?=some (.cells cur T fz)) (o:Nat) (v:Value):(w.setCell ⟨g,o,none⟩ v).heap[g]?=some (.cells (cur.setIfInBounds o v) T fz):=by
 simp [World.setCell,jW,h]
theorem Gt {w:World}{g T:Nat}{cur:Array Value}{fz:Nat×Nat}(h:w.heap[g]?=some (.cells cur T fz)) (o:Nat) (a b c d e f:Value) (ho:o+5<cur.size) :
 ∃ cur',(O6 w g o a b c d e f).heap[g]?=some (.cells cur' T fz)/\cur'.size=cur.size/\(cur'[o]?=some a/\cur'[o+1]?=some b/\cur'[o+2]?=some c/\cur'[o+3]?=some d/\cur'[o+4]?=some e/\cur'[o+5]?=some f)/\∀ j,(j<o\/o+5<j)->cur'[j]?=cur[j]?:=by
 refine ⟨_,Bn (Bn (Bn (Bn (Bn (Bn h o a) (o+1) b) (o+2) c) (o+3) d) (o+4) e) (o+5) f,by simp,?_,?_⟩
 · simp [yM];omega
 · intro j hj;have n0:o≠j:=by omega
   have n1:o+1≠j:=by omega
   have n2:o+2≠j:=by omega
   have n3:o+3≠j:=by omega
   have n4:o+4≠j:=by omega
   have n5:o+5≠j:=by omega
   simp [yM,n0,n1,n2,n3,n4,n5]
structure kY (lo:Nat) (w:World) (g k i:Nat) (I:Nat->Ri) (V:Nat->Value×Value):Prop where
 row:∃ cur:Array Value,w.heap[g]?=some (.cells cur 73 (0,0))/\cur.size=6*k/\∀ j,j<i->cur[j*6]?=some (.bool (uW I V j).n)/\cur[j*6+1]?=some (uW I V j).v/\cur[j*6+2]?=some (.int .i64 (uW I V j).e)/\cur[j*6+3]?=some (.bool (uW I V j).m)/\cur[j*6+4]?=some (uW I V j).u/\cur[j*6+5]?=some (.int .i64 (uW I V j).f)
 own:lo<=g
 XG:∀ j,j<i->Nt lo w (V j).1 (dX (mkS (I j).n (I j).X (I j).e))/\Nt lo w (V j).2 (dX (mkS (I j).m (I j).Y (I j).f))
theorem kY.lt {lo:Nat}{w:World}{g k i:Nat}{I:Nat->Ri}{V:Nat->Value×Value}(h:kY lo w g k i I V):g<w.heap.size:=by obtain ⟨c,h,_⟩:=h.row;exact (fP.1 h).1
theorem kY.below {lo:Nat}{w w':World}{g k i:Nat}{I:Nat->Ri}{V:Nat->Value×Value}(h:kY lo w g k i I V) (hb:Below w.heap.size w w'):kY lo w' g k i I V:=by
 have hl:=h.lt;obtain ⟨⟨c,h1,r⟩,h2,h3⟩:=h;exact ⟨⟨c,by rw [hb.block g hl];exact h1,r⟩,h2,fun j hj=>⟨(h3 j hj).1.below hb,(h3 j hj).2.below hb⟩⟩
theorem kY.room {lo:Nat}{w:World}{g k i:Nat}{I:Nat->Ri}{V:Nat->Value×Value}(h:kY lo w g k i I V) (j:Nat) (hj:j<6*k):(∃ v,w.cell? ⟨g,j,none⟩=some v)/\w.frozen? ⟨g,j,none⟩=false:=by
 obtain ⟨⟨c,h1,hs,r⟩,h2,h3⟩:=h;refine ⟨⟨c[j]'(by omega),?_⟩,?_⟩
 · simp [World.cell?,h1]
 · simp [World.frozen?,h1]
theorem kY.o {lo:Nat}{w:World}{g k:Nat}{I:Nat->Ri}{V:Nat->Value×Value}(h:kY lo w g k k I V):Lj lo w g k I V:=by
 obtain ⟨⟨c,h1,hs,r⟩,h2,h3⟩:=h;exact ⟨⟨c,h1,r⟩,h2,h3⟩
theorem kY.step {lo:Nat}{w:World}{g k i:Nat}{I:Nat->Ri}{V:Nat->Value×Value}(h:kY lo w g k i I V) (hi:i<k) (v u:Value)
 (hv:Nt lo w v (dX (mkS (I i).n (I i).X (I i).e))) (hu:Nt lo w u (dX (mkS (I i).m (I i).Y (I i).f))) :
 ∃ V',kY lo (O6 w g (i*6) (.bool (dN (mkS (I i).n (I i).X (I i).e))) v (.int .i64 (dE (mkS (I i).n (I i).X (I i).e))) (.bool (dN (mkS (I i).m (I i).Y (I i).f))) u (.int .i64 (dE (mkS (I i).m (I i).Y (I i).f)))) g k (i+1) I V':=by
 obtain ⟨⟨c,h1,hs,r⟩,h2,h3⟩:=h;obtain ⟨c',k1,k2,k3,k4⟩:=Gt h1 (i*6) (.bool (dN (mkS (I i).n (I i).X (I i).e))) v (.int .i64 (dE (mkS (I i).n (I i).X (I i).e))) (.bool (dN (mkS (I i).m (I i).Y (I i).f))) u (.int .i64 (dE (mkS (I i).m (I i).Y (I i).f))) (by omega);refine ⟨fun j=>if j=i then (v,u) else V j,⟨c',k1,by omega,fun j hj=>?_⟩,h2,fun j hj=>?_⟩
 · by_cases e:j=i
   · subst e;simp only [uW,if_true];exact k3
   · have:=r j (by omega);rw [k4 _ (by omega),k4 _ (by omega),k4 _ (by omega),k4 _ (by omega),k4 _ (by omega),k4 _ (by omega)];simp only [uW,if_neg e] at this |-;exact this
 · by_cases e:j=i
   · subst e;simp only [if_true];exact ⟨hv.off (ow _ _ _ _ _ _ _ _ _) (hv.jy (by decide) h1),hu.off (ow _ _ _ _ _ _ _ _ _) (hu.jy (by decide) h1)⟩
   · simp only [if_neg e];obtain ⟨q1,q2⟩:=h3 j (by omega);exact ⟨q1.off (ow _ _ _ _ _ _ _ _ _) (q1.jy (by decide) h1),q2.off (ow _ _ _ _ _ _ _ _ _) (q2.jy (by decide) h1)⟩
theorem Y7 {w:World}{n:Bool}{v:Value}{X:Nat}{e:Int}(h:Av w v X):Calls Tryz.prog 42 #[.agg #[.bool n,v,.int .i64 e]] w fun r w'=>r=.returned (.int .i64 (rF n X))/\Below w.heap.size w w':=by
 obtain ⟨a,l,c,xs,rfl,hA,rfl⟩:=h;exact tK hA n e
theorem Y8 {w:World}{r:Ri}(h1:Av w r.v r.X) (h2:Av w r.u r.Y) (hT:dF w) (b0:-9223372036854775808<=r.e) (b1:r.e<=9223372036854775807) (b2:-9223372036854775808<=r.f) (b3:r.f<=9223372036854775807) :
 Calls Tryz.prog 160 #[.agg #[.bool r.n,r.v,.int .i64 r.e,.bool r.m,r.u,.int .i64 r.f]] w fun q w' =>
  (((mkS r.n r.X r.e).isSome&&(mkS r.m r.Y r.f).isSome)=true->∃ v u,q=.returned (.tuple #[.agg #[.bool (dN (mkS r.n r.X r.e)),v,.int .i64 (dE (mkS r.n r.X r.e)),.bool (dN (mkS r.m r.Y r.f)),u,.int .i64 (dE (mkS r.m r.Y r.f))],.int .i64 0])/\Nt w.heap.size w' v (dX (mkS r.n r.X r.e))/\Nt w.heap.size w' u (dX (mkS r.m r.Y r.f))/\Ap v u) /\
  (((mkS r.n r.X r.e).isSome&&(mkS r.m r.Y r.f).isSome)=false->q=.returned (.tuple #[.agg #[.bool false,.slice none 0 0,.int .i64 0,.bool false,.slice none 0 0,.int .i64 0],.int .i64 2]))/\Below w.heap.size w w':=by
 obtain ⟨n,v,X,e,m,u,Y,f⟩:=r;simp only at *;obtain ⟨a,l,c,xs,rfl,hA,rfl⟩:=h1;obtain ⟨b,k,d,ys,rfl,hB,rfl⟩:=h2;have l1:=aI n (val xs) e;have l2:=aI m (val ys) f;have H1:∀ u,Below w.heap.size w u->Calls Tryz.prog 98 #[.bool n,.slice a l c,.int .i64 e] u fun r w'=>bG u.heap.size w' r (mkS n (val xs) e)/\Below u.heap.size u w':=fun u hu=>gX (hA.below hu) (hT.belows hu) n e b0 b1;have H2:∀ u,Below w.heap.size w u->Calls Tryz.prog 98 #[.bool m,.slice b k d,.int .i64 f] u fun r w'=>bG u.heap.size w' r (mkS m (val ys) f)/\Below u.heap.size u w':=fun u hu=>gX (hB.below hu) (hT.belows hu) m f b2 b3;simp only [bG] at H1 H2;generalize mkS n (val xs) e=o at *;generalize mkS m (val ys) f=p at *
 cases ho:o.isSome with
 | false =>
   have he:nO o=2:=by unfold nO;rw [ho];rfl
   rw [he] at H1;refine (Lh n m e f (dN o) false (dX o) 0 (dE o) 0 l1 (by rw [XF];omega) H1).mono ?_;rintro r w' ⟨⟨v,u,h,rfl,rfl⟩,hb⟩;exact ⟨fun hh=>(by cases hh),fun _=>h,hb⟩
 | true =>
   have he:nO o=0:=by unfold nO;rw [ho];rfl
   rw [he] at H1
   cases hp:p.isSome with
   | false =>
     have he:nO p=2:=by unfold nO;rw [hp];rfl
     rw [he] at H2;refine (Li n m e f (dN o) (dN p) (dX o) (dX p) (dE o) (dE p) l1 l2 H1 H2).mono ?_;rintro r w' ⟨⟨v,u,h,rfl,rfl⟩,hb⟩;exact ⟨fun hh=>(by cases hh),fun _=>h,hb⟩
   | true =>
     have he:nO p=0:=by unfold nO;rw [hp];rfl
     rw [he] at H2;refine (Tf n m e f (dN o) (dN p) (dX o) (dX p) (dE o) (dE p) l1 l2 H1 H2).mono ?_;rintro r w' ⟨⟨v,u,h,hN,hM,hap⟩,hb⟩;exact ⟨fun _=>⟨v,u,h,hN,hM,hap⟩,fun hh=>(by cases hh),hb⟩
theorem O7 (w:World) (g:Nat) (I:Nat->Ri) (h:Y6 w g 1 I) :
 Calls Tryz.prog 125 #[.slice (some ⟨g,0,none⟩) 1 1] w fun r w' =>
  ((iJ I 1≠0/\r=.returned (.tuple #[.slice none 0 0,.int .i64 (iJ I 1)])) \/
   (iJ I 1=0/\∃ g' V,r=.returned (.tuple #[.slice (some ⟨g',0,none⟩) 1 1,.int .i64 0])/\Lj w.heap.size w' g' 1 I V))/\Below w.heap.size w w':=by
 have MK:=Bi;have hH:=ak h;clear h;go_enter Tryz.func125,Tryz.ntmps125;go_wp2_with fail
 go_loopg [15] 1 (fun gk iv wr=>∃ i:Nat,gk+i=1/\iv=.int .i64 (i:Nat)/\Aside (Below w.heap.size w wr/\∀ j,j<i->decide (rF (I j).m (I j).Y<0)=false))
 case atStart=>exact ⟨0,by omega,rfl,aB _ _,fun j hj=>by omega⟩
 case round =>
  obtain ⟨i,hgi,rfl,HR⟩:=hrel
  by_cases hi:i<1
  · have hin:=hH.o.below HR.o.1;obtain ⟨g0,g1,g2,g3,g4,g5⟩:=hin.row.facts i hi;obtain ⟨A1,A2⟩:=hin.one i hi;obtain ⟨n,v,X,e,m,u,Y,f,hI⟩:∃ n v X e m u Y f,I i=⟨n,v,X,e,m,u,Y,f⟩:=⟨_,_,_,_,_,_,_,_,rfl⟩;rw [hI] at g0 g1 g2 g3 g4 g5 A1 A2;simp only at g0 g1 g2 g3 g4 g5 A1 A2;obtain ⟨a1,l1,c1,xs,rfl,-,-⟩:=id A1;obtain ⟨a2,l2,c2,ys,rfl,-,-⟩:=id A2;obtain ⟨U,hU⟩:=af (wr.alloc (.cells #[.bool n,.slice a1 l1 c1,.int .i64 e,.bool m,.slice a2 l2 c2,.int .i64 f] 73));have uH:Below wr.heap.size wr U:=by rw [hU];exact ae _ _
    have RQ:Rq U wr.heap.size n (.slice a1 l1 c1) e m (.slice a2 l2 c2) f:=by rw [hU];exact Rq.new _ _ _ _ _ _ _
    obtain ⟨x0,x1,x2,x3,x4,x5⟩:=RQ.facts;have HC:=hid (Y7 (n:=m) (e:=f) (A2.below uH));obtain ⟨s,hs⟩:∃ s,rF m Y=s:=⟨_,rfl⟩;rw [hs] at HC;have SI:=(dK (HR.o.1.trans (uH.mono HR.o.1.size)) HR.o.2 hI hs hi);clear uH RQ A1 A2 hin HR hI hs;have hli:(i:Int)<1:=by omega
    have hl0:(0:Int)<=(i:Int):=by omega
    go_upto_region 4 with fail
    rw [<-hU];clear hU g0 g1 g2 g3 g4 g5;go_wp2_with fail;clear x0 x1 x2 x3 x4 x5;refine HC.o.mono ?_;rintro r u1 ⟨rfl,hb⟩;have S2:=ak (SI.o.1.trans (hb.mono SI.o.1.size));clear hb HC
    by_cases hneg:s<0
    · have hn:=decide_eq_true hneg;go_wp2_with fail
      go_ret2
      obtain ⟨_,hbef,hI,hs,hi⟩:=SI.o
      have hE:iJ I 1=1:=by
       unfold iJ;rw [if_pos (Gs hi (by rw [hI];simp only;rw [hs];exact decide_eq_true hneg))]
      rw [hE];exact ⟨.inl ⟨by decide,rfl⟩,S2.o⟩
    · have hn:decide (s<0)=false:=decide_eq_false (by omega);go_wp2_with fail;go_roundg (1-(i+1))
      case measure=>omega
      case rel =>
       obtain ⟨_,hbef,hI,hs,hi⟩:=SI.o;refine ⟨i+1,by omega,by go_num,S2.o,fun j hj=>?_⟩
       by_cases hji:j=i
       · subst hji;rw [hI];simp only;rw [hs];exact decide_eq_false (by omega)
       · exact hbef j (by omega)
  · obtain rfl:i=1:=by omega
    obtain ⟨M,hM⟩:=af (wr.alloc (.cells #[.bool false,.slice none 0 0,.int .i64 0,.bool false,.slice none 0 0,.int .i64 0] 73));have hbM:Below wr.heap.size wr M:=by rw [hM];exact ae _ _
    have hpM:kY w.heap.size M wr.heap.size 1 0 I (fun _=>(.slice none 0 0,.slice none 0 0)):=by
     rw [hM];exact ⟨⟨_,gK _ _,rfl,fun j hj=>by omega⟩,HR.o.1.size,fun j hj=>by omega⟩
    have S1:=(cK HR.o.2 hpM (HR.o.1.trans (hbM.mono HR.o.1.size)));obtain ⟨gO,hgO⟩:=af (wr.heap.size);clear HR hbM hpM hi hgi
    go_upto_region 9 with fail
    rw [<-hM];rw [<-hgO] at S1 |-;clear hM hgO
    go_loopg [29] 1 (fun gk iv wr=>∃ i:Nat,gk+i=1/\iv=.int .i64 (i:Nat)/\Aside (Below w.heap.size w wr/\(∀ j,j<i->((mkS (I j).n (I j).X (I j).e).isSome&&(mkS (I j).m (I j).Y (I j).f).isSome)=true)/\∃ V,kY w.heap.size wr gO 1 i I V))
    case atStart=>exact ⟨0,by omega,rfl,S1.o.r2,fun j hj=>by omega,_,S1.o.2.1⟩
    case round =>
     obtain ⟨i,hgi,rfl,HR⟩:=hrel;have SS:=ak S1.o.1;clear S1
     by_cases hi:i<1
     · obtain ⟨au,hbef,V,hP⟩:=HR.o;have hin:=hH.o.below au;obtain ⟨g0,g1,g2,g3,g4,g5⟩:=hin.row.facts i hi;obtain ⟨A1,A2⟩:=hin.one i hi;obtain ⟨b0,b1,b2,b3⟩:=hin.mK i hi;have Z6:=fun (u:World) (hb:Below wr.heap.size wr u)=>Y8 (r:=I i) (A1.below hb) (A2.below hb) ((hin.below hb).tab) b0 b1 b2 b3;obtain ⟨n,v,X,e,m,u,Y,f,hI⟩:∃ n v X e m u Y f,I i=⟨n,v,X,e,m,u,Y,f⟩:=⟨_,_,_,_,_,_,_,_,rfl⟩;rw [hI] at g0 g1 g2 g3 g4 g5 A1 A2 Z6;simp only at g0 g1 g2 g3 g4 g5 A1 A2 Z6;obtain ⟨a1,l1,c1,xs,rfl,-,-⟩:=id A1;obtain ⟨a2,l2,c2,ys,rfl,-,-⟩:=id A2;obtain ⟨U,hU⟩:=af (wr.alloc (.cells #[.bool n,.slice a1 l1 c1,.int .i64 e,.bool m,.slice a2 l2 c2,.int .i64 f] 73));have uH:Below wr.heap.size wr U:=by rw [hU];exact ae _ _
       have RQ:Rq U wr.heap.size n (.slice a1 l1 c1) e m (.slice a2 l2 c2) f:=by rw [hU];exact Rq.new _ _ _ _ _ _ _
       obtain ⟨x0,x1,x2,x3,x4,x5⟩:=RQ.facts;have HC:=hid (Z6 U uH);have lo1:=aI n X e;have lo2:=aI m Y f;obtain ⟨o,ho⟩:∃ o,mkS n X e=o:=⟨_,rfl⟩;obtain ⟨p,hp⟩:∃ p,mkS m Y f=p:=⟨_,rfl⟩;rw [ho,hp] at HC;rw [ho] at lo1;rw [hp] at lo2;have SI:=(lZ (au.trans (uH.mono au.size)) hbef hI ho hp hi (hP.below uH));clear uH RQ A1 A2 hin HR hI ho hp au hbef hP Z6 b0 b1 b2 b3;have hli:(i:Int)<1:=by omega
       have hl0:(0:Int)<=(i:Int):=by omega
       go_upto_region 11 with fail
       rw [<-hU];clear hU g0 g1 g2 g3 g4 g5;go_wp2_with fail;clear x0 x1 x2 x3 x4 x5;refine HC.o.mono ?_;rintro r u1 ⟨h1,h2,hb⟩;clear HC
       cases hok:(o.isSome&&p.isSome) with
       | false =>
         obtain rfl:=h2 hok;have S2:=ak (SI.o.1.trans (hb.mono SI.o.1.size));clear h1 h2 hb;go_wp2_with fail
         go_ret2
         obtain ⟨_,hbef,hI,ho,hp,hi,_⟩:=SI.o
         have hE:iJ I 1=2:=by
          unfold iJ;rw [tQ (p:=fun i=>decide (rF (I i).m (I i).Y<0)) SS.o,if_neg yN,if_pos (Gs hi (by rw [hI];simp only;rw [ho,hp,hok];rfl))]
         rw [hE];exact ⟨.inl ⟨by decide,rfl⟩,S2.o.alloc S2.o.size _⟩
       | true =>
         obtain ⟨v1,v2,rfl,hN,hM2,-⟩:=h1 hok;obtain ⟨p1,q1,rfl,_⟩:=hN.arg (by omega);obtain ⟨p2,q2,rfl,_⟩:=hM2.arg (by omega);obtain ⟨U2,dJ⟩:=af (u1.alloc (.cells #[.bool (dN o),.slice p1 (ws (dX o)).length q1,.int .i64 (dE o),.bool (dN p),.slice p2 (ws (dX p)).length q2,.int .i64 (dE p)] 73));have uH:Below u1.heap.size u1 U2:=by rw [dJ];exact ae _ _
         have RQ:Rq U2 u1.heap.size (dN o) (.slice p1 (ws (dX o)).length q1) (dE o) (dN p) (.slice p2 (ws (dX p)).length q2) (dE p):=by rw [dJ];exact Rq.new _ _ _ _ _ _ _
         obtain ⟨x0,x1,x2,x3,x4,x5⟩:=RQ.facts;have hP2:=(SI.o.r6.below hb).below uH;have hb2:=(SI.o.1.trans (hb.mono SI.o.1.size)).trans (uH.mono (dC SI.o.1.size hb.size));obtain ⟨⟨y0,r0⟩,f0⟩:=hP2.room (i*6) (by omega);obtain ⟨⟨y1,r1⟩,f1⟩:=hP2.room (i*6+1) (by omega);obtain ⟨⟨y2,r2⟩,f2⟩:=hP2.room (i*6+2) (by omega);obtain ⟨⟨y3,r3⟩,f3⟩:=hP2.room (i*6+3) (by omega);obtain ⟨⟨y4,r4⟩,f4⟩:=hP2.room (i*6+4) (by omega);obtain ⟨⟨y5,r5⟩,f5⟩:=hP2.room (i*6+5) (by omega);obtain ⟨W',hW'⟩:∃ W',W'=O6 U2 gO (i*6) (.bool (dN o)) (.slice p1 (ws (dX o)).length q1) (.int .i64 (dE o)) (.bool (dN p)) (.slice p2 (ws (dX p)).length q2) (.int .i64 (dE p)):=⟨_,rfl⟩
         have S3:Aside (Below w.heap.size w W'/\(∀ j,j<i+1->((mkS (I j).n (I j).X (I j).e).isSome&&(mkS (I j).m (I j).Y (I j).f).isSome)=true)/\∃ V,kY w.heap.size W' gO 1 (i+1) I V):=by
          obtain ⟨_,hbef,hI,ho,hp,hi,_⟩:=SI.o;refine ⟨?_,?_,?_⟩
          · rw [hW'];exact But.below hb2 (ow _ _ _ _ _ _ _ _ _) hb2.size hP2.own
          · intro j hj
            by_cases e:j=i
            · subst e;rw [hI];simp only;rw [ho,hp,hok]
            · exact hbef j (by omega)
          · have hsz:=SI.o.1.size;have:=hP2.step hi (.slice p1 (ws (dX o)).length q1) (.slice p2 (ws (dX p)).length q2) (by rw [hI];simp only;rw [ho];exact (hN.below uH).mono hsz) (by rw [hI];simp only;rw [hp];exact (hM2.below uH).mono hsz);rw [hI] at this;simp only at this;rw [ho,hp,<-hW'] at this;exact this
         have neq:u1.heap.size≠gO:=by have:=(SI.o.r6.below hb).lt;omega
         clear h1 h2 hb hN hM2 uH RQ hP2 hb2 SI
         go_upto_region 12 with fail
         rw [<-dJ];clear dJ;go_wp2_with fail;unfold O6 at hW';go_roundg (1-(i+1))
         case measure=>omega
         case rel =>
          refine ⟨i+1,by omega,by go_num,?_⟩
          first | rw [<-hW'] | (rw [hW'] at S3)
          exact S3
     · obtain rfl:i=1:=by omega
       obtain ⟨au,hbef,V,hP⟩:=HR.o;have hO:=hP.o;have S2:=(cK au hbef hO);have hi0:wr=wr:=rfl;clear HR au hbef hP hO hi hgi
       go_upto_region 17 with fail
       go_loopg [49] 1 (fun gk iv wr=>∃ i:Nat,gk+i=1/\iv=.int .i64 (i:Nat)/\Aside (Below w.heap.size w wr/\(∀ j,j<i->decide (dX (mkS (I j).m (I j).Y (I j).f)=0)=false)/\Lj w.heap.size wr gO 1 I V))
       case atStart=>exact ⟨0,by omega,rfl,S2.o.1,fun j hj=>by omega,S2.o.r2⟩
       case round =>
        obtain ⟨i,hgi,rfl,HR⟩:=hrel;have SS2:=ak S2.o.2.1;clear S2
        by_cases hi:i<1
        · obtain ⟨au,hbef,hO⟩:=HR.o;obtain ⟨g0,g1,g2,g3,g4,g5⟩:=hO.row.facts i hi;obtain ⟨A1,A2⟩:=hO.XG i hi;have lo1:=aI (I i).n (I i).X (I i).e;have lo2:=aI (I i).m (I i).Y (I i).f;unfold uW at g0 g1 g2 g3 g4 g5;simp only at g0 g1 g2 g3 g4 g5;obtain ⟨o,ho⟩:∃ o,mkS (I i).n (I i).X (I i).e=o:=⟨_,rfl⟩;obtain ⟨p,hp⟩:∃ p,mkS (I i).m (I i).Y (I i).f=p:=⟨_,rfl⟩;rw [ho] at g0 g2 A1 lo1;rw [hp] at g3 g5 A2 lo2;obtain ⟨v1,hv1⟩:∃ v1,(V i).1=v1:=⟨_,rfl⟩;obtain ⟨v2,hv2⟩:∃ v2,(V i).2=v2:=⟨_,rfl⟩;rw [hv1] at g1 A1;rw [hv2] at g4 A2;obtain ⟨p1,q1,rfl,_⟩:=A1.arg (by omega);obtain ⟨p2,q2,rfl,_⟩:=A2.arg (by omega);obtain ⟨U,hU⟩:=af (wr.alloc (.cells #[.bool (dN o),.slice p1 (ws (dX o)).length q1,.int .i64 (dE o),.bool (dN p),.slice p2 (ws (dX p)).length q2,.int .i64 (dE p)] 73));have uH:Below wr.heap.size wr U:=by rw [hU];exact ae _ _
          have RQ:Rq U wr.heap.size (dN o) (.slice p1 (ws (dX o)).length q1) (dE o) (dN p) (.slice p2 (ws (dX p)).length q2) (dE p):=by rw [hU];exact Rq.new _ _ _ _ _ _ _
          obtain ⟨x0,x1,x2,x3,x4,x5⟩:=RQ.facts;have HC:=hid (Y7 (n:=dN p) (e:=dE p) ((A2.below uH).av (by omega)));obtain ⟨s,hs⟩:∃ s,rF (dN p) (dX p)=s:=⟨_,rfl⟩;rw [hs] at HC;have SI:=(iM (au.trans (uH.mono au.size)) hbef hp hs hi (hO.below uH));clear uH RQ A1 A2 HR ho hp hv1 hv2 hs au hbef hO;have hli:(i:Int)<1:=by omega
          have hl0:(0:Int)<=(i:Int):=by omega
          go_upto_region 19 with fail
          rw [<-hU];clear hU g0 g1 g2 g3 g4 g5;go_wp2_with fail;clear x0 x1 x2 x3 x4 x5;refine HC.o.mono ?_;rintro r u1 ⟨rfl,hb⟩;have S2:=(aK (SI.o.1.trans (hb.mono SI.o.1.size)) (SI.o.r5.below hb));clear hb HC
          by_cases hz:s=0
          · have hn:(s==0)=true:=by simp [hz]
            have hsz:=SI;clear SI;go_wp2_with fail
            go_ret2
            obtain ⟨_,hbef,hp,hs,hi,_⟩:=hsz.o
            have hE:iJ I 1=21:=by
             unfold iJ;rw [tQ (p:=fun i=>decide (rF (I i).m (I i).Y<0)) SS.o,if_neg yN,tQ (p:=fun i=>!((mkS (I i).n (I i).X (I i).e).isSome&&(mkS (I i).m (I i).Y (I i).f).isSome)) (fun j hj=>by rw [SS2.o j hj];rfl),if_neg yN,if_pos (Gs hi (by simp only [hp];exact decide_eq_true (zn.1 (hs.trans hz))))]
            rw [hE];exact ⟨.inl ⟨by decide,rfl⟩,S2.o.1⟩
          · have hn:(s==0)=false:=by simp [hz]
            go_wp2_with fail;go_roundg (1-(i+1))
            case measure=>omega
            case rel =>
             obtain ⟨_,hbef,hp,hs,hi,_⟩:=SI.o;refine ⟨i+1,by omega,by go_num,S2.o.1,fun j hj=>?_,S2.o.2⟩
             by_cases hji:j=i
             · subst hji;rw [hp];exact decide_eq_false (fun h0=>hz (hs.symm.trans (zn.2 h0)))
             · exact hbef j (by omega)
        · obtain rfl:i=1:=by omega
          have S3:=HR;clear HR hi hgi;go_wp2_with fail
          go_ret2
          have hE:iJ I 1=0:=by
           unfold iJ;rw [tQ (p:=fun i=>decide (rF (I i).m (I i).Y<0)) SS.o,if_neg yN,tQ (p:=fun i=>!((mkS (I i).n (I i).X (I i).e).isSome&&(mkS (I i).m (I i).Y (I i).f).isSome)) (fun j hj=>by rw [SS2.o j hj];rfl),if_neg yN,tQ (p:=fun i=>decide (dX (mkS (I i).m (I i).Y (I i).f)=0)) S3.o.2.1,if_neg yN]
          exact ⟨.inr ⟨hE,gO,V,rfl,S3.o.r2⟩,S3.o.1⟩
theorem Dw {I:Nat->Ri}{k:Nat}(h:iJ I k=0) (i:Nat) (hi:i<k):¬ rF (I i).m (I i).Y<0/\(mkS (I i).n (I i).X (I i).e).isSome=true/\(mkS (I i).m (I i).Y (I i).f).isSome=true/\dX (mkS (I i).m (I i).Y (I i).f)≠0:=by
 unfold iJ at h
 split at h
 · omega
 · rename_i h1
   split at h
   · omega
   · rename_i h2
     split at h
     · omega
     · rename_i h3;simp only [Bool.not_eq_true,List.any_eq_false,List.mem_range] at h1 h2 h3;have k1:=h1 i hi;have k2:=h2 i hi;have k3:=h3 i hi;simp at k1 k2 k3;exact ⟨by omega,k2.1,k2.2,k3⟩
theorem xh {n:Bool}{X:Nat}{e:Int}{o:Option (Bool×Nat×Int)}(h:mkS n X e=o) (hs:o.isSome=true):mkS (dN o) (dX o) (dE o)=o:=by
 cases o with
 | none=>cases hs
 | some d =>
   obtain ⟨n1,X1,e1⟩:=d;exact (bJ h).self
theorem IZ {n:Bool}{X:Nat}{e:Int}{o:Option (Bool×Nat×Int)}(h:mkS n X e=o):-1048576<=dE o/\dE o<=1048576:=by
 cases o with
 | none=>exact ⟨by decide,by decide⟩
 | some d =>
   obtain ⟨n1,X1,e1⟩:=d;have:=bJ h;exact ⟨this.down,this.up⟩
structure Rv (w:World) (r:Ri):Prop where
 num:Av w r.v r.X
 den:Av w r.u r.Y
 be:-9223372036854775808<=r.e/\r.e<=9223372036854775807
 bf:-9223372036854775808<=r.f/\r.f<=9223372036854775807
theorem Rv.below {w w':World}{r:Ri}(h:Rv w r) (hb:Below w.heap.size w w'):Rv w' r:=⟨h.num.below hb,h.den.below hb,h.be,h.bf⟩
theorem Y9 (W:World) (r:Ri) (hr:Rv W r) (hT:dF W) (R:World) (hR:R=W.alloc (.cells #[.bool r.n,r.v,.int .i64 r.e,.bool r.m,r.u,.int .i64 r.f] 73)):Y6 R W.heap.size 1 (fun _=>r):=by
 have hb:Below W.heap.size W R:=by rw [hR];exact ae _ _
 refine ⟨⟨_,by rw [hR];exact gK _ _,?_⟩,fun i hi=>⟨hr.num.below hb,hr.den.below hb⟩,fun i hi=>⟨hr.be.1,hr.be.2,hr.bf.1,hr.bf.2⟩,hT.belows hb⟩;intro i hi;obtain rfl:i=0:=by omega
 simp
theorem o9 (w:World) (n:Bool) (v:Value) (e:Int) (m:Bool) (u:Value) (f:Int) (W:World) (hW:W=w.alloc (.cells #[.bool n,v,.int .i64 e,.bool m,u,.int .i64 f] 73)) :
 Below w.heap.size w W/\W.heap.size=w.heap.size+1/\Rq W w.heap.size n v e m u f:=by
 rw [hW];exact ⟨ae w _,by simp,Rq.new _ _ _ _ _ _ _⟩
theorem qu{P:Prop}(h:P:=by
 by_cases hm0:mode<0
 · have d1:=decide_eq_true hm0;go_enter Tryz.func80,Tryz.ntmps80
   go_upto_region 1 with fail
   rw [<-hW1];clear hW1;go_wp2
   go_ret2
   exact ⟨rfl,S0.o⟩
 · have d1:=decide_eq_false hm0;have mG:4<mode:=by omega
   have d2:=decide_eq_true mG;clear hm;go_enter Tryz.func80,Tryz.ntmps80
   go_upto_region 1 with fail
   rw [<-hW1];clear hW1;go_wp2
   go_ret2
   exact ⟨rfl,S0.o⟩):P:=h
theorem ZS{P:Prop}(h:P:=by
 have HF:=hid (O7 R W1.heap.size _ hin);obtain ⟨I,hI⟩:∃ I:Nat->Ri,(fun _=>(⟨n,.slice a la ca,X,e,m,.slice b lb cb,Y,f⟩:Ri))=I:=⟨_,rfl⟩;rw [hI] at HF hANS HW HR;obtain ⟨x0,x1,x2,x3,x4,x5⟩:=Q1.facts;have Tg:=ak hANS;have S0:=(fF (hB.trans (hbR.mono hB.size)) hI ho1 ho2);have d1:decide (mode<0)=false:=decide_eq_false (fun h=>hm (.inl h));have d2:decide (4<mode)=false:=decide_eq_false (fun h=>hm (.inr h));have HM:=ak hm;obtain ⟨g12,nA⟩:∃ g,W1.heap.size=g:=⟨_,rfl⟩;rw [nA] at HF;clear hB hz1 Q1 hin hbR hr hT hANS hI ho1 ho2 hm;go_enter Tryz.func80,Tryz.ntmps80
 go_upto_region 1 with fail
 rw [<-hW1];clear hW1;go_wp2_with fail;rw [<-hR];clear hR nA x0 x1 x2 x3 x4 x5;refine HF.o.mono ?_;rintro r u1 ⟨hor,hb⟩;clear HF;obtain ⟨au,hI,ho1,ho2⟩:=S0.o;have S1:=ak (au.trans (hb.mono au.size));rcases hor with ⟨hne,rfl⟩|⟨h0,g',V,rfl,hO⟩
 · have HA2:=Tg.o;rw [if_neg hne] at HA2;obtain ⟨er,her⟩:∃ er,iJ I 1=er:=⟨_,rfl⟩;rw [her] at hne HA2 |-;have HA3:=ak HA2;have hnb:(er==0)=false:=by simp [hne]
   clear Tg HA2 her hne au hb hI ho1 ho2 S0 HW HR;go_wp2
   go_ret2
   rw [HA3.o];exact ⟨rfl,S1.o⟩
 · have HA2:=Tg.o;rw [if_pos h0] at HA2;obtain ⟨q0,q1,q2,q3,q4,q5⟩:=hO.row.facts 0 (by omega);obtain ⟨N1,N2⟩:=hO.XG 0 (by omega);simp only [eF,dL] at q0 q1 q2 q3 q4 q5;unfold uW at q0 q1 q2 q3 q4 q5;have e0:I 0=⟨n,.slice a la ca,X,e,m,.slice b lb cb,Y,f⟩:=by rw [<-hI]
   rw [e0] at N1 N2;simp only [e0] at q0 q1 q2 q3 q4 q5 N1 N2;have m1:=aI n X e;have m2:=aI m Y f;rw [ho1] at q0 q2 N1 m1;rw [ho2] at q3 q5 N2 m2;obtain ⟨v1,hv1⟩:∃ v1,(V 0).1=v1:=⟨_,rfl⟩;obtain ⟨v2,hv2⟩:∃ v1,(V 0).2=v1:=⟨_,rfl⟩;rw [hv1] at q1 N1;rw [hv2] at q4 N2;obtain ⟨a1,c1,rfl,_⟩:=N1.arg (by omega);obtain ⟨a2,c2,rfl,_⟩:=N2.arg (by omega);have HC:=hid (HW.o u1 _ _ (au.trans (hb.mono au.size)) (N1.mono (by have:=au.size;omega)) (N2.mono (by have:=au.size;omega)) h0);have S2:=(aK h0 HA2);clear Tg HA2 au hb hI ho1 ho2 S0 hO N1 N2 HW h0 hv1 hv2 e0;go_wp2_with fail;clear q0 q1 q2 q3 q4 q5;refine HC.o.mono ?_;rintro r u2 ⟨⟨v,rfl,NZ⟩,hb⟩;obtain ⟨az,cz,rfl,_⟩:=NZ.arg (by omega);clear HC;obtain ⟨U3,xZ⟩:=af (u2.alloc (.cells #[.bool (dN z),.slice az (ws (dX z)).length cz,.int .i64 (dE z)] 37));have iR:Below u2.heap.size u2 U3:=by rw [xZ];exact ae _ _
   have bb:=S1.o.trans (hb.mono S1.o.size);have bc:=bb.trans (iR.mono bb.size)
   by_cases xk:ew=0
   · have TZ:Tk U3 u2.heap.size 37 (.bool (dN z)) (.slice az (ws (dX z)).length cz) (.int .i64 (dE z)):=by rw [xZ];exact Tk.new _ _ _ _ _
     have HD:=hid (HR.o U3 az cz xk HM.o S2.o.1 bc ((NZ.below iR).aR (by omega)).2);obtain ⟨x0,x1,x2,_,_,_⟩:=TZ.facts;have S3:=(aK bc S2.o.2);clear bb bc hb iR NZ TZ S1 S2 HR HM Wy;subst xk
     go_upto_region 7 with fail
     rw [<-xZ];clear xZ;go_wp2_with fail;refine HD.o.mono ?_;rintro r u3 ⟨rfl,hb⟩;have S4:=ak (S3.o.1.trans (hb.mono S3.o.1.size));clear hb HD x0 x1 x2;go_wp2
     go_ret2
     rw [S3.o.2];exact ⟨rfl,S4.o⟩
   · have hnb:(ew==0)=false:=by simp [xk]
     have hA:ANS=(0,ew):=by
      rw [S2.o.2];have:=Wy xk;rw [<-this.1,<-this.2]
     have S3:=(aK bc hA);clear bb bc hb iR NZ S1 S2 HR HM Wy hA xk
     go_upto_region 7 with fail
     rw [<-xZ];clear xZ;go_wp2
     go_ret2
     rw [S3.o.2];exact ⟨rfl,S3.o.1⟩):P:=h
theorem qz {w:World}{n m:Bool}{a b:Option Addr}{la ca lb cb:Nat}{X Y:Nat}{e f:Int}(mode:Int) (hr:Rv w ⟨n,.slice a la ca,X,e,m,.slice b lb cb,Y,f⟩) (hT:dF w)
 (o1 o2 z:Option (Bool×Nat×Int)) (ew:Int) (rw':Nat×Int) (ho1:mkS n X e=o1) (ho2:mkS m Y f=o2) (lz:(ws (dX z)).length<=8192) (Wy:ew≠0->rw'.1=0/\rw'.2=ew)
 (ANS:Nat×Int) (hANS:ANS=if mode<0\/4<mode then (0,1) else if iJ (fun _=>(⟨n,.slice a la ca,X,e,m,.slice b lb cb,Y,f⟩:Ri)) 1=0 then rw' else (0,iJ (fun _=>(⟨n,.slice a la ca,X,e,m,.slice b lb cb,Y,f⟩:Ri)) 1))
 (HW:Hid (∀ (u:World) (p q:Value),Below w.heap.size w u->Nt w.heap.size u p (dX o1)->Nt w.heap.size u q (dX o2)->iJ (fun _=>(⟨n,.slice a la ca,X,e,m,.slice b lb cb,Y,f⟩:Ri)) 1=0->Calls Tryz.prog 81 #[.agg #[.bool (dN o1),p,.int .i64 (dE o1),.bool (dN o2),q,.int .i64 (dE o2)]] u fun r w'=>(∃ v,r=.returned (.tuple #[.agg #[.bool (dN z),v,.int .i64 (dE z)],.int .i64 ew])/\Nt u.heap.size w' v (dX z))/\Below u.heap.size u w'))
 (HR:Hid (∀ (u:World) (p:Option Addr) (q:Nat),ew=0->¬ (mode<0\/4<mode)->iJ (fun _=>(⟨n,.slice a la ca,X,e,m,.slice b lb cb,Y,f⟩:Ri)) 1=0->Below w.heap.size w u->Arg u p (ws (dX z)).length q (ws (dX z))->Calls Tryz.prog 82 #[.agg #[.bool (dN z),.slice p (ws (dX z)).length q,.int .i64 (dE z)],.int .i64 mode] u fun r w'=>r=.returned (.tuple #[.float .f64 rw'.1,.int .i64 rw'.2])/\Below u.heap.size u w')) :
 Calls Tryz.prog 80 #[.agg #[.bool n,.slice a la ca,.int .i64 e,.bool m,.slice b lb cb,.int .i64 f],.int .i64 mode,.func (.func 81) #[] #[],.func (.func 82) #[] #[]] w fun r w'=>r=.returned (.tuple #[.float .f64 ANS.1,.int .i64 ANS.2])/\Below w.heap.size w w':=by
 obtain ⟨W1,hW1⟩:=af (w.alloc (.cells #[.bool n,.slice a la ca,.int .i64 e,.bool m,.slice b lb cb,.int .i64 f] 73));obtain ⟨hB,hz1,Q1⟩:=o9 w n _ e m _ f W1 hW1
 by_cases hm:mode<0\/4<mode
 · rw [if_pos hm] at hANS;subst hANS;have S0:=ak hB;clear hB hz1 Q1 HW HR hr hT
   exact qu
 · rw [if_neg hm] at hANS;obtain ⟨R,hR⟩:=af (W1.alloc (.cells #[.bool n,.slice a la ca,.int .i64 e,.bool m,.slice b lb cb,.int .i64 f] 73));have hin:=Y9 W1 _ (hr.below hB) (hT.belows hB) R hR;have hbR:Below W1.heap.size W1 R:=by rw [hR];exact ae _ _
   exact ZS
theorem O8 {w:World}{a b:Option Addr}{la ca lb cb:Nat}(n m:Bool) (e f mode:Int) (ANS:Nat×Int)
 (HR:Hid (∀ u:World,Below w.heap.size w u->Calls Tryz.prog 80 #[.agg #[.bool n,.slice a la ca,.int .i64 e,.bool m,.slice b lb cb,.int .i64 f],.int .i64 mode,.func (.func 81) #[] #[],.func (.func 82) #[] #[]] u fun r w'=>r=.returned (.tuple #[.float .f64 ANS.1,.int .i64 ANS.2])/\Below u.heap.size u w')) :
 Calls Tryz.prog 37 #[.agg #[.bool n,.slice a la ca,.int .i64 e,.bool m,.slice b lb cb,.int .i64 f],.int .i64 mode] w fun r w'=>r=.returned (.tuple #[.float .f64 ANS.1,.int .i64 ANS.2])/\Below w.heap.size w w':=by
 obtain ⟨W1,hW1⟩:=af (w.alloc (.cells #[.bool n,.slice a la ca,.int .i64 e,.bool m,.slice b lb cb,.int .i64 f] 73));obtain ⟨hB,hz1,Q1⟩:=o9 w n _ e m _ f W1 hW1;have HC:=hid (HR.o W1 hB);obtain ⟨x0,x1,x2,x3,x4,x5⟩:=Q1.facts;have S0:=ak hB;clear hB hz1 Q1 HR;go_enter Tryz.func37,Tryz.ntmps37
 go_upto_region 1 with fail
 rw [<-hW1];clear hW1;go_wp2_with fail;refine HC.o.mono ?_;rintro r u1 ⟨rfl,hb⟩;have S1:=ak (S0.o.trans (hb.mono S0.o.size));clear hb HC x0 x1 x2 x3 x4 x5;go_wp2
 go_ret2
 exact ⟨rfl,S1.o⟩
theorem jP {w:World}{n m:Bool}{a b:Option Addr}{la ca lb cb:Nat}{X Y:Nat}{e f:Int}(mode:Int) (hr:Rv w ⟨n,.slice a la ca,X,e,m,.slice b lb cb,Y,f⟩) (hT:dF w)
 (o1 o2 z:Option (Bool×Nat×Int)) (ew:Int) (rw':Nat×Int) (ho1:mkS n X e=o1) (ho2:mkS m Y f=o2) (lz:(ws (dX z)).length<=8192) (Wy:ew≠0->rw'.1=0/\rw'.2=ew)
 (ANS:Nat×Int) (hANS:ANS=if mode<0\/4<mode then (0,1) else if iJ (fun _=>(⟨n,.slice a la ca,X,e,m,.slice b lb cb,Y,f⟩:Ri)) 1=0 then rw' else (0,iJ (fun _=>(⟨n,.slice a la ca,X,e,m,.slice b lb cb,Y,f⟩:Ri)) 1))
 (HW:Hid (∀ (u:World) (p q:Value),Below w.heap.size w u->Nt w.heap.size u p (dX o1)->Nt w.heap.size u q (dX o2)->iJ (fun _=>(⟨n,.slice a la ca,X,e,m,.slice b lb cb,Y,f⟩:Ri)) 1=0->Calls Tryz.prog 100 #[.agg #[.bool (dN o1),p,.int .i64 (dE o1),.bool (dN o2),q,.int .i64 (dE o2)]] u fun r w'=>(∃ v,r=.returned (.tuple #[.agg #[.bool (dN z),v,.int .i64 (dE z)],.int .i64 ew])/\Nt u.heap.size w' v (dX z))/\Below u.heap.size u w'))
 (HR:Hid (∀ (u:World) (p:Option Addr) (q:Nat),ew=0->¬ (mode<0\/4<mode)->iJ (fun _=>(⟨n,.slice a la ca,X,e,m,.slice b lb cb,Y,f⟩:Ri)) 1=0->Below w.heap.size w u->Arg u p (ws (dX z)).length q (ws (dX z))->Calls Tryz.prog 82 #[.agg #[.bool (dN z),.slice p (ws (dX z)).length q,.int .i64 (dE z)],.int .i64 mode] u fun r w'=>r=.returned (.tuple #[.float .f64 rw'.1,.int .i64 rw'.2])/\Below u.heap.size u w')) :
 Calls Tryz.prog 80 #[.agg #[.bool n,.slice a la ca,.int .i64 e,.bool m,.slice b lb cb,.int .i64 f],.int .i64 mode,.func (.func 100) #[] #[],.func (.func 82) #[] #[]] w fun r w'=>r=.returned (.tuple #[.float .f64 ANS.1,.int .i64 ANS.2])/\Below w.heap.size w w':=by
 obtain ⟨W1,hW1⟩:=af (w.alloc (.cells #[.bool n,.slice a la ca,.int .i64 e,.bool m,.slice b lb cb,.int .i64 f] 73));obtain ⟨hB,hz1,Q1⟩:=o9 w n _ e m _ f W1 hW1
 by_cases hm:mode<0\/4<mode
 · rw [if_pos hm] at hANS;subst hANS;have S0:=ak hB;clear hB hz1 Q1 HW HR hr hT
   exact qu
 · rw [if_neg hm] at hANS;obtain ⟨R,hR⟩:=af (W1.alloc (.cells #[.bool n,.slice a la ca,.int .i64 e,.bool m,.slice b lb cb,.int .i64 f] 73));have hin:=Y9 W1 _ (hr.below hB) (hT.belows hB) R hR;have hbR:Below W1.heap.size W1 R:=by rw [hR];exact ae _ _
   exact ZS
theorem O9 {w:World}{a b:Option Addr}{la ca lb cb:Nat}(n m:Bool) (e f mode:Int) (ANS:Nat×Int)
 (HR:Hid (∀ u:World,Below w.heap.size w u->Calls Tryz.prog 80 #[.agg #[.bool n,.slice a la ca,.int .i64 e,.bool m,.slice b lb cb,.int .i64 f],.int .i64 mode,.func (.func 100) #[] #[],.func (.func 82) #[] #[]] u fun r w'=>r=.returned (.tuple #[.float .f64 ANS.1,.int .i64 ANS.2])/\Below u.heap.size u w')) :
 Calls Tryz.prog 53 #[.agg #[.bool n,.slice a la ca,.int .i64 e,.bool m,.slice b lb cb,.int .i64 f],.int .i64 mode] w fun r w'=>r=.returned (.tuple #[.float .f64 ANS.1,.int .i64 ANS.2])/\Below w.heap.size w w':=by
 obtain ⟨W1,hW1⟩:=af (w.alloc (.cells #[.bool n,.slice a la ca,.int .i64 e,.bool m,.slice b lb cb,.int .i64 f] 73));obtain ⟨hB,hz1,Q1⟩:=o9 w n _ e m _ f W1 hW1;have HC:=hid (HR.o W1 hB);obtain ⟨x0,x1,x2,x3,x4,x5⟩:=Q1.facts;have S0:=ak hB;clear hB hz1 Q1 HR;go_enter Tryz.func53,Tryz.ntmps53
 go_upto_region 1 with fail
 rw [<-hW1];clear hW1;go_wp2_with fail;refine HC.o.mono ?_;rintro r u1 ⟨rfl,hb⟩;have S1:=ak (S0.o.trans (hb.mono S0.o.size));clear hb HC x0 x1 x2 x3 x4 x5;go_wp2
 go_ret2
 exact ⟨rfl,S1.o⟩
theorem tT (n:Bool) (M:Nat) (E:Int) (hM:M≠0) (hb:bl M<=1001) (h0:-4096<=E) (h1:E<=4096):mkS n M E=some (n,M/2^lo M,E+lo M)/\(M/2^lo M)%2=1/\M=M/2^lo M*2^lo M/\lo M<=1001:=by
 obtain ⟨q,h2,h3,h4⟩:=iD M hM;refine ⟨?_,by omega,by rw [h3,cB];exact h2,by omega⟩;unfold mkS;rw [if_neg hM,if_neg (by omega)]
def mM (n:Bool) (X:Nat) (e:Int) (Y:Nat) (f:Int):Option (Bool×Nat×Int):=mkS n (2*dO X Y 64+(if ou X Y 64 then 0 else 1)) (eu (e-f-lq X Y 64-fB Y 64))
def qA (X:Nat) (e:Int) (Y:Nat) (f:Int):Int:=e-f-lq X Y 129-fB Y 129
def eP (X:Nat) (e:Int) (Y:Nat) (f:Int):Nat:=O0 (dO X Y 129) (qA X e Y f)
theorem xm (W:Nat):∃ r,mY W r:=by
 induction W with
 | zero=>exact ⟨0,by unfold mY;omega⟩
 | succ W ih =>
   obtain ⟨r,h1,h2⟩:=ih
   by_cases h:W+1<(r+1)*(r+1)
   · exact ⟨r,by omega,h⟩
   · refine ⟨r+1,by omega,?_⟩;have:(r+1)*(r+1)<(r+1+1)*(r+1+1):=qO (by omega) (by omega);omega
noncomputable def jh (W:Nat):Nat:=Classical.choose (xm W)
theorem xn (W:Nat):mY W (jh W):=zW (xm W)
def Ti (X:Nat) (e:Int) (Y:Nat) (f:Int):Bool:=UW (dO X Y 129) (qA X e Y f) (ou X Y 129)
noncomputable def Ll (X:Nat) (e:Int) (Y:Nat) (f:Int):Bool:=Ti X e Y f&&decide (eP X e Y f=jh (eP X e Y f)*jh (eP X e Y f))
noncomputable def uI (X:Nat) (e:Int) (Y:Nat) (f:Int):Option (Bool×Nat×Int):=mkS false (2*jh (eP X e Y f)+(if Ll X e Y f then 0 else 1)) (eu (vQ (qA X e Y f)/2))
theorem jd (x:Int):-4096<=eu x/\eu x<=4096:=by unfold eu;omega
theorem xq {R k W:Nat}(h:R*R<=W) (hW:W<2^(2*k)):R<2^k:=by
 rcases kJ R (2^k) with q|q
 · exact q
 · have:=jr q q;rw [<-aJ,show k+k=2*k by omega] at this;omega
theorem Pb {R k W:Nat}(h:W<(R+1)*(R+1)) (hW:2^(2*k)<=W):2^k<=R:=by
 rcases kJ R (2^k) with q|q
 · have:=jr (show R+1<=2^k from q) (show R+1<=2^k from q);rw [<-aJ,show k+k=2*k by omega] at this;omega
 · exact q
theorem Gu (X:Nat) (e:Int) (Y:Nat) (f:Int) (D:OX X Y 129):eP X e Y f<2^130:=by
 have:=D.most;unfold eP O0
 split <;> omega
theorem Wz (X:Nat) (e:Int) (Y:Nat) (f:Int) (D:OX X Y 129) (hX:X≠0):2^(2*63)<=eP X e Y f:=by
 have:=D.least hX;have e1:(2:Nat)^(129-1)=4*2^(2*63):=by decide
 have e2:(1:Nat)<=2^(2*63):=aY _;unfold eP O0
 split <;> omega
theorem Bo {W d k:Nat}(h:W<2^k) (hd:d<=1):bl (2*W+d)<=k+1:=dP (by rw [dM];omega)
theorem oz:OW vK 9218868437227405312:=by
 refine ⟨by decide,?_,fun {k l} h=>UN.2 h,fun k hk=>?_⟩
 · have:=jm 0 0 (.inl rfl) (by omega);simpa using this
 · by_cases h:k<4503599627370496
   · refine ⟨k,0,?_,?_,by omega,by omega⟩
     · have:=jm 0 k (.inl rfl) (by omega);rw [eF,dL] at this;exact this
     · have:=jm 0 (k+1) (.inl rfl) (by omega);rw [eF,dL] at this;exact this
   · obtain ⟨q,hq⟩:∃ q,k/4503599627370496=q:=⟨_,rfl⟩;obtain ⟨g,hg⟩:∃ g,k%4503599627370496=g:=⟨_,rfl⟩;refine ⟨4503599627370496+g,q-1,?_,?_,by omega,by omega⟩
     · have:=jm (q-1) (4503599627370496+g) (.inr (by omega)) (by omega);rw [show (q-1)*4503599627370496+(4503599627370496+g)=k by omega] at this;exact this
     · have:=jm (q-1) (4503599627370496+g+1) (.inr (by omega)) (by omega);rw [show (q-1)*4503599627370496+(4503599627370496+g+1)=k+1 by omega] at this;exact this
theorem Tj {K:Nat}{t:Bool}{m:Int}{V S':Nat}(h:YH K t m V S'):gZ vK 9218868437227405312 1 K t m V S':=by
 refine ⟨h.fin,h.pos,fun ht=>?_,fun ht=>?_,fun ht hl=>?_,fun ht=>?_⟩
 · rw [mo];exact h.one ht
 · rw [mo];exact h.low ht
 · rw [mo] at hl;have:=h.SA ht hl;rw [mo,mo,fE];exact this
 · rw [mo];rcases h.high ht with q|⟨q,r⟩
   · exact .inl q
   · exact .inr ⟨by omega,r⟩
theorem I4 (n:Bool) (M:Nat) (E:Int) (hM:M≠0) (hb:bl M<=1001) (h0:-4096<=E) (h1:E<=4096) :
 ∃ K t m,gZ vK 9218868437227405312 1 K t m (M*2^(E+(1074:Nat)).toNat) (2^(-(E+(1074:Nat))).toNat)/\∀ mode:Int,0<=mode->mode<=4->fD (mkS n M E) mode=(rK mode n K t m+(if n then 9223372036854775808 else 0),0):=by
 obtain ⟨e1,e2,e3,e4⟩:=tT n M E hM hb h0 h1;obtain ⟨M',hM'⟩:∃ M',M/2^lo M=M':=⟨_,rfl⟩;obtain ⟨l,hl⟩:∃ l,lo M=l:=⟨_,rfl⟩;rw [hM',hl] at e1 e3;rw [hM'] at e2;rw [hl] at e4;have hL:=lies M' (E+l) e2 (by omega) (by omega) (min E (-1074)) (by omega) (by omega);refine ⟨Mk M' (E+l),(iW 53 (-1074) 1024 M' (E+l)).2.2.1,(iW 53 (-1074) 1024 M' (E+l)).2.2.2,?_,?_⟩
 · have:=Tj hL;rw [e3]
   have w1:M'*2^(E+(l:Int)-min E (-1074)).toNat=M'*2^l*2^(E+(1074:Nat)).toNat:=by
    rw [aL,<-aJ];congr 2;omega
   have w2:(-1074-min E (-1074)).toNat=(-(E+(1074:Nat))).toNat:=by omega
   rw [w1,w2] at this;exact this
 · intro mode hm0 mG;rw [e1];unfold fD;rw [if_neg (by omega)];simp only;rw [if_neg (by omega),SC]
theorem UZ (n:Bool) (X:Nat) (e:Int) (Y:Nat) (f:Int) (hX:X%2=1) (hY:Y≠0) (bX:bl X<=262144) (bY:bl Y<=262144) :
 ∃ K t m,gZ vK 9218868437227405312 1 K t m (iP X e f 1074 1) (gL Y e f 1074 1)/\∀ mode:Int,0<=mode->mode<=4->fD (mM n X e Y f) mode=(rK mode n K t m+(if n then 9223372036854775808 else 0),0):=by
 have D:=iE X Y 64 (.inr hX) hY (by omega) (by omega) bX bY;have hX0:X≠0:=by omega
 have hW1:=D.least hX0;have hW2:=D.most;have c63:(2:Nat)^(64-1)=9223372036854775808:=by decide
 have sp:=OZ X Y e f 1074 hY D;have hd:(if ou X Y 64 then 0 else 1)<=1:=by split <;> omega
 obtain ⟨K,t,m,hL,hR⟩:=I4 n (2*dO X Y 64+(if ou X Y 64 then 0 else 1)) (eu (e-f-lq X Y 64-fB Y 64)) (by omega) (by have:=Bo hW2 hd;omega) (jd _).1 (jd _).2;refine ⟨K,t,m,hL.Dj oz (by omega) sp.pos ?_,hR⟩;exact uF 1 (dO X Y 64) _ _ _ 1074 _ (by omega) (by omega) (Nat.lt_trans hW2 (by decide)) hd (by omega) (by omega) sp
theorem Pd (X:Nat) (e:Int) (Y:Nat) (f:Int) (hX:X%2=1) (hY:Y≠0) (bX:bl X<=262144) (bY:bl Y<=262144) :
 ∃ K t m,gZ vK 9218868437227405312 2 K t m (iP X e f 1074 2) (gL Y e f 1074 2)/\∀ mode:Int,0<=mode->mode<=4->fD (uI X e Y f) mode=(rK mode false K t m,0):=by
 have D:=iE X Y 129 (.inr hX) hY (by omega) (by omega) bX bY;have hX0:X≠0:=by omega
 have g1:=Wz X e Y f D hX0;have g2:=Gu X e Y f D;obtain ⟨r1,r2⟩:=xn (eP X e Y f);have q1:=Pb r2 g1;have q2:jh (eP X e Y f)<2^65:=xq r1 (by rw [show 2*65=130 by rfl];exact g2);have sp:=Lb X Y e f 1074 (jh (eP X e Y f)) hY D (qA X e Y f) rfl (xn _);have hd:(if Ll X e Y f then 0 else 1)<=1:=by split <;> omega
 have c63:(2:Nat)^63=9223372036854775808:=by decide
 obtain ⟨K,t,m,hL,hR⟩:=I4 false (2*jh (eP X e Y f)+(if Ll X e Y f then 0 else 1)) (eu (vQ (qA X e Y f)/2)) (by omega) (by have:=Bo q2 hd;omega) (jd _).1 (jd _).2;refine ⟨K,t,m,hL.Dj oz (by omega) sp.pos ?_,fun mode h0 h4=>?_⟩
 · exact uF 2 (jh (eP X e Y f)) _ _ _ 1074 _ (by omega) (by omega) (Nat.lt_trans q2 (by decide)) hd (by omega) (by omega) sp
 · have:=hR mode h0 h4;simp only [eY,if_false,gP] at this;exact this
theorem zy (n:Bool) (X:Nat) (e:Int) (Y:Nat) (f:Int) (hX:X=0\/X%2=1) (hY:Y≠0) (bX:bl X<=262144) (bY:bl Y<=262144):(mM n X e Y f).isSome=true:=by
 have D:=iE X Y 64 hX hY (by omega) (by omega) bX bY;have hW2:=D.most;have hd:(if ou X Y 64 then 0 else 1)<=1:=by split <;> omega
 have hb:=Bo hW2 hd;unfold mM
 by_cases hM:2*dO X Y 64+(if ou X Y 64 then 0 else 1)=0
 · rw [hM,eO];rfl
 · rw [(tT n _ _ hM (by omega) (jd _).1 (jd _).2).1];rfl
theorem Dx (X:Nat) (e:Int) (Y:Nat) (f:Int) (hX:X=0\/X%2=1) (hY:Y≠0) (bX:bl X<=262144) (bY:bl Y<=262144):(uI X e Y f).isSome=true:=by
 have D:=iE X Y 129 hX hY (by omega) (by omega) bX bY;have g2:=Gu X e Y f D;obtain ⟨r1,r2⟩:=xn (eP X e Y f);have q2:jh (eP X e Y f)<2^65:=xq r1 (by rw [show 2*65=130 by rfl];exact g2);have hd:(if Ll X e Y f then 0 else 1)<=1:=by split <;> omega
 have hb:=Bo q2 hd;unfold uI
 by_cases hM:2*jh (eP X e Y f)+(if Ll X e Y f then 0 else 1)=0
 · rw [hM,eO];rfl
 · rw [(tT false _ _ hM (by omega) (jd _).1 (jd _).2).1];rfl
theorem xu (Y size:Nat) (hY:Y≠0) (hs0:1<=size) (hs:size<=1000) (bY:bl Y<=262144):dO 0 Y size=0/\ou 0 Y size=true:=by
 have D:=iE 0 Y size (.inl rfl) hY hs0 hs (by rw [dA];omega) bY;have hby:0<=lq 0 Y size:=by unfold lq;rw [dA];omega
 have Za:pJ 0 Y size=0:=by unfold pJ;split <;> simp
 have h1:mH 0 Y size=0:=by unfold mH;rw [Za,Nat.zero_div]
 have h2:pK 0 Y size=0:=by unfold pK;rw [Za,Nat.zero_mod]
 have h3:qx 0 Y size=0:=by unfold qx;rw [h2,eF]
 have h4:oq 0 Y size=0:=by unfold oq;rw [h1,eF]
 refine ⟨?_,?_⟩
 · unfold dO;rw [h3,h4,if_neg (by omega),h1]
 · unfold ou;rw [h3,h4];simp [hby]
theorem Dy (n:Bool) (e:Int) (Y:Nat) (f:Int) (hY:Y≠0) (bY:bl Y<=262144):mM n 0 e Y f=some (false,0,0):=by
 obtain ⟨h1,h2⟩:=xu Y 64 hY (by omega) (by omega) bY;unfold mM;rw [h1,h2];exact eO _ _
theorem xw (e:Int) (Y:Nat) (f:Int) (hY:Y≠0) (bY:bl Y<=262144):uI 0 e Y f=some (false,0,0):=by
 obtain ⟨h1,h2⟩:=xu Y 129 hY (by omega) (by omega) bY;have hW:eP 0 e Y f=0:=by unfold eP O0;rw [h1];split <;> rfl
 have hR:jh 0=0:=by
  have:=(xn 0).1;rcases kG (jh 0) with q|q
  · exact q
  · have:=iA q q;omega
 have hT:Ti 0 e Y f=true:=by unfold Ti UW;rw [h1,h2];split <;> rfl
 have hD:Ll 0 e Y f=true:=by unfold Ll;rw [hT,hW,hR];rfl
 unfold uI;rw [hD,hW,hR];exact eO _ _
theorem Dz {x:Int}(h:x%2=0):(x.tmod 2==0)=true:=by
 have:(2:Int) ∣ x:=Int.dvd_of_emod_eq_zero h;rw [Int.tmod_eq_zero_of_dvd this];rfl
theorem I5 {x:Int}(h:¬ x%2=0):(x.tmod 2==0)=false:=by
 apply beq_eq_false_iff_ne.2;intro k;exact h (Int.emod_eq_zero_of_dvd (Int.dvd_of_tmod_eq_zero k))
theorem Lm {x:Int}(h:x%2=0):x.tdiv 2=x/2:=by
 obtain ⟨k,hk⟩:=Int.dvd_of_emod_eq_zero h;subst hk;rw [Int.mul_tdiv_cancel_left _ (by decide),Int.mul_ediv_cancel_left _ (by decide)]
theorem Pe (x:Int):vQ x%2=0:=by unfold vQ;split <;> omega
theorem xx {w:World}{a b:Option Addr}{ca cb:Nat}(m:Bool) (X Y:Nat) (e f:Int)
 (AX:Arg w a (ws X).length ca (ws X)) (AY:Arg w b (ws Y).length cb (ws Y)) (hT:dF w) (hX:X=0\/X%2=1) (hY:Y≠0)
 (he0:-1048576<=e) (he1:e<=1048576) (hf0:-1048576<=f) (hf1:f<=1048576) (bX:bl X<=262144) (bY:bl Y<=262144) :
 Calls Tryz.prog 100 #[.agg #[.bool false,.slice a (ws X).length ca,.int .i64 e,.bool m,.slice b (ws Y).length cb,.int .i64 f]] w fun r w'=>bG w.heap.size w' r (uI X e Y f)/\Below w.heap.size w w':=by
 have D:=iE X Y 129 hX hY (by omega) (by omega) bX bY;have bW:bl (dO X Y 129)<=130:=dP D.most;have hc:fB Y 129<=129:=by unfold fB;omega
 have hb:-262144<=lq X Y 129/\lq X Y 129<=264000:=by have:=D.UR;unfold lq;omega
 have hx:-10000000<qA X e Y f/\qA X e Y f<10000000:=by unfold qA;omega
 have HD:∀ u,Below w.heap.size w u->Calls Tryz.prog 127 #[.agg #[.bool false,.slice a (ws X).length ca,.int .i64 e,.bool m,.slice b (ws Y).length cb,.int .i64 f],.int .i64 129] u fun r w'=>(∃ v,r=.returned (.agg #[v,.int .i64 (qA X e Y f),.bool (ou X Y 129)])/\Nt u.heap.size w' v (dO X Y 129))/\Below u.heap.size u w':=fun u hu=>zw false m X Y e f 129 (AX.below hu) (AY.below hu) hX hY he0 he1 hf0 hf1 (by omega) (by omega) bX bY;obtain ⟨r1,r2⟩:=xn (eP X e Y f);have g2:=Gu X e Y f D;have q2:jh (eP X e Y f)<2^65:=xq r1 (by rw [show 2*65=130 by rfl];exact g2);have bR:bl (jh (eP X e Y f))<=65:=dP q2;have bW':bl (eP X e Y f)<=130:=dP g2;have bL:bl (eP X e Y f-jh (eP X e Y f)*jh (eP X e Y f))<=262144:=mJ (yK _ _) (by omega)
 have HR:∀ (u:World) (p:Option Addr) (q:Nat),Arg u p (ws (eP X e Y f)).length q (ws (eP X e Y f))->Calls Tryz.prog 146 #[.slice p (ws (eP X e Y f)).length q] u fun r w'=>∃ v v',r=.returned (.tuple #[v,v'])/\Nt u.heap.size w' v (jh (eP X e Y f))/\Nt u.heap.size w' v' (eP X e Y f-jh (eP X e Y f)*jh (eP X e Y f))/\Below u.heap.size u w':=by
  intro u p q hA;exact O1 hA (by rw [ah];exact ⟨r1,r2⟩) (by rw [ah])
 have HL:∀ (u:World) (p:Option Addr) (q:Nat),Arg u p (ws (eP X e Y f-jh (eP X e Y f)*jh (eP X e Y f))).length q (ws (eP X e Y f-jh (eP X e Y f)*jh (eP X e Y f)))->Calls Tryz.prog 86 #[.slice p (ws (eP X e Y f-jh (eP X e Y f)*jh (eP X e Y f))).length q] u fun r w'=>r=.returned (.int .i64 (bl (eP X e Y f-jh (eP X e Y f)*jh (eP X e Y f)):Nat))/\Below u.heap.size u w':=by
  intro u p q hA;exact nu hA (by rw [ah])
 have hz:(bl (eP X e Y f-jh (eP X e Y f)*jh (eP X e Y f))==0)=decide (eP X e Y f=jh (eP X e Y f)*jh (eP X e Y f)):=by
  by_cases h:eP X e Y f=jh (eP X e Y f)*jh (eP X e Y f)
  · rw [decide_eq_true h,show eP X e Y f-jh (eP X e Y f)*jh (eP X e Y f)=0 by omega,dA];rfl
  · rw [decide_eq_false h];have:=dD (eP X e Y f-jh (eP X e Y f)*jh (eP X e Y f)) (by omega);exact beq_eq_false_iff_ne.2 (by omega)
 have hz2:(((bl (eP X e Y f-jh (eP X e Y f)*jh (eP X e Y f)):Nat):Int)==0)=decide (eP X e Y f=jh (eP X e Y f)*jh (eP X e Y f)):=by
  rw [<-hz]
  by_cases h:bl (eP X e Y f-jh (eP X e Y f)*jh (eP X e Y f))=0
  · rw [h];rfl
  · rw [beq_eq_false_iff_ne.2 h,beq_eq_false_iff_ne.2 (show ((bl (eP X e Y f-jh (eP X e Y f)*jh (eP X e Y f)):Nat):Int)≠0 by omega)]
 have hvx:=Pe (qA X e Y f);have Zb:-10000000<=vQ (qA X e Y f)/\vQ (qA X e Y f)<=10000000:=by unfold vQ;split <;> omega
 have HI:∀ (d:Bool) (u:World) (p:Option Addr) (q:Nat),d=Ll X e Y f->Below w.heap.size w u->Arg u p (ws (jh (eP X e Y f))).length q (ws (jh (eP X e Y f)))->Calls Tryz.prog 126 #[.bool false,.agg #[.slice p (ws (jh (eP X e Y f))).length q,.int .i64 (vQ (qA X e Y f)/2),.bool d]] u fun r w'=>bG u.heap.size w' r (uI X e Y f)/\Below u.heap.size u w':=by
  intro d u p q hd hu hA;subst hd;exact xe false _ _ _ hA (hT.belows hu) (by omega) (by omega) (by omega)
 have lV:=aI false (2*jh (eP X e Y f)+(if Ll X e Y f then 0 else 1)) (eu (vQ (qA X e Y f)/2));have ht:=Lm hvx;unfold bG at HI |-
 by_cases hev:qA X e Y f%2=0
 · have eW:eP X e Y f=dO X Y 129:=by unfold eP O0;rw [if_pos hev]
   have eX:vQ (qA X e Y f)=qA X e Y f:=by unfold vQ;rw [if_pos hev]
   have eT:Ti X e Y f=ou X Y 129:=by unfold Ti UW;rw [if_pos hev]
   rw [eX] at ht Zb
   cases hat:ou X Y 129 with
   | true =>
     rw [hat] at HD eT;refine Bg m e f (dO X Y 129) 0 (jh (eP X e Y f)) (eP X e Y f-jh (eP X e Y f)*jh (eP X e Y f)) _ (qA X e Y f) 0 (vQ (qA X e Y f)/2) false _ _ _ _ _ (bK (by omega)) (by rw [XF];omega) (bK (by omega)) (bK bL) lV (by omega) (by omega) (Dz hev) (by rw [eX];exact ht) (by omega) (by omega) HD (by rw [eW] at HR |-;exact HR) HL hz2 hz ?_;intro u p q hu hA;exact HI _ u p q (by unfold Ll;rw [eT];rfl) hu hA
   | false =>
     rw [hat] at HD eT;refine Bh m e f (dO X Y 129) 0 (jh (eP X e Y f)) (eP X e Y f-jh (eP X e Y f)*jh (eP X e Y f)) 0 (qA X e Y f) 0 (vQ (qA X e Y f)/2) false false _ _ _ _ (bK (by omega)) (by rw [XF];omega) (bK (by omega)) (bK bL) lV (by omega) (by omega) (Dz hev) (by rw [eX];exact ht) (by omega) (by omega) HD (by rw [eW] at HR |-;exact HR) ?_;intro u p q hu hA;exact HI _ u p q (by unfold Ll;rw [eT];rfl) hu hA
 · have eW:eP X e Y f=dO X Y 129/2:=by unfold eP O0;rw [if_neg hev]
   have eX:vQ (qA X e Y f)=qA X e Y f+1:=by unfold vQ;rw [if_neg hev]
   have eT:Ti X e Y f=(ou X Y 129&&decide (dO X Y 129%2=0)):=by unfold Ti UW;rw [if_neg hev]
   have e1:aU (dO X Y 129) (-1)=(eP X e Y f,0):=by
    have:=tN (X:=dO X Y 129) (k:=1) (V:=eP X e Y f) (fO (by omega)) (by rw [eW]);exact this
   have HH:∀ (t':Bool) (u:World) (p:Option Addr) (q:Nat),t'=Ti X e Y f->Arg u p (ws (dO X Y 129)).length q (ws (dO X Y 129))->Calls Tryz.prog 145 #[.agg #[.slice p (ws (dO X Y 129)).length q,.int .i64 (qA X e Y f),.bool (ou X Y 129)]] u fun r w'=>(∃ v,r=.returned (.agg #[v,.int .i64 (vQ (qA X e Y f)),.bool t'])/\Nt u.heap.size w' v (eP X e Y f))/\Below u.heap.size u w':=by
    intro t' u p q ht' hA;rw [ht',eT]
    cases hat:ou X Y 129 with
    | true =>
      have hb:(!decide (dO X Y 129/2^0%2=1))=(true&&decide (dO X Y 129%2=0)):=by
       rw [fo,ui,nT]
       by_cases h:dO X Y 129%2=0
       · rw [decide_eq_true h,decide_eq_false (by omega)];rfl
       · rw [decide_eq_false h,decide_eq_true (by omega)];rfl
      rw [<-hb];exact Gq (dO X Y 129) _ _ _ hA (by omega) (by omega) e1 eX.symm (bK (by omega)) _ rfl
    | false=>exact Lg (dO X Y 129) _ _ _ hA (by omega) (by omega) e1 eX.symm (bK (by omega))
   cases Z7:Ti X e Y f with
   | true =>
     refine Du m e f (dO X Y 129) (eP X e Y f) (jh (eP X e Y f)) (eP X e Y f-jh (eP X e Y f)*jh (eP X e Y f)) _ (qA X e Y f) (vQ (qA X e Y f)) (vQ (qA X e Y f)/2) (ou X Y 129) _ _ _ _ _ (bK (by omega)) (bK (by omega)) (bK (by omega)) (bK bL) lV Zb.1 Zb.2 (I5 hev) ht (by omega) (by omega) HD (fun u p q hA=>HH true u p q Z7.symm hA) HR HL hz2 hz ?_;intro u p q hu hA;exact HI _ u p q (by unfold Ll;rw [Z7];rfl) hu hA
   | false =>
     refine Dv m e f (dO X Y 129) (eP X e Y f) (jh (eP X e Y f)) (eP X e Y f-jh (eP X e Y f)*jh (eP X e Y f)) 0 (qA X e Y f) (vQ (qA X e Y f)) (vQ (qA X e Y f)/2) (ou X Y 129) false _ _ _ _ (bK (by omega)) (bK (by omega)) (bK (by omega)) (bK bL) lV Zb.1 Zb.2 (I5 hev) ht (by omega) (by omega) HD (fun u p q hA=>HH false u p q Z7.symm hA) HR ?_;intro u p q hu hA;exact HI _ u p q (by unfold Ll;rw [Z7];rfl) hu hA
def yx (r:Ri):Nat->Ri:=fun _=>r
noncomputable def rJ (rnd:Option (Bool×Nat×Int)->Int->Nat×Int) (r:Ri) (mode:Int):Nat×Int :=
 if mode<0\/4<mode then (0,1) else if iJ (yx r) 1=0 then rnd (mM (dN (mkS r.n r.X r.e)) (dX (mkS r.n r.X r.e)) (dE (mkS r.n r.X r.e)) (dX (mkS r.m r.Y r.f)) (dE (mkS r.m r.Y r.f))) mode else (0,iJ (yx r) 1)
noncomputable def lD (rnd:Option (Bool×Nat×Int)->Int->Nat×Int) (r:Ri) (mode:Int):Nat×Int :=
 if mode<0\/4<mode then (0,1) else if iJ (yx r) 1=0 then (if dN (mkS r.n r.X r.e) then (0,110) else rnd (uI (dX (mkS r.n r.X r.e)) (dE (mkS r.n r.X r.e)) (dX (mkS r.m r.Y r.f)) (dE (mkS r.m r.Y r.f))) mode) else (0,iJ (yx r) 1)
theorem iK {n:Bool}{X:Nat}{e:Int}(h:(mkS n X e).isSome=true):tq (dN (mkS n X e)) (dX (mkS n X e)) (dE (mkS n X e)):=by
 cases ho:mkS n X e with
 | none=>rw [ho] at h;cases h
 | some d =>
   obtain ⟨n1,X1,e1⟩:=d;exact bJ ho
theorem tq.par {n:Bool}{X:Nat}{e:Int}(h:tq n X e):X=0\/X%2=1:=by rcases h.odd with q | q;exact .inr q;exact .inl q.1
theorem Lp (X:Nat) (e:Int) (Y:Nat) (f:Int) (hs:(uI X e Y f).isSome=true):mkS (dN (uI X e Y f)) (dX (uI X e Y f)) (dE (uI X e Y f))=uI X e Y f:=xh (o:=uI X e Y f) rfl hs
theorem Gv (n:Bool) (X:Nat) (e:Int) (Y:Nat) (f:Int) (hs:(mM n X e Y f).isSome=true):mkS (dN (mM n X e Y f)) (dX (mM n X e Y f)) (dE (mM n X e Y f))=mM n X e Y f:=xh (o:=mM n X e Y f) rfl hs
theorem Pf {w:World}{n m:Bool}{a b:Option Addr}{la ca lb cb:Nat}{X Y:Nat}{e f:Int}(mode:Int) (hr:Rv w ⟨n,.slice a la ca,X,e,m,.slice b lb cb,Y,f⟩) (hT:dF w) :
 Calls Tryz.prog 37 #[.agg #[.bool n,.slice a la ca,.int .i64 e,.bool m,.slice b lb cb,.int .i64 f],.int .i64 mode] w fun r w' =>
  r=.returned (.tuple #[.float .f64 (rJ fD ⟨n,.slice a la ca,X,e,m,.slice b lb cb,Y,f⟩ mode).1,.int .i64 (rJ fD ⟨n,.slice a la ca,X,e,m,.slice b lb cb,Y,f⟩ mode).2])/\Below w.heap.size w w':=by
 refine O8 n m e f mode (rJ fD ⟨n,.slice a la ca,X,e,m,.slice b lb cb,Y,f⟩ mode) ?_;intro u hu;have Z8:=hr.below hu;have qm:=hT.belows hu;refine qz mode Z8 qm (mkS n X e) (mkS m Y f) (mM (dN (mkS n X e)) (dX (mkS n X e)) (dE (mkS n X e)) (dX (mkS m Y f)) (dE (mkS m Y f))) 0 (fD (mM (dN (mkS n X e)) (dX (mkS n X e)) (dE (mkS n X e)) (dX (mkS m Y f)) (dE (mkS m Y f))) mode) rfl rfl (aI _ _ _) (fun h=>absurd rfl h) _ rfl ?_ ?_
 · intro v p q hv N1 N2 h0;obtain ⟨k1,k2,k3,k4⟩:=Dw h0 0 (by omega);simp only at k1 k2 k3 k4;have F1:=iK k2;have F2:=iK k3;obtain ⟨a1,c1,rfl,A1⟩:=N1.arg (by have:=dB F1;omega);obtain ⟨a2,c2,rfl,A2⟩:=N2.arg (by have:=dB F2;omega);have hq:=Bf (dN (mkS n X e)) (dN (mkS m Y f)) (dX (mkS n X e)) (dX (mkS m Y f)) (dE (mkS n X e)) (dE (mkS m Y f)) A1 A2 (qm.belows hv) F1.par k4 F1.down F1.up F2.down F2.up F1.size F2.size;have hs:=zy (dN (mkS n X e)) (dX (mkS n X e)) (dE (mkS n X e)) (dX (mkS m Y f)) (dE (mkS m Y f)) F1.par k4 F1.size F2.size;have he:nO (mM (dN (mkS n X e)) (dX (mkS n X e)) (dE (mkS n X e)) (dX (mkS m Y f)) (dE (mkS m Y f)))=0:=by unfold nO;rw [hs];rfl
   unfold bG at hq;rw [show mkS (dN (mkS n X e)) (2*dO (dX (mkS n X e)) (dX (mkS m Y f)) 64+(if ou (dX (mkS n X e)) (dX (mkS m Y f)) 64 then 0 else 1)) (eu (dE (mkS n X e)-dE (mkS m Y f)-lq (dX (mkS n X e)) (dX (mkS m Y f)) 64-fB (dX (mkS m Y f)) 64))=mM (dN (mkS n X e)) (dX (mkS n X e)) (dE (mkS n X e)) (dX (mkS m Y f)) (dE (mkS m Y f)) from rfl,he] at hq;exact hq
 · intro v p q _ hm h0 hv hA;obtain ⟨k1,k2,k3,k4⟩:=Dw h0 0 (by omega);simp only at k1 k2 k3 k4;have F1:=iK k2;have F2:=iK k3;have hs:=zy (dN (mkS n X e)) (dX (mkS n X e)) (dE (mkS n X e)) (dX (mkS m Y f)) (dE (mkS m Y f)) F1.par k4 F1.size F2.size;have rg:=IZ (o:=mM (dN (mkS n X e)) (dX (mkS n X e)) (dE (mkS n X e)) (dX (mkS m Y f)) (dE (mkS m Y f))) rfl;have hR:=zl hA (qm.belows hv) (dN (mM (dN (mkS n X e)) (dX (mkS n X e)) (dE (mkS n X e)) (dX (mkS m Y f)) (dE (mkS m Y f)))) (dE (mM (dN (mkS n X e)) (dX (mkS n X e)) (dE (mkS n X e)) (dX (mkS m Y f)) (dE (mkS m Y f)))) mode (by omega) (by omega);rw [ah,Gv _ _ _ _ _ hs] at hR;exact hR
theorem WA {w:World}{n m:Bool}{a b:Option Addr}{la ca lb cb:Nat}{X Y:Nat}{e f:Int}(mode:Int) (hr:Rv w ⟨n,.slice a la ca,X,e,m,.slice b lb cb,Y,f⟩) (hT:dF w) :
 Calls Tryz.prog 53 #[.agg #[.bool n,.slice a la ca,.int .i64 e,.bool m,.slice b lb cb,.int .i64 f],.int .i64 mode] w fun r w' =>
  r=.returned (.tuple #[.float .f64 (lD fD ⟨n,.slice a la ca,X,e,m,.slice b lb cb,Y,f⟩ mode).1,.int .i64 (lD fD ⟨n,.slice a la ca,X,e,m,.slice b lb cb,Y,f⟩ mode).2])/\Below w.heap.size w w':=by
 refine O9 n m e f mode (lD fD ⟨n,.slice a la ca,X,e,m,.slice b lb cb,Y,f⟩ mode) ?_;intro u hu;have Z8:=hr.below hu;have qm:=hT.belows hu
 cases hn:dN (mkS n X e) with
 | true =>
   refine jP mode Z8 qm (mkS n X e) (mkS m Y f) none 110 (0,110) rfl rfl (by show (ws 0).length<=8192;rw [XF];omega) (fun h=>⟨rfl,rfl⟩) _ (by unfold lD;simp only;rw [hn];rfl) ?_ ?_
   · intro v p q hv N1 N2 h0;obtain ⟨k1,k2,k3,k4⟩:=Dw h0 0 (by omega);simp only at k1 k2 k3 k4;obtain ⟨a1,c1,rfl,A1⟩:=N1.arg (by have:=dB (iK k2);omega);obtain ⟨a2,c2,rfl,A2⟩:=N2.arg (by have:=dB (iK k3);omega);rw [hn];refine (O4 _ _ _).mono ?_;rintro r w' ⟨rfl,hb⟩;exact ⟨⟨_,rfl,Nt.nil _ _⟩,hb⟩
   · intro v p q h110;exact absurd h110 (by decide)
 | false =>
   have hz:(0:Int)≠0->(fD (uI (dX (mkS n X e)) (dE (mkS n X e)) (dX (mkS m Y f)) (dE (mkS m Y f))) mode).1=0/\(fD (uI (dX (mkS n X e)) (dE (mkS n X e)) (dX (mkS m Y f)) (dE (mkS m Y f))) mode).2=0:=fun h=>absurd rfl h;refine jP mode Z8 qm (mkS n X e) (mkS m Y f) (uI (dX (mkS n X e)) (dE (mkS n X e)) (dX (mkS m Y f)) (dE (mkS m Y f))) 0 (fD (uI (dX (mkS n X e)) (dE (mkS n X e)) (dX (mkS m Y f)) (dE (mkS m Y f))) mode) rfl rfl (aI _ _ _) hz _ (by unfold lD;simp only;rw [hn];rfl) ?_ ?_
   · intro v p q hv N1 N2 h0;obtain ⟨k1,k2,k3,k4⟩:=Dw h0 0 (by omega);simp only at k1 k2 k3 k4;have F1:=iK k2;have F2:=iK k3;obtain ⟨a1,c1,rfl,A1⟩:=N1.arg (by have:=dB F1;omega);obtain ⟨a2,c2,rfl,A2⟩:=N2.arg (by have:=dB F2;omega);have hq:=xx (dN (mkS m Y f)) (dX (mkS n X e)) (dX (mkS m Y f)) (dE (mkS n X e)) (dE (mkS m Y f)) A1 A2 (qm.belows hv) F1.par k4 F1.down F1.up F2.down F2.up F1.size F2.size;have hs:=Dx (dX (mkS n X e)) (dE (mkS n X e)) (dX (mkS m Y f)) (dE (mkS m Y f)) F1.par k4 F1.size F2.size;have he:nO (uI (dX (mkS n X e)) (dE (mkS n X e)) (dX (mkS m Y f)) (dE (mkS m Y f)))=0:=by unfold nO;rw [hs];rfl
     unfold bG at hq;rw [he] at hq;rw [hn];exact hq
   · intro v p q _ hm h0 hv hA;obtain ⟨k1,k2,k3,k4⟩:=Dw h0 0 (by omega);simp only at k1 k2 k3 k4;have F1:=iK k2;have F2:=iK k3;have hs:=Dx (dX (mkS n X e)) (dE (mkS n X e)) (dX (mkS m Y f)) (dE (mkS m Y f)) F1.par k4 F1.size F2.size;have rg:=IZ (o:=uI (dX (mkS n X e)) (dE (mkS n X e)) (dX (mkS m Y f)) (dE (mkS m Y f))) rfl;have hR:=zl hA (qm.belows hv) (dN (uI (dX (mkS n X e)) (dE (mkS n X e)) (dX (mkS m Y f)) (dE (mkS m Y f)))) (dE (uI (dX (mkS n X e)) (dE (mkS n X e)) (dX (mkS m Y f)) (dE (mkS m Y f)))) mode (by omega) (by omega);rw [ah,Lp _ _ _ _ hs] at hR;exact hR
def WB (o:Option (Bool×Nat×Int)):Option (Bool×Nat×Int):=match o with
 | none=>none
 | some (n,X,e)=>mkS (!n) X e
theorem Pg (n:Bool) (X:Nat) (e:Int):WB (mkS n X e)=mkS (!n) X e:=by
 by_cases h0:X=0
 · subst h0;rw [eO,eO];rfl
 · cases ho:mkS n X e with
   | none =>
     unfold mkS at ho |-;rw [if_neg h0] at ho |-
     split at ho
     · rename_i h;rw [if_pos h];rfl
     · cases ho
   | some d =>
     unfold mkS at ho |-;rw [if_neg h0] at ho |-
     split at ho
     · cases ho
     · rename_i h
       cases ho
       rw [if_neg h];show mkS (!n) (X/2^lo X) (e+lo X)=_;have hF:tq n (X/2^lo X) (e+lo X):=bJ (n:=n) (X:=X) (e:=e) (by unfold mkS;rw [if_neg h0,if_neg h])
       have hF2:tq (!n) (X/2^lo X) (e+lo X):=⟨by
        rcases hF.odd with q|⟨q,_,_⟩
        · exact .inl q
        · exfalso;obtain ⟨k,h2,h3,h4⟩:=iD X h0
          omega,hF.size,hF.up,hF.down⟩
       exact hF2.self
theorem uJ {o:Option (Bool×Nat×Int)}(hs:o.isSome=true):mkS (!(dN o)) (dX o) (dE o)=WB o:=by
 cases o with
 | none=>cases hs
 | some d=>rfl
end
end Go.Proofs.YteginbngplldaaaGreatDoor
