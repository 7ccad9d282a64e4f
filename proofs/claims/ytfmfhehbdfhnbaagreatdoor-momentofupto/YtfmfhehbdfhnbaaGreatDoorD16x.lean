import Derived.Test.YtfmfhehbdfhnbaaGreatDoorD8x
import Derived.Deep.Cut
import Derived.Test.YtfmfhehbdfhnbaaGreatDoorW17x
import Derived.Test.YtfmfhehbdfhnbaaGreatDoorD2x
import Derived.Test.YtfmfhehbdfhnbaaGreatDoorM1x
import Derived.Laws.FloatArith
import Derived.Test.YtfmfhehbdfhnbaaGreatDoorW40x
set_option linter.unusedVariables false
set_option linter.unusedSimpArgs false
set_option maxHeartbeats 16000000
set_option maxRecDepth 20000
namespace Go.Proofs.YtfmfhehbdfhnbaaGreatDoor
section
open Go.RowKit
theorem j5 (W:World) (g:Nat) (n:Bool) (v:Value) (e k:Int) (tmps:Array Value) (ht:tmps[4]?.getD undef=.pointer (some ⟨g,0,none⟩)) (hk:tmps[5]?.getD undef=.int .i64 k) (D:Dk W g n v e) :
 (results Tryz.f100 tmps).run Tryz.prog W=.ok (.tuple #[.agg #[.bool n,v,.int .i64 e],.int .i64 k]) W:=by
 obtain ⟨x0,x1,x2,bE,bF,bG⟩:=D.facts;simp [results,Tryz.results100,ht,hk,go_sem,x0,x1,x2]
theorem aV (w:World) (n m:Bool) (v u:Value) (e f:Int) (W:World) (hW:W=((w.alloc (.cells #[.bool n,v,.int .i64 e] 25)).alloc (.cells #[.bool m,u,.int .i64 f] 25)).alloc (.cells #[.bool false,.slice none 0 0,.int .i64 0] 25)) :
 Below w.heap.size w W/\W.heap.size=w.heap.size+3/\Dk W w.heap.size n v e/\Dk W (w.heap.size+1) m u f/\Dk W (w.heap.size+1+1) false (.slice none 0 0) 0:=by
 subst hW;refine ⟨((ae w _).alloc aO _).alloc (by simp;omega) _,aO,((Dk.new w n v e).alloc _).alloc _,?_,?_⟩
 · have:=(Dk.new (w.alloc (.cells #[.bool n,v,.int .i64 e] 25)) m u f).alloc (.cells #[.bool false,.slice none 0 0,.int .i64 0] 25);simpa using this
 · have:=Dk.new ((w.alloc (.cells #[.bool n,v,.int .i64 e] 25)).alloc (.cells #[.bool m,u,.int .i64 f] 25)) false (.slice none 0 0) 0;simpa using this
theorem GV {w:World}{a b:Option Addr}{l c k d:Nat}(n m:Bool) (e f:Int) (kV:Hid (∀ u,Below w.heap.size w u->Calls Tryz.prog 98 #[.agg #[.bool n,.slice a l c,.int .i64 e],.agg #[.bool m,.slice b k d,.int .i64 f]] u fun r w'=>r=.returned (.tuple #[.agg #[.bool false,.slice none 0 0,.int .i64 0],.agg #[.bool false,.slice none 0 0,.int .i64 0],.int .i64 2])/\Below u.heap.size u w')):Calls Tryz.prog 100 #[.agg #[.bool n,.slice a l c,.int .i64 e],.agg #[.bool m,.slice b k d,.int .i64 f]] w fun r w'=>r=.returned (.tuple #[.agg #[.bool false,.slice none 0 0,.int .i64 0],.int .i64 2])/\Below w.heap.size w w':=by
 obtain ⟨W1,hW1⟩:=ah (((w.alloc (.cells #[.bool n,.slice a l c,.int .i64 e] 25)).alloc (.cells #[.bool m,.slice b k d,.int .i64 f] 25)).alloc (.cells #[.bool false,.slice none 0 0,.int .i64 0] 25));obtain ⟨hB,hz1,DA,DB,DR⟩:=aV w n m (.slice a l c) (.slice b k d) e f W1 hW1;have H1:=hid (kV.o W1 hB);have SB:=(eu hB hz1 DA DB DR);clear hB hz1 DA DB DR kV;go_enter Tryz.func100,Tryz.ntmps100;go_wp2_with fail;rw [<-hW1];clear hW1;refine H1.o.mono ?_;rintro r u1 ⟨rfl,hb⟩;obtain ⟨hB,hz1,DA,DB,DR⟩:=SB.o;have EA:=DA.below hb;have EB:=DB.below hb;have ER:=DR.below hb;obtain ⟨x0,x1,x2,bE,bF,bG⟩:=EA.facts;obtain ⟨y0,y1,y2,bN,bO,bU⟩:=EB.facts;obtain ⟨r0,r1,r2,gG,gH,gI⟩:=ER.facts;have F1:=ak (show Fin w.heap.size (w.heap.size+3) w u1 (.slice none 0 0) 0 from ⟨Nt.nil _ _,hB.trans (hb.mono af),by have:=hb.size;omega⟩);have SE:=ak ER;clear hb H1 hB hz1 DA DB DR EA EB ER SB;go_wp2;refine aF (j5 _ (w.heap.size+1+1) false (.slice none 0 0) 0 2 _ rfl rfl (((SE.o.other _ af _ _ _).other _ af _ _ _).set _ _ _)) rfl ⟨rfl,?_⟩;refine Fin.aB (m:=w.heap.size+3) (v:=.slice none 0 0) (X:=0) ?_
 repeat (with_reducible first | exact F1.o | refine Fin.drew ?_ | refine Fin.alloc ?_ _ | refine Fin.set ?_ _ _ _ af af)
theorem Nc {w:World}{a b:Option Addr}{l c k d:Nat}(n m:Bool) (e f:Int) (n1 m1:Bool) (X Y:Nat) (e1 f1:Int) (lX:(ws X).length<=8192) (lY:(ws Y).length<=8192) (hX:(ws X).length=0)
 (kV:Hid (∀ u,Below w.heap.size w u->Calls Tryz.prog 98 #[.agg #[.bool n,.slice a l c,.int .i64 e],.agg #[.bool m,.slice b k d,.int .i64 f]] u fun r w'=>∃ v v',r=.returned (.tuple #[.agg #[.bool n1,v,.int .i64 e1],.agg #[.bool m1,v',.int .i64 f1],.int .i64 0])/\Nt u.heap.size w' v X/\Nt u.heap.size w' v' Y/\Below u.heap.size u w')):Calls Tryz.prog 100 #[.agg #[.bool n,.slice a l c,.int .i64 e],.agg #[.bool m,.slice b k d,.int .i64 f]] w fun r w'=>cK w.heap.size w' r (some (m1,Y,f1))/\Below w.heap.size w w':=by
 obtain ⟨W1,hW1⟩:=ah (((w.alloc (.cells #[.bool n,.slice a l c,.int .i64 e] 25)).alloc (.cells #[.bool m,.slice b k d,.int .i64 f] 25)).alloc (.cells #[.bool false,.slice none 0 0,.int .i64 0] 25));obtain ⟨hB,hz1,DA,DB,DR⟩:=aV w n m (.slice a l c) (.slice b k d) e f W1 hW1;have H1:=hid (kV.o W1 hB);have SB:=(eu hB hz1 DA DB DR);clear hB hz1 DA DB DR kV;go_enter Tryz.func100,Tryz.ntmps100;go_wp2_with fail;rw [<-hW1];clear hW1;refine H1.o.mono ?_;rintro r u1 ⟨v,v',rfl,hN,hM,hb⟩;obtain ⟨a1,c1,rfl,_⟩:=hN.arg af;obtain ⟨a2,c2,rfl,_⟩:=hM.arg af;obtain ⟨hB,hz1,DA,DB,DR⟩:=SB.o;have EA:=DA.below hb;have EB:=DB.below hb;have ER:=DR.below hb;obtain ⟨x0,x1,x2,bE,bF,bG⟩:=EA.facts;obtain ⟨y0,y1,y2,bN,bO,bU⟩:=EB.facts;obtain ⟨r0,r1,r2,gG,gH,gI⟩:=ER.facts;have FX:=ak (show Fin w.heap.size (w.heap.size+3) w u1 (.slice a1 (ws X).length c1) X from ⟨by rw [<-hz1];exact hN,hB.trans (hb.mono af),by have:=hb.size;omega⟩);have FY:=ak (show Fin w.heap.size (w.heap.size+3) w u1 (.slice a2 (ws Y).length c2) Y from ⟨by rw [<-hz1];exact hM,hB.trans (hb.mono af),by have:=hb.size;omega⟩);have SE:=(aZ EA EB ER);clear hN hM hb H1 hB hz1 DA DB DR EA EB ER SB
 try rw [hX]
 go_wp2;refine aF (j5 _ (w.heap.size+1+1) m1 (.slice a2 (ws Y).length c2) f1 0 _ rfl rfl (((SE.o.r2.other _ af _ _ _).other _ af _ _ _).set _ _ _)) rfl ?_;refine Fin.jT (m:=w.heap.size+3) ?_ af
 repeat (with_reducible first | exact FY.o | refine Fin.drew ?_ | refine Fin.alloc ?_ _ | refine Fin.set ?_ _ _ _ af af)
 exact FY.o
theorem Jr {w:World}{a b:Option Addr}{l c k d:Nat}(n m:Bool) (e f:Int) (n1 m1:Bool) (X Y:Nat) (e1 f1:Int) (lX:(ws X).length<=8192) (lY:(ws Y).length<=8192) (hX:((((ws X).length:Nat):Int)==0)=false) (hY:(ws Y).length=0)
 (kV:Hid (∀ u,Below w.heap.size w u->Calls Tryz.prog 98 #[.agg #[.bool n,.slice a l c,.int .i64 e],.agg #[.bool m,.slice b k d,.int .i64 f]] u fun r w'=>∃ v v',r=.returned (.tuple #[.agg #[.bool n1,v,.int .i64 e1],.agg #[.bool m1,v',.int .i64 f1],.int .i64 0])/\Nt u.heap.size w' v X/\Nt u.heap.size w' v' Y/\Below u.heap.size u w')):Calls Tryz.prog 100 #[.agg #[.bool n,.slice a l c,.int .i64 e],.agg #[.bool m,.slice b k d,.int .i64 f]] w fun r w'=>cK w.heap.size w' r (some (n1,X,e1))/\Below w.heap.size w w':=by
 obtain ⟨W1,hW1⟩:=ah (((w.alloc (.cells #[.bool n,.slice a l c,.int .i64 e] 25)).alloc (.cells #[.bool m,.slice b k d,.int .i64 f] 25)).alloc (.cells #[.bool false,.slice none 0 0,.int .i64 0] 25));obtain ⟨hB,hz1,DA,DB,DR⟩:=aV w n m (.slice a l c) (.slice b k d) e f W1 hW1;have H1:=hid (kV.o W1 hB);have SB:=(eu hB hz1 DA DB DR);clear hB hz1 DA DB DR kV;go_enter Tryz.func100,Tryz.ntmps100;go_wp2_with fail;rw [<-hW1];clear hW1;refine H1.o.mono ?_;rintro r u1 ⟨v,v',rfl,hN,hM,hb⟩;obtain ⟨a1,c1,rfl,_⟩:=hN.arg af;obtain ⟨a2,c2,rfl,_⟩:=hM.arg af;obtain ⟨hB,hz1,DA,DB,DR⟩:=SB.o;have EA:=DA.below hb;have EB:=DB.below hb;have ER:=DR.below hb;obtain ⟨x0,x1,x2,bE,bF,bG⟩:=EA.facts;obtain ⟨y0,y1,y2,bN,bO,bU⟩:=EB.facts;obtain ⟨r0,r1,r2,gG,gH,gI⟩:=ER.facts;have FX:=ak (show Fin w.heap.size (w.heap.size+3) w u1 (.slice a1 (ws X).length c1) X from ⟨by rw [<-hz1];exact hN,hB.trans (hb.mono af),by have:=hb.size;omega⟩);have FY:=ak (show Fin w.heap.size (w.heap.size+3) w u1 (.slice a2 (ws Y).length c2) Y from ⟨by rw [<-hz1];exact hM,hB.trans (hb.mono af),by have:=hb.size;omega⟩);have SE:=(aZ EA EB ER);clear hN hM hb H1 hB hz1 DA DB DR EA EB ER SB
 try rw [hX]
 go_wp2;refine aF (j5 _ (w.heap.size+1+1) n1 (.slice a1 (ws X).length c1) e1 0 _ rfl rfl (((SE.o.r2.other _ af _ _ _).other _ af _ _ _).set _ _ _)) rfl ?_;refine Fin.jT (m:=w.heap.size+3) ?_ af
 repeat (with_reducible first | exact FX.o | refine Fin.drew ?_ | refine Fin.alloc ?_ _ | refine Fin.set ?_ _ _ _ af af)
 exact FX.o
theorem Js {w:World}{a b:Option Addr}{l c k d:Nat}(n m:Bool) (e f:Int) (n1 m1:Bool) (X Y:Nat) (e1 f1:Int) (lX:(ws X).length<=8192) (lY:(ws Y).length<=8192) (hX:((((ws X).length:Nat):Int)==0)=false) (hY:((((ws Y).length:Nat):Int)==0)=false) (hlt:decide (e1<f1)=false) (Jt:-1048576<=e1) (Ju:e1<=1048576) (Jv:-1048576<=f1) (Jw:f1<=1048576)
 (kV:Hid (∀ u,Below w.heap.size w u->Calls Tryz.prog 98 #[.agg #[.bool n,.slice a l c,.int .i64 e],.agg #[.bool m,.slice b k d,.int .i64 f]] u fun r w'=>∃ v v',r=.returned (.tuple #[.agg #[.bool n1,v,.int .i64 e1],.agg #[.bool m1,v',.int .i64 f1],.int .i64 0])/\Nt u.heap.size w' v X/\Nt u.heap.size w' v' Y/\Below u.heap.size u w'))
 (qj:Hid (∀ (u:World) (p:Option Addr) (q:Nat),Below w.heap.size w u->Arg u p (ws X).length q (ws X)->Calls Tryz.prog 137 #[.slice p (ws X).length q,.int .i64 (e1-f1)] u fun r w'=>∃ v,r=.returned (.tuple #[v,.int .i64 2])/\Nt u.heap.size w' v 0/\Below u.heap.size u w')):Calls Tryz.prog 100 #[.agg #[.bool n,.slice a l c,.int .i64 e],.agg #[.bool m,.slice b k d,.int .i64 f]] w fun r w'=>r=.returned (.tuple #[.agg #[.bool false,.slice none 0 0,.int .i64 0],.int .i64 2])/\Below w.heap.size w w':=by
 have l0:(ws 0).length=0:=by rw [bI];rfl
 obtain ⟨W1,hW1⟩:=ah (((w.alloc (.cells #[.bool n,.slice a l c,.int .i64 e] 25)).alloc (.cells #[.bool m,.slice b k d,.int .i64 f] 25)).alloc (.cells #[.bool false,.slice none 0 0,.int .i64 0] 25));obtain ⟨hB,hz1,DA,DB,DR⟩:=aV w n m (.slice a l c) (.slice b k d) e f W1 hW1;have H1:=hid (kV.o W1 hB);have SB:=(eu hB hz1 DA DB DR);clear hB hz1 DA DB DR kV;go_enter Tryz.func100,Tryz.ntmps100;go_wp2_with fail;rw [<-hW1];clear hW1;refine H1.o.mono ?_;rintro r u1 ⟨v,v',rfl,hN,hM,hb⟩;obtain ⟨a1,c1,rfl,_⟩:=hN.arg af;obtain ⟨a2,c2,rfl,_⟩:=hM.arg af;obtain ⟨hB,hz1,DA,DB,DR⟩:=SB.o;have EA:=DA.below hb;have EB:=DB.below hb;have ER:=DR.below hb;obtain ⟨x0,x1,x2,bE,bF,bG⟩:=EA.facts;obtain ⟨y0,y1,y2,bN,bO,bU⟩:=EB.facts;obtain ⟨r0,r1,r2,gG,gH,gI⟩:=ER.facts;have FX:=ak (show Fin w.heap.size (w.heap.size+3) w u1 (.slice a1 (ws X).length c1) X from ⟨by rw [<-hz1];exact hN,hB.trans (hb.mono af),by have:=hb.size;omega⟩);have FY:=ak (show Fin w.heap.size (w.heap.size+3) w u1 (.slice a2 (ws Y).length c2) Y from ⟨by rw [<-hz1];exact hM,hB.trans (hb.mono af),by have:=hb.size;omega⟩);have SE:=(aZ EA EB ER);clear hN hM hb H1 hB hz1 DA DB DR EA EB ER SB;obtain ⟨EA,EB,ER⟩:=SE.o;obtain ⟨U1,aS⟩:=ah (cZ (cZ u1 w.heap.size (.bool n1) (.slice a1 (ws X).length c1) (.int .i64 e1)) (w.heap.size+1) (.bool m1) (.slice a2 (ws Y).length c2) (.int .i64 f1));have IA:Dk U1 w.heap.size n1 (.slice a1 (ws X).length c1) e1:=by rw [aS];exact ((EA.set _ _ _).other _ af _ _ _)
 have IB:Dk U1 (w.heap.size+1) m1 (.slice a2 (ws Y).length c2) f1:=by rw [aS];exact ((EB.other _ af _ _ _).set _ _ _)
 have IR:Dk U1 (w.heap.size+1+1) false (.slice none 0 0) 0:=by rw [aS];exact ((ER.other _ af _ _ _).other _ af _ _ _)
 have GX:Fin w.heap.size (w.heap.size+3) w U1 (.slice a1 (ws X).length c1) X:=by rw [aS];exact (Fin.cZ (Fin.cZ FX.o _ _ _ _ af af) _ _ _ _ af af)
 have GY:Fin w.heap.size (w.heap.size+3) w U1 (.slice a2 (ws Y).length c2) Y:=by rw [aS];exact (Fin.cZ (Fin.cZ FY.o _ _ _ _ af af) _ _ _ _ af af)
 have H2:=hid (qj.o U1 a1 c1 GX.aB (GX.nt.aU af).2);have S1:=(eu IA IB IR GX GY);have Vk:w.heap.size+3<=U1.heap.size:=by have:=IR.lt;omega
 clear EA EB ER IA IB IR GX GY SE qj;unfold cZ at aS;go_wp2_with fail;rw [<-aS];clear aS x0 x1 x2 bE bF bG y0 y1 y2 bN bO bU r0 r1 r2 gG gH gI;refine H2.o.mono ?_;rintro r u2 ⟨v,rfl,hN,hb⟩;obtain ⟨a3,c3,rfl,_⟩:=hN.arg af;obtain ⟨IA,IB,IR,GX,GY⟩:=S1.o;obtain ⟨x0,x1,x2,bE,bF,bG⟩:=(IA.below hb).facts;obtain ⟨y0,y1,y2,bN,bO,bU⟩:=(IB.below hb).facts;obtain ⟨r0,r1,r2,gG,gH,gI⟩:=(IR.below hb).facts;have S2:=(aJ (IR.below hb) ((GX.below hb)));clear hN hb H2 S1 IA IB IR GX GY;go_wp2;refine aF (j5 _ (w.heap.size+1+1) false (.slice none 0 0) 0 2 _ rfl rfl (S2.o.1.set _ _ _)) rfl ⟨rfl,?_⟩;refine Fin.aB (m:=w.heap.size+3) (v:=.slice a1 (ws X).length c1) (X:=X) ?_
 repeat (with_reducible first | exact S2.o.2 | refine Fin.drew ?_ | refine Fin.alloc ?_ _ | refine Fin.set ?_ _ _ _ af af)
theorem Nf {w:World}{a b:Option Addr}{l c k d:Nat}(n m:Bool) (e f:Int) (n1 m1:Bool) (X Y:Nat) (e1 f1:Int) (lX:(ws X).length<=8192) (lY:(ws Y).length<=8192) (hX:((((ws X).length:Nat):Int)==0)=false) (hY:((((ws Y).length:Nat):Int)==0)=false) (hlt:decide (e1<f1)=false) (Jt:-1048576<=e1) (Ju:e1<=1048576) (Jv:-1048576<=f1) (Jw:f1<=1048576)
 (kV:Hid (∀ u,Below w.heap.size w u->Calls Tryz.prog 98 #[.agg #[.bool n,.slice a l c,.int .i64 e],.agg #[.bool m,.slice b k d,.int .i64 f]] u fun r w'=>∃ v v',r=.returned (.tuple #[.agg #[.bool n1,v,.int .i64 e1],.agg #[.bool m1,v',.int .i64 f1],.int .i64 0])/\Nt u.heap.size w' v X/\Nt u.heap.size w' v' Y/\Below u.heap.size u w')) (hs:(n1==m1)=true) (L:Nat) (lL:(ws L).length<=8192) (dn:Bool) (V:Nat) (de er:Int) (lV:(ws V).length<=8192)
 (qj:Hid (∀ (u:World) (p:Option Addr) (q:Nat),Below w.heap.size w u->Arg u p (ws X).length q (ws X)->Calls Tryz.prog 137 #[.slice p (ws X).length q,.int .i64 (e1-f1)] u fun r w'=>∃ v,r=.returned (.tuple #[v,.int .i64 0])/\Nt u.heap.size w' v L/\Below u.heap.size u w'))
 (HT:Hid (∀ (u:World) (p q:Option Addr) (s t:Nat),Below w.heap.size w u->Arg u p (ws L).length s (ws L)->Arg u q (ws Y).length t (ws Y)->Calls Tryz.prog 138 #[.bool n1,.slice p (ws L).length s,.slice q (ws Y).length t,.int .i64 f1] u fun r w'=>(∃ v,r=.returned (.tuple #[.agg #[.bool dn,v,.int .i64 de],.int .i64 er])/\Nt u.heap.size w' v V)/\Below u.heap.size u w')):Calls Tryz.prog 100 #[.agg #[.bool n,.slice a l c,.int .i64 e],.agg #[.bool m,.slice b k d,.int .i64 f]] w fun r w'=>(∃ v,r=.returned (.tuple #[.agg #[.bool dn,v,.int .i64 de],.int .i64 er])/\Nt w.heap.size w' v V)/\Below w.heap.size w w':=by
 obtain ⟨W1,hW1⟩:=ah (((w.alloc (.cells #[.bool n,.slice a l c,.int .i64 e] 25)).alloc (.cells #[.bool m,.slice b k d,.int .i64 f] 25)).alloc (.cells #[.bool false,.slice none 0 0,.int .i64 0] 25));obtain ⟨hB,hz1,DA,DB,DR⟩:=aV w n m (.slice a l c) (.slice b k d) e f W1 hW1;have H1:=hid (kV.o W1 hB);have SB:=(eu hB hz1 DA DB DR);clear hB hz1 DA DB DR kV;go_enter Tryz.func100,Tryz.ntmps100;go_wp2_with fail;rw [<-hW1];clear hW1;refine H1.o.mono ?_;rintro r u1 ⟨v,v',rfl,hN,hM,hb⟩;obtain ⟨a1,c1,rfl,_⟩:=hN.arg af;obtain ⟨a2,c2,rfl,_⟩:=hM.arg af;obtain ⟨hB,hz1,DA,DB,DR⟩:=SB.o;have EA:=DA.below hb;have EB:=DB.below hb;have ER:=DR.below hb;obtain ⟨x0,x1,x2,bE,bF,bG⟩:=EA.facts;obtain ⟨y0,y1,y2,bN,bO,bU⟩:=EB.facts;obtain ⟨r0,r1,r2,gG,gH,gI⟩:=ER.facts;have FX:=ak (show Fin w.heap.size (w.heap.size+3) w u1 (.slice a1 (ws X).length c1) X from ⟨by rw [<-hz1];exact hN,hB.trans (hb.mono af),by have:=hb.size;omega⟩);have FY:=ak (show Fin w.heap.size (w.heap.size+3) w u1 (.slice a2 (ws Y).length c2) Y from ⟨by rw [<-hz1];exact hM,hB.trans (hb.mono af),by have:=hb.size;omega⟩);have SE:=(aZ EA EB ER);clear hN hM hb H1 hB hz1 DA DB DR EA EB ER SB;obtain ⟨EA,EB,ER⟩:=SE.o;obtain ⟨U1,aS⟩:=ah (cZ (cZ u1 w.heap.size (.bool n1) (.slice a1 (ws X).length c1) (.int .i64 e1)) (w.heap.size+1) (.bool m1) (.slice a2 (ws Y).length c2) (.int .i64 f1));have IA:Dk U1 w.heap.size n1 (.slice a1 (ws X).length c1) e1:=by rw [aS];exact ((EA.set _ _ _).other _ af _ _ _)
 have IB:Dk U1 (w.heap.size+1) m1 (.slice a2 (ws Y).length c2) f1:=by rw [aS];exact ((EB.other _ af _ _ _).set _ _ _)
 have IR:Dk U1 (w.heap.size+1+1) false (.slice none 0 0) 0:=by rw [aS];exact ((ER.other _ af _ _ _).other _ af _ _ _)
 have GX:Fin w.heap.size (w.heap.size+3) w U1 (.slice a1 (ws X).length c1) X:=by rw [aS];exact (Fin.cZ (Fin.cZ FX.o _ _ _ _ af af) _ _ _ _ af af)
 have GY:Fin w.heap.size (w.heap.size+3) w U1 (.slice a2 (ws Y).length c2) Y:=by rw [aS];exact (Fin.cZ (Fin.cZ FY.o _ _ _ _ af af) _ _ _ _ af af)
 have H2:=hid (qj.o U1 a1 c1 GX.aB (GX.nt.aU af).2);have S1:=(eu IA IB IR GX GY);have Vk:w.heap.size+3<=U1.heap.size:=by have:=IR.lt;omega
 clear EA EB ER IA IB IR GX GY SE qj;unfold cZ at aS;go_wp2_with fail;rw [<-aS];clear aS x0 x1 x2 bE bF bG y0 y1 y2 bN bO bU r0 r1 r2 gG gH gI;refine H2.o.mono ?_;rintro r u2 ⟨v,rfl,hN,hb⟩;obtain ⟨a3,c3,rfl,_⟩:=hN.arg af;obtain ⟨IA,IB,IR,GX,GY⟩:=S1.o;obtain ⟨x0,x1,x2,bE,bF,bG⟩:=(IA.below hb).facts;obtain ⟨y0,y1,y2,bN,bO,bU⟩:=(IB.below hb).facts;obtain ⟨r0,r1,r2,gG,gH,gI⟩:=(IR.below hb).facts;have H3:=hid (HT.o u2 a3 a2 c3 c2 (GX.below hb).aB (hN.aU af).2 ((GY.below hb).nt.aU af).2);have S2:=(aJ (IR.below hb) ((GX.below hb)));have hz2:w.heap.size+3<=u2.heap.size:=by have:=hb.size;omega
 clear hN hb H2 S1 IA IB IR GX GY HT;go_wp2_with fail;refine H3.o.mono ?_;rintro r u3 ⟨⟨v,rfl,hN⟩,hb⟩;obtain ⟨a4,c4,rfl,_⟩:=hN.arg af;have IR:=S2.o.1.below hb;obtain ⟨s0,s1,s2,rX,rY,rZ⟩:=IR.facts;have FV:=ak (show Fin w.heap.size (w.heap.size+3) w u3 (.slice a4 (ws V).length c4) V from ⟨hN.mono hz2,(S2.o.2.below hb).aB,by have:=hb.size;omega⟩);have S3:=ak IR;clear hN hb IR H3 S2;go_wp2;refine aF (j5 _ (w.heap.size+1+1) dn (.slice a4 (ws V).length c4) de er _ rfl rfl (S3.o.set _ _ _)) rfl ?_;refine Fin.jT (m:=w.heap.size+3) ?_ af
 repeat (with_reducible first | exact FV.o | refine Fin.drew ?_ | refine Fin.alloc ?_ _ | refine Fin.set ?_ _ _ _ af af)
theorem Jy {w:World}{a b:Option Addr}{l c k d:Nat}(n m:Bool) (e f:Int) (n1 m1:Bool) (X Y:Nat) (e1 f1:Int) (lX:(ws X).length<=8192) (lY:(ws Y).length<=8192) (hX:((((ws X).length:Nat):Int)==0)=false) (hY:((((ws Y).length:Nat):Int)==0)=false) (hlt:decide (e1<f1)=false) (Jt:-1048576<=e1) (Ju:e1<=1048576) (Jv:-1048576<=f1) (Jw:f1<=1048576)
 (kV:Hid (∀ u,Below w.heap.size w u->Calls Tryz.prog 98 #[.agg #[.bool n,.slice a l c,.int .i64 e],.agg #[.bool m,.slice b k d,.int .i64 f]] u fun r w'=>∃ v v',r=.returned (.tuple #[.agg #[.bool n1,v,.int .i64 e1],.agg #[.bool m1,v',.int .i64 f1],.int .i64 0])/\Nt u.heap.size w' v X/\Nt u.heap.size w' v' Y/\Below u.heap.size u w')) (hs:(n1==m1)=false) (L:Nat) (lL:(ws L).length<=8192) (dn:Bool) (V:Nat) (de er:Int) (lV:(ws V).length<=8192)
 (qj:Hid (∀ (u:World) (p:Option Addr) (q:Nat),Below w.heap.size w u->Arg u p (ws X).length q (ws X)->Calls Tryz.prog 137 #[.slice p (ws X).length q,.int .i64 (e1-f1)] u fun r w'=>∃ v,r=.returned (.tuple #[v,.int .i64 0])/\Nt u.heap.size w' v L/\Below u.heap.size u w'))
 (HT:Hid (∀ (u:World) (p q:Option Addr) (s t:Nat),Below w.heap.size w u->Arg u p (ws L).length s (ws L)->Arg u q (ws Y).length t (ws Y)->Calls Tryz.prog 139 #[.bool n1,.slice p (ws L).length s,.slice q (ws Y).length t,.int .i64 f1] u fun r w'=>(∃ v,r=.returned (.tuple #[.agg #[.bool dn,v,.int .i64 de],.int .i64 er])/\Nt u.heap.size w' v V)/\Below u.heap.size u w')):Calls Tryz.prog 100 #[.agg #[.bool n,.slice a l c,.int .i64 e],.agg #[.bool m,.slice b k d,.int .i64 f]] w fun r w'=>(∃ v,r=.returned (.tuple #[.agg #[.bool dn,v,.int .i64 de],.int .i64 er])/\Nt w.heap.size w' v V)/\Below w.heap.size w w':=by
 obtain ⟨W1,hW1⟩:=ah (((w.alloc (.cells #[.bool n,.slice a l c,.int .i64 e] 25)).alloc (.cells #[.bool m,.slice b k d,.int .i64 f] 25)).alloc (.cells #[.bool false,.slice none 0 0,.int .i64 0] 25));obtain ⟨hB,hz1,DA,DB,DR⟩:=aV w n m (.slice a l c) (.slice b k d) e f W1 hW1;have H1:=hid (kV.o W1 hB);have SB:=(eu hB hz1 DA DB DR);clear hB hz1 DA DB DR kV;go_enter Tryz.func100,Tryz.ntmps100;go_wp2_with fail;rw [<-hW1];clear hW1;refine H1.o.mono ?_;rintro r u1 ⟨v,v',rfl,hN,hM,hb⟩;obtain ⟨a1,c1,rfl,_⟩:=hN.arg af;obtain ⟨a2,c2,rfl,_⟩:=hM.arg af;obtain ⟨hB,hz1,DA,DB,DR⟩:=SB.o;have EA:=DA.below hb;have EB:=DB.below hb;have ER:=DR.below hb;obtain ⟨x0,x1,x2,bE,bF,bG⟩:=EA.facts;obtain ⟨y0,y1,y2,bN,bO,bU⟩:=EB.facts;obtain ⟨r0,r1,r2,gG,gH,gI⟩:=ER.facts;have FX:=ak (show Fin w.heap.size (w.heap.size+3) w u1 (.slice a1 (ws X).length c1) X from ⟨by rw [<-hz1];exact hN,hB.trans (hb.mono af),by have:=hb.size;omega⟩);have FY:=ak (show Fin w.heap.size (w.heap.size+3) w u1 (.slice a2 (ws Y).length c2) Y from ⟨by rw [<-hz1];exact hM,hB.trans (hb.mono af),by have:=hb.size;omega⟩);have SE:=(aZ EA EB ER);clear hN hM hb H1 hB hz1 DA DB DR EA EB ER SB;obtain ⟨EA,EB,ER⟩:=SE.o;obtain ⟨U1,aS⟩:=ah (cZ (cZ u1 w.heap.size (.bool n1) (.slice a1 (ws X).length c1) (.int .i64 e1)) (w.heap.size+1) (.bool m1) (.slice a2 (ws Y).length c2) (.int .i64 f1));have IA:Dk U1 w.heap.size n1 (.slice a1 (ws X).length c1) e1:=by rw [aS];exact ((EA.set _ _ _).other _ af _ _ _)
 have IB:Dk U1 (w.heap.size+1) m1 (.slice a2 (ws Y).length c2) f1:=by rw [aS];exact ((EB.other _ af _ _ _).set _ _ _)
 have IR:Dk U1 (w.heap.size+1+1) false (.slice none 0 0) 0:=by rw [aS];exact ((ER.other _ af _ _ _).other _ af _ _ _)
 have GX:Fin w.heap.size (w.heap.size+3) w U1 (.slice a1 (ws X).length c1) X:=by rw [aS];exact (Fin.cZ (Fin.cZ FX.o _ _ _ _ af af) _ _ _ _ af af)
 have GY:Fin w.heap.size (w.heap.size+3) w U1 (.slice a2 (ws Y).length c2) Y:=by rw [aS];exact (Fin.cZ (Fin.cZ FY.o _ _ _ _ af af) _ _ _ _ af af)
 have H2:=hid (qj.o U1 a1 c1 GX.aB (GX.nt.aU af).2);have S1:=(eu IA IB IR GX GY);have Vk:w.heap.size+3<=U1.heap.size:=by have:=IR.lt;omega
 clear EA EB ER IA IB IR GX GY SE qj;unfold cZ at aS;go_wp2_with fail;rw [<-aS];clear aS x0 x1 x2 bE bF bG y0 y1 y2 bN bO bU r0 r1 r2 gG gH gI;refine H2.o.mono ?_;rintro r u2 ⟨v,rfl,hN,hb⟩;obtain ⟨a3,c3,rfl,_⟩:=hN.arg af;obtain ⟨IA,IB,IR,GX,GY⟩:=S1.o;obtain ⟨x0,x1,x2,bE,bF,bG⟩:=(IA.below hb).facts;obtain ⟨y0,y1,y2,bN,bO,bU⟩:=(IB.below hb).facts;obtain ⟨r0,r1,r2,gG,gH,gI⟩:=(IR.below hb).facts;have H3:=hid (HT.o u2 a3 a2 c3 c2 (GX.below hb).aB (hN.aU af).2 ((GY.below hb).nt.aU af).2);have S2:=(aJ (IR.below hb) ((GX.below hb)));have hz2:w.heap.size+3<=u2.heap.size:=by have:=hb.size;omega
 clear hN hb H2 S1 IA IB IR GX GY HT;go_wp2_with fail;refine H3.o.mono ?_;rintro r u3 ⟨⟨v,rfl,hN⟩,hb⟩;obtain ⟨a4,c4,rfl,_⟩:=hN.arg af;have IR:=S2.o.1.below hb;obtain ⟨s0,s1,s2,rX,rY,rZ⟩:=IR.facts;have FV:=ak (show Fin w.heap.size (w.heap.size+3) w u3 (.slice a4 (ws V).length c4) V from ⟨hN.mono hz2,(S2.o.2.below hb).aB,by have:=hb.size;omega⟩);have S3:=ak IR;clear hN hb IR H3 S2;go_wp2;refine aF (j5 _ (w.heap.size+1+1) dn (.slice a4 (ws V).length c4) de er _ rfl rfl (S3.o.set _ _ _)) rfl ?_;refine Fin.jT (m:=w.heap.size+3) ?_ af
 repeat (with_reducible first | exact FV.o | refine Fin.drew ?_ | refine Fin.alloc ?_ _ | refine Fin.set ?_ _ _ _ af af)
theorem Jz {w:World}{a b:Option Addr}{l c k d:Nat}(n m:Bool) (e f:Int) (n1 m1:Bool) (X Y:Nat) (e1 f1:Int) (lX:(ws X).length<=8192) (lY:(ws Y).length<=8192) (hX:((((ws X).length:Nat):Int)==0)=false) (hY:((((ws Y).length:Nat):Int)==0)=false) (hlt:e1<f1) (Jt:-1048576<=e1) (Ju:e1<=1048576) (Jv:-1048576<=f1) (Jw:f1<=1048576)
 (kV:Hid (∀ u,Below w.heap.size w u->Calls Tryz.prog 98 #[.agg #[.bool n,.slice a l c,.int .i64 e],.agg #[.bool m,.slice b k d,.int .i64 f]] u fun r w'=>∃ v v',r=.returned (.tuple #[.agg #[.bool n1,v,.int .i64 e1],.agg #[.bool m1,v',.int .i64 f1],.int .i64 0])/\Nt u.heap.size w' v X/\Nt u.heap.size w' v' Y/\Below u.heap.size u w'))
 (qj:Hid (∀ (u:World) (p:Option Addr) (q:Nat),Below w.heap.size w u->Arg u p (ws Y).length q (ws Y)->Calls Tryz.prog 137 #[.slice p (ws Y).length q,.int .i64 (f1-e1)] u fun r w'=>∃ v,r=.returned (.tuple #[v,.int .i64 2])/\Nt u.heap.size w' v 0/\Below u.heap.size u w')):Calls Tryz.prog 100 #[.agg #[.bool n,.slice a l c,.int .i64 e],.agg #[.bool m,.slice b k d,.int .i64 f]] w fun r w'=>r=.returned (.tuple #[.agg #[.bool false,.slice none 0 0,.int .i64 0],.int .i64 2])/\Below w.heap.size w w':=by
 have l0:(ws 0).length=0:=by rw [bI];rfl
 obtain ⟨W1,hW1⟩:=ah (((w.alloc (.cells #[.bool n,.slice a l c,.int .i64 e] 25)).alloc (.cells #[.bool m,.slice b k d,.int .i64 f] 25)).alloc (.cells #[.bool false,.slice none 0 0,.int .i64 0] 25));obtain ⟨hB,hz1,DA,DB,DR⟩:=aV w n m (.slice a l c) (.slice b k d) e f W1 hW1;have H1:=hid (kV.o W1 hB);have SB:=(eu hB hz1 DA DB DR);clear hB hz1 DA DB DR kV;go_enter Tryz.func100,Tryz.ntmps100;go_wp2_with fail;rw [<-hW1];clear hW1;refine H1.o.mono ?_;rintro r u1 ⟨v,v',rfl,hN,hM,hb⟩;obtain ⟨a1,c1,rfl,_⟩:=hN.arg af;obtain ⟨a2,c2,rfl,_⟩:=hM.arg af;obtain ⟨hB,hz1,DA,DB,DR⟩:=SB.o;have EA:=DA.below hb;have EB:=DB.below hb;have ER:=DR.below hb;obtain ⟨x0,x1,x2,bE,bF,bG⟩:=EA.facts;obtain ⟨y0,y1,y2,bN,bO,bU⟩:=EB.facts;obtain ⟨r0,r1,r2,gG,gH,gI⟩:=ER.facts;have FX:=ak (show Fin w.heap.size (w.heap.size+3) w u1 (.slice a1 (ws X).length c1) X from ⟨by rw [<-hz1];exact hN,hB.trans (hb.mono af),by have:=hb.size;omega⟩);have FY:=ak (show Fin w.heap.size (w.heap.size+3) w u1 (.slice a2 (ws Y).length c2) Y from ⟨by rw [<-hz1];exact hM,hB.trans (hb.mono af),by have:=hb.size;omega⟩);have SE:=(aZ EA EB ER);clear hN hM hb H1 hB hz1 DA DB DR EA EB ER SB;obtain ⟨EA,EB,ER⟩:=SE.o;obtain ⟨U0,um⟩:=ah (cZ (cZ u1 w.heap.size (.bool n1) (.slice a1 (ws X).length c1) (.int .i64 e1)) (w.heap.size+1) (.bool m1) (.slice a2 (ws Y).length c2) (.int .i64 f1));have JA:Dk U0 w.heap.size n1 (.slice a1 (ws X).length c1) e1:=by rw [um];exact ((EA.set _ _ _).other _ af _ _ _)
 have JB:Dk U0 (w.heap.size+1) m1 (.slice a2 (ws Y).length c2) f1:=by rw [um];exact ((EB.other _ af _ _ _).set _ _ _)
 have JR:Dk U0 (w.heap.size+1+1) false (.slice none 0 0) 0:=by rw [um];exact ((ER.other _ af _ _ _).other _ af _ _ _)
 have KX:=ak (show Fin w.heap.size (w.heap.size+3) w U0 (.slice a1 (ws X).length c1) X by rw [um];exact (Fin.cZ (Fin.cZ FX.o _ _ _ _ af af) _ _ _ _ af af));have KY:=ak (show Fin w.heap.size (w.heap.size+3) w U0 (.slice a2 (ws Y).length c2) Y by rw [um];exact (Fin.cZ (Fin.cZ FY.o _ _ _ _ af af) _ _ _ _ af af));have SE:=(aZ JA JB JR);unfold cZ at um;clear EA EB ER JA JB JR
 go_upto_region 9 with fail
 rw [<-um];clear um x0 x1 x2 bE bF bG y0 y1 y2 bN bO bU r0 r1 r2 gG gH gI FX FY;obtain ⟨x0,x1,x2,bE,bF,bG⟩:=SE.o.1.facts;obtain ⟨y0,y1,y2,bN,bO,bU⟩:=SE.o.2.1.facts;obtain ⟨r0,r1,r2,gG,gH,gI⟩:=SE.o.r2.facts;obtain ⟨EA,EB,ER⟩:=SE.o;obtain ⟨U1,aS⟩:=ah (cZ (cZ U0 w.heap.size (.bool m1) (.slice a2 (ws Y).length c2) (.int .i64 f1)) (w.heap.size+1) (.bool n1) (.slice a1 (ws X).length c1) (.int .i64 e1));have IA:Dk U1 w.heap.size m1 (.slice a2 (ws Y).length c2) f1:=by rw [aS];exact ((EA.set _ _ _).other _ af _ _ _)
 have IB:Dk U1 (w.heap.size+1) n1 (.slice a1 (ws X).length c1) e1:=by rw [aS];exact ((EB.other _ af _ _ _).set _ _ _)
 have IR:Dk U1 (w.heap.size+1+1) false (.slice none 0 0) 0:=by rw [aS];exact ((ER.other _ af _ _ _).other _ af _ _ _)
 have GX:Fin w.heap.size (w.heap.size+3) w U1 (.slice a1 (ws X).length c1) X:=by rw [aS];exact (Fin.cZ (Fin.cZ KX.o _ _ _ _ af af) _ _ _ _ af af)
 have GY:Fin w.heap.size (w.heap.size+3) w U1 (.slice a2 (ws Y).length c2) Y:=by rw [aS];exact (Fin.cZ (Fin.cZ KY.o _ _ _ _ af af) _ _ _ _ af af)
 have H2:=hid (qj.o U1 a2 c2 GX.aB (GY.nt.aU af).2);have S1:=(eu IA IB IR GX GY);have Vk:w.heap.size+3<=U1.heap.size:=by have:=IR.lt;omega
 clear EA EB ER IA IB IR GX GY SE qj;unfold cZ at aS;go_wp2_with fail;rw [<-aS];clear aS x0 x1 x2 bE bF bG y0 y1 y2 bN bO bU r0 r1 r2 gG gH gI;refine H2.o.mono ?_;rintro r u2 ⟨v,rfl,hN,hb⟩;obtain ⟨a3,c3,rfl,_⟩:=hN.arg af;obtain ⟨IA,IB,IR,GX,GY⟩:=S1.o;obtain ⟨x0,x1,x2,bE,bF,bG⟩:=(IA.below hb).facts;obtain ⟨y0,y1,y2,bN,bO,bU⟩:=(IB.below hb).facts;obtain ⟨r0,r1,r2,gG,gH,gI⟩:=(IR.below hb).facts;have S2:=(aJ (IR.below hb) ((GX.below hb)));clear hN hb H2 S1 IA IB IR GX GY;go_wp2;refine aF (j5 _ (w.heap.size+1+1) false (.slice none 0 0) 0 2 _ rfl rfl (S2.o.1.set _ _ _)) rfl ⟨rfl,?_⟩;refine Fin.aB (m:=w.heap.size+3) (v:=.slice a1 (ws X).length c1) (X:=X) ?_
 repeat (with_reducible first | exact S2.o.2 | refine Fin.drew ?_ | refine Fin.alloc ?_ _ | refine Fin.set ?_ _ _ _ af af)
theorem Ng {w:World}{a b:Option Addr}{l c k d:Nat}(n m:Bool) (e f:Int) (n1 m1:Bool) (X Y:Nat) (e1 f1:Int) (lX:(ws X).length<=8192) (lY:(ws Y).length<=8192) (hX:((((ws X).length:Nat):Int)==0)=false) (hY:((((ws Y).length:Nat):Int)==0)=false) (hlt:e1<f1) (Jt:-1048576<=e1) (Ju:e1<=1048576) (Jv:-1048576<=f1) (Jw:f1<=1048576)
 (kV:Hid (∀ u,Below w.heap.size w u->Calls Tryz.prog 98 #[.agg #[.bool n,.slice a l c,.int .i64 e],.agg #[.bool m,.slice b k d,.int .i64 f]] u fun r w'=>∃ v v',r=.returned (.tuple #[.agg #[.bool n1,v,.int .i64 e1],.agg #[.bool m1,v',.int .i64 f1],.int .i64 0])/\Nt u.heap.size w' v X/\Nt u.heap.size w' v' Y/\Below u.heap.size u w')) (hs:(m1==n1)=true) (L:Nat) (lL:(ws L).length<=8192) (dn:Bool) (V:Nat) (de er:Int) (lV:(ws V).length<=8192)
 (qj:Hid (∀ (u:World) (p:Option Addr) (q:Nat),Below w.heap.size w u->Arg u p (ws Y).length q (ws Y)->Calls Tryz.prog 137 #[.slice p (ws Y).length q,.int .i64 (f1-e1)] u fun r w'=>∃ v,r=.returned (.tuple #[v,.int .i64 0])/\Nt u.heap.size w' v L/\Below u.heap.size u w'))
 (HT:Hid (∀ (u:World) (p q:Option Addr) (s t:Nat),Below w.heap.size w u->Arg u p (ws L).length s (ws L)->Arg u q (ws X).length t (ws X)->Calls Tryz.prog 138 #[.bool m1,.slice p (ws L).length s,.slice q (ws X).length t,.int .i64 e1] u fun r w'=>(∃ v,r=.returned (.tuple #[.agg #[.bool dn,v,.int .i64 de],.int .i64 er])/\Nt u.heap.size w' v V)/\Below u.heap.size u w')):Calls Tryz.prog 100 #[.agg #[.bool n,.slice a l c,.int .i64 e],.agg #[.bool m,.slice b k d,.int .i64 f]] w fun r w'=>(∃ v,r=.returned (.tuple #[.agg #[.bool dn,v,.int .i64 de],.int .i64 er])/\Nt w.heap.size w' v V)/\Below w.heap.size w w':=by
 obtain ⟨W1,hW1⟩:=ah (((w.alloc (.cells #[.bool n,.slice a l c,.int .i64 e] 25)).alloc (.cells #[.bool m,.slice b k d,.int .i64 f] 25)).alloc (.cells #[.bool false,.slice none 0 0,.int .i64 0] 25));obtain ⟨hB,hz1,DA,DB,DR⟩:=aV w n m (.slice a l c) (.slice b k d) e f W1 hW1;have H1:=hid (kV.o W1 hB);have SB:=(eu hB hz1 DA DB DR);clear hB hz1 DA DB DR kV;go_enter Tryz.func100,Tryz.ntmps100;go_wp2_with fail;rw [<-hW1];clear hW1;refine H1.o.mono ?_;rintro r u1 ⟨v,v',rfl,hN,hM,hb⟩;obtain ⟨a1,c1,rfl,_⟩:=hN.arg af;obtain ⟨a2,c2,rfl,_⟩:=hM.arg af;obtain ⟨hB,hz1,DA,DB,DR⟩:=SB.o;have EA:=DA.below hb;have EB:=DB.below hb;have ER:=DR.below hb;obtain ⟨x0,x1,x2,bE,bF,bG⟩:=EA.facts;obtain ⟨y0,y1,y2,bN,bO,bU⟩:=EB.facts;obtain ⟨r0,r1,r2,gG,gH,gI⟩:=ER.facts;have FX:=ak (show Fin w.heap.size (w.heap.size+3) w u1 (.slice a1 (ws X).length c1) X from ⟨by rw [<-hz1];exact hN,hB.trans (hb.mono af),by have:=hb.size;omega⟩);have FY:=ak (show Fin w.heap.size (w.heap.size+3) w u1 (.slice a2 (ws Y).length c2) Y from ⟨by rw [<-hz1];exact hM,hB.trans (hb.mono af),by have:=hb.size;omega⟩);have SE:=(aZ EA EB ER);clear hN hM hb H1 hB hz1 DA DB DR EA EB ER SB;obtain ⟨EA,EB,ER⟩:=SE.o;obtain ⟨U0,um⟩:=ah (cZ (cZ u1 w.heap.size (.bool n1) (.slice a1 (ws X).length c1) (.int .i64 e1)) (w.heap.size+1) (.bool m1) (.slice a2 (ws Y).length c2) (.int .i64 f1));have JA:Dk U0 w.heap.size n1 (.slice a1 (ws X).length c1) e1:=by rw [um];exact ((EA.set _ _ _).other _ af _ _ _)
 have JB:Dk U0 (w.heap.size+1) m1 (.slice a2 (ws Y).length c2) f1:=by rw [um];exact ((EB.other _ af _ _ _).set _ _ _)
 have JR:Dk U0 (w.heap.size+1+1) false (.slice none 0 0) 0:=by rw [um];exact ((ER.other _ af _ _ _).other _ af _ _ _)
 have KX:=ak (show Fin w.heap.size (w.heap.size+3) w U0 (.slice a1 (ws X).length c1) X by rw [um];exact (Fin.cZ (Fin.cZ FX.o _ _ _ _ af af) _ _ _ _ af af));have KY:=ak (show Fin w.heap.size (w.heap.size+3) w U0 (.slice a2 (ws Y).length c2) Y by rw [um];exact (Fin.cZ (Fin.cZ FY.o _ _ _ _ af af) _ _ _ _ af af));have SE:=(aZ JA JB JR);unfold cZ at um;clear EA EB ER JA JB JR
 go_upto_region 9 with fail
 rw [<-um];clear um x0 x1 x2 bE bF bG y0 y1 y2 bN bO bU r0 r1 r2 gG gH gI FX FY;obtain ⟨x0,x1,x2,bE,bF,bG⟩:=SE.o.1.facts;obtain ⟨y0,y1,y2,bN,bO,bU⟩:=SE.o.2.1.facts;obtain ⟨r0,r1,r2,gG,gH,gI⟩:=SE.o.r2.facts;obtain ⟨EA,EB,ER⟩:=SE.o;obtain ⟨U1,aS⟩:=ah (cZ (cZ U0 w.heap.size (.bool m1) (.slice a2 (ws Y).length c2) (.int .i64 f1)) (w.heap.size+1) (.bool n1) (.slice a1 (ws X).length c1) (.int .i64 e1));have IA:Dk U1 w.heap.size m1 (.slice a2 (ws Y).length c2) f1:=by rw [aS];exact ((EA.set _ _ _).other _ af _ _ _)
 have IB:Dk U1 (w.heap.size+1) n1 (.slice a1 (ws X).length c1) e1:=by rw [aS];exact ((EB.other _ af _ _ _).set _ _ _)
 have IR:Dk U1 (w.heap.size+1+1) false (.slice none 0 0) 0:=by rw [aS];exact ((ER.other _ af _ _ _).other _ af _ _ _)
 have GX:Fin w.heap.size (w.heap.size+3) w U1 (.slice a1 (ws X).length c1) X:=by rw [aS];exact (Fin.cZ (Fin.cZ KX.o _ _ _ _ af af) _ _ _ _ af af)
 have GY:Fin w.heap.size (w.heap.size+3) w U1 (.slice a2 (ws Y).length c2) Y:=by rw [aS];exact (Fin.cZ (Fin.cZ KY.o _ _ _ _ af af) _ _ _ _ af af)
 have H2:=hid (qj.o U1 a2 c2 GX.aB (GY.nt.aU af).2);have S1:=(eu IA IB IR GX GY);have Vk:w.heap.size+3<=U1.heap.size:=by have:=IR.lt;omega
 clear EA EB ER IA IB IR GX GY SE qj;unfold cZ at aS;go_wp2_with fail;rw [<-aS];clear aS x0 x1 x2 bE bF bG y0 y1 y2 bN bO bU r0 r1 r2 gG gH gI;refine H2.o.mono ?_;rintro r u2 ⟨v,rfl,hN,hb⟩;obtain ⟨a3,c3,rfl,_⟩:=hN.arg af;obtain ⟨IA,IB,IR,GX,GY⟩:=S1.o;obtain ⟨x0,x1,x2,bE,bF,bG⟩:=(IA.below hb).facts;obtain ⟨y0,y1,y2,bN,bO,bU⟩:=(IB.below hb).facts;obtain ⟨r0,r1,r2,gG,gH,gI⟩:=(IR.below hb).facts;have H3:=hid (HT.o u2 a3 a1 c3 c1 (GX.below hb).aB (hN.aU af).2 ((GX.below hb).nt.aU af).2);have S2:=(aJ (IR.below hb) ((GX.below hb)));have hz2:w.heap.size+3<=u2.heap.size:=by have:=hb.size;omega
 clear hN hb H2 S1 IA IB IR GX GY HT;go_wp2_with fail;refine H3.o.mono ?_;rintro r u3 ⟨⟨v,rfl,hN⟩,hb⟩;obtain ⟨a4,c4,rfl,_⟩:=hN.arg af;have IR:=S2.o.1.below hb;obtain ⟨s0,s1,s2,rX,rY,rZ⟩:=IR.facts;have FV:=ak (show Fin w.heap.size (w.heap.size+3) w u3 (.slice a4 (ws V).length c4) V from ⟨hN.mono hz2,(S2.o.2.below hb).aB,by have:=hb.size;omega⟩);have S3:=ak IR;clear hN hb IR H3 S2;go_wp2;refine aF (j5 _ (w.heap.size+1+1) dn (.slice a4 (ws V).length c4) de er _ rfl rfl (S3.o.set _ _ _)) rfl ?_;refine Fin.jT (m:=w.heap.size+3) ?_ af
 repeat (with_reducible first | exact FV.o | refine Fin.drew ?_ | refine Fin.alloc ?_ _ | refine Fin.set ?_ _ _ _ af af)
theorem JC {w:World}{a b:Option Addr}{l c k d:Nat}(n m:Bool) (e f:Int) (n1 m1:Bool) (X Y:Nat) (e1 f1:Int) (lX:(ws X).length<=8192) (lY:(ws Y).length<=8192) (hX:((((ws X).length:Nat):Int)==0)=false) (hY:((((ws Y).length:Nat):Int)==0)=false) (hlt:e1<f1) (Jt:-1048576<=e1) (Ju:e1<=1048576) (Jv:-1048576<=f1) (Jw:f1<=1048576)
 (kV:Hid (∀ u,Below w.heap.size w u->Calls Tryz.prog 98 #[.agg #[.bool n,.slice a l c,.int .i64 e],.agg #[.bool m,.slice b k d,.int .i64 f]] u fun r w'=>∃ v v',r=.returned (.tuple #[.agg #[.bool n1,v,.int .i64 e1],.agg #[.bool m1,v',.int .i64 f1],.int .i64 0])/\Nt u.heap.size w' v X/\Nt u.heap.size w' v' Y/\Below u.heap.size u w')) (hs:(m1==n1)=false) (L:Nat) (lL:(ws L).length<=8192) (dn:Bool) (V:Nat) (de er:Int) (lV:(ws V).length<=8192)
 (qj:Hid (∀ (u:World) (p:Option Addr) (q:Nat),Below w.heap.size w u->Arg u p (ws Y).length q (ws Y)->Calls Tryz.prog 137 #[.slice p (ws Y).length q,.int .i64 (f1-e1)] u fun r w'=>∃ v,r=.returned (.tuple #[v,.int .i64 0])/\Nt u.heap.size w' v L/\Below u.heap.size u w'))
 (HT:Hid (∀ (u:World) (p q:Option Addr) (s t:Nat),Below w.heap.size w u->Arg u p (ws L).length s (ws L)->Arg u q (ws X).length t (ws X)->Calls Tryz.prog 139 #[.bool m1,.slice p (ws L).length s,.slice q (ws X).length t,.int .i64 e1] u fun r w'=>(∃ v,r=.returned (.tuple #[.agg #[.bool dn,v,.int .i64 de],.int .i64 er])/\Nt u.heap.size w' v V)/\Below u.heap.size u w')):Calls Tryz.prog 100 #[.agg #[.bool n,.slice a l c,.int .i64 e],.agg #[.bool m,.slice b k d,.int .i64 f]] w fun r w'=>(∃ v,r=.returned (.tuple #[.agg #[.bool dn,v,.int .i64 de],.int .i64 er])/\Nt w.heap.size w' v V)/\Below w.heap.size w w':=by
 obtain ⟨W1,hW1⟩:=ah (((w.alloc (.cells #[.bool n,.slice a l c,.int .i64 e] 25)).alloc (.cells #[.bool m,.slice b k d,.int .i64 f] 25)).alloc (.cells #[.bool false,.slice none 0 0,.int .i64 0] 25));obtain ⟨hB,hz1,DA,DB,DR⟩:=aV w n m (.slice a l c) (.slice b k d) e f W1 hW1;have H1:=hid (kV.o W1 hB);have SB:=(eu hB hz1 DA DB DR);clear hB hz1 DA DB DR kV;go_enter Tryz.func100,Tryz.ntmps100;go_wp2_with fail;rw [<-hW1];clear hW1;refine H1.o.mono ?_;rintro r u1 ⟨v,v',rfl,hN,hM,hb⟩;obtain ⟨a1,c1,rfl,_⟩:=hN.arg af;obtain ⟨a2,c2,rfl,_⟩:=hM.arg af;obtain ⟨hB,hz1,DA,DB,DR⟩:=SB.o;have EA:=DA.below hb;have EB:=DB.below hb;have ER:=DR.below hb;obtain ⟨x0,x1,x2,bE,bF,bG⟩:=EA.facts;obtain ⟨y0,y1,y2,bN,bO,bU⟩:=EB.facts;obtain ⟨r0,r1,r2,gG,gH,gI⟩:=ER.facts;have FX:=ak (show Fin w.heap.size (w.heap.size+3) w u1 (.slice a1 (ws X).length c1) X from ⟨by rw [<-hz1];exact hN,hB.trans (hb.mono af),by have:=hb.size;omega⟩);have FY:=ak (show Fin w.heap.size (w.heap.size+3) w u1 (.slice a2 (ws Y).length c2) Y from ⟨by rw [<-hz1];exact hM,hB.trans (hb.mono af),by have:=hb.size;omega⟩);have SE:=(aZ EA EB ER);clear hN hM hb H1 hB hz1 DA DB DR EA EB ER SB;obtain ⟨EA,EB,ER⟩:=SE.o;obtain ⟨U0,um⟩:=ah (cZ (cZ u1 w.heap.size (.bool n1) (.slice a1 (ws X).length c1) (.int .i64 e1)) (w.heap.size+1) (.bool m1) (.slice a2 (ws Y).length c2) (.int .i64 f1));have JA:Dk U0 w.heap.size n1 (.slice a1 (ws X).length c1) e1:=by rw [um];exact ((EA.set _ _ _).other _ af _ _ _)
 have JB:Dk U0 (w.heap.size+1) m1 (.slice a2 (ws Y).length c2) f1:=by rw [um];exact ((EB.other _ af _ _ _).set _ _ _)
 have JR:Dk U0 (w.heap.size+1+1) false (.slice none 0 0) 0:=by rw [um];exact ((ER.other _ af _ _ _).other _ af _ _ _)
 have KX:=ak (show Fin w.heap.size (w.heap.size+3) w U0 (.slice a1 (ws X).length c1) X by rw [um];exact (Fin.cZ (Fin.cZ FX.o _ _ _ _ af af) _ _ _ _ af af));have KY:=ak (show Fin w.heap.size (w.heap.size+3) w U0 (.slice a2 (ws Y).length c2) Y by rw [um];exact (Fin.cZ (Fin.cZ FY.o _ _ _ _ af af) _ _ _ _ af af));have SE:=(aZ JA JB JR);unfold cZ at um;clear EA EB ER JA JB JR
 go_upto_region 9 with fail
 rw [<-um];clear um x0 x1 x2 bE bF bG y0 y1 y2 bN bO bU r0 r1 r2 gG gH gI FX FY;obtain ⟨x0,x1,x2,bE,bF,bG⟩:=SE.o.1.facts;obtain ⟨y0,y1,y2,bN,bO,bU⟩:=SE.o.2.1.facts;obtain ⟨r0,r1,r2,gG,gH,gI⟩:=SE.o.r2.facts;obtain ⟨EA,EB,ER⟩:=SE.o;obtain ⟨U1,aS⟩:=ah (cZ (cZ U0 w.heap.size (.bool m1) (.slice a2 (ws Y).length c2) (.int .i64 f1)) (w.heap.size+1) (.bool n1) (.slice a1 (ws X).length c1) (.int .i64 e1));have IA:Dk U1 w.heap.size m1 (.slice a2 (ws Y).length c2) f1:=by rw [aS];exact ((EA.set _ _ _).other _ af _ _ _)
 have IB:Dk U1 (w.heap.size+1) n1 (.slice a1 (ws X).length c1) e1:=by rw [aS];exact ((EB.other _ af _ _ _).set _ _ _)
 have IR:Dk U1 (w.heap.size+1+1) false (.slice none 0 0) 0:=by rw [aS];exact ((ER.other _ af _ _ _).other _ af _ _ _)
 have GX:Fin w.heap.size (w.heap.size+3) w U1 (.slice a1 (ws X).length c1) X:=by rw [aS];exact (Fin.cZ (Fin.cZ KX.o _ _ _ _ af af) _ _ _ _ af af)
 have GY:Fin w.heap.size (w.heap.size+3) w U1 (.slice a2 (ws Y).length c2) Y:=by rw [aS];exact (Fin.cZ (Fin.cZ KY.o _ _ _ _ af af) _ _ _ _ af af)
 have H2:=hid (qj.o U1 a2 c2 GX.aB (GY.nt.aU af).2);have S1:=(eu IA IB IR GX GY);have Vk:w.heap.size+3<=U1.heap.size:=by have:=IR.lt;omega
 clear EA EB ER IA IB IR GX GY SE qj;unfold cZ at aS;go_wp2_with fail;rw [<-aS];clear aS x0 x1 x2 bE bF bG y0 y1 y2 bN bO bU r0 r1 r2 gG gH gI;refine H2.o.mono ?_;rintro r u2 ⟨v,rfl,hN,hb⟩;obtain ⟨a3,c3,rfl,_⟩:=hN.arg af;obtain ⟨IA,IB,IR,GX,GY⟩:=S1.o;obtain ⟨x0,x1,x2,bE,bF,bG⟩:=(IA.below hb).facts;obtain ⟨y0,y1,y2,bN,bO,bU⟩:=(IB.below hb).facts;obtain ⟨r0,r1,r2,gG,gH,gI⟩:=(IR.below hb).facts;have H3:=hid (HT.o u2 a3 a1 c3 c1 (GX.below hb).aB (hN.aU af).2 ((GX.below hb).nt.aU af).2);have S2:=(aJ (IR.below hb) ((GX.below hb)));have hz2:w.heap.size+3<=u2.heap.size:=by have:=hb.size;omega
 clear hN hb H2 S1 IA IB IR GX GY HT;go_wp2_with fail;refine H3.o.mono ?_;rintro r u3 ⟨⟨v,rfl,hN⟩,hb⟩;obtain ⟨a4,c4,rfl,_⟩:=hN.arg af;have IR:=S2.o.1.below hb;obtain ⟨s0,s1,s2,rX,rY,rZ⟩:=IR.facts;have FV:=ak (show Fin w.heap.size (w.heap.size+3) w u3 (.slice a4 (ws V).length c4) V from ⟨hN.mono hz2,(S2.o.2.below hb).aB,by have:=hb.size;omega⟩);have S3:=ak IR;clear hN hb IR H3 S2;go_wp2;refine aF (j5 _ (w.heap.size+1+1) dn (.slice a4 (ws V).length c4) de er _ rfl rfl (S3.o.set _ _ _)) rfl ?_;refine Fin.jT (m:=w.heap.size+3) ?_ af
 repeat (with_reducible first | exact FV.o | refine Fin.drew ?_ | refine Fin.alloc ?_ _ | refine Fin.set ?_ _ _ _ af af)
def jM (n:Bool) (X:Nat) (e:Int) (m:Bool) (Y:Nat) (f:Int):Option (Bool×Nat×Int) :=
 if 262144<bl X+(e-f).toNat then none
 else if n=m then mkS n (X*2^(e-f).toNat+Y) f
 else if Y<=X*2^(e-f).toNat then mkS n (X*2^(e-f).toNat-Y) f
 else mkS (!n) (Y-X*2^(e-f).toNat) f
def qY (x y:Bool×Nat×Int):Option (Bool×Nat×Int) :=
 if x.2.1=0 then some y else if y.2.1=0 then some x
 else if x.2.2<y.2.2 then jM y.1 y.2.1 y.2.2 x.1 x.2.1 x.2.2 else jM x.1 x.2.1 x.2.2 y.1 y.2.1 y.2.2
def iF (o p:Option (Bool×Nat×Int)):Option (Bool×Nat×Int) :=
 match o,p with
 | some x,some y=>qY x y
 | _,_=>none
theorem wC (X:Nat) (b:Int) (h0:0<=b) (hX:X≠0) (hl:bl X<=262144):aW X b=if 262144<bl X+b.toNat then (0,2) else (X*2^b.toNat,0):=by
 unfold aW;rw [if_neg (lJ hl),if_neg hX,if_neg af]
 by_cases h:262144<bl X+b.toNat
 · rw [if_pos h,if_pos af]
 · rw [if_neg h,if_neg af]
theorem Cg (X b:Nat) (hX:X≠0):bl (X*2^b)=bl X+b:=by rw [df,qh b X hX];omega
theorem kr {w:World}{p:Option Addr}{q X:Nat}(b:Int) (L:Nat) (er:Int) (hA:Arg w p (ws X).length q (ws X)) (hb0:-9223372036854775808<=b) (hb1:b<=9223372036854775807) (h:aW X b=(L,er)) :
 Calls Tryz.prog 137 #[.slice p (ws X).length q,.int .i64 b] w fun r w'=>∃ v,r=.returned (.tuple #[v,.int .i64 er])/\Nt w.heap.size w' v L/\Below w.heap.size w w':=by
 have:=yx (ws X) p (ws X).length q w.heap.size b w hA.len hA.cap (by have:=hA.big;omega) hA.wf hA.rd (aC _) hb0 hb1;rw [aj,h] at this;exact this.mono fun r w' ⟨⟨v,h1,h2⟩,h3⟩=>⟨v,h1,h2,h3⟩
theorem Nh {w u:World}{p q:Option Addr}{s t L Y:Nat}(hT:dJ w) (hu:Below w.heap.size w u) (A1:Arg u p (ws L).length s (ws L)) (A2:Arg u q (ws Y).length t (ws Y)) (n:Bool) (f:Int) (h0:-1048576<=f) (h1:f<=1048576) (oY:Y%2=1) (bL:bl L<=262144) (bY:bl Y<=262144) :
 Calls Tryz.prog 138 #[.bool n,.slice p (ws L).length s,.slice q (ws Y).length t,.int .i64 f] u fun r w'=>cK u.heap.size w' r (mkS n (L+Y) f)/\Below u.heap.size u w' :=
 QU A1 A2 (hT.belows hu) n f h0 h1 L Y (aj L) (aj Y) oY bL bY
theorem GZ {w u:World}{p q:Option Addr}{s t L Y:Nat}(hT:dJ w) (hu:Below w.heap.size w u) (A1:Arg u p (ws L).length s (ws L)) (A2:Arg u q (ws Y).length t (ws Y)) (n:Bool) (f:Int) (h0:-1048576<=f) (h1:f<=1048576) (bL:bl L<=262144) (bY:bl Y<=262144) :
 Calls Tryz.prog 139 #[.bool n,.slice p (ws L).length s,.slice q (ws Y).length t,.int .i64 f] u fun r w'=>cK u.heap.size w' r (if Y<=L then mkS n (L-Y) f else mkS (!n) (Y-L) f)/\Below u.heap.size u w':=by
 by_cases h:Y<=L
 · rw [if_pos h];exact Jq A1 A2 (hT.belows hu) n f h0 h1 L Y (aj L) (aj Y) bL bY h
 · rw [if_neg h];exact M8 A1 A2 (hT.belows hu) n f h0 h1 L Y (aj L) (aj Y) bL bY af
theorem dD {X:Nat}(h:X≠0):((((ws X).length:Nat):Int)==0)=false:=beq_eq_false_iff_ne.2 (by have:(ws X).length≠0:=fun e=>h ((bz X).1 e);omega)
theorem Ch {w:World}{a b:Option Addr}{l c k d:Nat}{xs ys:List Nat}(h1:Arg w a l c xs) (h2:Arg w b k d ys) (hT:dJ w) (n m:Bool) (e f:Int) (he0:-9223372036854775808<=e) (he1:e<=9223372036854775807) (hf0:-9223372036854775808<=f) (hf1:f<=9223372036854775807) :
 Calls Tryz.prog 100 #[.agg #[.bool n,.slice a l c,.int .i64 e],.agg #[.bool m,.slice b k d,.int .i64 f]] w fun r w'=>cK w.heap.size w' r (iF (mkS n (val xs) e) (mkS m (val ys) f))/\Below w.heap.size w w':=by
 have zero:∀ {r:Ending} {w':World},(r=.returned (.tuple #[.agg #[.bool false,.slice none 0 0,.int .i64 0],.int .i64 2])/\Below w.heap.size w w')->cK w.heap.size w' r none/\Below w.heap.size w w':=fun ⟨h1,h2⟩=>⟨⟨_,h1,Nt.nil _ _⟩,h2⟩
 cases hx:mkS n (val xs) e with
 | none =>
   exact (GV n m e f (hid fun u hu=>wz (h1.below hu) (h2.below hu) (hT.belows hu) n m e f he0 he1 hf0 hf1 hx)).mono fun r w' h=>zero h
 | some x =>
   obtain ⟨n1,X,e1⟩:=x
   cases hy:mkS m (val ys) f with
   | none =>
     exact (GV n m e f (hid fun u hu=>wB (h1.below hu) (h2.below hu) (hT.belows hu) n m e f he0 he1 hf0 hf1 n1 X e1 hx hy)).mono fun r w' h=>zero h
   | some y =>
     obtain ⟨m1,Y,f1⟩:=y;have kV:=hid fun u (hu:Below w.heap.size w u)=>Cf (h1.below hu) (h2.below hu) (hT.belows hu) n m e f he0 he1 hf0 hf1 n1 m1 X Y e1 f1 hx hy;have FX:=bM hx;have FY:=bM hy;have lX:=dH FX;have lY:=dH FY;have:=FX.up;have:=FX.down;have:=FY.up;have:=FY.down;show Calls _ _ _ _ fun r w'=>cK w.heap.size w' r (qY (n1,X,e1) (m1,Y,f1))/\_;unfold qY;simp only
     by_cases hX0:X=0
     · rw [if_pos hX0];exact Nc n m e f n1 m1 X Y e1 f1 lX lY ((bz X).2 hX0) kV
     · rw [if_neg hX0]
       by_cases hY0:Y=0
       · rw [if_pos hY0];exact Jr n m e f n1 m1 X Y e1 f1 lX lY (dD hX0) ((bz Y).2 hY0) kV
       · rw [if_neg hY0];have oX:X%2=1:=by rcases FX.odd with h | h <;> omega
         have oY:Y%2=1:=by rcases FY.odd with h | h <;> omega
         by_cases hlt:e1<f1
         · rw [if_pos hlt];have hsh:=wC Y (f1-e1) af hY0 FY.size;unfold jM
           by_cases hL:262144<bl Y+(f1-e1).toNat
           · rw [if_pos hL] at hsh |-;exact (Jz n m e f n1 m1 X Y e1 f1 lX lY (dD hX0) (dD hY0) hlt af af af af kV (hid fun u p q hu hA=>kr (f1-e1) 0 2 hA af af hsh)).mono fun r w' h=>zero h
           · rw [if_neg hL] at hsh |-;have hbl:=Cg Y (f1-e1).toNat hY0;obtain ⟨L,TY⟩:∃ L,Y*2^(f1-e1).toNat=L:=⟨_,rfl⟩;rw [TY] at hsh hbl |-;have lL:=len8 (X:=L) af
             by_cases hs:m1=n1
             · rw [if_pos hs]
               exact Ng n m e f n1 m1 X Y e1 f1 lX lY (dD hX0) (dD hY0) hlt af af af af kV (by simp [hs]) L lL _ _ _ _ (aM m1 (L+X) e1) (hid fun u p q hu hA=>kr (f1-e1) L 0 hA af af hsh)
                (hid fun u p q s t hu hA hB=>Nh hT hu hA hB m1 e1 af af oX af FX.size)
             · rw [if_neg hs];have hlen:(ws (dX (if X<=L then mkS m1 (L-X) e1 else mkS (!m1) (X-L) e1))).length<=8192:=by split <;> exact aM _ _ _
               exact JC n m e f n1 m1 X Y e1 f1 lX lY (dD hX0) (dD hY0) hlt af af af af kV (by simp [hs]) L lL _ _ _ _ hlen (hid fun u p q hu hA=>kr (f1-e1) L 0 hA af af hsh)
                (hid fun u p q s t hu hA hB=>GZ hT hu hA hB m1 e1 af af af FX.size)
         · rw [if_neg hlt];have hsh:=wC X (e1-f1) af hX0 FX.size;have Vl:decide (e1<f1)=false:=decide_eq_false hlt;unfold jM
           by_cases hL:262144<bl X+(e1-f1).toNat
           · rw [if_pos hL] at hsh |-;exact (Js n m e f n1 m1 X Y e1 f1 lX lY (dD hX0) (dD hY0) Vl af af af af kV (hid fun u p q hu hA=>kr (e1-f1) 0 2 hA af af hsh)).mono fun r w' h=>zero h
           · rw [if_neg hL] at hsh |-;have hbl:=Cg X (e1-f1).toNat hX0;obtain ⟨L,TY⟩:∃ L,X*2^(e1-f1).toNat=L:=⟨_,rfl⟩;rw [TY] at hsh hbl |-;have lL:=len8 (X:=L) af
             by_cases hs:n1=m1
             · rw [if_pos hs]
               exact Nf n m e f n1 m1 X Y e1 f1 lX lY (dD hX0) (dD hY0) Vl af af af af kV (by simp [hs]) L lL _ _ _ _ (aM n1 (L+Y) f1) (hid fun u p q hu hA=>kr (e1-f1) L 0 hA af af hsh)
                (hid fun u p q s t hu hA hB=>Nh hT hu hA hB n1 f1 af af oY af FY.size)
             · rw [if_neg hs];have hlen:(ws (dX (if Y<=L then mkS n1 (L-Y) f1 else mkS (!n1) (Y-L) f1))).length<=8192:=by split <;> exact aM _ _ _
               exact Jy n m e f n1 m1 X Y e1 f1 lX lY (dD hX0) (dD hY0) Vl af af af af kV (by simp [hs]) L lL _ _ _ _ hlen (hid fun u p q hu hA=>kr (e1-f1) L 0 hA af af hsh)
                (hid fun u p q s t hu hA hB=>GZ hT hu hA hB n1 f1 af af af FY.size)
end
namespace B
open Ieee
theorem zT (f:Format) (j c:Nat) (h:j=0\/f.binade<=c) (hc:c<=2*f.binade):val f (j*f.binade+c)=c*2^j:=by
 have hb:=jC f;unfold val;generalize f.binade=B at *
 by_cases h1:c<B
 · have hj:j=0:=af
   subst hj;rw [eQ,dS,if_pos h1,fC,fo]
 · have h2:¬ j*B+c<B:=by
    have:=pQ (j*B);omega
   rw [if_neg h2]
   by_cases h3:c=2*B
   · subst h3;have e:j*B+2*B=(j+2)*B:=by rw [fF]
     rw [e,Nat.mul_mod_left,Nat.mul_div_cancel _ hb,gM,show j+2-1=j+1 from rfl,gY,df 2 B,aN,df 2]
   · have e:j*B+c=B*(j+1)+(c-B):=by
      rw [Bb,df j];omega
     have e1:(j*B+c)%B=c-B:=by rw [e,Nat.mul_add_mod,lD af]
     have e2:(j*B+c)/B=j+1:=by rw [e,Nat.mul_add_div hb,gQ af]
     rw [e1,e2,kD,show B+(c-B)=c from by omega]
theorem zU (f:Format) (neg:Bool) (mag k a:Nat) (hm:mag≠0) :
 ∃ R,f.nearest neg mag (f.leastPlace+(k:Int)-(a:Int))=f.word neg (min R f.infRung) /\
   (val f R*2^a<=mag*2^k->mag*2^k<val f (R+1)*2^a) /\
   (mag*2^k<val f R*2^a->0<R/\val f (R-1)*2^a<mag*2^k):=by
 unfold Format.nearest;rw [if_neg hm];simp only [BK,zb];have hl:=(Nat.log2_eq_iff hm (k:=mag.log2)).1 rfl;generalize mag.log2=L at *;have hB:f.binade=2^f.fractionBits:=rfl;have hb:=jC f
 obtain ⟨j,hj⟩:∃ j:Nat,max (f.leastPlace+(k:Int)-(a:Int)+(L:Int)-(f.fractionBits:Int)) f.leastPlace=f.leastPlace+j :=
  ⟨(max (f.leastPlace+(k:Int)-(a:Int)+(L:Int)-(f.fractionBits:Int)) f.leastPlace-f.leastPlace).toNat,af⟩
 have hj1:k+L<=a+f.fractionBits+j:=af
 have hj2:j=0\/k+L=a+f.fractionBits+j:=af
 rw [hj];have e3:(f.leastPlace+(j:Int)-f.leastPlace).toNat=j:=af
 have e1:(f.leastPlace+(k:Int)-(a:Int)-(f.leastPlace+(j:Int))).toNat=k-(a+j):=af
 have e2:(f.leastPlace+(j:Int)-(f.leastPlace+(k:Int)-(a:Int))).toNat=a+j-k:=af
 rw [e1,e2,e3];have hg:0<2^(a+j-k):=bu _
 -- V*g=m'*2^(a+j)
 have hV:mag*2^k*2^(a+j-k)=mag*2^(k-(a+j))*2^(a+j):=by
  rw [aN,aN,<-aL,<-aL];congr 2;omega
 have up:mag*2^(k-(a+j))<2*f.binade*2^(a+j-k):=by
  have:2*f.binade=2^(f.fractionBits+1):=by rw [hB,gY,df]
  rw [this,<-aL];refine iC (fD hl.2 (bu _)) ?_;rw [<-aL];exact fB af af
 have dn:j=0\/f.binade*2^(a+j-k)<=mag*2^(k-(a+j)):=by
  rcases hj2 with h|h
  · exact Or.inl h
  · right
    refine dP ?_ (fO _ hl.1);rw [hB,<-aL,<-aL];exact fB af af
 generalize hm':mag*2^(k-(a+j))=m' at *;generalize 2^(a+j-k)=g at *;generalize mag*2^k=V at *;have T9:=pK m' g;have hmod:=nD m' hg;have hlow:m'/g<2*f.binade:=(qE hg).2 up
 have Xr:j=0\/f.binade<=m'/g:=by
  rcases dn with h|h
  · exact Or.inl h
  · exact Or.inr ((qH hg).2 h)
 have hp2:0<2^(a+j):=bu _
 -- the bounds
 have b1:m'/g*2^(a+j)<=V:=by
  refine Nat.le_of_mul_le_mul_right ?_ hg;rw [hV,yf];exact fO _ (by rw [df];omega)
 have b2:V<(m'/g+1)*2^(a+j):=by
  refine Bg (a:=g) ?_;rw [hV,yf];refine fD ?_ hp2;rw [fF,iD,df];omega
 have b3:m'%g≠0->m'/g*2^(a+j)<V:=by
  intro hr;refine Bg (a:=g) ?_;rw [hV,yf];refine fD ?_ hp2;rw [df];omega
 have v0:val f (j*f.binade+m'/g)*2^a=m'/g*2^(a+j):=by
  rw [zT f j _ Xr af,aN,<-aL,pM j a]
 have v1:val f (j*f.binade+(m'/g+1))*2^a=(m'/g+1)*2^(a+j):=by
  rw [zT f j _ af af,aN,<-aL,pM j a]
 refine ⟨j*f.binade+TT m' g,rfl,?_,?_⟩
 · unfold TT
   cases hc:(decide (g<2*(m'%g)) || (g==2*(m'%g)&&m'/g%2==1))
   · intro _;simp only [kH,gM];rw [pJ,v1];exact b2
   · intro h;simp only [kG] at h;rw [v1] at h;omega
 · unfold TT
   cases hc:(decide (g<2*(m'%g)) || (g==2*(m'%g)&&m'/g%2==1))
   · intro h;simp only [kH,gM] at h;rw [v0] at h;omega
   · intro _;simp only [kG];refine ⟨Nat.succ_pos _,?_⟩;rw [show j*f.binade+(m'/g+1)-1=j*f.binade+m'/g from rfl,v0];refine b3 (fun hr=>?_);rw [hr] at hc;simp at hc;omega
theorem wD (f:Format) (neg:Bool) (mag k a r:Nat) (hr:r<f.infRung) (h:mag*2^k=val f r*2^a) (hm:mag≠0) :
 f.nearest neg mag (f.leastPlace+(k:Int)-(a:Int))=f.word neg r:=by
 obtain ⟨R,e,h1,h2⟩:=zU f neg mag k a hm;have hp:0<2^a:=bu _
 have:R=r:=by
  by_cases c:val f R*2^a<=mag*2^k
  · have c2:=h1 c;rw [h] at c c2;have d1:=Nat.le_of_mul_le_mul_right c hp;have d2:=(iq f).1 (Bg c2);have d3:¬ r<R:=fun hh=>by have:=dh f hh;omega
    omega
  · have c2:=h2 af;rw [h] at c c2;have d1:=(iq f).1 (Bg (a:=2^a) (Nat.lt_of_not_le c));have d2:=(iq f).1 (Bg c2.2);omega
 rw [e,this,jf af]
end B
namespace B
open Go.RowKit
attribute [local go_sem] cO aI
theorem yL (f:Ieee.Format) (hs:f.infRung<f.signWeight) (s t:Bool) (r u v a:Nat) (ha:f.leastPlace=-(a:Int)) (hr:r<f.infRung) (hu:u<f.infRung) (hv:v<f.infRung)
 (h:val f r*val f u=val f v*2^a) (h0:val f r≠0) (h1:val f u≠0):f.mul (f.word s r) (f.word t u)=some (f.word (s ^^ t) v):=by
 obtain ⟨m,k,e1,v1⟩:=mq f s r hr hs;obtain ⟨n,j,e2,v2⟩:=mq f t u hu hs;unfold Ieee.Format.mul;rw [e1,e2];show some (f.nearest (s ^^ t) (m*n) (f.leastPlace+k+(f.leastPlace+j)))=_;have e:f.leastPlace+(k:Int)+(f.leastPlace+(j:Int))=f.leastPlace+((k+j:Nat):Int)-(a:Int):=af
 have Ea:m*n≠0:=by
  intro h2;rcases Nat.mul_eq_zero.1 h2 with h3|h3
  · subst h3;simp at v1;exact h0 v1.symm
  · subst h3;simp at v2;exact h1 v2.symm
 rw [e,wD f _ (m*n) (k+j) a v hv ?_ Ea];rw [<-h,<-v1,<-v2,aL]
 grind
theorem Ni (a:Nat) (h:a<2^63):a &&& 2^63=0:=by
 apply Nat.eq_of_testBit_eq;intro i;rw [Nat.testBit_and,Nat.testBit_two_pow,Nat.zero_testBit]
 by_cases hi:63=i
 · subst hi;rw [zn h];rfl
 · simp [hi]
theorem ED (e g:Nat) (he:e<2048) (hg:g<4503599627370496):bits .andNot .u64 ((bw false e g:Nat):Int) 9218868437227405312=(g:Int):=by
 have h:=u64_andNot_nat (bw false e g) 9218868437227405312 (yB false e g he hg) af;rw [show (((9218868437227405312:Nat)):Int)=9218868437227405312 from rfl] at h;rw [h];have hb:bw false e g=e*4503599627370496+g:=by unfold bw;simp
 have hlt:bw false e g<2^63:=by rw [hb];omega
 have e1:18446744073709551615-9218868437227405312=2^63 ||| (2^52-1):=au
 rw [e1,Nat.and_or_distrib_left,DY,Ni _ hlt,Nat.zero_or,hb];omega
theorem wE (E g:Nat) (hE:E<2048) (hg:g<4503599627370496):bits .or .u64 (g:Int) ((E:Int)*4503599627370496)=((bw false E g:Nat):Int):=by
 have hc:bits .or .u64 (g:Int) ((E:Int)*4503599627370496)=bits .or .u64 ((E:Int)*4503599627370496) (g:Int):=by simp only [bits,BitVec.or_comm]
 rw [hc,bits_join .u64 64 au wraps_u64 52 ((E:Int)*4503599627370496) (g:Int) af af af af af af];unfold bw;simp
theorem Vm (e g:Nat) (he:e<2047) (hg:g<4503599627370496) (w:World) :
 Calls Tryz.prog 188 #[.float .f64 (bw false e g),.int .i64 0] w fun r w'=>r=.returned (.bool false)/\w'=w:=by
 have H:=hid (zQ false e g af hg w);have h1:=Vi false e g af hg;have h2:(!false&&(e==2047&&g==0))=false:=by simp;omega
 rw [h2] at h1;generalize bw false e g=b at *;go_enter Tryz.func188,Tryz.ntmps188;go_wp2_with fail;refine H.o.mono ?_;rintro r w1 ⟨rfl,rfl⟩;go_wp2;go_ret;exact ⟨rfl,rfl⟩
theorem xP (e g:Nat) (h0:0<e) (he:e<2047) (hg:g<4503599627370496) (w:World) :
 Calls Tryz.prog 190 #[.float .f64 (bw false e g)] w fun r w'=>r=.returned (.tuple #[.float .f64 (bw false e g),.int .i64 0])/\w'=w:=by
 have H:=hid (zQ false e g af hg w);have h1:=MN false false e g 1 0 af hg af af
 have h3:(!odd e g&&(!odd 1 0&&decide (pl false e g<pl false 1 0)))=false:=by
  have:¬ pl false e g<pl false 1 0:=by unfold pl sg;simp;omega
  simp [this]
 rw [h3,show bw false 1 0=4503599627370496 from rfl] at h1;generalize bw false e g=b at *;clear h3;go_enter Tryz.func190,Tryz.ntmps190;go_wp2_with fail;refine H.o.mono ?_;rintro r w1 ⟨rfl,rfl⟩;go_wp2
 go_ret2
 exact ⟨rfl,rfl⟩
theorem QV (w:World):Calls Tryz.prog 119 #[.int .i64 1] w fun r w'=>r=.returned (.float .f64 9218868437227405312)/\w'=w:=by
 go_enter Tryz.func119,Tryz.ntmps119;go_wp2;go_ret;exact ⟨rfl,rfl⟩
theorem zV (e g:Nat) (he:e<2048) (hg:g<4503599627370496) (w:World) :
 Calls Tryz.prog 148 #[.float .f64 (bw false e g),.float .f64 13830554455654793216] w fun r w'=>r=.returned (.float .f64 (bw true e g))/\w'=w:=by
 have h1:=MR false e g he hg;have h2:bits .and .u64 13830554455654793216 9223372036854775808=9223372036854775808:=au
 have hb:bw false e g=e*4503599627370496+g:=by unfold bw;simp
 have h3:=Qt ((bw false e g:Nat):Int) af (by rw [hb];omega);have h4:((bw false e g:Nat):Int)+9223372036854775808=((bw true e g:Nat):Int):=by unfold bw;simp;omega
 rw [h4] at h3;generalize bw false e g=b at *;generalize bw true e g=d at *;clear hb h4;go_enter Tryz.func148,Tryz.ntmps148;go_wp2;go_ret;exact ⟨aO,rfl⟩
end B
namespace B
open Go.RowKit
attribute [local go_sem] cO aI
theorem wF (b e g d:Nat) (x y z:Int) (w:World) (hb:b<9223372036854775808) (hx0:-3000<=x) (hx1:x<=3000) (he0:0<e) (he1:e<2047) (hg:g<4503599627370496)
 (z0:(FloatKind.f64.format.order b 0==some .eq)=false)
 (HI:Hid (∀ u,Calls Tryz.prog 188 #[.float .f64 b,.int .i64 0] u fun r w'=>r=.returned (.bool false)/\w'=u))
 (HN:Hid (∀ u,Calls Tryz.prog 189 #[.float .f64 b] u fun r w'=>r=.returned (.bool false)/\w'=u))
 (HZ:Hid (∀ u,Calls Tryz.prog 190 #[.float .f64 b] u fun r w'=>r=.returned (.tuple #[.float .f64 b,.int .i64 0])/\w'=u))
 (e1:bits .and .i64 ((b:Int)/4503599627370496) 2047=(e:Int)) (mc:bits .andNot .u64 (b:Int) 9218868437227405312=(g:Int))
 (ey:x+((e:Int)-1023)=y) (hy0:-1022<=y) (hy1:y<=1023) (ez:(y+1023)*4503599627370496=z) (hz0:0<=z) (hz1:z<9223372036854775808) (je:bits .or .u64 (g:Int) z=(d:Int))
 (mu:∀ u:World,(binOp .mul 28 (.float .f64 4607182418800017408) (.float .f64 d)).run Tryz.prog u=.ok (.float .f64 d) u) :
 Calls Tryz.prog 176 #[.float .f64 b,.int .i64 x] w fun r w'=>r=.returned (.float .f64 d)/\w'=w:=by
 go_enter Tryz.func176,Tryz.ntmps176;go_wp2_with fail;refine (fP (HI.o _)) ?_;rintro r w1 ⟨rfl,hw⟩;rw [hw];clear hw w1;go_wp2_with fail;refine (fP (HN.o _)) ?_;rintro r w1 ⟨rfl,hw⟩;rw [hw];clear hw w1;go_wp2_with fail;refine (fP (HZ.o _)) ?_;rintro r w1 ⟨rfl,hw⟩;rw [hw];clear hw w1;go_wp2;go_ret;exact ⟨rfl,rfl⟩
theorem JD (b e g d c:Nat) (x y y2 z:Int) (w:World) (hb:b<9223372036854775808) (hx0:-3000<=x) (hx1:x<=3000) (he0:0<e) (he1:e<2047) (hg:g<4503599627370496)
 (z0:(FloatKind.f64.format.order b 0==some .eq)=false)
 (HI:Hid (∀ u,Calls Tryz.prog 188 #[.float .f64 b,.int .i64 0] u fun r w'=>r=.returned (.bool false)/\w'=u))
 (HN:Hid (∀ u,Calls Tryz.prog 189 #[.float .f64 b] u fun r w'=>r=.returned (.bool false)/\w'=u))
 (HZ:Hid (∀ u,Calls Tryz.prog 190 #[.float .f64 b] u fun r w'=>r=.returned (.tuple #[.float .f64 b,.int .i64 0])/\w'=u))
 (e1:bits .and .i64 ((b:Int)/4503599627370496) 2047=(e:Int)) (mc:bits .andNot .u64 (b:Int) 9218868437227405312=(g:Int))
 (ey:x+((e:Int)-1023)=y) (hy0:-1075<=y) (hy1:y < -1022) (ey2:y+53=y2) (hy2:-1022<=y2) (hy3:y2<=1023) (ez:(y2+1023)*4503599627370496=z) (hz0:0<=z) (hz1:z<9223372036854775808) (je:bits .or .u64 (g:Int) z=(d:Int))
 (mu:∀ u:World,(binOp .mul 28 (.float .f64 4368491638549381120) (.float .f64 d)).run Tryz.prog u=.ok (.float .f64 c) u) :
 Calls Tryz.prog 176 #[.float .f64 b,.int .i64 x] w fun r w'=>r=.returned (.float .f64 c)/\w'=w:=by
 go_enter Tryz.func176,Tryz.ntmps176;go_wp2_with fail;refine (fP (HI.o _)) ?_;rintro r w1 ⟨rfl,hw⟩;rw [hw];clear hw w1;go_wp2_with fail;refine (fP (HN.o _)) ?_;rintro r w1 ⟨rfl,hw⟩;rw [hw];clear hw w1;go_wp2_with fail;refine (fP (HZ.o _)) ?_;rintro r w1 ⟨rfl,hw⟩;rw [hw];clear hw w1;go_wp2;go_ret;exact ⟨rfl,rfl⟩
theorem JE (b e g:Nat) (x y:Int) (w:World) (hb:b<9223372036854775808) (hx0:-3000<=x) (hx1:x<=3000) (he0:0<e) (he1:e<2047) (hg:g<4503599627370496)
 (z0:(FloatKind.f64.format.order b 0==some .eq)=false)
 (HI:Hid (∀ u,Calls Tryz.prog 188 #[.float .f64 b,.int .i64 0] u fun r w'=>r=.returned (.bool false)/\w'=u))
 (HN:Hid (∀ u,Calls Tryz.prog 189 #[.float .f64 b] u fun r w'=>r=.returned (.bool false)/\w'=u))
 (HZ:Hid (∀ u,Calls Tryz.prog 190 #[.float .f64 b] u fun r w'=>r=.returned (.tuple #[.float .f64 b,.int .i64 0])/\w'=u))
 (e1:bits .and .i64 ((b:Int)/4503599627370496) 2047=(e:Int)) (mc:bits .andNot .u64 (b:Int) 9218868437227405312=(g:Int))
 (ey:x+((e:Int)-1023)=y) (hy0:1023<y) (z1:(FloatKind.f64.format.order b 0==some .lt)=false) :
 Calls Tryz.prog 176 #[.float .f64 b,.int .i64 x] w fun r w'=>r=.returned (.float .f64 9218868437227405312)/\w'=w:=by
 go_enter Tryz.func176,Tryz.ntmps176;go_wp2_with fail;refine (fP (HI.o _)) ?_;rintro r w1 ⟨rfl,hw⟩;rw [hw];clear hw w1;go_wp2_with fail;refine (fP (HN.o _)) ?_;rintro r w1 ⟨rfl,hw⟩;rw [hw];clear hw w1;go_wp2_with fail;refine (fP (HZ.o _)) ?_;rintro r w1 ⟨rfl,hw⟩;rw [hw];clear hw w1;go_wp2_with fail;refine (fP (QV _)) ?_;rintro r w1 ⟨rfl,hw⟩;rw [hw];clear hw w1;go_wp2;go_ret;exact ⟨rfl,rfl⟩
end B
namespace B
open Go.RowKit
theorem Nj (X:Nat) (h:X<=9007199254740991):bl X<=53:=by
 by_cases h0:X=0
 · subst h0;rw [dG];omega
 · have:=(jw (a:=2) af).1 (gN (gT X h0) (show X<2^53 by omega));omega
theorem EF (z:Nat) (hz:z<18446744073709551616):bits .and .u64 (z:Int) 1=((z%2:Nat):Int):=by
 have h:=bits_mask .u64 64 au wraps_u64 1 au (z:Int) af af;rw [show ((2:Int)^1-1)=1 from rfl] at h;rw [h];omega
def LP:Nat:=1074
theorem ZZ:Ieee.double.leastPlace=-(LP:Int):=au
theorem sQ (e g:Nat) (he:0<e) (hg:g<4503599627370496):val Ieee.double (e*4503599627370496+g)=(4503599627370496+g)*2^(e-1):=by
 obtain ⟨j,rfl⟩:∃ j,e=j+1:=⟨e-1,af⟩;have h:=zT Ieee.double j (4503599627370496+g) (.inr (by rw [Eo];omega)) (by rw [Eo];omega);rw [Eo] at h;rw [show (j+1)*4503599627370496+g=j*4503599627370496+(4503599627370496+g) by omega,h];rfl
theorem Nk (r:Nat) (h:r<4503599627370496):val Ieee.double r=r:=by unfold val;rw [Eo,if_pos h]
theorem Ua:(4503599627370496:Nat)=2^52:=rfl
structure Whole (c e g:Nat):Prop where
 e0:0<e
 e1:e<1077
 g0:g<4503599627370496
 v:(4503599627370496+g)*2^(e-1)=c*2^LP
 ex:e=bl c+1022
 gx:∀ k,bl c+k=53->4503599627370496+g=c*2^k
 top:bl c=54->g=0
theorem Nl (c:Nat) (h0:0<c) (h1:c<=9007199254740992):∃ e g,Whole c e g:=by
 by_cases ht:c=9007199254740992
 · subst ht;have hb:bl 9007199254740992=54:=Bt _ 53 au au;obtain ⟨e,he⟩:∃ e,e=1076:=⟨_,rfl⟩;refine ⟨e,0,af,af,af,?_,by rw [hb];omega,fun k hk=>by omega,fun _=>rfl⟩
   have key:∀ q,q=LP+1->(4503599627370496+0)*2^q=9007199254740992*2^LP:=by
    intro q hq;rw [hq,gY];generalize 2^LP=Q;omega
   exact key (e-1) (by rw [he];rfl)
 · have hb1:=dI c af
   have hb2:bl c<=53:=by
    have:=(jw (a:=2) af).1 (gN (gT c af) (show c<2^53 by omega));omega
   obtain ⟨k,hk⟩:∃ k,bl c+k=53:=⟨53-bl c,af⟩
   have hlo:2^52<=c*2^k:=by
    have h2:=gT c af;have h3:2^(bl c-1)*2^k<=c*2^k:=fO _ h2;rw [<-aL,show bl c-1+k=52 by omega] at h3;exact h3
   have hhi:c*2^k<2^53:=by
    have h3:=fD (il c) (bu k);rw [<-aL,hk] at h3;exact h3
   have e52:(2:Nat)^52=4503599627370496:=rfl;have e53:(2:Nat)^53=9007199254740992:=rfl;rw [e52] at hlo;rw [e53] at hhi;refine ⟨bl c+1022,c*2^k-4503599627370496,af,af,af,?_,rfl,fun k' hk'=>?_,fun h=>by omega⟩
   · rw [show 4503599627370496+(c*2^k-4503599627370496)=c*2^k by omega,aN,<-aL];congr 2;show k+(bl c+1022-1)=1074;omega
   · obtain rfl:k'=k:=af
     omega
theorem Ci (c e g:Nat) (h:Whole c e g):floatOfInt .f64 (c:Int)=bw false e g:=by
 have hr:e*4503599627370496+g<Ieee.double.infRung:=by rw [xL];have:=h.e1;have:=h.g0;omega
 have hn:=xJ Ieee.double false c LP (e*4503599627370496+g) hr (by rw [sQ e g h.e0 h.g0,h.v]);rw [ZZ] at hn;rw [zM,<-hn];show Ieee.double.nearest (decide ((c:Int)<0)) (c:Int).natAbs 0=_;rw [show decide ((c:Int)<0)=false from decide_eq_false af,Int.natAbs_natCast];congr 1
theorem QW (e:Nat) (he:0<e) (q:Nat) (hq:e-1=q):val Ieee.double (e*4503599627370496+0)=2^(52+q):=by
 rw [sQ e 0 he af,hq,gM,aL]
theorem Cj (e:Nat) (he:0<e) (q r:Nat) (hq:e-1=q) (hr:52+q=r):val Ieee.double (e*4503599627370496+0)=2^r:=by rw [QW e he q hq,hr]
theorem G5:val Ieee.double 4607182418800017408=2^LP:=Cj 1023 af (LP-52) LP rfl rfl
theorem JF:val Ieee.double 4368491638549381120*2^53=2^LP:=by
 have h:val Ieee.double 4368491638549381120=2^(LP-53):=Cj 970 af (LP-105) (LP-53) rfl rfl;rw [h,<-aL];congr 1
theorem mul_one (d:Nat) (hd:d<9218868437227405312) (h0:0<d) (t:TypeId) (u:World):(binOp .mul t (.float .f64 4607182418800017408) (.float .f64 d)).run Tryz.prog u=.ok (.float .f64 d) u:=by
 refine run_float_arith u .mul t .f64 _ _ _ ?_;show Ieee.double.mul 4607182418800017408 d=some d;have hw:∀ r:Nat,Ieee.double.word false r=r:=fun r=>by simp [Ieee.Format.word]
 have hp:0<val Ieee.double d:=by have:=dh Ieee.double (r:=0) (s:=d) h0;omega
 have:=yL Ieee.double ZE false false 4607182418800017408 d d LP ZZ (by rw [xL];omega) (by rw [xL];omega) (by rw [xL];omega) (by rw [G5,df]) (by rw [G5];have:=bu LP;omega) af;rw [hw,hw] at this;exact this
theorem JG (d c:Nat) (hd:d<9218868437227405312) (hc:c<4503599627370496) (h0:0<c) (hv:val Ieee.double d=c*2^53) (t:TypeId) (u:World):(binOp .mul t (.float .f64 4368491638549381120) (.float .f64 d)).run Tryz.prog u=.ok (.float .f64 c) u:=by
 refine run_float_arith u .mul t .f64 _ _ _ ?_;show Ieee.double.mul 4368491638549381120 d=some c;have hw:∀ r:Nat,Ieee.double.word false r=r:=fun r=>by simp [Ieee.Format.word]
 have hs:=JF;have hp:val Ieee.double 4368491638549381120≠0:=by intro h;rw [h] at hs;have:=bu LP;omega
 have:=yL Ieee.double ZE false false 4368491638549381120 d c LP ZZ (by rw [xL];omega) (by rw [xL];omega) (by rw [xL];omega) (by rw [hv,Nk c hc,<-hs];grind) hp (by rw [hv];have:=bu 53;have:=ik h0 this;omega);rw [hw,hw,Bool.xor_false,hw] at this;exact this
theorem Vn (e g:Nat) (he:e<2047) (hg:g<4503599627370496) (u:World):Calls Tryz.prog 189 #[.float .f64 (bw false e g)] u fun r w'=>r=.returned (.bool false)/\w'=u:=by
 have:=I6 false e g af hg u;rw [zP e g he] at this;exact this
theorem JH (c e g:Nat) (x:Int) (w:World) (hw:Whole c e g) (h0:0<c) (h1:c<=9007199254740992) (hx0:-1074<=x) (hx1:x<=971) (hn:x=-1074\/4503599627370496<=c) :
 Calls Tryz.prog 176 #[.float .f64 (bw false e g),.int .i64 x] w fun r w'=>r=.returned (.float .f64 ((x+1074).toNat*4503599627370496+c))/\w'=w:=by
 have he0:=hw.e0;have he1:=hw.e1;have hg:=hw.g0;have hb:bw false e g=e*4503599627370496+g:=by unfold bw;simp
 have z0:(FloatKind.f64.format.order (bw false e g) 0==some .eq)=false:=by rw [GJ false e g af hg];simp;omega
 have HI:Hid (∀ u,Calls Tryz.prog 188 #[.float .f64 (bw false e g),.int .i64 0] u fun r w'=>r=.returned (.bool false)/\w'=u):=fun u=>Vm e g af hg u;have HN:Hid (∀ u,Calls Tryz.prog 189 #[.float .f64 (bw false e g)] u fun r w'=>r=.returned (.bool false)/\w'=u):=fun u=>Vn e g af hg u;have HZ:Hid (∀ u,Calls Tryz.prog 190 #[.float .f64 (bw false e g)] u fun r w'=>r=.returned (.tuple #[.float .f64 (bw false e g),.int .i64 0])/\w'=u):=fun u=>xP e g he0 af hg u;have e1:=Mk false e g af hg;have mc:=ED e g af hg;have hbl:bl c<=54:=by have:=hw.ex;omega
 have hblp:=dI c af;have hex:=hw.ex
 by_cases hc:4503599627370496<=c
 · have hb53:53<=bl c:=by
    have:=(uj c 52).2 (by rw [<-Ua];exact hc);omega
   by_cases Z0:bl c=54
   · have hg0:=hw.top Z0
     have hc2:c=9007199254740992:=by
      have:=(uj c 53).1 af;have e53:(2:Nat)^53=9007199254740992:=rfl;omega
     subst hg0
     by_cases Z4:x=971
     · subst Z4;have:=JE (bw false e 0) e 0 971 1024 w (by rw [hb];omega) af af he0 af af z0 HI HN HZ e1 mc af af (by rw [GK false e 0 af af (MO e) (by simp;omega)]);rw [hc2];exact this
     · obtain ⟨E,hE⟩:∃ E:Nat,(E:Int)=x+((e:Int)-1023)+1023:=⟨(x+((e:Int)-1023)+1023).toNat,af⟩;have hd:bw false E 0=(x+1074).toNat*4503599627370496+c:=by unfold bw;simp;omega
       have:=wF (bw false e 0) e 0 (bw false E 0) x (x+((e:Int)-1023)) ((E:Int)*4503599627370496) w (by rw [hb];omega) af af he0 af af z0 HI HN HZ e1 mc rfl af af af af af (wE E 0 af af) (mul_one _ (by rw [hd];omega) (by rw [hd];omega) _);rw [hd] at this;exact this
   · have hb3:bl c=53:=af
     have hgx:=hw.gx 0 af;rw [fC,fo] at hgx;obtain ⟨E,hE⟩:∃ E:Nat,(E:Int)=x+((e:Int)-1023)+1023:=⟨(x+((e:Int)-1023)+1023).toNat,af⟩;have hd:bw false E g=(x+1074).toNat*4503599627370496+c:=by unfold bw;simp;omega
     have:=wF (bw false e g) e g (bw false E g) x (x+((e:Int)-1023)) ((E:Int)*4503599627370496) w (by rw [hb];omega) af af he0 af hg z0 HI HN HZ e1 mc rfl af af af af af (wE E g af hg) (mul_one _ (by rw [hd];omega) (by rw [hd];omega) _);rw [hd] at this;exact this
 · obtain rfl:x=-1074:=af
   have hb52:bl c<=52:=by
    by_cases h:52<bl c
    · have:=(uj c 52).1 h;rw [<-Ua] at this;omega
    · omega
   obtain ⟨k,hk⟩:∃ k,bl c+k=53:=⟨53-bl c,af⟩;have hgx:=hw.gx k hk;obtain ⟨E,hE⟩:∃ E:Nat,E=bl c+1:=⟨_,rfl⟩;have hd:bw false E g=E*4503599627370496+g:=by unfold bw;simp
   have hv:val Ieee.double (bw false E g)=c*2^53:=by
    rw [hd,sQ E g af hg,hgx,aN,<-aL,show k+(E-1)=53 by omega]
   have:=JD (bw false e g) e g (bw false E g) c (-1074) (-1074+((e:Int)-1023)) (-1074+((e:Int)-1023)+53) ((E:Int)*4503599627370496) w (by rw [hb];omega) af af he0 af hg z0 HI HN HZ e1 mc rfl af af rfl af af af af af (wE E g af hg) (JG _ c (by rw [hd];omega) af h0 hv _);simpa using this
theorem JI (c e g:Nat) (x:Int) (w:World) (hw:Whole c e g) (h0:0<c) (h1:c<=9007199254740992) (hx0:-1074<=x) (hx1:x<=971) (hn:x=-1074\/4503599627370496<=c) :
 Calls Tryz.prog 147 #[.float .f64 (bw false e g),.int .i64 x] w fun r w'=>r=.returned (.float .f64 ((x+1074).toNat*4503599627370496+c))/\w'=w:=by
 have H:=hid (JH c e g x w hw h0 h1 hx0 hx1 hn);generalize bw false e g=b at *;generalize (x+1074).toNat*4503599627370496+c=d at *;clear hn hw;go_enter Tryz.func147,Tryz.ntmps147;go_wp2_with fail;refine H.o.mono ?_;rintro r w1 ⟨rfl,rfl⟩;go_wp2;go_ret;exact ⟨rfl,rfl⟩
theorem zW (x:Int) (w:World):Calls Tryz.prog 176 #[.float .f64 0,.int .i64 x] w fun r w'=>r=.returned (.float .f64 0)/\w'=w:=by
 have z0:(FloatKind.f64.format.order 0 0==some .eq)=true:=GJ false 0 0 af af;go_enter Tryz.func176,Tryz.ntmps176;go_wp2;go_ret;exact ⟨rfl,rfl⟩
theorem zX (x:Int) (w:World):Calls Tryz.prog 147 #[.float .f64 0,.int .i64 x] w fun r w'=>r=.returned (.float .f64 0)/\w'=w:=by
 have H:=hid (zW x w);go_enter Tryz.func147,Tryz.ntmps147;go_wp2_with fail;refine H.o.mono ?_;rintro r w1 ⟨rfl,rfl⟩;go_wp2;go_ret;exact ⟨rfl,rfl⟩
end B
end Go.Proofs.YtfmfhehbdfhnbaaGreatDoor
