import Derived.Test.YtblkpkgebigojaaGreatDoorD10x
import Derived.Deep.Cut
import Derived.Test.YtblkpkgebigojaaGreatDoorBIeeex
import Derived.Test.YtblkpkgebigojaaGreatDoorS10x
import Derived.Test.YtblkpkgebigojaaGreatDoorM1x
import Derived.Laws.FloatArith
import Derived.Test.YtblkpkgebigojaaGreatDoorW50x
set_option linter.unusedVariables false
set_option linter.unusedSimpArgs false
set_option maxHeartbeats 16000000
set_option maxRecDepth 20000
namespace Go.Proofs.YtblkpkgebigojaaGreatDoor
section
open Go.RowKit
theorem jX (W:World) (g:Nat) (n:Bool) (v:Value) (e k:Int) (tmps:Array Value) (ht:tmps[4]?.getD undef=.pointer (some ⟨g,0,none⟩)) (hk:tmps[5]?.getD undef=.int .i64 k) (D:Dk W g n v e) :
 (results Tryz.f88 tmps).run Tryz.prog W=.ok (.tuple #[.agg #[.bool n,v,.int .i64 e],.int .i64 k]) W:=by
 obtain ⟨x0,x1,x2,dA,dB,dC⟩:=D.facts;simp [results,Tryz.results88,ht,hk,go_sem,x0,x1,x2]
theorem bg (w:World) (n m:Bool) (v u:Value) (e f:Int) (W:World) (hW:W=((w.alloc (.cells #[.bool n,v,.int .i64 e] 62)).alloc (.cells #[.bool m,u,.int .i64 f] 62)).alloc (.cells #[.bool false,.slice none 0 0,.int .i64 0] 62)) :
 Below w.heap.size w W/\W.heap.size=w.heap.size+3/\Dk W w.heap.size n v e/\Dk W (w.heap.size+1) m u f/\Dk W (w.heap.size+1+1) false (.slice none 0 0) 0:=by
 subst hW;refine ⟨((af w _).alloc aW _).alloc (by simp;omega) _,aW,((Dk.new w n v e).alloc _).alloc _,?_,?_⟩
 · have:=(Dk.new (w.alloc (.cells #[.bool n,v,.int .i64 e] 62)) m u f).alloc (.cells #[.bool false,.slice none 0 0,.int .i64 0] 62);simpa using this
 · have:=Dk.new ((w.alloc (.cells #[.bool n,v,.int .i64 e] 62)).alloc (.cells #[.bool m,u,.int .i64 f] 62)) false (.slice none 0 0) 0;simpa using this
theorem GV {w:World}{a b:Option Addr}{l c k d:Nat}(n m:Bool) (e f:Int) (kF:Hid (∀ u,Below w.heap.size w u->Calls Tryz.prog 128 #[.agg #[.bool n,.slice a l c,.int .i64 e],.agg #[.bool m,.slice b k d,.int .i64 f]] u fun r w'=>r=.returned (.tuple #[.agg #[.bool false,.slice none 0 0,.int .i64 0],.agg #[.bool false,.slice none 0 0,.int .i64 0],.int .i64 2])/\Below u.heap.size u w')):Calls Tryz.prog 88 #[.agg #[.bool n,.slice a l c,.int .i64 e],.agg #[.bool m,.slice b k d,.int .i64 f]] w fun r w'=>r=.returned (.tuple #[.agg #[.bool false,.slice none 0 0,.int .i64 0],.int .i64 2])/\Below w.heap.size w w':=by
 obtain ⟨W1,hW1⟩:=ah (((w.alloc (.cells #[.bool n,.slice a l c,.int .i64 e] 62)).alloc (.cells #[.bool m,.slice b k d,.int .i64 f] 62)).alloc (.cells #[.bool false,.slice none 0 0,.int .i64 0] 62));obtain ⟨hB,hz1,DA,DB,DR⟩:=bg w n m (.slice a l c) (.slice b k d) e f W1 hW1;have H1:=hid (kF.o W1 hB);have SB:=(gZ hB hz1 DA DB DR);clear hB hz1 DA DB DR kF;go_enter Tryz.func88,Tryz.ntmps88;go_wp2_with fail;rw [<-hW1];clear hW1;refine H1.o.mono ?_;rintro r u1 ⟨rfl,hb⟩;obtain ⟨hB,hz1,DA,DB,DR⟩:=SB.o;have EA:=DA.below hb;have EB:=DB.below hb;have ER:=DR.below hb;obtain ⟨x0,x1,x2,dA,dB,dC⟩:=EA.facts;obtain ⟨y0,y1,y2,dw,cZ,df⟩:=EB.facts;obtain ⟨r0,r1,r2,fZ,gp,gy⟩:=ER.facts;have F1:=ay (show Fin w.heap.size (w.heap.size+3) w u1 (.slice none 0 0) 0 from ⟨Nt.nil _ _,hB.trans (hb.mono ae),by have:=hb.size;omega⟩);have SE:=ay ER;clear hb H1 hB hz1 DA DB DR EA EB ER SB;go_wp2;refine aI (jX _ (w.heap.size+1+1) false (.slice none 0 0) 0 2 _ rfl rfl (((SE.o.other _ ae _ _ _).other _ ae _ _ _).set _ _ _)) rfl ⟨rfl,?_⟩;refine Fin.aF (m:=w.heap.size+3) (v:=.slice none 0 0) (X:=0) ?_
 repeat (with_reducible first | exact F1.o | refine Fin.drew ?_ | refine Fin.alloc ?_ _ | refine Fin.set ?_ _ _ _ ae ae)
theorem Nn {w:World}{a b:Option Addr}{l c k d:Nat}(n m:Bool) (e f:Int) (n1 m1:Bool) (X Y:Nat) (e1 f1:Int) (lX:(ws X).length<=8192) (lY:(ws Y).length<=8192) (hX:(ws X).length=0)
 (kF:Hid (∀ u,Below w.heap.size w u->Calls Tryz.prog 128 #[.agg #[.bool n,.slice a l c,.int .i64 e],.agg #[.bool m,.slice b k d,.int .i64 f]] u fun r w'=>∃ v v',r=.returned (.tuple #[.agg #[.bool n1,v,.int .i64 e1],.agg #[.bool m1,v',.int .i64 f1],.int .i64 0])/\Nt u.heap.size w' v X/\Nt u.heap.size w' v' Y/\Below u.heap.size u w')):Calls Tryz.prog 88 #[.agg #[.bool n,.slice a l c,.int .i64 e],.agg #[.bool m,.slice b k d,.int .i64 f]] w fun r w'=>di w.heap.size w' r (some (m1,Y,f1))/\Below w.heap.size w w':=by
 obtain ⟨W1,hW1⟩:=ah (((w.alloc (.cells #[.bool n,.slice a l c,.int .i64 e] 62)).alloc (.cells #[.bool m,.slice b k d,.int .i64 f] 62)).alloc (.cells #[.bool false,.slice none 0 0,.int .i64 0] 62));obtain ⟨hB,hz1,DA,DB,DR⟩:=bg w n m (.slice a l c) (.slice b k d) e f W1 hW1;have H1:=hid (kF.o W1 hB);have SB:=(gZ hB hz1 DA DB DR);clear hB hz1 DA DB DR kF;go_enter Tryz.func88,Tryz.ntmps88;go_wp2_with fail;rw [<-hW1];clear hW1;refine H1.o.mono ?_;rintro r u1 ⟨v,v',rfl,hN,hM,hb⟩;obtain ⟨a1,c1,rfl,_⟩:=hN.arg ae;obtain ⟨a2,c2,rfl,_⟩:=hM.arg ae;obtain ⟨hB,hz1,DA,DB,DR⟩:=SB.o;have EA:=DA.below hb;have EB:=DB.below hb;have ER:=DR.below hb;obtain ⟨x0,x1,x2,dA,dB,dC⟩:=EA.facts;obtain ⟨y0,y1,y2,dw,cZ,df⟩:=EB.facts;obtain ⟨r0,r1,r2,fZ,gp,gy⟩:=ER.facts;have FX:=ay (show Fin w.heap.size (w.heap.size+3) w u1 (.slice a1 (ws X).length c1) X from ⟨by rw [<-hz1];exact hN,hB.trans (hb.mono ae),by have:=hb.size;omega⟩);have FY:=ay (show Fin w.heap.size (w.heap.size+3) w u1 (.slice a2 (ws Y).length c2) Y from ⟨by rw [<-hz1];exact hM,hB.trans (hb.mono ae),by have:=hb.size;omega⟩);have SE:=(fB EA EB ER);clear hN hM hb H1 hB hz1 DA DB DR EA EB ER SB
 try rw [hX]
 go_wp2;refine aI (jX _ (w.heap.size+1+1) m1 (.slice a2 (ws Y).length c2) f1 0 _ rfl rfl (((SE.o.r2.other _ ae _ _ _).other _ ae _ _ _).set _ _ _)) rfl ?_;refine Fin.jA (m:=w.heap.size+3) ?_ ae
 repeat (with_reducible first | exact FY.o | refine Fin.drew ?_ | refine Fin.alloc ?_ _ | refine Fin.set ?_ _ _ _ ae ae)
 exact FY.o
theorem JC {w:World}{a b:Option Addr}{l c k d:Nat}(n m:Bool) (e f:Int) (n1 m1:Bool) (X Y:Nat) (e1 f1:Int) (lX:(ws X).length<=8192) (lY:(ws Y).length<=8192) (hX:((((ws X).length:Nat):Int)==0)=false) (hY:(ws Y).length=0)
 (kF:Hid (∀ u,Below w.heap.size w u->Calls Tryz.prog 128 #[.agg #[.bool n,.slice a l c,.int .i64 e],.agg #[.bool m,.slice b k d,.int .i64 f]] u fun r w'=>∃ v v',r=.returned (.tuple #[.agg #[.bool n1,v,.int .i64 e1],.agg #[.bool m1,v',.int .i64 f1],.int .i64 0])/\Nt u.heap.size w' v X/\Nt u.heap.size w' v' Y/\Below u.heap.size u w')):Calls Tryz.prog 88 #[.agg #[.bool n,.slice a l c,.int .i64 e],.agg #[.bool m,.slice b k d,.int .i64 f]] w fun r w'=>di w.heap.size w' r (some (n1,X,e1))/\Below w.heap.size w w':=by
 obtain ⟨W1,hW1⟩:=ah (((w.alloc (.cells #[.bool n,.slice a l c,.int .i64 e] 62)).alloc (.cells #[.bool m,.slice b k d,.int .i64 f] 62)).alloc (.cells #[.bool false,.slice none 0 0,.int .i64 0] 62));obtain ⟨hB,hz1,DA,DB,DR⟩:=bg w n m (.slice a l c) (.slice b k d) e f W1 hW1;have H1:=hid (kF.o W1 hB);have SB:=(gZ hB hz1 DA DB DR);clear hB hz1 DA DB DR kF;go_enter Tryz.func88,Tryz.ntmps88;go_wp2_with fail;rw [<-hW1];clear hW1;refine H1.o.mono ?_;rintro r u1 ⟨v,v',rfl,hN,hM,hb⟩;obtain ⟨a1,c1,rfl,_⟩:=hN.arg ae;obtain ⟨a2,c2,rfl,_⟩:=hM.arg ae;obtain ⟨hB,hz1,DA,DB,DR⟩:=SB.o;have EA:=DA.below hb;have EB:=DB.below hb;have ER:=DR.below hb;obtain ⟨x0,x1,x2,dA,dB,dC⟩:=EA.facts;obtain ⟨y0,y1,y2,dw,cZ,df⟩:=EB.facts;obtain ⟨r0,r1,r2,fZ,gp,gy⟩:=ER.facts;have FX:=ay (show Fin w.heap.size (w.heap.size+3) w u1 (.slice a1 (ws X).length c1) X from ⟨by rw [<-hz1];exact hN,hB.trans (hb.mono ae),by have:=hb.size;omega⟩);have FY:=ay (show Fin w.heap.size (w.heap.size+3) w u1 (.slice a2 (ws Y).length c2) Y from ⟨by rw [<-hz1];exact hM,hB.trans (hb.mono ae),by have:=hb.size;omega⟩);have SE:=(fB EA EB ER);clear hN hM hb H1 hB hz1 DA DB DR EA EB ER SB
 try rw [hX]
 go_wp2;refine aI (jX _ (w.heap.size+1+1) n1 (.slice a1 (ws X).length c1) e1 0 _ rfl rfl (((SE.o.r2.other _ ae _ _ _).other _ ae _ _ _).set _ _ _)) rfl ?_;refine Fin.jA (m:=w.heap.size+3) ?_ ae
 repeat (with_reducible first | exact FX.o | refine Fin.drew ?_ | refine Fin.alloc ?_ _ | refine Fin.set ?_ _ _ _ ae ae)
 exact FX.o
theorem JD {w:World}{a b:Option Addr}{l c k d:Nat}(n m:Bool) (e f:Int) (n1 m1:Bool) (X Y:Nat) (e1 f1:Int) (lX:(ws X).length<=8192) (lY:(ws Y).length<=8192) (hX:((((ws X).length:Nat):Int)==0)=false) (hY:((((ws Y).length:Nat):Int)==0)=false) (hlt:decide (e1<f1)=false) (JE:-1048576<=e1) (JF:e1<=1048576) (JG:-1048576<=f1) (JH:f1<=1048576)
 (kF:Hid (∀ u,Below w.heap.size w u->Calls Tryz.prog 128 #[.agg #[.bool n,.slice a l c,.int .i64 e],.agg #[.bool m,.slice b k d,.int .i64 f]] u fun r w'=>∃ v v',r=.returned (.tuple #[.agg #[.bool n1,v,.int .i64 e1],.agg #[.bool m1,v',.int .i64 f1],.int .i64 0])/\Nt u.heap.size w' v X/\Nt u.heap.size w' v' Y/\Below u.heap.size u w'))
 (vC:Hid (∀ (u:World) (p:Option Addr) (q:Nat),Below w.heap.size w u->Arg u p (ws X).length q (ws X)->Calls Tryz.prog 129 #[.slice p (ws X).length q,.int .i64 (e1-f1)] u fun r w'=>∃ v,r=.returned (.tuple #[v,.int .i64 2])/\Nt u.heap.size w' v 0/\Below u.heap.size u w')):Calls Tryz.prog 88 #[.agg #[.bool n,.slice a l c,.int .i64 e],.agg #[.bool m,.slice b k d,.int .i64 f]] w fun r w'=>r=.returned (.tuple #[.agg #[.bool false,.slice none 0 0,.int .i64 0],.int .i64 2])/\Below w.heap.size w w':=by
 have l0:(ws 0).length=0:=by rw [bN];rfl
 obtain ⟨W1,hW1⟩:=ah (((w.alloc (.cells #[.bool n,.slice a l c,.int .i64 e] 62)).alloc (.cells #[.bool m,.slice b k d,.int .i64 f] 62)).alloc (.cells #[.bool false,.slice none 0 0,.int .i64 0] 62));obtain ⟨hB,hz1,DA,DB,DR⟩:=bg w n m (.slice a l c) (.slice b k d) e f W1 hW1;have H1:=hid (kF.o W1 hB);have SB:=(gZ hB hz1 DA DB DR);clear hB hz1 DA DB DR kF;go_enter Tryz.func88,Tryz.ntmps88;go_wp2_with fail;rw [<-hW1];clear hW1;refine H1.o.mono ?_;rintro r u1 ⟨v,v',rfl,hN,hM,hb⟩;obtain ⟨a1,c1,rfl,_⟩:=hN.arg ae;obtain ⟨a2,c2,rfl,_⟩:=hM.arg ae;obtain ⟨hB,hz1,DA,DB,DR⟩:=SB.o;have EA:=DA.below hb;have EB:=DB.below hb;have ER:=DR.below hb;obtain ⟨x0,x1,x2,dA,dB,dC⟩:=EA.facts;obtain ⟨y0,y1,y2,dw,cZ,df⟩:=EB.facts;obtain ⟨r0,r1,r2,fZ,gp,gy⟩:=ER.facts;have FX:=ay (show Fin w.heap.size (w.heap.size+3) w u1 (.slice a1 (ws X).length c1) X from ⟨by rw [<-hz1];exact hN,hB.trans (hb.mono ae),by have:=hb.size;omega⟩);have FY:=ay (show Fin w.heap.size (w.heap.size+3) w u1 (.slice a2 (ws Y).length c2) Y from ⟨by rw [<-hz1];exact hM,hB.trans (hb.mono ae),by have:=hb.size;omega⟩);have SE:=(fB EA EB ER);clear hN hM hb H1 hB hz1 DA DB DR EA EB ER SB;obtain ⟨EA,EB,ER⟩:=SE.o;obtain ⟨U1,bq⟩:=ah (dW (dW u1 w.heap.size (.bool n1) (.slice a1 (ws X).length c1) (.int .i64 e1)) (w.heap.size+1) (.bool m1) (.slice a2 (ws Y).length c2) (.int .i64 f1));have IA:Dk U1 w.heap.size n1 (.slice a1 (ws X).length c1) e1:=by rw [bq];exact ((EA.set _ _ _).other _ ae _ _ _)
 have IB:Dk U1 (w.heap.size+1) m1 (.slice a2 (ws Y).length c2) f1:=by rw [bq];exact ((EB.other _ ae _ _ _).set _ _ _)
 have IR:Dk U1 (w.heap.size+1+1) false (.slice none 0 0) 0:=by rw [bq];exact ((ER.other _ ae _ _ _).other _ ae _ _ _)
 have GX:Fin w.heap.size (w.heap.size+3) w U1 (.slice a1 (ws X).length c1) X:=by rw [bq];exact (Fin.dW (Fin.dW FX.o _ _ _ _ ae ae) _ _ _ _ ae ae)
 have GY:Fin w.heap.size (w.heap.size+3) w U1 (.slice a2 (ws Y).length c2) Y:=by rw [bq];exact (Fin.dW (Fin.dW FY.o _ _ _ _ ae ae) _ _ _ _ ae ae)
 have H2:=hid (vC.o U1 a1 c1 GX.aF (GX.nt.bR ae).2);have S1:=(gZ IA IB IR GX GY);have Uk:w.heap.size+3<=U1.heap.size:=by have:=IR.lt;omega
 clear EA EB ER IA IB IR GX GY SE vC;unfold dW at bq;go_wp2_with fail;rw [<-bq];clear bq x0 x1 x2 dA dB dC y0 y1 y2 dw cZ df r0 r1 r2 fZ gp gy;refine H2.o.mono ?_;rintro r u2 ⟨v,rfl,hN,hb⟩;obtain ⟨a3,c3,rfl,_⟩:=hN.arg ae;obtain ⟨IA,IB,IR,GX,GY⟩:=S1.o;obtain ⟨x0,x1,x2,dA,dB,dC⟩:=(IA.below hb).facts;obtain ⟨y0,y1,y2,dw,cZ,df⟩:=(IB.below hb).facts;obtain ⟨r0,r1,r2,fZ,gp,gy⟩:=(IR.below hb).facts;have S2:=(bB (IR.below hb) ((GX.below hb)));clear hN hb H2 S1 IA IB IR GX GY;go_wp2;refine aI (jX _ (w.heap.size+1+1) false (.slice none 0 0) 0 2 _ rfl rfl (S2.o.1.set _ _ _)) rfl ⟨rfl,?_⟩;refine Fin.aF (m:=w.heap.size+3) (v:=.slice a1 (ws X).length c1) (X:=X) ?_
 repeat (with_reducible first | exact S2.o.2 | refine Fin.drew ?_ | refine Fin.alloc ?_ _ | refine Fin.set ?_ _ _ _ ae ae)
theorem Np {w:World}{a b:Option Addr}{l c k d:Nat}(n m:Bool) (e f:Int) (n1 m1:Bool) (X Y:Nat) (e1 f1:Int) (lX:(ws X).length<=8192) (lY:(ws Y).length<=8192) (hX:((((ws X).length:Nat):Int)==0)=false) (hY:((((ws Y).length:Nat):Int)==0)=false) (hlt:decide (e1<f1)=false) (JE:-1048576<=e1) (JF:e1<=1048576) (JG:-1048576<=f1) (JH:f1<=1048576)
 (kF:Hid (∀ u,Below w.heap.size w u->Calls Tryz.prog 128 #[.agg #[.bool n,.slice a l c,.int .i64 e],.agg #[.bool m,.slice b k d,.int .i64 f]] u fun r w'=>∃ v v',r=.returned (.tuple #[.agg #[.bool n1,v,.int .i64 e1],.agg #[.bool m1,v',.int .i64 f1],.int .i64 0])/\Nt u.heap.size w' v X/\Nt u.heap.size w' v' Y/\Below u.heap.size u w')) (hs:(n1==m1)=true) (L:Nat) (lL:(ws L).length<=8192) (dn:Bool) (V:Nat) (de er:Int) (lV:(ws V).length<=8192)
 (vC:Hid (∀ (u:World) (p:Option Addr) (q:Nat),Below w.heap.size w u->Arg u p (ws X).length q (ws X)->Calls Tryz.prog 129 #[.slice p (ws X).length q,.int .i64 (e1-f1)] u fun r w'=>∃ v,r=.returned (.tuple #[v,.int .i64 0])/\Nt u.heap.size w' v L/\Below u.heap.size u w'))
 (HT:Hid (∀ (u:World) (p q:Option Addr) (s t:Nat),Below w.heap.size w u->Arg u p (ws L).length s (ws L)->Arg u q (ws Y).length t (ws Y)->Calls Tryz.prog 130 #[.bool n1,.slice p (ws L).length s,.slice q (ws Y).length t,.int .i64 f1] u fun r w'=>(∃ v,r=.returned (.tuple #[.agg #[.bool dn,v,.int .i64 de],.int .i64 er])/\Nt u.heap.size w' v V)/\Below u.heap.size u w')):Calls Tryz.prog 88 #[.agg #[.bool n,.slice a l c,.int .i64 e],.agg #[.bool m,.slice b k d,.int .i64 f]] w fun r w'=>(∃ v,r=.returned (.tuple #[.agg #[.bool dn,v,.int .i64 de],.int .i64 er])/\Nt w.heap.size w' v V)/\Below w.heap.size w w':=by
 obtain ⟨W1,hW1⟩:=ah (((w.alloc (.cells #[.bool n,.slice a l c,.int .i64 e] 62)).alloc (.cells #[.bool m,.slice b k d,.int .i64 f] 62)).alloc (.cells #[.bool false,.slice none 0 0,.int .i64 0] 62));obtain ⟨hB,hz1,DA,DB,DR⟩:=bg w n m (.slice a l c) (.slice b k d) e f W1 hW1;have H1:=hid (kF.o W1 hB);have SB:=(gZ hB hz1 DA DB DR);clear hB hz1 DA DB DR kF;go_enter Tryz.func88,Tryz.ntmps88;go_wp2_with fail;rw [<-hW1];clear hW1;refine H1.o.mono ?_;rintro r u1 ⟨v,v',rfl,hN,hM,hb⟩;obtain ⟨a1,c1,rfl,_⟩:=hN.arg ae;obtain ⟨a2,c2,rfl,_⟩:=hM.arg ae;obtain ⟨hB,hz1,DA,DB,DR⟩:=SB.o;have EA:=DA.below hb;have EB:=DB.below hb;have ER:=DR.below hb;obtain ⟨x0,x1,x2,dA,dB,dC⟩:=EA.facts;obtain ⟨y0,y1,y2,dw,cZ,df⟩:=EB.facts;obtain ⟨r0,r1,r2,fZ,gp,gy⟩:=ER.facts;have FX:=ay (show Fin w.heap.size (w.heap.size+3) w u1 (.slice a1 (ws X).length c1) X from ⟨by rw [<-hz1];exact hN,hB.trans (hb.mono ae),by have:=hb.size;omega⟩);have FY:=ay (show Fin w.heap.size (w.heap.size+3) w u1 (.slice a2 (ws Y).length c2) Y from ⟨by rw [<-hz1];exact hM,hB.trans (hb.mono ae),by have:=hb.size;omega⟩);have SE:=(fB EA EB ER);clear hN hM hb H1 hB hz1 DA DB DR EA EB ER SB;obtain ⟨EA,EB,ER⟩:=SE.o;obtain ⟨U1,bq⟩:=ah (dW (dW u1 w.heap.size (.bool n1) (.slice a1 (ws X).length c1) (.int .i64 e1)) (w.heap.size+1) (.bool m1) (.slice a2 (ws Y).length c2) (.int .i64 f1));have IA:Dk U1 w.heap.size n1 (.slice a1 (ws X).length c1) e1:=by rw [bq];exact ((EA.set _ _ _).other _ ae _ _ _)
 have IB:Dk U1 (w.heap.size+1) m1 (.slice a2 (ws Y).length c2) f1:=by rw [bq];exact ((EB.other _ ae _ _ _).set _ _ _)
 have IR:Dk U1 (w.heap.size+1+1) false (.slice none 0 0) 0:=by rw [bq];exact ((ER.other _ ae _ _ _).other _ ae _ _ _)
 have GX:Fin w.heap.size (w.heap.size+3) w U1 (.slice a1 (ws X).length c1) X:=by rw [bq];exact (Fin.dW (Fin.dW FX.o _ _ _ _ ae ae) _ _ _ _ ae ae)
 have GY:Fin w.heap.size (w.heap.size+3) w U1 (.slice a2 (ws Y).length c2) Y:=by rw [bq];exact (Fin.dW (Fin.dW FY.o _ _ _ _ ae ae) _ _ _ _ ae ae)
 have H2:=hid (vC.o U1 a1 c1 GX.aF (GX.nt.bR ae).2);have S1:=(gZ IA IB IR GX GY);have Uk:w.heap.size+3<=U1.heap.size:=by have:=IR.lt;omega
 clear EA EB ER IA IB IR GX GY SE vC;unfold dW at bq;go_wp2_with fail;rw [<-bq];clear bq x0 x1 x2 dA dB dC y0 y1 y2 dw cZ df r0 r1 r2 fZ gp gy;refine H2.o.mono ?_;rintro r u2 ⟨v,rfl,hN,hb⟩;obtain ⟨a3,c3,rfl,_⟩:=hN.arg ae;obtain ⟨IA,IB,IR,GX,GY⟩:=S1.o;obtain ⟨x0,x1,x2,dA,dB,dC⟩:=(IA.below hb).facts;obtain ⟨y0,y1,y2,dw,cZ,df⟩:=(IB.below hb).facts;obtain ⟨r0,r1,r2,fZ,gp,gy⟩:=(IR.below hb).facts;have H3:=hid (HT.o u2 a3 a2 c3 c2 (GX.below hb).aF (hN.bR ae).2 ((GY.below hb).nt.bR ae).2);have S2:=(bB (IR.below hb) ((GX.below hb)));have hz2:w.heap.size+3<=u2.heap.size:=by have:=hb.size;omega
 clear hN hb H2 S1 IA IB IR GX GY HT;go_wp2_with fail;refine H3.o.mono ?_;rintro r u3 ⟨⟨v,rfl,hN⟩,hb⟩;obtain ⟨a4,c4,rfl,_⟩:=hN.arg ae;have IR:=S2.o.1.below hb;obtain ⟨s0,s1,s2,wM,wN,wO⟩:=IR.facts;have FV:=ay (show Fin w.heap.size (w.heap.size+3) w u3 (.slice a4 (ws V).length c4) V from ⟨hN.mono hz2,(S2.o.2.below hb).aF,by have:=hb.size;omega⟩);have S3:=ay IR;clear hN hb IR H3 S2;go_wp2;refine aI (jX _ (w.heap.size+1+1) dn (.slice a4 (ws V).length c4) de er _ rfl rfl (S3.o.set _ _ _)) rfl ?_;refine Fin.jA (m:=w.heap.size+3) ?_ ae
 repeat (with_reducible first | exact FV.o | refine Fin.drew ?_ | refine Fin.alloc ?_ _ | refine Fin.set ?_ _ _ _ ae ae)
theorem JI {w:World}{a b:Option Addr}{l c k d:Nat}(n m:Bool) (e f:Int) (n1 m1:Bool) (X Y:Nat) (e1 f1:Int) (lX:(ws X).length<=8192) (lY:(ws Y).length<=8192) (hX:((((ws X).length:Nat):Int)==0)=false) (hY:((((ws Y).length:Nat):Int)==0)=false) (hlt:decide (e1<f1)=false) (JE:-1048576<=e1) (JF:e1<=1048576) (JG:-1048576<=f1) (JH:f1<=1048576)
 (kF:Hid (∀ u,Below w.heap.size w u->Calls Tryz.prog 128 #[.agg #[.bool n,.slice a l c,.int .i64 e],.agg #[.bool m,.slice b k d,.int .i64 f]] u fun r w'=>∃ v v',r=.returned (.tuple #[.agg #[.bool n1,v,.int .i64 e1],.agg #[.bool m1,v',.int .i64 f1],.int .i64 0])/\Nt u.heap.size w' v X/\Nt u.heap.size w' v' Y/\Below u.heap.size u w')) (hs:(n1==m1)=false) (L:Nat) (lL:(ws L).length<=8192) (dn:Bool) (V:Nat) (de er:Int) (lV:(ws V).length<=8192)
 (vC:Hid (∀ (u:World) (p:Option Addr) (q:Nat),Below w.heap.size w u->Arg u p (ws X).length q (ws X)->Calls Tryz.prog 129 #[.slice p (ws X).length q,.int .i64 (e1-f1)] u fun r w'=>∃ v,r=.returned (.tuple #[v,.int .i64 0])/\Nt u.heap.size w' v L/\Below u.heap.size u w'))
 (HT:Hid (∀ (u:World) (p q:Option Addr) (s t:Nat),Below w.heap.size w u->Arg u p (ws L).length s (ws L)->Arg u q (ws Y).length t (ws Y)->Calls Tryz.prog 131 #[.bool n1,.slice p (ws L).length s,.slice q (ws Y).length t,.int .i64 f1] u fun r w'=>(∃ v,r=.returned (.tuple #[.agg #[.bool dn,v,.int .i64 de],.int .i64 er])/\Nt u.heap.size w' v V)/\Below u.heap.size u w')):Calls Tryz.prog 88 #[.agg #[.bool n,.slice a l c,.int .i64 e],.agg #[.bool m,.slice b k d,.int .i64 f]] w fun r w'=>(∃ v,r=.returned (.tuple #[.agg #[.bool dn,v,.int .i64 de],.int .i64 er])/\Nt w.heap.size w' v V)/\Below w.heap.size w w':=by
 obtain ⟨W1,hW1⟩:=ah (((w.alloc (.cells #[.bool n,.slice a l c,.int .i64 e] 62)).alloc (.cells #[.bool m,.slice b k d,.int .i64 f] 62)).alloc (.cells #[.bool false,.slice none 0 0,.int .i64 0] 62));obtain ⟨hB,hz1,DA,DB,DR⟩:=bg w n m (.slice a l c) (.slice b k d) e f W1 hW1;have H1:=hid (kF.o W1 hB);have SB:=(gZ hB hz1 DA DB DR);clear hB hz1 DA DB DR kF;go_enter Tryz.func88,Tryz.ntmps88;go_wp2_with fail;rw [<-hW1];clear hW1;refine H1.o.mono ?_;rintro r u1 ⟨v,v',rfl,hN,hM,hb⟩;obtain ⟨a1,c1,rfl,_⟩:=hN.arg ae;obtain ⟨a2,c2,rfl,_⟩:=hM.arg ae;obtain ⟨hB,hz1,DA,DB,DR⟩:=SB.o;have EA:=DA.below hb;have EB:=DB.below hb;have ER:=DR.below hb;obtain ⟨x0,x1,x2,dA,dB,dC⟩:=EA.facts;obtain ⟨y0,y1,y2,dw,cZ,df⟩:=EB.facts;obtain ⟨r0,r1,r2,fZ,gp,gy⟩:=ER.facts;have FX:=ay (show Fin w.heap.size (w.heap.size+3) w u1 (.slice a1 (ws X).length c1) X from ⟨by rw [<-hz1];exact hN,hB.trans (hb.mono ae),by have:=hb.size;omega⟩);have FY:=ay (show Fin w.heap.size (w.heap.size+3) w u1 (.slice a2 (ws Y).length c2) Y from ⟨by rw [<-hz1];exact hM,hB.trans (hb.mono ae),by have:=hb.size;omega⟩);have SE:=(fB EA EB ER);clear hN hM hb H1 hB hz1 DA DB DR EA EB ER SB;obtain ⟨EA,EB,ER⟩:=SE.o;obtain ⟨U1,bq⟩:=ah (dW (dW u1 w.heap.size (.bool n1) (.slice a1 (ws X).length c1) (.int .i64 e1)) (w.heap.size+1) (.bool m1) (.slice a2 (ws Y).length c2) (.int .i64 f1));have IA:Dk U1 w.heap.size n1 (.slice a1 (ws X).length c1) e1:=by rw [bq];exact ((EA.set _ _ _).other _ ae _ _ _)
 have IB:Dk U1 (w.heap.size+1) m1 (.slice a2 (ws Y).length c2) f1:=by rw [bq];exact ((EB.other _ ae _ _ _).set _ _ _)
 have IR:Dk U1 (w.heap.size+1+1) false (.slice none 0 0) 0:=by rw [bq];exact ((ER.other _ ae _ _ _).other _ ae _ _ _)
 have GX:Fin w.heap.size (w.heap.size+3) w U1 (.slice a1 (ws X).length c1) X:=by rw [bq];exact (Fin.dW (Fin.dW FX.o _ _ _ _ ae ae) _ _ _ _ ae ae)
 have GY:Fin w.heap.size (w.heap.size+3) w U1 (.slice a2 (ws Y).length c2) Y:=by rw [bq];exact (Fin.dW (Fin.dW FY.o _ _ _ _ ae ae) _ _ _ _ ae ae)
 have H2:=hid (vC.o U1 a1 c1 GX.aF (GX.nt.bR ae).2);have S1:=(gZ IA IB IR GX GY);have Uk:w.heap.size+3<=U1.heap.size:=by have:=IR.lt;omega
 clear EA EB ER IA IB IR GX GY SE vC;unfold dW at bq;go_wp2_with fail;rw [<-bq];clear bq x0 x1 x2 dA dB dC y0 y1 y2 dw cZ df r0 r1 r2 fZ gp gy;refine H2.o.mono ?_;rintro r u2 ⟨v,rfl,hN,hb⟩;obtain ⟨a3,c3,rfl,_⟩:=hN.arg ae;obtain ⟨IA,IB,IR,GX,GY⟩:=S1.o;obtain ⟨x0,x1,x2,dA,dB,dC⟩:=(IA.below hb).facts;obtain ⟨y0,y1,y2,dw,cZ,df⟩:=(IB.below hb).facts;obtain ⟨r0,r1,r2,fZ,gp,gy⟩:=(IR.below hb).facts;have H3:=hid (HT.o u2 a3 a2 c3 c2 (GX.below hb).aF (hN.bR ae).2 ((GY.below hb).nt.bR ae).2);have S2:=(bB (IR.below hb) ((GX.below hb)));have hz2:w.heap.size+3<=u2.heap.size:=by have:=hb.size;omega
 clear hN hb H2 S1 IA IB IR GX GY HT;go_wp2_with fail;refine H3.o.mono ?_;rintro r u3 ⟨⟨v,rfl,hN⟩,hb⟩;obtain ⟨a4,c4,rfl,_⟩:=hN.arg ae;have IR:=S2.o.1.below hb;obtain ⟨s0,s1,s2,wM,wN,wO⟩:=IR.facts;have FV:=ay (show Fin w.heap.size (w.heap.size+3) w u3 (.slice a4 (ws V).length c4) V from ⟨hN.mono hz2,(S2.o.2.below hb).aF,by have:=hb.size;omega⟩);have S3:=ay IR;clear hN hb IR H3 S2;go_wp2;refine aI (jX _ (w.heap.size+1+1) dn (.slice a4 (ws V).length c4) de er _ rfl rfl (S3.o.set _ _ _)) rfl ?_;refine Fin.jA (m:=w.heap.size+3) ?_ ae
 repeat (with_reducible first | exact FV.o | refine Fin.drew ?_ | refine Fin.alloc ?_ _ | refine Fin.set ?_ _ _ _ ae ae)
theorem JJ {w:World}{a b:Option Addr}{l c k d:Nat}(n m:Bool) (e f:Int) (n1 m1:Bool) (X Y:Nat) (e1 f1:Int) (lX:(ws X).length<=8192) (lY:(ws Y).length<=8192) (hX:((((ws X).length:Nat):Int)==0)=false) (hY:((((ws Y).length:Nat):Int)==0)=false) (hlt:e1<f1) (JE:-1048576<=e1) (JF:e1<=1048576) (JG:-1048576<=f1) (JH:f1<=1048576)
 (kF:Hid (∀ u,Below w.heap.size w u->Calls Tryz.prog 128 #[.agg #[.bool n,.slice a l c,.int .i64 e],.agg #[.bool m,.slice b k d,.int .i64 f]] u fun r w'=>∃ v v',r=.returned (.tuple #[.agg #[.bool n1,v,.int .i64 e1],.agg #[.bool m1,v',.int .i64 f1],.int .i64 0])/\Nt u.heap.size w' v X/\Nt u.heap.size w' v' Y/\Below u.heap.size u w'))
 (vC:Hid (∀ (u:World) (p:Option Addr) (q:Nat),Below w.heap.size w u->Arg u p (ws Y).length q (ws Y)->Calls Tryz.prog 129 #[.slice p (ws Y).length q,.int .i64 (f1-e1)] u fun r w'=>∃ v,r=.returned (.tuple #[v,.int .i64 2])/\Nt u.heap.size w' v 0/\Below u.heap.size u w')):Calls Tryz.prog 88 #[.agg #[.bool n,.slice a l c,.int .i64 e],.agg #[.bool m,.slice b k d,.int .i64 f]] w fun r w'=>r=.returned (.tuple #[.agg #[.bool false,.slice none 0 0,.int .i64 0],.int .i64 2])/\Below w.heap.size w w':=by
 have l0:(ws 0).length=0:=by rw [bN];rfl
 obtain ⟨W1,hW1⟩:=ah (((w.alloc (.cells #[.bool n,.slice a l c,.int .i64 e] 62)).alloc (.cells #[.bool m,.slice b k d,.int .i64 f] 62)).alloc (.cells #[.bool false,.slice none 0 0,.int .i64 0] 62));obtain ⟨hB,hz1,DA,DB,DR⟩:=bg w n m (.slice a l c) (.slice b k d) e f W1 hW1;have H1:=hid (kF.o W1 hB);have SB:=(gZ hB hz1 DA DB DR);clear hB hz1 DA DB DR kF;go_enter Tryz.func88,Tryz.ntmps88;go_wp2_with fail;rw [<-hW1];clear hW1;refine H1.o.mono ?_;rintro r u1 ⟨v,v',rfl,hN,hM,hb⟩;obtain ⟨a1,c1,rfl,_⟩:=hN.arg ae;obtain ⟨a2,c2,rfl,_⟩:=hM.arg ae;obtain ⟨hB,hz1,DA,DB,DR⟩:=SB.o;have EA:=DA.below hb;have EB:=DB.below hb;have ER:=DR.below hb;obtain ⟨x0,x1,x2,dA,dB,dC⟩:=EA.facts;obtain ⟨y0,y1,y2,dw,cZ,df⟩:=EB.facts;obtain ⟨r0,r1,r2,fZ,gp,gy⟩:=ER.facts;have FX:=ay (show Fin w.heap.size (w.heap.size+3) w u1 (.slice a1 (ws X).length c1) X from ⟨by rw [<-hz1];exact hN,hB.trans (hb.mono ae),by have:=hb.size;omega⟩);have FY:=ay (show Fin w.heap.size (w.heap.size+3) w u1 (.slice a2 (ws Y).length c2) Y from ⟨by rw [<-hz1];exact hM,hB.trans (hb.mono ae),by have:=hb.size;omega⟩);have SE:=(fB EA EB ER);clear hN hM hb H1 hB hz1 DA DB DR EA EB ER SB;obtain ⟨EA,EB,ER⟩:=SE.o;obtain ⟨U0,sZ⟩:=ah (dW (dW u1 w.heap.size (.bool n1) (.slice a1 (ws X).length c1) (.int .i64 e1)) (w.heap.size+1) (.bool m1) (.slice a2 (ws Y).length c2) (.int .i64 f1));have JA:Dk U0 w.heap.size n1 (.slice a1 (ws X).length c1) e1:=by rw [sZ];exact ((EA.set _ _ _).other _ ae _ _ _)
 have JB:Dk U0 (w.heap.size+1) m1 (.slice a2 (ws Y).length c2) f1:=by rw [sZ];exact ((EB.other _ ae _ _ _).set _ _ _)
 have JR:Dk U0 (w.heap.size+1+1) false (.slice none 0 0) 0:=by rw [sZ];exact ((ER.other _ ae _ _ _).other _ ae _ _ _)
 have KX:=ay (show Fin w.heap.size (w.heap.size+3) w U0 (.slice a1 (ws X).length c1) X by rw [sZ];exact (Fin.dW (Fin.dW FX.o _ _ _ _ ae ae) _ _ _ _ ae ae));have KY:=ay (show Fin w.heap.size (w.heap.size+3) w U0 (.slice a2 (ws Y).length c2) Y by rw [sZ];exact (Fin.dW (Fin.dW FY.o _ _ _ _ ae ae) _ _ _ _ ae ae));have SE:=(fB JA JB JR);unfold dW at sZ;clear EA EB ER JA JB JR
 go_upto_region 9 with fail
 rw [<-sZ];clear sZ x0 x1 x2 dA dB dC y0 y1 y2 dw cZ df r0 r1 r2 fZ gp gy FX FY;obtain ⟨x0,x1,x2,dA,dB,dC⟩:=SE.o.1.facts;obtain ⟨y0,y1,y2,dw,cZ,df⟩:=SE.o.2.1.facts;obtain ⟨r0,r1,r2,fZ,gp,gy⟩:=SE.o.r2.facts;obtain ⟨EA,EB,ER⟩:=SE.o;obtain ⟨U1,bq⟩:=ah (dW (dW U0 w.heap.size (.bool m1) (.slice a2 (ws Y).length c2) (.int .i64 f1)) (w.heap.size+1) (.bool n1) (.slice a1 (ws X).length c1) (.int .i64 e1));have IA:Dk U1 w.heap.size m1 (.slice a2 (ws Y).length c2) f1:=by rw [bq];exact ((EA.set _ _ _).other _ ae _ _ _)
 have IB:Dk U1 (w.heap.size+1) n1 (.slice a1 (ws X).length c1) e1:=by rw [bq];exact ((EB.other _ ae _ _ _).set _ _ _)
 have IR:Dk U1 (w.heap.size+1+1) false (.slice none 0 0) 0:=by rw [bq];exact ((ER.other _ ae _ _ _).other _ ae _ _ _)
 have GX:Fin w.heap.size (w.heap.size+3) w U1 (.slice a1 (ws X).length c1) X:=by rw [bq];exact (Fin.dW (Fin.dW KX.o _ _ _ _ ae ae) _ _ _ _ ae ae)
 have GY:Fin w.heap.size (w.heap.size+3) w U1 (.slice a2 (ws Y).length c2) Y:=by rw [bq];exact (Fin.dW (Fin.dW KY.o _ _ _ _ ae ae) _ _ _ _ ae ae)
 have H2:=hid (vC.o U1 a2 c2 GX.aF (GY.nt.bR ae).2);have S1:=(gZ IA IB IR GX GY);have Uk:w.heap.size+3<=U1.heap.size:=by have:=IR.lt;omega
 clear EA EB ER IA IB IR GX GY SE vC;unfold dW at bq;go_wp2_with fail;rw [<-bq];clear bq x0 x1 x2 dA dB dC y0 y1 y2 dw cZ df r0 r1 r2 fZ gp gy;refine H2.o.mono ?_;rintro r u2 ⟨v,rfl,hN,hb⟩;obtain ⟨a3,c3,rfl,_⟩:=hN.arg ae;obtain ⟨IA,IB,IR,GX,GY⟩:=S1.o;obtain ⟨x0,x1,x2,dA,dB,dC⟩:=(IA.below hb).facts;obtain ⟨y0,y1,y2,dw,cZ,df⟩:=(IB.below hb).facts;obtain ⟨r0,r1,r2,fZ,gp,gy⟩:=(IR.below hb).facts;have S2:=(bB (IR.below hb) ((GX.below hb)));clear hN hb H2 S1 IA IB IR GX GY;go_wp2;refine aI (jX _ (w.heap.size+1+1) false (.slice none 0 0) 0 2 _ rfl rfl (S2.o.1.set _ _ _)) rfl ⟨rfl,?_⟩;refine Fin.aF (m:=w.heap.size+3) (v:=.slice a1 (ws X).length c1) (X:=X) ?_
 repeat (with_reducible first | exact S2.o.2 | refine Fin.drew ?_ | refine Fin.alloc ?_ _ | refine Fin.set ?_ _ _ _ ae ae)
theorem Nq {w:World}{a b:Option Addr}{l c k d:Nat}(n m:Bool) (e f:Int) (n1 m1:Bool) (X Y:Nat) (e1 f1:Int) (lX:(ws X).length<=8192) (lY:(ws Y).length<=8192) (hX:((((ws X).length:Nat):Int)==0)=false) (hY:((((ws Y).length:Nat):Int)==0)=false) (hlt:e1<f1) (JE:-1048576<=e1) (JF:e1<=1048576) (JG:-1048576<=f1) (JH:f1<=1048576)
 (kF:Hid (∀ u,Below w.heap.size w u->Calls Tryz.prog 128 #[.agg #[.bool n,.slice a l c,.int .i64 e],.agg #[.bool m,.slice b k d,.int .i64 f]] u fun r w'=>∃ v v',r=.returned (.tuple #[.agg #[.bool n1,v,.int .i64 e1],.agg #[.bool m1,v',.int .i64 f1],.int .i64 0])/\Nt u.heap.size w' v X/\Nt u.heap.size w' v' Y/\Below u.heap.size u w')) (hs:(m1==n1)=true) (L:Nat) (lL:(ws L).length<=8192) (dn:Bool) (V:Nat) (de er:Int) (lV:(ws V).length<=8192)
 (vC:Hid (∀ (u:World) (p:Option Addr) (q:Nat),Below w.heap.size w u->Arg u p (ws Y).length q (ws Y)->Calls Tryz.prog 129 #[.slice p (ws Y).length q,.int .i64 (f1-e1)] u fun r w'=>∃ v,r=.returned (.tuple #[v,.int .i64 0])/\Nt u.heap.size w' v L/\Below u.heap.size u w'))
 (HT:Hid (∀ (u:World) (p q:Option Addr) (s t:Nat),Below w.heap.size w u->Arg u p (ws L).length s (ws L)->Arg u q (ws X).length t (ws X)->Calls Tryz.prog 130 #[.bool m1,.slice p (ws L).length s,.slice q (ws X).length t,.int .i64 e1] u fun r w'=>(∃ v,r=.returned (.tuple #[.agg #[.bool dn,v,.int .i64 de],.int .i64 er])/\Nt u.heap.size w' v V)/\Below u.heap.size u w')):Calls Tryz.prog 88 #[.agg #[.bool n,.slice a l c,.int .i64 e],.agg #[.bool m,.slice b k d,.int .i64 f]] w fun r w'=>(∃ v,r=.returned (.tuple #[.agg #[.bool dn,v,.int .i64 de],.int .i64 er])/\Nt w.heap.size w' v V)/\Below w.heap.size w w':=by
 obtain ⟨W1,hW1⟩:=ah (((w.alloc (.cells #[.bool n,.slice a l c,.int .i64 e] 62)).alloc (.cells #[.bool m,.slice b k d,.int .i64 f] 62)).alloc (.cells #[.bool false,.slice none 0 0,.int .i64 0] 62));obtain ⟨hB,hz1,DA,DB,DR⟩:=bg w n m (.slice a l c) (.slice b k d) e f W1 hW1;have H1:=hid (kF.o W1 hB);have SB:=(gZ hB hz1 DA DB DR);clear hB hz1 DA DB DR kF;go_enter Tryz.func88,Tryz.ntmps88;go_wp2_with fail;rw [<-hW1];clear hW1;refine H1.o.mono ?_;rintro r u1 ⟨v,v',rfl,hN,hM,hb⟩;obtain ⟨a1,c1,rfl,_⟩:=hN.arg ae;obtain ⟨a2,c2,rfl,_⟩:=hM.arg ae;obtain ⟨hB,hz1,DA,DB,DR⟩:=SB.o;have EA:=DA.below hb;have EB:=DB.below hb;have ER:=DR.below hb;obtain ⟨x0,x1,x2,dA,dB,dC⟩:=EA.facts;obtain ⟨y0,y1,y2,dw,cZ,df⟩:=EB.facts;obtain ⟨r0,r1,r2,fZ,gp,gy⟩:=ER.facts;have FX:=ay (show Fin w.heap.size (w.heap.size+3) w u1 (.slice a1 (ws X).length c1) X from ⟨by rw [<-hz1];exact hN,hB.trans (hb.mono ae),by have:=hb.size;omega⟩);have FY:=ay (show Fin w.heap.size (w.heap.size+3) w u1 (.slice a2 (ws Y).length c2) Y from ⟨by rw [<-hz1];exact hM,hB.trans (hb.mono ae),by have:=hb.size;omega⟩);have SE:=(fB EA EB ER);clear hN hM hb H1 hB hz1 DA DB DR EA EB ER SB;obtain ⟨EA,EB,ER⟩:=SE.o;obtain ⟨U0,sZ⟩:=ah (dW (dW u1 w.heap.size (.bool n1) (.slice a1 (ws X).length c1) (.int .i64 e1)) (w.heap.size+1) (.bool m1) (.slice a2 (ws Y).length c2) (.int .i64 f1));have JA:Dk U0 w.heap.size n1 (.slice a1 (ws X).length c1) e1:=by rw [sZ];exact ((EA.set _ _ _).other _ ae _ _ _)
 have JB:Dk U0 (w.heap.size+1) m1 (.slice a2 (ws Y).length c2) f1:=by rw [sZ];exact ((EB.other _ ae _ _ _).set _ _ _)
 have JR:Dk U0 (w.heap.size+1+1) false (.slice none 0 0) 0:=by rw [sZ];exact ((ER.other _ ae _ _ _).other _ ae _ _ _)
 have KX:=ay (show Fin w.heap.size (w.heap.size+3) w U0 (.slice a1 (ws X).length c1) X by rw [sZ];exact (Fin.dW (Fin.dW FX.o _ _ _ _ ae ae) _ _ _ _ ae ae));have KY:=ay (show Fin w.heap.size (w.heap.size+3) w U0 (.slice a2 (ws Y).length c2) Y by rw [sZ];exact (Fin.dW (Fin.dW FY.o _ _ _ _ ae ae) _ _ _ _ ae ae));have SE:=(fB JA JB JR);unfold dW at sZ;clear EA EB ER JA JB JR
 go_upto_region 9 with fail
 rw [<-sZ];clear sZ x0 x1 x2 dA dB dC y0 y1 y2 dw cZ df r0 r1 r2 fZ gp gy FX FY;obtain ⟨x0,x1,x2,dA,dB,dC⟩:=SE.o.1.facts;obtain ⟨y0,y1,y2,dw,cZ,df⟩:=SE.o.2.1.facts;obtain ⟨r0,r1,r2,fZ,gp,gy⟩:=SE.o.r2.facts;obtain ⟨EA,EB,ER⟩:=SE.o;obtain ⟨U1,bq⟩:=ah (dW (dW U0 w.heap.size (.bool m1) (.slice a2 (ws Y).length c2) (.int .i64 f1)) (w.heap.size+1) (.bool n1) (.slice a1 (ws X).length c1) (.int .i64 e1));have IA:Dk U1 w.heap.size m1 (.slice a2 (ws Y).length c2) f1:=by rw [bq];exact ((EA.set _ _ _).other _ ae _ _ _)
 have IB:Dk U1 (w.heap.size+1) n1 (.slice a1 (ws X).length c1) e1:=by rw [bq];exact ((EB.other _ ae _ _ _).set _ _ _)
 have IR:Dk U1 (w.heap.size+1+1) false (.slice none 0 0) 0:=by rw [bq];exact ((ER.other _ ae _ _ _).other _ ae _ _ _)
 have GX:Fin w.heap.size (w.heap.size+3) w U1 (.slice a1 (ws X).length c1) X:=by rw [bq];exact (Fin.dW (Fin.dW KX.o _ _ _ _ ae ae) _ _ _ _ ae ae)
 have GY:Fin w.heap.size (w.heap.size+3) w U1 (.slice a2 (ws Y).length c2) Y:=by rw [bq];exact (Fin.dW (Fin.dW KY.o _ _ _ _ ae ae) _ _ _ _ ae ae)
 have H2:=hid (vC.o U1 a2 c2 GX.aF (GY.nt.bR ae).2);have S1:=(gZ IA IB IR GX GY);have Uk:w.heap.size+3<=U1.heap.size:=by have:=IR.lt;omega
 clear EA EB ER IA IB IR GX GY SE vC;unfold dW at bq;go_wp2_with fail;rw [<-bq];clear bq x0 x1 x2 dA dB dC y0 y1 y2 dw cZ df r0 r1 r2 fZ gp gy;refine H2.o.mono ?_;rintro r u2 ⟨v,rfl,hN,hb⟩;obtain ⟨a3,c3,rfl,_⟩:=hN.arg ae;obtain ⟨IA,IB,IR,GX,GY⟩:=S1.o;obtain ⟨x0,x1,x2,dA,dB,dC⟩:=(IA.below hb).facts;obtain ⟨y0,y1,y2,dw,cZ,df⟩:=(IB.below hb).facts;obtain ⟨r0,r1,r2,fZ,gp,gy⟩:=(IR.below hb).facts;have H3:=hid (HT.o u2 a3 a1 c3 c1 (GX.below hb).aF (hN.bR ae).2 ((GX.below hb).nt.bR ae).2);have S2:=(bB (IR.below hb) ((GX.below hb)));have hz2:w.heap.size+3<=u2.heap.size:=by have:=hb.size;omega
 clear hN hb H2 S1 IA IB IR GX GY HT;go_wp2_with fail;refine H3.o.mono ?_;rintro r u3 ⟨⟨v,rfl,hN⟩,hb⟩;obtain ⟨a4,c4,rfl,_⟩:=hN.arg ae;have IR:=S2.o.1.below hb;obtain ⟨s0,s1,s2,wM,wN,wO⟩:=IR.facts;have FV:=ay (show Fin w.heap.size (w.heap.size+3) w u3 (.slice a4 (ws V).length c4) V from ⟨hN.mono hz2,(S2.o.2.below hb).aF,by have:=hb.size;omega⟩);have S3:=ay IR;clear hN hb IR H3 S2;go_wp2;refine aI (jX _ (w.heap.size+1+1) dn (.slice a4 (ws V).length c4) de er _ rfl rfl (S3.o.set _ _ _)) rfl ?_;refine Fin.jA (m:=w.heap.size+3) ?_ ae
 repeat (with_reducible first | exact FV.o | refine Fin.drew ?_ | refine Fin.alloc ?_ _ | refine Fin.set ?_ _ _ _ ae ae)
theorem JK {w:World}{a b:Option Addr}{l c k d:Nat}(n m:Bool) (e f:Int) (n1 m1:Bool) (X Y:Nat) (e1 f1:Int) (lX:(ws X).length<=8192) (lY:(ws Y).length<=8192) (hX:((((ws X).length:Nat):Int)==0)=false) (hY:((((ws Y).length:Nat):Int)==0)=false) (hlt:e1<f1) (JE:-1048576<=e1) (JF:e1<=1048576) (JG:-1048576<=f1) (JH:f1<=1048576)
 (kF:Hid (∀ u,Below w.heap.size w u->Calls Tryz.prog 128 #[.agg #[.bool n,.slice a l c,.int .i64 e],.agg #[.bool m,.slice b k d,.int .i64 f]] u fun r w'=>∃ v v',r=.returned (.tuple #[.agg #[.bool n1,v,.int .i64 e1],.agg #[.bool m1,v',.int .i64 f1],.int .i64 0])/\Nt u.heap.size w' v X/\Nt u.heap.size w' v' Y/\Below u.heap.size u w')) (hs:(m1==n1)=false) (L:Nat) (lL:(ws L).length<=8192) (dn:Bool) (V:Nat) (de er:Int) (lV:(ws V).length<=8192)
 (vC:Hid (∀ (u:World) (p:Option Addr) (q:Nat),Below w.heap.size w u->Arg u p (ws Y).length q (ws Y)->Calls Tryz.prog 129 #[.slice p (ws Y).length q,.int .i64 (f1-e1)] u fun r w'=>∃ v,r=.returned (.tuple #[v,.int .i64 0])/\Nt u.heap.size w' v L/\Below u.heap.size u w'))
 (HT:Hid (∀ (u:World) (p q:Option Addr) (s t:Nat),Below w.heap.size w u->Arg u p (ws L).length s (ws L)->Arg u q (ws X).length t (ws X)->Calls Tryz.prog 131 #[.bool m1,.slice p (ws L).length s,.slice q (ws X).length t,.int .i64 e1] u fun r w'=>(∃ v,r=.returned (.tuple #[.agg #[.bool dn,v,.int .i64 de],.int .i64 er])/\Nt u.heap.size w' v V)/\Below u.heap.size u w')):Calls Tryz.prog 88 #[.agg #[.bool n,.slice a l c,.int .i64 e],.agg #[.bool m,.slice b k d,.int .i64 f]] w fun r w'=>(∃ v,r=.returned (.tuple #[.agg #[.bool dn,v,.int .i64 de],.int .i64 er])/\Nt w.heap.size w' v V)/\Below w.heap.size w w':=by
 obtain ⟨W1,hW1⟩:=ah (((w.alloc (.cells #[.bool n,.slice a l c,.int .i64 e] 62)).alloc (.cells #[.bool m,.slice b k d,.int .i64 f] 62)).alloc (.cells #[.bool false,.slice none 0 0,.int .i64 0] 62));obtain ⟨hB,hz1,DA,DB,DR⟩:=bg w n m (.slice a l c) (.slice b k d) e f W1 hW1;have H1:=hid (kF.o W1 hB);have SB:=(gZ hB hz1 DA DB DR);clear hB hz1 DA DB DR kF;go_enter Tryz.func88,Tryz.ntmps88;go_wp2_with fail;rw [<-hW1];clear hW1;refine H1.o.mono ?_;rintro r u1 ⟨v,v',rfl,hN,hM,hb⟩;obtain ⟨a1,c1,rfl,_⟩:=hN.arg ae;obtain ⟨a2,c2,rfl,_⟩:=hM.arg ae;obtain ⟨hB,hz1,DA,DB,DR⟩:=SB.o;have EA:=DA.below hb;have EB:=DB.below hb;have ER:=DR.below hb;obtain ⟨x0,x1,x2,dA,dB,dC⟩:=EA.facts;obtain ⟨y0,y1,y2,dw,cZ,df⟩:=EB.facts;obtain ⟨r0,r1,r2,fZ,gp,gy⟩:=ER.facts;have FX:=ay (show Fin w.heap.size (w.heap.size+3) w u1 (.slice a1 (ws X).length c1) X from ⟨by rw [<-hz1];exact hN,hB.trans (hb.mono ae),by have:=hb.size;omega⟩);have FY:=ay (show Fin w.heap.size (w.heap.size+3) w u1 (.slice a2 (ws Y).length c2) Y from ⟨by rw [<-hz1];exact hM,hB.trans (hb.mono ae),by have:=hb.size;omega⟩);have SE:=(fB EA EB ER);clear hN hM hb H1 hB hz1 DA DB DR EA EB ER SB;obtain ⟨EA,EB,ER⟩:=SE.o;obtain ⟨U0,sZ⟩:=ah (dW (dW u1 w.heap.size (.bool n1) (.slice a1 (ws X).length c1) (.int .i64 e1)) (w.heap.size+1) (.bool m1) (.slice a2 (ws Y).length c2) (.int .i64 f1));have JA:Dk U0 w.heap.size n1 (.slice a1 (ws X).length c1) e1:=by rw [sZ];exact ((EA.set _ _ _).other _ ae _ _ _)
 have JB:Dk U0 (w.heap.size+1) m1 (.slice a2 (ws Y).length c2) f1:=by rw [sZ];exact ((EB.other _ ae _ _ _).set _ _ _)
 have JR:Dk U0 (w.heap.size+1+1) false (.slice none 0 0) 0:=by rw [sZ];exact ((ER.other _ ae _ _ _).other _ ae _ _ _)
 have KX:=ay (show Fin w.heap.size (w.heap.size+3) w U0 (.slice a1 (ws X).length c1) X by rw [sZ];exact (Fin.dW (Fin.dW FX.o _ _ _ _ ae ae) _ _ _ _ ae ae));have KY:=ay (show Fin w.heap.size (w.heap.size+3) w U0 (.slice a2 (ws Y).length c2) Y by rw [sZ];exact (Fin.dW (Fin.dW FY.o _ _ _ _ ae ae) _ _ _ _ ae ae));have SE:=(fB JA JB JR);unfold dW at sZ;clear EA EB ER JA JB JR
 go_upto_region 9 with fail
 rw [<-sZ];clear sZ x0 x1 x2 dA dB dC y0 y1 y2 dw cZ df r0 r1 r2 fZ gp gy FX FY;obtain ⟨x0,x1,x2,dA,dB,dC⟩:=SE.o.1.facts;obtain ⟨y0,y1,y2,dw,cZ,df⟩:=SE.o.2.1.facts;obtain ⟨r0,r1,r2,fZ,gp,gy⟩:=SE.o.r2.facts;obtain ⟨EA,EB,ER⟩:=SE.o;obtain ⟨U1,bq⟩:=ah (dW (dW U0 w.heap.size (.bool m1) (.slice a2 (ws Y).length c2) (.int .i64 f1)) (w.heap.size+1) (.bool n1) (.slice a1 (ws X).length c1) (.int .i64 e1));have IA:Dk U1 w.heap.size m1 (.slice a2 (ws Y).length c2) f1:=by rw [bq];exact ((EA.set _ _ _).other _ ae _ _ _)
 have IB:Dk U1 (w.heap.size+1) n1 (.slice a1 (ws X).length c1) e1:=by rw [bq];exact ((EB.other _ ae _ _ _).set _ _ _)
 have IR:Dk U1 (w.heap.size+1+1) false (.slice none 0 0) 0:=by rw [bq];exact ((ER.other _ ae _ _ _).other _ ae _ _ _)
 have GX:Fin w.heap.size (w.heap.size+3) w U1 (.slice a1 (ws X).length c1) X:=by rw [bq];exact (Fin.dW (Fin.dW KX.o _ _ _ _ ae ae) _ _ _ _ ae ae)
 have GY:Fin w.heap.size (w.heap.size+3) w U1 (.slice a2 (ws Y).length c2) Y:=by rw [bq];exact (Fin.dW (Fin.dW KY.o _ _ _ _ ae ae) _ _ _ _ ae ae)
 have H2:=hid (vC.o U1 a2 c2 GX.aF (GY.nt.bR ae).2);have S1:=(gZ IA IB IR GX GY);have Uk:w.heap.size+3<=U1.heap.size:=by have:=IR.lt;omega
 clear EA EB ER IA IB IR GX GY SE vC;unfold dW at bq;go_wp2_with fail;rw [<-bq];clear bq x0 x1 x2 dA dB dC y0 y1 y2 dw cZ df r0 r1 r2 fZ gp gy;refine H2.o.mono ?_;rintro r u2 ⟨v,rfl,hN,hb⟩;obtain ⟨a3,c3,rfl,_⟩:=hN.arg ae;obtain ⟨IA,IB,IR,GX,GY⟩:=S1.o;obtain ⟨x0,x1,x2,dA,dB,dC⟩:=(IA.below hb).facts;obtain ⟨y0,y1,y2,dw,cZ,df⟩:=(IB.below hb).facts;obtain ⟨r0,r1,r2,fZ,gp,gy⟩:=(IR.below hb).facts;have H3:=hid (HT.o u2 a3 a1 c3 c1 (GX.below hb).aF (hN.bR ae).2 ((GX.below hb).nt.bR ae).2);have S2:=(bB (IR.below hb) ((GX.below hb)));have hz2:w.heap.size+3<=u2.heap.size:=by have:=hb.size;omega
 clear hN hb H2 S1 IA IB IR GX GY HT;go_wp2_with fail;refine H3.o.mono ?_;rintro r u3 ⟨⟨v,rfl,hN⟩,hb⟩;obtain ⟨a4,c4,rfl,_⟩:=hN.arg ae;have IR:=S2.o.1.below hb;obtain ⟨s0,s1,s2,wM,wN,wO⟩:=IR.facts;have FV:=ay (show Fin w.heap.size (w.heap.size+3) w u3 (.slice a4 (ws V).length c4) V from ⟨hN.mono hz2,(S2.o.2.below hb).aF,by have:=hb.size;omega⟩);have S3:=ay IR;clear hN hb IR H3 S2;go_wp2;refine aI (jX _ (w.heap.size+1+1) dn (.slice a4 (ws V).length c4) de er _ rfl rfl (S3.o.set _ _ _)) rfl ?_;refine Fin.jA (m:=w.heap.size+3) ?_ ae
 repeat (with_reducible first | exact FV.o | refine Fin.drew ?_ | refine Fin.alloc ?_ _ | refine Fin.set ?_ _ _ _ ae ae)
def jI (n:Bool) (X:Nat) (e:Int) (m:Bool) (Y:Nat) (f:Int):Option (Bool×Nat×Int) :=
 if 262144<bl X+(e-f).toNat then none
 else if n=m then mkS n (X*2^(e-f).toNat+Y) f
 else if Y<=X*2^(e-f).toNat then mkS n (X*2^(e-f).toNat-Y) f
 else mkS (!n) (Y-X*2^(e-f).toNat) f
def qB (x y:Bool×Nat×Int):Option (Bool×Nat×Int) :=
 if x.2.1=0 then some y else if y.2.1=0 then some x
 else if x.2.2<y.2.2 then jI y.1 y.2.1 y.2.2 x.1 x.2.1 x.2.2 else jI x.1 x.2.1 x.2.2 y.1 y.2.1 y.2.2
def fQ (o p:Option (Bool×Nat×Int)):Option (Bool×Nat×Int) :=
 match o,p with
 | some x,some y=>qB x y
 | _,_=>none
theorem vD (X:Nat) (b:Int) (h0:0<=b) (hX:X≠0) (hl:bl X<=262144):bF X b=if 262144<bl X+b.toNat then (0,2) else (X*2^b.toNat,0):=by
 unfold bF;rw [if_neg (kT hl),if_neg hX,if_neg ae]
 by_cases h:262144<bl X+b.toNat
 · rw [if_pos h,if_pos ae]
 · rw [if_neg h,if_neg ae]
theorem Ch (X b:Nat) (hX:X≠0):bl (X*2^b)=bl X+b:=by rw [dh,pE b X hX];omega
theorem j6 {w:World}{p:Option Addr}{q X:Nat}(b:Int) (L:Nat) (er:Int) (hA:Arg w p (ws X).length q (ws X)) (hb0:-9223372036854775808<=b) (hb1:b<=9223372036854775807) (h:bF X b=(L,er)) :
 Calls Tryz.prog 129 #[.slice p (ws X).length q,.int .i64 b] w fun r w'=>∃ v,r=.returned (.tuple #[v,.int .i64 er])/\Nt w.heap.size w' v L/\Below w.heap.size w w':=by
 have:=xM (ws X) p (ws X).length q w.heap.size b w hA.len hA.cap (by have:=hA.big;omega) hA.wf hA.rd (aH _) hb0 hb1;rw [ax,h] at this;exact this.mono fun r w' ⟨⟨v,h1,h2⟩,h3⟩=>⟨v,h1,h2,h3⟩
theorem Nr {w u:World}{p q:Option Addr}{s t L Y:Nat}(hT:il w) (hu:Below w.heap.size w u) (A1:Arg u p (ws L).length s (ws L)) (A2:Arg u q (ws Y).length t (ws Y)) (n:Bool) (f:Int) (h0:-1048576<=f) (h1:f<=1048576) (oY:Y%2=1) (bL:bl L<=262144) (bY:bl Y<=262144) :
 Calls Tryz.prog 130 #[.bool n,.slice p (ws L).length s,.slice q (ws Y).length t,.int .i64 f] u fun r w'=>di u.heap.size w' r (mkS n (L+Y) f)/\Below u.heap.size u w' :=
 Qu A1 A2 (hT.belows hu) n f h0 h1 L Y (ax L) (ax Y) oY bL bY
theorem GZ {w u:World}{p q:Option Addr}{s t L Y:Nat}(hT:il w) (hu:Below w.heap.size w u) (A1:Arg u p (ws L).length s (ws L)) (A2:Arg u q (ws Y).length t (ws Y)) (n:Bool) (f:Int) (h0:-1048576<=f) (h1:f<=1048576) (bL:bl L<=262144) (bY:bl Y<=262144) :
 Calls Tryz.prog 131 #[.bool n,.slice p (ws L).length s,.slice q (ws Y).length t,.int .i64 f] u fun r w'=>di u.heap.size w' r (if Y<=L then mkS n (L-Y) f else mkS (!n) (Y-L) f)/\Below u.heap.size u w':=by
 by_cases h:Y<=L
 · rw [if_pos h];exact Jz A1 A2 (hT.belows hu) n f h0 h1 L Y (ax L) (ax Y) bL bY h
 · rw [if_neg h];exact Nl A1 A2 (hT.belows hu) n f h0 h1 L Y (ax L) (ax Y) bL bY ae
theorem dG {X:Nat}(h:X≠0):((((ws X).length:Nat):Int)==0)=false:=beq_eq_false_iff_ne.2 (by have:(ws X).length≠0:=fun e=>h ((bZ X).1 e);omega)
theorem Ci {w:World}{a b:Option Addr}{l c k d:Nat}{xs ys:List Nat}(h1:Arg w a l c xs) (h2:Arg w b k d ys) (hT:il w) (n m:Bool) (e f:Int) (he0:-9223372036854775808<=e) (he1:e<=9223372036854775807) (hf0:-9223372036854775808<=f) (hf1:f<=9223372036854775807) :
 Calls Tryz.prog 88 #[.agg #[.bool n,.slice a l c,.int .i64 e],.agg #[.bool m,.slice b k d,.int .i64 f]] w fun r w'=>di w.heap.size w' r (fQ (mkS n (val xs) e) (mkS m (val ys) f))/\Below w.heap.size w w':=by
 have zero:∀ {r:Ending} {w':World},(r=.returned (.tuple #[.agg #[.bool false,.slice none 0 0,.int .i64 0],.int .i64 2])/\Below w.heap.size w w')->di w.heap.size w' r none/\Below w.heap.size w w':=fun ⟨h1,h2⟩=>⟨⟨_,h1,Nt.nil _ _⟩,h2⟩
 cases hx:mkS n (val xs) e with
 | none =>
   exact (GV n m e f (hid fun u hu=>vz (h1.below hu) (h2.below hu) (hT.belows hu) n m e f he0 he1 hf0 hf1 hx)).mono fun r w' h=>zero h
 | some x =>
   obtain ⟨n1,X,e1⟩:=x
   cases hy:mkS m (val ys) f with
   | none =>
     exact (GV n m e f (hid fun u hu=>vB (h1.below hu) (h2.below hu) (hT.belows hu) n m e f he0 he1 hf0 hf1 n1 X e1 hx hy)).mono fun r w' h=>zero h
   | some y =>
     obtain ⟨m1,Y,f1⟩:=y;have kF:=hid fun u (hu:Below w.heap.size w u)=>Cg (h1.below hu) (h2.below hu) (hT.belows hu) n m e f he0 he1 hf0 hf1 n1 m1 X Y e1 f1 hx hy;have FX:=cu hx;have FY:=cu hy;have lX:=dY FX;have lY:=dY FY;have:=FX.up;have:=FX.down;have:=FY.up;have:=FY.down;show Calls _ _ _ _ fun r w'=>di w.heap.size w' r (qB (n1,X,e1) (m1,Y,f1))/\_;unfold qB;simp only
     by_cases hX0:X=0
     · rw [if_pos hX0];exact Nn n m e f n1 m1 X Y e1 f1 lX lY ((bZ X).2 hX0) kF
     · rw [if_neg hX0]
       by_cases hY0:Y=0
       · rw [if_pos hY0];exact JC n m e f n1 m1 X Y e1 f1 lX lY (dG hX0) ((bZ Y).2 hY0) kF
       · rw [if_neg hY0];have oX:X%2=1:=by rcases FX.odd with h | h <;> omega
         have oY:Y%2=1:=by rcases FY.odd with h | h <;> omega
         by_cases hlt:e1<f1
         · rw [if_pos hlt];have hsh:=vD Y (f1-e1) ae hY0 FY.size;unfold jI
           by_cases hL:262144<bl Y+(f1-e1).toNat
           · rw [if_pos hL] at hsh |-;exact (JJ n m e f n1 m1 X Y e1 f1 lX lY (dG hX0) (dG hY0) hlt ae ae ae ae kF (hid fun u p q hu hA=>j6 (f1-e1) 0 2 hA ae ae hsh)).mono fun r w' h=>zero h
           · rw [if_neg hL] at hsh |-;have hbl:=Ch Y (f1-e1).toNat hY0;obtain ⟨L,Tc⟩:∃ L,Y*2^(f1-e1).toNat=L:=⟨_,rfl⟩;rw [Tc] at hsh hbl |-;have lL:=len8 (X:=L) ae
             by_cases hs:m1=n1
             · rw [if_pos hs]
               exact Nq n m e f n1 m1 X Y e1 f1 lX lY (dG hX0) (dG hY0) hlt ae ae ae ae kF (by simp [hs]) L lL _ _ _ _ (aS m1 (L+X) e1) (hid fun u p q hu hA=>j6 (f1-e1) L 0 hA ae ae hsh)
                (hid fun u p q s t hu hA hB=>Nr hT hu hA hB m1 e1 ae ae oX ae FX.size)
             · rw [if_neg hs];have hlen:(ws (dX (if X<=L then mkS m1 (L-X) e1 else mkS (!m1) (X-L) e1))).length<=8192:=by split <;> exact aS _ _ _
               exact JK n m e f n1 m1 X Y e1 f1 lX lY (dG hX0) (dG hY0) hlt ae ae ae ae kF (by simp [hs]) L lL _ _ _ _ hlen (hid fun u p q hu hA=>j6 (f1-e1) L 0 hA ae ae hsh)
                (hid fun u p q s t hu hA hB=>GZ hT hu hA hB m1 e1 ae ae ae FX.size)
         · rw [if_neg hlt];have hsh:=vD X (e1-f1) ae hX0 FX.size;have Ul:decide (e1<f1)=false:=decide_eq_false hlt;unfold jI
           by_cases hL:262144<bl X+(e1-f1).toNat
           · rw [if_pos hL] at hsh |-;exact (JD n m e f n1 m1 X Y e1 f1 lX lY (dG hX0) (dG hY0) Ul ae ae ae ae kF (hid fun u p q hu hA=>j6 (e1-f1) 0 2 hA ae ae hsh)).mono fun r w' h=>zero h
           · rw [if_neg hL] at hsh |-;have hbl:=Ch X (e1-f1).toNat hX0;obtain ⟨L,Tc⟩:∃ L,X*2^(e1-f1).toNat=L:=⟨_,rfl⟩;rw [Tc] at hsh hbl |-;have lL:=len8 (X:=L) ae
             by_cases hs:n1=m1
             · rw [if_pos hs]
               exact Np n m e f n1 m1 X Y e1 f1 lX lY (dG hX0) (dG hY0) Ul ae ae ae ae kF (by simp [hs]) L lL _ _ _ _ (aS n1 (L+Y) f1) (hid fun u p q hu hA=>j6 (e1-f1) L 0 hA ae ae hsh)
                (hid fun u p q s t hu hA hB=>Nr hT hu hA hB n1 f1 ae ae oY ae FY.size)
             · rw [if_neg hs];have hlen:(ws (dX (if Y<=L then mkS n1 (L-Y) f1 else mkS (!n1) (Y-L) f1))).length<=8192:=by split <;> exact aS _ _ _
               exact JI n m e f n1 m1 X Y e1 f1 lX lY (dG hX0) (dG hY0) Ul ae ae ae ae kF (by simp [hs]) L lL _ _ _ _ hlen (hid fun u p q hu hA=>j6 (e1-f1) L 0 hA ae ae hsh)
                (hid fun u p q s t hu hA hB=>GZ hT hu hA hB n1 f1 ae ae ae FY.size)
end
namespace B
open Ieee
theorem zq (f:Format) (j c:Nat) (h:j=0\/f.binade<=c) (hc:c<=2*f.binade):val f (j*f.binade+c)=c*2^j:=by
 have hb:=jy f;unfold val;generalize f.binade=B at *
 by_cases h1:c<B
 · have hj:j=0:=ae
   subst hj;rw [dZ,dI,if_pos h1,fG,dU]
 · have h2:¬ j*B+c<B:=by
    have:=lh (j*B);omega
   rw [if_neg h2]
   by_cases h3:c=2*B
   · subst h3;have e:j*B+2*B=(j+2)*B:=by rw [fU]
     rw [e,Nat.mul_mod_left,Nat.mul_div_cancel _ hb,iw,show j+2-1=j+1 from rfl,dS,dh 2 B,aU,dh 2]
   · have e:j*B+c=B*(j+1)+(c-B):=by
      rw [Nat.mul_succ,dh j];omega
     have e1:(j*B+c)%B=c-B:=by rw [e,Nat.mul_add_mod,jk ae]
     have e2:(j*B+c)/B=j+1:=by rw [e,Nat.mul_add_div hb,ic ae]
     rw [e1,e2,lg,show B+(c-B)=c from by omega]
theorem zt (f:Format) (neg:Bool) (mag k a:Nat) (hm:mag≠0) :
 ∃ R,f.nearest neg mag (f.leastPlace+(k:Int)-(a:Int))=f.word neg (min R f.infRung) /\
   (val f R*2^a<=mag*2^k->mag*2^k<val f (R+1)*2^a) /\
   (mag*2^k<val f R*2^a->0<R/\val f (R-1)*2^a<mag*2^k):=by
 unfold Format.nearest;rw [if_neg hm];simp only [Br,yE];have hl:=(Nat.log2_eq_iff hm (k:=mag.log2)).1 rfl;generalize mag.log2=L at *;have hB:f.binade=2^f.fractionBits:=rfl;have hb:=jy f
 obtain ⟨j,hj⟩:∃ j:Nat,max (f.leastPlace+(k:Int)-(a:Int)+(L:Int)-(f.fractionBits:Int)) f.leastPlace=f.leastPlace+j :=
  ⟨(max (f.leastPlace+(k:Int)-(a:Int)+(L:Int)-(f.fractionBits:Int)) f.leastPlace-f.leastPlace).toNat,ae⟩
 have hj1:k+L<=a+f.fractionBits+j:=ae
 have hj2:j=0\/k+L=a+f.fractionBits+j:=ae
 rw [hj];have e3:(f.leastPlace+(j:Int)-f.leastPlace).toNat=j:=ae
 have e1:(f.leastPlace+(k:Int)-(a:Int)-(f.leastPlace+(j:Int))).toNat=k-(a+j):=ae
 have e2:(f.leastPlace+(j:Int)-(f.leastPlace+(k:Int)-(a:Int))).toNat=a+j-k:=ae
 rw [e1,e2,e3];have hg:0<2^(a+j-k):=bK _
 -- V*g=m'*2^(a+j)
 have hV:mag*2^k*2^(a+j-k)=mag*2^(k-(a+j))*2^(a+j):=by
  rw [aU,aU,<-aR,<-aR];congr 2;omega
 have up:mag*2^(k-(a+j))<2*f.binade*2^(a+j-k):=by
  have:2*f.binade=2^(f.fractionBits+1):=by rw [hB,dS,dh]
  rw [this,<-aR];refine iF (fM hl.2 (bK _)) ?_;rw [<-aR];exact fE ae ae
 have dn:j=0\/f.binade*2^(a+j-k)<=mag*2^(k-(a+j)):=by
  rcases hj2 with h|h
  · exact Or.inl h
  · right
    refine dD ?_ (gF _ hl.1);rw [hB,<-aR,<-aR];exact fE ae ae
 generalize hm':mag*2^(k-(a+j))=m' at *;generalize 2^(a+j-k)=g at *;generalize mag*2^k=V at *;have Td:=oJ m' g;have hmod:=jl m' hg;have hlow:m'/g<2*f.binade:=(uC hg).2 up
 have Xa:j=0\/f.binade<=m'/g:=by
  rcases dn with h|h
  · exact Or.inl h
  · exact Or.inr ((Ar hg).2 h)
 have hp2:0<2^(a+j):=bK _
 -- the bounds
 have b1:m'/g*2^(a+j)<=V:=by
  refine Nat.le_of_mul_le_mul_right ?_ hg;rw [hV,xz];exact gF _ (by rw [dh];omega)
 have b2:V<(m'/g+1)*2^(a+j):=by
  refine Au (a:=g) ?_;rw [hV,xz];refine fM ?_ hp2;rw [fU,iq,dh];omega
 have b3:m'%g≠0->m'/g*2^(a+j)<V:=by
  intro hr;refine Au (a:=g) ?_;rw [hV,xz];refine fM ?_ hp2;rw [dh];omega
 have v0:val f (j*f.binade+m'/g)*2^a=m'/g*2^(a+j):=by
  rw [zq f j _ Xa ae,aU,<-aR,mV j a]
 have v1:val f (j*f.binade+(m'/g+1))*2^a=(m'/g+1)*2^(a+j):=by
  rw [zq f j _ ae ae,aU,<-aR,mV j a]
 refine ⟨j*f.binade+SA m' g,rfl,?_,?_⟩
 · unfold SA
   cases hc:(decide (g<2*(m'%g)) || (g==2*(m'%g)&&m'/g%2==1))
   · intro _;simp only [jd,iw];rw [mU,v1];exact b2
   · intro h;simp only [jc] at h;rw [v1] at h;omega
 · unfold SA
   cases hc:(decide (g<2*(m'%g)) || (g==2*(m'%g)&&m'/g%2==1))
   · intro h;simp only [jd,iw] at h;rw [v0] at h;omega
   · intro _;simp only [jc];refine ⟨Nat.succ_pos _,?_⟩;rw [show j*f.binade+(m'/g+1)-1=j*f.binade+m'/g from rfl,v0];refine b3 (fun hr=>?_);rw [hr] at hc;simp at hc;omega
theorem vE (f:Format) (neg:Bool) (mag k a r:Nat) (hr:r<f.infRung) (h:mag*2^k=val f r*2^a) (hm:mag≠0) :
 f.nearest neg mag (f.leastPlace+(k:Int)-(a:Int))=f.word neg r:=by
 obtain ⟨R,e,h1,h2⟩:=zt f neg mag k a hm;have hp:0<2^a:=bK _
 have:R=r:=by
  by_cases c:val f R*2^a<=mag*2^k
  · have c2:=h1 c;rw [h] at c c2;have d1:=Nat.le_of_mul_le_mul_right c hp;have d2:=(iA f).1 (Au c2);have d3:¬ r<R:=fun hh=>by have:=cK f hh;omega
    omega
  · have c2:=h2 ae;rw [h] at c c2;have d1:=(iA f).1 (Au (a:=2^a) (Nat.lt_of_not_le c));have d2:=(iA f).1 (Au c2.2);omega
 rw [e,this,iX ae]
end B
namespace B
open Go.RowKit
attribute [local go_sem] bO aJ
theorem x9 (f:Ieee.Format) (hs:f.infRung<f.signWeight) (s t:Bool) (r u v a:Nat) (ha:f.leastPlace=-(a:Int)) (hr:r<f.infRung) (hu:u<f.infRung) (hv:v<f.infRung)
 (h:val f r*val f u=val f v*2^a) (h0:val f r≠0) (h1:val f u≠0):f.mul (f.word s r) (f.word t u)=some (f.word (s ^^ t) v):=by
 obtain ⟨m,k,e1,v1⟩:=ll f s r hr hs;obtain ⟨n,j,e2,v2⟩:=ll f t u hu hs;unfold Ieee.Format.mul;rw [e1,e2];show some (f.nearest (s ^^ t) (m*n) (f.leastPlace+k+(f.leastPlace+j)))=_;have e:f.leastPlace+(k:Int)+(f.leastPlace+(j:Int))=f.leastPlace+((k+j:Nat):Int)-(a:Int):=ae
 have D6:m*n≠0:=by
  intro h2;rcases Nat.mul_eq_zero.1 h2 with h3|h3
  · subst h3;simp at v1;exact h0 v1.symm
  · subst h3;simp at v2;exact h1 v2.symm
 rw [e,vE f _ (m*n) (k+j) a v hv ?_ D6];rw [<-h,<-v1,<-v2,aR]
 grind
theorem Ns (a:Nat) (h:a<2^63):a &&& 2^63=0:=by
 apply Nat.eq_of_testBit_eq;intro i;rw [Nat.testBit_and,Nat.testBit_two_pow,Nat.zero_testBit]
 by_cases hi:63=i
 · subst hi;rw [Nat.testBit_lt_two_pow h];rfl
 · simp [hi]
theorem EJ (e g:Nat) (he:e<2048) (hg:g<4503599627370496):bits .andNot .u64 ((bw false e g:Nat):Int) 9218868437227405312=(g:Int):=by
 have h:=u64_andNot_nat (bw false e g) 9218868437227405312 (ql false e g he hg) ae;rw [show (((9218868437227405312:Nat)):Int)=9218868437227405312 from rfl] at h;rw [h];have hb:bw false e g=e*4503599627370496+g:=by unfold bw;simp
 have hlt:bw false e g<2^63:=by rw [hb];omega
 have e1:18446744073709551615-9218868437227405312=2^63 ||| (2^52-1):=aO
 rw [e1,Nat.and_or_distrib_left,DJ,Ns _ hlt,Nat.zero_or,hb];omega
theorem vF (E g:Nat) (hE:E<2048) (hg:g<4503599627370496):bits .or .u64 (g:Int) ((E:Int)*4503599627370496)=((bw false E g:Nat):Int):=by
 have hc:bits .or .u64 (g:Int) ((E:Int)*4503599627370496)=bits .or .u64 ((E:Int)*4503599627370496) (g:Int):=by simp only [bits,BitVec.or_comm]
 rw [hc,bits_join .u64 64 aO wraps_u64 52 ((E:Int)*4503599627370496) (g:Int) ae ae ae ae ae ae];unfold bw;simp
theorem Um (e g:Nat) (he:e<2047) (hg:g<4503599627370496) (w:World) :
 Calls Tryz.prog 68 #[.float .f64 (bw false e g),.int .i64 0] w fun r w'=>r=.returned (.bool false)/\w'=w:=by
 have H:=hid (zm false e g ae hg w);have h1:=Ue false e g ae hg;have h2:(!false&&(e==2047&&g==0))=false:=by simp;omega
 rw [h2] at h1;generalize bw false e g=b at *;go_enter Tryz.func68,Tryz.ntmps68;go_wp2_with fail;refine H.o.mono ?_;rintro r w1 ⟨rfl,rfl⟩;go_wp2;go_ret;exact ⟨rfl,rfl⟩
theorem wR (e g:Nat) (h0:0<e) (he:e<2047) (hg:g<4503599627370496) (w:World) :
 Calls Tryz.prog 226 #[.float .f64 (bw false e g)] w fun r w'=>r=.returned (.tuple #[.float .f64 (bw false e g),.int .i64 0])/\w'=w:=by
 have H:=hid (zm false e g ae hg w);have h1:=M9 false false e g 1 0 ae hg ae ae
 have h3:(!odd e g&&(!odd 1 0&&decide (pl false e g<pl false 1 0)))=false:=by
  have:¬ pl false e g<pl false 1 0:=by unfold pl sg;simp;omega
  simp [this]
 rw [h3,show bw false 1 0=4503599627370496 from rfl] at h1;generalize bw false e g=b at *;clear h3;go_enter Tryz.func226,Tryz.ntmps226;go_wp2_with fail;refine H.o.mono ?_;rintro r w1 ⟨rfl,rfl⟩;go_wp2
 go_ret2
 exact ⟨rfl,rfl⟩
theorem Qv (w:World):Calls Tryz.prog 227 #[.int .i64 1] w fun r w'=>r=.returned (.float .f64 9218868437227405312)/\w'=w:=by
 go_enter Tryz.func227,Tryz.ntmps227;go_wp2;go_ret;exact ⟨rfl,rfl⟩
theorem zu (e g:Nat) (he:e<2048) (hg:g<4503599627370496) (w:World) :
 Calls Tryz.prog 150 #[.float .f64 (bw false e g),.float .f64 13830554455654793216] w fun r w'=>r=.returned (.float .f64 (bw true e g))/\w'=w:=by
 have h1:=Nf false e g he hg;have h2:bits .and .u64 13830554455654793216 9223372036854775808=9223372036854775808:=aO
 have hb:bw false e g=e*4503599627370496+g:=by unfold bw;simp
 have h3:=P7 ((bw false e g:Nat):Int) ae (by rw [hb];omega);have h4:((bw false e g:Nat):Int)+9223372036854775808=((bw true e g:Nat):Int):=by unfold bw;simp;omega
 rw [h4] at h3;generalize bw false e g=b at *;generalize bw true e g=d at *;clear hb h4;go_enter Tryz.func150,Tryz.ntmps150;go_wp2;go_ret;exact ⟨aW,rfl⟩
end B
namespace B
open Go.RowKit
attribute [local go_sem] bO aJ
theorem vG (b e g d:Nat) (x y z:Int) (w:World) (hb:b<9223372036854775808) (hx0:-3000<=x) (hx1:x<=3000) (he0:0<e) (he1:e<2047) (hg:g<4503599627370496)
 (z0:(FloatKind.f64.format.order b 0==some .eq)=false)
 (HI:Hid (∀ u,Calls Tryz.prog 68 #[.float .f64 b,.int .i64 0] u fun r w'=>r=.returned (.bool false)/\w'=u))
 (HN:Hid (∀ u,Calls Tryz.prog 31 #[.float .f64 b] u fun r w'=>r=.returned (.bool false)/\w'=u))
 (HZ:Hid (∀ u,Calls Tryz.prog 226 #[.float .f64 b] u fun r w'=>r=.returned (.tuple #[.float .f64 b,.int .i64 0])/\w'=u))
 (e1:bits .and .i64 ((b:Int)/4503599627370496) 2047=(e:Int)) (mc:bits .andNot .u64 (b:Int) 9218868437227405312=(g:Int))
 (ey:x+((e:Int)-1023)=y) (hy0:-1022<=y) (hy1:y<=1023) (ez:(y+1023)*4503599627370496=z) (hz0:0<=z) (hz1:z<9223372036854775808) (je:bits .or .u64 (g:Int) z=(d:Int))
 (mu:∀ u:World,(binOp .mul 26 (.float .f64 4607182418800017408) (.float .f64 d)).run Tryz.prog u=.ok (.float .f64 d) u) :
 Calls Tryz.prog 205 #[.float .f64 b,.int .i64 x] w fun r w'=>r=.returned (.float .f64 d)/\w'=w:=by
 go_enter Tryz.func205,Tryz.ntmps205;go_wp2_with fail;refine (dQ (HI.o _)) ?_;rintro r w1 ⟨rfl,hw⟩;rw [hw];clear hw w1;go_wp2_with fail;refine (dQ (HN.o _)) ?_;rintro r w1 ⟨rfl,hw⟩;rw [hw];clear hw w1;go_wp2_with fail;refine (dQ (HZ.o _)) ?_;rintro r w1 ⟨rfl,hw⟩;rw [hw];clear hw w1;go_wp2;go_ret;exact ⟨rfl,rfl⟩
theorem JL (b e g d c:Nat) (x y y2 z:Int) (w:World) (hb:b<9223372036854775808) (hx0:-3000<=x) (hx1:x<=3000) (he0:0<e) (he1:e<2047) (hg:g<4503599627370496)
 (z0:(FloatKind.f64.format.order b 0==some .eq)=false)
 (HI:Hid (∀ u,Calls Tryz.prog 68 #[.float .f64 b,.int .i64 0] u fun r w'=>r=.returned (.bool false)/\w'=u))
 (HN:Hid (∀ u,Calls Tryz.prog 31 #[.float .f64 b] u fun r w'=>r=.returned (.bool false)/\w'=u))
 (HZ:Hid (∀ u,Calls Tryz.prog 226 #[.float .f64 b] u fun r w'=>r=.returned (.tuple #[.float .f64 b,.int .i64 0])/\w'=u))
 (e1:bits .and .i64 ((b:Int)/4503599627370496) 2047=(e:Int)) (mc:bits .andNot .u64 (b:Int) 9218868437227405312=(g:Int))
 (ey:x+((e:Int)-1023)=y) (hy0:-1075<=y) (hy1:y < -1022) (ey2:y+53=y2) (hy2:-1022<=y2) (hy3:y2<=1023) (ez:(y2+1023)*4503599627370496=z) (hz0:0<=z) (hz1:z<9223372036854775808) (je:bits .or .u64 (g:Int) z=(d:Int))
 (mu:∀ u:World,(binOp .mul 26 (.float .f64 4368491638549381120) (.float .f64 d)).run Tryz.prog u=.ok (.float .f64 c) u) :
 Calls Tryz.prog 205 #[.float .f64 b,.int .i64 x] w fun r w'=>r=.returned (.float .f64 c)/\w'=w:=by
 go_enter Tryz.func205,Tryz.ntmps205;go_wp2_with fail;refine (dQ (HI.o _)) ?_;rintro r w1 ⟨rfl,hw⟩;rw [hw];clear hw w1;go_wp2_with fail;refine (dQ (HN.o _)) ?_;rintro r w1 ⟨rfl,hw⟩;rw [hw];clear hw w1;go_wp2_with fail;refine (dQ (HZ.o _)) ?_;rintro r w1 ⟨rfl,hw⟩;rw [hw];clear hw w1;go_wp2;go_ret;exact ⟨rfl,rfl⟩
theorem JM (b e g:Nat) (x y:Int) (w:World) (hb:b<9223372036854775808) (hx0:-3000<=x) (hx1:x<=3000) (he0:0<e) (he1:e<2047) (hg:g<4503599627370496)
 (z0:(FloatKind.f64.format.order b 0==some .eq)=false)
 (HI:Hid (∀ u,Calls Tryz.prog 68 #[.float .f64 b,.int .i64 0] u fun r w'=>r=.returned (.bool false)/\w'=u))
 (HN:Hid (∀ u,Calls Tryz.prog 31 #[.float .f64 b] u fun r w'=>r=.returned (.bool false)/\w'=u))
 (HZ:Hid (∀ u,Calls Tryz.prog 226 #[.float .f64 b] u fun r w'=>r=.returned (.tuple #[.float .f64 b,.int .i64 0])/\w'=u))
 (e1:bits .and .i64 ((b:Int)/4503599627370496) 2047=(e:Int)) (mc:bits .andNot .u64 (b:Int) 9218868437227405312=(g:Int))
 (ey:x+((e:Int)-1023)=y) (hy0:1023<y) (z1:(FloatKind.f64.format.order b 0==some .lt)=false) :
 Calls Tryz.prog 205 #[.float .f64 b,.int .i64 x] w fun r w'=>r=.returned (.float .f64 9218868437227405312)/\w'=w:=by
 go_enter Tryz.func205,Tryz.ntmps205;go_wp2_with fail;refine (dQ (HI.o _)) ?_;rintro r w1 ⟨rfl,hw⟩;rw [hw];clear hw w1;go_wp2_with fail;refine (dQ (HN.o _)) ?_;rintro r w1 ⟨rfl,hw⟩;rw [hw];clear hw w1;go_wp2_with fail;refine (dQ (HZ.o _)) ?_;rintro r w1 ⟨rfl,hw⟩;rw [hw];clear hw w1;go_wp2_with fail;refine (dQ (Qv _)) ?_;rintro r w1 ⟨rfl,hw⟩;rw [hw];clear hw w1;go_wp2;go_ret;exact ⟨rfl,rfl⟩
end B
namespace B
open Go.RowKit
theorem Nu (X:Nat) (h:X<=9007199254740991):bl X<=53:=by
 by_cases h0:X=0
 · subst h0;rw [dJ];omega
 · have:=(jP (a:=2) ae).1 (iy (iG X h0) (show X<2^53 by omega));omega
theorem EL (z:Nat) (hz:z<18446744073709551616):bits .and .u64 (z:Int) 1=((z%2:Nat):Int):=by
 have h:=bits_mask .u64 64 aO wraps_u64 1 aO (z:Int) ae ae;rw [show ((2:Int)^1-1)=1 from rfl] at h;rw [h];omega
def LP:Nat:=1074
theorem dLP:Ieee.double.leastPlace=-(LP:Int):=aO
theorem rE (e g:Nat) (he:0<e) (hg:g<4503599627370496):val Ieee.double (e*4503599627370496+g)=(4503599627370496+g)*2^(e-1):=by
 obtain ⟨j,rfl⟩:∃ j,e=j+1:=⟨e-1,ae⟩;have h:=zq Ieee.double j (4503599627370496+g) (.inr (by rw [Eh];omega)) (by rw [Eh];omega);rw [Eh] at h;rw [show (j+1)*4503599627370496+g=j*4503599627370496+(4503599627370496+g) by omega,h];rfl
theorem Nv (r:Nat) (h:r<4503599627370496):val Ieee.double r=r:=by unfold val;rw [Eh,if_pos h]
theorem Te:(4503599627370496:Nat)=2^52:=rfl
structure Whole (c e g:Nat):Prop where
 e0:0<e
 e1:e<1077
 g0:g<4503599627370496
 v:(4503599627370496+g)*2^(e-1)=c*2^LP
 ex:e=bl c+1022
 gx:∀ k,bl c+k=53->4503599627370496+g=c*2^k
 top:bl c=54->g=0
theorem Nw (c:Nat) (h0:0<c) (h1:c<=9007199254740992):∃ e g,Whole c e g:=by
 by_cases ht:c=9007199254740992
 · subst ht;have hb:bl 9007199254740992=54:=Bb _ 53 aO aO;obtain ⟨e,he⟩:∃ e,e=1076:=⟨_,rfl⟩;refine ⟨e,0,ae,ae,ae,?_,by rw [hb];omega,fun k hk=>by omega,fun _=>rfl⟩
   have key:∀ q,q=LP+1->(4503599627370496+0)*2^q=9007199254740992*2^LP:=by
    intro q hq;rw [hq,dS];generalize 2^LP=Q;omega
   exact key (e-1) (by rw [he];rfl)
 · have hb1:=dL c ae
   have hb2:bl c<=53:=by
    have:=(jP (a:=2) ae).1 (iy (iG c ae) (show c<2^53 by omega));omega
   obtain ⟨k,hk⟩:∃ k,bl c+k=53:=⟨53-bl c,ae⟩
   have hlo:2^52<=c*2^k:=by
    have h2:=iG c ae;have h3:2^(bl c-1)*2^k<=c*2^k:=gF _ h2;rw [<-aR,show bl c-1+k=52 by omega] at h3;exact h3
   have hhi:c*2^k<2^53:=by
    have h3:=fM (iL c) (bK k);rw [<-aR,hk] at h3;exact h3
   have e52:(2:Nat)^52=4503599627370496:=rfl;have e53:(2:Nat)^53=9007199254740992:=rfl;rw [e52] at hlo;rw [e53] at hhi;refine ⟨bl c+1022,c*2^k-4503599627370496,ae,ae,ae,?_,rfl,fun k' hk'=>?_,fun h=>by omega⟩
   · rw [show 4503599627370496+(c*2^k-4503599627370496)=c*2^k by omega,aU,<-aR];congr 2;show k+(bl c+1022-1)=1074;omega
   · obtain rfl:k'=k:=ae
     omega
theorem Cj (c e g:Nat) (h:Whole c e g):floatOfInt .f64 (c:Int)=bw false e g:=by
 have hr:e*4503599627370496+g<Ieee.double.infRung:=by rw [wI];have:=h.e1;have:=h.g0;omega
 have hn:=wH Ieee.double false c LP (e*4503599627370496+g) hr (by rw [rE e g h.e0 h.g0,h.v]);rw [dLP] at hn;rw [za,<-hn];show Ieee.double.nearest (decide ((c:Int)<0)) (c:Int).natAbs 0=_;rw [show decide ((c:Int)<0)=false from decide_eq_false ae,Int.natAbs_natCast];congr 1
theorem Qw (e:Nat) (he:0<e) (q:Nat) (hq:e-1=q):val Ieee.double (e*4503599627370496+0)=2^(52+q):=by
 rw [rE e 0 he ae,hq,iw,aR]
theorem Ck (e:Nat) (he:0<e) (q r:Nat) (hq:e-1=q) (hr:52+q=r):val Ieee.double (e*4503599627370496+0)=2^r:=by rw [Qw e he q hq,hr]
theorem G5:val Ieee.double 4607182418800017408=2^LP:=Ck 1023 ae (LP-52) LP rfl rfl
theorem JN:val Ieee.double 4368491638549381120*2^53=2^LP:=by
 have h:val Ieee.double 4368491638549381120=2^(LP-53):=Ck 970 ae (LP-105) (LP-53) rfl rfl;rw [h,<-aR];congr 1
theorem mul_one (d:Nat) (hd:d<9218868437227405312) (h0:0<d) (t:TypeId) (u:World):(binOp .mul t (.float .f64 4607182418800017408) (.float .f64 d)).run Tryz.prog u=.ok (.float .f64 d) u:=by
 refine run_float_arith u .mul t .f64 _ _ _ ?_;show Ieee.double.mul 4607182418800017408 d=some d;have hw:∀ r:Nat,Ieee.double.word false r=r:=fun r=>by simp [Ieee.Format.word]
 have hp:0<val Ieee.double d:=by have:=cK Ieee.double (r:=0) (s:=d) h0;omega
 have:=x9 Ieee.double ZV false false 4607182418800017408 d d LP dLP (by rw [wI];omega) (by rw [wI];omega) (by rw [wI];omega) (by rw [G5,dh]) (by rw [G5];have:=bK LP;omega) ae;rw [hw,hw] at this;exact this
theorem JO (d c:Nat) (hd:d<9218868437227405312) (hc:c<4503599627370496) (h0:0<c) (hv:val Ieee.double d=c*2^53) (t:TypeId) (u:World):(binOp .mul t (.float .f64 4368491638549381120) (.float .f64 d)).run Tryz.prog u=.ok (.float .f64 c) u:=by
 refine run_float_arith u .mul t .f64 _ _ _ ?_;show Ieee.double.mul 4368491638549381120 d=some c;have hw:∀ r:Nat,Ieee.double.word false r=r:=fun r=>by simp [Ieee.Format.word]
 have hs:=JN;have hp:val Ieee.double 4368491638549381120≠0:=by intro h;rw [h] at hs;have:=bK LP;omega
 have:=x9 Ieee.double ZV false false 4368491638549381120 d c LP dLP (by rw [wI];omega) (by rw [wI];omega) (by rw [wI];omega) (by rw [hv,Nv c hc,<-hs];grind) hp (by rw [hv];have:=bK 53;have:=jm h0 this;omega);rw [hw,hw,Bool.xor_false,hw] at this;exact this
theorem Un (e g:Nat) (he:e<2047) (hg:g<4503599627370496) (u:World):Calls Tryz.prog 31 #[.float .f64 (bw false e g)] u fun r w'=>r=.returned (.bool false)/\w'=u:=by
 have:=Jg false e g ae hg u;rw [zk e g he] at this;exact this
theorem JP (c e g:Nat) (x:Int) (w:World) (hw:Whole c e g) (h0:0<c) (h1:c<=9007199254740992) (hx0:-1074<=x) (hx1:x<=971) (hn:x=-1074\/4503599627370496<=c) :
 Calls Tryz.prog 205 #[.float .f64 (bw false e g),.int .i64 x] w fun r w'=>r=.returned (.float .f64 ((x+1074).toNat*4503599627370496+c))/\w'=w:=by
 have he0:=hw.e0;have he1:=hw.e1;have hg:=hw.g0;have hb:bw false e g=e*4503599627370496+g:=by unfold bw;simp
 have z0:(FloatKind.f64.format.order (bw false e g) 0==some .eq)=false:=by rw [GL false e g ae hg];simp;omega
 have HI:Hid (∀ u,Calls Tryz.prog 68 #[.float .f64 (bw false e g),.int .i64 0] u fun r w'=>r=.returned (.bool false)/\w'=u):=fun u=>Um e g ae hg u;have HN:Hid (∀ u,Calls Tryz.prog 31 #[.float .f64 (bw false e g)] u fun r w'=>r=.returned (.bool false)/\w'=u):=fun u=>Un e g ae hg u;have HZ:Hid (∀ u,Calls Tryz.prog 226 #[.float .f64 (bw false e g)] u fun r w'=>r=.returned (.tuple #[.float .f64 (bw false e g),.int .i64 0])/\w'=u):=fun u=>wR e g he0 ae hg u;have e1:=Mo false e g ae hg;have mc:=EJ e g ae hg;have hbl:bl c<=54:=by have:=hw.ex;omega
 have hblp:=dL c ae;have hex:=hw.ex
 by_cases hc:4503599627370496<=c
 · have hb53:53<=bl c:=by
    have:=(sU c 52).2 (by rw [<-Te];exact hc);omega
   by_cases hb54:bl c=54
   · have hg0:=hw.top hb54
     have hc2:c=9007199254740992:=by
      have:=(sU c 53).1 ae;have e53:(2:Nat)^53=9007199254740992:=rfl;omega
     subst hg0
     by_cases M5:x=971
     · subst M5;have:=JM (bw false e 0) e 0 971 1024 w (by rw [hb];omega) ae ae he0 ae ae z0 HI HN HZ e1 mc ae ae (by rw [GM false e 0 ae ae (Nc e) (by simp;omega)]);rw [hc2];exact this
     · obtain ⟨E,hE⟩:∃ E:Nat,(E:Int)=x+((e:Int)-1023)+1023:=⟨(x+((e:Int)-1023)+1023).toNat,ae⟩;have hd:bw false E 0=(x+1074).toNat*4503599627370496+c:=by unfold bw;simp;omega
       have:=vG (bw false e 0) e 0 (bw false E 0) x (x+((e:Int)-1023)) ((E:Int)*4503599627370496) w (by rw [hb];omega) ae ae he0 ae ae z0 HI HN HZ e1 mc rfl ae ae ae ae ae (vF E 0 ae ae) (mul_one _ (by rw [hd];omega) (by rw [hd];omega) _);rw [hd] at this;exact this
   · have hb3:bl c=53:=ae
     have hgx:=hw.gx 0 ae;rw [fG,dU] at hgx;obtain ⟨E,hE⟩:∃ E:Nat,(E:Int)=x+((e:Int)-1023)+1023:=⟨(x+((e:Int)-1023)+1023).toNat,ae⟩;have hd:bw false E g=(x+1074).toNat*4503599627370496+c:=by unfold bw;simp;omega
     have:=vG (bw false e g) e g (bw false E g) x (x+((e:Int)-1023)) ((E:Int)*4503599627370496) w (by rw [hb];omega) ae ae he0 ae hg z0 HI HN HZ e1 mc rfl ae ae ae ae ae (vF E g ae hg) (mul_one _ (by rw [hd];omega) (by rw [hd];omega) _);rw [hd] at this;exact this
 · obtain rfl:x=-1074:=ae
   have hb52:bl c<=52:=by
    by_cases h:52<bl c
    · have:=(sU c 52).1 h;rw [<-Te] at this;omega
    · omega
   obtain ⟨k,hk⟩:∃ k,bl c+k=53:=⟨53-bl c,ae⟩;have hgx:=hw.gx k hk;obtain ⟨E,hE⟩:∃ E:Nat,E=bl c+1:=⟨_,rfl⟩;have hd:bw false E g=E*4503599627370496+g:=by unfold bw;simp
   have hv:val Ieee.double (bw false E g)=c*2^53:=by
    rw [hd,rE E g ae hg,hgx,aU,<-aR,show k+(E-1)=53 by omega]
   have:=JL (bw false e g) e g (bw false E g) c (-1074) (-1074+((e:Int)-1023)) (-1074+((e:Int)-1023)+53) ((E:Int)*4503599627370496) w (by rw [hb];omega) ae ae he0 ae hg z0 HI HN HZ e1 mc rfl ae ae rfl ae ae ae ae ae (vF E g ae hg) (JO _ c (by rw [hd];omega) ae h0 hv _);simpa using this
theorem JQ (c e g:Nat) (x:Int) (w:World) (hw:Whole c e g) (h0:0<c) (h1:c<=9007199254740992) (hx0:-1074<=x) (hx1:x<=971) (hn:x=-1074\/4503599627370496<=c) :
 Calls Tryz.prog 159 #[.float .f64 (bw false e g),.int .i64 x] w fun r w'=>r=.returned (.float .f64 ((x+1074).toNat*4503599627370496+c))/\w'=w:=by
 have H:=hid (JP c e g x w hw h0 h1 hx0 hx1 hn);generalize bw false e g=b at *;generalize (x+1074).toNat*4503599627370496+c=d at *;clear hn hw;go_enter Tryz.func159,Tryz.ntmps159;go_wp2_with fail;refine H.o.mono ?_;rintro r w1 ⟨rfl,rfl⟩;go_wp2;go_ret;exact ⟨rfl,rfl⟩
theorem zw (x:Int) (w:World):Calls Tryz.prog 205 #[.float .f64 0,.int .i64 x] w fun r w'=>r=.returned (.float .f64 0)/\w'=w:=by
 have z0:(FloatKind.f64.format.order 0 0==some .eq)=true:=GL false 0 0 ae ae;go_enter Tryz.func205,Tryz.ntmps205;go_wp2;go_ret;exact ⟨rfl,rfl⟩
theorem zx (x:Int) (w:World):Calls Tryz.prog 159 #[.float .f64 0,.int .i64 x] w fun r w'=>r=.returned (.float .f64 0)/\w'=w:=by
 have H:=hid (zw x w);go_enter Tryz.func159,Tryz.ntmps159;go_wp2_with fail;refine H.o.mono ?_;rintro r w1 ⟨rfl,rfl⟩;go_wp2;go_ret;exact ⟨rfl,rfl⟩
end B
end Go.Proofs.YtblkpkgebigojaaGreatDoor
