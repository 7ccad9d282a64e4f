import Derived.Test.YtaejmlkaefnbhaaGreatDoorBW6x
import Derived.Deep.Cut
import Derived.Test.YtaejmlkaefnbhaaGreatDoorBIeeex
import Derived.Test.YtaejmlkaefnbhaaGreatDoorM1x
import Derived.Laws.FloatArith
set_option linter.unusedVariables false
set_option linter.unusedSimpArgs false
set_option maxHeartbeats 16000000
set_option maxRecDepth 20000
namespace Go.Proofs.YtaejmlkaefnbhaaGreatDoor
section
open Go.RowKit
theorem kH(W:World)(g:Nat)(n:Bool)(v:Value)(e k:Int)(tmps:Array Value)(ht:tmps[4]?.getD undef=.pointer (some ⟨g,0,none⟩))(hk:tmps[5]?.getD undef=.int .i64 k)(D:Dk W g n v e) :
 (results Tryz.f101 tmps).run Tryz.prog W=.ok (.tuple #[.agg #[.bool n,v,.int .i64 e],.int .i64 k]) W:=by
 obtain⟨x0,x1,x2,dB,dC,dD⟩:=D.facts;simp[results,Tryz.results101,ht,hk,go_sem,x0,x1,x2]
theorem dS(w:World)(n m:Bool)(v u:Value)(e f:Int)(W:World)(hW:W=((w.alloc (.cells #[.bool n,v,.int .i64 e] 77)).alloc (.cells #[.bool m,u,.int .i64 f] 77)).alloc (.cells #[.bool false,.slice none 0 0,.int .i64 0] 77)) :
 Below w.heap.size w W/\W.heap.size=w.heap.size+3/\Dk W w.heap.size n v e/\Dk W (w.heap.size+1) m u f/\Dk W (w.heap.size+1+1) false (.slice none 0 0) 0:=by
 subst hW;refine⟨((ag w _).alloc aL _).alloc (by simp;omega) _,aL,((Dk.new w n v e).alloc _).alloc _,?_,?_⟩
 · have:=(Dk.new (w.alloc (.cells #[.bool n,v,.int .i64 e] 77)) m u f).alloc (.cells #[.bool false,.slice none 0 0,.int .i64 0] 77);simpa using this
 · have:=Dk.new ((w.alloc (.cells #[.bool n,v,.int .i64 e] 77)).alloc (.cells #[.bool m,u,.int .i64 f] 77)) false (.slice none 0 0) 0;simpa using this
theorem Qaa{P:Prop}(h:P:=by
 refine Fin.aD (m:=w.heap.size+3) (v:=.slice none 0 0) (X:=0) ?_
 repeat (with_reducible first | exact F1.o | refine Fin.drew ?_ | refine Fin.alloc ?_ _ | refine Fin.set ?_ _ _ _ af af)):P:=h
theorem Ma{w:World}{a b:Option Addr}{l c k d:Nat}(n m:Bool)(e f:Int)(lg:Hid (∀ u,Below w.heap.size w u->Calls Tryz.prog 171 #[.agg #[.bool n,.slice a l c,.int .i64 e],.agg #[.bool m,.slice b k d,.int .i64 f]] u fun r w'=>r=.returned (.tuple #[.agg #[.bool false,.slice none 0 0,.int .i64 0],.agg #[.bool false,.slice none 0 0,.int .i64 0],.int .i64 2])/\Below u.heap.size u w')):Calls Tryz.prog 101 #[.agg #[.bool n,.slice a l c,.int .i64 e],.agg #[.bool m,.slice b k d,.int .i64 f]] w fun r w'=>r=.returned (.tuple #[.agg #[.bool false,.slice none 0 0,.int .i64 0],.int .i64 2])/\Below w.heap.size w w':=by
 obtain⟨W1,hW1⟩:=ah (((w.alloc (.cells #[.bool n,.slice a l c,.int .i64 e] 77)).alloc (.cells #[.bool m,.slice b k d,.int .i64 f] 77)).alloc (.cells #[.bool false,.slice none 0 0,.int .i64 0] 77));obtain⟨hB,hz1,DA,DB,DR⟩:=dS w n m (.slice a l c) (.slice b k d) e f W1 hW1;have H1:=hid (lg.o W1 hB);have SB:=(iq hB hz1 DA DB DR);clear hB hz1 DA DB DR lg;go_enter Tryz.func101,Tryz.ntmps101;go_wp2_with fail;rw[<-hW1];clear hW1;refine H1.o.mono ?_;rintro r u1 ⟨rfl,hb⟩;obtain⟨hB,hz1,DA,DB,DR⟩:=SB.o;have EA:=DA.below hb;have EB:=DB.below hb;have ER:=DR.below hb;obtain⟨x0,x1,x2,dB,dC,dD⟩:=EA.facts;obtain⟨y0,y1,y2,eF,eG,eO⟩:=EB.facts;obtain⟨r0,r1,r2,mJ,mK,mM⟩:=ER.facts;have F1:=au (show Fin w.heap.size (w.heap.size+3) w u1 (.slice none 0 0) 0 from⟨Nt.nil _ _,hB.trans (hb.mono af),by have:=hb.size;omega⟩);have SE:=au ER;clear hb H1 hB hz1 DA DB DR EA EB ER SB;go_wp2;refine aJ (kH _ (w.heap.size+1+1) false (.slice none 0 0) 0 2 _ rfl rfl (((SE.o.other _ af _ _ _).other _ af _ _ _).set _ _ _)) rfl ⟨rfl,?_⟩;exact Qaa
theorem R4 {w:World}{a b:Option Addr}{l c k d:Nat}(n m:Bool) (e f:Int) (n1 m1:Bool) (X Y:Nat) (e1 f1:Int) (lX:(ws X).length<=8192) (lY:(ws Y).length<=8192) (hX:(ws X).length=0)
 (lg:Hid (∀ u,Below w.heap.size w u->Calls Tryz.prog 171 #[.agg #[.bool n,.slice a l c,.int .i64 e],.agg #[.bool m,.slice b k d,.int .i64 f]] u fun r w'=>∃ v v',r=.returned (.tuple #[.agg #[.bool n1,v,.int .i64 e1],.agg #[.bool m1,v',.int .i64 f1],.int .i64 0])/\Nt u.heap.size w' v X/\Nt u.heap.size w' v' Y/\Below u.heap.size u w')):Calls Tryz.prog 101 #[.agg #[.bool n,.slice a l c,.int .i64 e],.agg #[.bool m,.slice b k d,.int .i64 f]] w fun r w'=>dh w.heap.size w' r (some (m1,Y,f1))/\Below w.heap.size w w':=by
 obtain⟨W1,hW1⟩:=ah (((w.alloc (.cells #[.bool n,.slice a l c,.int .i64 e] 77)).alloc (.cells #[.bool m,.slice b k d,.int .i64 f] 77)).alloc (.cells #[.bool false,.slice none 0 0,.int .i64 0] 77));obtain⟨hB,hz1,DA,DB,DR⟩:=dS w n m (.slice a l c) (.slice b k d) e f W1 hW1;have H1:=hid (lg.o W1 hB);have SB:=(iq hB hz1 DA DB DR);clear hB hz1 DA DB DR lg;go_enter Tryz.func101,Tryz.ntmps101;go_wp2_with fail;rw[<-hW1];clear hW1;refine H1.o.mono ?_;rintro r u1 ⟨v,v',rfl,hN,hM,hb⟩;obtain⟨a1,c1,rfl,_⟩:=hN.arg af;obtain⟨a2,c2,rfl,_⟩:=hM.arg af;obtain⟨hB,hz1,DA,DB,DR⟩:=SB.o;have EA:=DA.below hb;have EB:=DB.below hb;have ER:=DR.below hb;obtain⟨x0,x1,x2,dB,dC,dD⟩:=EA.facts;obtain⟨y0,y1,y2,eF,eG,eO⟩:=EB.facts;obtain⟨r0,r1,r2,mJ,mK,mM⟩:=ER.facts;have FX:=au (show Fin w.heap.size (w.heap.size+3) w u1 (.slice a1 (ws X).length c1) X from⟨by rw[<-hz1];exact hN,hB.trans (hb.mono af),by have:=hb.size;omega⟩);have FY:=au (show Fin w.heap.size (w.heap.size+3) w u1 (.slice a2 (ws Y).length c2) Y from⟨by rw[<-hz1];exact hM,hB.trans (hb.mono af),by have:=hb.size;omega⟩);have SE:=(bM EA EB ER);clear hN hM hb H1 hB hz1 DA DB DR EA EB ER SB
 try rw[hX]
 go_wp2;refine aJ (kH _ (w.heap.size+1+1) m1 (.slice a2 (ws Y).length c2) f1 0 _ rfl rfl (((SE.o.r2.other _ af _ _ _).other _ af _ _ _).set _ _ _)) rfl ?_;refine Fin.qy (m:=w.heap.size+3) ?_ af
 repeat (with_reducible first | exact FY.o | refine Fin.drew ?_ | refine Fin.alloc ?_ _ | refine Fin.set ?_ _ _ _ af af)
 exact FY.o
theorem Oy {w:World}{a b:Option Addr}{l c k d:Nat}(n m:Bool) (e f:Int) (n1 m1:Bool) (X Y:Nat) (e1 f1:Int) (lX:(ws X).length<=8192) (lY:(ws Y).length<=8192) (hX:((((ws X).length:Nat):Int)==0)=false) (hY:(ws Y).length=0)
 (lg:Hid (∀ u,Below w.heap.size w u->Calls Tryz.prog 171 #[.agg #[.bool n,.slice a l c,.int .i64 e],.agg #[.bool m,.slice b k d,.int .i64 f]] u fun r w'=>∃ v v',r=.returned (.tuple #[.agg #[.bool n1,v,.int .i64 e1],.agg #[.bool m1,v',.int .i64 f1],.int .i64 0])/\Nt u.heap.size w' v X/\Nt u.heap.size w' v' Y/\Below u.heap.size u w')):Calls Tryz.prog 101 #[.agg #[.bool n,.slice a l c,.int .i64 e],.agg #[.bool m,.slice b k d,.int .i64 f]] w fun r w'=>dh w.heap.size w' r (some (n1,X,e1))/\Below w.heap.size w w':=by
 obtain⟨W1,hW1⟩:=ah (((w.alloc (.cells #[.bool n,.slice a l c,.int .i64 e] 77)).alloc (.cells #[.bool m,.slice b k d,.int .i64 f] 77)).alloc (.cells #[.bool false,.slice none 0 0,.int .i64 0] 77));obtain⟨hB,hz1,DA,DB,DR⟩:=dS w n m (.slice a l c) (.slice b k d) e f W1 hW1;have H1:=hid (lg.o W1 hB);have SB:=(iq hB hz1 DA DB DR);clear hB hz1 DA DB DR lg;go_enter Tryz.func101,Tryz.ntmps101;go_wp2_with fail;rw[<-hW1];clear hW1;refine H1.o.mono ?_;rintro r u1 ⟨v,v',rfl,hN,hM,hb⟩;obtain⟨a1,c1,rfl,_⟩:=hN.arg af;obtain⟨a2,c2,rfl,_⟩:=hM.arg af;obtain⟨hB,hz1,DA,DB,DR⟩:=SB.o;have EA:=DA.below hb;have EB:=DB.below hb;have ER:=DR.below hb;obtain⟨x0,x1,x2,dB,dC,dD⟩:=EA.facts;obtain⟨y0,y1,y2,eF,eG,eO⟩:=EB.facts;obtain⟨r0,r1,r2,mJ,mK,mM⟩:=ER.facts;have FX:=au (show Fin w.heap.size (w.heap.size+3) w u1 (.slice a1 (ws X).length c1) X from⟨by rw[<-hz1];exact hN,hB.trans (hb.mono af),by have:=hb.size;omega⟩);have FY:=au (show Fin w.heap.size (w.heap.size+3) w u1 (.slice a2 (ws Y).length c2) Y from⟨by rw[<-hz1];exact hM,hB.trans (hb.mono af),by have:=hb.size;omega⟩);have SE:=(bM EA EB ER);clear hN hM hb H1 hB hz1 DA DB DR EA EB ER SB
 try rw[hX]
 go_wp2;refine aJ (kH _ (w.heap.size+1+1) n1 (.slice a1 (ws X).length c1) e1 0 _ rfl rfl (((SE.o.r2.other _ af _ _ _).other _ af _ _ _).set _ _ _)) rfl ?_;refine Fin.qy (m:=w.heap.size+3) ?_ af
 repeat (with_reducible first | exact FX.o | refine Fin.drew ?_ | refine Fin.alloc ?_ _ | refine Fin.set ?_ _ _ _ af af)
 exact FX.o
theorem Oz {w:World}{a b:Option Addr}{l c k d:Nat}(n m:Bool) (e f:Int) (n1 m1:Bool) (X Y:Nat) (e1 f1:Int) (lX:(ws X).length<=8192) (lY:(ws Y).length<=8192) (hX:((((ws X).length:Nat):Int)==0)=false) (hY:((((ws Y).length:Nat):Int)==0)=false) (hlt:decide (e1<f1)=false) (ZH:-1048576<=e1) (ZI:e1<=1048576) (ZJ:-1048576<=f1) (ZK:f1<=1048576)
 (lg:Hid (∀ u,Below w.heap.size w u->Calls Tryz.prog 171 #[.agg #[.bool n,.slice a l c,.int .i64 e],.agg #[.bool m,.slice b k d,.int .i64 f]] u fun r w'=>∃ v v',r=.returned (.tuple #[.agg #[.bool n1,v,.int .i64 e1],.agg #[.bool m1,v',.int .i64 f1],.int .i64 0])/\Nt u.heap.size w' v X/\Nt u.heap.size w' v' Y/\Below u.heap.size u w'))
 (uj:Hid (∀ (u:World) (p:Option Addr) (q:Nat),Below w.heap.size w u->Arg u p (ws X).length q (ws X)->Calls Tryz.prog 172 #[.slice p (ws X).length q,.int .i64 (e1-f1)] u fun r w'=>∃ v,r=.returned (.tuple #[v,.int .i64 2])/\Nt u.heap.size w' v 0/\Below u.heap.size u w')):Calls Tryz.prog 101 #[.agg #[.bool n,.slice a l c,.int .i64 e],.agg #[.bool m,.slice b k d,.int .i64 f]] w fun r w'=>r=.returned (.tuple #[.agg #[.bool false,.slice none 0 0,.int .i64 0],.int .i64 2])/\Below w.heap.size w w':=by
 have l0:(ws 0).length=0:=by rw[bB];rfl
 obtain⟨W1,hW1⟩:=ah (((w.alloc (.cells #[.bool n,.slice a l c,.int .i64 e] 77)).alloc (.cells #[.bool m,.slice b k d,.int .i64 f] 77)).alloc (.cells #[.bool false,.slice none 0 0,.int .i64 0] 77));obtain⟨hB,hz1,DA,DB,DR⟩:=dS w n m (.slice a l c) (.slice b k d) e f W1 hW1;have H1:=hid (lg.o W1 hB);have SB:=(iq hB hz1 DA DB DR);clear hB hz1 DA DB DR lg;go_enter Tryz.func101,Tryz.ntmps101;go_wp2_with fail;rw[<-hW1];clear hW1;refine H1.o.mono ?_;rintro r u1 ⟨v,v',rfl,hN,hM,hb⟩;obtain⟨a1,c1,rfl,_⟩:=hN.arg af;obtain⟨a2,c2,rfl,_⟩:=hM.arg af;obtain⟨hB,hz1,DA,DB,DR⟩:=SB.o;have EA:=DA.below hb;have EB:=DB.below hb;have ER:=DR.below hb;obtain⟨x0,x1,x2,dB,dC,dD⟩:=EA.facts;obtain⟨y0,y1,y2,eF,eG,eO⟩:=EB.facts;obtain⟨r0,r1,r2,mJ,mK,mM⟩:=ER.facts;have FX:=au (show Fin w.heap.size (w.heap.size+3) w u1 (.slice a1 (ws X).length c1) X from⟨by rw[<-hz1];exact hN,hB.trans (hb.mono af),by have:=hb.size;omega⟩);have FY:=au (show Fin w.heap.size (w.heap.size+3) w u1 (.slice a2 (ws Y).length c2) Y from⟨by rw[<-hz1];exact hM,hB.trans (hb.mono af),by have:=hb.size;omega⟩);have SE:=(bM EA EB ER);clear hN hM hb H1 hB hz1 DA DB DR EA EB ER SB;obtain⟨EA,EB,ER⟩:=SE.o;obtain⟨U1,dJ⟩:=ah (dx (dx u1 w.heap.size (.bool n1) (.slice a1 (ws X).length c1) (.int .i64 e1)) (w.heap.size+1) (.bool m1) (.slice a2 (ws Y).length c2) (.int .i64 f1));have IA:Dk U1 w.heap.size n1 (.slice a1 (ws X).length c1) e1:=by rw[dJ];exact((EA.set _ _ _).other _ af _ _ _)
 have IB:Dk U1 (w.heap.size+1) m1 (.slice a2 (ws Y).length c2) f1:=by rw[dJ];exact((EB.other _ af _ _ _).set _ _ _)
 have IR:Dk U1 (w.heap.size+1+1) false (.slice none 0 0) 0:=by rw[dJ];exact((ER.other _ af _ _ _).other _ af _ _ _)
 have GX:Fin w.heap.size (w.heap.size+3) w U1 (.slice a1 (ws X).length c1) X:=by rw[dJ];exact(Fin.dx (Fin.dx FX.o _ _ _ _ af af) _ _ _ _ af af)
 have GY:Fin w.heap.size (w.heap.size+3) w U1 (.slice a2 (ws Y).length c2) Y:=by rw[dJ];exact(Fin.dx (Fin.dx FY.o _ _ _ _ af af) _ _ _ _ af af)
 have H2:=hid (uj.o U1 a1 c1 GX.aD (GX.nt.cB af).2);have S1:=(iq IA IB IR GX GY);have ZL:w.heap.size+3<=U1.heap.size:=by have:=IR.lt;omega
 clear EA EB ER IA IB IR GX GY SE uj;unfold dx at dJ;go_wp2_with fail;rw[<-dJ];clear dJ x0 x1 x2 dB dC dD y0 y1 y2 eF eG eO r0 r1 r2 mJ mK mM;refine H2.o.mono ?_;rintro r u2 ⟨v,rfl,hN,hb⟩;obtain⟨a3,c3,rfl,_⟩:=hN.arg af;obtain⟨IA,IB,IR,GX,GY⟩:=S1.o;obtain⟨x0,x1,x2,dB,dC,dD⟩:=(IA.below hb).facts;obtain⟨y0,y1,y2,eF,eG,eO⟩:=(IB.below hb).facts;obtain⟨r0,r1,r2,mJ,mK,mM⟩:=(IR.below hb).facts;have S2:=(aT (IR.below hb) ((GX.below hb)));clear hN hb H2 S1 IA IB IR GX GY;go_wp2;refine aJ (kH _ (w.heap.size+1+1) false (.slice none 0 0) 0 2 _ rfl rfl (S2.o.1.set _ _ _)) rfl ⟨rfl,?_⟩;refine Fin.aD (m:=w.heap.size+3) (v:=.slice a1 (ws X).length c1) (X:=X) ?_
 repeat (with_reducible first | exact S2.o.2 | refine Fin.drew ?_ | refine Fin.alloc ?_ _ | refine Fin.set ?_ _ _ _ af af)
theorem R5 {w:World}{a b:Option Addr}{l c k d:Nat}(n m:Bool) (e f:Int) (n1 m1:Bool) (X Y:Nat) (e1 f1:Int) (lX:(ws X).length<=8192) (lY:(ws Y).length<=8192) (hX:((((ws X).length:Nat):Int)==0)=false) (hY:((((ws Y).length:Nat):Int)==0)=false) (hlt:decide (e1<f1)=false) (ZH:-1048576<=e1) (ZI:e1<=1048576) (ZJ:-1048576<=f1) (ZK:f1<=1048576)
 (lg:Hid (∀ u,Below w.heap.size w u->Calls Tryz.prog 171 #[.agg #[.bool n,.slice a l c,.int .i64 e],.agg #[.bool m,.slice b k d,.int .i64 f]] u fun r w'=>∃ v v',r=.returned (.tuple #[.agg #[.bool n1,v,.int .i64 e1],.agg #[.bool m1,v',.int .i64 f1],.int .i64 0])/\Nt u.heap.size w' v X/\Nt u.heap.size w' v' Y/\Below u.heap.size u w')) (hs:(n1==m1)=true) (L:Nat) (lL:(ws L).length<=8192) (dn:Bool) (V:Nat) (de er:Int) (lV:(ws V).length<=8192)
 (uj:Hid (∀ (u:World) (p:Option Addr) (q:Nat),Below w.heap.size w u->Arg u p (ws X).length q (ws X)->Calls Tryz.prog 172 #[.slice p (ws X).length q,.int .i64 (e1-f1)] u fun r w'=>∃ v,r=.returned (.tuple #[v,.int .i64 0])/\Nt u.heap.size w' v L/\Below u.heap.size u w'))
 (HT:Hid (∀ (u:World) (p q:Option Addr) (s t:Nat),Below w.heap.size w u->Arg u p (ws L).length s (ws L)->Arg u q (ws Y).length t (ws Y)->Calls Tryz.prog 173 #[.bool n1,.slice p (ws L).length s,.slice q (ws Y).length t,.int .i64 f1] u fun r w'=>(∃ v,r=.returned (.tuple #[.agg #[.bool dn,v,.int .i64 de],.int .i64 er])/\Nt u.heap.size w' v V)/\Below u.heap.size u w')):Calls Tryz.prog 101 #[.agg #[.bool n,.slice a l c,.int .i64 e],.agg #[.bool m,.slice b k d,.int .i64 f]] w fun r w'=>(∃ v,r=.returned (.tuple #[.agg #[.bool dn,v,.int .i64 de],.int .i64 er])/\Nt w.heap.size w' v V)/\Below w.heap.size w w':=by
 obtain⟨W1,hW1⟩:=ah (((w.alloc (.cells #[.bool n,.slice a l c,.int .i64 e] 77)).alloc (.cells #[.bool m,.slice b k d,.int .i64 f] 77)).alloc (.cells #[.bool false,.slice none 0 0,.int .i64 0] 77));obtain⟨hB,hz1,DA,DB,DR⟩:=dS w n m (.slice a l c) (.slice b k d) e f W1 hW1;have H1:=hid (lg.o W1 hB);have SB:=(iq hB hz1 DA DB DR);clear hB hz1 DA DB DR lg;go_enter Tryz.func101,Tryz.ntmps101;go_wp2_with fail;rw[<-hW1];clear hW1;refine H1.o.mono ?_;rintro r u1 ⟨v,v',rfl,hN,hM,hb⟩;obtain⟨a1,c1,rfl,_⟩:=hN.arg af;obtain⟨a2,c2,rfl,_⟩:=hM.arg af;obtain⟨hB,hz1,DA,DB,DR⟩:=SB.o;have EA:=DA.below hb;have EB:=DB.below hb;have ER:=DR.below hb;obtain⟨x0,x1,x2,dB,dC,dD⟩:=EA.facts;obtain⟨y0,y1,y2,eF,eG,eO⟩:=EB.facts;obtain⟨r0,r1,r2,mJ,mK,mM⟩:=ER.facts;have FX:=au (show Fin w.heap.size (w.heap.size+3) w u1 (.slice a1 (ws X).length c1) X from⟨by rw[<-hz1];exact hN,hB.trans (hb.mono af),by have:=hb.size;omega⟩);have FY:=au (show Fin w.heap.size (w.heap.size+3) w u1 (.slice a2 (ws Y).length c2) Y from⟨by rw[<-hz1];exact hM,hB.trans (hb.mono af),by have:=hb.size;omega⟩);have SE:=(bM EA EB ER);clear hN hM hb H1 hB hz1 DA DB DR EA EB ER SB;obtain⟨EA,EB,ER⟩:=SE.o;obtain⟨U1,dJ⟩:=ah (dx (dx u1 w.heap.size (.bool n1) (.slice a1 (ws X).length c1) (.int .i64 e1)) (w.heap.size+1) (.bool m1) (.slice a2 (ws Y).length c2) (.int .i64 f1));have IA:Dk U1 w.heap.size n1 (.slice a1 (ws X).length c1) e1:=by rw[dJ];exact((EA.set _ _ _).other _ af _ _ _)
 have IB:Dk U1 (w.heap.size+1) m1 (.slice a2 (ws Y).length c2) f1:=by rw[dJ];exact((EB.other _ af _ _ _).set _ _ _)
 have IR:Dk U1 (w.heap.size+1+1) false (.slice none 0 0) 0:=by rw[dJ];exact((ER.other _ af _ _ _).other _ af _ _ _)
 have GX:Fin w.heap.size (w.heap.size+3) w U1 (.slice a1 (ws X).length c1) X:=by rw[dJ];exact(Fin.dx (Fin.dx FX.o _ _ _ _ af af) _ _ _ _ af af)
 have GY:Fin w.heap.size (w.heap.size+3) w U1 (.slice a2 (ws Y).length c2) Y:=by rw[dJ];exact(Fin.dx (Fin.dx FY.o _ _ _ _ af af) _ _ _ _ af af)
 have H2:=hid (uj.o U1 a1 c1 GX.aD (GX.nt.cB af).2);have S1:=(iq IA IB IR GX GY);have ZL:w.heap.size+3<=U1.heap.size:=by have:=IR.lt;omega
 clear EA EB ER IA IB IR GX GY SE uj;unfold dx at dJ;go_wp2_with fail;rw[<-dJ];clear dJ x0 x1 x2 dB dC dD y0 y1 y2 eF eG eO r0 r1 r2 mJ mK mM;refine H2.o.mono ?_;rintro r u2 ⟨v,rfl,hN,hb⟩;obtain⟨a3,c3,rfl,_⟩:=hN.arg af;obtain⟨IA,IB,IR,GX,GY⟩:=S1.o;obtain⟨x0,x1,x2,dB,dC,dD⟩:=(IA.below hb).facts;obtain⟨y0,y1,y2,eF,eG,eO⟩:=(IB.below hb).facts;obtain⟨r0,r1,r2,mJ,mK,mM⟩:=(IR.below hb).facts;have H3:=hid (HT.o u2 a3 a2 c3 c2 (GX.below hb).aD (hN.cB af).2 ((GY.below hb).nt.cB af).2);have S2:=(aT (IR.below hb) ((GX.below hb)));have hz2:w.heap.size+3<=u2.heap.size:=by have:=hb.size;omega
 clear hN hb H2 S1 IA IB IR GX GY HT;go_wp2_with fail;refine H3.o.mono ?_;rintro r u3 ⟨⟨v,rfl,hN⟩,hb⟩;obtain⟨a4,c4,rfl,_⟩:=hN.arg af;have IR:=S2.o.1.below hb;obtain⟨s0,s1,s2,IG,II,IJ⟩:=IR.facts;have FV:=au (show Fin w.heap.size (w.heap.size+3) w u3 (.slice a4 (ws V).length c4) V from⟨hN.mono hz2,(S2.o.2.below hb).aD,by have:=hb.size;omega⟩);have S3:=au IR;clear hN hb IR H3 S2;go_wp2;refine aJ (kH _ (w.heap.size+1+1) dn (.slice a4 (ws V).length c4) de er _ rfl rfl (S3.o.set _ _ _)) rfl ?_;refine Fin.qy (m:=w.heap.size+3) ?_ af
 repeat (with_reducible first | exact FV.o | refine Fin.drew ?_ | refine Fin.alloc ?_ _ | refine Fin.set ?_ _ _ _ af af)
theorem OA {w:World}{a b:Option Addr}{l c k d:Nat}(n m:Bool) (e f:Int) (n1 m1:Bool) (X Y:Nat) (e1 f1:Int) (lX:(ws X).length<=8192) (lY:(ws Y).length<=8192) (hX:((((ws X).length:Nat):Int)==0)=false) (hY:((((ws Y).length:Nat):Int)==0)=false) (hlt:decide (e1<f1)=false) (ZH:-1048576<=e1) (ZI:e1<=1048576) (ZJ:-1048576<=f1) (ZK:f1<=1048576)
 (lg:Hid (∀ u,Below w.heap.size w u->Calls Tryz.prog 171 #[.agg #[.bool n,.slice a l c,.int .i64 e],.agg #[.bool m,.slice b k d,.int .i64 f]] u fun r w'=>∃ v v',r=.returned (.tuple #[.agg #[.bool n1,v,.int .i64 e1],.agg #[.bool m1,v',.int .i64 f1],.int .i64 0])/\Nt u.heap.size w' v X/\Nt u.heap.size w' v' Y/\Below u.heap.size u w')) (hs:(n1==m1)=false) (L:Nat) (lL:(ws L).length<=8192) (dn:Bool) (V:Nat) (de er:Int) (lV:(ws V).length<=8192)
 (uj:Hid (∀ (u:World) (p:Option Addr) (q:Nat),Below w.heap.size w u->Arg u p (ws X).length q (ws X)->Calls Tryz.prog 172 #[.slice p (ws X).length q,.int .i64 (e1-f1)] u fun r w'=>∃ v,r=.returned (.tuple #[v,.int .i64 0])/\Nt u.heap.size w' v L/\Below u.heap.size u w'))
 (HT:Hid (∀ (u:World) (p q:Option Addr) (s t:Nat),Below w.heap.size w u->Arg u p (ws L).length s (ws L)->Arg u q (ws Y).length t (ws Y)->Calls Tryz.prog 174 #[.bool n1,.slice p (ws L).length s,.slice q (ws Y).length t,.int .i64 f1] u fun r w'=>(∃ v,r=.returned (.tuple #[.agg #[.bool dn,v,.int .i64 de],.int .i64 er])/\Nt u.heap.size w' v V)/\Below u.heap.size u w')):Calls Tryz.prog 101 #[.agg #[.bool n,.slice a l c,.int .i64 e],.agg #[.bool m,.slice b k d,.int .i64 f]] w fun r w'=>(∃ v,r=.returned (.tuple #[.agg #[.bool dn,v,.int .i64 de],.int .i64 er])/\Nt w.heap.size w' v V)/\Below w.heap.size w w':=by
 obtain⟨W1,hW1⟩:=ah (((w.alloc (.cells #[.bool n,.slice a l c,.int .i64 e] 77)).alloc (.cells #[.bool m,.slice b k d,.int .i64 f] 77)).alloc (.cells #[.bool false,.slice none 0 0,.int .i64 0] 77));obtain⟨hB,hz1,DA,DB,DR⟩:=dS w n m (.slice a l c) (.slice b k d) e f W1 hW1;have H1:=hid (lg.o W1 hB);have SB:=(iq hB hz1 DA DB DR);clear hB hz1 DA DB DR lg;go_enter Tryz.func101,Tryz.ntmps101;go_wp2_with fail;rw[<-hW1];clear hW1;refine H1.o.mono ?_;rintro r u1 ⟨v,v',rfl,hN,hM,hb⟩;obtain⟨a1,c1,rfl,_⟩:=hN.arg af;obtain⟨a2,c2,rfl,_⟩:=hM.arg af;obtain⟨hB,hz1,DA,DB,DR⟩:=SB.o;have EA:=DA.below hb;have EB:=DB.below hb;have ER:=DR.below hb;obtain⟨x0,x1,x2,dB,dC,dD⟩:=EA.facts;obtain⟨y0,y1,y2,eF,eG,eO⟩:=EB.facts;obtain⟨r0,r1,r2,mJ,mK,mM⟩:=ER.facts;have FX:=au (show Fin w.heap.size (w.heap.size+3) w u1 (.slice a1 (ws X).length c1) X from⟨by rw[<-hz1];exact hN,hB.trans (hb.mono af),by have:=hb.size;omega⟩);have FY:=au (show Fin w.heap.size (w.heap.size+3) w u1 (.slice a2 (ws Y).length c2) Y from⟨by rw[<-hz1];exact hM,hB.trans (hb.mono af),by have:=hb.size;omega⟩);have SE:=(bM EA EB ER);clear hN hM hb H1 hB hz1 DA DB DR EA EB ER SB;obtain⟨EA,EB,ER⟩:=SE.o;obtain⟨U1,dJ⟩:=ah (dx (dx u1 w.heap.size (.bool n1) (.slice a1 (ws X).length c1) (.int .i64 e1)) (w.heap.size+1) (.bool m1) (.slice a2 (ws Y).length c2) (.int .i64 f1));have IA:Dk U1 w.heap.size n1 (.slice a1 (ws X).length c1) e1:=by rw[dJ];exact((EA.set _ _ _).other _ af _ _ _)
 have IB:Dk U1 (w.heap.size+1) m1 (.slice a2 (ws Y).length c2) f1:=by rw[dJ];exact((EB.other _ af _ _ _).set _ _ _)
 have IR:Dk U1 (w.heap.size+1+1) false (.slice none 0 0) 0:=by rw[dJ];exact((ER.other _ af _ _ _).other _ af _ _ _)
 have GX:Fin w.heap.size (w.heap.size+3) w U1 (.slice a1 (ws X).length c1) X:=by rw[dJ];exact(Fin.dx (Fin.dx FX.o _ _ _ _ af af) _ _ _ _ af af)
 have GY:Fin w.heap.size (w.heap.size+3) w U1 (.slice a2 (ws Y).length c2) Y:=by rw[dJ];exact(Fin.dx (Fin.dx FY.o _ _ _ _ af af) _ _ _ _ af af)
 have H2:=hid (uj.o U1 a1 c1 GX.aD (GX.nt.cB af).2);have S1:=(iq IA IB IR GX GY);have ZL:w.heap.size+3<=U1.heap.size:=by have:=IR.lt;omega
 clear EA EB ER IA IB IR GX GY SE uj;unfold dx at dJ;go_wp2_with fail;rw[<-dJ];clear dJ x0 x1 x2 dB dC dD y0 y1 y2 eF eG eO r0 r1 r2 mJ mK mM;refine H2.o.mono ?_;rintro r u2 ⟨v,rfl,hN,hb⟩;obtain⟨a3,c3,rfl,_⟩:=hN.arg af;obtain⟨IA,IB,IR,GX,GY⟩:=S1.o;obtain⟨x0,x1,x2,dB,dC,dD⟩:=(IA.below hb).facts;obtain⟨y0,y1,y2,eF,eG,eO⟩:=(IB.below hb).facts;obtain⟨r0,r1,r2,mJ,mK,mM⟩:=(IR.below hb).facts;have H3:=hid (HT.o u2 a3 a2 c3 c2 (GX.below hb).aD (hN.cB af).2 ((GY.below hb).nt.cB af).2);have S2:=(aT (IR.below hb) ((GX.below hb)));have hz2:w.heap.size+3<=u2.heap.size:=by have:=hb.size;omega
 clear hN hb H2 S1 IA IB IR GX GY HT;go_wp2_with fail;refine H3.o.mono ?_;rintro r u3 ⟨⟨v,rfl,hN⟩,hb⟩;obtain⟨a4,c4,rfl,_⟩:=hN.arg af;have IR:=S2.o.1.below hb;obtain⟨s0,s1,s2,IG,II,IJ⟩:=IR.facts;have FV:=au (show Fin w.heap.size (w.heap.size+3) w u3 (.slice a4 (ws V).length c4) V from⟨hN.mono hz2,(S2.o.2.below hb).aD,by have:=hb.size;omega⟩);have S3:=au IR;clear hN hb IR H3 S2;go_wp2;refine aJ (kH _ (w.heap.size+1+1) dn (.slice a4 (ws V).length c4) de er _ rfl rfl (S3.o.set _ _ _)) rfl ?_;refine Fin.qy (m:=w.heap.size+3) ?_ af
 repeat (with_reducible first | exact FV.o | refine Fin.drew ?_ | refine Fin.alloc ?_ _ | refine Fin.set ?_ _ _ _ af af)
theorem OB {w:World}{a b:Option Addr}{l c k d:Nat}(n m:Bool) (e f:Int) (n1 m1:Bool) (X Y:Nat) (e1 f1:Int) (lX:(ws X).length<=8192) (lY:(ws Y).length<=8192) (hX:((((ws X).length:Nat):Int)==0)=false) (hY:((((ws Y).length:Nat):Int)==0)=false) (hlt:e1<f1) (ZH:-1048576<=e1) (ZI:e1<=1048576) (ZJ:-1048576<=f1) (ZK:f1<=1048576)
 (lg:Hid (∀ u,Below w.heap.size w u->Calls Tryz.prog 171 #[.agg #[.bool n,.slice a l c,.int .i64 e],.agg #[.bool m,.slice b k d,.int .i64 f]] u fun r w'=>∃ v v',r=.returned (.tuple #[.agg #[.bool n1,v,.int .i64 e1],.agg #[.bool m1,v',.int .i64 f1],.int .i64 0])/\Nt u.heap.size w' v X/\Nt u.heap.size w' v' Y/\Below u.heap.size u w'))
 (uj:Hid (∀ (u:World) (p:Option Addr) (q:Nat),Below w.heap.size w u->Arg u p (ws Y).length q (ws Y)->Calls Tryz.prog 172 #[.slice p (ws Y).length q,.int .i64 (f1-e1)] u fun r w'=>∃ v,r=.returned (.tuple #[v,.int .i64 2])/\Nt u.heap.size w' v 0/\Below u.heap.size u w')):Calls Tryz.prog 101 #[.agg #[.bool n,.slice a l c,.int .i64 e],.agg #[.bool m,.slice b k d,.int .i64 f]] w fun r w'=>r=.returned (.tuple #[.agg #[.bool false,.slice none 0 0,.int .i64 0],.int .i64 2])/\Below w.heap.size w w':=by
 have l0:(ws 0).length=0:=by rw[bB];rfl
 obtain⟨W1,hW1⟩:=ah (((w.alloc (.cells #[.bool n,.slice a l c,.int .i64 e] 77)).alloc (.cells #[.bool m,.slice b k d,.int .i64 f] 77)).alloc (.cells #[.bool false,.slice none 0 0,.int .i64 0] 77));obtain⟨hB,hz1,DA,DB,DR⟩:=dS w n m (.slice a l c) (.slice b k d) e f W1 hW1;have H1:=hid (lg.o W1 hB);have SB:=(iq hB hz1 DA DB DR);clear hB hz1 DA DB DR lg;go_enter Tryz.func101,Tryz.ntmps101;go_wp2_with fail;rw[<-hW1];clear hW1;refine H1.o.mono ?_;rintro r u1 ⟨v,v',rfl,hN,hM,hb⟩;obtain⟨a1,c1,rfl,_⟩:=hN.arg af;obtain⟨a2,c2,rfl,_⟩:=hM.arg af;obtain⟨hB,hz1,DA,DB,DR⟩:=SB.o;have EA:=DA.below hb;have EB:=DB.below hb;have ER:=DR.below hb;obtain⟨x0,x1,x2,dB,dC,dD⟩:=EA.facts;obtain⟨y0,y1,y2,eF,eG,eO⟩:=EB.facts;obtain⟨r0,r1,r2,mJ,mK,mM⟩:=ER.facts;have FX:=au (show Fin w.heap.size (w.heap.size+3) w u1 (.slice a1 (ws X).length c1) X from⟨by rw[<-hz1];exact hN,hB.trans (hb.mono af),by have:=hb.size;omega⟩);have FY:=au (show Fin w.heap.size (w.heap.size+3) w u1 (.slice a2 (ws Y).length c2) Y from⟨by rw[<-hz1];exact hM,hB.trans (hb.mono af),by have:=hb.size;omega⟩);have SE:=(bM EA EB ER);clear hN hM hb H1 hB hz1 DA DB DR EA EB ER SB;obtain⟨EA,EB,ER⟩:=SE.o;obtain⟨U0,vJ⟩:=ah (dx (dx u1 w.heap.size (.bool n1) (.slice a1 (ws X).length c1) (.int .i64 e1)) (w.heap.size+1) (.bool m1) (.slice a2 (ws Y).length c2) (.int .i64 f1));have JA:Dk U0 w.heap.size n1 (.slice a1 (ws X).length c1) e1:=by rw[vJ];exact((EA.set _ _ _).other _ af _ _ _)
 have JB:Dk U0 (w.heap.size+1) m1 (.slice a2 (ws Y).length c2) f1:=by rw[vJ];exact((EB.other _ af _ _ _).set _ _ _)
 have JR:Dk U0 (w.heap.size+1+1) false (.slice none 0 0) 0:=by rw[vJ];exact((ER.other _ af _ _ _).other _ af _ _ _)
 have KX:=au (show Fin w.heap.size (w.heap.size+3) w U0 (.slice a1 (ws X).length c1) X by rw[vJ];exact(Fin.dx (Fin.dx FX.o _ _ _ _ af af) _ _ _ _ af af));have KY:=au (show Fin w.heap.size (w.heap.size+3) w U0 (.slice a2 (ws Y).length c2) Y by rw[vJ];exact(Fin.dx (Fin.dx FY.o _ _ _ _ af af) _ _ _ _ af af));have SE:=(bM JA JB JR);unfold dx at vJ;clear EA EB ER JA JB JR
 go_upto_region 9 with fail
 rw[<-vJ];clear vJ x0 x1 x2 dB dC dD y0 y1 y2 eF eG eO r0 r1 r2 mJ mK mM FX FY;obtain⟨x0,x1,x2,dB,dC,dD⟩:=SE.o.1.facts;obtain⟨y0,y1,y2,eF,eG,eO⟩:=SE.o.2.1.facts;obtain⟨r0,r1,r2,mJ,mK,mM⟩:=SE.o.r2.facts;obtain⟨EA,EB,ER⟩:=SE.o;obtain⟨U1,dJ⟩:=ah (dx (dx U0 w.heap.size (.bool m1) (.slice a2 (ws Y).length c2) (.int .i64 f1)) (w.heap.size+1) (.bool n1) (.slice a1 (ws X).length c1) (.int .i64 e1));have IA:Dk U1 w.heap.size m1 (.slice a2 (ws Y).length c2) f1:=by rw[dJ];exact((EA.set _ _ _).other _ af _ _ _)
 have IB:Dk U1 (w.heap.size+1) n1 (.slice a1 (ws X).length c1) e1:=by rw[dJ];exact((EB.other _ af _ _ _).set _ _ _)
 have IR:Dk U1 (w.heap.size+1+1) false (.slice none 0 0) 0:=by rw[dJ];exact((ER.other _ af _ _ _).other _ af _ _ _)
 have GX:Fin w.heap.size (w.heap.size+3) w U1 (.slice a1 (ws X).length c1) X:=by rw[dJ];exact(Fin.dx (Fin.dx KX.o _ _ _ _ af af) _ _ _ _ af af)
 have GY:Fin w.heap.size (w.heap.size+3) w U1 (.slice a2 (ws Y).length c2) Y:=by rw[dJ];exact(Fin.dx (Fin.dx KY.o _ _ _ _ af af) _ _ _ _ af af)
 have H2:=hid (uj.o U1 a2 c2 GX.aD (GY.nt.cB af).2);have S1:=(iq IA IB IR GX GY);have ZL:w.heap.size+3<=U1.heap.size:=by have:=IR.lt;omega
 clear EA EB ER IA IB IR GX GY SE uj;unfold dx at dJ;go_wp2_with fail;rw[<-dJ];clear dJ x0 x1 x2 dB dC dD y0 y1 y2 eF eG eO r0 r1 r2 mJ mK mM;refine H2.o.mono ?_;rintro r u2 ⟨v,rfl,hN,hb⟩;obtain⟨a3,c3,rfl,_⟩:=hN.arg af;obtain⟨IA,IB,IR,GX,GY⟩:=S1.o;obtain⟨x0,x1,x2,dB,dC,dD⟩:=(IA.below hb).facts;obtain⟨y0,y1,y2,eF,eG,eO⟩:=(IB.below hb).facts;obtain⟨r0,r1,r2,mJ,mK,mM⟩:=(IR.below hb).facts;have S2:=(aT (IR.below hb) ((GX.below hb)));clear hN hb H2 S1 IA IB IR GX GY;go_wp2;refine aJ (kH _ (w.heap.size+1+1) false (.slice none 0 0) 0 2 _ rfl rfl (S2.o.1.set _ _ _)) rfl ⟨rfl,?_⟩;refine Fin.aD (m:=w.heap.size+3) (v:=.slice a1 (ws X).length c1) (X:=X) ?_
 repeat (with_reducible first | exact S2.o.2 | refine Fin.drew ?_ | refine Fin.alloc ?_ _ | refine Fin.set ?_ _ _ _ af af)
theorem R6 {w:World}{a b:Option Addr}{l c k d:Nat}(n m:Bool) (e f:Int) (n1 m1:Bool) (X Y:Nat) (e1 f1:Int) (lX:(ws X).length<=8192) (lY:(ws Y).length<=8192) (hX:((((ws X).length:Nat):Int)==0)=false) (hY:((((ws Y).length:Nat):Int)==0)=false) (hlt:e1<f1) (ZH:-1048576<=e1) (ZI:e1<=1048576) (ZJ:-1048576<=f1) (ZK:f1<=1048576)
 (lg:Hid (∀ u,Below w.heap.size w u->Calls Tryz.prog 171 #[.agg #[.bool n,.slice a l c,.int .i64 e],.agg #[.bool m,.slice b k d,.int .i64 f]] u fun r w'=>∃ v v',r=.returned (.tuple #[.agg #[.bool n1,v,.int .i64 e1],.agg #[.bool m1,v',.int .i64 f1],.int .i64 0])/\Nt u.heap.size w' v X/\Nt u.heap.size w' v' Y/\Below u.heap.size u w')) (hs:(m1==n1)=true) (L:Nat) (lL:(ws L).length<=8192) (dn:Bool) (V:Nat) (de er:Int) (lV:(ws V).length<=8192)
 (uj:Hid (∀ (u:World) (p:Option Addr) (q:Nat),Below w.heap.size w u->Arg u p (ws Y).length q (ws Y)->Calls Tryz.prog 172 #[.slice p (ws Y).length q,.int .i64 (f1-e1)] u fun r w'=>∃ v,r=.returned (.tuple #[v,.int .i64 0])/\Nt u.heap.size w' v L/\Below u.heap.size u w'))
 (HT:Hid (∀ (u:World) (p q:Option Addr) (s t:Nat),Below w.heap.size w u->Arg u p (ws L).length s (ws L)->Arg u q (ws X).length t (ws X)->Calls Tryz.prog 173 #[.bool m1,.slice p (ws L).length s,.slice q (ws X).length t,.int .i64 e1] u fun r w'=>(∃ v,r=.returned (.tuple #[.agg #[.bool dn,v,.int .i64 de],.int .i64 er])/\Nt u.heap.size w' v V)/\Below u.heap.size u w')):Calls Tryz.prog 101 #[.agg #[.bool n,.slice a l c,.int .i64 e],.agg #[.bool m,.slice b k d,.int .i64 f]] w fun r w'=>(∃ v,r=.returned (.tuple #[.agg #[.bool dn,v,.int .i64 de],.int .i64 er])/\Nt w.heap.size w' v V)/\Below w.heap.size w w':=by
 obtain⟨W1,hW1⟩:=ah (((w.alloc (.cells #[.bool n,.slice a l c,.int .i64 e] 77)).alloc (.cells #[.bool m,.slice b k d,.int .i64 f] 77)).alloc (.cells #[.bool false,.slice none 0 0,.int .i64 0] 77));obtain⟨hB,hz1,DA,DB,DR⟩:=dS w n m (.slice a l c) (.slice b k d) e f W1 hW1;have H1:=hid (lg.o W1 hB);have SB:=(iq hB hz1 DA DB DR);clear hB hz1 DA DB DR lg;go_enter Tryz.func101,Tryz.ntmps101;go_wp2_with fail;rw[<-hW1];clear hW1;refine H1.o.mono ?_;rintro r u1 ⟨v,v',rfl,hN,hM,hb⟩;obtain⟨a1,c1,rfl,_⟩:=hN.arg af;obtain⟨a2,c2,rfl,_⟩:=hM.arg af;obtain⟨hB,hz1,DA,DB,DR⟩:=SB.o;have EA:=DA.below hb;have EB:=DB.below hb;have ER:=DR.below hb;obtain⟨x0,x1,x2,dB,dC,dD⟩:=EA.facts;obtain⟨y0,y1,y2,eF,eG,eO⟩:=EB.facts;obtain⟨r0,r1,r2,mJ,mK,mM⟩:=ER.facts;have FX:=au (show Fin w.heap.size (w.heap.size+3) w u1 (.slice a1 (ws X).length c1) X from⟨by rw[<-hz1];exact hN,hB.trans (hb.mono af),by have:=hb.size;omega⟩);have FY:=au (show Fin w.heap.size (w.heap.size+3) w u1 (.slice a2 (ws Y).length c2) Y from⟨by rw[<-hz1];exact hM,hB.trans (hb.mono af),by have:=hb.size;omega⟩);have SE:=(bM EA EB ER);clear hN hM hb H1 hB hz1 DA DB DR EA EB ER SB;obtain⟨EA,EB,ER⟩:=SE.o;obtain⟨U0,vJ⟩:=ah (dx (dx u1 w.heap.size (.bool n1) (.slice a1 (ws X).length c1) (.int .i64 e1)) (w.heap.size+1) (.bool m1) (.slice a2 (ws Y).length c2) (.int .i64 f1));have JA:Dk U0 w.heap.size n1 (.slice a1 (ws X).length c1) e1:=by rw[vJ];exact((EA.set _ _ _).other _ af _ _ _)
 have JB:Dk U0 (w.heap.size+1) m1 (.slice a2 (ws Y).length c2) f1:=by rw[vJ];exact((EB.other _ af _ _ _).set _ _ _)
 have JR:Dk U0 (w.heap.size+1+1) false (.slice none 0 0) 0:=by rw[vJ];exact((ER.other _ af _ _ _).other _ af _ _ _)
 have KX:=au (show Fin w.heap.size (w.heap.size+3) w U0 (.slice a1 (ws X).length c1) X by rw[vJ];exact(Fin.dx (Fin.dx FX.o _ _ _ _ af af) _ _ _ _ af af));have KY:=au (show Fin w.heap.size (w.heap.size+3) w U0 (.slice a2 (ws Y).length c2) Y by rw[vJ];exact(Fin.dx (Fin.dx FY.o _ _ _ _ af af) _ _ _ _ af af));have SE:=(bM JA JB JR);unfold dx at vJ;clear EA EB ER JA JB JR
 go_upto_region 9 with fail
 rw[<-vJ];clear vJ x0 x1 x2 dB dC dD y0 y1 y2 eF eG eO r0 r1 r2 mJ mK mM FX FY;obtain⟨x0,x1,x2,dB,dC,dD⟩:=SE.o.1.facts;obtain⟨y0,y1,y2,eF,eG,eO⟩:=SE.o.2.1.facts;obtain⟨r0,r1,r2,mJ,mK,mM⟩:=SE.o.r2.facts;obtain⟨EA,EB,ER⟩:=SE.o;obtain⟨U1,dJ⟩:=ah (dx (dx U0 w.heap.size (.bool m1) (.slice a2 (ws Y).length c2) (.int .i64 f1)) (w.heap.size+1) (.bool n1) (.slice a1 (ws X).length c1) (.int .i64 e1));have IA:Dk U1 w.heap.size m1 (.slice a2 (ws Y).length c2) f1:=by rw[dJ];exact((EA.set _ _ _).other _ af _ _ _)
 have IB:Dk U1 (w.heap.size+1) n1 (.slice a1 (ws X).length c1) e1:=by rw[dJ];exact((EB.other _ af _ _ _).set _ _ _)
 have IR:Dk U1 (w.heap.size+1+1) false (.slice none 0 0) 0:=by rw[dJ];exact((ER.other _ af _ _ _).other _ af _ _ _)
 have GX:Fin w.heap.size (w.heap.size+3) w U1 (.slice a1 (ws X).length c1) X:=by rw[dJ];exact(Fin.dx (Fin.dx KX.o _ _ _ _ af af) _ _ _ _ af af)
 have GY:Fin w.heap.size (w.heap.size+3) w U1 (.slice a2 (ws Y).length c2) Y:=by rw[dJ];exact(Fin.dx (Fin.dx KY.o _ _ _ _ af af) _ _ _ _ af af)
 have H2:=hid (uj.o U1 a2 c2 GX.aD (GY.nt.cB af).2);have S1:=(iq IA IB IR GX GY);have ZL:w.heap.size+3<=U1.heap.size:=by have:=IR.lt;omega
 clear EA EB ER IA IB IR GX GY SE uj;unfold dx at dJ;go_wp2_with fail;rw[<-dJ];clear dJ x0 x1 x2 dB dC dD y0 y1 y2 eF eG eO r0 r1 r2 mJ mK mM;refine H2.o.mono ?_;rintro r u2 ⟨v,rfl,hN,hb⟩;obtain⟨a3,c3,rfl,_⟩:=hN.arg af;obtain⟨IA,IB,IR,GX,GY⟩:=S1.o;obtain⟨x0,x1,x2,dB,dC,dD⟩:=(IA.below hb).facts;obtain⟨y0,y1,y2,eF,eG,eO⟩:=(IB.below hb).facts;obtain⟨r0,r1,r2,mJ,mK,mM⟩:=(IR.below hb).facts;have H3:=hid (HT.o u2 a3 a1 c3 c1 (GX.below hb).aD (hN.cB af).2 ((GX.below hb).nt.cB af).2);have S2:=(aT (IR.below hb) ((GX.below hb)));have hz2:w.heap.size+3<=u2.heap.size:=by have:=hb.size;omega
 clear hN hb H2 S1 IA IB IR GX GY HT;go_wp2_with fail;refine H3.o.mono ?_;rintro r u3 ⟨⟨v,rfl,hN⟩,hb⟩;obtain⟨a4,c4,rfl,_⟩:=hN.arg af;have IR:=S2.o.1.below hb;obtain⟨s0,s1,s2,IG,II,IJ⟩:=IR.facts;have FV:=au (show Fin w.heap.size (w.heap.size+3) w u3 (.slice a4 (ws V).length c4) V from⟨hN.mono hz2,(S2.o.2.below hb).aD,by have:=hb.size;omega⟩);have S3:=au IR;clear hN hb IR H3 S2;go_wp2;refine aJ (kH _ (w.heap.size+1+1) dn (.slice a4 (ws V).length c4) de er _ rfl rfl (S3.o.set _ _ _)) rfl ?_;refine Fin.qy (m:=w.heap.size+3) ?_ af
 repeat (with_reducible first | exact FV.o | refine Fin.drew ?_ | refine Fin.alloc ?_ _ | refine Fin.set ?_ _ _ _ af af)
theorem OC {w:World}{a b:Option Addr}{l c k d:Nat}(n m:Bool) (e f:Int) (n1 m1:Bool) (X Y:Nat) (e1 f1:Int) (lX:(ws X).length<=8192) (lY:(ws Y).length<=8192) (hX:((((ws X).length:Nat):Int)==0)=false) (hY:((((ws Y).length:Nat):Int)==0)=false) (hlt:e1<f1) (ZH:-1048576<=e1) (ZI:e1<=1048576) (ZJ:-1048576<=f1) (ZK:f1<=1048576)
 (lg:Hid (∀ u,Below w.heap.size w u->Calls Tryz.prog 171 #[.agg #[.bool n,.slice a l c,.int .i64 e],.agg #[.bool m,.slice b k d,.int .i64 f]] u fun r w'=>∃ v v',r=.returned (.tuple #[.agg #[.bool n1,v,.int .i64 e1],.agg #[.bool m1,v',.int .i64 f1],.int .i64 0])/\Nt u.heap.size w' v X/\Nt u.heap.size w' v' Y/\Below u.heap.size u w')) (hs:(m1==n1)=false) (L:Nat) (lL:(ws L).length<=8192) (dn:Bool) (V:Nat) (de er:Int) (lV:(ws V).length<=8192)
 (uj:Hid (∀ (u:World) (p:Option Addr) (q:Nat),Below w.heap.size w u->Arg u p (ws Y).length q (ws Y)->Calls Tryz.prog 172 #[.slice p (ws Y).length q,.int .i64 (f1-e1)] u fun r w'=>∃ v,r=.returned (.tuple #[v,.int .i64 0])/\Nt u.heap.size w' v L/\Below u.heap.size u w'))
 (HT:Hid (∀ (u:World) (p q:Option Addr) (s t:Nat),Below w.heap.size w u->Arg u p (ws L).length s (ws L)->Arg u q (ws X).length t (ws X)->Calls Tryz.prog 174 #[.bool m1,.slice p (ws L).length s,.slice q (ws X).length t,.int .i64 e1] u fun r w'=>(∃ v,r=.returned (.tuple #[.agg #[.bool dn,v,.int .i64 de],.int .i64 er])/\Nt u.heap.size w' v V)/\Below u.heap.size u w')):Calls Tryz.prog 101 #[.agg #[.bool n,.slice a l c,.int .i64 e],.agg #[.bool m,.slice b k d,.int .i64 f]] w fun r w'=>(∃ v,r=.returned (.tuple #[.agg #[.bool dn,v,.int .i64 de],.int .i64 er])/\Nt w.heap.size w' v V)/\Below w.heap.size w w':=by
 obtain⟨W1,hW1⟩:=ah (((w.alloc (.cells #[.bool n,.slice a l c,.int .i64 e] 77)).alloc (.cells #[.bool m,.slice b k d,.int .i64 f] 77)).alloc (.cells #[.bool false,.slice none 0 0,.int .i64 0] 77));obtain⟨hB,hz1,DA,DB,DR⟩:=dS w n m (.slice a l c) (.slice b k d) e f W1 hW1;have H1:=hid (lg.o W1 hB);have SB:=(iq hB hz1 DA DB DR);clear hB hz1 DA DB DR lg;go_enter Tryz.func101,Tryz.ntmps101;go_wp2_with fail;rw[<-hW1];clear hW1;refine H1.o.mono ?_;rintro r u1 ⟨v,v',rfl,hN,hM,hb⟩;obtain⟨a1,c1,rfl,_⟩:=hN.arg af;obtain⟨a2,c2,rfl,_⟩:=hM.arg af;obtain⟨hB,hz1,DA,DB,DR⟩:=SB.o;have EA:=DA.below hb;have EB:=DB.below hb;have ER:=DR.below hb;obtain⟨x0,x1,x2,dB,dC,dD⟩:=EA.facts;obtain⟨y0,y1,y2,eF,eG,eO⟩:=EB.facts;obtain⟨r0,r1,r2,mJ,mK,mM⟩:=ER.facts;have FX:=au (show Fin w.heap.size (w.heap.size+3) w u1 (.slice a1 (ws X).length c1) X from⟨by rw[<-hz1];exact hN,hB.trans (hb.mono af),by have:=hb.size;omega⟩);have FY:=au (show Fin w.heap.size (w.heap.size+3) w u1 (.slice a2 (ws Y).length c2) Y from⟨by rw[<-hz1];exact hM,hB.trans (hb.mono af),by have:=hb.size;omega⟩);have SE:=(bM EA EB ER);clear hN hM hb H1 hB hz1 DA DB DR EA EB ER SB;obtain⟨EA,EB,ER⟩:=SE.o;obtain⟨U0,vJ⟩:=ah (dx (dx u1 w.heap.size (.bool n1) (.slice a1 (ws X).length c1) (.int .i64 e1)) (w.heap.size+1) (.bool m1) (.slice a2 (ws Y).length c2) (.int .i64 f1));have JA:Dk U0 w.heap.size n1 (.slice a1 (ws X).length c1) e1:=by rw[vJ];exact((EA.set _ _ _).other _ af _ _ _)
 have JB:Dk U0 (w.heap.size+1) m1 (.slice a2 (ws Y).length c2) f1:=by rw[vJ];exact((EB.other _ af _ _ _).set _ _ _)
 have JR:Dk U0 (w.heap.size+1+1) false (.slice none 0 0) 0:=by rw[vJ];exact((ER.other _ af _ _ _).other _ af _ _ _)
 have KX:=au (show Fin w.heap.size (w.heap.size+3) w U0 (.slice a1 (ws X).length c1) X by rw[vJ];exact(Fin.dx (Fin.dx FX.o _ _ _ _ af af) _ _ _ _ af af));have KY:=au (show Fin w.heap.size (w.heap.size+3) w U0 (.slice a2 (ws Y).length c2) Y by rw[vJ];exact(Fin.dx (Fin.dx FY.o _ _ _ _ af af) _ _ _ _ af af));have SE:=(bM JA JB JR);unfold dx at vJ;clear EA EB ER JA JB JR
 go_upto_region 9 with fail
 rw[<-vJ];clear vJ x0 x1 x2 dB dC dD y0 y1 y2 eF eG eO r0 r1 r2 mJ mK mM FX FY;obtain⟨x0,x1,x2,dB,dC,dD⟩:=SE.o.1.facts;obtain⟨y0,y1,y2,eF,eG,eO⟩:=SE.o.2.1.facts;obtain⟨r0,r1,r2,mJ,mK,mM⟩:=SE.o.r2.facts;obtain⟨EA,EB,ER⟩:=SE.o;obtain⟨U1,dJ⟩:=ah (dx (dx U0 w.heap.size (.bool m1) (.slice a2 (ws Y).length c2) (.int .i64 f1)) (w.heap.size+1) (.bool n1) (.slice a1 (ws X).length c1) (.int .i64 e1));have IA:Dk U1 w.heap.size m1 (.slice a2 (ws Y).length c2) f1:=by rw[dJ];exact((EA.set _ _ _).other _ af _ _ _)
 have IB:Dk U1 (w.heap.size+1) n1 (.slice a1 (ws X).length c1) e1:=by rw[dJ];exact((EB.other _ af _ _ _).set _ _ _)
 have IR:Dk U1 (w.heap.size+1+1) false (.slice none 0 0) 0:=by rw[dJ];exact((ER.other _ af _ _ _).other _ af _ _ _)
 have GX:Fin w.heap.size (w.heap.size+3) w U1 (.slice a1 (ws X).length c1) X:=by rw[dJ];exact(Fin.dx (Fin.dx KX.o _ _ _ _ af af) _ _ _ _ af af)
 have GY:Fin w.heap.size (w.heap.size+3) w U1 (.slice a2 (ws Y).length c2) Y:=by rw[dJ];exact(Fin.dx (Fin.dx KY.o _ _ _ _ af af) _ _ _ _ af af)
 have H2:=hid (uj.o U1 a2 c2 GX.aD (GY.nt.cB af).2);have S1:=(iq IA IB IR GX GY);have ZL:w.heap.size+3<=U1.heap.size:=by have:=IR.lt;omega
 clear EA EB ER IA IB IR GX GY SE uj;unfold dx at dJ;go_wp2_with fail;rw[<-dJ];clear dJ x0 x1 x2 dB dC dD y0 y1 y2 eF eG eO r0 r1 r2 mJ mK mM;refine H2.o.mono ?_;rintro r u2 ⟨v,rfl,hN,hb⟩;obtain⟨a3,c3,rfl,_⟩:=hN.arg af;obtain⟨IA,IB,IR,GX,GY⟩:=S1.o;obtain⟨x0,x1,x2,dB,dC,dD⟩:=(IA.below hb).facts;obtain⟨y0,y1,y2,eF,eG,eO⟩:=(IB.below hb).facts;obtain⟨r0,r1,r2,mJ,mK,mM⟩:=(IR.below hb).facts;have H3:=hid (HT.o u2 a3 a1 c3 c1 (GX.below hb).aD (hN.cB af).2 ((GX.below hb).nt.cB af).2);have S2:=(aT (IR.below hb) ((GX.below hb)));have hz2:w.heap.size+3<=u2.heap.size:=by have:=hb.size;omega
 clear hN hb H2 S1 IA IB IR GX GY HT;go_wp2_with fail;refine H3.o.mono ?_;rintro r u3 ⟨⟨v,rfl,hN⟩,hb⟩;obtain⟨a4,c4,rfl,_⟩:=hN.arg af;have IR:=S2.o.1.below hb;obtain⟨s0,s1,s2,IG,II,IJ⟩:=IR.facts;have FV:=au (show Fin w.heap.size (w.heap.size+3) w u3 (.slice a4 (ws V).length c4) V from⟨hN.mono hz2,(S2.o.2.below hb).aD,by have:=hb.size;omega⟩);have S3:=au IR;clear hN hb IR H3 S2;go_wp2;refine aJ (kH _ (w.heap.size+1+1) dn (.slice a4 (ws V).length c4) de er _ rfl rfl (S3.o.set _ _ _)) rfl ?_;refine Fin.qy (m:=w.heap.size+3) ?_ af
 repeat (with_reducible first | exact FV.o | refine Fin.drew ?_ | refine Fin.alloc ?_ _ | refine Fin.set ?_ _ _ _ af af)
def nP(n:Bool)(X:Nat)(e:Int)(m:Bool)(Y:Nat)(f:Int):Option (Bool×Nat×Int) :=
 if 262144<bl X+(e-f).toNat then none
 else if n=m then mkS n (X*2^(e-f).toNat+Y) f
 else if Y<=X*2^(e-f).toNat then mkS n (X*2^(e-f).toNat-Y) f
 else mkS (!n) (Y-X*2^(e-f).toNat) f
def wu(x y:Bool×Nat×Int):Option (Bool×Nat×Int) :=
 if x.2.1=0 then some y else if y.2.1=0 then some x
 else if x.2.2<y.2.2 then nP y.1 y.2.1 y.2.2 x.1 x.2.1 x.2.2 else nP x.1 x.2.1 x.2.2 y.1 y.2.1 y.2.2
def iO(o p:Option (Bool×Nat×Int)):Option (Bool×Nat×Int) :=
 match o,p with
 | some x,some y=>wu x y
 | _,_=>none
theorem yj(X:Nat)(b:Int)(h0:0<=b)(hX:X≠0)(hl:bl X<=262144):aX X b=if 262144<bl X+b.toNat then(0,2) else(X*2^b.toNat,0):=by
 unfold aX;rw[if_neg (lU hl),if_neg hX,if_neg af]
 by_cases h:262144<bl X+b.toNat
 · rw[if_pos h,if_pos af]
 · rw[if_neg h,if_neg af]
theorem R7(X b:Nat)(hX:X≠0):bl (X*2^b)=bl X+b:=by rw[bR,qP b X hX];omega
theorem kL{w:World}{p:Option Addr}{q X:Nat}(b:Int)(L:Nat)(er:Int)(hA:Arg w p (ws X).length q (ws X))(hb0:-9223372036854775808<=b)(hb1:b<=9223372036854775807)(h:aX X b=(L,er)) :
 Calls Tryz.prog 172 #[.slice p (ws X).length q,.int .i64 b] w fun r w'=>∃ v,r=.returned (.tuple #[v,.int .i64 er])/\Nt w.heap.size w' v L/\Below w.heap.size w w':=by
 have:=Au (ws X) p (ws X).length q w.heap.size b w hA.len hA.cap (by have:=hA.big;omega) hA.wf hA.rd (aB _) hb0 hb1;rw[aC,h] at this;exact this.mono fun r w' ⟨⟨v,h1,h2⟩,h3⟩=>⟨v,h1,h2,h3⟩
theorem R8{w u:World}{p q:Option Addr}{s t L Y:Nat}(hT:bO w)(hu:Below w.heap.size w u)(A1:Arg u p (ws L).length s (ws L))(A2:Arg u q (ws Y).length t (ws Y))(n:Bool)(f:Int)(h0:-1048576<=f)(h1:f<=1048576)(oY:Y%2=1)(bL:bl L<=262144)(bY:bl Y<=262144) :
 Calls Tryz.prog 173 #[.bool n,.slice p (ws L).length s,.slice q (ws Y).length t,.int .i64 f] u fun r w'=>dh u.heap.size w' r (mkS n (L+Y) f)/\Below u.heap.size u w' :=
 VY A1 A2 (hT.belows hu) n f h0 h1 L Y (aC L) (aC Y) oY bL bY
theorem Mc{w u:World}{p q:Option Addr}{s t L Y:Nat}(hT:bO w)(hu:Below w.heap.size w u)(A1:Arg u p (ws L).length s (ws L))(A2:Arg u q (ws Y).length t (ws Y))(n:Bool)(f:Int)(h0:-1048576<=f)(h1:f<=1048576)(bL:bl L<=262144)(bY:bl Y<=262144) :
 Calls Tryz.prog 174 #[.bool n,.slice p (ws L).length s,.slice q (ws Y).length t,.int .i64 f] u fun r w'=>dh u.heap.size w' r (if Y<=L then mkS n (L-Y) f else mkS (!n) (Y-L) f)/\Below u.heap.size u w':=by
 by_cases h:Y<=L
 · rw[if_pos h];exact Ou A1 A2 (hT.belows hu) n f h0 h1 L Y (aC L) (aC Y) bL bY h
 · rw[if_neg h];exact R3 A1 A2 (hT.belows hu) n f h0 h1 L Y (aC L) (aC Y) bL bY af
theorem fU{X:Nat}(h:X≠0):((((ws X).length:Nat):Int)==0)=false:=beq_eq_false_iff_ne.2 (by have:(ws X).length≠0:=fun e=>h ((dA X).1 e);omega)
theorem F8{w:World}{a b:Option Addr}{l c k d:Nat}{xs ys:List Nat}(h1:Arg w a l c xs)(h2:Arg w b k d ys)(hT:bO w)(n m:Bool)(e f:Int)(he0:-9223372036854775808<=e)(he1:e<=9223372036854775807)(hf0:-9223372036854775808<=f)(hf1:f<=9223372036854775807) :
 Calls Tryz.prog 101 #[.agg #[.bool n,.slice a l c,.int .i64 e],.agg #[.bool m,.slice b k d,.int .i64 f]] w fun r w'=>dh w.heap.size w' r (iO (mkS n (val xs) e) (mkS m (val ys) f))/\Below w.heap.size w w':=by
 have zero:∀ {r:Ending} {w':World},(r=.returned (.tuple #[.agg #[.bool false,.slice none 0 0,.int .i64 0],.int .i64 2])/\Below w.heap.size w w')->dh w.heap.size w' r none/\Below w.heap.size w w':=fun⟨h1,h2⟩=>⟨⟨_,h1,Nt.nil _ _⟩,h2⟩
 cases hx:mkS n (val xs) e with
 | none =>
   exact(Ma n m e f (hid fun u hu=>yg (h1.below hu) (h2.below hu) (hT.belows hu) n m e f he0 he1 hf0 hf1 hx)).mono fun r w' h=>zero h
 | some x =>
   obtain⟨n1,X,e1⟩:=x
   cases hy:mkS m (val ys) f with
   | none =>
     exact(Ma n m e f (hid fun u hu=>yh (h1.below hu) (h2.below hu) (hT.belows hu) n m e f he0 he1 hf0 hf1 n1 X e1 hx hy)).mono fun r w' h=>zero h
   | some y =>
     obtain⟨m1,Y,f1⟩:=y;have lg:=hid fun u (hu:Below w.heap.size w u)=>F7 (h1.below hu) (h2.below hu) (hT.belows hu) n m e f he0 he1 hf0 hf1 n1 m1 X Y e1 f1 hx hy;have FX:=di hx;have FY:=di hy;have lX:=iT FX;have lY:=iT FY;have:=FX.up;have:=FX.down;have:=FY.up;have:=FY.down;show Calls _ _ _ _ fun r w'=>dh w.heap.size w' r (wu (n1,X,e1) (m1,Y,f1))/\_;unfold wu;simp only
     by_cases hX0:X=0
     · rw[if_pos hX0];exact R4 n m e f n1 m1 X Y e1 f1 lX lY ((dA X).2 hX0) lg
     · rw[if_neg hX0]
       by_cases hY0:Y=0
       · rw[if_pos hY0];exact Oy n m e f n1 m1 X Y e1 f1 lX lY (fU hX0) ((dA Y).2 hY0) lg
       · rw[if_neg hY0];have oX:X%2=1:=by rcases FX.odd with h | h <;> omega
         have oY:Y%2=1:=by rcases FY.odd with h | h <;> omega
         by_cases hlt:e1<f1
         · rw[if_pos hlt];have hsh:=yj Y (f1-e1) af hY0 FY.size;unfold nP
           by_cases hL:262144<bl Y+(f1-e1).toNat
           · rw[if_pos hL] at hsh |-;exact(OB n m e f n1 m1 X Y e1 f1 lX lY (fU hX0) (fU hY0) hlt af af af af lg (hid fun u p q hu hA=>kL (f1-e1) 0 2 hA af af hsh)).mono fun r w' h=>zero h
           · rw[if_neg hL] at hsh |-;have hbl:=R7 Y (f1-e1).toNat hY0;obtain⟨L,hLe⟩:∃ L,Y*2^(f1-e1).toNat=L:=⟨_,rfl⟩;rw[hLe] at hsh hbl |-;have lL:=len8 (X:=L) af
             by_cases hs:m1=n1
             · rw[if_pos hs]
               exact R6 n m e f n1 m1 X Y e1 f1 lX lY (fU hX0) (fU hY0) hlt af af af af lg (by simp[hs]) L lL _ _ _ _ (bC m1 (L+X) e1) (hid fun u p q hu hA=>kL (f1-e1) L 0 hA af af hsh)
                (hid fun u p q s t hu hA hB=>R8 hT hu hA hB m1 e1 af af oX af FX.size)
             · rw[if_neg hs];have hlen:(ws (dX (if X<=L then mkS m1 (L-X) e1 else mkS (!m1) (X-L) e1))).length<=8192:=by split <;> exact bC _ _ _
               exact OC n m e f n1 m1 X Y e1 f1 lX lY (fU hX0) (fU hY0) hlt af af af af lg (by simp[hs]) L lL _ _ _ _ hlen (hid fun u p q hu hA=>kL (f1-e1) L 0 hA af af hsh)
                (hid fun u p q s t hu hA hB=>Mc hT hu hA hB m1 e1 af af af FX.size)
         · rw[if_neg hlt];have hsh:=yj X (e1-f1) af hX0 FX.size;have ZM:decide (e1<f1)=false:=decide_eq_false hlt;unfold nP
           by_cases hL:262144<bl X+(e1-f1).toNat
           · rw[if_pos hL] at hsh |-;exact(Oz n m e f n1 m1 X Y e1 f1 lX lY (fU hX0) (fU hY0) ZM af af af af lg (hid fun u p q hu hA=>kL (e1-f1) 0 2 hA af af hsh)).mono fun r w' h=>zero h
           · rw[if_neg hL] at hsh |-;have hbl:=R7 X (e1-f1).toNat hX0;obtain⟨L,hLe⟩:∃ L,X*2^(e1-f1).toNat=L:=⟨_,rfl⟩;rw[hLe] at hsh hbl |-;have lL:=len8 (X:=L) af
             by_cases hs:n1=m1
             · rw[if_pos hs]
               exact R5 n m e f n1 m1 X Y e1 f1 lX lY (fU hX0) (fU hY0) ZM af af af af lg (by simp[hs]) L lL _ _ _ _ (bC n1 (L+Y) f1) (hid fun u p q hu hA=>kL (e1-f1) L 0 hA af af hsh)
                (hid fun u p q s t hu hA hB=>R8 hT hu hA hB n1 f1 af af oY af FY.size)
             · rw[if_neg hs];have hlen:(ws (dX (if Y<=L then mkS n1 (L-Y) f1 else mkS (!n1) (Y-L) f1))).length<=8192:=by split <;> exact bC _ _ _
               exact OA n m e f n1 m1 X Y e1 f1 lX lY (fU hX0) (fU hY0) ZM af af af af lg (by simp[hs]) L lL _ _ _ _ hlen (hid fun u p q hu hA=>kL (e1-f1) L 0 hA af af hsh)
                (hid fun u p q s t hu hA hB=>Mc hT hu hA hB n1 f1 af af af FY.size)
end
namespace B
open Ieee
theorem Dh(f:Format)(j c:Nat)(h:j=0\/f.binade<=c)(hc:c<=2*f.binade):val f (j*f.binade+c)=c*2^j:=by
 have hb:=jJ f;unfold val;generalize f.binade=B at *
 by_cases h1:c<B
 · have hj:j=0:=af
   subst hj;rw[gT,dm,if_pos h1,jr,gI]
 · have h2:¬ j*B+c<B:=by
    have:=jd (j*B);omega
   rw[if_neg h2]
   by_cases h3:c=2*B
   · subst h3;have e:j*B+2*B=(j+2)*B:=by rw[dV]
     rw[e,Nat.mul_mod_left,xy _ hb,gU,show j+2-1=j+1 from rfl,fw,bR 2 B,dH,bR 2]
   · have e:j*B+c=B*(j+1)+(c-B):=by
      rw[Nat.mul_succ,bR j];omega
     have e1:(j*B+c)%B=c-B:=by rw[e,Nat.mul_add_mod,ja af]
     have e2:(j*B+c)/B=j+1:=by rw[e,Nat.mul_add_div hb,iI af]
     rw[e1,e2,nU,show B+(c-B)=c from by omega]
theorem Di(f:Format)(neg:Bool)(mag k a:Nat)(hm:mag≠0) :
 ∃ R,f.nearest neg mag (f.leastPlace+(k:Int)-(a:Int))=f.word neg (min R f.infRung) /\
   (val f R*2^a<=mag*2^k->mag*2^k<val f (R+1)*2^a) /\
   (mag*2^k<val f R*2^a->0<R/\val f (R-1)*2^a<mag*2^k):=by
 unfold Format.nearest;rw[if_neg hm];simp only[Fz,Cc];have hl:=(Nat.log2_eq_iff hm (k:=mag.log2)).1 rfl;generalize mag.log2=L at *;have hB:f.binade=2^f.fractionBits:=rfl;have hb:=jJ f
 obtain⟨j,hj⟩:∃ j:Nat,max (f.leastPlace+(k:Int)-(a:Int)+(L:Int)-(f.fractionBits:Int)) f.leastPlace=f.leastPlace+j :=
  ⟨(max (f.leastPlace+(k:Int)-(a:Int)+(L:Int)-(f.fractionBits:Int)) f.leastPlace-f.leastPlace).toNat,af⟩
 have hj1:k+L<=a+f.fractionBits+j:=af
 have hj2:j=0\/k+L=a+f.fractionBits+j:=af
 rw[hj];have e3:(f.leastPlace+(j:Int)-f.leastPlace).toNat=j:=af
 have e1:(f.leastPlace+(k:Int)-(a:Int)-(f.leastPlace+(j:Int))).toNat=k-(a+j):=af
 have e2:(f.leastPlace+(j:Int)-(f.leastPlace+(k:Int)-(a:Int))).toNat=a+j-k:=af
 rw[e1,e2,e3];have hg:0<2^(a+j-k):=bK _
 -- V*g=m'*2^(a+j)
 have hV:mag*2^k*2^(a+j-k)=mag*2^(k-(a+j))*2^(a+j):=by
  rw[dH,dH,<-aW,<-aW];congr 2;omega
 have up:mag*2^(k-(a+j))<2*f.binade*2^(a+j-k):=by
  have:2*f.binade=2^(f.fractionBits+1):=by rw[hB,fw,bR]
  rw[this,<-aW];refine gG (jV hl.2 (bK _)) ?_;rw[<-aW];exact gF af af
 have dn:j=0\/f.binade*2^(a+j-k)<=mag*2^(k-(a+j)):=by
  rcases hj2 with h|h
  · exact Or.inl h
  · right
    refine aV ?_ (dF _ hl.1);rw[hB,<-aW,<-aW];exact gF af af
 generalize hm':mag*2^(k-(a+j))=m' at *;generalize 2^(a+j-k)=g at *;generalize mag*2^k=V at *;have hdm:=uS m' g;have hmod:=iB m' hg;have hlow:m'/g<2*f.binade:=(uR hg).2 up
 have hlow2:j=0\/f.binade<=m'/g:=by
  rcases dn with h|h
  · exact Or.inl h
  · exact Or.inr ((xH hg).2 h)
 have hp2:0<2^(a+j):=bK _
 -- the bounds
 have b1:m'/g*2^(a+j)<=V:=by
  refine Nat.le_of_mul_le_mul_right ?_ hg;rw[hV,Nat.mul_right_comm];exact dF _ (by rw[bR];omega)
 have b2:V<(m'/g+1)*2^(a+j):=by
  refine xI (a:=g) ?_;rw[hV,Nat.mul_right_comm];refine jV ?_ hp2;rw[dV,jF,bR];omega
 have b3:m'%g≠0->m'/g*2^(a+j)<V:=by
  intro hr;refine xI (a:=g) ?_;rw[hV,Nat.mul_right_comm];refine jV ?_ hp2;rw[bR];omega
 have v0:val f (j*f.binade+m'/g)*2^a=m'/g*2^(a+j):=by
  rw[Dh f j _ hlow2 af,dH,<-aW,lK j a]
 have v1:val f (j*f.binade+(m'/g+1))*2^a=(m'/g+1)*2^(a+j):=by
  rw[Dh f j _ af af,dH,<-aW,lK j a]
 refine⟨j*f.binade+Yv m' g,rfl,?_,?_⟩
 · unfold Yv
   cases hc:(decide (g<2*(m'%g)) || (g==2*(m'%g)&&m'/g%2==1))
   · intro _;simp only[iE,gU];rw[nK,v1];exact b2
   · intro h;simp only[iD] at h;rw[v1] at h;omega
 · unfold Yv
   cases hc:(decide (g<2*(m'%g)) || (g==2*(m'%g)&&m'/g%2==1))
   · intro h;simp only[iE,gU] at h;rw[v0] at h;omega
   · intro _;simp only[iD];refine⟨Nat.succ_pos _,?_⟩;rw[show j*f.binade+(m'/g+1)-1=j*f.binade+m'/g from rfl,v0];refine b3 (fun hr=>?_);rw[hr] at hc;simp at hc;omega
theorem yl(f:Format)(neg:Bool)(mag k a r:Nat)(hr:r<f.infRung)(h:mag*2^k=val f r*2^a)(hm:mag≠0) :
 f.nearest neg mag (f.leastPlace+(k:Int)-(a:Int))=f.word neg r:=by
 obtain⟨R,e,h1,h2⟩:=Di f neg mag k a hm;have hp:0<2^a:=bK _
 have:R=r:=by
  by_cases c:val f R*2^a<=mag*2^k
  · have c2:=h1 c;rw[h] at c c2;have d1:=Nat.le_of_mul_le_mul_right c hp;have d2:=(gW f).1 (xI c2);have d3:¬ r<R:=fun hh=>by have:=df f hh;omega
    omega
  · have c2:=h2 af;rw[h] at c c2;have d1:=(gW f).1 (xI (a:=2^a) (Nat.lt_of_not_le c));have d2:=(gW f).1 (xI c2.2);omega
 rw[e,this,iy af]
end B
namespace B
open Go.RowKit
attribute [local go_sem] bu aM
theorem A9 (f:Ieee.Format) (hs:f.infRung<f.signWeight) (s t:Bool) (r u v a:Nat) (ha:f.leastPlace=-(a:Int)) (hr:r<f.infRung) (hu:u<f.infRung) (hv:v<f.infRung)
 (h:val f r*val f u=val f v*2^a) (h0:val f r≠0) (h1:val f u≠0):f.mul (f.word s r) (f.word t u)=some (f.word (s ^^ t) v):=by
 obtain⟨m,k,e1,v1⟩:=mD f s r hr hs;obtain⟨n,j,e2,v2⟩:=mD f t u hu hs;unfold Ieee.Format.mul;rw[e1,e2];show some (f.nearest (s ^^ t) (m*n) (f.leastPlace+k+(f.leastPlace+j)))=_;have e:f.leastPlace+(k:Int)+(f.leastPlace+(j:Int))=f.leastPlace+((k+j:Nat):Int)-(a:Int):=af
 have Jd:m*n≠0:=by
  intro h2;rcases Nat.mul_eq_zero.1 h2 with h3|h3
  · subst h3;simp at v1;exact h0 v1.symm
  · subst h3;simp at v2;exact h1 v2.symm
 rw[e,yl f _ (m*n) (k+j) a v hv ?_ Jd];rw[<-h,<-v1,<-v2,aW]
 grind
theorem R9(a:Nat)(h:a<2^63):a &&& 2^63=0:=by
 apply Nat.eq_of_testBit_eq;intro i;rw[Nat.testBit_and,Nat.testBit_two_pow,Nat.zero_testBit]
 by_cases hi:63=i
 · subst hi;rw[Nat.testBit_lt_two_pow h];rfl
 · simp[hi]
theorem JD(e g:Nat)(he:e<2048)(hg:g<4503599627370496):bits .andNot .u64 ((bw false e g:Nat):Int) 9218868437227405312=(g:Int):=by
 have h:=u64_andNot_nat (bw false e g) 9218868437227405312 (xW false e g he hg) af;rw[show(((9218868437227405312:Nat)):Int)=9218868437227405312 from rfl] at h;rw[h];have hb:bw false e g=e*4503599627370496+g:=by unfold bw;simp
 have hlt:bw false e g<2^63:=by rw[hb];omega
 have e1:18446744073709551615-9218868437227405312=2^63 ||| (2^52-1):=aA
 rw[e1,Nat.and_or_distrib_left,IY,R9 _ hlt,Nat.zero_or,hb];omega
theorem ym(E g:Nat)(hE:E<2048)(hg:g<4503599627370496):bits .or .u64 (g:Int) ((E:Int)*4503599627370496)=((bw false E g:Nat):Int):=by
 have hc:bits .or .u64 (g:Int) ((E:Int)*4503599627370496)=bits .or .u64 ((E:Int)*4503599627370496) (g:Int):=by simp only[bits,BitVec.or_comm]
 rw[hc,bits_join .u64 64 aA wraps_u64 52 ((E:Int)*4503599627370496) (g:Int) af af af af af af];unfold bw;simp
theorem ZN(e g:Nat)(he:e<2047)(hg:g<4503599627370496)(w:World) :
 Calls Tryz.prog 276 #[.float .f64 (bw false e g),.int .i64 0] w fun r w'=>r=.returned (.bool false)/\w'=w:=by
 have H:=hid (Dc false e g af hg w);have h1:=Zw false e g af hg;have h2:(!false&&(e==2047&&g==0))=false:=by simp;omega
 rw[h2] at h1;generalize bw false e g=b at *;go_enter Tryz.func276,Tryz.ntmps276;go_wp2_with fail;refine H.o.mono ?_;rintro r w1 ⟨rfl,rfl⟩;go_wp2;go_ret;exact⟨rfl,rfl⟩
theorem zP(e g:Nat)(h0:0<e)(he:e<2047)(hg:g<4503599627370496)(w:World) :
 Calls Tryz.prog 277 #[.float .f64 (bw false e g)] w fun r w'=>r=.returned (.tuple #[.float .f64 (bw false e g),.int .i64 0])/\w'=w:=by
 have H:=hid (Dc false e g af hg w);have h1:=Jy false false e g 1 0 af hg af af
 have h3:(!odd e g&&(!odd 1 0&&decide (pl false e g<pl false 1 0)))=false:=by
  have:¬ pl false e g<pl false 1 0:=by unfold pl sg;simp;omega
  simp[this]
 rw[h3,show bw false 1 0=4503599627370496 from rfl] at h1;generalize bw false e g=b at *;clear h3;go_enter Tryz.func277,Tryz.ntmps277;go_wp2_with fail;refine H.o.mono ?_;rintro r w1 ⟨rfl,rfl⟩;go_wp2
 go_ret2
 exact⟨rfl,rfl⟩
theorem VZ(w:World):Calls Tryz.prog 127 #[.int .i64 1] w fun r w'=>r=.returned (.float .f64 9218868437227405312)/\w'=w:=by
 go_enter Tryz.func127,Tryz.ntmps127;go_wp2;exact Ks
theorem Dj(e g:Nat)(he:e<2048)(hg:g<4503599627370496)(w:World) :
 Calls Tryz.prog 110 #[.float .f64 (bw false e g),.float .f64 13830554455654793216] w fun r w'=>r=.returned (.float .f64 (bw true e g))/\w'=w:=by
 have h1:=RN false e g he hg;have h2:bits .and .u64 13830554455654793216 9223372036854775808=9223372036854775808:=aA
 have hb:bw false e g=e*4503599627370496+g:=by unfold bw;simp
 have h3:=VG ((bw false e g:Nat):Int) af (by rw[hb];omega);have h4:((bw false e g:Nat):Int)+9223372036854775808=((bw true e g:Nat):Int):=by unfold bw;simp;omega
 rw[h4] at h3;generalize bw false e g=b at *;generalize bw true e g=d at *;clear hb h4;go_enter Tryz.func110,Tryz.ntmps110;go_wp2;go_ret;exact⟨aL,rfl⟩
end B
namespace B
open Go.RowKit
attribute [local go_sem] bu aM
theorem yn (b e g d:Nat) (x y z:Int) (w:World) (hb:b<9223372036854775808) (hx0:-3000<=x) (hx1:x<=3000) (he0:0<e) (he1:e<2047) (hg:g<4503599627370496)
 (z0:(FloatKind.f64.format.order b 0==some .eq)=false)
 (HI:Hid (∀ u,Calls Tryz.prog 276 #[.float .f64 b,.int .i64 0] u fun r w'=>r=.returned (.bool false)/\w'=u))
 (HN:Hid (∀ u,Calls Tryz.prog 169 #[.float .f64 b] u fun r w'=>r=.returned (.bool false)/\w'=u))
 (HZ:Hid (∀ u,Calls Tryz.prog 277 #[.float .f64 b] u fun r w'=>r=.returned (.tuple #[.float .f64 b,.int .i64 0])/\w'=u))
 (e1:bits .and .i64 ((b:Int)/4503599627370496) 2047=(e:Int)) (mc:bits .andNot .u64 (b:Int) 9218868437227405312=(g:Int))
 (ey:x+((e:Int)-1023)=y) (hy0:-1022<=y) (hy1:y<=1023) (ez:(y+1023)*4503599627370496=z) (hz0:0<=z) (hz1:z<9223372036854775808) (je:bits .or .u64 (g:Int) z=(d:Int))
 (mu:∀ u:World,(binOp .mul 31 (.float .f64 4607182418800017408) (.float .f64 d)).run Tryz.prog u=.ok (.float .f64 d) u) :
 Calls Tryz.prog 241 #[.float .f64 b,.int .i64 x] w fun r w'=>r=.returned (.float .f64 d)/\w'=w:=by
 go_enter Tryz.func241,Tryz.ntmps241;go_wp2_with fail;refine(dI (HI.o _)) ?_;rintro r w1 ⟨rfl,hw⟩;rw[hw];clear hw w1;go_wp2_with fail;refine(dI (HN.o _)) ?_;rintro r w1 ⟨rfl,hw⟩;rw[hw];clear hw w1;go_wp2_with fail;refine(dI (HZ.o _)) ?_;rintro r w1 ⟨rfl,hw⟩;rw[hw];clear hw w1;go_wp2;go_ret;exact⟨rfl,rfl⟩
theorem OD (b e g d c:Nat) (x y y2 z:Int) (w:World) (hb:b<9223372036854775808) (hx0:-3000<=x) (hx1:x<=3000) (he0:0<e) (he1:e<2047) (hg:g<4503599627370496)
 (z0:(FloatKind.f64.format.order b 0==some .eq)=false)
 (HI:Hid (∀ u,Calls Tryz.prog 276 #[.float .f64 b,.int .i64 0] u fun r w'=>r=.returned (.bool false)/\w'=u))
 (HN:Hid (∀ u,Calls Tryz.prog 169 #[.float .f64 b] u fun r w'=>r=.returned (.bool false)/\w'=u))
 (HZ:Hid (∀ u,Calls Tryz.prog 277 #[.float .f64 b] u fun r w'=>r=.returned (.tuple #[.float .f64 b,.int .i64 0])/\w'=u))
 (e1:bits .and .i64 ((b:Int)/4503599627370496) 2047=(e:Int)) (mc:bits .andNot .u64 (b:Int) 9218868437227405312=(g:Int))
 (ey:x+((e:Int)-1023)=y) (hy0:-1075<=y) (hy1:y < -1022) (ey2:y+53=y2) (hy2:-1022<=y2) (hy3:y2<=1023) (ez:(y2+1023)*4503599627370496=z) (hz0:0<=z) (hz1:z<9223372036854775808) (je:bits .or .u64 (g:Int) z=(d:Int))
 (mu:∀ u:World,(binOp .mul 31 (.float .f64 4368491638549381120) (.float .f64 d)).run Tryz.prog u=.ok (.float .f64 c) u) :
 Calls Tryz.prog 241 #[.float .f64 b,.int .i64 x] w fun r w'=>r=.returned (.float .f64 c)/\w'=w:=by
 go_enter Tryz.func241,Tryz.ntmps241;go_wp2_with fail;refine(dI (HI.o _)) ?_;rintro r w1 ⟨rfl,hw⟩;rw[hw];clear hw w1;go_wp2_with fail;refine(dI (HN.o _)) ?_;rintro r w1 ⟨rfl,hw⟩;rw[hw];clear hw w1;go_wp2_with fail;refine(dI (HZ.o _)) ?_;rintro r w1 ⟨rfl,hw⟩;rw[hw];clear hw w1;go_wp2;go_ret;exact⟨rfl,rfl⟩
theorem OE (b e g:Nat) (x y:Int) (w:World) (hb:b<9223372036854775808) (hx0:-3000<=x) (hx1:x<=3000) (he0:0<e) (he1:e<2047) (hg:g<4503599627370496)
 (z0:(FloatKind.f64.format.order b 0==some .eq)=false)
 (HI:Hid (∀ u,Calls Tryz.prog 276 #[.float .f64 b,.int .i64 0] u fun r w'=>r=.returned (.bool false)/\w'=u))
 (HN:Hid (∀ u,Calls Tryz.prog 169 #[.float .f64 b] u fun r w'=>r=.returned (.bool false)/\w'=u))
 (HZ:Hid (∀ u,Calls Tryz.prog 277 #[.float .f64 b] u fun r w'=>r=.returned (.tuple #[.float .f64 b,.int .i64 0])/\w'=u))
 (e1:bits .and .i64 ((b:Int)/4503599627370496) 2047=(e:Int)) (mc:bits .andNot .u64 (b:Int) 9218868437227405312=(g:Int))
 (ey:x+((e:Int)-1023)=y) (hy0:1023<y) (z1:(FloatKind.f64.format.order b 0==some .lt)=false) :
 Calls Tryz.prog 241 #[.float .f64 b,.int .i64 x] w fun r w'=>r=.returned (.float .f64 9218868437227405312)/\w'=w:=by
 go_enter Tryz.func241,Tryz.ntmps241;go_wp2_with fail;refine(dI (HI.o _)) ?_;rintro r w1 ⟨rfl,hw⟩;rw[hw];clear hw w1;go_wp2_with fail;refine(dI (HN.o _)) ?_;rintro r w1 ⟨rfl,hw⟩;rw[hw];clear hw w1;go_wp2_with fail;refine(dI (HZ.o _)) ?_;rintro r w1 ⟨rfl,hw⟩;rw[hw];clear hw w1;go_wp2_with fail;refine(dI (VZ _)) ?_;rintro r w1 ⟨rfl,hw⟩;rw[hw];clear hw w1;go_wp2;go_ret;exact⟨rfl,rfl⟩
end B
namespace B
open Go.RowKit
theorem Sa(X:Nat)(h:X<=9007199254740991):bl X<=53:=by
 by_cases h0:X=0
 · subst h0;rw[eY];omega
 · have:=(ku (a:=2) af).1 (iC (iM X h0) (show X<2^53 by omega));omega
theorem JE(z:Nat)(hz:z<18446744073709551616):bits .and .u64 (z:Int) 1=((z%2:Nat):Int):=by
 have h:=bits_mask .u64 64 aA wraps_u64 1 aA (z:Int) af af;rw[show((2:Int)^1-1)=1 from rfl] at h;rw[h];omega
def LP:Nat:=1074
theorem dLP:Ieee.double.leastPlace=-(LP:Int):=aA
theorem uk(e g:Nat)(he:0<e)(hg:g<4503599627370496):val Ieee.double (e*4503599627370496+g)=(4503599627370496+g)*2^(e-1):=by
 obtain⟨j,rfl⟩:∃ j,e=j+1:=⟨e-1,af⟩;have h:=Dh Ieee.double j (4503599627370496+g) (.inr (by rw[Jq];omega)) (by rw[Jq];omega);rw[Jq] at h;rw[show(j+1)*4503599627370496+g=j*4503599627370496+(4503599627370496+g) by omega,h];rfl
theorem Sb(r:Nat)(h:r<4503599627370496):val Ieee.double r=r:=by unfold val;rw[Jq,if_pos h]
theorem YC:(4503599627370496:Nat)=2^52:=rfl
structure Whole (c e g:Nat):Prop where
 e0:0<e
 e1:e<1077
 g0:g<4503599627370496
 v:(4503599627370496+g)*2^(e-1)=c*2^LP
 ex:e=bl c+1022
 gx:∀ k,bl c+k=53->4503599627370496+g=c*2^k
 top:bl c=54->g=0
theorem Sc(c:Nat)(h0:0<c)(h1:c<=9007199254740992):∃ e g,Whole c e g:=by
 by_cases ht:c=9007199254740992
 · subst ht;have hb:bl 9007199254740992=54:=Lc _ 53 aA aA;obtain⟨e,he⟩:∃ e,e=1076:=⟨_,rfl⟩;refine⟨e,0,af,af,af,?_,by rw[hb];omega,fun k hk=>by omega,fun _=>rfl⟩
   have key:∀ q,q=LP+1->(4503599627370496+0)*2^q=9007199254740992*2^LP:=by
    intro q hq;rw[hq,fw];generalize 2^LP=Q;omega
   exact key (e-1) (by rw[he];rfl)
 · have hb1:=fH c af
   have hb2:bl c<=53:=by
    have:=(ku (a:=2) af).1 (iC (iM c af) (show c<2^53 by omega));omega
   obtain⟨k,hk⟩:∃ k,bl c+k=53:=⟨53-bl c,af⟩
   have hlo:2^52<=c*2^k:=by
    have h2:=iM c af;have h3:2^(bl c-1)*2^k<=c*2^k:=dF _ h2;rw[<-aW,show bl c-1+k=52 by omega] at h3;exact h3
   have hhi:c*2^k<2^53:=by
    have h3:=jV (iF c) (bK k);rw[<-aW,hk] at h3;exact h3
   have e52:(2:Nat)^52=4503599627370496:=rfl;have e53:(2:Nat)^53=9007199254740992:=rfl;rw[e52] at hlo;rw[e53] at hhi;refine⟨bl c+1022,c*2^k-4503599627370496,af,af,af,?_,rfl,fun k' hk'=>?_,fun h=>by omega⟩
   · rw[show 4503599627370496+(c*2^k-4503599627370496)=c*2^k by omega,dH,<-aW];congr 2;show k+(bl c+1022-1)=1074;omega
   · obtain rfl:k'=k:=af
     omega
theorem F9(c e g:Nat)(h:Whole c e g):floatOfInt .f64 (c:Int)=bw false e g:=by
 have hr:e*4503599627370496+g<Ieee.double.infRung:=by rw[zN];have:=h.e1;have:=h.g0;omega
 have hn:=zL Ieee.double false c LP (e*4503599627370496+g) hr (by rw[uk e g h.e0 h.g0,h.v]);rw[dLP] at hn;rw[CV,<-hn];show Ieee.double.nearest (decide ((c:Int)<0)) (c:Int).natAbs 0=_;rw[show decide ((c:Int)<0)=false from decide_eq_false af,xc];congr 1
theorem V4(e:Nat)(he:0<e)(q:Nat)(hq:e-1=q):val Ieee.double (e*4503599627370496+0)=2^(52+q):=by
 rw[uk e 0 he af,hq,gU,aW]
theorem Ga(e:Nat)(he:0<e)(q r:Nat)(hq:e-1=q)(hr:52+q=r):val Ieee.double (e*4503599627370496+0)=2^r:=by rw[V4 e he q hq,hr]
theorem Md:val Ieee.double 4607182418800017408=2^LP:=Ga 1023 af (LP-52) LP rfl rfl
theorem OG:val Ieee.double 4368491638549381120*2^53=2^LP:=by
 have h:val Ieee.double 4368491638549381120=2^(LP-53):=Ga 970 af (LP-105) (LP-53) rfl rfl;rw[h,<-aW];congr 1
theorem mul_one(d:Nat)(hd:d<9218868437227405312)(h0:0<d)(t:TypeId)(u:World):(binOp .mul t (.float .f64 4607182418800017408) (.float .f64 d)).run Tryz.prog u=.ok (.float .f64 d) u:=by
 refine run_float_arith u .mul t .f64 _ _ _ ?_;show Ieee.double.mul 4607182418800017408 d=some d;have hw:∀ r:Nat,Ieee.double.word false r=r:=fun r=>by simp[Ieee.Format.word]
 have hp:0<val Ieee.double d:=by have:=df Ieee.double (r:=0) (s:=d) h0;omega
 have:=A9 Ieee.double dHs false false 4607182418800017408 d d LP dLP (by rw[zN];omega) (by rw[zN];omega) (by rw[zN];omega) (by rw[Md,bR]) (by rw[Md];have:=bK LP;omega) af;rw[hw,hw] at this;exact this
theorem OH(d c:Nat)(hd:d<9218868437227405312)(hc:c<4503599627370496)(h0:0<c)(hv:val Ieee.double d=c*2^53)(t:TypeId)(u:World):(binOp .mul t (.float .f64 4368491638549381120) (.float .f64 d)).run Tryz.prog u=.ok (.float .f64 c) u:=by
 refine run_float_arith u .mul t .f64 _ _ _ ?_;show Ieee.double.mul 4368491638549381120 d=some c;have hw:∀ r:Nat,Ieee.double.word false r=r:=fun r=>by simp[Ieee.Format.word]
 have hs:=OG;have hp:val Ieee.double 4368491638549381120≠0:=by intro h;rw[h] at hs;have:=bK LP;omega
 have:=A9 Ieee.double dHs false false 4368491638549381120 d c LP dLP (by rw[zN];omega) (by rw[zN];omega) (by rw[zN];omega) (by rw[hv,Sb c hc,<-hs];grind) hp (by rw[hv];have:=bK 53;have:=nW h0 this;omega);rw[hw,hw,Bool.xor_false,hw] at this;exact this
theorem ZO(e g:Nat)(he:e<2047)(hg:g<4503599627370496)(u:World):Calls Tryz.prog 169 #[.float .f64 (bw false e g)] u fun r w'=>r=.returned (.bool false)/\w'=u:=by
 have:=bJ false e g af hg u;rw[C8 e g he] at this;exact this
theorem OI(c e g:Nat)(x:Int)(w:World)(hw:Whole c e g)(h0:0<c)(h1:c<=9007199254740992)(hx0:-1074<=x)(hx1:x<=971)(hn:x=-1074\/4503599627370496<=c) :
 Calls Tryz.prog 241 #[.float .f64 (bw false e g),.int .i64 x] w fun r w'=>r=.returned (.float .f64 ((x+1074).toNat*4503599627370496+c))/\w'=w:=by
 have he0:=hw.e0;have he1:=hw.e1;have hg:=hw.g0;have hb:bw false e g=e*4503599627370496+g:=by unfold bw;simp
 have z0:(FloatKind.f64.format.order (bw false e g) 0==some .eq)=false:=by rw[LW false e g af hg];simp;omega
 have HI:Hid (∀ u,Calls Tryz.prog 276 #[.float .f64 (bw false e g),.int .i64 0] u fun r w'=>r=.returned (.bool false)/\w'=u):=fun u=>ZN e g af hg u;have HN:Hid (∀ u,Calls Tryz.prog 169 #[.float .f64 (bw false e g)] u fun r w'=>r=.returned (.bool false)/\w'=u):=fun u=>ZO e g af hg u;have HZ:Hid (∀ u,Calls Tryz.prog 277 #[.float .f64 (bw false e g)] u fun r w'=>r=.returned (.tuple #[.float .f64 (bw false e g),.int .i64 0])/\w'=u):=fun u=>zP e g he0 af hg u;have e1:=Rp false e g af hg;have mc:=JD e g af hg;have hbl:bl c<=54:=by have:=hw.ex;omega
 have hblp:=fH c af;have hex:=hw.ex
 by_cases hc:4503599627370496<=c
 · have hb53:53<=bl c:=by
    have:=(vH c 52).2 (by rw[<-YC];exact hc);omega
   by_cases hb54:bl c=54
   · have hg0:=hw.top hb54
     have hc2:c=9007199254740992:=by
      have:=(vH c 53).1 af;have e53:(2:Nat)^53=9007199254740992:=rfl;omega
     subst hg0
     by_cases RA:x=971
     · subst RA;have:=OE (bw false e 0) e 0 971 1024 w (by rw[hb];omega) af af he0 af af z0 HI HN HZ e1 mc af af (by rw[LX false e 0 af af (RL e) (by simp;omega)]);rw[hc2];exact this
     · obtain⟨E,hE⟩:∃ E:Nat,(E:Int)=x+((e:Int)-1023)+1023:=⟨(x+((e:Int)-1023)+1023).toNat,af⟩;have hd:bw false E 0=(x+1074).toNat*4503599627370496+c:=by unfold bw;simp;omega
       have:=yn (bw false e 0) e 0 (bw false E 0) x (x+((e:Int)-1023)) ((E:Int)*4503599627370496) w (by rw[hb];omega) af af he0 af af z0 HI HN HZ e1 mc rfl af af af af af (ym E 0 af af) (mul_one _ (by rw[hd];omega) (by rw[hd];omega) _);rw[hd] at this;exact this
   · have hb3:bl c=53:=af
     have hgx:=hw.gx 0 af;rw[jr,gI] at hgx;obtain⟨E,hE⟩:∃ E:Nat,(E:Int)=x+((e:Int)-1023)+1023:=⟨(x+((e:Int)-1023)+1023).toNat,af⟩;have hd:bw false E g=(x+1074).toNat*4503599627370496+c:=by unfold bw;simp;omega
     have:=yn (bw false e g) e g (bw false E g) x (x+((e:Int)-1023)) ((E:Int)*4503599627370496) w (by rw[hb];omega) af af he0 af hg z0 HI HN HZ e1 mc rfl af af af af af (ym E g af hg) (mul_one _ (by rw[hd];omega) (by rw[hd];omega) _);rw[hd] at this;exact this
 · obtain rfl:x=-1074:=af
   have hb52:bl c<=52:=by
    by_cases h:52<bl c
    · have:=(vH c 52).1 h;rw[<-YC] at this;omega
    · omega
   obtain⟨k,hk⟩:∃ k,bl c+k=53:=⟨53-bl c,af⟩;have hgx:=hw.gx k hk;obtain⟨E,hE⟩:∃ E:Nat,E=bl c+1:=⟨_,rfl⟩;have hd:bw false E g=E*4503599627370496+g:=by unfold bw;simp
   have hv:val Ieee.double (bw false E g)=c*2^53:=by
    rw[hd,uk E g af hg,hgx,dH,<-aW,show k+(E-1)=53 by omega]
   have:=OD (bw false e g) e g (bw false E g) c (-1074) (-1074+((e:Int)-1023)) (-1074+((e:Int)-1023)+53) ((E:Int)*4503599627370496) w (by rw[hb];omega) af af he0 af hg z0 HI HN HZ e1 mc rfl af af rfl af af af af af (ym E g af hg) (OH _ c (by rw[hd];omega) af h0 hv _);simpa using this
theorem OJ(c e g:Nat)(x:Int)(w:World)(hw:Whole c e g)(h0:0<c)(h1:c<=9007199254740992)(hx0:-1074<=x)(hx1:x<=971)(hn:x=-1074\/4503599627370496<=c) :
 Calls Tryz.prog 191 #[.float .f64 (bw false e g),.int .i64 x] w fun r w'=>r=.returned (.float .f64 ((x+1074).toNat*4503599627370496+c))/\w'=w:=by
 have H:=hid (OI c e g x w hw h0 h1 hx0 hx1 hn);generalize bw false e g=b at *;generalize (x+1074).toNat*4503599627370496+c=d at *;clear hn hw;go_enter Tryz.func191,Tryz.ntmps191;go_wp2_with fail;refine H.o.mono ?_;rintro r w1 ⟨rfl,rfl⟩;go_wp2;go_ret;exact⟨rfl,rfl⟩
theorem Dl(x:Int)(w:World):Calls Tryz.prog 241 #[.float .f64 0,.int .i64 x] w fun r w'=>r=.returned (.float .f64 0)/\w'=w:=by
 have z0:(FloatKind.f64.format.order 0 0==some .eq)=true:=LW false 0 0 af af;go_enter Tryz.func241,Tryz.ntmps241;go_wp2;exact Ks
theorem Dm(x:Int)(w:World):Calls Tryz.prog 191 #[.float .f64 0,.int .i64 x] w fun r w'=>r=.returned (.float .f64 0)/\w'=w:=by
 have H:=hid (Dl x w);go_enter Tryz.func191,Tryz.ntmps191;go_wp2_with fail;refine H.o.mono ?_;rintro r w1 ⟨rfl,rfl⟩;go_wp2;exact Ks
end B
end Go.Proofs.YtaejmlkaefnbhaaGreatDoor
