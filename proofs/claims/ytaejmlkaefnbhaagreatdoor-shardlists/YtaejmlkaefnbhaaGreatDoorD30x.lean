import Derived.Test.YtaejmlkaefnbhaaGreatDoorD16x
import Derived.Deep.Cut
import Derived.Deep.RegionHeld3
import Derived.Test.YtaejmlkaefnbhaaGreatDoorD21x
import Derived.Deep.RegionWith
import Derived.Deep.CutRange
import Derived.Test.YtaejmlkaefnbhaaGreatDoorW24x
import Derived.BigQuiet
import Derived.Laws.Bits64
import Derived.Laws.Bits64b
import Derived.Test.YtaejmlkaefnbhaaGreatDoorBW6x
import Derived.Test.YtaejmlkaefnbhaaGreatDoorBIeeex
set_option linter.unusedVariables false
set_option linter.unusedSimpArgs false
set_option maxHeartbeats 16000000
set_option maxRecDepth 20000
namespace Go.Proofs.YtaejmlkaefnbhaaGreatDoor
namespace J
end J
section
open Go.RowKit
theorem Dw(W:World)(g:Nat)(n:Bool)(v:Value)(e k:Int)(tmps:Array Value)(ht:tmps[4]?.getD undef=.pointer (some ⟨g,0,none⟩))(hk:tmps[5]?.getD undef=.int .i64 k)(D:Dk W g n v e) :
 (results Tryz.f194 tmps).run Tryz.prog W=.ok (.tuple #[.agg #[.bool n,v,.int .i64 e],.int .i64 k]) W:=by
 obtain⟨x0,x1,x2,dB,dC,dD⟩:=D.facts;simp[results,Tryz.results194,ht,hk,go_sem,x0,x1,x2]
theorem Mf{w:World}{a b:Option Addr}{l c k d:Nat}(n m:Bool)(e f:Int)(lg:Hid (∀ u,Below w.heap.size w u->Calls Tryz.prog 171 #[.agg #[.bool n,.slice a l c,.int .i64 e],.agg #[.bool m,.slice b k d,.int .i64 f]] u fun r w'=>r=.returned (.tuple #[.agg #[.bool false,.slice none 0 0,.int .i64 0],.agg #[.bool false,.slice none 0 0,.int .i64 0],.int .i64 2])/\Below u.heap.size u w')):Calls Tryz.prog 194 #[.agg #[.bool n,.slice a l c,.int .i64 e],.agg #[.bool m,.slice b k d,.int .i64 f]] w fun r w'=>r=.returned (.tuple #[.agg #[.bool false,.slice none 0 0,.int .i64 0],.int .i64 2])/\Below w.heap.size w w':=by
 obtain⟨W1,hW1⟩:=ah (((w.alloc (.cells #[.bool n,.slice a l c,.int .i64 e] 77)).alloc (.cells #[.bool m,.slice b k d,.int .i64 f] 77)).alloc (.cells #[.bool false,.slice none 0 0,.int .i64 0] 77));obtain⟨hB,hz1,DA,DB,DR⟩:=dS w n m (.slice a l c) (.slice b k d) e f W1 hW1;have H1:=hid (lg.o W1 hB);have SB:=(iq hB hz1 DA DB DR);clear hB hz1 DA DB DR lg;go_enter Tryz.func194,Tryz.ntmps194;go_wp2_with fail;rw[<-hW1];clear hW1;refine H1.o.mono ?_;rintro r u1 ⟨rfl,hb⟩;obtain⟨hB,hz1,DA,DB,DR⟩:=SB.o;have EA:=DA.below hb;have EB:=DB.below hb;have ER:=DR.below hb;obtain⟨x0,x1,x2,dB,dC,dD⟩:=EA.facts;obtain⟨y0,y1,y2,eF,eG,eO⟩:=EB.facts;obtain⟨r0,r1,r2,mJ,mK,mM⟩:=ER.facts;have F1:=au (show Fin w.heap.size (w.heap.size+3) w u1 (.slice none 0 0) 0 from⟨Nt.nil _ _,hB.trans (hb.mono af),by have:=hb.size;omega⟩);have SE:=au ER;clear hb H1 hB hz1 DA DB DR EA EB ER SB;go_wp2;refine aJ (Dw _ (w.heap.size+1+1) false (.slice none 0 0) 0 2 _ rfl rfl (((SE.o.other _ af _ _ _).other _ af _ _ _).set _ _ _)) rfl ⟨rfl,?_⟩;exact Qaa
theorem Su {w:World}{a b:Option Addr}{l c k d:Nat}(n m:Bool) (e f:Int) (n1 m1:Bool) (X Y:Nat) (e1 f1:Int) (lX:(ws X).length<=8192) (lY:(ws Y).length<=8192) (ZH:-1048576<=e1) (ZI:e1<=1048576) (ZJ:-1048576<=f1) (ZK:f1<=1048576)
 (lg:Hid (∀ u,Below w.heap.size w u->Calls Tryz.prog 171 #[.agg #[.bool n,.slice a l c,.int .i64 e],.agg #[.bool m,.slice b k d,.int .i64 f]] u fun r w'=>∃ v v',r=.returned (.tuple #[.agg #[.bool n1,v,.int .i64 e1],.agg #[.bool m1,v',.int .i64 f1],.int .i64 0])/\Nt u.heap.size w' v X/\Nt u.heap.size w' v' Y/\Below u.heap.size u w'))
 (uj:Hid (∀ (u:World) (p:Option Addr) (q:Nat) (p2:Option Addr) (q2:Nat),Below w.heap.size w u->Arg u p (ws X).length q (ws X)->Arg u p2 (ws Y).length q2 (ws Y)->Calls Tryz.prog 244 #[.slice p (ws X).length q,.slice p2 (ws Y).length q2] u fun r w'=>∃ v,r=.returned (.tuple #[v,.int .i64 2])/\Nt u.heap.size w' v 0/\Below u.heap.size u w')):Calls Tryz.prog 194 #[.agg #[.bool n,.slice a l c,.int .i64 e],.agg #[.bool m,.slice b k d,.int .i64 f]] w fun r w'=>r=.returned (.tuple #[.agg #[.bool false,.slice none 0 0,.int .i64 0],.int .i64 2])/\Below w.heap.size w w':=by
 have l0:(ws 0).length=0:=by rw[bB];rfl
 obtain⟨W1,hW1⟩:=ah (((w.alloc (.cells #[.bool n,.slice a l c,.int .i64 e] 77)).alloc (.cells #[.bool m,.slice b k d,.int .i64 f] 77)).alloc (.cells #[.bool false,.slice none 0 0,.int .i64 0] 77));obtain⟨hB,hz1,DA,DB,DR⟩:=dS w n m (.slice a l c) (.slice b k d) e f W1 hW1;have H1:=hid (lg.o W1 hB);have SB:=(iq hB hz1 DA DB DR);clear hB hz1 DA DB DR lg;go_enter Tryz.func194,Tryz.ntmps194;go_wp2_with fail;rw[<-hW1];clear hW1;refine H1.o.mono ?_;rintro r u1 ⟨v,v',rfl,hN,hM,hb⟩;obtain⟨a1,c1,rfl,_⟩:=hN.arg af;obtain⟨a2,c2,rfl,_⟩:=hM.arg af;obtain⟨hB,hz1,DA,DB,DR⟩:=SB.o;have EA:=DA.below hb;have EB:=DB.below hb;have ER:=DR.below hb;obtain⟨x0,x1,x2,dB,dC,dD⟩:=EA.facts;obtain⟨y0,y1,y2,eF,eG,eO⟩:=EB.facts;obtain⟨r0,r1,r2,mJ,mK,mM⟩:=ER.facts;have FX:=au (show Fin w.heap.size (w.heap.size+3) w u1 (.slice a1 (ws X).length c1) X from⟨by rw[<-hz1];exact hN,hB.trans (hb.mono af),by have:=hb.size;omega⟩);have FY:=au (show Fin w.heap.size (w.heap.size+3) w u1 (.slice a2 (ws Y).length c2) Y from⟨by rw[<-hz1];exact hM,hB.trans (hb.mono af),by have:=hb.size;omega⟩);have SE:=(bM EA EB ER);clear hN hM hb H1 hB hz1 DA DB DR EA EB ER SB;obtain⟨EA,EB,ER⟩:=SE.o;obtain⟨U1,dJ⟩:=ah (dx (dx u1 w.heap.size (.bool n1) (.slice a1 (ws X).length c1) (.int .i64 e1)) (w.heap.size+1) (.bool m1) (.slice a2 (ws Y).length c2) (.int .i64 f1));have IA:Dk U1 w.heap.size n1 (.slice a1 (ws X).length c1) e1:=by rw[dJ];exact((EA.set _ _ _).other _ af _ _ _)
 have IB:Dk U1 (w.heap.size+1) m1 (.slice a2 (ws Y).length c2) f1:=by rw[dJ];exact((EB.other _ af _ _ _).set _ _ _)
 have IR:Dk U1 (w.heap.size+1+1) false (.slice none 0 0) 0:=by rw[dJ];exact((ER.other _ af _ _ _).other _ af _ _ _)
 have GX:Fin w.heap.size (w.heap.size+3) w U1 (.slice a1 (ws X).length c1) X:=by rw[dJ];exact(Fin.dx (Fin.dx FX.o _ _ _ _ af af) _ _ _ _ af af)
 have GY:Fin w.heap.size (w.heap.size+3) w U1 (.slice a2 (ws Y).length c2) Y:=by rw[dJ];exact(Fin.dx (Fin.dx FY.o _ _ _ _ af af) _ _ _ _ af af)
 have H2:=hid (uj.o U1 a1 c1 a2 c2 GX.aD (GX.nt.cB af).2 (GY.nt.cB af).2);have S1:=(iq IA IB IR GX GY);have ZL:w.heap.size+3<=U1.heap.size:=by have:=IR.lt;omega
 clear EA EB ER IA IB IR GX GY SE uj;unfold dx at dJ;go_wp2_with fail;rw[<-dJ];clear dJ x0 x1 x2 dB dC dD y0 y1 y2 eF eG eO r0 r1 r2 mJ mK mM;refine H2.o.mono ?_;rintro r u2 ⟨v,rfl,hN,hb⟩;obtain⟨a3,c3,rfl,_⟩:=hN.arg af;obtain⟨IA,IB,IR,GX,GY⟩:=S1.o;obtain⟨x0,x1,x2,dB,dC,dD⟩:=(IA.below hb).facts;obtain⟨y0,y1,y2,eF,eG,eO⟩:=(IB.below hb).facts;obtain⟨r0,r1,r2,mJ,mK,mM⟩:=(IR.below hb).facts;have S2:=(aT (IR.below hb) ((GX.below hb)));clear hN hb H2 S1 IA IB IR GX GY;go_wp2;refine aJ (Dw _ (w.heap.size+1+1) false (.slice none 0 0) 0 2 _ rfl rfl (S2.o.1.set _ _ _)) rfl ⟨rfl,?_⟩;refine Fin.aD (m:=w.heap.size+3) (v:=.slice a1 (ws X).length c1) (X:=X) ?_
 repeat (with_reducible first | exact S2.o.2 | refine Fin.drew ?_ | refine Fin.alloc ?_ _ | refine Fin.set ?_ _ _ _ af af)
theorem ZR {w:World}{a b:Option Addr}{l c k d:Nat}(n m:Bool) (e f:Int) (n1 m1:Bool) (X Y:Nat) (e1 f1:Int) (lX:(ws X).length<=8192) (lY:(ws Y).length<=8192) (ZH:-1048576<=e1) (ZI:e1<=1048576) (ZJ:-1048576<=f1) (ZK:f1<=1048576)
 (lg:Hid (∀ u,Below w.heap.size w u->Calls Tryz.prog 171 #[.agg #[.bool n,.slice a l c,.int .i64 e],.agg #[.bool m,.slice b k d,.int .i64 f]] u fun r w'=>∃ v v',r=.returned (.tuple #[.agg #[.bool n1,v,.int .i64 e1],.agg #[.bool m1,v',.int .i64 f1],.int .i64 0])/\Nt u.heap.size w' v X/\Nt u.heap.size w' v' Y/\Below u.heap.size u w')) (L:Nat) (lL:(ws L).length<=8192) (dn:Bool) (V:Nat) (de er:Int) (lV:(ws V).length<=8192)
 (uj:Hid (∀ (u:World) (p:Option Addr) (q:Nat) (p2:Option Addr) (q2:Nat),Below w.heap.size w u->Arg u p (ws X).length q (ws X)->Arg u p2 (ws Y).length q2 (ws Y)->Calls Tryz.prog 244 #[.slice p (ws X).length q,.slice p2 (ws Y).length q2] u fun r w'=>∃ v,r=.returned (.tuple #[v,.int .i64 0])/\Nt u.heap.size w' v L/\Below u.heap.size u w'))
 (HT:Hid (∀ (u:World) (p:Option Addr) (s:Nat),Below w.heap.size w u->Arg u p (ws L).length s (ws L)->Calls Tryz.prog 192 #[.bool (n1 != m1),.slice p (ws L).length s,.int .i64 (e1+f1)] u fun r w'=>(∃ v,r=.returned (.tuple #[.agg #[.bool dn,v,.int .i64 de],.int .i64 er])/\Nt u.heap.size w' v V)/\Below u.heap.size u w')):Calls Tryz.prog 194 #[.agg #[.bool n,.slice a l c,.int .i64 e],.agg #[.bool m,.slice b k d,.int .i64 f]] w fun r w'=>(∃ v,r=.returned (.tuple #[.agg #[.bool dn,v,.int .i64 de],.int .i64 er])/\Nt w.heap.size w' v V)/\Below w.heap.size w w':=by
 obtain⟨W1,hW1⟩:=ah (((w.alloc (.cells #[.bool n,.slice a l c,.int .i64 e] 77)).alloc (.cells #[.bool m,.slice b k d,.int .i64 f] 77)).alloc (.cells #[.bool false,.slice none 0 0,.int .i64 0] 77));obtain⟨hB,hz1,DA,DB,DR⟩:=dS w n m (.slice a l c) (.slice b k d) e f W1 hW1;have H1:=hid (lg.o W1 hB);have SB:=(iq hB hz1 DA DB DR);clear hB hz1 DA DB DR lg;go_enter Tryz.func194,Tryz.ntmps194;go_wp2_with fail;rw[<-hW1];clear hW1;refine H1.o.mono ?_;rintro r u1 ⟨v,v',rfl,hN,hM,hb⟩;obtain⟨a1,c1,rfl,_⟩:=hN.arg af;obtain⟨a2,c2,rfl,_⟩:=hM.arg af;obtain⟨hB,hz1,DA,DB,DR⟩:=SB.o;have EA:=DA.below hb;have EB:=DB.below hb;have ER:=DR.below hb;obtain⟨x0,x1,x2,dB,dC,dD⟩:=EA.facts;obtain⟨y0,y1,y2,eF,eG,eO⟩:=EB.facts;obtain⟨r0,r1,r2,mJ,mK,mM⟩:=ER.facts;have FX:=au (show Fin w.heap.size (w.heap.size+3) w u1 (.slice a1 (ws X).length c1) X from⟨by rw[<-hz1];exact hN,hB.trans (hb.mono af),by have:=hb.size;omega⟩);have FY:=au (show Fin w.heap.size (w.heap.size+3) w u1 (.slice a2 (ws Y).length c2) Y from⟨by rw[<-hz1];exact hM,hB.trans (hb.mono af),by have:=hb.size;omega⟩);have SE:=(bM EA EB ER);clear hN hM hb H1 hB hz1 DA DB DR EA EB ER SB;obtain⟨EA,EB,ER⟩:=SE.o;obtain⟨U1,dJ⟩:=ah (dx (dx u1 w.heap.size (.bool n1) (.slice a1 (ws X).length c1) (.int .i64 e1)) (w.heap.size+1) (.bool m1) (.slice a2 (ws Y).length c2) (.int .i64 f1));have IA:Dk U1 w.heap.size n1 (.slice a1 (ws X).length c1) e1:=by rw[dJ];exact((EA.set _ _ _).other _ af _ _ _)
 have IB:Dk U1 (w.heap.size+1) m1 (.slice a2 (ws Y).length c2) f1:=by rw[dJ];exact((EB.other _ af _ _ _).set _ _ _)
 have IR:Dk U1 (w.heap.size+1+1) false (.slice none 0 0) 0:=by rw[dJ];exact((ER.other _ af _ _ _).other _ af _ _ _)
 have GX:Fin w.heap.size (w.heap.size+3) w U1 (.slice a1 (ws X).length c1) X:=by rw[dJ];exact(Fin.dx (Fin.dx FX.o _ _ _ _ af af) _ _ _ _ af af)
 have GY:Fin w.heap.size (w.heap.size+3) w U1 (.slice a2 (ws Y).length c2) Y:=by rw[dJ];exact(Fin.dx (Fin.dx FY.o _ _ _ _ af af) _ _ _ _ af af)
 have H2:=hid (uj.o U1 a1 c1 a2 c2 GX.aD (GX.nt.cB af).2 (GY.nt.cB af).2);have S1:=(iq IA IB IR GX GY);have ZL:w.heap.size+3<=U1.heap.size:=by have:=IR.lt;omega
 clear EA EB ER IA IB IR GX GY SE uj;unfold dx at dJ;go_wp2_with fail;rw[<-dJ];clear dJ x0 x1 x2 dB dC dD y0 y1 y2 eF eG eO r0 r1 r2 mJ mK mM;refine H2.o.mono ?_;rintro r u2 ⟨v,rfl,hN,hb⟩;obtain⟨a3,c3,rfl,_⟩:=hN.arg af;obtain⟨IA,IB,IR,GX,GY⟩:=S1.o;obtain⟨x0,x1,x2,dB,dC,dD⟩:=(IA.below hb).facts;obtain⟨y0,y1,y2,eF,eG,eO⟩:=(IB.below hb).facts;obtain⟨r0,r1,r2,mJ,mK,mM⟩:=(IR.below hb).facts;have H3:=hid (HT.o u2 a3 c3 (GX.below hb).aD (hN.cB af).2);have S2:=(aT (IR.below hb) ((GX.below hb)));have hz2:w.heap.size+3<=u2.heap.size:=by have:=hb.size;omega
 clear hN hb H2 S1 IA IB IR GX GY HT;go_wp2_with fail;refine H3.o.mono ?_;rintro r u3 ⟨⟨v,rfl,hN⟩,hb⟩;obtain⟨a4,c4,rfl,_⟩:=hN.arg af;have IR:=S2.o.1.below hb;obtain⟨s0,s1,s2,IG,II,IJ⟩:=IR.facts;have FV:=au (show Fin w.heap.size (w.heap.size+3) w u3 (.slice a4 (ws V).length c4) V from⟨hN.mono hz2,(S2.o.2.below hb).aD,by have:=hb.size;omega⟩);have S3:=au IR;clear hN hb IR H3 S2;go_wp2;refine aJ (Dw _ (w.heap.size+1+1) dn (.slice a4 (ws V).length c4) de er _ rfl rfl (S3.o.set _ _ _)) rfl ?_;refine Fin.qy (m:=w.heap.size+3) ?_ af
 repeat (with_reducible first | exact FV.o | refine Fin.drew ?_ | refine Fin.alloc ?_ _ | refine Fin.set ?_ _ _ _ af af)
def We(x y:Bool×Nat×Int):Option (Bool×Nat×Int):=mkS (x.1 != y.1) (x.2.1*y.2.1) (x.2.2+y.2.2)
def dM(o p:Option (Bool×Nat×Int)):Option (Bool×Nat×Int) :=
 match o,p with
 | some x,some y=>We x y
 | _,_=>none
theorem Mg{w:World}{p q:Option Addr}{s t X Y:Nat}(L:Nat)(er:Int)(hA:Arg w p (ws X).length s (ws X))(hB:Arg w q (ws Y).length t (ws Y))(h:jD X Y=(L,er)) :
 Calls Tryz.prog 244 #[.slice p (ws X).length s,.slice q (ws Y).length t] w fun r w'=>∃ v,r=.returned (.tuple #[v,.int .i64 er])/\Nt w.heap.size w' v L/\Below w.heap.size w w':=by
 have:=Lm (ws X) (ws Y) p q (ws X).length s (ws Y).length t w.heap.size w hA.len hB.len hA.cap hB.cap (by have:=hA.big;omega) (by have:=hB.big;omega) hA.wf hB.wf hA.rd hB.rd (aB _);rw[aC,aC,h] at this;exact this.mono fun r w' ⟨⟨v,h1,h2⟩,h3⟩=>⟨v,h1,h2,h3⟩
theorem Mh{X:Nat}(h:X%2=1):lo X=0:=by
 have:=Le 0 (X/2);rw[show 2^0*(2*(X/2)+1)=X by omega] at this;exact this
theorem yu{w:World}{a b:Option Addr}{l c k d:Nat}{xs ys:List Nat}(h1:Arg w a l c xs)(h2:Arg w b k d ys)(hT:bO w)(n m:Bool)(e f:Int)(he0:-9223372036854775808<=e)(he1:e<=9223372036854775807)(hf0:-9223372036854775808<=f)(hf1:f<=9223372036854775807) :
 Calls Tryz.prog 194 #[.agg #[.bool n,.slice a l c,.int .i64 e],.agg #[.bool m,.slice b k d,.int .i64 f]] w fun r w'=>dh w.heap.size w' r (dM (mkS n (val xs) e) (mkS m (val ys) f))/\Below w.heap.size w w':=by
 have zero:∀ {r:Ending} {w':World},(r=.returned (.tuple #[.agg #[.bool false,.slice none 0 0,.int .i64 0],.int .i64 2])/\Below w.heap.size w w')->dh w.heap.size w' r none/\Below w.heap.size w w':=fun⟨h1,h2⟩=>⟨⟨_,h1,Nt.nil _ _⟩,h2⟩
 cases hx:mkS n (val xs) e with
 | none =>
   exact(Mf n m e f (hid fun u hu=>yg (h1.below hu) (h2.below hu) (hT.belows hu) n m e f he0 he1 hf0 hf1 hx)).mono fun r w' h=>zero h
 | some x =>
   obtain⟨n1,X,e1⟩:=x
   cases hy:mkS m (val ys) f with
   | none =>
     exact(Mf n m e f (hid fun u hu=>yh (h1.below hu) (h2.below hu) (hT.belows hu) n m e f he0 he1 hf0 hf1 n1 X e1 hx hy)).mono fun r w' h=>zero h
   | some y =>
     obtain⟨m1,Y,f1⟩:=y;have lg:=hid fun u (hu:Below w.heap.size w u)=>F7 (h1.below hu) (h2.below hu) (hT.belows hu) n m e f he0 he1 hf0 hf1 n1 m1 X Y e1 f1 hx hy;have FX:=di hx;have FY:=di hy;have lX:=iT FX;have lY:=iT FY;have:=FX.up;have:=FX.down;have:=FY.up;have:=FY.down;show Calls _ _ _ _ fun r w'=>dh w.heap.size w' r (mkS (n1 != m1) (X*Y) (e1+f1))/\_
     by_cases hL:LG (X*Y)
     · have hs:jD X Y=(0,2):=by unfold jD;rw[if_neg (by intro h;rcases h with h | h;exact lU FX.size h;exact lU FY.size h),if_pos hL]
       have hno:mkS (n1 != m1) (X*Y) (e1+f1)=none:=by
        have hb:=(oK _).1 hL;have h0:X*Y≠0:=by intro h;rw[h,eY] at hb;omega
        have oX:X%2=1:=by rcases FX.odd with h | h;exact h;rw[h.1,gT] at h0;exact absurd rfl h0
        have oY:Y%2=1:=by rcases FY.odd with h | h;exact h;rw[h.1,nL] at h0;exact absurd rfl h0
        have hlo:lo (X*Y)=0:=Mh (by rw[Nat.mul_mod,oX,oY]);unfold mkS;rw[if_neg h0,if_pos (.inl (by rw[hlo];omega))]
       rw[hno];exact(Su n m e f n1 m1 X Y e1 f1 lX lY af af af af lg (hid fun u p q p2 q2 hu hA hB=>Mg 0 2 hA hB hs)).mono fun r w' h=>zero h
     · have hs:jD X Y=(X*Y,0):=by unfold jD;rw[if_neg (by intro h;rcases h with h | h;exact lU FX.size h;exact lU FY.size h),if_neg hL]
       obtain⟨L,hLe⟩:∃ L,X*Y=L:=⟨_,rfl⟩;rw[hLe] at hs hL |-;have lL:(ws L).length<=8192:=by unfold LG at hL;omega
       exact ZR n m e f n1 m1 X Y e1 f1 lX lY af af af af lg L lL _ _ _ _ (bC (n1 != m1) L (e1+f1)) (hid fun u p q p2 q2 hu hA hB=>Mg L 0 hA hB hs)
        (hid fun u p s hu hA=>by have:=fJ hA (hT.belows hu) (n1 != m1) (e1+f1) af af;rw[aC] at this;exact this)
theorem Wh(W:World)(g:Nat)(n:Bool)(v:Value)(e k:Int)(tmps:Array Value)(ht:tmps[4]?.getD undef=.pointer (some ⟨g,0,none⟩))(hk:tmps[5]?.getD undef=.int .i64 k)(D:Dk W g n v e) :
 (results Tryz.f195 tmps).run Tryz.prog W=.ok (.tuple #[.agg #[.bool n,v,.int .i64 e],.int .i64 k]) W:=by
 obtain⟨x0,x1,x2,dB,dC,dD⟩:=D.facts;simp[results,Tryz.results195,ht,hk,go_sem,x0,x1,x2]
theorem Sv {w:World}{a b:Option Addr}{l c k d:Nat}(n m:Bool) (e f:Int) (dn:Bool) (V:Nat) (de er:Int) (lV:(ws V).length<=8192)
 (HT:Hid (∀ u,Calls Tryz.prog 245 #[.agg #[.bool m,.slice b k d,.int .i64 f]] u fun r w'=>r=.returned (.agg #[.bool (!m),.slice b k d,.int .i64 f])/\Below u.heap.size u w'))
 (HA:Hid (∀ u,Below w.heap.size w u->Calls Tryz.prog 101 #[.agg #[.bool n,.slice a l c,.int .i64 e],.agg #[.bool (!m),.slice b k d,.int .i64 f]] u fun r w'=>(∃ v,r=.returned (.tuple #[.agg #[.bool dn,v,.int .i64 de],.int .i64 er])/\Nt u.heap.size w' v V)/\Below u.heap.size u w')) :
 Calls Tryz.prog 195 #[.agg #[.bool n,.slice a l c,.int .i64 e],.agg #[.bool m,.slice b k d,.int .i64 f]] w fun r w'=>(∃ v,r=.returned (.tuple #[.agg #[.bool dn,v,.int .i64 de],.int .i64 er])/\Nt w.heap.size w' v V)/\Below w.heap.size w w':=by
 obtain⟨W1,hW1⟩:=ah (((w.alloc (.cells #[.bool n,.slice a l c,.int .i64 e] 77)).alloc (.cells #[.bool m,.slice b k d,.int .i64 f] 77)).alloc (.cells #[.bool false,.slice none 0 0,.int .i64 0] 77));obtain⟨hB,hz1,DA,DB,DR⟩:=dS w n m (.slice a l c) (.slice b k d) e f W1 hW1;have T1:=hid (HT.o W1);have T2:=hid (HT.o W1.drew);obtain⟨x0,x1,x2,dB,dC,dD⟩:=DA.facts;obtain⟨y0,y1,y2,eF,eG,eO⟩:=DB.facts;obtain⟨r0,r1,r2,mJ,mK,mM⟩:=DR.facts;have hs1:w.heap.size+3<=W1.heap.size:=af
 have SB:=(mh hB DA DB DR);clear hB hz1 DA DB DR;go_enter Tryz.func195,Tryz.ntmps195;go_wp2_with fail;rw[<-hW1];clear hW1;have ne1:w.heap.size≠w.heap.size+1+1:=af
 have ne2:w.heap.size+1≠w.heap.size+1+1:=af
 have ne3:w.heap.size+1+1≠w.heap.size:=af
 have ne4:w.heap.size+1+1≠w.heap.size+1:=af
 go_region_held3 (fun w'=>w'.cell? ⟨w.heap.size,0,none⟩=some (.bool n)/\w'.cell? ⟨w.heap.size,1,none⟩=some (.slice a l c)/\w'.cell? ⟨w.heap.size,2,none⟩=some (.int .i64 e)/\w'.cell? ⟨w.heap.size+1,0,none⟩=some (.bool m)/\w'.cell? ⟨w.heap.size+1,1,none⟩=some (.slice b k d)/\w'.cell? ⟨w.heap.size+1,2,none⟩=some (.int .i64 f)) (go_keep) (first
  | (go_at_call 245
     first | with_reducible refine T1.o.mono ?_ | with_reducible refine T2.o.mono ?_
     rintro r u1 ⟨rfl,hb⟩;have hb1:Below W1.heap.size W1 u1:=by first | exact hb | exact((aG _ W1).drew).trans (hb.mono (aB _))
     have hs2:W1.heap.size<=u1.heap.size:=hb1.size;have BW:Below w.heap.size w u1:=SB.o.1.trans (hb1.mono af);have HA1:=hid (HA.o u1 BW);have KR:=SB.o.r3.below hb1;obtain⟨p0,p1,p2,ZE,ZF,ZG⟩:=KR.facts;obtain⟨q0,q1,q2,Ov,Ow,Ox⟩:=(SB.o.2.1.below hb1).facts;obtain⟨s0,s1,s2,IG,II,IJ⟩:=(SB.o.r2.1.below hb1).facts;have S1:=(mh BW KR (SB.o.2.1.below hb1) (SB.o.r2.1.below hb1))
     clear hb hb1 KR BW)
  | (go_at_call 101
     with_reducible refine HA1.o.mono ?_
     rintro r u2 ⟨⟨v,rfl,hN⟩,hb⟩;obtain⟨a4,c4,rfl,_⟩:=hN.arg af;have LR:=S1.o.2.1.below hb;obtain⟨t0,t1,t2,tf0,tf1,tf2⟩:=LR.facts;obtain⟨i0,i1,i2,if0,if1,if2⟩:=(S1.o.r2.1.below hb).facts;obtain⟨j0,j1,j2,jf0,jf1,jf2⟩:=(S1.o.r3.below hb).facts;have FV:=au (show Fin w.heap.size (w.heap.size+3) w u2 (.slice a4 (ws V).length c4) V from⟨hN.mono af,S1.o.1.trans (hb.mono af),by have:=hb.size;omega⟩);have S10:=au LR
     clear hN hb LR))
 all_goals (
  go_wp2;refine aJ (Wh _ (w.heap.size+1+1) dn (.slice a4 (ws V).length c4) de er _ rfl rfl (S10.o.set _ _ _)) rfl ?_;refine Fin.qy (m:=w.heap.size+3) ?_ af
  repeat (with_reducible first | exact FV.o | refine Fin.drew ?_ | refine Fin.alloc ?_ _ | refine Fin.set ?_ _ _ _ af af))
theorem O6(n:Bool)(X:Nat)(e:Int)(m:Bool)(Y:Nat)(f:Int):(ws (dX (nP n X e m Y f))).length<=8192:=by
 unfold nP
 split
 · show(ws 0).length<=8192;rw[bB];exact jd _
 · split
   · exact bC _ _ _
   · split <;> exact bC _ _ _
theorem Sw(n:Bool)(X:Nat)(e:Int)(m:Bool)(Y:Nat)(f:Int):(ws (dX (iO (mkS n X e) (mkS m Y f)))).length<=8192:=by
 have z0:(ws 0).length<=8192:=by rw[bB];exact jd _
 cases hx:mkS n X e with
 | none=>exact z0
 | some x =>
   cases hy:mkS m Y f with
   | none=>exact z0
   | some y =>
     obtain⟨n1,X1,e1⟩:=x;obtain⟨m1,Y1,f1⟩:=y;show(ws (dX (wu _ _))).length<=8192;unfold wu
     split
     · exact iT (di hy)
     · split
       · exact iT (di hx)
       · split <;> exact O6 _ _ _ _ _ _
theorem Sy{w:World}{a b:Option Addr}{l c k d:Nat}{xs ys:List Nat}(h1:Arg w a l c xs)(h2:Arg w b k d ys)(hT:bO w)(n m:Bool)(e f:Int)(he0:-9223372036854775808<=e)(he1:e<=9223372036854775807)(hf0:-9223372036854775808<=f)(hf1:f<=9223372036854775807) :
 Calls Tryz.prog 195 #[.agg #[.bool n,.slice a l c,.int .i64 e],.agg #[.bool m,.slice b k d,.int .i64 f]] w fun r w'=>dh w.heap.size w' r (iO (mkS n (val xs) e) (mkS (!m) (val ys) f))/\Below w.heap.size w w' :=
 Sv n m e f _ _ _ _ (Sw n (val xs) e (!m) (val ys) f) (hid fun u=>Jz b k d m f u) (hid fun u hu=>F8 (h1.below hu) (h2.below hu) (hT.belows hu) n (!m) e f he0 he1 hf0 hf1)
def top(X:Nat)(i:Int):Nat:=if i<0 then X*2^(-i).toNat else X/2^i.toNat
theorem Wi(X:Nat)(i:Int):win X i=top X i%4294967296:=by unfold win top;split <;> rfl
theorem two32:(2:Nat)^32=4294967296:=rfl
theorem Sz(X:Nat)(i:Int):top X (i-32)/4294967296=top X i:=by
 rw[<-two32];unfold top
 by_cases h:i<0
 · rw[if_pos af,if_pos h,show(-(i-32)).toNat=(-i).toNat+32 by omega,aW,<-dH,xy _ (bK 32)]
 · by_cases h2:i<32
   · rw[if_pos af,if_neg h];obtain⟨k,hk⟩:=ah ((-(i-32)).toNat);have e:32=k+i.toNat:=af
     rw[<-hk];generalize i.toNat=m at e |-;rw[show(2:Nat)^32=2^k*2^m by rw[<-aW,<-e],bR X,Nat.mul_div_mul_left _ _ (bK k)]
   · rw[if_neg af,if_neg h,uW,<-aW,show(i-32).toNat+32=i.toNat by omega]
theorem sD(X:Nat)(i:Int):top X (i-32)=top X i*4294967296+win X (i-32):=by
 rw[Wi,<-Sz X i];exact(Nat.div_add_mod' _ _).symm
theorem Bc(X d:Nat)(j:Int):top X (j-(d:Int))=top (X*2^d) j:=by
 unfold top
 by_cases h:j<0
 · rw[if_pos af,if_pos h,show(-(j-(d:Int))).toNat=d+(-j).toNat by omega,aW,dH]
 · rw[if_neg h]
   by_cases h2:j<d
   · rw[if_pos af];obtain⟨k,hk⟩:=ah ((-(j-(d:Int))).toNat);have e:d=k+j.toNat:=af
     rw[<-hk];generalize j.toNat=m at e |-;rw[e,aW,<-dH,xy _ (bK m)]
   · rw[if_neg af];obtain⟨k,hk⟩:=ah ((j-(d:Int)).toNat);have e:j.toNat=k+d:=af
     rw[<-hk,e,aW,Nat.mul_div_mul_right _ _ (bK d)]
theorem SC{X Y:Nat}(h:X<=Y)(j:Int):top X j<=top Y j:=by
 unfold top
 split
 · exact dF _ h
 · exact IW h
theorem SG{X Y:Nat}{j:Int}(h:top X j<top Y j):X<Y:=by
 rcases iJ X Y with k|k
 · exact k
 · have:=SC k j;omega
theorem Wj{X Y:Nat}{j:Int}(hj:j<=0)(h:top X j=top Y j):X=Y:=by
 unfold top at h
 by_cases h0:j<0
 · rw[if_pos h0,if_pos h0] at h;exact xC (bK _) h
 · rw[if_neg h0,if_neg h0,show j.toNat=0 by omega] at h;simpa using h
theorem SH(X:Nat):top X (bl X:Int)=0:=by
 unfold top;rw[if_neg af,kV];exact iI (iF X)
theorem yw{X Y:Nat}{i j:Int}(d:Nat)(hij:i=j-d)(h:top X i=top Y j)(hne:aZ (win X (i-32)) (win Y (j-32))≠0) :
 aZ (win X (i-32)) (win Y (j-32))=aZ (X*2^d) Y:=by
 have h1:=sD X i;have h2:=sD Y j;have h3:=Bc X d (j-32);rw[show j-32-(d:Int)=i-32 by omega] at h3;rw[h] at h1;generalize top Y j*4294967296=T at h1 h2;unfold aZ at hne |-
 by_cases k:win X (i-32)<win Y (j-32)
 · rw[if_pos k];have:X*2^d<Y:=SG (j:=j-32) (by rw[<-h3];omega);rw[if_pos this]
 · rw[if_neg k] at hne |-
   by_cases k2:win Y (j-32)<win X (i-32)
   · rw[if_pos k2];have:Y<X*2^d:=SG (j:=j-32) (by rw[<-h3];omega);rw[if_neg af,if_pos this]
   · rw[if_neg k2] at hne;exact absurd rfl hne
theorem O7{x y:Nat}(h:aZ x y=0):x=y:=by
 unfold aZ at h
 split at h
 · cases h
 · split at h
   · cases h
   · omega
theorem Be{X Y:Nat}{i j:Int}(h:top X i=top Y j)(he:aZ (win X (i-32)) (win Y (j-32))=0):top X (i-32)=top Y (j-32):=by
 rw[sD,sD,h,O7 he]
theorem Wl{X Y:Nat}{i j:Int}(d:Nat)(hij:i=j-d)(h:top X i=top Y j)(hj:j<=0):aZ (X*2^d) Y=0:=by
 subst hij;rw[Bc] at h;rw[Wj hj h];unfold aZ;rw[if_neg (Nat.lt_irrefl _),if_neg (Nat.lt_irrefl _)]
def oU(X:Nat)(e:Int)(Y:Nat)(f:Int):Int:=if e<f then aZ X (Y*2^(f-e).toNat) else aZ (X*2^(e-f).toNat) Y
theorem yx(x y:Nat):-aZ x y=aZ y x:=by
 unfold aZ;rcases Nat.lt_trichotomy x y with h|h|h
 · rw[if_pos h,if_neg af,if_pos h];rfl
 · subst h;rw[if_neg af,if_neg af];rfl
 · rw[if_neg af,if_pos h,if_pos h]
theorem Gg(X:Nat)(e:Int)(Y:Nat)(f:Int):-oU X e Y f=oU Y f X e:=by
 unfold oU
 by_cases h:e<f
 · rw[if_pos h,if_neg af,yx]
 · rw[if_neg h]
   by_cases h2:f<e
   · rw[if_pos h2,yx]
   · rw[if_neg h2,yx,show(e-f).toNat=0 by omega,show(f-e).toNat=0 by omega,jr,gI,gI]
theorem Mi{x y:Nat}(h:bl x≠bl y):aZ x y=aZ (bl x) (bl y):=by
 unfold aZ;rcases iJ (bl x) (bl y) with k|k
 · have:x<y:=by
    rcases iJ x y with q|q
    · exact q
    · have:=nz q;omega
   rw[if_pos k,if_pos this]
 · have:y<x:=by
    rcases iJ y x with q|q
    · exact q
    · have:=nz q;omega
   rw[if_neg (by omega:¬ x<y),if_pos this,if_neg (by omega:¬ bl x<bl y),if_pos (by omega:bl y<bl x)]
theorem JK(x y:Nat):aZ x y=-1\/aZ x y=0\/aZ x y=1:=by
 unfold aZ;split
 · exact .inl rfl
 · split
   · exact .inr (.inr rfl)
   · exact .inr (.inl rfl)
theorem yz(X:Nat)(e:Int)(Y:Nat)(f:Int):oU X e Y f=-1\/oU X e Y f=0\/oU X e Y f=1:=by
 unfold oU;split <;> exact JK _ _
def iP(n:Bool)(X:Nat):Int:=if X=0 then 0 else if n then -1 else 1
def l9(n:Bool)(X:Nat)(e:Int)(m:Bool)(Y:Nat)(f:Int):Int :=
 if iP n X<iP m Y then -1 else if iP m Y<iP n X then 1 else if X=0 then 0 else if n then oU Y f X e else oU X e Y f
theorem Wm(x:Int)(w:World):Calls Tryz.prog 300 #[.int .u64 x] w fun r w'=>r=.returned (.bool false)/\w'=w:=by
 go_enter Tryz.func300,Tryz.ntmps300;go_wp2;exact Ks
def jW(x y:Int):Int:=if x<y then -1 else if y<x then 1 else 0
theorem SL(x y:Nat):jW (x:Int) (y:Int)=aZ x y:=by
 unfold jW aZ;simp only[Int.ofNat_lt]
theorem O8(x y:Int)(w:World):Calls Tryz.prog 290 #[.int .u64 x,.int .u64 y] w fun r w'=>r=.returned (.int .i64 (jW x y))/\w'=w:=by
 have H:Hid (∀ x w,_):=Wm;rcases Cg x y with h|h|h
 · have e:jW x y=-1:=by simp[jW,h]
   rw[e];clear e;go_enter Tryz.func290,Tryz.ntmps290;exact Vc
 · have e:jW x y=0:=by simp[jW,h]
   rw[e];clear e;subst h;go_enter Tryz.func290,Tryz.ntmps290;exact Vc
 · have e:jW x y=1:=by unfold jW;rw[if_neg af,if_pos h]
   rw[e];clear e;have h0:decide (x<y)=false:=decide_eq_false af;go_enter Tryz.func290,Tryz.ntmps290;exact Vc
theorem Bf(x y:Int)(w:World):Calls Tryz.prog 214 #[.int .i64 x,.int .i64 y] w fun r w'=>r=.returned (.int .i64 (jW x y))/\w'=w:=by
 have H:Hid (∀ x w,_):=KQ;rcases Cg x y with h|h|h
 · have e:jW x y=-1:=by simp[jW,h]
   rw[e];clear e;go_enter Tryz.func214,Tryz.ntmps214;exact Vc
 · have e:jW x y=0:=by simp[jW,h]
   rw[e];clear e;subst h;go_enter Tryz.func214,Tryz.ntmps214;exact Vc
 · have e:jW x y=1:=by unfold jW;rw[if_neg af,if_pos h]
   rw[e];clear e;have h0:decide (x<y)=false:=decide_eq_false af;go_enter Tryz.func214,Tryz.ntmps214;exact Vc
theorem xb{P:Prop}(h:P:=by
 go_enter Tryz.func52,Tryz.ntmps52;go_wp2_with fail;refine H1.o.mono ?_;rintro r w1 ⟨rfl,rfl⟩;go_wp2;go_ret;exact⟨rfl,SB.o⟩):P:=h
theorem fK{w:World}{a:Option Addr}{n c:Nat}{xs:List Nat}(h1:Arg w a n c xs)(ng:Bool)(e:Int) :
 Calls Tryz.prog 52 #[.agg #[.bool ng,.slice a n c,.int .i64 e]] w fun r w'=>r=.returned (.int .i64 (iP ng (val xs)))/\Below w.heap.size w w':=by
 have hB:Below w.heap.size w (w.alloc (.cells #[.bool ng,.slice a n c,.int .i64 e] 77)):=ag w _;have A1:=h1.below hB;have hbig:=h1.big;have H1:=hid (kE xs a n c _ _ A1.len A1.cap af A1.wf A1.rd);obtain⟨X,hX⟩:∃ X,val xs=X:=⟨_,rfl⟩;rw[hX] at H1 |-;have SB:=au hB;clear hB A1 h1 hX hbig;unfold iP
 by_cases h0:X=0
 · rw[if_pos h0];have hb:bl X=0:=by rw[h0,eY]
   rw[hb] at H1;clear h0 hb;exact xb
 · rw[if_neg h0];obtain⟨b,hb⟩:∃ b,bl X=b:=⟨_,rfl⟩;have hb0:((b:Int)==0)=false:=by have:=fH X h0;simp;omega
   rw[hb] at H1;clear h0 hb
   cases ng
   · simp only[dY,if_false];exact xb
   · simp only[if_true];exact xb
theorem Qa1{P:Prop}(h:P:=by
 have h:=yw dd HA.o.1 HA.o.2 (by rw[QF.o.1,QF.o.2,HZ.o];exact h0);rw[QF.o.1,QF.o.2,HZ.o,HR.o] at h;exact h):P:=h
theorem zE{P:Prop}(h:P:=by
 subst h0;go_wp2_with fail;refine G1.o.mono ?_;rintro r w2 ⟨rfl,rfl⟩;go_wp2_with fail;refine G2.o.mono ?_;rintro r w2 ⟨rfl,rfl⟩;go_wp2_with fail;refine CM.o.mono ?_;rintro r w2 ⟨rfl,rfl⟩;go_wp2;go_roundg (gk-32)
 case measure=>omega
 case rel =>
  refine⟨i-32,j-32,af,by first | rfl | go_num,by first | rfl | go_num,rfl,af,af,af,?_,?_,?_⟩
  · have:=HA.o.1;have:=HD.o;omega
  · have:=HA.o.1;omega
  · exact Be HA.o.2 (by rw[QF.o.1,QF.o.2];exact HZ.o)):P:=h
theorem yA{w:World}{a b:Option Addr}{n c m d:Nat}{xs ys:List Nat}(h1:Arg w a n c xs)(h2:Arg w b m d ys)(dd:Nat)(hd:bl (val xs)+dd=bl (val ys)) :
 Calls Tryz.prog 291 #[.slice a n c,.slice b m d] w fun r w'=>r=.returned (.int .i64 (aZ (val xs*2^dd) (val ys)))/\w'=w:=by
 have hb1:=h1.big;have hb2:=h2.big;have H1:=hid (kE xs a n c w.heap.size w h1.len h1.cap af h1.wf h1.rd);have H2:=hid (kE ys b m d w.heap.size w h2.len h2.cap af h2.wf h2.rd);have b1:bl (val xs)<=32*n:=by have:=df xs h1.wf;rw[<-h1.len] at this;exact LF _ _ this
 have b2:bl (val ys)<=32*m:=by have:=df ys h2.wf;rw[<-h2.len] at this;exact LF _ _ this
 have WX:Hid (∀ i:Int,-9223372036854775808<=i->i<=9223372036854000000->Calls Tryz.prog 279 #[.slice a n c,.int .i64 i] w fun r w'=>r=.returned (.int .u32 ((win (val xs) i:Nat):Int))/\w'=w):=fun i h0 h3=>qQ xs a n c w.heap.size i w h1.len af h1.wf h1.rd h0 af;have WY:Hid (∀ i:Int,-9223372036854775808<=i->i<=9223372036854000000->Calls Tryz.prog 279 #[.slice b m d,.int .i64 i] w fun r w'=>r=.returned (.int .u32 ((win (val ys) i:Nat):Int))/\w'=w):=fun i h0 h3=>qQ ys b m d w.heap.size i w h2.len af h2.wf h2.rd h0 af;obtain⟨X,hX⟩:∃ X,val xs=X:=⟨_,rfl⟩;obtain⟨Y,hY⟩:∃ Y,val ys=Y:=⟨_,rfl⟩;rw[hX] at H1 b1 hd WX |-;rw[hY] at H2 b2 hd WY |-;have st:top X (bl X:Int)=top Y (bl Y:Int):=by rw[SH,SH]
 obtain⟨i0,hi0⟩:∃ i,bl X=i:=⟨_,rfl⟩;obtain⟨j0,hj0⟩:∃ j,bl Y=j:=⟨_,rfl⟩;rw[hi0] at H1 b1 hd st;rw[hj0] at H2 b2 hd st;obtain⟨R,hR⟩:∃ R,aZ (X*2^dd) Y=R:=⟨_,rfl⟩;rw[hR];have HR:=au hR;have ST:=au st;have HD:=au hd;have bi:(i0:Int)<=1125899906842624:=af
 have bj:(j0:Int)<=1125899906842624:=af
 clear h1 h2 hX hY hi0 hj0 st hR hd b1 b2 hb1 hb2;go_enter Tryz.func291,Tryz.ntmps291;go_wp2_with fail;refine H1.o.mono ?_;rintro r w1 ⟨rfl,rfl⟩;go_wp2_with fail;refine H2.o.mono ?_;rintro r w1 ⟨rfl,rfl⟩;go_wp2
 go_loopg [5,6] (j0+32) (fun gk iv jv wr=>∃ i j:Int,(gk:Int)=j+32/\iv=.int .i64 i/\jv=.int .i64 j/\wr=w1/\-32<=j/\j<=1125899906842624/\i<=j/\-1125899906842656<=i/\Aside (i=j-dd/\top X i=top Y j))
 case atStart=>exact⟨i0,j0,af,rfl,rfl,rfl,af,af,by have:=HD.o;omega,af,by have:=HD.o;omega,ST.o⟩
 case round =>
  obtain⟨i,j,iL,rfl,rfl,rfl,hj0',hj1,hij,hi0',HA⟩:=hrel
  by_cases hj:0<j
  · have hi2:i-32<=9223372036854000000:=af
    have hj2:j-32<=9223372036854000000:=af
    have G1:=hid (WX.o (i-32) af hi2);have G2:=hid (WY.o (j-32) af hj2);obtain⟨x,hx⟩:∃ x,win X (i-32)=x:=⟨_,rfl⟩;obtain⟨y,hy⟩:∃ y,win Y (j-32)=y:=⟨_,rfl⟩;rw[hx] at G1;rw[hy] at G2;have QF:=(aT hx hy);have hlo:-1125899906842656<=i:=hi0';clear hx hy;have CM:=hid (tN x y wr);obtain⟨z,hz⟩:∃ z,aZ x y=z:=⟨_,rfl⟩;rw[hz] at CM;have HZ:=au hz;clear hz
    by_cases hpi:0<i
    · by_cases h0:z=0
      · exact zE
      · have h0':(z==0)=false:=by simpa using h0
        go_wp2_with fail;refine G1.o.mono ?_;rintro r w2 ⟨rfl,rfl⟩;go_wp2_with fail;refine G2.o.mono ?_;rintro r w2 ⟨rfl,rfl⟩;go_wp2_with fail;refine CM.o.mono ?_;rintro r w2 ⟨rfl,rfl⟩;go_wp2
        have e:z=R:=by
         exact Qa1
        subst e;exact Ks
    · have hpi':decide (0<i)=false:=decide_eq_false hpi
      by_cases h0:z=0
      · exact zE
      · have h0':(z==0)=false:=by simpa using h0
        go_wp2_with fail;refine G1.o.mono ?_;rintro r w2 ⟨rfl,rfl⟩;go_wp2_with fail;refine G2.o.mono ?_;rintro r w2 ⟨rfl,rfl⟩;go_wp2_with fail;refine CM.o.mono ?_;rintro r w2 ⟨rfl,rfl⟩;go_wp2
        have e:z=R:=by
         exact Qa1
        subst e;exact Ks
  · have hpi':decide (0<i)=false:=decide_eq_false af;have hpj':decide (0<j)=false:=decide_eq_false af;have e:R=0:=by rw[<-HR.o];exact Wl dd HA.o.1 HA.o.2 af
    subst e;go_wp2;exact Ks
theorem zr{P:Prop}(h:P:=by
 rw[hW1];have:=Dk.new (w.alloc (.cells #[.bool ng,.slice a n c,.int .i64 e] 77)) mg (.slice b m d) f;simpa using this):P:=h
theorem Gh {w:World}{a b:Option Addr}{n c m d:Nat}(ng mg:Bool) (e f:Int) (x y dd:Nat) (R:Int) (bx:x<=1125899906842624) (by':y<=1125899906842624)
 (hge:decide (e<f)=false) (hap:IntKind.u64.wrap (IntKind.u64.wrap e-IntKind.u64.wrap f)=(dd:Int))
 (H1:Hid (∀ u,Below w.heap.size w u->Calls Tryz.prog 108 #[.slice a n c] u fun r w'=>r=.returned (.int .i64 (x:Nat))/\w'=u))
 (H2:Hid (∀ u,Below w.heap.size w u->Calls Tryz.prog 108 #[.slice b m d] u fun r w'=>r=.returned (.int .i64 (y:Nat))/\w'=u))
 (H3:Hid (∀ u,Below w.heap.size w u->dd+x=y->Calls Tryz.prog 291 #[.slice a n c,.slice b m d] u fun r w'=>r=.returned (.int .i64 R)/\w'=u)) :
 Calls Tryz.prog 275 #[.agg #[.bool ng,.slice a n c,.int .i64 e],.agg #[.bool mg,.slice b m d,.int .i64 f]] w fun r w'=>r=.returned (.int .i64 (if y<dd then 1 else if dd+x=y then R else aZ (dd+x) y))/\Below w.heap.size w w':=by
 obtain⟨W1,hW1⟩:=ah ((w.alloc (.cells #[.bool ng,.slice a n c,.int .i64 e] 77)).alloc (.cells #[.bool mg,.slice b m d,.int .i64 f] 77));have hB:Below w.heap.size w W1:=by rw[hW1];exact(ag w _).alloc aL _
 have DA:Dk W1 w.heap.size ng (.slice a n c) e:=by rw[hW1];exact(Dk.new w ng (.slice a n c) e).alloc _
 have DB:Dk W1 (w.heap.size+1) mg (.slice b m d) f:=by
  exact zr
 obtain⟨x0,x1,x2,dB,dC,dD⟩:=DA.facts;obtain⟨y0,y1,y2,eF,eG,eO⟩:=DB.facts;have SB:=au hB;clear DA DB hB;have T1:=hid (H1.o W1 SB.o);have T2:=hid (H2.o W1 SB.o);have T1':=hid (H1.o W1.drew SB.o.drew);have T2':=hid (H2.o W1.drew SB.o.drew);have ex:IntKind.u64.wrap (x:Int)=(x:Int):=by rw[Cs];omega
 have ey:IntKind.u64.wrap (y:Int)=(y:Int):=by rw[Cs];omega
 by_cases h1:y<dd
 · rw[if_pos h1];have h1':(y:Int)<(dd:Int):=af
   go_enter Tryz.func275,Tryz.ntmps275
   go_upto_region 1 with fail
   rw[<-hW1];clear hW1
   go_upto_region 4 with fail
   go_region_held3 (fun w'=>w'.cell? ⟨w.heap.size,1,none⟩=some (.slice a n c)/\w'.cell? ⟨w.heap.size+1,1,none⟩=some (.slice b m d)) (go_keep) (first
    | (go_at_call 108
       first | with_reducible refine T1.o.mono ?_ | with_reducible refine T1'.o.mono ?_ | with_reducible refine T2.o.mono ?_ | with_reducible refine T2'.o.mono ?_
       rintro r w' ⟨rfl,rfl⟩))
   all_goals (
    go_wp2;go_ret
    first | exact⟨rfl,SB.o⟩ | exact⟨rfl,SB.o.drew⟩)
 · rw[if_neg h1];have h1':decide ((y:Int)<(dd:Int))=false:=decide_eq_false af;have es:IntKind.u64.wrap ((dd:Int)+(x:Int))=(dd:Int)+(x:Int):=by rw[Cs];omega
   by_cases h2:dd+x=y
   · rw[if_pos h2];have T3:=hid (H3.o W1 SB.o h2);have T3':=hid (H3.o W1.drew SB.o.drew h2);have h2':((dd:Int)+(x:Int)==(y:Int))=true:=by simp;omega
     have h2'':(dd:Int)+(x:Int)=(y:Int):=af
     go_enter Tryz.func275,Tryz.ntmps275
     go_upto_region 1 with fail
     rw[<-hW1];clear hW1
     go_upto_region 4 with fail
     go_region_held3 (fun w'=>w'.cell? ⟨w.heap.size,1,none⟩=some (.slice a n c)/\w'.cell? ⟨w.heap.size+1,1,none⟩=some (.slice b m d)) (go_keep) (first
      | (go_at_call 108
         first | with_reducible refine T1.o.mono ?_ | with_reducible refine T1'.o.mono ?_ | with_reducible refine T2.o.mono ?_ | with_reducible refine T2'.o.mono ?_
         rintro r w' ⟨rfl,rfl⟩))
     all_goals (
      go_wp2_with fail
      first | with_reducible refine T3.o.mono ?_ | with_reducible refine T3'.o.mono ?_
      rintro r w' ⟨rfl,rfl⟩;go_wp2;go_ret
      first | exact⟨rfl,SB.o⟩ | exact⟨rfl,SB.o.drew⟩)
   · rw[if_neg h2];have h2':((dd:Int)+(x:Int)==(y:Int))=false:=by simp;omega
     have CW:Hid (∀ u,Calls Tryz.prog 290 #[.int .u64 ((dd:Int)+(x:Int)),.int .u64 (y:Int)] u fun r w'=>r=.returned (.int .i64 (aZ (dd+x) y))/\w'=u):=fun u=>by
      have:=O8 ((dd:Int)+(x:Int)) (y:Int) u;rw[show(dd:Int)+(x:Int)=((dd+x:Nat):Int) by omega,SL] at this;rw[show(dd:Int)+(x:Int)=((dd+x:Nat):Int) by omega];exact this
     obtain⟨z,hz⟩:∃ z,aZ (dd+x) y=z:=⟨_,rfl⟩;rw[hz] at CW |-;clear hz;go_enter Tryz.func275,Tryz.ntmps275
     go_upto_region 1 with fail
     rw[<-hW1];clear hW1
     go_upto_region 4 with fail
     go_region_held3 (fun w'=>w'.cell? ⟨w.heap.size,1,none⟩=some (.slice a n c)/\w'.cell? ⟨w.heap.size+1,1,none⟩=some (.slice b m d)) (go_keep) (first
      | (go_at_call 108
         first | with_reducible refine T1.o.mono ?_ | with_reducible refine T1'.o.mono ?_ | with_reducible refine T2.o.mono ?_ | with_reducible refine T2'.o.mono ?_
         rintro r w' ⟨rfl,rfl⟩))
     all_goals (
      go_wp2_with fail;refine(CW.o _).mono ?_;rintro r w' ⟨rfl,rfl⟩;go_wp2;go_ret
      first | exact⟨rfl,SB.o⟩ | exact⟨rfl,SB.o.drew⟩)
theorem Gi {w:World}{a b:Option Addr}{n c m d:Nat}(ng mg:Bool) (e f:Int) (z:Int) (hlt:e<f) (hz0:-1<=z) (hz1:z<=1)
 (HR:Hid (∀ u,Below w.heap.size w u->Calls Tryz.prog 275 #[.agg #[.bool mg,.slice b m d,.int .i64 f],.agg #[.bool ng,.slice a n c,.int .i64 e]] u fun r w'=>r=.returned (.int .i64 z)/\Below u.heap.size u w')) :
 Calls Tryz.prog 275 #[.agg #[.bool ng,.slice a n c,.int .i64 e],.agg #[.bool mg,.slice b m d,.int .i64 f]] w fun r w'=>r=.returned (.int .i64 (-z))/\Below w.heap.size w w':=by
 obtain⟨W1,hW1⟩:=ah ((w.alloc (.cells #[.bool ng,.slice a n c,.int .i64 e] 77)).alloc (.cells #[.bool mg,.slice b m d,.int .i64 f] 77));have hB:Below w.heap.size w W1:=by rw[hW1];exact(ag w _).alloc aL _
 have hz:W1.heap.size=w.heap.size+2:=by rw[hW1];simp
 have DA:Dk W1 w.heap.size ng (.slice a n c) e:=by rw[hW1];exact(Dk.new w ng (.slice a n c) e).alloc _
 have DB:Dk W1 (w.heap.size+1) mg (.slice b m d) f:=by
  exact zr
 have hs:w.heap.size<=W1.heap.size:=af
 have S0:=(bM hB DA DB);clear hz;clear hB DA DB;go_enter Tryz.func275,Tryz.ntmps275
 go_upto_region 1 with fail
 rw[<-hW1];clear hW1;obtain⟨hB,DA,DB⟩:=S0.o;obtain⟨x0,x1,x2,dB,dC,dD⟩:=DA.facts;obtain⟨y0,y1,y2,eF,eG,eO⟩:=DB.facts;have HH:=hid (HR.o W1 hB);clear hB DA DB;go_wp2_with fail;clear x0 x1 x2 dB dC dD y0 y1 y2 eF eG eO;refine HH.o.mono ?_;rintro r u1 ⟨rfl,hb⟩;obtain⟨hB,DA,DB⟩:=S0.o;have hs1:=hb.size;have S1:=(bM (hB.trans (hb.mono af)) (DA.below hb) (DB.below hb));clear hB DA DB hb HH S0;go_wp2;go_ret;exact⟨rfl,S1.o.1⟩
theorem JL {w:World}{a b:Option Addr}{n c m d:Nat}(ng mg:Bool) (e f:Int) (s t z:Int) (hs0:s=0)
 (HA:Hid (∀ u,Below w.heap.size w u->Calls Tryz.prog 52 #[.agg #[.bool ng,.slice a n c,.int .i64 e]] u fun r w'=>r=.returned (.int .i64 s)/\Below u.heap.size u w'))
 (HB:Hid (∀ u,Below w.heap.size w u->Calls Tryz.prog 52 #[.agg #[.bool mg,.slice b m d,.int .i64 f]] u fun r w'=>r=.returned (.int .i64 t)/\Below u.heap.size u w'))
 (HC:Hid (∀ u,Calls Tryz.prog 214 #[.int .i64 s,.int .i64 t] u fun r w'=>r=.returned (.int .i64 z)/\w'=u)) :
 Calls Tryz.prog 236 #[.agg #[.bool ng,.slice a n c,.int .i64 e],.agg #[.bool mg,.slice b m d,.int .i64 f]] w fun r w'=>r=.returned (.int .i64 z)/\Below w.heap.size w w':=by
 subst hs0;obtain⟨W1,hW1⟩:=ah ((w.alloc (.cells #[.bool ng,.slice a n c,.int .i64 e] 77)).alloc (.cells #[.bool mg,.slice b m d,.int .i64 f] 77));have hB:Below w.heap.size w W1:=by rw[hW1];exact(ag w _).alloc aL _
 have hz:W1.heap.size=w.heap.size+2:=by rw[hW1];simp
 have DA:Dk W1 w.heap.size ng (.slice a n c) e:=by rw[hW1];exact(Dk.new w ng (.slice a n c) e).alloc _
 have DB:Dk W1 (w.heap.size+1) mg (.slice b m d) f:=by
  exact zr
 have hs:w.heap.size<=W1.heap.size:=af
 have S0:=(bM hB DA DB);clear hz;clear hB DA DB;go_enter Tryz.func236,Tryz.ntmps236
 go_upto_region 1 with fail
 rw[<-hW1];clear hW1;obtain⟨hB,DA,DB⟩:=S0.o;obtain⟨x0,x1,x2,dB,dC,dD⟩:=DA.facts;obtain⟨y0,y1,y2,eF,eG,eO⟩:=DB.facts;have HH:=hid (HA.o W1 hB);clear hB DA DB;go_wp2_with fail;clear x0 x1 x2 dB dC dD y0 y1 y2 eF eG eO;refine HH.o.mono ?_;rintro r u1 ⟨rfl,hb⟩;obtain⟨hB,DA,DB⟩:=S0.o;have hs1:=hb.size;have S1:=(bM (hB.trans (hb.mono af)) (DA.below hb) (DB.below hb));clear hB DA DB hb HH S0;obtain⟨hB,DA,DB⟩:=S1.o;obtain⟨x0,x1,x2,dB,dC,dD⟩:=DA.facts;obtain⟨y0,y1,y2,eF,eG,eO⟩:=DB.facts;have HH:=hid (HB.o u1 hB);clear hB DA DB;go_wp2_with fail;clear x0 x1 x2 dB dC dD y0 y1 y2 eF eG eO;refine HH.o.mono ?_;rintro r u2 ⟨rfl,hb⟩;obtain⟨hB,DA,DB⟩:=S1.o;have hs2:=hb.size;have S2:=(bM (hB.trans (hb.mono af)) (DA.below hb) (DB.below hb));clear hB DA DB hb HH S1;obtain⟨hB,DA,DB⟩:=S2.o;obtain⟨x0,x1,x2,dB,dC,dD⟩:=DA.facts;obtain⟨y0,y1,y2,eF,eG,eO⟩:=DB.facts;have HH:=hid (HC.o u2);clear hB DA DB;go_wp2_with fail;clear x0 x1 x2 dB dC dD y0 y1 y2 eF eG eO;refine HH.o.mono ?_;rintro r uu ⟨rfl,hw⟩;rw[hw];clear hw uu HH;go_wp2;go_ret;exact⟨rfl,S2.o.1⟩
theorem O9 {w:World}{a b:Option Addr}{n c m d:Nat}(ng mg:Bool) (e f:Int) (s t z:Int) (hs0:(s==0)=false) (hst:(s==t)=false)
 (HA:Hid (∀ u,Below w.heap.size w u->Calls Tryz.prog 52 #[.agg #[.bool ng,.slice a n c,.int .i64 e]] u fun r w'=>r=.returned (.int .i64 s)/\Below u.heap.size u w'))
 (HB:Hid (∀ u,Below w.heap.size w u->Calls Tryz.prog 52 #[.agg #[.bool mg,.slice b m d,.int .i64 f]] u fun r w'=>r=.returned (.int .i64 t)/\Below u.heap.size u w'))
 (HC:Hid (∀ u,Calls Tryz.prog 214 #[.int .i64 s,.int .i64 t] u fun r w'=>r=.returned (.int .i64 z)/\w'=u)) :
 Calls Tryz.prog 236 #[.agg #[.bool ng,.slice a n c,.int .i64 e],.agg #[.bool mg,.slice b m d,.int .i64 f]] w fun r w'=>r=.returned (.int .i64 z)/\Below w.heap.size w w':=by
 obtain⟨W1,hW1⟩:=ah ((w.alloc (.cells #[.bool ng,.slice a n c,.int .i64 e] 77)).alloc (.cells #[.bool mg,.slice b m d,.int .i64 f] 77));have hB:Below w.heap.size w W1:=by rw[hW1];exact(ag w _).alloc aL _
 have hz:W1.heap.size=w.heap.size+2:=by rw[hW1];simp
 have DA:Dk W1 w.heap.size ng (.slice a n c) e:=by rw[hW1];exact(Dk.new w ng (.slice a n c) e).alloc _
 have DB:Dk W1 (w.heap.size+1) mg (.slice b m d) f:=by
  exact zr
 have hs:w.heap.size<=W1.heap.size:=af
 have S0:=(bM hB DA DB);clear hz;clear hB DA DB;go_enter Tryz.func236,Tryz.ntmps236
 go_upto_region 1 with fail
 rw[<-hW1];clear hW1;obtain⟨hB,DA,DB⟩:=S0.o;obtain⟨x0,x1,x2,dB,dC,dD⟩:=DA.facts;obtain⟨y0,y1,y2,eF,eG,eO⟩:=DB.facts;have HH:=hid (HA.o W1 hB);clear hB DA DB;go_wp2_with fail;clear x0 x1 x2 dB dC dD y0 y1 y2 eF eG eO;refine HH.o.mono ?_;rintro r u1 ⟨rfl,hb⟩;obtain⟨hB,DA,DB⟩:=S0.o;have hs1:=hb.size;have S1:=(bM (hB.trans (hb.mono af)) (DA.below hb) (DB.below hb));clear hB DA DB hb HH S0;obtain⟨hB,DA,DB⟩:=S1.o;obtain⟨x0,x1,x2,dB,dC,dD⟩:=DA.facts;obtain⟨y0,y1,y2,eF,eG,eO⟩:=DB.facts;have HH:=hid (HB.o u1 hB);clear hB DA DB;go_wp2_with fail;clear x0 x1 x2 dB dC dD y0 y1 y2 eF eG eO;refine HH.o.mono ?_;rintro r u2 ⟨rfl,hb⟩;obtain⟨hB,DA,DB⟩:=S1.o;have hs2:=hb.size;have S2:=(bM (hB.trans (hb.mono af)) (DA.below hb) (DB.below hb));clear hB DA DB hb HH S1;obtain⟨hB,DA,DB⟩:=S2.o;obtain⟨x0,x1,x2,dB,dC,dD⟩:=DA.facts;obtain⟨y0,y1,y2,eF,eG,eO⟩:=DB.facts;have HH:=hid (HB.o u2 hB);clear hB DA DB;go_wp2_with fail;clear x0 x1 x2 dB dC dD y0 y1 y2 eF eG eO;refine HH.o.mono ?_;rintro r u3 ⟨rfl,hb⟩;obtain⟨hB,DA,DB⟩:=S2.o;have hs3:=hb.size;have S3:=(bM (hB.trans (hb.mono af)) (DA.below hb) (DB.below hb));clear hB DA DB hb HH S2;obtain⟨hB,DA,DB⟩:=S3.o;obtain⟨x0,x1,x2,dB,dC,dD⟩:=DA.facts;obtain⟨y0,y1,y2,eF,eG,eO⟩:=DB.facts;have HH:=hid (HC.o u3);clear hB DA DB;go_wp2_with fail;clear x0 x1 x2 dB dC dD y0 y1 y2 eF eG eO;refine HH.o.mono ?_;rintro r uu ⟨rfl,hw⟩;rw[hw];clear hw uu HH;go_wp2;go_ret;exact⟨rfl,S3.o.1⟩
theorem Pb {w:World}{a b:Option Addr}{n c m d:Nat}(ng mg:Bool) (e f:Int) (s z:Int) (hs0:(s==0)=false) (bs0:-1<=s) (bs1:s<=1) (bz0:-1<=z) (bz1:z<=1) (p:Int) (hp:IntKind.i64.wrap (s*z)=p)
 (HA:Hid (∀ u,Below w.heap.size w u->Calls Tryz.prog 52 #[.agg #[.bool ng,.slice a n c,.int .i64 e]] u fun r w'=>r=.returned (.int .i64 s)/\Below u.heap.size u w'))
 (HB:Hid (∀ u,Below w.heap.size w u->Calls Tryz.prog 52 #[.agg #[.bool mg,.slice b m d,.int .i64 f]] u fun r w'=>r=.returned (.int .i64 s)/\Below u.heap.size u w'))
 (HZ:Hid (∀ u,Below w.heap.size w u->Calls Tryz.prog 275 #[.agg #[.bool ng,.slice a n c,.int .i64 e],.agg #[.bool mg,.slice b m d,.int .i64 f]] u fun r w'=>r=.returned (.int .i64 z)/\Below u.heap.size u w')) :
 Calls Tryz.prog 236 #[.agg #[.bool ng,.slice a n c,.int .i64 e],.agg #[.bool mg,.slice b m d,.int .i64 f]] w fun r w'=>r=.returned (.int .i64 p)/\Below w.heap.size w w':=by
 obtain⟨W1,hW1⟩:=ah ((w.alloc (.cells #[.bool ng,.slice a n c,.int .i64 e] 77)).alloc (.cells #[.bool mg,.slice b m d,.int .i64 f] 77));have hB:Below w.heap.size w W1:=by rw[hW1];exact(ag w _).alloc aL _
 have hz:W1.heap.size=w.heap.size+2:=by rw[hW1];simp
 have DA:Dk W1 w.heap.size ng (.slice a n c) e:=by rw[hW1];exact(Dk.new w ng (.slice a n c) e).alloc _
 have DB:Dk W1 (w.heap.size+1) mg (.slice b m d) f:=by
  exact zr
 have hs:w.heap.size<=W1.heap.size:=af
 have S0:=(bM hB DA DB);clear hz;clear hB DA DB;go_enter Tryz.func236,Tryz.ntmps236
 go_upto_region 1 with fail
 rw[<-hW1];clear hW1;obtain⟨hB,DA,DB⟩:=S0.o;obtain⟨x0,x1,x2,dB,dC,dD⟩:=DA.facts;obtain⟨y0,y1,y2,eF,eG,eO⟩:=DB.facts;have HH:=hid (HA.o W1 hB);clear hB DA DB;go_wp2_with fail;clear x0 x1 x2 dB dC dD y0 y1 y2 eF eG eO;refine HH.o.mono ?_;rintro r u1 ⟨rfl,hb⟩;obtain⟨hB,DA,DB⟩:=S0.o;have hs1:=hb.size;have S1:=(bM (hB.trans (hb.mono af)) (DA.below hb) (DB.below hb));clear hB DA DB hb HH S0;obtain⟨hB,DA,DB⟩:=S1.o;obtain⟨x0,x1,x2,dB,dC,dD⟩:=DA.facts;obtain⟨y0,y1,y2,eF,eG,eO⟩:=DB.facts;have HH:=hid (HB.o u1 hB);clear hB DA DB;go_wp2_with fail;clear x0 x1 x2 dB dC dD y0 y1 y2 eF eG eO;refine HH.o.mono ?_;rintro r u2 ⟨rfl,hb⟩;obtain⟨hB,DA,DB⟩:=S1.o;have hs2:=hb.size;have S2:=(bM (hB.trans (hb.mono af)) (DA.below hb) (DB.below hb));clear hB DA DB hb HH S1;obtain⟨hB,DA,DB⟩:=S2.o;obtain⟨x0,x1,x2,dB,dC,dD⟩:=DA.facts;obtain⟨y0,y1,y2,eF,eG,eO⟩:=DB.facts;have HH:=hid (HZ.o u2 hB);clear hB DA DB;go_wp2_with fail;clear x0 x1 x2 dB dC dD y0 y1 y2 eF eG eO;refine HH.o.mono ?_;rintro r u3 ⟨rfl,hb⟩;obtain⟨hB,DA,DB⟩:=S2.o;have hs3:=hb.size;have S3:=(bM (hB.trans (hb.mono af)) (DA.below hb) (DB.below hb));clear hB DA DB hb HH S2;go_wp2;go_ret;exact⟨rfl,S3.o.1⟩
theorem Pd(e f:Int)(he0:-9223372036854775808<=e)(he1:e<=9223372036854775807)(hf0:-9223372036854775808<=f)(hf1:f<=9223372036854775807)(h:f<=e):IntKind.u64.wrap (IntKind.u64.wrap e-IntKind.u64.wrap f)=(((e-f).toNat:Nat):Int):=by
 rw[Cs,Cs,Cs];omega
theorem SN(X Y dd:Nat)(hX:X≠0):(if bl Y<dd then 1 else if dd+bl X=bl Y then aZ (X*2^dd) Y else aZ (dd+bl X) (bl Y))=aZ (X*2^dd) Y:=by
 have hb:=R7 X dd hX
 by_cases h1:bl Y<dd
 · rw[if_pos h1,Mi af,hb];unfold aZ;rw[if_neg af,if_pos af]
 · rw[if_neg h1]
   by_cases h2:dd+bl X=bl Y
   · rw[if_pos h2]
   · rw[if_neg h2,Mi (x:=X*2^dd) af,hb,lK]
theorem SQ{w:World}{a:Option Addr}{n c:Nat}{xs:List Nat}(h1:Arg w a n c xs):bl (val xs)<=1125899906842624:=by
 have:=df xs h1.wf;rw[<-h1.len] at this;have:=LF _ _ this;have:=h1.big;omega
theorem vM{w:World}{a b:Option Addr}{n c m d:Nat}{xs ys:List Nat}(h1:Arg w a n c xs)(h2:Arg w b m d ys)(ng mg:Bool)(e f:Int)(he0:-9223372036854775808<=e)(he1:e<=9223372036854775807)(hf0:-9223372036854775808<=f)(hf1:f<=9223372036854775807)(h:f<=e)(hX:val xs≠0) :
 Calls Tryz.prog 275 #[.agg #[.bool ng,.slice a n c,.int .i64 e],.agg #[.bool mg,.slice b m d,.int .i64 f]] w fun r w'=>r=.returned (.int .i64 (oU (val xs) e (val ys) f))/\Below w.heap.size w w':=by
 have b1:=h1.big;have b2:=h2.big
 have:=Gh (w:=w) ng mg e f (bl (val xs)) (bl (val ys)) (e-f).toNat (aZ (val xs*2^(e-f).toNat) (val ys)) (SQ h1) (SQ h2) (decide_eq_false af) (Pd e f he0 he1 hf0 hf1 h)
  (hid fun u hu=>kE xs a n c u.heap.size u h1.len h1.cap af h1.wf (h1.below hu).rd)
  (hid fun u hu=>kE ys b m d u.heap.size u h2.len h2.cap af h2.wf (h2.below hu).rd)
  (hid fun u hu hd=>yA (h1.below hu) (h2.below hu) (e-f).toNat af)
 rw[SN _ _ _ hX] at this;unfold oU;rw[if_neg af];exact this
theorem Dx{w:World}{a b:Option Addr}{n c m d:Nat}{xs ys:List Nat}(h1:Arg w a n c xs)(h2:Arg w b m d ys)(ng mg:Bool)(e f:Int)(he0:-9223372036854775808<=e)(he1:e<=9223372036854775807)(hf0:-9223372036854775808<=f)(hf1:f<=9223372036854775807)(hX:val xs≠0)(hY:val ys≠0) :
 Calls Tryz.prog 275 #[.agg #[.bool ng,.slice a n c,.int .i64 e],.agg #[.bool mg,.slice b m d,.int .i64 f]] w fun r w'=>r=.returned (.int .i64 (oU (val xs) e (val ys) f))/\Below w.heap.size w w':=by
 by_cases h:e<f
 · have hr:=yz (val ys) f (val xs) e;have:=Gi (w:=w) ng mg e f (oU (val ys) f (val xs) e) h af af (hid fun u hu=>vM (h2.below hu) (h1.below hu) mg ng f e hf0 hf1 he0 he1 af hY);rw[Gg] at this;exact this
 · exact vM h1 h2 ng mg e f he0 he1 hf0 hf1 af hX
theorem Bg(n:Bool)(X:Nat):iP n X=-1\/iP n X=0\/iP n X=1:=by
 unfold iP;split
 · exact .inr (.inl rfl)
 · split
   · exact .inl rfl
   · exact .inr (.inr rfl)
theorem mO{n:Bool}{X:Nat}:iP n X=0↔X=0:=by
 unfold iP
 by_cases h:X=0
 · simp[h]
 · rw[if_neg h];cases n <;> simp[h]
theorem yB{w:World}{a b:Option Addr}{n c m d:Nat}{xs ys:List Nat}(h1:Arg w a n c xs)(h2:Arg w b m d ys)(ng mg:Bool)(e f:Int)(he0:-9223372036854775808<=e)(he1:e<=9223372036854775807)(hf0:-9223372036854775808<=f)(hf1:f<=9223372036854775807) :
 Calls Tryz.prog 236 #[.agg #[.bool ng,.slice a n c,.int .i64 e],.agg #[.bool mg,.slice b m d,.int .i64 f]] w fun r w'=>r=.returned (.int .i64 (l9 ng (val xs) e mg (val ys) f))/\Below w.heap.size w w':=by
 have SA:=hid fun u (hu:Below w.heap.size w u)=>fK (h1.below hu) ng e;have SB:=hid fun u (hu:Below w.heap.size w u)=>fK (h2.below hu) mg f;have hA:=Bg ng (val xs);have hB:=Bg mg (val ys)
 by_cases h0:iP ng (val xs)=0
 · have hX:=mO.1 h0
   have e1:l9 ng (val xs) e mg (val ys) f=jW (iP ng (val xs)) (iP mg (val ys)):=by
    unfold l9 jW;rw[if_pos hX]
   rw[e1];exact JL ng mg e f _ _ _ h0 SA SB (hid fun u=>Bf _ _ u)
 · have h0':(iP ng (val xs)==0)=false:=by simpa using h0
   by_cases hst:iP ng (val xs)=iP mg (val ys)
   · have hX:val xs≠0:=fun h=>h0 (mO.2 h);have hY:val ys≠0:=fun h=>h0 (by rw[hst];exact mO.2 h);have hz:=yz (val xs) e (val ys) f
     have e1:l9 ng (val xs) e mg (val ys) f=iP ng (val xs)*oU (val xs) e (val ys) f:=by
      unfold l9;rw[hst,if_neg af,if_neg af,if_neg hX,<-hst];unfold iP;rw[if_neg hX]
      cases ng
      · simp
      · simp only[if_true];rw[Int.neg_one_mul,Gg]
     rw[e1];rw[<-hst] at SB;refine Pb ng mg e f (iP ng (val xs)) (oU (val xs) e (val ys) f) h0' af af af af _ ?_ SA SB (hid fun u hu=>Dx (h1.below hu) (h2.below hu) ng mg e f he0 he1 hf0 hf1 hX hY);rcases hA with h|h|h <;> rcases hz with k|k|k <;> rw[h,k] <;> rfl
   · have e1:l9 ng (val xs) e mg (val ys) f=jW (iP ng (val xs)) (iP mg (val ys)):=by
      unfold l9 jW
      by_cases k:iP ng (val xs)<iP mg (val ys)
      · rw[if_pos k,if_pos k]
      · rw[if_neg k,if_neg k,if_pos af,if_pos af]
     rw[e1];exact O9 ng mg e f _ _ _ h0' (by simpa using hst) SA SB (hid fun u=>Bf _ _ u)
def nQ(n:Bool):Int:=if n then -1 else 1
def zv(B:Int)(x:Bool×Nat×Int):Int:=nQ x.1*((x.2.1*2^(x.2.2-B).toNat:Nat):Int)
theorem Pe(e l B:Int)(h:B<=e)(hl:0<=l):(2:Nat)^(e+l-B).toNat=2^l.toNat*2^(e-B).toNat:=by
 rw[<-aW];congr 1;omega
theorem ma{n:Bool}{X:Nat}{e:Int}{x:Bool×Nat×Int}(h:mkS n X e=some x)(B:Int)(hB:X=0\/B<=e):zv B x=nQ n*((X*2^(e-B).toNat:Nat):Int):=by
 unfold mkS at h
 by_cases h0:X=0
 · rw[if_pos h0] at h
   cases h
   subst h0;simp[zv]
 · rw[if_neg h0] at h
   split at h
   · cases h
   · cases h
     have hB':B<=e:=by rcases hB with h | h;exact absurd h h0;exact h
     obtain⟨m,hm,hd,_⟩:=gX X h0;show nQ n*((X/2^lo X*2^(e+(lo X:Int)-B).toNat:Nat):Int)=_;rw[Pe e (lo X) B hB' af,kV,<-dH];have hx:X/2^lo X*2^lo X=X:=by rw[hd];rw[bR];exact hm.symm
     rw[hx]
theorem SV{n m:Bool}(h:¬ n=m):nQ m=-nQ n:=by cases n <;> cases m <;> first | exact absurd rfl h | rfl
theorem Wn(n:Bool):nQ (!n)=-nQ n:=by cases n <;> rfl
theorem Wo(n m:Bool):nQ (n != m)=nQ n*nQ m:=by cases n <;> cases m <;> rfl
theorem Gj{n m:Bool}{X Y:Nat}{e f:Int}{z:Bool×Nat×Int}(h:nP n X e m Y f=some z)(hfe:f<=e)(B:Int)(hB:B<=f):zv B z=zv B (n,X,e)+zv B (m,Y,f):=by
 unfold nP at h
 split at h
 · cases h
 · have key:X*2^(e-f).toNat*2^(f-B).toNat=X*2^(e-B).toNat:=by
    rw[dH,<-aW,show(e-f).toNat+(f-B).toNat=(e-B).toNat by omega]
   show zv B z=nQ n*((X*2^(e-B).toNat:Nat):Int)+nQ m*((Y*2^(f-B).toNat:Nat):Int);generalize 2^(e-f).toNat=P at h key
   split at h
   · rename_i hnm;rw[ma h B (.inr hB),hnm,<-Int.mul_add,dV,key,xx]
   · rename_i hnm
     split at h
     · rename_i hle;rw[ma h B (.inr hB),SV hnm,Nat.sub_mul,key,Int.ofNat_sub (by rw[<-key];exact dF _ hle),Int.mul_sub,Int.neg_mul];omega
     · rename_i hle;rw[ma h B (.inr hB),Wn,SV hnm,Nat.sub_mul,key,Int.ofNat_sub (by rw[<-key];exact dF _ af),Int.mul_sub,Int.neg_mul,Int.neg_mul];omega
theorem qf{x:Bool×Nat×Int}(B:Int)(h:x.2.1=0):zv B x=0:=by unfold zv;rw[h];simp
theorem Wp{x y z:Bool×Nat×Int}(h:wu x y=some z)(B:Int)(hx:x.2.1=0\/B<=x.2.2)(hy:y.2.1=0\/B<=y.2.2):zv B z=zv B x+zv B y:=by
 obtain⟨n,X,e⟩:=x;obtain⟨m,Y,f⟩:=y;unfold wu at h;simp only at h hx hy
 by_cases h0:X=0
 · rw[if_pos h0] at h
   cases h
   rw[qf (x:=(n,X,e)) B h0,Int.zero_add]
 · rw[if_neg h0] at h
   by_cases h1:Y=0
   · rw[if_pos h1] at h
     cases h
     rw[qf (x:=(m,Y,f)) B h1,Int.add_zero]
   · rw[if_neg h1] at h;have hx':B<=e:=by rcases hx with k | k;exact absurd k h0;exact k
     have hy':B<=f:=by rcases hy with k | k;exact absurd k h1;exact k
     by_cases h2:e<f
     · rw[if_pos h2] at h;rw[Gj h af B hx',Int.add_comm]
     · rw[if_neg h2] at h;exact Gj h af B hy'
theorem Wq{x y z:Bool×Nat×Int}(h:We x y=some z)(B C:Int)(hx:x.2.1=0\/B<=x.2.2)(hy:y.2.1=0\/C<=y.2.2):zv (B+C) z=zv B x*zv C y:=by
 obtain⟨n,X,e⟩:=x;obtain⟨m,Y,f⟩:=y;unfold We at h;simp only at h hx hy
 by_cases h0:X=0
 · subst h0;rw[gT] at h;rw[ma h _ (.inl rfl),qf (x:=(n,0,e)) B rfl];simp
 · by_cases h1:Y=0
   · subst h1;rw[nL] at h;rw[ma h _ (.inl rfl),qf (x:=(m,0,f)) C rfl];simp
   · have hx':B<=e:=by rcases hx with k | k;exact absurd k h0;exact k
     have hy':C<=f:=by rcases hy with k | k;exact absurd k h1;exact k
     rw[ma h _ (.inr af),Wo];unfold zv;simp only;rw[show(e+f-(B+C)).toNat=(e-B).toNat+(f-C).toNat by omega,aW];rw[show X*Y*(2^(e-B).toNat*2^(f-C).toNat)=(X*2^(e-B).toNat)*(Y*2^(f-C).toNat) by rw[Nat.mul_mul_mul_comm]];rw[dU,kC,kC];congr 1;rw[<-kC,<-kC];congr 1;exact Int.mul_comm _ _
theorem Ws{X Y:Nat}(a b:Nat)(hX:X%2=1)(hY:Y%2=1)(h:X*2^a=Y*2^b):X=Y/\a=b:=by
 have key:∀ (a b X Y:Nat),X%2=1->Y%2=1->X*2^a=Y*2^b->a<=b:=by
  intro a b X Y hX hY h;rcases iJ b a with k|k
  · exfalso;obtain⟨d,rfl⟩:∃ d,a=b+(d+1):=⟨a-b-1,af⟩;rw[aW,bR (2^b),<-dH] at h;have:=xC (bK b) h;rw[fw,<-dH] at this;omega
  · exact k
 have h1:=key a b X Y hX hY h;have h2:=key b a Y X hY hX h.symm;have e:a=b:=af
 subst e;exact⟨xC (bK a) h,rfl⟩
theorem SX{n m:Bool}{X Y:Nat}{e f:Int}(FX:tZ n X e)(FY:tZ m Y f)(B:Int)(hB:B<=-1048576)(h:zv B (n,X,e)=zv B (m,Y,f)):n=m/\X=Y/\e=f:=by
 have hx:=FX.down;have hy:=FY.down;unfold zv at h;simp only at h;have hpX:0<2^(e-B).toNat:=bK _;have hpY:0<2^(f-B).toNat:=bK _;rcases FX.odd with oX|⟨rfl,rfl,rfl⟩
 · rcases FY.odd with oY | ⟨rfl,rfl,rfl⟩
   · have pX:0<X*2^(e-B).toNat:=nW af hpX;have pY:0<Y*2^(f-B).toNat:=nW af hpY
     have hn:n=m:=by
      generalize X*2^(e-B).toNat=P at h pX;generalize Y*2^(f-B).toNat=Q at h pY
      cases n <;> cases m <;> first | rfl | (simp only[nQ,dY,if_true,if_false] at h;omega)
     subst hn
     have hPQ:X*2^(e-B).toNat=Y*2^(f-B).toNat:=by
      generalize X*2^(e-B).toNat=P at h;generalize Y*2^(f-B).toNat=Q at h
      cases n <;> (simp only[nQ,dY,if_true,if_false] at h;omega)
     obtain⟨h1,h2⟩:=Ws _ _ oX oY hPQ;exact⟨rfl,h1,af⟩
   · exfalso;have pX:0<X*2^(e-B).toNat:=nW af hpX;generalize X*2^(e-B).toNat=P at h pX;rw[gT] at h
     cases n <;> (simp only[nQ,dY,if_true,if_false] at h;omega)
 · rcases FY.odd with oY | ⟨rfl,rfl,rfl⟩
   · exfalso;have pY:0<Y*2^(f-B).toNat:=nW af hpY;generalize Y*2^(f-B).toNat=Q at h pY;rw[gT] at h
     cases m <;> (simp only[nQ,dY,if_true,if_false] at h;omega)
   · exact⟨rfl,rfl,rfl⟩
theorem SY{n:Bool}{X:Nat}{e:Int}(F:tZ n X e):mkS n X e=some (n,X,e):=by
 unfold mkS;rcases F.odd with h|⟨rfl,rfl,rfl⟩
 · have h1:=F.size;have h2:=F.up;have h3:=F.down;rw[if_neg af,Mh h,if_neg af,jr,Nat.div_one];simp
 · rw[if_pos rfl]
theorem Bh{n m:Bool}{X Y:Nat}{e f:Int}{n':Bool}{Z:Nat}{g:Int}(h:nP n X e m Y f=some (n',Z,g)):tZ n' Z g:=by
 unfold nP at h
 split at h
 · cases h
 · split at h
   · exact di h
   · split at h
     · exact di h
     · exact di h
theorem Gl{n m:Bool}{X Y:Nat}{e f:Int}(FX:tZ n X e)(FY:tZ m Y f){n':Bool}{Z:Nat}{g:Int}(h:wu (n,X,e) (m,Y,f)=some (n',Z,g)):tZ n' Z g:=by
 unfold wu at h;simp only at h
 split at h
 · cases h;exact FY
 · split at h
   · cases h;exact FX
   · split at h
     · exact Bh h
     · exact Bh h
theorem Qai{P:Prop}(h:P:=by
 cases o with
 | none=>cases h
 | some x =>
   cases p with
   | none=>cases h
   | some y =>
     obtain⟨z,hz⟩:=xA.1 h;exact⟨x,y,z,rfl,rfl,hz,hz⟩):P:=h
theorem Pf{o p:Option (Bool×Nat×Int)}(h:(iO o p).isSome=true):∃ x y z,o=some x/\p=some y/\wu x y=some z/\iO o p=some z:=by
 exact Qai
theorem Pg{o p:Option (Bool×Nat×Int)}(h:(dM o p).isSome=true):∃ x y z,o=some x/\p=some y/\We x y=some z/\dM o p=some z:=by
 exact Qai
structure Fv (B:Int) (o:Option (Bool×Nat×Int)) (z:Int):Prop where
 ex:∃ n X e,o=some (n,X,e)/\tZ n X e/\zv B (n,X,e)=z
theorem tZ.base{n:Bool}{X:Nat}{e:Int}(F:tZ n X e){B:Int}(hB:B<=-1048576):X=0\/B<=e:=.inr (by have:=F.down;omega)
theorem Fv.add{B:Int}(hB:B<=-1048576){o p:Option (Bool×Nat×Int)}{x y:Int}(h1:Fv B o x)(h2:Fv B p y)(h:(iO o p).isSome=true):Fv B (iO o p) (x+y):=by
 obtain⟨n,X,e,rfl,F,rfl⟩:=h1.ex;obtain⟨m,Y,f,rfl,G,rfl⟩:=h2.ex;obtain⟨_,_,z,e1,e2,hz,hd⟩:=Pf h
 cases e1;cases e2
 obtain⟨n',Z,g⟩:=z;exact⟨n',Z,g,hd,Gl F G hz,Wp hz B (F.base hB) (G.base hB)⟩
theorem Fv.mul{B C:Int}(hB:B<=-1048576)(hC:C<=-1048576){o p:Option (Bool×Nat×Int)}{x y:Int}(h1:Fv B o x)(h2:Fv C p y)(h:(dM o p).isSome=true):Fv (B+C) (dM o p) (x*y):=by
 obtain⟨n,X,e,rfl,F,rfl⟩:=h1.ex;obtain⟨m,Y,f,rfl,G,rfl⟩:=h2.ex;obtain⟨_,_,z,e1,e2,hz,hd⟩:=Pg h
 cases e1;cases e2
 obtain⟨n',Z,g⟩:=z;exact⟨n',Z,g,hd,di hz,Wq hz B C (F.base hB) (G.base hC)⟩
theorem Fv.same{B:Int}(hB:B<=-1048576){o p:Option (Bool×Nat×Int)}{x y:Int}(h1:Fv B o x)(h2:Fv B p y)(h:x=y):dN o=dN p/\dX o=dX p/\dE o=dE p:=by
 obtain⟨n,X,e,rfl,F,rfl⟩:=h1.ex;obtain⟨m,Y,f,rfl,G,rfl⟩:=h2.ex;exact SX F G B hB h
theorem yC(x y k:Nat)(hk:0<k):aZ (x*k) (y*k)=aZ x y:=by
 unfold aZ;simp only[Nat.mul_lt_mul_right hk]
theorem Bi(X:Nat)(e:Int)(Y:Nat)(f B:Int)(h1:B<=e)(h2:B<=f):oU X e Y f=aZ (X*2^(e-B).toNat) (Y*2^(f-B).toNat):=by
 unfold oU
 by_cases h:e<f
 · rw[if_pos h,<-yC _ _ (2^(e-B).toNat) (bK _),dH,<-aW,show(f-e).toNat+(e-B).toNat=(f-B).toNat by omega]
 · rw[if_neg h,<-yC _ _ (2^(f-B).toNat) (bK _),dH,<-aW,show(e-f).toNat+(f-B).toNat=(e-B).toNat by omega]
theorem Mj(X k:Nat):X*2^k=0↔X=0:=by
 constructor
 · intro h;rcases Nat.mul_eq_zero.1 h with h|h
   · exact h
   · have:=bK k;omega
 · rintro rfl;exact gT _
theorem JM(n:Bool)(X:Nat)(e:Int)(m:Bool)(Y:Nat)(f B:Int)(h1:B<=e)(h2:B<=f):l9 n X e m Y f=jW (nQ n*((X*2^(e-B).toNat:Nat):Int)) (nQ m*((Y*2^(f-B).toNat:Nat):Int)):=by
 unfold l9;rw[Bi X e Y f B h1 h2,Bi Y f X e B h2 h1];have p1:=Mj X (e-B).toNat;have p2:=Mj Y (f-B).toNat;generalize X*2^(e-B).toNat=P at p1;generalize Y*2^(f-B).toNat=Q at p2;unfold iP jW aZ nQ
 have q1:X=0/\P=0\/X≠0/\0<P:=by
  by_cases h:X=0
  · exact .inl ⟨h,p1.2 h⟩
  · exact .inr ⟨h,Nat.pos_of_ne_zero fun k=>h (p1.1 k)⟩
 have q2:Y=0/\Q=0\/Y≠0/\0<Q:=by
  by_cases h:Y=0
  · exact .inl ⟨h,p2.2 h⟩
  · exact .inr ⟨h,Nat.pos_of_ne_zero fun k=>h (p2.1 k)⟩
 clear p1 p2;rcases q1 with ⟨hX,hP⟩|⟨hX,hP⟩ <;> rcases q2 with ⟨hY,hQ⟩|⟨hY,hQ⟩ <;> cases n <;> cases m <;> simp only[hX,hY,if_true,if_false,dY] <;> (repeat' split) <;> omega
abbrev vK(K:Nat):Nat:=B.val Ieee.double K
theorem Ta{K L:Nat}:vK K<vK L↔K<L:=B.gW Ieee.double
theorem jS(j F:Nat)(h:j=0\/4503599627370496<=F)(hF:F<=9007199254740992):vK (j*4503599627370496+F)=F*2^j:=by
 have:=B.Dh Ieee.double j F (by rw[B.Jq];exact h) (by rw[B.Jq];omega);rw[B.Jq] at this;exact this
def Wt(s:Bool)(K:Nat):Nat:=K+(if s then 9223372036854775808 else 0)
def sK(s:Bool)(K:Nat):Int:=if s then -(K:Int) else K
theorem Wu(s:Bool)(K:Nat)(h:K<=9218868437227405312):Wt s K=B.bw s (K/4503599627370496) (K%4503599627370496)/\K/4503599627370496<2048/\K%4503599627370496<4503599627370496/\B.odd (K/4503599627370496) (K%4503599627370496)=false/\B.pl s (K/4503599627370496) (K%4503599627370496)=sK s K:=by
 refine⟨?_,af,af,?_,?_⟩
 · unfold Wt B.bw
   cases s
   · simp;omega
   · simp;omega
 · unfold B.odd;simp;omega
 · unfold B.pl B.sg sK;rw[show K/4503599627370496*4503599627370496+K%4503599627370496=K by omega]
theorem Wv{n:Bool}{X:Nat}{e:Int}(F:tZ n X e)(h:X≠0):X%2=1:=by rcases F.odd with k | k;exact k;exact absurd k.1 h
attribute [local go_sem] B.bu B.aM gZ
def aP(x:Nat):Nat:=x%9223372036854775808
def fM(x:Nat):Bool:=decide (9223372036854775808<=x)
end
section
open Go.RowKit
def ofK(s:Bool)(K:Nat):Option (Bool×Nat×Int):=ofR s (K/4503599627370496) (K%4503599627370496)
theorem Ww(s:Bool)(K:Nat)(hK:K<9218868437227405312):∃ n X e,ofK s K=some (n,X,e)/\tZ n X e/\(X≠0->n=s)/\(X=0↔K=0)/\∀ Bs:Int,Bs<=-1074->zv Bs (n,X,e)=nQ s*((vK K*2^(-1074-Bs).toNat:Nat):Int):=by
 obtain⟨x,hx⟩:∃ x,K/4503599627370496=x:=⟨_,rfl⟩;obtain⟨f,hf⟩:∃ f,K%4503599627370496=f:=⟨_,rfl⟩;have hxl:x<2047:=af
 have hfl:f<4503599627370496:=af
 obtain⟨M,hM⟩:∃ M,(if x=0 then f else f+4503599627370496)=M:=⟨_,rfl⟩;obtain⟨E,hE⟩:∃ E:Int,(if x=0 then(-1074:Int) else(x:Int)-1075)=E:=⟨_,rfl⟩
 have hME:(x=0/\M=f/\E=-1074)\/(x≠0/\M=f+4503599627370496/\E=(x:Int)-1075):=by
  by_cases h:x=0
  · rw[if_pos h] at hM hE;exact .inl ⟨h,hM.symm,hE.symm⟩
  · rw[if_neg h] at hM hE;exact .inr ⟨h,hM.symm,hE.symm⟩
 have dG:M<9007199254740992:=af
 have hO:ofK s K=mkS s M E:=by unfold ofK ofR;rw[hx,hf,if_neg af,hM,hE]
 have hsome:(mkS s M E).isSome=true:=by
  unfold mkS
  split
  · rfl
  · rename_i h0;have hb:=De M dG;obtain⟨_,_,_,hbb⟩:=gX M h0;rw[if_neg af];rfl
 obtain⟨⟨n,X,e⟩,hz⟩:=xA.1 hsome;have hKw:K=(E+1074).toNat*4503599627370496+M:=by rcases hME with h | h <;> omega
 have hv:vK K=M*2^(E+1074).toNat:=by
  rw[hKw];exact jS _ _ (by rcases hME with h | h;left;omega;right;omega) af
 have hM0:M=0↔K=0:=by rcases hME with h | h <;> omega
 refine⟨n,X,e,by rw[hO,hz],di hz,?_,?_,?_⟩
 · intro hX;unfold mkS at hz
   split at hz
   · cases hz;exact absurd rfl hX
   · split at hz
     · cases hz
     · cases hz;rfl
 · rw[<-hM0];constructor
   · intro hX;unfold mkS at hz
     split at hz
     · assumption
     · rename_i h0
       split at hz
       · cases hz
       · obtain⟨m,_,hd,_⟩:=gX M h0
         cases hz
         omega
   · intro h0;unfold mkS at hz;rw[if_pos h0] at hz
     cases hz;rfl
 · intro Bs Wx;rw[ma hz Bs (.inr af),hv,dH,<-aW,show(E+1074).toNat+(-1074-Bs).toNat=(E-Bs).toNat by omega]
end
section
open Go.RowKit J
theorem wd_of(x:Nat)(h:x<18446744073709551616):x=Wt (fM x) (aP x):=by
 unfold Wt fM aP
 by_cases hx:9223372036854775808<=x
 · rw[decide_eq_true hx,if_pos rfl];omega
 · rw[decide_eq_false hx,if_neg aL];omega
theorem exU(a:Nat):∃ u:Nat,u=2^a:=⟨_,rfl⟩
def EU:Nat:=1074
def ES:Nat:=2095004
noncomputable def UU:Nat:=Classical.choose (exU EU)
noncomputable def SS:Nat:=Classical.choose (exU ES)
theorem U_eq:UU=2^EU:=IZ (exU EU)
theorem S_eq:SS=2^ES:=IZ (exU ES)
theorem EUS:EU+ES=2096078:=by unfold EU ES;rfl
theorem US(a:Nat)(h:a=2096078):2^a=UU*SS:=by
 rw[U_eq,S_eq,<-aW,EUS,h]
structure Fo (o:Option (Bool×Nat×Int)) (z:Int) (L H:Int):Prop where
 ex:∃ n X e,o=some (n,X,e)/\tZ n X e/\zv (-2097152) (n,X,e)=z*(SS:Int)/\(X=0\/L<=e/\e+(bl X:Int)<=H)
theorem ZT(n:Bool)(Z:Nat)(f L H:Int)(hZ:Z≠0)(h1:L<=f)(h2:f+(bl Z:Int)<=H)(hL:-1000000<=L)(hH:H<=1000000)(hd:H-L<=262144) :
 ∃ X e,mkS n Z f=some (n,X,e)/\X≠0/\L<=e/\e+(bl X:Int)<=H:=by
 obtain⟨m,e0,e1,e2⟩:=gX Z hZ;unfold mkS;rw[if_neg hZ,if_neg af];exact⟨_,_,rfl,af,af,af⟩
theorem blLe{X m:Nat}(h:X<2^m):bl X<=m:=by
 apply lM;intro hh;have:=(vH X m).1 hh;omega
theorem ZU(s:Bool)(v:Nat):nQ s*(v:Int)=B.sg s v:=by unfold nQ B.sg;cases s <;> simp
theorem Tc(K:Nat)(hK:K<9218868437227405312)(a:Nat)(ha:a=2045):vK K<9007199254740992*2^a:=by
 have h:=jS a 9007199254740992 (.inr af) af;have h2:a*4503599627370496+9007199254740992=9218868437227405312:=by rw[ha]
 rw[<-h,h2];exact Ta.2 hK
theorem of_fo(s:Bool)(K:Nat)(hK:K<9218868437227405312):∃ n X e,ofK s K=some (n,X,e)/\Fo (some (n,X,e)) (B.sg s (vK K)*(UU:Int)) (-1074) 1024/\(X=0↔K=0):=by
 obtain⟨n,X,e,h1,F,h2,h3,h4⟩:=Ww s K hK;refine⟨n,X,e,h1,⟨n,X,e,rfl,F,?_,?_⟩,h3⟩
 · obtain⟨a,ha⟩:∃ a:Nat,(-1074 - -2097152:Int).toNat=a:=⟨_,rfl⟩;have h5:=h4 (-2097152) af;rw[ha] at h5;rw[h5,US a af,dU,dU,<-kC,<-kC,ZU]
 · by_cases hX:X=0
   · exact .inl hX
   · right
     have ho:=Wv F hX;have hd:=F.down
     -- in units of the form's own place
     have h5:=h4 (min e (-1074)) af;unfold zv at h5;simp only at h5;rw[h2 hX] at h5
     have h6:X*2^(e-min e (-1074)).toNat=vK K*2^(-1074-min e (-1074)).toNat:=by
      unfold nQ at h5
      cases s
      · simp only[dY,if_false,Int.one_mul] at h5;exact_mod_cast h5
      · simp only[if_true] at h5;have:=Int.eq_of_mul_eq_mul_left aA h5;exact_mod_cast this
     have he:-1074<=e:=by
      apply Int.le_of_not_gt;intro hlt;rw[show(e-min e (-1074)).toNat=0 by omega,jr,gI] at h6;obtain⟨q,hq⟩:∃ q,(-1074-min e (-1074)).toNat=q+1:=⟨(-1074-min e (-1074)).toNat-1,af⟩;rw[hq,fw,<-dH] at h6;omega
     refine⟨he,?_⟩;rw[show(-1074-min e (-1074)).toNat=0 by omega,jr,gI] at h6;obtain⟨q,hq⟩:∃ q,(e-min e (-1074)).toNat=q:=⟨_,rfl⟩;rw[hq] at h6;obtain⟨c,hc⟩:∃ c:Nat,c=2045:=⟨_,rfl⟩;have h7:=Tc K hK c hc;have h8:=iM X hX;have h9:=fH X hX;obtain⟨b,hb⟩:∃ b,bl X=b+1:=⟨bl X-1,af⟩;rw[hb,nU] at h8;have h10:2^b*2^q<9007199254740992*2^c:=iC (dF _ h8) (by rw[h6];exact h7);rw[<-aW,show(9007199254740992:Nat)=2^53 from rfl,<-aW] at h10;have h11:=(ku (by decide:1<2)).1 h10;omega
theorem absSg(s:Bool)(v:Nat):(B.sg s v).natAbs=v:=by unfold B.sg;cases s <;> simp
abbrev Wd(x:Nat):Prop:=x<18446744073709551616
abbrev iY(x:Nat):Prop:=aP x<9218868437227405312
def qW(x:Nat):Int:=B.sg (fM x) (vK (aP x))
theorem Td(s:Bool)(v:Nat):(B.sg s v).natAbs=v:=absSg s v
end
end Go.Proofs.YtaejmlkaefnbhaaGreatDoor
