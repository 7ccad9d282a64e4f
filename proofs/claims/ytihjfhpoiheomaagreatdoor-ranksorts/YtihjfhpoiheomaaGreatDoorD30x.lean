import Derived.Test.YtihjfhpoiheomaaGreatDoorD16x
import Derived.Deep.Cut
import Derived.Deep.RegionHeld3
import Derived.Test.YtihjfhpoiheomaaGreatDoorD21x
import Derived.Deep.RegionWith
import Derived.Deep.CutRange
import Derived.Test.YtihjfhpoiheomaaGreatDoorW25x
import Derived.BigQuiet
import Derived.Laws.Bits64
import Derived.Laws.Bits64b
import Derived.Test.YtihjfhpoiheomaaGreatDoorD8x
import Derived.Test.YtihjfhpoiheomaaGreatDoorM1x
import Derived.Test.YtihjfhpoiheomaaGreatDoorRS8x
import Derived.Test.YtihjfhpoiheomaaGreatDoorM4x
import Derived.OwnWalk
import Derived.ArgAppend
import Derived.WalkMore
set_option linter.unusedVariables false
set_option linter.unusedSimpArgs false
set_option maxHeartbeats 16000000
set_option maxRecDepth 20000
namespace Go.Proofs.YtihjfhpoiheomaaGreatDoor
namespace J
end J
section
open Go.RowKit
theorem mul_res (W:World) (g:Nat) (n:Bool) (v:Value) (e k:Int) (tmps:Array Value) (ht:tmps[4]?.getD undef=.pointer (some ⟨g,0,none⟩)) (hk:tmps[5]?.getD undef=.int .i64 k) (D:Dk W g n v e) :
 (results Tryz.f76 tmps).run Tryz.prog W=.ok (.tuple #[.agg #[.bool n,v,.int .i64 e],.int .i64 k]) W:=by
 obtain ⟨x0,x1,x2,xf0,xf1,xf2⟩:=D.facts;simp [results,Tryz.results76,ht,hk,go_sem,x0,x1,x2]
theorem mul_bad {w:World}{a b:Option Addr}{l c k d:Nat}(n m:Bool) (e f:Int) (HFM:Hid (∀ u,Below w.heap.size w u→Calls Tryz.prog 107 #[.agg #[.bool n,.slice a l c,.int .i64 e],.agg #[.bool m,.slice b k d,.int .i64 f]] u fun r w'=>r=.returned (.tuple #[.agg #[.bool false,.slice none 0 0,.int .i64 0],.agg #[.bool false,.slice none 0 0,.int .i64 0],.int .i64 2])∧Below u.heap.size u w')):Calls Tryz.prog 76 #[.agg #[.bool n,.slice a l c,.int .i64 e],.agg #[.bool m,.slice b k d,.int .i64 f]] w fun r w'=>r=.returned (.tuple #[.agg #[.bool false,.slice none 0 0,.int .i64 0],.int .i64 2])∧Below w.heap.size w w':=by
 obtain ⟨W1,hW1⟩:∃ W,W=((w.alloc (.cells #[.bool n,.slice a l c,.int .i64 e] 77)).alloc (.cells #[.bool m,.slice b k d,.int .i64 f] 77)).alloc (.cells #[.bool false,.slice none 0 0,.int .i64 0] 77):=⟨_,rfl⟩;obtain ⟨hB,hz1,DA,DB,DR⟩:=add_begin w n m (.slice a l c) (.slice b k d) e f W1 hW1;have H1:=hid (HFM.out W1 hB);have SB:=(qsd (ai hB (ai hz1 (ai DA (ai DB DR)))));clear hB hz1 DA DB DR HFM;go_enter Tryz.func76,Tryz.ntmps76
 go_wp2_with fail
 rw [←hW1];clear hW1;refine H1.out.mono ?_;rintro r u1 ⟨rfl,hb⟩;obtain ⟨hB,hz1,DA,DB,DR⟩:=SB.out;have EA:=DA.below hb;have EB:=DB.below hb;have ER:=DR.below hb;obtain ⟨x0,x1,x2,xf0,xf1,xf2⟩:=EA.facts;obtain ⟨y0,y1,y2,yf0,yf1,yf2⟩:=EB.facts;obtain ⟨r0,r1,r2,rf0,rf1,rf2⟩:=ER.facts;have F1:=qsd (show Fin w.heap.size (w.heap.size+3) w u1 (.slice none 0 0) 0 from ⟨Nt.nil _ _,hB.trans (hb.mono (by omega)),by have:=hb.size;omega⟩)
 have SE:=qsd ER;clear hb H1 hB hz1 DA DB DR EA EB ER SB;go_wp2;refine bodyPost_ret (mul_res _ (w.heap.size+1+1) false (.slice none 0 0) 0 2 _ rfl rfl (((SE.out.other _ (by omega) _ _ _).other _ (by omega) _ _ _).set _ _ _)) rfl ⟨rfl,?_⟩
 refine Fin.bel (m:=w.heap.size+3) (v:=.slice none 0 0) (X:=0) ?_
 repeat (with_reducible first | exact F1.out | refine Fin.drew ?_ | refine Fin.alloc ?_ _ | refine Fin.set ?_ _ _ _ (by omega) (by omega))
theorem mul_long {w:World}{a b:Option Addr}{l c k d:Nat}(n m:Bool) (e f:Int) (n1 m1:Bool) (X Y:Nat) (e1 f1:Int) (lX:(ws X).length≤8192) (lY:(ws Y).length≤8192) (be0:-1048576≤e1) (be1:e1≤1048576) (bf0:-1048576≤f1) (bf1:f1≤1048576)
 (HFM:Hid (∀ u,Below w.heap.size w u→Calls Tryz.prog 107 #[.agg #[.bool n,.slice a l c,.int .i64 e],.agg #[.bool m,.slice b k d,.int .i64 f]] u fun r w'=>∃ v v',r=.returned (.tuple #[.agg #[.bool n1,v,.int .i64 e1],.agg #[.bool m1,v',.int .i64 f1],.int .i64 0])∧Nt u.heap.size w' v X∧Nt u.heap.size w' v' Y∧Below u.heap.size u w'))
 (HSH:Hid (∀ (u:World) (p:Option Addr) (q:Nat) (p2:Option Addr) (q2:Nat),Below w.heap.size w u→Arg u p (ws X).length q (ws X)→Arg u p2 (ws Y).length q2 (ws Y)→Calls Tryz.prog 111 #[.slice p (ws X).length q,.slice p2 (ws Y).length q2] u fun r w'=>∃ v,r=.returned (.tuple #[v,.int .i64 2])∧Nt u.heap.size w' v 0∧Below u.heap.size u w')):Calls Tryz.prog 76 #[.agg #[.bool n,.slice a l c,.int .i64 e],.agg #[.bool m,.slice b k d,.int .i64 f]] w fun r w'=>r=.returned (.tuple #[.agg #[.bool false,.slice none 0 0,.int .i64 0],.int .i64 2])∧Below w.heap.size w w':=by
 have l0:(ws 0).length=0:=by rw [ws_zero];rfl
 obtain ⟨W1,hW1⟩:∃ W,W=((w.alloc (.cells #[.bool n,.slice a l c,.int .i64 e] 77)).alloc (.cells #[.bool m,.slice b k d,.int .i64 f] 77)).alloc (.cells #[.bool false,.slice none 0 0,.int .i64 0] 77):=⟨_,rfl⟩;obtain ⟨hB,hz1,DA,DB,DR⟩:=add_begin w n m (.slice a l c) (.slice b k d) e f W1 hW1;have H1:=hid (HFM.out W1 hB);have SB:=(qsd (ai hB (ai hz1 (ai DA (ai DB DR)))));clear hB hz1 DA DB DR HFM;go_enter Tryz.func76,Tryz.ntmps76
 go_wp2_with fail
 rw [←hW1];clear hW1;refine H1.out.mono ?_;rintro r u1 ⟨v,v',rfl,hN,hM,hb⟩;obtain ⟨a1,c1,rfl,_⟩:=hN.arg (by omega)
 obtain ⟨a2,c2,rfl,_⟩:=hM.arg (by omega)
 obtain ⟨hB,hz1,DA,DB,DR⟩:=SB.out;have EA:=DA.below hb;have EB:=DB.below hb;have ER:=DR.below hb;obtain ⟨x0,x1,x2,xf0,xf1,xf2⟩:=EA.facts;obtain ⟨y0,y1,y2,yf0,yf1,yf2⟩:=EB.facts;obtain ⟨r0,r1,r2,rf0,rf1,rf2⟩:=ER.facts;have FX:=qsd (show Fin w.heap.size (w.heap.size+3) w u1 (.slice a1 (ws X).length c1) X from ⟨by rw [←hz1];exact hN,hB.trans (hb.mono (by omega)),by have:=hb.size;omega⟩)
 have FY:=qsd (show Fin w.heap.size (w.heap.size+3) w u1 (.slice a2 (ws Y).length c2) Y from ⟨by rw [←hz1];exact hM,hB.trans (hb.mono (by omega)),by have:=hb.size;omega⟩)
 have SE:=(qsd (ai EA (ai EB ER)));clear hN hM hb H1 hB hz1 DA DB DR EA EB ER SB;obtain ⟨EA,EB,ER⟩:=SE.out;obtain ⟨U1,hU1⟩:∃ U,U=st3 (st3 u1 w.heap.size (.bool n1) (.slice a1 (ws X).length c1) (.int .i64 e1)) (w.heap.size+1) (.bool m1) (.slice a2 (ws Y).length c2) (.int .i64 f1):=⟨_,rfl⟩;have IA:Dk U1 w.heap.size n1 (.slice a1 (ws X).length c1) e1:=by rw [hU1];exact ((EA.set _ _ _).other _ (by omega) _ _ _)
 have IB:Dk U1 (w.heap.size+1) m1 (.slice a2 (ws Y).length c2) f1:=by rw [hU1];exact ((EB.other _ (by omega) _ _ _).set _ _ _)
 have IR:Dk U1 (w.heap.size+1+1) false (.slice none 0 0) 0:=by rw [hU1];exact ((ER.other _ (by omega) _ _ _).other _ (by omega) _ _ _)
 have GX:Fin w.heap.size (w.heap.size+3) w U1 (.slice a1 (ws X).length c1) X:=by rw [hU1];exact (Fin.st3 (Fin.st3 FX.out _ _ _ _ (by omega) (by omega)) _ _ _ _ (by omega) (by omega))
 have GY:Fin w.heap.size (w.heap.size+3) w U1 (.slice a2 (ws Y).length c2) Y:=by rw [hU1];exact (Fin.st3 (Fin.st3 FY.out _ _ _ _ (by omega) (by omega)) _ _ _ _ (by omega) (by omega))
 have H2:=hid (HSH.out U1 a1 c1 a2 c2 GX.bel (GX.nt.arg' (by omega)).2 (GY.nt.arg' (by omega)).2)
 have S1:=(qsd (ai IA (ai IB (ai IR (ai GX GY)))));have hzU:w.heap.size+3≤U1.heap.size:=by have:=IR.lt;omega
 clear EA EB ER IA IB IR GX GY SE HSH;unfold st3 at hU1
 go_wp2_with fail
 rw [←hU1];clear hU1 x0 x1 x2 xf0 xf1 xf2 y0 y1 y2 yf0 yf1 yf2 r0 r1 r2 rf0 rf1 rf2;refine H2.out.mono ?_;rintro r u2 ⟨v,rfl,hN,hb⟩;obtain ⟨a3,c3,rfl,_⟩:=hN.arg (by omega)
 obtain ⟨IA,IB,IR,GX,GY⟩:=S1.out;obtain ⟨x0,x1,x2,xf0,xf1,xf2⟩:=(IA.below hb).facts;obtain ⟨y0,y1,y2,yf0,yf1,yf2⟩:=(IB.below hb).facts;obtain ⟨r0,r1,r2,rf0,rf1,rf2⟩:=(IR.below hb).facts;have S2:=(qsd (ai (IR.below hb) ((GX.below hb))));clear hN hb H2 S1 IA IB IR GX GY;go_wp2;refine bodyPost_ret (mul_res _ (w.heap.size+1+1) false (.slice none 0 0) 0 2 _ rfl rfl (S2.out.1.set _ _ _)) rfl ⟨rfl,?_⟩;refine Fin.bel (m:=w.heap.size+3) (v:=.slice a1 (ws X).length c1) (X:=X) ?_
 repeat (with_reducible first | exact S2.out.2 | refine Fin.drew ?_ | refine Fin.alloc ?_ _ | refine Fin.set ?_ _ _ _ (by omega) (by omega))
theorem mul_ok {w:World}{a b:Option Addr}{l c k d:Nat}(n m:Bool) (e f:Int) (n1 m1:Bool) (X Y:Nat) (e1 f1:Int) (lX:(ws X).length≤8192) (lY:(ws Y).length≤8192) (be0:-1048576≤e1) (be1:e1≤1048576) (bf0:-1048576≤f1) (bf1:f1≤1048576)
 (HFM:Hid (∀ u,Below w.heap.size w u→Calls Tryz.prog 107 #[.agg #[.bool n,.slice a l c,.int .i64 e],.agg #[.bool m,.slice b k d,.int .i64 f]] u fun r w'=>∃ v v',r=.returned (.tuple #[.agg #[.bool n1,v,.int .i64 e1],.agg #[.bool m1,v',.int .i64 f1],.int .i64 0])∧Nt u.heap.size w' v X∧Nt u.heap.size w' v' Y∧Below u.heap.size u w')) (L:Nat) (lL:(ws L).length≤8192) (dn:Bool) (V:Nat) (de er:Int) (lV:(ws V).length≤8192)
 (HSH:Hid (∀ (u:World) (p:Option Addr) (q:Nat) (p2:Option Addr) (q2:Nat),Below w.heap.size w u→Arg u p (ws X).length q (ws X)→Arg u p2 (ws Y).length q2 (ws Y)→Calls Tryz.prog 111 #[.slice p (ws X).length q,.slice p2 (ws Y).length q2] u fun r w'=>∃ v,r=.returned (.tuple #[v,.int .i64 0])∧Nt u.heap.size w' v L∧Below u.heap.size u w'))
 (HT:Hid (∀ (u:World) (p:Option Addr) (s:Nat),Below w.heap.size w u→Arg u p (ws L).length s (ws L)→Calls Tryz.prog 105 #[.bool (n1 != m1),.slice p (ws L).length s,.int .i64 (e1+f1)] u fun r w'=>(∃ v,r=.returned (.tuple #[.agg #[.bool dn,v,.int .i64 de],.int .i64 er])∧Nt u.heap.size w' v V)∧Below u.heap.size u w')):Calls Tryz.prog 76 #[.agg #[.bool n,.slice a l c,.int .i64 e],.agg #[.bool m,.slice b k d,.int .i64 f]] w fun r w'=>(∃ v,r=.returned (.tuple #[.agg #[.bool dn,v,.int .i64 de],.int .i64 er])∧Nt w.heap.size w' v V)∧Below w.heap.size w w':=by
 obtain ⟨W1,hW1⟩:∃ W,W=((w.alloc (.cells #[.bool n,.slice a l c,.int .i64 e] 77)).alloc (.cells #[.bool m,.slice b k d,.int .i64 f] 77)).alloc (.cells #[.bool false,.slice none 0 0,.int .i64 0] 77):=⟨_,rfl⟩;obtain ⟨hB,hz1,DA,DB,DR⟩:=add_begin w n m (.slice a l c) (.slice b k d) e f W1 hW1;have H1:=hid (HFM.out W1 hB);have SB:=(qsd (ai hB (ai hz1 (ai DA (ai DB DR)))));clear hB hz1 DA DB DR HFM;go_enter Tryz.func76,Tryz.ntmps76
 go_wp2_with fail
 rw [←hW1];clear hW1;refine H1.out.mono ?_;rintro r u1 ⟨v,v',rfl,hN,hM,hb⟩;obtain ⟨a1,c1,rfl,_⟩:=hN.arg (by omega)
 obtain ⟨a2,c2,rfl,_⟩:=hM.arg (by omega)
 obtain ⟨hB,hz1,DA,DB,DR⟩:=SB.out;have EA:=DA.below hb;have EB:=DB.below hb;have ER:=DR.below hb;obtain ⟨x0,x1,x2,xf0,xf1,xf2⟩:=EA.facts;obtain ⟨y0,y1,y2,yf0,yf1,yf2⟩:=EB.facts;obtain ⟨r0,r1,r2,rf0,rf1,rf2⟩:=ER.facts;have FX:=qsd (show Fin w.heap.size (w.heap.size+3) w u1 (.slice a1 (ws X).length c1) X from ⟨by rw [←hz1];exact hN,hB.trans (hb.mono (by omega)),by have:=hb.size;omega⟩)
 have FY:=qsd (show Fin w.heap.size (w.heap.size+3) w u1 (.slice a2 (ws Y).length c2) Y from ⟨by rw [←hz1];exact hM,hB.trans (hb.mono (by omega)),by have:=hb.size;omega⟩)
 have SE:=(qsd (ai EA (ai EB ER)));clear hN hM hb H1 hB hz1 DA DB DR EA EB ER SB;obtain ⟨EA,EB,ER⟩:=SE.out;obtain ⟨U1,hU1⟩:∃ U,U=st3 (st3 u1 w.heap.size (.bool n1) (.slice a1 (ws X).length c1) (.int .i64 e1)) (w.heap.size+1) (.bool m1) (.slice a2 (ws Y).length c2) (.int .i64 f1):=⟨_,rfl⟩;have IA:Dk U1 w.heap.size n1 (.slice a1 (ws X).length c1) e1:=by rw [hU1];exact ((EA.set _ _ _).other _ (by omega) _ _ _)
 have IB:Dk U1 (w.heap.size+1) m1 (.slice a2 (ws Y).length c2) f1:=by rw [hU1];exact ((EB.other _ (by omega) _ _ _).set _ _ _)
 have IR:Dk U1 (w.heap.size+1+1) false (.slice none 0 0) 0:=by rw [hU1];exact ((ER.other _ (by omega) _ _ _).other _ (by omega) _ _ _)
 have GX:Fin w.heap.size (w.heap.size+3) w U1 (.slice a1 (ws X).length c1) X:=by rw [hU1];exact (Fin.st3 (Fin.st3 FX.out _ _ _ _ (by omega) (by omega)) _ _ _ _ (by omega) (by omega))
 have GY:Fin w.heap.size (w.heap.size+3) w U1 (.slice a2 (ws Y).length c2) Y:=by rw [hU1];exact (Fin.st3 (Fin.st3 FY.out _ _ _ _ (by omega) (by omega)) _ _ _ _ (by omega) (by omega))
 have H2:=hid (HSH.out U1 a1 c1 a2 c2 GX.bel (GX.nt.arg' (by omega)).2 (GY.nt.arg' (by omega)).2)
 have S1:=(qsd (ai IA (ai IB (ai IR (ai GX GY)))));have hzU:w.heap.size+3≤U1.heap.size:=by have:=IR.lt;omega
 clear EA EB ER IA IB IR GX GY SE HSH;unfold st3 at hU1
 go_wp2_with fail
 rw [←hU1];clear hU1 x0 x1 x2 xf0 xf1 xf2 y0 y1 y2 yf0 yf1 yf2 r0 r1 r2 rf0 rf1 rf2;refine H2.out.mono ?_;rintro r u2 ⟨v,rfl,hN,hb⟩;obtain ⟨a3,c3,rfl,_⟩:=hN.arg (by omega)
 obtain ⟨IA,IB,IR,GX,GY⟩:=S1.out;obtain ⟨x0,x1,x2,xf0,xf1,xf2⟩:=(IA.below hb).facts;obtain ⟨y0,y1,y2,yf0,yf1,yf2⟩:=(IB.below hb).facts;obtain ⟨r0,r1,r2,rf0,rf1,rf2⟩:=(IR.below hb).facts;have H3:=hid (HT.out u2 a3 c3 (GX.below hb).bel (hN.arg' (by omega)).2)
 have S2:=(qsd (ai (IR.below hb) ((GX.below hb))));have hz2:w.heap.size+3≤u2.heap.size:=by have:=hb.size;omega
 clear hN hb H2 S1 IA IB IR GX GY HT
 go_wp2_with fail
 refine H3.out.mono ?_;rintro r u3 ⟨⟨v,rfl,hN⟩,hb⟩;obtain ⟨a4,c4,rfl,_⟩:=hN.arg (by omega)
 have IR:=S2.out.1.below hb;obtain ⟨s0,s1,s2,sf0,sf1,sf2⟩:=IR.facts;have FV:=qsd (show Fin w.heap.size (w.heap.size+3) w u3 (.slice a4 (ws V).length c4) V from ⟨hN.mono hz2,(S2.out.2.below hb).bel,by have:=hb.size;omega⟩)
 have S3:=qsd IR;clear hN hb IR H3 S2;go_wp2;refine bodyPost_ret (mul_res _ (w.heap.size+1+1) dn (.slice a4 (ws V).length c4) de er _ rfl rfl (S3.out.set _ _ _)) rfl ?_;refine Fin.dans (m:=w.heap.size+3) ?_ (by omega)
 repeat (with_reducible first | exact FV.out | refine Fin.drew ?_ | refine Fin.alloc ?_ _ | refine Fin.set ?_ _ _ _ (by omega) (by omega))
def mulF (x y:Bool×Nat×Int):Option (Bool×Nat×Int):=mkS (x.1 != y.1) (x.2.1*y.2.1) (x.2.2+y.2.2)
def mulD (o p:Option (Bool×Nat×Int)):Option (Bool×Nat×Int) :=
 match o,p with
 | some x,some y=>mulF x y
 | _,_=>none
theorem Mul_one {w:World}{p q:Option Addr}{s t X Y:Nat}(L:Nat) (er:Int) (hA:Arg w p (ws X).length s (ws X)) (hB:Arg w q (ws Y).length t (ws Y)) (h:mulS X Y=(L,er)) :
 Calls Tryz.prog 111 #[.slice p (ws X).length s,.slice q (ws Y).length t] w fun r w'=>∃ v,r=.returned (.tuple #[v,.int .i64 er])∧Nt w.heap.size w' v L∧Below w.heap.size w w':=by
 have:=Mul_any (ws X) (ws Y) p q (ws X).length s (ws Y).length t w.heap.size w hA.len hB.len hA.cap hB.cap (by have:=hA.big;omega) (by have:=hB.big;omega) hA.wf hB.wf hA.rd hB.rd (Nat.le_refl _)
 rw [val_ws,val_ws,h] at this;exact this.mono fun r w' ⟨⟨v,h1,h2⟩,h3⟩=>⟨v,h1,h2,h3⟩
theorem lo_odd1 {X:Nat}(h:X%2=1):lo X=0:=by
 have:=lo_eq 0 (X/2);rw [show 2^0*(2*(X/2)+1)=X by omega] at this
 exact this
theorem Mul_any3 {w:World}{a b:Option Addr}{l c k d:Nat}{xs ys:List Nat}(h1:Arg w a l c xs) (h2:Arg w b k d ys) (hT:Tab w) (n m:Bool) (e f:Int) (he0:-9223372036854775808≤e) (he1:e≤9223372036854775807) (hf0:-9223372036854775808≤f) (hf1:f≤9223372036854775807) :
 Calls Tryz.prog 76 #[.agg #[.bool n,.slice a l c,.int .i64 e],.agg #[.bool m,.slice b k d,.int .i64 f]] w fun r w'=>DAns w.heap.size w' r (mulD (mkS n (val xs) e) (mkS m (val ys) f))∧Below w.heap.size w w':=by
 have zero:∀ {r:Ending} {w':World},(r=.returned (.tuple #[.agg #[.bool false,.slice none 0 0,.int .i64 0],.int .i64 2])∧Below w.heap.size w w')→DAns w.heap.size w' r none∧Below w.heap.size w w':=fun ⟨h1,h2⟩=>⟨⟨_,h1,Nt.nil _ _⟩,h2⟩
 cases hx:mkS n (val xs) e with
 | none =>
   exact (mul_bad n m e f (hid fun u hu=>forms_bad1 (h1.below hu) (h2.below hu) (hT.belows hu) n m e f he0 he1 hf0 hf1 hx)).mono fun r w' h=>zero h
 | some x =>
   obtain ⟨n1,X,e1⟩:=x
   cases hy:mkS m (val ys) f with
   | none =>
     exact (mul_bad n m e f (hid fun u hu=>forms_bad2 (h1.below hu) (h2.below hu) (hT.belows hu) n m e f he0 he1 hf0 hf1 n1 X e1 hx hy)).mono fun r w' h=>zero h
   | some y =>
     obtain ⟨m1,Y,f1⟩:=y;have HFM:=hid fun u (hu:Below w.heap.size w u)=>forms_ok (h1.below hu) (h2.below hu) (hT.belows hu) n m e f he0 he1 hf0 hf1 n1 m1 X Y e1 f1 hx hy
     have FX:=mkS_frm hx;have FY:=mkS_frm hy;have lX:=frm_len FX;have lY:=frm_len FY;have:=FX.up;have:=FX.down;have:=FY.up;have:=FY.down
     show Calls _ _ _ _ fun r w'=>DAns w.heap.size w' r (mkS (n1 != m1) (X*Y) (e1+f1))∧_
     by_cases hL:LG (X*Y)
     · have hs:mulS X Y=(0,2):=by unfold mulS;rw [if_neg (by intro h;rcases h with h | h;exact notLG FX.size h;exact notLG FY.size h),if_pos hL]
       have hno:mkS (n1 != m1) (X*Y) (e1+f1)=none:=by
        have hb:=(LG_bl _).1 hL;have h0:X*Y≠0:=by intro h;rw [h,bl_zero] at hb;omega
        have oX:X%2=1:=by rcases FX.odd with h | h;exact h;rw [h.1,Nat.zero_mul] at h0;exact absurd rfl h0
        have oY:Y%2=1:=by rcases FY.odd with h | h;exact h;rw [h.1,Nat.mul_zero] at h0;exact absurd rfl h0
        have hlo:lo (X*Y)=0:=lo_odd1 (by rw [Nat.mul_mod,oX,oY])
        unfold mkS;rw [if_neg h0,if_pos (.inl (by rw [hlo];omega))]
       rw [hno];exact (mul_long n m e f n1 m1 X Y e1 f1 lX lY (by omega) (by omega) (by omega) (by omega) HFM (hid fun u p q p2 q2 hu hA hB=>Mul_one 0 2 hA hB hs)).mono fun r w' h=>zero h
     · have hs:mulS X Y=(X*Y,0):=by unfold mulS;rw [if_neg (by intro h;rcases h with h | h;exact notLG FX.size h;exact notLG FY.size h),if_neg hL]
       obtain ⟨L,hLe⟩:∃ L,X*Y=L:=⟨_,rfl⟩;rw [hLe] at hs hL ⊢;have lL:(ws L).length≤8192:=by unfold LG at hL;omega
       exact mul_ok n m e f n1 m1 X Y e1 f1 lX lY (by omega) (by omega) (by omega) (by omega) HFM L lL _ _ _ _ (mkS_len (n1 != m1) L (e1+f1)) (hid fun u p q p2 q2 hu hA hB=>Mul_one L 0 hA hB hs)
        (hid fun u p s hu hA=>by have:=Make_any hA (hT.belows hu) (n1 != m1) (e1+f1) (by omega) (by omega);rw [val_ws] at this;exact this)
end
section
open Go.RowKit
def sg1 (n:Bool):Int:=if n then -1 else 1
def zv (B:Int) (x:Bool×Nat×Int):Int:=sg1 x.1*((x.2.1*2^(x.2.2-B).toNat:Nat):Int)
theorem pow_split (e l B:Int) (h:B≤e) (hl:0≤l):(2:Nat)^(e+l-B).toNat=2^l.toNat*2^(e-B).toNat:=by
 rw [←Nat.pow_add];congr 1;omega
theorem zv_mkS {n:Bool}{X:Nat}{e:Int}{x:Bool×Nat×Int}(h:mkS n X e=some x) (B:Int) (hB:X=0∨B≤e):zv B x=sg1 n*((X*2^(e-B).toNat:Nat):Int):=by
 unfold mkS at h
 by_cases h0:X=0
 · rw [if_pos h0] at h
   cases h
   subst h0;simp [zv]
 · rw [if_neg h0] at h
   split at h
   · cases h
   · cases h
     have hB':B≤e:=by rcases hB with h | h;exact absurd h h0;exact h
     obtain ⟨m,hm,hd,_⟩:=odd_part X h0
     show sg1 n*((X/2^lo X*2^(e+(lo X:Int)-B).toNat:Nat):Int)=_
     rw [pow_split e (lo X) B hB' (by omega),Int.toNat_natCast,←Nat.mul_assoc]
     have hx:X/2^lo X*2^lo X=X:=by rw [hd];rw [Nat.mul_comm];exact hm.symm
     rw [hx]
theorem sg1_ne {n m:Bool}(h:¬ n=m):sg1 m=-sg1 n:=by cases n <;> cases m <;> first | exact absurd rfl h | rfl
theorem sg1_not (n:Bool):sg1 (!n)=-sg1 n:=by cases n <;> rfl
theorem sg1_bne (n m:Bool):sg1 (n != m)=sg1 n*sg1 m:=by cases n <;> cases m <;> rfl
theorem zv_addUp {n m:Bool}{X Y:Nat}{e f:Int}{z:Bool×Nat×Int}(h:addUp n X e m Y f=some z) (hfe:f≤e) (B:Int) (hB:B≤f):zv B z=zv B (n,X,e)+zv B (m,Y,f):=by
 unfold addUp at h
 split at h
 · cases h
 · have key:X*2^(e-f).toNat*2^(f-B).toNat=X*2^(e-B).toNat:=by
    rw [Nat.mul_assoc,←Nat.pow_add,show (e-f).toNat+(f-B).toNat=(e-B).toNat by omega]
   show zv B z=sg1 n*((X*2^(e-B).toNat:Nat):Int)+sg1 m*((Y*2^(f-B).toNat:Nat):Int)
   generalize 2^(e-f).toNat=P at h key
   split at h
   · rename_i hnm
     rw [zv_mkS h B (.inr hB),hnm,←Int.mul_add,Nat.add_mul,key,Int.natCast_add]
   · rename_i hnm
     split at h
     · rename_i hle
       rw [zv_mkS h B (.inr hB),sg1_ne hnm,Nat.sub_mul,key,Int.ofNat_sub (by rw [←key];exact Nat.mul_le_mul_right _ hle),Int.mul_sub,Int.neg_mul]
       omega
     · rename_i hle
       rw [zv_mkS h B (.inr hB),sg1_not,sg1_ne hnm,Nat.sub_mul,key,Int.ofNat_sub (by rw [←key];exact Nat.mul_le_mul_right _ (by omega)),Int.mul_sub,Int.neg_mul,Int.neg_mul]
       omega
theorem zv_zero {x:Bool×Nat×Int}(B:Int) (h:x.2.1=0):zv B x=0:=by unfold zv;rw [h];simp
theorem zv_addF {x y z:Bool×Nat×Int}(h:addF x y=some z) (B:Int) (hx:x.2.1=0∨B≤x.2.2) (hy:y.2.1=0∨B≤y.2.2):zv B z=zv B x+zv B y:=by
 obtain ⟨n,X,e⟩:=x;obtain ⟨m,Y,f⟩:=y;unfold addF at h;simp only at h hx hy
 by_cases h0:X=0
 · rw [if_pos h0] at h
   cases h
   rw [zv_zero (x:=(n,X,e)) B h0,Int.zero_add]
 · rw [if_neg h0] at h
   by_cases h1:Y=0
   · rw [if_pos h1] at h
     cases h
     rw [zv_zero (x:=(m,Y,f)) B h1,Int.add_zero]
   · rw [if_neg h1] at h
     have hx':B≤e:=by rcases hx with k | k;exact absurd k h0;exact k
     have hy':B≤f:=by rcases hy with k | k;exact absurd k h1;exact k
     by_cases h2:e<f
     · rw [if_pos h2] at h
       rw [zv_addUp h (by omega) B hx',Int.add_comm]
     · rw [if_neg h2] at h
       exact zv_addUp h (by omega) B hy'
theorem zv_mulF {x y z:Bool×Nat×Int}(h:mulF x y=some z) (B C:Int) (hx:x.2.1=0∨B≤x.2.2) (hy:y.2.1=0∨C≤y.2.2):zv (B+C) z=zv B x*zv C y:=by
 obtain ⟨n,X,e⟩:=x;obtain ⟨m,Y,f⟩:=y;unfold mulF at h;simp only at h hx hy
 by_cases h0:X=0
 · subst h0
   rw [Nat.zero_mul] at h;rw [zv_mkS h _ (.inl rfl),zv_zero (x:=(n,0,e)) B rfl];simp
 · by_cases h1:Y=0
   · subst h1
     rw [Nat.mul_zero] at h;rw [zv_mkS h _ (.inl rfl),zv_zero (x:=(m,0,f)) C rfl];simp
   · have hx':B≤e:=by rcases hx with k | k;exact absurd k h0;exact k
     have hy':C≤f:=by rcases hy with k | k;exact absurd k h1;exact k
     rw [zv_mkS h _ (.inr (by omega)),sg1_bne]
     unfold zv;simp only;rw [show (e+f-(B+C)).toNat=(e-B).toNat+(f-C).toNat by omega,Nat.pow_add]
     rw [show X*Y*(2^(e-B).toNat*2^(f-C).toNat)=(X*2^(e-B).toNat)*(Y*2^(f-C).toNat) by rw [Nat.mul_mul_mul_comm]]
     rw [Int.natCast_mul,Int.mul_assoc,Int.mul_assoc]
     congr 1
     rw [←Int.mul_assoc,←Int.mul_assoc]
     congr 1
     exact Int.mul_comm _ _
theorem odd_pow {X Y:Nat}(a b:Nat) (hX:X%2=1) (hY:Y%2=1) (h:X*2^a=Y*2^b):X=Y∧a=b:=by
 have key:∀ (a b X Y:Nat),X%2=1→Y%2=1→X*2^a=Y*2^b→a≤b:=by
  intro a b X Y hX hY h
  rcases Nat.lt_or_ge b a with k|k
  · exfalso
    obtain ⟨d,rfl⟩:∃ d,a=b+(d+1):=⟨a-b-1,by omega⟩
    rw [Nat.pow_add,Nat.mul_comm (2^b),←Nat.mul_assoc] at h;have:=Nat.eq_of_mul_eq_mul_right (Nat.two_pow_pos b) h;rw [Nat.pow_succ,←Nat.mul_assoc] at this;omega
  · exact k
 have h1:=key a b X Y hX hY h;have h2:=key b a Y X hY hX h.symm;have e:a=b:=by omega
 subst e;exact ⟨Nat.eq_of_mul_eq_mul_right (Nat.two_pow_pos a) h,rfl⟩
theorem zv_inj {n m:Bool}{X Y:Nat}{e f:Int}(FX:Frm n X e) (FY:Frm m Y f) (B:Int) (hB:B≤-1048576) (h:zv B (n,X,e)=zv B (m,Y,f)):n=m∧X=Y∧e=f:=by
 have hx:=FX.down;have hy:=FY.down;unfold zv at h;simp only at h;have hpX:0<2^(e-B).toNat:=Nat.two_pow_pos _;have hpY:0<2^(f-B).toNat:=Nat.two_pow_pos _
 rcases FX.odd with oX|⟨rfl,rfl,rfl⟩
 · rcases FY.odd with oY | ⟨rfl,rfl,rfl⟩
   · have pX:0<X*2^(e-B).toNat:=Nat.mul_pos (by omega) hpX
     have pY:0<Y*2^(f-B).toNat:=Nat.mul_pos (by omega) hpY
     have hn:n=m:=by
      generalize X*2^(e-B).toNat=P at h pX;generalize Y*2^(f-B).toNat=Q at h pY
      cases n <;> cases m <;> first | rfl | (simp only [sg1,Bool.false_eq_true,if_true,if_false] at h;omega)
     subst hn
     have hPQ:X*2^(e-B).toNat=Y*2^(f-B).toNat:=by
      generalize X*2^(e-B).toNat=P at h;generalize Y*2^(f-B).toNat=Q at h
      cases n <;> (simp only [sg1,Bool.false_eq_true,if_true,if_false] at h;omega)
     obtain ⟨h1,h2⟩:=odd_pow _ _ oX oY hPQ;exact ⟨rfl,h1,by omega⟩
   · exfalso
     have pX:0<X*2^(e-B).toNat:=Nat.mul_pos (by omega) hpX
     generalize X*2^(e-B).toNat=P at h pX;rw [Nat.zero_mul] at h
     cases n <;> (simp only [sg1,Bool.false_eq_true,if_true,if_false] at h;omega)
 · rcases FY.odd with oY | ⟨rfl,rfl,rfl⟩
   · exfalso
     have pY:0<Y*2^(f-B).toNat:=Nat.mul_pos (by omega) hpY
     generalize Y*2^(f-B).toNat=Q at h pY;rw [Nat.zero_mul] at h
     cases m <;> (simp only [sg1,Bool.false_eq_true,if_true,if_false] at h;omega)
   · exact ⟨rfl,rfl,rfl⟩
end
section
open Go.RowKit
theorem addUp_frm {n m:Bool}{X Y:Nat}{e f:Int}{n':Bool}{Z:Nat}{g:Int}(h:addUp n X e m Y f=some (n',Z,g)):Frm n' Z g:=by
 unfold addUp at h
 split at h
 · cases h
 · split at h
   · exact mkS_frm h
   · split at h
     · exact mkS_frm h
     · exact mkS_frm h
theorem addF_frm {n m:Bool}{X Y:Nat}{e f:Int}(FX:Frm n X e) (FY:Frm m Y f) {n':Bool}{Z:Nat}{g:Int}(h:addF (n,X,e) (m,Y,f)=some (n',Z,g)):Frm n' Z g:=by
 unfold addF at h;simp only at h
 split at h
 · cases h;exact FY
 · split at h
   · cases h;exact FX
   · split at h
     · exact addUp_frm h
     · exact addUp_frm h
theorem addD_some {o p:Option (Bool×Nat×Int)}(h:(addD o p).isSome=true):∃ x y z,o=some x∧p=some y∧addF x y=some z∧addD o p=some z:=by
 cases o with
 | none=>cases h
 | some x =>
   cases p with
   | none=>cases h
   | some y =>
     obtain ⟨z,hz⟩:=Option.isSome_iff_exists.1 h;exact ⟨x,y,z,rfl,rfl,hz,hz⟩
theorem mulD_some {o p:Option (Bool×Nat×Int)}(h:(mulD o p).isSome=true):∃ x y z,o=some x∧p=some y∧mulF x y=some z∧mulD o p=some z:=by
 cases o with
 | none=>cases h
 | some x =>
   cases p with
   | none=>cases h
   | some y =>
     obtain ⟨z,hz⟩:=Option.isSome_iff_exists.1 h;exact ⟨x,y,z,rfl,rfl,hz,hz⟩
structure Fv (B:Int) (o:Option (Bool×Nat×Int)) (z:Int):Prop where
 ex:∃ n X e,o=some (n,X,e)∧Frm n X e∧zv B (n,X,e)=z
theorem Frm.base {n:Bool}{X:Nat}{e:Int}(F:Frm n X e) {B:Int}(hB:B≤-1048576):X=0∨B≤e:=.inr (by have:=F.down;omega)
theorem Fv.add {B:Int}(hB:B≤-1048576) {o p:Option (Bool×Nat×Int)}{x y:Int}(h1:Fv B o x) (h2:Fv B p y) (h:(addD o p).isSome=true):Fv B (addD o p) (x+y):=by
 obtain ⟨n,X,e,rfl,F,rfl⟩:=h1.ex;obtain ⟨m,Y,f,rfl,G,rfl⟩:=h2.ex;obtain ⟨_,_,z,e1,e2,hz,hd⟩:=addD_some h
 cases e1;cases e2
 obtain ⟨n',Z,g⟩:=z;exact ⟨n',Z,g,hd,addF_frm F G hz,zv_addF hz B (F.base hB) (G.base hB)⟩
theorem Fv.mul {B C:Int}(hB:B≤-1048576) (hC:C≤-1048576) {o p:Option (Bool×Nat×Int)}{x y:Int}(h1:Fv B o x) (h2:Fv C p y) (h:(mulD o p).isSome=true):Fv (B+C) (mulD o p) (x*y):=by
 obtain ⟨n,X,e,rfl,F,rfl⟩:=h1.ex;obtain ⟨m,Y,f,rfl,G,rfl⟩:=h2.ex;obtain ⟨_,_,z,e1,e2,hz,hd⟩:=mulD_some h
 cases e1;cases e2
 obtain ⟨n',Z,g⟩:=z;exact ⟨n',Z,g,hd,mkS_frm hz,zv_mulF hz B C (F.base hB) (G.base hC)⟩
theorem Fv.same {B:Int}(hB:B≤-1048576) {o p:Option (Bool×Nat×Int)}{x y:Int}(h1:Fv B o x) (h2:Fv B p y) (h:x=y):dN o=dN p∧dX o=dX p∧dE o=dE p:=by
 obtain ⟨n,X,e,rfl,F,rfl⟩:=h1.ex;obtain ⟨m,Y,f,rfl,G,rfl⟩:=h2.ex;exact zv_inj F G B hB h
end
section
open Go.RowKit
abbrev vK (K:Nat):Nat:=B.val Ieee.double K
theorem vK_lt {K L:Nat}:vK K<vK L↔K<L:=B.val_lt_iff Ieee.double
theorem vK_word (j F:Nat) (h:j=0∨4503599627370496≤F) (hF:F≤9007199254740992):vK (j*4503599627370496+F)=F*2^j:=by
 have:=B.val_at Ieee.double j F (by rw [B.dBin];exact h) (by rw [B.dBin];omega)
 rw [B.dBin] at this;exact this
end
section
open Go.RowKit
def wd64 (s:Bool) (K:Nat):Nat:=K+(if s then 9223372036854775808 else 0)
def sK (s:Bool) (K:Nat):Int:=if s then -(K:Int) else K
theorem wd64_bw (s:Bool) (K:Nat) (h:K≤9218868437227405312):wd64 s K=B.bw s (K/4503599627370496) (K%4503599627370496)∧K/4503599627370496<2048∧K%4503599627370496<4503599627370496∧B.odd (K/4503599627370496) (K%4503599627370496)=false∧B.pl s (K/4503599627370496) (K%4503599627370496)=sK s K:=by
 refine ⟨?_,by omega,by omega,?_,?_⟩
 · unfold wd64 B.bw
   cases s
   · simp;omega
   · simp;omega
 · unfold B.odd
   simp;omega
 · unfold B.pl B.sg sK
   rw [show K/4503599627370496*4503599627370496+K%4503599627370496=K by omega]
theorem frm_odd {n:Bool}{X:Nat}{e:Int}(F:Frm n X e) (h:X≠0):X%2=1:=by rcases F.odd with k | k;exact k;exact absurd k.1 h
end
section
open Go.RowKit
attribute [local go_sem] B.f64bits B.f64frombits st_float
def magW (x:Nat):Nat:=x%9223372036854775808
def negW (x:Nat):Bool:=decide (9223372036854775808≤x)
end
section
open Go.RowKit
def ofK (s:Bool) (K:Nat):Option (Bool×Nat×Int):=ofR s (K/4503599627370496) (K%4503599627370496)
theorem ofK_val (s:Bool) (K:Nat) (hK:K<9218868437227405312):∃ n X e,ofK s K=some (n,X,e)∧Frm n X e∧(X≠0→n=s)∧(X=0↔K=0)∧∀ Bs:Int,Bs≤-1074→zv Bs (n,X,e)=sg1 s*((vK K*2^(-1074-Bs).toNat:Nat):Int):=by
 obtain ⟨x,hx⟩:∃ x,K/4503599627370496=x:=⟨_,rfl⟩;obtain ⟨f,hf⟩:∃ f,K%4503599627370496=f:=⟨_,rfl⟩;have hxl:x<2047:=by omega
 have hfl:f<4503599627370496:=by omega
 obtain ⟨M,hM⟩:∃ M,(if x=0 then f else f+4503599627370496)=M:=⟨_,rfl⟩
 obtain ⟨E,hE⟩:∃ E:Int,(if x=0 then (-1074:Int) else (x:Int)-1075)=E:=⟨_,rfl⟩
 have hME:(x=0∧M=f∧E=-1074)∨(x≠0∧M=f+4503599627370496∧E=(x:Int)-1075):=by
  by_cases h:x=0
  · rw [if_pos h] at hM hE;exact .inl ⟨h,hM.symm,hE.symm⟩
  · rw [if_neg h] at hM hE;exact .inr ⟨h,hM.symm,hE.symm⟩
 have hMl:M<9007199254740992:=by omega
 have hO:ofK s K=mkS s M E:=by unfold ofK ofR;rw [hx,hf,if_neg (by omega),hM,hE]
 have hsome:(mkS s M E).isSome=true:=by
  unfold mkS
  split
  · rfl
  · rename_i h0
    have hb:=bl_le53 M hMl;obtain ⟨_,_,_,hbb⟩:=odd_part M h0;rw [if_neg (by omega)]
    rfl
 obtain ⟨⟨n,X,e⟩,hz⟩:=Option.isSome_iff_exists.1 hsome;have hKw:K=(E+1074).toNat*4503599627370496+M:=by rcases hME with h | h <;> omega
 have hv:vK K=M*2^(E+1074).toNat:=by
  rw [hKw];exact vK_word _ _ (by rcases hME with h | h;left;omega;right;omega) (by omega)
 have hM0:M=0↔K=0:=by rcases hME with h | h <;> omega
 refine ⟨n,X,e,by rw [hO,hz],mkS_frm hz,?_,?_,?_⟩
 · intro hX
   unfold mkS at hz
   split at hz
   · cases hz;exact absurd rfl hX
   · split at hz
     · cases hz
     · cases hz;rfl
 · rw [←hM0]
   constructor
   · intro hX
     unfold mkS at hz
     split at hz
     · assumption
     · rename_i h0
       split at hz
       · cases hz
       · obtain ⟨m,_,hd,_⟩:=odd_part M h0
         cases hz
         omega
   · intro h0
     unfold mkS at hz;rw [if_pos h0] at hz
     cases hz;rfl
 · intro Bs hBs
   rw [zv_mkS hz Bs (.inr (by omega)),hv,Nat.mul_assoc,←Nat.pow_add,show (E+1074).toNat+(-1074-Bs).toNat=(E-Bs).toNat by omega]
end
section
open Go.RowKit J
theorem wd_word (s:Bool) (K:Nat):wd64 s K=Ieee.double.word s K:=by
 unfold wd64;have e:Ieee.double.word s K=(if s then 9223372036854775808+K else K):=rfl
 rw [e]
 cases s <;> simp;omega
theorem hInf:Ieee.double.infRung<Ieee.double.signWeight:=by rw [B.dInf,B.dSign];omega
theorem wd_of (x:Nat) (h:x<18446744073709551616):x=wd64 (negW x) (magW x):=by
 unfold wd64 negW magW
 by_cases hx:9223372036854775808≤x
 · rw [decide_eq_true hx,if_pos rfl];omega
 · rw [decide_eq_false hx,if_neg (by simp)];omega
theorem magW_wd (s:Bool) (K:Nat) (h:K<9223372036854775808):magW (wd64 s K)=K∧negW (wd64 s K)=s∧wd64 s K<18446744073709551616:=by
 unfold magW negW wd64
 cases s <;> simp <;> omega
end
section
open Go.RowKit J
theorem exU (a:Nat):∃ u:Nat,u=2^a:=⟨_,rfl⟩
def EU:Nat:=1074
def ES:Nat:=2095004
noncomputable def UU:Nat:=Classical.choose (exU EU)
noncomputable def SS:Nat:=Classical.choose (exU ES)
theorem U_eq:UU=2^EU:=Classical.choose_spec (exU EU)
theorem S_eq:SS=2^ES:=Classical.choose_spec (exU ES)
theorem EUS:EU+ES=2096078:=by unfold EU ES;rfl
theorem US (a:Nat) (h:a=2096078):2^a=UU*SS:=by
 rw [U_eq,S_eq,←Nat.pow_add,EUS,h]
structure Fo (o:Option (Bool×Nat×Int)) (z:Int) (L H:Int):Prop where
 ex:∃ n X e,o=some (n,X,e)∧Frm n X e∧zv (-2097152) (n,X,e)=z*(SS:Int)∧(X=0∨L≤e∧e+(bl X:Int)≤H)
theorem mkS_sz (n:Bool) (Z:Nat) (f L H:Int) (hZ:Z≠0) (h1:L≤f) (h2:f+(bl Z:Int)≤H) (hL:-1000000≤L) (hH:H≤1000000) (hd:H-L≤262144) :
 ∃ X e,mkS n Z f=some (n,X,e)∧X≠0∧L≤e∧e+(bl X:Int)≤H:=by
 obtain ⟨m,e0,e1,e2⟩:=odd_part Z hZ;unfold mkS;rw [if_neg hZ,if_neg (by omega)]
 exact ⟨_,_,rfl,by omega,by omega,by omega⟩
theorem blLe {X m:Nat}(h:X<2^m):bl X≤m:=by
 apply Nat.le_of_not_lt;intro hh
 have:=(bl_gt X m).1 hh;omega
end
section
open Go.RowKit J
theorem sg1_sg (s:Bool) (v:Nat):sg1 s*(v:Int)=B.sg s v:=by unfold sg1 B.sg;cases s <;> simp
theorem top_v (K:Nat) (hK:K<9218868437227405312) (a:Nat) (ha:a=2045):vK K<9007199254740992*2^a:=by
 have h:=vK_word a 9007199254740992 (.inr (by omega)) (by omega)
 have h2:a*4503599627370496+9007199254740992=9218868437227405312:=by rw [ha]
 rw [←h,h2];exact vK_lt.2 hK
theorem of_fo (s:Bool) (K:Nat) (hK:K<9218868437227405312):∃ n X e,ofK s K=some (n,X,e)∧Fo (some (n,X,e)) (B.sg s (vK K)*(UU:Int)) (-1074) 1024∧(X=0↔K=0):=by
 obtain ⟨n,X,e,h1,F,h2,h3,h4⟩:=ofK_val s K hK;refine ⟨n,X,e,h1,⟨n,X,e,rfl,F,?_,?_⟩,h3⟩
 · obtain ⟨a,ha⟩:∃ a:Nat,(-1074 - -2097152:Int).toNat=a:=⟨_,rfl⟩
   have h5:=h4 (-2097152) (by omega)
   rw [ha] at h5;rw [h5,US a (by omega),Int.natCast_mul,Int.natCast_mul,←Int.mul_assoc,←Int.mul_assoc,sg1_sg]
 · by_cases hX:X=0
   · exact .inl hX
   · right
     have ho:=frm_odd F hX;have hd:=F.down
     -- in units of the form's own place
     have h5:=h4 (min e (-1074)) (by omega)
     unfold zv at h5;simp only at h5;rw [h2 hX] at h5
     have h6:X*2^(e-min e (-1074)).toNat=vK K*2^(-1074-min e (-1074)).toNat:=by
      unfold sg1 at h5
      cases s
      · simp only [Bool.false_eq_true,if_false,Int.one_mul] at h5;exact_mod_cast h5
      · simp only [if_true] at h5;have:=Int.eq_of_mul_eq_mul_left (by decide) h5;exact_mod_cast this
     have he:-1074≤e:=by
      apply Int.le_of_not_gt;intro hlt
      rw [show (e-min e (-1074)).toNat=0 by omega,Nat.pow_zero,Nat.mul_one] at h6
      obtain ⟨q,hq⟩:∃ q,(-1074-min e (-1074)).toNat=q+1:=⟨(-1074-min e (-1074)).toNat-1,by omega⟩
      rw [hq,Nat.pow_succ,←Nat.mul_assoc] at h6;omega
     refine ⟨he,?_⟩;rw [show (-1074-min e (-1074)).toNat=0 by omega,Nat.pow_zero,Nat.mul_one] at h6
     obtain ⟨q,hq⟩:∃ q,(e-min e (-1074)).toNat=q:=⟨_,rfl⟩;rw [hq] at h6;obtain ⟨c,hc⟩:∃ c:Nat,c=2045:=⟨_,rfl⟩;have h7:=top_v K hK c hc;have h8:=bl_ge X hX;have h9:=bl_pos X hX;obtain ⟨b,hb⟩:∃ b,bl X=b+1:=⟨bl X-1,by omega⟩
     rw [hb,Nat.add_sub_cancel] at h8;have h10:2^b*2^q<9007199254740992*2^c:=Nat.lt_of_le_of_lt (Nat.mul_le_mul_right _ h8) (by rw [h6];exact h7)
     rw [←Nat.pow_add,show (9007199254740992:Nat)=2^53 from rfl,←Nat.pow_add] at h10
     have h11:=(Nat.pow_lt_pow_iff_right (by decide:1<2)).1 h10
     omega
theorem read_finW (x:Nat) (hx:x<18446744073709551616) (h:magW x<9218868437227405312):∃ m k,Ieee.double.read x=.number (negW x) m (Ieee.double.leastPlace+(k:Nat))∧m*2^k=vK (magW x):=by
 have e:=wd_of x hx;rw [wd_word] at e;obtain ⟨m,k,h1,h2⟩:=B.read_word Ieee.double (negW x) (magW x) (by rw [B.dInf];exact h) hInf
 rw [←e] at h1;exact ⟨m,k,h1,h2⟩
end
section
open Go.RowKit J
def nrm (z:Nat):Nat:=if nanW z then oddW else z
end
section
open Go.RowKit J
attribute [local go_sem] B.f64bits B.f64frombits st_float
theorem rOf10 (b:Nat) (w:World):Calls Tryz.prog 53 #[.int .u64 (b:Nat)] w fun r w'=>r=.returned (.float .f64 b)∧w'=w:=by
 go_enter Tryz.func53,Tryz.ntmps53;go_wp2;exact bodyPost_ret (v:=.float .f64 b) (by simp [results,Tryz.results53,go_sem]) rfl ⟨rfl,rfl⟩
theorem rBits10 {x:Nat}(hx:x<18446744073709551616) (w:World):Calls Tryz.prog 47 #[.float .f64 x] w fun r w'=>r=.returned (.int .u64 (nrm x:Nat))∧w'=w:=by
 obtain ⟨s,e,f,he,hf,h1,h2⟩:=bwz x hx
 have e1:nrm x=B.cb s e f:=by
  unfold nrm B.cb;rw [←h2,h1];unfold B.odd
  by_cases h:e=2047∧f≠0
  · rw [if_pos h,if_pos (by simp [h.1,h.2])];rfl
  · rw [if_neg h,if_neg (by simpa using h)]
 rw [e1,h1];exact B.rBits_any s e f he hf w
end
section
open Go.RowKit J
def tk (x:Nat):Int:=if 9218868437227405312<magW x then 9221120237041090560 else if negW x then -1-(magW x:Int) else magW x
theorem bw15 {x:Nat}(hx:x<18446744073709551616):∃ s e f,e<2048∧f<4503599627370496∧x=B.bw s e f∧s=negW x∧e=magW x/4503599627370496∧f=magW x%4503599627370496:=by
 have hm:magW x<9223372036854775808:=by unfold magW;omega
 refine ⟨negW x,magW x/4503599627370496,magW x%4503599627370496,by omega,by omega,?_,rfl,rfl,rfl⟩
 unfold B.bw negW magW at *
 by_cases h:9223372036854775808≤x
 · rw [decide_eq_true h];simp only [Bool.toNat_true];omega
 · rw [decide_eq_false h];simp only [Bool.toNat_false];omega
theorem ky_tk {x:Nat}(hx:x<18446744073709551616):B.ky (negW x) (magW x/4503599627370496) (magW x%4503599627370496)=tk x:=by
 have hm:magW x<9223372036854775808:=by unfold magW;omega
 have e:((magW x/4503599627370496:Nat):Int)*4503599627370496+(magW x%4503599627370496:Nat)=(magW x:Int):=by omega
 unfold B.ky tk
 by_cases h:9218868437227405312<magW x
 · rw [if_pos h,if_pos (by omega)]
 · rw [if_neg h,if_neg (by omega),e]
theorem tk_parts {x:Nat}(hx:x<18446744073709551616):∃ s e f,e<2048∧f<4503599627370496∧x=B.bw s e f∧B.ky s e f=tk x:=by
 obtain ⟨s,e,f,h1,h2,h3,rfl,rfl,rfl⟩:=bw15 hx;exact ⟨_,_,_,h1,h2,h3,ky_tk hx⟩
theorem order15 {x y:Nat}(hx:x<18446744073709551616) (hy:y<18446744073709551616) (w:World) :
 Calls Tryz.prog 68 #[.float .f64 x,.float .f64 y] w fun r w'=>r=.returned (.int .i64 (B.oc (tk x) (tk y)))∧w'=w:=by
 obtain ⟨s,e,f,h1,h2,h3,h4⟩:=tk_parts hx;obtain ⟨t,u,v,i1,i2,i3,i4⟩:=tk_parts hy;have h:=B.order_any s t e f u v h1 h2 i1 i2 w;rw [h4,i4,←h3,←i3] at h;exact h
theorem nrm_lt15 {x:Nat}(hx:x<18446744073709551616):nrm x<18446744073709551616:=by unfold nrm oddW;split <;> omega
theorem tk_nrm {x y:Nat}(hx:x<18446744073709551616) (hy:y<18446744073709551616):tk x=tk y↔nrm x=nrm y:=by
 unfold tk nrm nanW oddW negW magW
 by_cases a:9218868437227405312<x%9223372036854775808 <;> by_cases b:9218868437227405312<y%9223372036854775808 <;> by_cases c:9223372036854775808≤x <;> by_cases d:9223372036854775808≤y <;> simp only [a,b,c,d,decide_true,decide_false,if_true,if_false,Bool.false_eq_true] <;> constructor <;> intro h <;> omega
def leI (xs:List Nat) (i j:Nat):Bool:=decide (tk (xs.getD i 0)<tk (xs.getD j 0)∨tk (xs.getD i 0)=tk (xs.getD j 0)∧i≤j)
theorem leI_trans (xs:List Nat) (a b c:Nat) (h1:leI xs a b=true) (h2:leI xs b c=true):leI xs a c=true:=by unfold leI at *;simp only [decide_eq_true_eq] at *;omega
theorem leI_total (xs:List Nat) (a b:Nat):(leI xs a b || leI xs b a)=true:=by unfold leI;simp only [Bool.or_eq_true,decide_eq_true_eq];omega
theorem leI_anti (xs:List Nat) (a b:Nat) (h1:leI xs a b=true) (h2:leI xs b a=true):a=b:=by unfold leI at *;simp only [decide_eq_true_eq] at *;omega
def rowI (xs is:List Nat):List Nat:=is.mergeSort (leI xs)
theorem rowI_perm (xs is:List Nat):(rowI xs is).Perm is:=List.mergeSort_perm is (leI xs)
theorem rowI_len (xs is:List Nat):(rowI xs is).length=is.length:=(rowI_perm xs is).length_eq
theorem rowI_sorted (xs is:List Nat):(rowI xs is).Pairwise (fun a b=>leI xs a b=true):=List.pairwise_mergeSort (leI_trans xs) (leI_total xs) is
theorem rowI_one (xs:List Nat) (x:Nat):rowI xs [x]=[x]:=List.mergeSort_singleton x
theorem rowI_merge (xs is:List Nat) (h:Nat):List.merge (rowI xs (is.take h)) (rowI xs (is.drop h)) (leI xs)=rowI xs is:=by
 have hp:(List.merge (rowI xs (is.take h)) (rowI xs (is.drop h)) (leI xs)).Perm is:=by
  refine (List.merge_perm_append (leI xs)).trans (((rowI_perm xs _).append (rowI_perm xs _)).trans ?_);rw [List.take_append_drop]
 exact List.Perm.eq_of_pairwise (le:=fun a b=>leI xs a b=true) (fun a b ha hb h1 h2=>leI_anti xs a b h1 h2) (List.pairwise_merge (leI_trans xs) (leI_total xs) _ _ (rowI_sorted xs _) (rowI_sorted xs _)) (rowI_sorted xs is) (hp.trans (rowI_perm xs is).symm)
theorem drop_at15 {A:List Nat}{i:Nat}(h:i<A.length):A.drop i=A.getD i 0::A.drop (i+1):=by
 rw [List.drop_eq_getElem_cons h,List.getD_eq_getElem?_getD,List.getElem?_eq_getElem h];rfl
theorem mgA15 {le:Nat→Nat→Bool}{A B:List Nat}{i k:Nat}(hi:i<A.length) (h:k=B.length∨(k<B.length∧le (A.getD i 0) (B.getD k 0)=true)):List.merge (A.drop i) (B.drop k) le=A.getD i 0::List.merge (A.drop (i+1)) (B.drop k) le:=by
 rw [drop_at15 hi]
 rcases h with rfl|⟨hk,h⟩
 · rw [List.drop_length,List.merge_right,List.merge_right]
 · rw [drop_at15 hk,List.cons_merge_cons,if_pos h]
theorem mgB15 {le:Nat→Nat→Bool}{A B:List Nat}{i k:Nat}(hk:k<B.length) (h:i=A.length∨(i<A.length∧le (A.getD i 0) (B.getD k 0)=false)):List.merge (A.drop i) (B.drop k) le=B.getD k 0::List.merge (A.drop i) (B.drop (k+1)) le:=by
 rw [drop_at15 hk]
 rcases h with rfl|⟨hi,h⟩
 · rw [List.drop_length,List.nil_merge,List.nil_merge]
 · rw [drop_at15 hi,List.cons_merge_cons,if_neg (by rw [h];decide)]
theorem getD_mem15 {A:List Nat}{i:Nat}(h:i<A.length):A.getD i 0 ∈ A:=by rw [List.getD_eq_getElem?_getD,List.getElem?_eq_getElem h];exact List.getElem_mem _
def rowL (xs:List Nat):List Nat:=rowI xs (List.range xs.length)
theorem rowL_len (xs:List Nat):(rowL xs).length=xs.length:=by unfold rowL;rw [rowI_len,List.length_range]
theorem rowL_perm (xs:List Nat):(rowL xs).Perm (List.range xs.length):=rowI_perm _ _
theorem rowL_nodup (xs:List Nat):(rowL xs).Nodup:=(rowL_perm xs).nodup_iff.2 List.nodup_range
theorem rowL_mem {xs:List Nat}{i:Nat}:i ∈ rowL xs↔i<xs.length:=by rw [(rowL_perm xs).mem_iff,List.mem_range]
theorem rowL_lt {xs:List Nat}{k:Nat}(h:k<xs.length):(rowL xs).getD k 0<xs.length:=rowL_mem.1 (getD_mem15 (by rw [rowL_len];exact h))
def plI (xs:List Nat) (i:Nat):Nat:=(rowL xs).idxOf i
theorem plI_row {xs:List Nat}{k:Nat}(h:k<xs.length):plI xs ((rowL xs).getD k 0)=k:=by
 have hk:k<(rowL xs).length:=by rw [rowL_len];exact h
 unfold plI;rw [List.getD_eq_getElem?_getD,List.getElem?_eq_getElem hk]
 exact (rowL_nodup xs).idxOf_getElem k hk
theorem plI_lt {xs:List Nat}{i:Nat}(h:i<xs.length):plI xs i<xs.length:=by
 have:=List.idxOf_lt_length_of_mem (rowL_mem.2 h);rw [rowL_len] at this;exact this
theorem row_plI {xs:List Nat}{i:Nat}(h:i<xs.length):(rowL xs).getD (plI xs i) 0=i:=by
 have h1:=List.idxOf_lt_length_of_mem (rowL_mem.2 h);unfold plI;rw [List.getD_eq_getElem?_getD,List.getElem?_eq_getElem h1]
 exact List.getElem_idxOf h1
def sortL (xs:List Nat):List Nat:=(rowL xs).map fun i=>nrm (xs.getD i 0)
theorem sortL_len (xs:List Nat):(sortL xs).length=xs.length:=by unfold sortL;rw [List.length_map,rowL_len]
theorem sortL_get {xs:List Nat}{k:Nat}(h:k<xs.length):(sortL xs).getD k 0=nrm (xs.getD ((rowL xs).getD k 0) 0):=by
 have hk:k<(rowL xs).length:=by rw [rowL_len];exact h
 unfold sortL;rw [List.getD_eq_getElem?_getD,List.getElem?_map,List.getD_eq_getElem?_getD (l:=rowL xs),List.getElem?_eq_getElem hk]
 rfl
def eachTo {α:Type} (xs:List Nat) (f:Nat→α) (z:α) (k:Nat):List α:=(List.range xs.length).map fun i=>if plI xs i<k then f (plI xs i) else z
def eachL {α:Type} (xs:List Nat) (f:Nat→α):List α:=(List.range xs.length).map fun i=>f (plI xs i)
theorem eachTo_zero {α:Type}(xs:List Nat) (f:Nat→α) (z:α):eachTo xs f z 0=List.replicate xs.length z:=by
 unfold eachTo;simp only [Nat.not_lt_zero,if_false];rw [List.map_const',List.length_range]
theorem eachTo_all {α:Type}(xs:List Nat) (f:Nat→α) (z:α):eachTo xs f z xs.length=eachL xs f:=by
 unfold eachTo eachL;refine List.map_congr_left fun i hi=>?_
 rw [if_pos (plI_lt (List.mem_range.1 hi))]
theorem eachTo_len {α:Type}(xs:List Nat) (f:Nat→α) (z:α) (k:Nat):(eachTo xs f z k).length=xs.length:=by unfold eachTo;rw [List.length_map,List.length_range]
theorem eachL_len {α:Type}(xs:List Nat) (f:Nat→α):(eachL xs f).length=xs.length:=by unfold eachL;rw [List.length_map,List.length_range]
theorem eachTo_get {α:Type}(xs:List Nat) (f:Nat→α) (z:α) (k i:Nat) (h:i<(eachTo xs f z k).length):(eachTo xs f z k)[i]=if plI xs i<k then f (plI xs i) else z:=by
 simp [eachTo]
theorem eachTo_succ {α:Type}(xs:List Nat) (f:Nat→α) (z:α) {k:Nat}(h:k<xs.length):(eachTo xs f z k).set ((rowL xs).getD k 0) (f k)=eachTo xs f z (k+1):=by
 refine List.ext_getElem (by rw [List.length_set,eachTo_len,eachTo_len]) fun i h1 h2=>?_
 have h3:=h2;rw [eachTo_len] at h3;rw [List.getElem_set,eachTo_get,eachTo_get]
 by_cases e:(rowL xs).getD k 0=i
 · have e2:plI xs i=k:=by rw [←e];exact plI_row h
   rw [if_pos e,e2,if_pos (by omega)]
 · have e2:plI xs i≠k:=fun e3=>e (by rw [←e3];exact row_plI h3)
   rw [if_neg e]
   by_cases h4:plI xs i<k
   · rw [if_pos h4,if_pos (by omega)]
   · rw [if_neg h4,if_neg (by omega)]
end
section
open Go.RowKit J
theorem leI_plI {xs:List Nat}{i j:Nat}(hi:i<xs.length) (hj:j<xs.length) (h:plI xs i<plI xs j):leI xs i j=true:=by
 have p1:=plI_lt hi;have p2:=plI_lt hj;have hl:=rowL_len xs;have:=(List.pairwise_iff_getElem.1 (show (rowL xs).Pairwise (fun a b=>leI xs a b=true) from rowI_sorted xs _)) (plI xs i) (plI xs j) (by omega) (by omega) h
 have e1:=row_plI hi;have e2:=row_plI hj;rw [List.getD_eq_getElem?_getD,List.getElem?_eq_getElem (by omega)] at e1 e2
 simp only [Option.getD_some] at e1 e2;rw [e1,e2] at this;exact this
theorem plI_inj {xs:List Nat}{i j:Nat}(hi:i<xs.length) (hj:j<xs.length) (h:plI xs i=plI xs j):i=j:=by
 rw [←row_plI hi,←row_plI hj,h]
theorem plI_leI {xs:List Nat}{i j:Nat}(hi:i<xs.length) (hj:j<xs.length) (hne:i≠j):plI xs i<plI xs j↔leI xs i j=true:=by
 refine ⟨leI_plI hi hj,fun h=>?_⟩
 rcases Nat.lt_trichotomy (plI xs i) (plI xs j) with q|q|q
 · exact q
 · exact absurd (plI_inj hi hj q) hne
 · exact absurd (leI_anti xs i j h (leI_plI hj hi q)) hne
def cmpZ15 (x y:Int):Int:=if x<y then -1 else if y<x then 1 else 0
theorem isNaN15 (x:Int) (w:World):Calls Tryz.prog 98 #[.int .i64 x] w fun r w'=>r=.returned (.bool false)∧w'=w:=by
 go_enter Tryz.func98,Tryz.ntmps98;go_wp2;go_ret;exact ⟨by first | rfl | simp,rfl⟩
theorem compare_int15 (x y:Int) (w:World):Calls Tryz.prog 69 #[.int .i64 x,.int .i64 y] w fun r w'=>r=.returned (.int .i64 (cmpZ15 x y))∧w'=w:=by
 have H:=hid isNaN15;unfold cmpZ15
 by_cases h1:x<y
 · rw [if_pos h1]
   go_enter Tryz.func69,Tryz.ntmps69
   go_wp2_with (go_at_call 98;refine (H.out _ _).mono ?_;rintro r w1 ⟨rfl,rfl⟩)
   go_ret;exact ⟨rfl,rfl⟩
 · rw [if_neg h1]
   have d1:decide (x<y)=false:=by simp;omega
   by_cases h2:y<x
   · rw [if_pos h2]
     go_enter Tryz.func69,Tryz.ntmps69
     go_wp2_with (go_at_call 98;refine (H.out _ _).mono ?_;rintro r w1 ⟨rfl,rfl⟩)
     go_ret;exact ⟨rfl,rfl⟩
   · rw [if_neg h2]
     have d2:decide (y<x)=false:=by simp;omega
     go_enter Tryz.func69,Tryz.ntmps69
     go_wp2_with (go_at_call 98;refine (H.out _ _).mono ?_;rintro r w1 ⟨rfl,rfl⟩)
     go_ret;exact ⟨rfl,rfl⟩
def orZ15 (x y:Int):Int:=if x=0 then y else x
theorem or15 (g cap:Nat) (x y:Int) (w:World) (c1:w.cell? ⟨g,0,none⟩=some (.int .i64 x)) (c2:w.cell? ⟨g,1,none⟩=some (.int .i64 y)):Calls Tryz.prog 67 #[.slice (some ⟨g,0,none⟩) 2 cap] w fun r w'=>r=.returned (.int .i64 (orZ15 x y))∧w'=w:=by
 obtain ⟨z,hz⟩:∃ z,z=orZ15 x y:=⟨_,rfl⟩;rw [←hz];have HZ:=qsd hz;clear hz;go_enter Tryz.func67,Tryz.ntmps67;go_wp2
 go_loopg [8] 2 (fun gk iv wr=>∃ i:Nat,gk+i=2∧iv=.int .i64 (i:Nat)∧Aside ((0<i→x=0)∧(1<i→y=0))∧wr=w)
 case atStart=>exact ⟨0,rfl,rfl,⟨fun h=>by omega,fun h=>by omega⟩,rfl⟩
 case round =>
  obtain ⟨i,h1,rfl,H,rfl⟩:=hrel;have hi:i=0∨i=1∨i=2:=by omega
  rcases hi with rfl|rfl|rfl
  · by_cases hx:x=0
    · subst hx
      go_wp2
      go_roundg 1
      case measure=>omega
      case rel=>exact ⟨1,rfl,by first | rfl | simp,⟨fun _=>by first | rfl | trivial,fun h=>by omega⟩,rfl⟩
    · have e1:(x==0)=false:=by simp [hx]
      have e2:(x != 0)=true:=by simp [hx]
      have e3:decide (x=0)=false:=by simp [hx]
      have E:Aside (z=x):=qsd (by rw [HZ.out];unfold orZ15;rw [if_neg hx])
      go_wp2;go_ret;exact ⟨by rw [E.out];rfl,rfl⟩
  · by_cases hy:y=0
    · subst hy
      go_wp2
      go_roundg 0
      case measure=>omega
      case rel=>exact ⟨2,rfl,by first | rfl | simp,⟨fun _=>H.out.1 (by omega),fun h=>by first | rfl | trivial⟩,rfl⟩
    · have e1:(y==0)=false:=by simp [hy]
      have e2:(y != 0)=true:=by simp [hy]
      have e3:decide (y=0)=false:=by simp [hy]
      have E:Aside (z=y):=qsd (by rw [HZ.out];unfold orZ15;rw [if_pos (H.out.1 (by omega))])
      go_wp2;go_ret;exact ⟨by rw [E.out];rfl,rfl⟩
  · have E:Aside (z=0):=qsd (by rw [HZ.out];unfold orZ15;rw [if_pos (H.out.1 (by omega)),H.out.2 (by omega)])
    go_wp2;go_ret;exact ⟨by rw [E.out];rfl,rfl⟩
theorem oc_z15 (p q:Int) (i j:Nat) (hne:i≠j):orZ15 (B.oc p q) (cmpZ15 (i:Int) (j:Int))<0↔(p<q∨p=q∧i≤j):=by
 have e:B.oc p q=if p<q then -1 else if q<p then 1 else 0:=by unfold B.oc;rfl
 rw [e];unfold orZ15 cmpZ15
 by_cases a:p<q
 · rw [if_pos a,if_neg (by omega)];omega
 · rw [if_neg a]
   by_cases b:q<p
   · rw [if_pos b,if_neg (by omega)];omega
   · rw [if_neg b,if_pos rfl]
     by_cases c:(i:Int)<(j:Int)
     · rw [if_pos c];omega
     · rw [if_neg c,if_pos (by omega)];omega
theorem oc_lt15 (xs:List Nat) (i j:Nat) (hi:i<xs.length) (hj:j<xs.length):orZ15 (B.oc (tk (xs.getD i 0)) (tk (xs.getD j 0))) (cmpZ15 (i:Int) (j:Int))<0↔plI xs i<plI xs j:=by
 by_cases hne:i=j
 · subst hne
   have e:B.oc (tk (xs.getD i 0)) (tk (xs.getD i 0))=0:=by unfold B.oc;simp
   rw [e];unfold orZ15 cmpZ15;simp
 · rw [plI_leI hi hj hne,oc_z15 _ _ i j hne]
   unfold leI;rw [decide_eq_true_eq]
end
section
open Go.RowKit J
theorem compare_core (b off n cap i j:Nat) (at':Value) (p q:Nat) (o c z:Int) (u:World) (c1:u.cell? ⟨b,off+i,none⟩=some (.float .f64 p)) (c2:u.cell? ⟨b,off+j,none⟩=some (.float .f64 q)) (hi:i<n) (hj:j<n)
 (HO:Hid (∀ w,Calls Tryz.prog 68 #[.float .f64 p,.float .f64 q] w fun r w'=>r=.returned (.int .i64 o)∧w'=w))
 (HM:Hid (∀ w,Calls Tryz.prog 69 #[.int .i64 (i:Nat),.int .i64 (j:Nat)] w fun r w'=>r=.returned (.int .i64 c)∧w'=w))
 (HR:Hid (∀ (g cap:Nat) (w:World),w.cell? ⟨g,0,none⟩=some (.int .i64 o)→w.cell? ⟨g,1,none⟩=some (.int .i64 c)→Calls Tryz.prog 67 #[.slice (some ⟨g,0,none⟩) 2 cap] w fun r w'=>r=.returned (.int .i64 z)∧w'=w)) :
 Calls Tryz.prog 49 #[.agg #[.slice (some ⟨b,off,none⟩) n cap,at'],.int .i64 (i:Nat),.int .i64 (j:Nat)] u fun r w'=>r=.returned (.int .i64 z)∧Below u.heap.size u w':=by
 have b1:(i:Int)<(n:Int):=by omega
 have b2:(j:Int)<(n:Int):=by omega
 have hb:b<u.heap.size:=by
  unfold World.cell? at c1
  rcases Nat.lt_or_ge b u.heap.size with q|q
  · exact q
  · rw [Array.getElem?_eq_none q] at c1;cases c1
 go_enter Tryz.func49,Tryz.ntmps49
 go_upto_region 1 with fail
 go_region_with (first
  | (go_at_call 68
     refine (HO.out _).mono ?_;rintro r v ⟨rfl,rfl⟩)
  | (go_at_call 69
     refine (HM.out _).mono ?_;rintro r v ⟨rfl,rfl⟩)
  | (go_at_call 67
     refine (HR.out _ _ _ (by simp [go_sem]) (by simp [go_sem])).mono ?_
     rintro r v ⟨rfl,rfl⟩))
 all_goals
  go_wp2;go_ret;refine ⟨rfl,?_⟩
  first
   | exact ((((Below.refl u.heap.size u).alloc (Nat.le_refl _) _).drew).alloc (by simp) _)
   | exact ((((Below.refl u.heap.size u).alloc (Nat.le_refl _) _).alloc (by simp) _).drew)
theorem cmp15_of (xs:List Nat) (ao:Option Addr) (n cap g G:Nat) (at':Value) (w:World) (hF:Fs G w ao xs) (hG:G≤g) (hGw:G≤w.heap.size) (hn:n=xs.length) (hW:W64 xs):Cmp15 (plI xs) n g (.agg #[.slice ao n cap,at']) w:=by
 intro u x y hB hx hy;subst hn;obtain ⟨b,off,h1,rfl,h3⟩:=hF (by intro e;subst e;simp at hx)
 have k:∀ i,i<xs.length→u.cell? ⟨b,off+i,none⟩=some (.float .f64 (xs.getD i 0)):=fun i hi =>
  (World.cell?_of_block (a:=⟨b,off+i,none⟩) (hB.block b (by omega) (by omega))).trans (h3 i hi)
 have hm:∀ i,i<xs.length→xs.getD i 0<18446744073709551616:=fun i hi=>hW _ (getD_mem15 hi)
 exact ⟨_,oc_lt15 xs x y hx hy,compare_core b off xs.length cap x y at' _ _ _ _ _ u (k x hx) (k y hy) hx hy (fun w=>order15 (hm x hx) (hm y hy) w) (fun w=>compare_int15 _ _ w) (fun g cap w c1 c2=>or15 g cap _ _ w c1 c2)⟩
end
section
open Go.RowKit J
attribute [local go_sem] st_float
def Fw10 (n:Nat):Value:=.float .f64 n
theorem Tryz.und_floats:Tryz.prog.underlying 22=some (.slice 40):=by kernel_rfl
theorem Tryz.info_f64:(Tryz.prog.info? 40).map (fun i=>(i.zero,i.size,i.bytes))=some (some (.float .f64 0),1,8):=by kernel_rfl
def OwnF (w:World) (g:Nat) (L:List Nat):Prop:=w.heap[g]?=some (.cells (L.map Fw10).toArray 40 (0,0))
theorem OwnF.lt {w:World}{g:Nat}{L:List Nat}(h:OwnF w g L):g<w.heap.size:=(Array.getElem?_eq_some_iff.1 h).1
theorem OwnF.cell {w:World}{g:Nat}{L:List Nat}(h:OwnF w g L) (i:Nat) (hi:i<L.length):w.cell? ⟨g,i,none⟩=some (.float .f64 (L.getD i 0)):=by
 unfold OwnF at h;simp [World.cell?,h,Fw10,hi]
theorem OwnF.frozen {w:World}{g:Nat}{L:List Nat}(h:OwnF w g L) (i:Nat):w.frozen? ⟨g,i,none⟩=false:=by
 unfold OwnF at h;simp [World.frozen?,h]
theorem OwnF.set {w:World}{g:Nat}{L:List Nat}(h:OwnF w g L) (i x:Nat):OwnF (w.setCell ⟨g,i,none⟩ (.float .f64 x)) g (L.set i x):=by
 unfold OwnF at h ⊢;simp only [World.setCell,Array.getElem?_modify,h];simp [Fw10,List.map_set]
theorem OwnF.drew {w:World}{g:Nat}{L:List Nat}(h:OwnF w g L):OwnF w.drew g L:=h
theorem OwnF.below {w w':World}{g B:Nat}{L:List Nat}(h:OwnF w g L) (hb:Below B w w') (hg:g<B):OwnF w' g L:=by
 unfold OwnF at h ⊢;rw [hb.block g hg];exact h
theorem OwnF.fs {w:World}{g B:Nat}{L:List Nat}(h:OwnF w g L) (hg:g<B) (n:Nat):Fs B w (some ⟨g,0,none⟩) (L.take n):=by
 intro _;refine ⟨g,0,hg,rfl,fun i hi=>?_⟩
 rw [List.length_take] at hi;rw [Nat.zero_add,h.cell i (by omega)]
 congr 2
 rw [List.getD_eq_getElem?_getD,List.getD_eq_getElem?_getD,List.getElem?_take,if_pos (by omega)]
theorem make_floats (z:Int) (n:Nat) (hz:z=(n:Int)) (hn:n≤17592186044416) (w:World) :
 (Instr.makeSlice 22 (.int .i64 z) (.int .i64 z)).run Tryz.prog w=.ok (.slice (some ⟨w.heap.size,0,none⟩) n n) (w.alloc (.cells (madeCells #[.float .f64 0] n) 40)):=by
 subst hz;exact run_make_row' 22 40 (.float .f64 0) 8 Tryz.und_floats Tryz.info_f64 rfl .i64 .i64 n (by omega) (by omega) w
theorem OwnF.made (w:World) (n:Nat):OwnF (w.alloc (.cells (madeCells #[.float .f64 0] n) 40)) w.heap.size (List.replicate n 0):=by
 unfold OwnF;have h1:=heap_alloc_new w (.cells (madeCells #[.float .f64 0] n) 40);rw [h1]
 congr 2
 apply Array.toList_inj.1
 rw [toList_madeCells_one];simp [Fw10]
theorem copy_floats (w:World) (g dLen dCap:Nat) (ao:Option Addr) (sLen sCap B:Nat) (ty:TypeId)
 (L xs:List Nat) (hO:OwnF w g L) (hL:dLen≤L.length) (hx:sLen=xs.length) (hR:Fs B w ao xs) (hle:sLen≤dLen) :
 ∃ w',(Builtin.copy_ #[22,22] ty #[.slice (some ⟨g,0,none⟩) dLen dCap,.slice ao sLen sCap]).run Tryz.prog w=.ok (.int .i64 (sLen:Int)) w'∧OwnF w' g (xs++L.drop sLen)∧But g w w':=by
 subst hx;have hmin:Nat.min xs.length dLen=xs.length:=Nat.min_eq_left hle
 by_cases h0:xs=[]
 · subst h0
   exact ⟨w,run_copy_none (P:=Tryz.prog) w 22 22 ty 40 _ _ _ _ _ _ Tryz.und_floats (by kernel_rfl) (by simp at hmin ⊢),by simpa using hO,But.refl _ _⟩
 · obtain ⟨b,off,hlt,rfl,hc⟩:=hR h0
   have hadd:∀ j,(⟨b,off,none⟩:Addr).add j=⟨b,off+j,none⟩:=by intro j;unfold Addr.add;split <;> simp_all
   have hrun:=run_copy_row (P:=Tryz.prog) w 22 22 ty 40 g 0 dLen dCap ⟨b,off,none⟩ xs.length sCap (L.map Fw10).toArray 40 (xs.map Fw10) Tryz.und_floats (by kernel_rfl) hO (by rw [hmin];simp) (by
    intro j v hv;rw [hadd]
    have hj:j<xs.length:=by
     have:=(List.getElem?_eq_some_iff.1 hv).1;simpa using this
    rw [hc j hj];simp [hj,Fw10] at hv;simp [hj,←hv]) (by simp;omega) (by
    intro v hv;obtain ⟨n,_,rfl⟩:=List.mem_map.1 hv
    rfl)
   refine ⟨w.setRow g (((xs++L.drop xs.length).map Fw10)).toArray,?_,setRow_heap w g _ _ 40 _ hO,⟨rfl,rfl,rfl,by simp [World.setRow],fun k _ hk=>setRow_other w g k _ hk⟩⟩
   simpa [List.map_append,List.map_drop,goInt] using hrun
theorem Fs.but {B g:Nat}{w w':World}{ao:Option Addr}{xs:List Nat}(h:Fs B w ao xs) (hb:But g w w') (hB:B≤w.heap.size) (hg:B≤g):Fs B w' ao xs:=by
 intro hne;obtain ⟨b,off,h1,h2,h3⟩:=h hne;refine ⟨b,off,h1,h2,fun i hi=>?_⟩
 rw [←h3 i hi];exact World.cell?_of_block (a:=⟨b,off+i,none⟩) (hb.block b (by omega) (by omega))
end
section
open Go.RowKit J
theorem Tryz.und_ints:Tryz.prog.underlying 25=some (.slice 3):=by kernel_rfl
theorem Tryz.info_int15:(Tryz.prog.info? 3).map (fun i=>(i.zero,i.size,i.bytes))=some (some (.int .i64 0),1,8):=by kernel_rfl
theorem make_ints (z:Int) (n:Nat) (hz:z=(n:Int)) (hn:n≤17592186044416) (w:World) :
 (Instr.makeSlice 25 (.int .i64 z) (.int .i64 z)).run Tryz.prog w=.ok (.slice (some ⟨w.heap.size,0,none⟩) n n) (w.alloc (.cells (madeCells #[.int .i64 0] n) 3)):=by
 subst hz;exact run_make_row' 25 3 (.int .i64 0) 8 Tryz.und_ints Tryz.info_int15 rfl .i64 .i64 n (by omega) (by omega) w
theorem OwnI.made (w:World) (n:Nat):OwnI (w.alloc (.cells (madeCells #[.int .i64 0] n) 3)) w.heap.size (List.replicate n 0):=by
 unfold OwnI;have h1:=heap_alloc_new w (.cells (madeCells #[.int .i64 0] n) 3);rw [h1]
 congr 2
 apply Array.toList_inj.1
 rw [toList_madeCells_one];simp [Iw15]
theorem row_of_up15 {xs M:List Nat}(hP:M.Perm (List.range xs.length)) (hU:Up (plI xs) 0 xs.length M):M=rowL xs:=by
 have hl:M.length=xs.length:=by rw [hP.length_eq,List.length_range]
 have hlt:∀ i (h:i<M.length),M[i]<xs.length:=fun i h=>List.mem_range.1 (hP.mem_iff.1 (List.getElem_mem h))
 have hnd:M.Nodup:=hP.nodup_iff.2 List.nodup_range;refine List.Perm.eq_of_pairwise (le:=fun a b=>leI xs a b=true) (fun a b ha hb h1 h2=>leI_anti xs a b h1 h2) ?_ (rowI_sorted xs _) (hP.trans (rowL_perm xs).symm)
 refine List.pairwise_iff_getElem.2 fun i j hi hj hij=>?_
 have h:=hU i j (Nat.zero_le _) hij (by omega)
 unfold ky at h;rw [List.getD_eq_getElem?_getD,List.getElem?_eq_getElem hi,List.getD_eq_getElem?_getD,List.getElem?_eq_getElem hj] at h
 simp only [Option.getD_some] at h;have hne:M[i]≠M[j]:=List.pairwise_iff_getElem.1 hnd i j hi hj hij
 rcases Nat.lt_or_ge (plI xs M[i]) (plI xs M[j]) with q|q
 · exact leI_plI (hlt i hi) (hlt j hj) q
 · exact absurd (plI_inj (hlt i hi) (hlt j hj) (by omega)) hne
theorem sortFunc15 (xs:List Nat) (n g cap:Nat) (recv:Value) (w:World) (hO:OwnI w g (List.range xs.length)) (hn:n=xs.length) (hb:n≤17592186044416) (hC:Cmp15 (plI xs) n g recv w) :
 Calls Tryz.prog 48 #[.slice (some ⟨g,0,none⟩) n cap,.func (.func 49) #[recv] #[]] w fun r w'=>r=.returned (.tuple #[])∧OwnI w' g (rowL xs)∧But g w w':=by
 have hS:Sx15 n g n w w (fun M=>M=List.range xs.length):=by
  subst hn;exact ⟨List.range xs.length,hO,List.length_range,fun k hk=>by simp [List.getD_eq_getElem?_getD,hk],But.refl _ _,rfl⟩
 have hlim:bl n<1152921504606846976:=by
  have:bl n≤64:=by
   rcases Nat.lt_or_ge 64 (bl n) with q|q
   · have h1:=bl_ge n (by intro e;subst e;simp [bl_zero] at q)
     have h2:=Nat.pow_le_pow_right (n:=2) (by omega) (show 64≤bl n-1 by omega)
     omega
   · exact q
  omega
 have C:=hid (pdq15 (plI xs) n g n cap recv (by omega) n 0 n (bl n) (List.range xs.length) w (by omega) (Nat.zero_le _) (Nat.le_refl _) hlim hS hC (fun h=>by omega) List.nodup_range (fun x hx y hy h=>plI_inj (List.mem_range.1 hx) (List.mem_range.1 hy) h))
 have D:=hid (blen_any n w (by omega))
 have wl:IntKind.u64.wrap (n:Int)=(n:Int):=by simp [IntKind.wrap,IntKind.bits,IntKind.signed];omega
 obtain ⟨m,hm⟩:∃ m,m=bl n:=⟨_,rfl⟩;rw [←hm] at C D;have HN:=qsd hn;clear hS hlim hC hO hn hm;go_enter Tryz.func48,Tryz.ntmps48
 go_wp2_with fail
 refine D.out.mono ?_;rintro r w1 ⟨rfl,rfl⟩
 go_wp2_with fail
 refine C.out.mono ?_;rintro r v ⟨rfl,hv⟩;have HR:=qsd hv;clear C D hv;go_wp2;refine bodyPost_end (v:=.tuple #[]) (by simp [results,Tryz.results48,go_sem]) rfl ?_
 obtain ⟨M,h1,h2,h3,h4,h5,h6⟩:=HR.out;refine ⟨rfl,?_,h4⟩;have hn:=HN.out;subst hn;rw [←row_of_up15 h5.perm h6];exact h1
end
section
open Go.RowKit J
def upto15 (n k:Nat):List Nat:=List.range k++List.replicate (n-k) 0
theorem upto_zero (n:Nat):upto15 n 0=List.replicate n 0:=by simp [upto15]
theorem upto_all (n:Nat):upto15 n n=List.range n:=by simp [upto15]
theorem upto_len {n k:Nat}(h:k≤n):(upto15 n k).length=n:=by simp [upto15];omega
theorem upto_succ {n k:Nat}(h:k<n):(upto15 n k).set k k=upto15 n (k+1):=by
 unfold upto15;rw [List.set_append_right _ _ (by simp),List.length_range,Nat.sub_self,show n-k=(n-(k+1))+1 by omega,List.replicate_succ,List.set_cons_zero,List.range_succ]
 simp
theorem cell_but15 {g:Nat}{u v:World}{p:Addr}{x:Value}(hB:But g u v) (h:u.cell? p=some x) (hp:p.block≠g):v.cell? p=some x :=
 (World.cell?_of_block (hB.block p.block (lt_of_cell15 h) hp)).trans h
theorem frozen_but15 {g:Nat}{u v:World}{p:Addr}(hB:But g u v) (hl:p.block<u.heap.size) (h:u.frozen? p=false) (hp:p.block≠g):v.frozen? p=false:=by
 unfold World.frozen? at h ⊢;rw [hB.block p.block hl hp];exact h
theorem rowOf15 (xs:List Nat) (ao:Option Addr) (n cap:Nat) (w:World) (hF:Fs w.heap.size w ao xs) (hn:n=xs.length) (hb:n≤17592186044416) (hW:W64 xs) :
 Calls Tryz.prog 30 #[.slice ao n cap] w fun r w'=>∃ g,r=.returned (.agg #[.slice ao n cap,.slice (some ⟨g,0,none⟩) n n])∧OwnI w' g (rowL xs)∧Below w.heap.size w w'∧w.heap.size≤g:=by
 have mk:=make_ints n n rfl hb;have HF:=qsd hF;have HN:=(qsd (ai hn hW));clear hF hn hW;go_enter Tryz.func30,Tryz.ntmps30
 go_upto_region 2 with fail
 obtain ⟨W1,hW1⟩:∃ W,W=(((w.alloc (Obj.cells #[Value.slice none 0 0,Value.slice none 0 0] 48)).alloc (Obj.cells (madeCells #[Value.int IntKind.i64 0] n) 3)).alloc (Obj.cells #[Value.slice ao n cap,Value.slice (some ⟨w.heap.size+1,0,none⟩) n n] 48)):=⟨_,rfl⟩
 have o1:OwnI W1 (w.heap.size+1) (upto15 n 0):=by
  rw [hW1,upto_zero];have:=(OwnI.made (w.alloc (Obj.cells #[Value.slice none 0 0,Value.slice none 0 0] 48)) n);rw [World.size_alloc] at this;exact this.below ((Below.refl _ _).alloc (Nat.le_refl _) _) (by simp)
 have o2:Below w.heap.size w W1:=by
  rw [hW1];exact (((Below.refl w.heap.size w).alloc (Nat.le_refl _) _).alloc (by simp) _).alloc (by simp;omega) _
 have q1:W1.cell? ⟨w.heap.size,0,none⟩=some (.slice none 0 0):=by
  rw [hW1,World.cell?_alloc_lt _ _ _ (by simp;omega),World.cell?_alloc_lt _ _ _ (by simp),World.cell?_alloc_new];rfl
 have q2:W1.cell? ⟨w.heap.size,1,none⟩=some (.slice none 0 0):=by
  rw [hW1,World.cell?_alloc_lt _ _ _ (by simp;omega),World.cell?_alloc_lt _ _ _ (by simp),World.cell?_alloc_new];rfl
 have q3:∀ i,W1.frozen? ⟨w.heap.size,i,none⟩=false:=fun i=>by
  rw [hW1,World.frozen?_alloc_old _ _ _ (by simp;omega),World.frozen?_alloc_old _ _ _ (by simp)]
  exact World.frozen?_alloc_new _ _ _ _
 have r1:W1.cell? ⟨w.heap.size+2,0,none⟩=some (.slice ao n cap):=by
  have:=World.cell?_alloc_new ((w.alloc (Obj.cells #[Value.slice none 0 0,Value.slice none 0 0] 48)).alloc (Obj.cells (madeCells #[Value.int IntKind.i64 0] n) 3)) #[Value.slice ao n cap,Value.slice (some ⟨w.heap.size+1,0,none⟩) n n] 48 0;rw [World.size_alloc,World.size_alloc] at this;rw [hW1];exact this
 have r2:W1.cell? ⟨w.heap.size+2,1,none⟩=some (.slice (some ⟨w.heap.size+1,0,none⟩) n n):=by
  have:=World.cell?_alloc_new ((w.alloc (Obj.cells #[Value.slice none 0 0,Value.slice none 0 0] 48)).alloc (Obj.cells (madeCells #[Value.int IntKind.i64 0] n) 3)) #[Value.slice ao n cap,Value.slice (some ⟨w.heap.size+1,0,none⟩) n n] 48 1;rw [World.size_alloc,World.size_alloc] at this;rw [hW1];exact this
 rw [←hW1];clear hW1 mk;obtain ⟨q,hq⟩:∃ x,x=w.heap.size:=⟨_,rfl⟩;obtain ⟨g,hg⟩:∃ x,x=w.heap.size+1:=⟨_,rfl⟩;obtain ⟨h,hh⟩:∃ x,x=w.heap.size+2:=⟨_,rfl⟩;rw [←hg] at o1 r2;rw [←hh] at r1 r2;rw [←hq] at q1 q2;simp only [←hq] at q3;rw [show w.heap.size+1+1=h by omega,←hg,←hq]
 have hgq:g≠q:=by omega
 have hgh:g≠h:=by omega
 have hqg:q≠g:=by omega
 have hhg:h≠g:=by omega
 have HQ:=(qsd (ai hq (ai hg hh)));have HB:=qsd o2;have HR:=(qsd (ai q1 (ai q2 (ai q3 (ai r1 r2)))));have HA:Aside (OwnI W1 g (upto15 n 0)∧But g W1 W1):=⟨o1,But.refl _ _⟩;have hlh:h<W1.heap.size:=lt_of_cell15 r1;have hlq:q<W1.heap.size:=lt_of_cell15 q1;have HL:=(qsd (ai hlh hlq));clear o1 o2 q1 q2 q3 hq hg hh hlh hlq;go_wp2
 go_loopg [13] n (fun gk iv wr=>∃ k:Nat,gk+k=n∧iv=.int .i64 (k:Nat)∧Aside (OwnI wr g (upto15 n k)∧But g W1 wr))
 case atStart=>exact ⟨0,rfl,by first | rfl | simp,HA.out⟩
 case round =>
  clear HA r1 r2;obtain ⟨k,hgk,rfl,HA⟩:=hrel
  by_cases hk:k<n
  · have hdk:decide ((k:Int)<(n:Int))=true:=by simp;omega
    have bk:(k:Int)<(n:Int):=by omega
    obtain ⟨k1,hk1⟩:∃ x,x=k+1:=⟨_,rfl⟩;have wk:IntKind.i64.wrap ((k:Int)+1)=(k1:Int):=wrapZ (by omega) (by omega)
    have r2:=cell_but15 HA.out.2 HR.out.2.2.2.2 hhg;have c1:=HA.out.1.cell k (by rw [upto_len (by omega)];exact hk)
    have z1:=HA.out.1.frozen k;have HX:Aside (OwnI (wr.setCell ⟨g,k,none⟩ (.int .i64 (k:Nat))) g (upto15 n k1)∧But g W1 (wr.setCell ⟨g,k,none⟩ (.int .i64 (k:Nat)))):=⟨by rw [hk1,←upto_succ hk];exact HA.out.1.set k k,HA.out.2.set _ _⟩
    obtain ⟨y,hy⟩:∃ y,y=(upto15 n k).getD k 0:=⟨_,rfl⟩;rw [←hy] at c1;have HK:=qsd hk1;clear HA hk1 hy;go_wp2
    go_roundg (n-k1)
    case measure=>have:=HK.out;omega
    case rel=>exact ⟨k1,by have:=HK.out;omega,by first | rfl | simp,HX.out⟩
  · have hdk:decide ((k:Int)<(n:Int))=false:=by simp;omega
    have hkn:k=n:=by omega
    subst hkn;obtain ⟨a1,a2⟩:=HA.out;rw [upto_all] at a1;have r1:=cell_but15 a2 HR.out.2.2.2.1 hhg;have r2:=cell_but15 a2 HR.out.2.2.2.2 hhg;obtain ⟨hn,hW⟩:=HN.out;obtain ⟨hq,hg,hh⟩:=HQ.out
    have hFw:Fs w.heap.size wr ao xs:=by
     intro hne;obtain ⟨b,off,h1,h2,h3⟩:=HF.out hne;refine ⟨b,off,h1,h2,fun i hi=>?_⟩
     exact cell_but15 a2 ((World.cell?_of_block (a:=⟨b,off+i,none⟩) (HB.out.block b h1)).trans (h3 i hi)) (by show b≠g;omega)
    have hsz:w.heap.size≤wr.heap.size:=Nat.le_trans HB.out.size a2.size;have hC:Cmp15 (plI xs) k g (.agg #[.slice ao k cap,.slice (some ⟨g,0,none⟩) k k]) wr:=cmp15_of xs ao k cap g w.heap.size _ wr hFw (by omega) hsz hn hW
    rw [hn] at a1;have C:=hid (sortFunc15 xs k g k _ wr a1 hn hb hC);clear hFw hC a1 hn hW hq hg hh hsz;have HA2:=qsd a2;clear HA a2
    go_wp2_with fail
    refine C.out.mono ?_;rintro r v ⟨rfl,e1,e2⟩;have a3:=HA2.out.trans e2;have r1:=cell_but15 a3 HR.out.2.2.2.1 hhg;have r2:=cell_but15 a3 HR.out.2.2.2.2 hhg;have q1:=cell_but15 a3 HR.out.1 hqg;have q2:=cell_but15 a3 HR.out.2.1 hqg;have q3:=frozen_but15 (p:=⟨q,0,none⟩) a3 HL.out.2 (HR.out.2.2.1 0) hqg;have q4:=frozen_but15 (p:=⟨q,1,none⟩) a3 HL.out.2 (HR.out.2.2.1 1) hqg;have HE:=(qsd (ai e1 a3));clear C e1 e2 a3 HA2;go_wp2;obtain ⟨WE,hWE⟩:∃ W,W=((v.setCell ⟨q,0,none⟩ (Value.slice ao k cap)).setCell ⟨q,1,none⟩ (Value.slice (some ⟨g,0,none⟩) k k)):=⟨_,rfl⟩
    have x1:WE.cell? ⟨q,0,none⟩=some (Value.slice ao k cap):=by
     rw [hWE,World.cell?_setCell_other _ _ _ _ (by simp)]
     exact World.cell?_setCell_same _ _ _ q1
    have x2:WE.cell? ⟨q,1,none⟩=some (Value.slice (some ⟨g,0,none⟩) k k):=by
     rw [hWE];exact World.cell?_setCell_same _ _ _ (by rw [World.cell?_setCell_other _ _ _ _ (by simp)];exact q2)
    rw [←hWE];have X:=qsd hWE;clear hWE;refine bodyPost_ret (v:=.agg #[.slice ao k cap,.slice (some ⟨g,0,none⟩) k k]) (by simp [results,Tryz.results30,go_sem,x1,x2]) rfl ?_
    obtain ⟨e1,a3⟩:=HE.out;obtain ⟨hq,hg,hh⟩:=HQ.out
    have hb2:∀ j,j≠q→WE.heap[j]?=v.heap[j]?:=fun j hj=>by
     rw [X.out];simp only [World.setCell,Array.getElem?_modify];rw [if_neg (fun e=>hj e.symm),if_neg (fun e=>hj e.symm)]
    have hb3:WE.heap.size=v.heap.size:=by rw [X.out];simp [World.setCell]
    refine ⟨g,rfl,?_,⟨?_,?_,?_,?_,?_⟩,by omega⟩
    · unfold OwnI;rw [hb2 g hgq];exact e1
    · rw [X.out];exact a3.os.trans HB.out.os
    · rw [X.out];exact a3.tape.trans HB.out.tape
    · rw [X.out];exact a3.output.trans HB.out.output
    · rw [hb3];exact Nat.le_trans HB.out.size a3.size
    · intro j hj
      rw [hb2 j (by omega),a3.block j (by have:=HB.out.size;omega) (by omega)]
      exact HB.out.block j hj
end
section
open Go.RowKit J
def clx (x:Nat):Int:=B.cls (magW x/4503599627370496) (magW x%4503599627370496)
theorem class15 {x:Nat}(hx:x<18446744073709551616) (w:World):Calls Tryz.prog 50 #[.float .f64 x] w fun r w'=>r=.returned (.int .i64 (clx x))∧Below w.heap.size w w':=by
 obtain ⟨s,e,f,h1,h2,h3,h4,h5,h6⟩:=bw15 hx;have:=B.Class_any s e f h1 h2 w;rw [←h3,h5,h6] at this;exact this
theorem clx_nan {x:Nat}(hx:x<18446744073709551616):clx x=4↔nanW x=true:=by
 unfold clx B.cls nanW magW;rw [decide_eq_true_eq]
 by_cases a:x%9223372036854775808/4503599627370496=2047
 · rw [if_pos a]
   by_cases b:x%9223372036854775808%4503599627370496=0
   · rw [if_pos b];constructor <;> intro h <;> omega
   · rw [if_neg b];constructor <;> intro h <;> omega
 · rw [if_neg a]
   by_cases b:x%9223372036854775808/4503599627370496=0
   · rw [if_pos b];split <;> (constructor <;> intro h <;> omega)
   · rw [if_neg b];constructor <;> intro h <;> omega
theorem told15 {x:Nat}(hx:x<18446744073709551616) (w:World):Calls Tryz.prog 31 #[.float .f64 x] w fun r w'=>r=.returned (.float .f64 (nrm x))∧Below w.heap.size w w':=by
 have C:=hid (class15 hx w);have hk:=clx_nan hx;obtain ⟨c,hc⟩:∃ c,c=clx x:=⟨_,rfl⟩;rw [←hc] at C hk;clear hc
 by_cases h:c=4
 · subst h
   have e:nrm x=9221120237041090560:=by unfold nrm;rw [if_pos (hk.1 rfl)];rfl
   rw [e];clear e hk;go_enter Tryz.func31,Tryz.ntmps31
   go_wp2_with fail
   refine C.out.mono ?_;rintro r v ⟨rfl,hv⟩;have D:=hid (B.nan_any v)
   go_wp2_with fail
   refine D.out.mono ?_;rintro r v2 ⟨rfl,rfl⟩;go_wp2;go_ret;exact ⟨rfl,hv⟩
 · have e:nrm x=x:=by unfold nrm;rw [if_neg (fun q=>h (hk.2 q))]
   rw [e];clear e hk;have k1:(c==4)=false:=by simp [h]
   have k2:decide (c=4)=false:=by simp [h]
   go_enter Tryz.func31,Tryz.ntmps31
   go_wp2_with fail
   refine C.out.mono ?_;rintro r v ⟨rfl,hv⟩;go_wp2;go_ret;exact ⟨rfl,hv⟩
def srtTo (xs:List Nat) (k:Nat):List Nat:=(sortL xs).take k++List.replicate (xs.length-k) 0
theorem srtTo_zero (xs:List Nat):srtTo xs 0=List.replicate xs.length 0:=by simp [srtTo]
theorem srtTo_all (xs:List Nat):srtTo xs xs.length=sortL xs:=by
 unfold srtTo;rw [List.take_of_length_le (by rw [sortL_len];exact Nat.le_refl _)]
 simp
theorem srtTo_len {xs:List Nat}{k:Nat}(h:k≤xs.length):(srtTo xs k).length=xs.length:=by
 unfold srtTo;rw [List.length_append,List.length_take,List.length_replicate,sortL_len];omega
theorem srtTo_succ {xs:List Nat}{k:Nat}(h:k<xs.length):(srtTo xs k).set k ((sortL xs).getD k 0)=srtTo xs (k+1):=by
 have hl:k<(sortL xs).length:=by rw [sortL_len];exact h
 unfold srtTo;rw [List.set_append_right _ _ (by rw [List.length_take];omega),List.length_take,Nat.min_eq_left (by omega),Nat.sub_self,show xs.length-k=(xs.length-(k+1))+1 by omega,List.replicate_succ,List.set_cons_zero,List.getD_eq_getElem?_getD,List.getElem?_eq_getElem hl,List.take_add_one,List.getElem?_eq_getElem hl,List.append_assoc]
 rfl
theorem fld15 (a b:Value) (w:World):(Instr.field 48 (.agg #[a,b]) 1).run Tryz.prog w=.ok b w:=by kernel_rfl
attribute [local go_sem] fld15 st_float
theorem Sort15 (xs:List Nat) (ao:Option Addr) (n cap:Nat) (w:World) (hF:Fs w.heap.size w ao xs) (hn:n=xs.length) (hb:n≤17592186044416) (hW:W64 xs) :
 Calls Tryz.prog 9 #[.slice ao n cap] w fun r w'=>r=.returned (.slice (some ⟨w.heap.size,0,none⟩) n n)∧OwnF w' w.heap.size (sortL xs)∧Below w.heap.size w w':=by
 have mk:=make_floats n n rfl hb;obtain ⟨G,hG⟩:∃ G,G=w.heap.size:=⟨_,rfl⟩;obtain ⟨W1,hW1⟩:∃ W,W=w.alloc (.cells (madeCells #[.float .f64 0] n) 40):=⟨_,rfl⟩;have o1:OwnF W1 G (srtTo xs 0):=by rw [hW1,srtTo_zero,hG,←hn];exact OwnF.made w n
 have o2:Below w.heap.size w W1:=by rw [hW1];exact (Below.refl w.heap.size w).alloc (Nat.le_refl _) _
 have hFw:Fs w.heap.size W1 ao xs:=hF.below o2;have C:=hid (rowOf15 xs ao n cap W1 (hFw.mono o2.size) hn hb hW);have hGl:G<W1.heap.size:=o1.lt;have HN:=(qsd (ai hn (ai hW (ai hF (ai o1 (ai o2 (ai hG hGl)))))));have HW1:=qsd hW1;clear hF hFw o1 o2 hn hW hGl hG hW1;go_enter Tryz.func9,Tryz.ntmps9
 go_upto_region 2 with fail
 rw [←HW1.out,←HN.out.2.2.2.2.2.1];clear mk
 go_wp2_with fail
 refine C.out.mono ?_;rintro r v ⟨g,rfl,e1,e2,e3⟩
 have HA:Aside (OwnF v G (srtTo xs 0)∧OwnI v g (rowL xs)∧Below w.heap.size w v∧G<g∧g<v.heap.size):=by
  obtain ⟨hn,hW,hFw,o1,o2,hG,hGl⟩:=HN.out;exact ⟨o1.below e2 hGl,e1,o2.trans (e2.mono o2.size),by omega,e1.lt⟩
 clear C e1 e2 e3;go_wp2
 go_loopg [13] n (fun gk iv wr=>∃ k:Nat,gk+k=n∧iv=.int .i64 (k:Nat)∧Aside (OwnF wr G (srtTo xs k)∧OwnI wr g (rowL xs)∧Below w.heap.size w wr∧G<g∧g<wr.heap.size))
 case atStart=>exact ⟨0,rfl,by first | rfl | simp,HA.out⟩
 case round =>
  clear HA;obtain ⟨k,hgk,rfl,HA⟩:=hrel
  by_cases hk:k<n
  · have hdk:decide ((k:Int)<(n:Int))=true:=by simp;omega
    have bk:(k:Int)<(n:Int):=by omega
    obtain ⟨k1,hk1⟩:∃ x,x=k+1:=⟨_,rfl⟩;have wk:IntKind.i64.wrap ((k:Int)+1)=(k1:Int):=wrapZ (by omega) (by omega)
    obtain ⟨a1,a2,a3,a4,a5⟩:=HA.out;obtain ⟨hn,hW,hF,o1,o2,hG,hGl⟩:=HN.out;have hkx:k<xs.length:=by omega
    obtain ⟨i,hi⟩:∃ i,i=(rowL xs).getD k 0:=⟨_,rfl⟩;have c1:=a2.cell k (by rw [rowL_len];exact hkx)
    have hin:i<n:=by rw [hi,hn];exact rowL_lt hkx
    rw [←hi] at c1;have bi:(i:Int)<(n:Int):=by omega
    obtain ⟨b,off,rfl,c2⟩:=hF.at a3 i (by omega)
    have hx:xs.getD i 0<18446744073709551616:=hW _ (getD_mem15 (by omega))
    have e4:(sortL xs).getD k 0=nrm (xs.getD i 0):=by rw [hi];exact sortL_get hkx
    obtain ⟨x,hxx⟩:∃ x,x=xs.getD i 0:=⟨_,rfl⟩;rw [←hxx] at c2 hx e4;have D:=hid (told15 hx wr);obtain ⟨y,hy⟩:∃ y,y=nrm x:=⟨_,rfl⟩;rw [←hy] at D e4
    have HX:Aside (∀ v,Below wr.heap.size wr v→v.cell? ⟨G,k,none⟩=some (.float .f64 ((srtTo xs k).getD k 0))∧v.frozen? ⟨G,k,none⟩=false∧OwnF (v.setCell ⟨G,k,none⟩ (.float .f64 y)) G (srtTo xs k1)∧OwnI (v.setCell ⟨G,k,none⟩ (.float .f64 y)) g (rowL xs)∧Below w.heap.size w (v.setCell ⟨G,k,none⟩ (.float .f64 y))∧G<g∧g<(v.setCell ⟨G,k,none⟩ (.float .f64 y)).heap.size):=fun v hv=>by
     have a1':=a1.below hv (by omega)
     have a2':=a2.below hv (by omega)
     refine ⟨a1'.cell k (by rw [srtTo_len (by omega)];exact hkx),a1'.frozen k,?_,?_,?_,a4,?_⟩
     · rw [hk1,←srtTo_succ hkx,e4];exact a1'.set k y
     · have hne:g≠G:=by omega
       unfold OwnI at a2' ⊢;simp only [World.setCell,Array.getElem?_modify];rw [if_neg (fun e=>hne e.symm)];exact a2'
     · exact (a3.trans (hv.mono a3.size)).setCell (show w.heap.size≤G by omega) _
     · have:=a2'.lt
       simpa [World.setCell] using this
    have HK:=qsd hk1;clear HA a1 a2 a3 a4 a5 hn hW hF o1 o2 hG hGl hi hkx hx e4 hxx hy hk1
    go_wp2_with fail
    refine D.out.mono ?_;rintro r v ⟨rfl,hv⟩;obtain ⟨x1,x2,x3⟩:=HX.out v hv;have HY:=qsd x3;clear D HX x3 hv;obtain ⟨z,hz⟩:∃ z,z=(srtTo xs k).getD k 0:=⟨_,rfl⟩;rw [←hz] at x1;clear hz;go_wp2
    go_roundg (n-k1)
    case measure=>have:=HK.out;omega
    case rel=>exact ⟨k1,by have:=HK.out;omega,by first | rfl | simp,HY.out⟩
  · have hdk:decide ((k:Int)<(n:Int))=false:=by simp;omega
    go_wp2;go_ret;obtain ⟨a1,a2,a3,a4,a5⟩:=HA.out;obtain ⟨hn,hW,hF,o1,o2,hG,hGl⟩:=HN.out;rw [show k=xs.length by omega,srtTo_all] at a1
    exact ⟨by rw [←hG];rfl,by rw [←hG];exact a1,a3⟩
end
section
open Go.RowKit J
attribute [local go_sem] fld15
theorem place15 (k:Int) (w:World):Calls Tryz.prog 33 #[.int .i64 k] w fun r w'=>r=.returned (.int .i64 k)∧w'=w:=by
 go_enter Tryz.func33,Tryz.ntmps33;go_wp2;go_ret;exact ⟨rfl,rfl⟩
theorem eachI15 (xs:List Nat) (ao:Option Addr) (n cap g:Nat) (w:World) (hO:OwnI w g (rowL xs)) (hn:n=xs.length) (hb:n≤17592186044416) :
 Calls Tryz.prog 32 #[.agg #[.slice ao n cap,.slice (some ⟨g,0,none⟩) n n],.func (.func 33) #[] #[]] w fun r w'=>r=.returned (.slice (some ⟨w.heap.size+1,0,none⟩) n n)∧OwnI w' (w.heap.size+1) (eachL xs fun k=>k)∧Below w.heap.size w w':=by
 have mk:=make_ints n n rfl hb;have hg:=hO.lt;obtain ⟨W1,hW1⟩:∃ W,W=((w.alloc (Obj.cells #[Value.slice ao n cap,Value.slice (some ⟨g,0,none⟩) n n] 48)).alloc (Obj.cells (madeCells #[Value.int IntKind.i64 0] n) 3)):=⟨_,rfl⟩
 have o1:OwnI W1 (w.heap.size+1) (eachTo xs (fun k=>k) 0 0):=by
  rw [hW1,eachTo_zero,←hn];have:=(OwnI.made (w.alloc (Obj.cells #[Value.slice ao n cap,Value.slice (some ⟨g,0,none⟩) n n] 48)) n);rw [World.size_alloc] at this;exact this
 have o2:Below w.heap.size w W1:=by
  rw [hW1];exact ((Below.refl w.heap.size w).alloc (Nat.le_refl _) _).alloc (by simp) _
 have r2:W1.cell? ⟨w.heap.size,1,none⟩=some (.slice (some ⟨g,0,none⟩) n n):=by
  rw [hW1,World.cell?_alloc_lt _ _ _ (by simp),World.cell?_alloc_new];rfl
 obtain ⟨G,hG⟩:∃ G,G=w.heap.size+1:=⟨_,rfl⟩;rw [←hG] at o1 ⊢;have HG:=qsd hG;have hGl:G<W1.heap.size:=o1.lt;have HN:=(qsd (ai hn (ai hO (ai hg hGl))));have HA:Aside (OwnI W1 G (eachTo xs (fun k=>k) 0 0)∧Below w.heap.size w W1):=⟨o1,o2⟩
 have HW1:=qsd hW1;clear o1 o2 hn hO hg hGl hG hW1;go_enter Tryz.func32,Tryz.ntmps32
 go_upto_region 2 with fail
 rw [←HW1.out,←HG.out];clear mk;go_wp2
 go_loopg [15] n (fun gk iv wr=>∃ k:Nat,gk+k=n∧iv=.int .i64 (k:Nat)∧Aside (OwnI wr G (eachTo xs (fun k=>k) 0 k)∧Below w.heap.size w wr))
 case atStart=>exact ⟨0,rfl,by first | rfl | simp,HA.out⟩
 case round =>
  clear HA r2;obtain ⟨k,hgk,rfl,HA⟩:=hrel
  by_cases hk:k<n
  · have hdk:decide ((k:Int)<(n:Int))=true:=by simp;omega
    have bk:(k:Int)<(n:Int):=by omega
    obtain ⟨k1,hk1⟩:∃ x,x=k+1:=⟨_,rfl⟩;have wk:IntKind.i64.wrap ((k:Int)+1)=(k1:Int):=wrapZ (by omega) (by omega)
    obtain ⟨a1,a3⟩:=HA.out;obtain ⟨hn,hO,hg,hGl⟩:=HN.out;have hkx:k<xs.length:=by omega
    obtain ⟨i,hi⟩:∃ i,i=(rowL xs).getD k 0:=⟨_,rfl⟩;have c1:=(hO.below a3 hg).cell k (by rw [rowL_len];exact hkx)
    have hin:i<n:=by rw [hi,hn];exact rowL_lt hkx
    rw [←hi] at c1;have bi:(i:Int)<(n:Int):=by omega
    have x1:=a1.cell i (by rw [eachTo_len,←hn];exact hin)
    have x2:=a1.frozen i;obtain ⟨y,hy⟩:∃ y,y=(eachTo xs (fun k=>k) 0 k).getD i 0:=⟨_,rfl⟩
    rw [←hy] at x1
    have HX:Aside (OwnI (wr.setCell ⟨G,i,none⟩ (.int .i64 (k:Nat))) G (eachTo xs (fun k=>k) 0 k1)∧Below w.heap.size w (wr.setCell ⟨G,i,none⟩ (.int .i64 (k:Nat)))):=by
     refine ⟨?_,a3.setCell (show w.heap.size≤G by have:=HG.out;omega) _⟩
     have:=a1.set i k;rw [hi,eachTo_succ xs (fun k=>k) 0 hkx,←hk1] at this
     rw [hi];exact this
    have D:=hid (place15 (k:Nat) wr);have HK:=qsd hk1;clear HA a1 a3 hn hO hg hGl hi hkx hy hk1
    go_wp2_with fail
    refine D.out.mono ?_;rintro r v ⟨rfl,rfl⟩;clear D;go_wp2
    go_roundg (n-k1)
    case measure=>have:=HK.out;omega
    case rel=>exact ⟨k1,by have:=HK.out;omega,by first | rfl | simp,HX.out⟩
  · have hdk:decide ((k:Int)<(n:Int))=false:=by simp;omega
    go_wp2;go_ret;obtain ⟨a1,a3⟩:=HA.out;obtain ⟨hn,hO,hg,hGl⟩:=HN.out;rw [show k=xs.length by omega,eachTo_all] at a1
    exact ⟨rfl,a1,a3⟩
theorem Places15 (xs:List Nat) (ao:Option Addr) (n cap:Nat) (w:World) (hF:Fs w.heap.size w ao xs) (hn:n=xs.length) (hb:n≤17592186044416) (hW:W64 xs) :
 Calls Tryz.prog 10 #[.slice ao n cap] w fun r w'=>∃ g,r=.returned (.slice (some ⟨g,0,none⟩) n n)∧OwnI w' g (eachL xs fun k=>k)∧Below w.heap.size w w'∧w.heap.size≤g:=by
 have C:=hid (rowOf15 xs ao n cap w hF hn hb hW);have D:=hid (fun (g:Nat) (u:World) (hO:OwnI u g (rowL xs))=>eachI15 xs ao n cap g u hO hn hb)
 clear hF hn hb hW;go_enter Tryz.func10,Tryz.ntmps10
 go_wp2_with fail
 refine C.out.mono ?_;rintro r v ⟨g,rfl,e1,e2,e3⟩;have E:=hid (D.out g v e1);have H:=(qsd (ai e2 e3));clear C D e1 e2 e3
 go_wp2_with fail
 refine E.out.mono ?_;rintro r u ⟨rfl,f1,f2⟩;replace H:=qsd (ai (H.out.1.trans (f2.mono H.out.1.size)) (ai f1 (Nat.le_trans H.out.1.size (Nat.le_succ _))));clear E f1 f2;go_wp2;go_ret;exact ⟨_,rfl,H.out.2.1,H.out.1,H.out.2.2⟩
end
section
open Go.RowKit J
theorem absSg (s:Bool) (v:Nat):(B.sg s v).natAbs=v:=by unfold B.sg;cases s <;> simp
end
section
open Go.RowKit J
abbrev Wd (x:Nat):Prop:=x<18446744073709551616
end
end Go.Proofs.YtihjfhpoiheomaaGreatDoor
