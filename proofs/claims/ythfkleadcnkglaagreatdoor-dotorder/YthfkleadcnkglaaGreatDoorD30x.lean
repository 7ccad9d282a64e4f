import Derived.Test.YthfkleadcnkglaaGreatDoorD16x
import Derived.Deep.Cut
import Derived.Test.YthfkleadcnkglaaGreatDoorD21x
import Derived.Deep.RegionWith
import Derived.Deep.RegionHeld3
import Derived.Deep.CutRange
import Derived.Test.YthfkleadcnkglaaGreatDoorW9x
import Derived.BigQuiet
import Derived.Laws.Bits64
import Derived.Laws.Bits64b
import Derived.Test.YthfkleadcnkglaaGreatDoorP1x
import Derived.Test.YthfkleadcnkglaaGreatDoorD14x
import Derived.Test.YthfkleadcnkglaaGreatDoorS6x
import Derived.Test.YthfkleadcnkglaaGreatDoorD4x
set_option linter.unusedVariables false
set_option linter.unusedSimpArgs false
set_option maxHeartbeats 16000000
set_option maxRecDepth 20000
namespace Go.Proofs.YthfkleadcnkglaaGreatDoor
namespace J
end J
section
open Go.RowKit
theorem mul_res (W:World) (g:Nat) (n:Bool) (v:Value) (e k:Int) (tmps:Array Value) (ht:tmps[4]?.getD undef=.pointer (some ⟨g,0,none⟩)) (hk:tmps[5]?.getD undef=.int .i64 k) (D:Dk W g n v e) :
 (results Tryz.f111 tmps).run Tryz.prog W=.ok (.tuple #[.agg #[.bool n,v,.int .i64 e],.int .i64 k]) W:=by
 obtain ⟨x0,x1,x2,xf0,xf1,xf2⟩:=D.facts;simp [results,Tryz.results111,ht,hk,go_sem,x0,x1,x2]
theorem mul_bad {w:World}{a b:Option Addr}{l c k d:Nat}(n m:Bool) (e f:Int) (HFM:Hid (∀ u,Below w.heap.size w u→Calls Tryz.prog 151 #[.agg #[.bool n,.slice a l c,.int .i64 e],.agg #[.bool m,.slice b k d,.int .i64 f]] u fun r w'=>r=.returned (.tuple #[.agg #[.bool false,.slice none 0 0,.int .i64 0],.agg #[.bool false,.slice none 0 0,.int .i64 0],.int .i64 2])∧Below u.heap.size u w')):Calls Tryz.prog 111 #[.agg #[.bool n,.slice a l c,.int .i64 e],.agg #[.bool m,.slice b k d,.int .i64 f]] w fun r w'=>r=.returned (.tuple #[.agg #[.bool false,.slice none 0 0,.int .i64 0],.int .i64 2])∧Below w.heap.size w w':=by
 obtain ⟨W1,hW1⟩:∃ W,W=((w.alloc (.cells #[.bool n,.slice a l c,.int .i64 e] 47)).alloc (.cells #[.bool m,.slice b k d,.int .i64 f] 47)).alloc (.cells #[.bool false,.slice none 0 0,.int .i64 0] 47):=⟨_,rfl⟩;obtain ⟨hB,hz1,DA,DB,DR⟩:=add_begin w n m (.slice a l c) (.slice b k d) e f W1 hW1;have H1:=hid (HFM.out W1 hB);have SB:=(qsd (ai hB (ai hz1 (ai DA (ai DB DR)))));clear hB hz1 DA DB DR HFM;go_enter Tryz.func111,Tryz.ntmps111
 go_wp2_with fail
 rw [←hW1];clear hW1;refine H1.out.mono ?_;rintro r u1 ⟨rfl,hb⟩;obtain ⟨hB,hz1,DA,DB,DR⟩:=SB.out;have EA:=DA.below hb;have EB:=DB.below hb;have ER:=DR.below hb;obtain ⟨x0,x1,x2,xf0,xf1,xf2⟩:=EA.facts;obtain ⟨y0,y1,y2,yf0,yf1,yf2⟩:=EB.facts;obtain ⟨r0,r1,r2,rf0,rf1,rf2⟩:=ER.facts;have F1:=qsd (show Fin w.heap.size (w.heap.size+3) w u1 (.slice none 0 0) 0 from ⟨Nt.nil _ _,hB.trans (hb.mono (by omega)),by have:=hb.size;omega⟩)
 have SE:=qsd ER;clear hb H1 hB hz1 DA DB DR EA EB ER SB;go_wp2;refine bodyPost_ret (mul_res _ (w.heap.size+1+1) false (.slice none 0 0) 0 2 _ rfl rfl (((SE.out.other _ (by omega) _ _ _).other _ (by omega) _ _ _).set _ _ _)) rfl ⟨rfl,?_⟩
 refine Fin.bel (m:=w.heap.size+3) (v:=.slice none 0 0) (X:=0) ?_
 repeat (with_reducible first | exact F1.out | refine Fin.drew ?_ | refine Fin.alloc ?_ _ | refine Fin.set ?_ _ _ _ (by omega) (by omega))
theorem mul_long {w:World}{a b:Option Addr}{l c k d:Nat}(n m:Bool) (e f:Int) (n1 m1:Bool) (X Y:Nat) (e1 f1:Int) (lX:(ws X).length≤8192) (lY:(ws Y).length≤8192) (be0:-1048576≤e1) (be1:e1≤1048576) (bf0:-1048576≤f1) (bf1:f1≤1048576)
 (HFM:Hid (∀ u,Below w.heap.size w u→Calls Tryz.prog 151 #[.agg #[.bool n,.slice a l c,.int .i64 e],.agg #[.bool m,.slice b k d,.int .i64 f]] u fun r w'=>∃ v v',r=.returned (.tuple #[.agg #[.bool n1,v,.int .i64 e1],.agg #[.bool m1,v',.int .i64 f1],.int .i64 0])∧Nt u.heap.size w' v X∧Nt u.heap.size w' v' Y∧Below u.heap.size u w'))
 (HSH:Hid (∀ (u:World) (p:Option Addr) (q:Nat) (p2:Option Addr) (q2:Nat),Below w.heap.size w u→Arg u p (ws X).length q (ws X)→Arg u p2 (ws Y).length q2 (ws Y)→Calls Tryz.prog 152 #[.slice p (ws X).length q,.slice p2 (ws Y).length q2] u fun r w'=>∃ v,r=.returned (.tuple #[v,.int .i64 2])∧Nt u.heap.size w' v 0∧Below u.heap.size u w')):Calls Tryz.prog 111 #[.agg #[.bool n,.slice a l c,.int .i64 e],.agg #[.bool m,.slice b k d,.int .i64 f]] w fun r w'=>r=.returned (.tuple #[.agg #[.bool false,.slice none 0 0,.int .i64 0],.int .i64 2])∧Below w.heap.size w w':=by
 have l0:(ws 0).length=0:=by rw [ws_zero];rfl
 obtain ⟨W1,hW1⟩:∃ W,W=((w.alloc (.cells #[.bool n,.slice a l c,.int .i64 e] 47)).alloc (.cells #[.bool m,.slice b k d,.int .i64 f] 47)).alloc (.cells #[.bool false,.slice none 0 0,.int .i64 0] 47):=⟨_,rfl⟩;obtain ⟨hB,hz1,DA,DB,DR⟩:=add_begin w n m (.slice a l c) (.slice b k d) e f W1 hW1;have H1:=hid (HFM.out W1 hB);have SB:=(qsd (ai hB (ai hz1 (ai DA (ai DB DR)))));clear hB hz1 DA DB DR HFM;go_enter Tryz.func111,Tryz.ntmps111
 go_wp2_with fail
 rw [←hW1];clear hW1;refine H1.out.mono ?_;rintro r u1 ⟨v,v',rfl,hN,hM,hb⟩;obtain ⟨a1,c1,rfl,_⟩:=hN.arg (by omega)
 obtain ⟨a2,c2,rfl,_⟩:=hM.arg (by omega)
 obtain ⟨hB,hz1,DA,DB,DR⟩:=SB.out;have EA:=DA.below hb;have EB:=DB.below hb;have ER:=DR.below hb;obtain ⟨x0,x1,x2,xf0,xf1,xf2⟩:=EA.facts;obtain ⟨y0,y1,y2,yf0,yf1,yf2⟩:=EB.facts;obtain ⟨r0,r1,r2,rf0,rf1,rf2⟩:=ER.facts;have FX:=qsd (show Fin w.heap.size (w.heap.size+3) w u1 (.slice a1 (ws X).length c1) X from ⟨by rw [←hz1];exact hN,hB.trans (hb.mono (by omega)),by have:=hb.size;omega⟩)
 have FY:=qsd (show Fin w.heap.size (w.heap.size+3) w u1 (.slice a2 (ws Y).length c2) Y from ⟨by rw [←hz1];exact hM,hB.trans (hb.mono (by omega)),by have:=hb.size;omega⟩)
 have SE:=(qsd (ai EA (ai EB ER)));clear hN hM hb H1 hB hz1 DA DB DR EA EB ER SB;obtain ⟨EA,EB,ER⟩:=SE.out;obtain ⟨U1,hU1⟩:∃ U,U=st3 (st3 u1 w.heap.size (.bool n1) (.slice a1 (ws X).length c1) (.int .i64 e1)) (w.heap.size+1) (.bool m1) (.slice a2 (ws Y).length c2) (.int .i64 f1):=⟨_,rfl⟩;have IA:Dk U1 w.heap.size n1 (.slice a1 (ws X).length c1) e1:=by rw [hU1];exact ((EA.set _ _ _).other _ (by omega) _ _ _)
 have IB:Dk U1 (w.heap.size+1) m1 (.slice a2 (ws Y).length c2) f1:=by rw [hU1];exact ((EB.other _ (by omega) _ _ _).set _ _ _)
 have IR:Dk U1 (w.heap.size+1+1) false (.slice none 0 0) 0:=by rw [hU1];exact ((ER.other _ (by omega) _ _ _).other _ (by omega) _ _ _)
 have GX:Fin w.heap.size (w.heap.size+3) w U1 (.slice a1 (ws X).length c1) X:=by rw [hU1];exact (Fin.st3 (Fin.st3 FX.out _ _ _ _ (by omega) (by omega)) _ _ _ _ (by omega) (by omega))
 have GY:Fin w.heap.size (w.heap.size+3) w U1 (.slice a2 (ws Y).length c2) Y:=by rw [hU1];exact (Fin.st3 (Fin.st3 FY.out _ _ _ _ (by omega) (by omega)) _ _ _ _ (by omega) (by omega))
 have H2:=hid (HSH.out U1 a1 c1 a2 c2 GX.bel (GX.nt.arg' (by omega)).2 (GY.nt.arg' (by omega)).2)
 have S1:=(qsd (ai IA (ai IB (ai IR (ai GX GY)))));have hzU:w.heap.size+3≤U1.heap.size:=by have:=IR.lt;omega
 clear EA EB ER IA IB IR GX GY SE HSH;unfold st3 at hU1
 go_wp2_with fail
 rw [←hU1];clear hU1 x0 x1 x2 xf0 xf1 xf2 y0 y1 y2 yf0 yf1 yf2 r0 r1 r2 rf0 rf1 rf2;refine H2.out.mono ?_;rintro r u2 ⟨v,rfl,hN,hb⟩;obtain ⟨a3,c3,rfl,_⟩:=hN.arg (by omega)
 obtain ⟨IA,IB,IR,GX,GY⟩:=S1.out;obtain ⟨x0,x1,x2,xf0,xf1,xf2⟩:=(IA.below hb).facts;obtain ⟨y0,y1,y2,yf0,yf1,yf2⟩:=(IB.below hb).facts;obtain ⟨r0,r1,r2,rf0,rf1,rf2⟩:=(IR.below hb).facts;have S2:=(qsd (ai (IR.below hb) ((GX.below hb))));clear hN hb H2 S1 IA IB IR GX GY;go_wp2;refine bodyPost_ret (mul_res _ (w.heap.size+1+1) false (.slice none 0 0) 0 2 _ rfl rfl (S2.out.1.set _ _ _)) rfl ⟨rfl,?_⟩;refine Fin.bel (m:=w.heap.size+3) (v:=.slice a1 (ws X).length c1) (X:=X) ?_
 repeat (with_reducible first | exact S2.out.2 | refine Fin.drew ?_ | refine Fin.alloc ?_ _ | refine Fin.set ?_ _ _ _ (by omega) (by omega))
theorem mul_ok {w:World}{a b:Option Addr}{l c k d:Nat}(n m:Bool) (e f:Int) (n1 m1:Bool) (X Y:Nat) (e1 f1:Int) (lX:(ws X).length≤8192) (lY:(ws Y).length≤8192) (be0:-1048576≤e1) (be1:e1≤1048576) (bf0:-1048576≤f1) (bf1:f1≤1048576)
 (HFM:Hid (∀ u,Below w.heap.size w u→Calls Tryz.prog 151 #[.agg #[.bool n,.slice a l c,.int .i64 e],.agg #[.bool m,.slice b k d,.int .i64 f]] u fun r w'=>∃ v v',r=.returned (.tuple #[.agg #[.bool n1,v,.int .i64 e1],.agg #[.bool m1,v',.int .i64 f1],.int .i64 0])∧Nt u.heap.size w' v X∧Nt u.heap.size w' v' Y∧Below u.heap.size u w')) (L:Nat) (lL:(ws L).length≤8192) (dn:Bool) (V:Nat) (de er:Int) (lV:(ws V).length≤8192)
 (HSH:Hid (∀ (u:World) (p:Option Addr) (q:Nat) (p2:Option Addr) (q2:Nat),Below w.heap.size w u→Arg u p (ws X).length q (ws X)→Arg u p2 (ws Y).length q2 (ws Y)→Calls Tryz.prog 152 #[.slice p (ws X).length q,.slice p2 (ws Y).length q2] u fun r w'=>∃ v,r=.returned (.tuple #[v,.int .i64 0])∧Nt u.heap.size w' v L∧Below u.heap.size u w'))
 (HT:Hid (∀ (u:World) (p:Option Addr) (s:Nat),Below w.heap.size w u→Arg u p (ws L).length s (ws L)→Calls Tryz.prog 108 #[.bool (n1 != m1),.slice p (ws L).length s,.int .i64 (e1+f1)] u fun r w'=>(∃ v,r=.returned (.tuple #[.agg #[.bool dn,v,.int .i64 de],.int .i64 er])∧Nt u.heap.size w' v V)∧Below u.heap.size u w')):Calls Tryz.prog 111 #[.agg #[.bool n,.slice a l c,.int .i64 e],.agg #[.bool m,.slice b k d,.int .i64 f]] w fun r w'=>(∃ v,r=.returned (.tuple #[.agg #[.bool dn,v,.int .i64 de],.int .i64 er])∧Nt w.heap.size w' v V)∧Below w.heap.size w w':=by
 obtain ⟨W1,hW1⟩:∃ W,W=((w.alloc (.cells #[.bool n,.slice a l c,.int .i64 e] 47)).alloc (.cells #[.bool m,.slice b k d,.int .i64 f] 47)).alloc (.cells #[.bool false,.slice none 0 0,.int .i64 0] 47):=⟨_,rfl⟩;obtain ⟨hB,hz1,DA,DB,DR⟩:=add_begin w n m (.slice a l c) (.slice b k d) e f W1 hW1;have H1:=hid (HFM.out W1 hB);have SB:=(qsd (ai hB (ai hz1 (ai DA (ai DB DR)))));clear hB hz1 DA DB DR HFM;go_enter Tryz.func111,Tryz.ntmps111
 go_wp2_with fail
 rw [←hW1];clear hW1;refine H1.out.mono ?_;rintro r u1 ⟨v,v',rfl,hN,hM,hb⟩;obtain ⟨a1,c1,rfl,_⟩:=hN.arg (by omega)
 obtain ⟨a2,c2,rfl,_⟩:=hM.arg (by omega)
 obtain ⟨hB,hz1,DA,DB,DR⟩:=SB.out;have EA:=DA.below hb;have EB:=DB.below hb;have ER:=DR.below hb;obtain ⟨x0,x1,x2,xf0,xf1,xf2⟩:=EA.facts;obtain ⟨y0,y1,y2,yf0,yf1,yf2⟩:=EB.facts;obtain ⟨r0,r1,r2,rf0,rf1,rf2⟩:=ER.facts;have FX:=qsd (show Fin w.heap.size (w.heap.size+3) w u1 (.slice a1 (ws X).length c1) X from ⟨by rw [←hz1];exact hN,hB.trans (hb.mono (by omega)),by have:=hb.size;omega⟩)
 have FY:=qsd (show Fin w.heap.size (w.heap.size+3) w u1 (.slice a2 (ws Y).length c2) Y from ⟨by rw [←hz1];exact hM,hB.trans (hb.mono (by omega)),by have:=hb.size;omega⟩)
 have SE:=(qsd (ai EA (ai EB ER)));clear hN hM hb H1 hB hz1 DA DB DR EA EB ER SB;obtain ⟨EA,EB,ER⟩:=SE.out;obtain ⟨U1,hU1⟩:∃ U,U=st3 (st3 u1 w.heap.size (.bool n1) (.slice a1 (ws X).length c1) (.int .i64 e1)) (w.heap.size+1) (.bool m1) (.slice a2 (ws Y).length c2) (.int .i64 f1):=⟨_,rfl⟩;have IA:Dk U1 w.heap.size n1 (.slice a1 (ws X).length c1) e1:=by rw [hU1];exact ((EA.set _ _ _).other _ (by omega) _ _ _)
 have IB:Dk U1 (w.heap.size+1) m1 (.slice a2 (ws Y).length c2) f1:=by rw [hU1];exact ((EB.other _ (by omega) _ _ _).set _ _ _)
 have IR:Dk U1 (w.heap.size+1+1) false (.slice none 0 0) 0:=by rw [hU1];exact ((ER.other _ (by omega) _ _ _).other _ (by omega) _ _ _)
 have GX:Fin w.heap.size (w.heap.size+3) w U1 (.slice a1 (ws X).length c1) X:=by rw [hU1];exact (Fin.st3 (Fin.st3 FX.out _ _ _ _ (by omega) (by omega)) _ _ _ _ (by omega) (by omega))
 have GY:Fin w.heap.size (w.heap.size+3) w U1 (.slice a2 (ws Y).length c2) Y:=by rw [hU1];exact (Fin.st3 (Fin.st3 FY.out _ _ _ _ (by omega) (by omega)) _ _ _ _ (by omega) (by omega))
 have H2:=hid (HSH.out U1 a1 c1 a2 c2 GX.bel (GX.nt.arg' (by omega)).2 (GY.nt.arg' (by omega)).2)
 have S1:=(qsd (ai IA (ai IB (ai IR (ai GX GY)))));have hzU:w.heap.size+3≤U1.heap.size:=by have:=IR.lt;omega
 clear EA EB ER IA IB IR GX GY SE HSH;unfold st3 at hU1
 go_wp2_with fail
 rw [←hU1];clear hU1 x0 x1 x2 xf0 xf1 xf2 y0 y1 y2 yf0 yf1 yf2 r0 r1 r2 rf0 rf1 rf2;refine H2.out.mono ?_;rintro r u2 ⟨v,rfl,hN,hb⟩;obtain ⟨a3,c3,rfl,_⟩:=hN.arg (by omega)
 obtain ⟨IA,IB,IR,GX,GY⟩:=S1.out;obtain ⟨x0,x1,x2,xf0,xf1,xf2⟩:=(IA.below hb).facts;obtain ⟨y0,y1,y2,yf0,yf1,yf2⟩:=(IB.below hb).facts;obtain ⟨r0,r1,r2,rf0,rf1,rf2⟩:=(IR.below hb).facts;have H3:=hid (HT.out u2 a3 c3 (GX.below hb).bel (hN.arg' (by omega)).2)
 have S2:=(qsd (ai (IR.below hb) ((GX.below hb))));have hz2:w.heap.size+3≤u2.heap.size:=by have:=hb.size;omega
 clear hN hb H2 S1 IA IB IR GX GY HT
 go_wp2_with fail
 refine H3.out.mono ?_;rintro r u3 ⟨⟨v,rfl,hN⟩,hb⟩;obtain ⟨a4,c4,rfl,_⟩:=hN.arg (by omega)
 have IR:=S2.out.1.below hb;obtain ⟨s0,s1,s2,sf0,sf1,sf2⟩:=IR.facts;have FV:=qsd (show Fin w.heap.size (w.heap.size+3) w u3 (.slice a4 (ws V).length c4) V from ⟨hN.mono hz2,(S2.out.2.below hb).bel,by have:=hb.size;omega⟩)
 have S3:=qsd IR;clear hN hb IR H3 S2;go_wp2;refine bodyPost_ret (mul_res _ (w.heap.size+1+1) dn (.slice a4 (ws V).length c4) de er _ rfl rfl (S3.out.set _ _ _)) rfl ?_;refine Fin.dans (m:=w.heap.size+3) ?_ (by omega)
 repeat (with_reducible first | exact FV.out | refine Fin.drew ?_ | refine Fin.alloc ?_ _ | refine Fin.set ?_ _ _ _ (by omega) (by omega))
def mulF (x y:Bool×Nat×Int):Option (Bool×Nat×Int):=mkS (x.1 != y.1) (x.2.1*y.2.1) (x.2.2+y.2.2)
def mulD (o p:Option (Bool×Nat×Int)):Option (Bool×Nat×Int) :=
 match o,p with
 | some x,some y=>mulF x y
 | _,_=>none
theorem Mul_one {w:World}{p q:Option Addr}{s t X Y:Nat}(L:Nat) (er:Int) (hA:Arg w p (ws X).length s (ws X)) (hB:Arg w q (ws Y).length t (ws Y)) (h:mulS X Y=(L,er)) :
 Calls Tryz.prog 152 #[.slice p (ws X).length s,.slice q (ws Y).length t] w fun r w'=>∃ v,r=.returned (.tuple #[v,.int .i64 er])∧Nt w.heap.size w' v L∧Below w.heap.size w w':=by
 have:=Mul_any (ws X) (ws Y) p q (ws X).length s (ws Y).length t w.heap.size w hA.len hB.len hA.cap hB.cap (by have:=hA.big;omega) (by have:=hB.big;omega) hA.wf hB.wf hA.rd hB.rd (Nat.le_refl _)
 rw [val_ws,val_ws,h] at this;exact this.mono fun r w' ⟨⟨v,h1,h2⟩,h3⟩=>⟨v,h1,h2,h3⟩
theorem lo_odd1 {X:Nat}(h:X%2=1):lo X=0:=by
 have:=lo_eq 0 (X/2);rw [show 2^0*(2*(X/2)+1)=X by omega] at this
 exact this
theorem Mul_any3 {w:World}{a b:Option Addr}{l c k d:Nat}{xs ys:List Nat}(h1:Arg w a l c xs) (h2:Arg w b k d ys) (hT:Tab w) (n m:Bool) (e f:Int) (he0:-9223372036854775808≤e) (he1:e≤9223372036854775807) (hf0:-9223372036854775808≤f) (hf1:f≤9223372036854775807) :
 Calls Tryz.prog 111 #[.agg #[.bool n,.slice a l c,.int .i64 e],.agg #[.bool m,.slice b k d,.int .i64 f]] w fun r w'=>DAns w.heap.size w' r (mulD (mkS n (val xs) e) (mkS m (val ys) f))∧Below w.heap.size w w':=by
 have zero:∀ {r:Ending} {w':World},(r=.returned (.tuple #[.agg #[.bool false,.slice none 0 0,.int .i64 0],.int .i64 2])∧Below w.heap.size w w')→DAns w.heap.size w' r none∧Below w.heap.size w w':=fun ⟨h1,h2⟩=>⟨⟨_,h1,Nt.nil _ _⟩,h2⟩
 cases hx:mkS n (val xs) e with
 | none =>
   exact (mul_bad n m e f (hid fun u hu=>forms_bad1 (h1.below hu) (h2.below hu) (hT.belows hu) n m e f he0 he1 hf0 hf1 hx)).mono fun r w' h=>zero h
 | some x =>
   obtain ⟨n1,X,e1⟩:=x
   cases hy:mkS m (val ys) f with
   | none =>
     exact (mul_bad n m e f (hid fun u hu=>forms_bad2 (h1.below hu) (h2.below hu) (hT.belows hu) n m e f he0 he1 hf0 hf1 n1 X e1 hx hy)).mono fun r w' h=>zero h
   | some y =>
     obtain ⟨m1,Y,f1⟩:=y;have HFM:=hid fun u (hu:Below w.heap.size w u)=>forms_ok (h1.below hu) (h2.below hu) (hT.belows hu) n m e f he0 he1 hf0 hf1 n1 m1 X Y e1 f1 hx hy
     have FX:=mkS_frm hx;have FY:=mkS_frm hy;have lX:=frm_len FX;have lY:=frm_len FY;have:=FX.up;have:=FX.down;have:=FY.up;have:=FY.down
     show Calls _ _ _ _ fun r w'=>DAns w.heap.size w' r (mkS (n1 != m1) (X*Y) (e1+f1))∧_
     by_cases hL:LG (X*Y)
     · have hs:mulS X Y=(0,2):=by unfold mulS;rw [if_neg (by intro h;rcases h with h | h;exact notLG FX.size h;exact notLG FY.size h),if_pos hL]
       have hno:mkS (n1 != m1) (X*Y) (e1+f1)=none:=by
        have hb:=(LG_bl _).1 hL;have h0:X*Y≠0:=by intro h;rw [h,bl_zero] at hb;omega
        have oX:X%2=1:=by rcases FX.odd with h | h;exact h;rw [h.1,Nat.zero_mul] at h0;exact absurd rfl h0
        have oY:Y%2=1:=by rcases FY.odd with h | h;exact h;rw [h.1,Nat.mul_zero] at h0;exact absurd rfl h0
        have hlo:lo (X*Y)=0:=lo_odd1 (by rw [Nat.mul_mod,oX,oY])
        unfold mkS;rw [if_neg h0,if_pos (.inl (by rw [hlo];omega))]
       rw [hno];exact (mul_long n m e f n1 m1 X Y e1 f1 lX lY (by omega) (by omega) (by omega) (by omega) HFM (hid fun u p q p2 q2 hu hA hB=>Mul_one 0 2 hA hB hs)).mono fun r w' h=>zero h
     · have hs:mulS X Y=(X*Y,0):=by unfold mulS;rw [if_neg (by intro h;rcases h with h | h;exact notLG FX.size h;exact notLG FY.size h),if_neg hL]
       obtain ⟨L,hLe⟩:∃ L,X*Y=L:=⟨_,rfl⟩;rw [hLe] at hs hL ⊢;have lL:(ws L).length≤8192:=by unfold LG at hL;omega
       exact mul_ok n m e f n1 m1 X Y e1 f1 lX lY (by omega) (by omega) (by omega) (by omega) HFM L lL _ _ _ _ (mkS_len (n1 != m1) L (e1+f1)) (hid fun u p q p2 q2 hu hA hB=>Mul_one L 0 hA hB hs)
        (hid fun u p s hu hA=>by have:=Make_any hA (hT.belows hu) (n1 != m1) (e1+f1) (by omega) (by omega);rw [val_ws] at this;exact this)
end
section
open Go.RowKit
def sgn (n:Bool) (X:Nat):Int:=if X=0 then 0 else if n then -1 else 1
end
section
open Go.RowKit
theorem Sign_any3 {w:World}{a:Option Addr}{n c:Nat}{xs:List Nat}(h1:Arg w a n c xs) (ng:Bool) (e:Int) :
 Calls Tryz.prog 202 #[.agg #[.bool ng,.slice a n c,.int .i64 e]] w fun r w'=>r=.returned (.int .i64 (sgn ng (val xs)))∧Below w.heap.size w w':=by
 have hB:Below w.heap.size w (w.alloc (.cells #[.bool ng,.slice a n c,.int .i64 e] 47)):=below_alloc w _;have A1:=h1.below hB;have hbig:=h1.big;have H1:=hid (len_any xs a n c _ _ A1.len A1.cap (by omega) A1.wf A1.rd)
 obtain ⟨X,hX⟩:∃ X,val xs=X:=⟨_,rfl⟩;rw [hX] at H1 ⊢;have SB:=qsd hB;clear hB A1 h1 hX hbig;unfold sgn
 by_cases h0:X=0
 · rw [if_pos h0]
   have hb:bl X=0:=by rw [h0,bl_zero]
   rw [hb] at H1;clear h0 hb;go_enter Tryz.func202,Tryz.ntmps202
   go_wp2_with fail
   refine H1.out.mono ?_;rintro r w1 ⟨rfl,rfl⟩;go_wp2;go_ret;exact ⟨rfl,SB.out⟩
 · rw [if_neg h0]
   obtain ⟨b,hb⟩:∃ b,bl X=b:=⟨_,rfl⟩;have hb0:((b:Int)==0)=false:=by have:=bl_pos X h0;simp;omega
   rw [hb] at H1;clear h0 hb
   cases ng
   · simp only [Bool.false_eq_true,if_false]
     go_enter Tryz.func202,Tryz.ntmps202
     go_wp2_with fail
     refine H1.out.mono ?_;rintro r w1 ⟨rfl,rfl⟩;go_wp2;go_ret;exact ⟨rfl,SB.out⟩
   · simp only [if_true]
     go_enter Tryz.func202,Tryz.ntmps202
     go_wp2_with fail
     refine H1.out.mono ?_;rintro r w1 ⟨rfl,rfl⟩;go_wp2;go_ret;exact ⟨rfl,SB.out⟩
end
section
open Go.RowKit
theorem sgn_zero3 {n:Bool}{X:Nat}:sgn n X=0↔X=0:=by
 unfold sgn
 by_cases h:X=0
 · simp [h]
 · rw [if_neg h];cases n <;> simp [h]
end
section
open Go.RowKit
def sg1 (n:Bool):Int:=if n then -1 else 1
def zv (B:Int) (x:Bool×Nat×Int):Int:=sg1 x.1*((x.2.1*2^(x.2.2-B).toNat:Nat):Int)
theorem pow_split (e l B:Int) (h:B≤e) (hl:0≤l):(2:Nat)^(e+l-B).toNat=2^l.toNat*2^(e-B).toNat:=by
 rw [←Nat.pow_add];congr 1;omega
theorem zv_mkS {n:Bool}{X:Nat}{e:Int}{x:Bool×Nat×Int}(h:mkS n X e=some x) (B:Int) (hB:X=0∨B≤e):zv B x=sg1 n*((X*2^(e-B).toNat:Nat):Int):=by
 unfold mkS at h
 by_cases h0:X=0
 · rw [if_pos h0] at h
   cases h
   subst h0;simp [zv]
 · rw [if_neg h0] at h
   split at h
   · cases h
   · cases h
     have hB':B≤e:=by rcases hB with h | h;exact absurd h h0;exact h
     obtain ⟨m,hm,hd,_⟩:=odd_part X h0
     show sg1 n*((X/2^lo X*2^(e+(lo X:Int)-B).toNat:Nat):Int)=_
     rw [pow_split e (lo X) B hB' (by omega),Int.toNat_natCast,←Nat.mul_assoc]
     have hx:X/2^lo X*2^lo X=X:=by rw [hd];rw [Nat.mul_comm];exact hm.symm
     rw [hx]
theorem sg1_ne {n m:Bool}(h:¬ n=m):sg1 m=-sg1 n:=by cases n <;> cases m <;> first | exact absurd rfl h | rfl
theorem sg1_not (n:Bool):sg1 (!n)=-sg1 n:=by cases n <;> rfl
theorem sg1_bne (n m:Bool):sg1 (n != m)=sg1 n*sg1 m:=by cases n <;> cases m <;> rfl
theorem zv_addUp {n m:Bool}{X Y:Nat}{e f:Int}{z:Bool×Nat×Int}(h:addUp n X e m Y f=some z) (hfe:f≤e) (B:Int) (hB:B≤f):zv B z=zv B (n,X,e)+zv B (m,Y,f):=by
 unfold addUp at h
 split at h
 · cases h
 · have key:X*2^(e-f).toNat*2^(f-B).toNat=X*2^(e-B).toNat:=by
    rw [Nat.mul_assoc,←Nat.pow_add,show (e-f).toNat+(f-B).toNat=(e-B).toNat by omega]
   show zv B z=sg1 n*((X*2^(e-B).toNat:Nat):Int)+sg1 m*((Y*2^(f-B).toNat:Nat):Int)
   generalize 2^(e-f).toNat=P at h key
   split at h
   · rename_i hnm
     rw [zv_mkS h B (.inr hB),hnm,←Int.mul_add,Nat.add_mul,key,Int.natCast_add]
   · rename_i hnm
     split at h
     · rename_i hle
       rw [zv_mkS h B (.inr hB),sg1_ne hnm,Nat.sub_mul,key,Int.ofNat_sub (by rw [←key];exact Nat.mul_le_mul_right _ hle),Int.mul_sub,Int.neg_mul]
       omega
     · rename_i hle
       rw [zv_mkS h B (.inr hB),sg1_not,sg1_ne hnm,Nat.sub_mul,key,Int.ofNat_sub (by rw [←key];exact Nat.mul_le_mul_right _ (by omega)),Int.mul_sub,Int.neg_mul,Int.neg_mul]
       omega
theorem zv_zero {x:Bool×Nat×Int}(B:Int) (h:x.2.1=0):zv B x=0:=by unfold zv;rw [h];simp
theorem zv_addF {x y z:Bool×Nat×Int}(h:addF x y=some z) (B:Int) (hx:x.2.1=0∨B≤x.2.2) (hy:y.2.1=0∨B≤y.2.2):zv B z=zv B x+zv B y:=by
 obtain ⟨n,X,e⟩:=x;obtain ⟨m,Y,f⟩:=y;unfold addF at h;simp only at h hx hy
 by_cases h0:X=0
 · rw [if_pos h0] at h
   cases h
   rw [zv_zero (x:=(n,X,e)) B h0,Int.zero_add]
 · rw [if_neg h0] at h
   by_cases h1:Y=0
   · rw [if_pos h1] at h
     cases h
     rw [zv_zero (x:=(m,Y,f)) B h1,Int.add_zero]
   · rw [if_neg h1] at h
     have hx':B≤e:=by rcases hx with k | k;exact absurd k h0;exact k
     have hy':B≤f:=by rcases hy with k | k;exact absurd k h1;exact k
     by_cases h2:e<f
     · rw [if_pos h2] at h
       rw [zv_addUp h (by omega) B hx',Int.add_comm]
     · rw [if_neg h2] at h
       exact zv_addUp h (by omega) B hy'
theorem zv_mulF {x y z:Bool×Nat×Int}(h:mulF x y=some z) (B C:Int) (hx:x.2.1=0∨B≤x.2.2) (hy:y.2.1=0∨C≤y.2.2):zv (B+C) z=zv B x*zv C y:=by
 obtain ⟨n,X,e⟩:=x;obtain ⟨m,Y,f⟩:=y;unfold mulF at h;simp only at h hx hy
 by_cases h0:X=0
 · subst h0
   rw [Nat.zero_mul] at h;rw [zv_mkS h _ (.inl rfl),zv_zero (x:=(n,0,e)) B rfl];simp
 · by_cases h1:Y=0
   · subst h1
     rw [Nat.mul_zero] at h;rw [zv_mkS h _ (.inl rfl),zv_zero (x:=(m,0,f)) C rfl];simp
   · have hx':B≤e:=by rcases hx with k | k;exact absurd k h0;exact k
     have hy':C≤f:=by rcases hy with k | k;exact absurd k h1;exact k
     rw [zv_mkS h _ (.inr (by omega)),sg1_bne]
     unfold zv;simp only;rw [show (e+f-(B+C)).toNat=(e-B).toNat+(f-C).toNat by omega,Nat.pow_add]
     rw [show X*Y*(2^(e-B).toNat*2^(f-C).toNat)=(X*2^(e-B).toNat)*(Y*2^(f-C).toNat) by rw [Nat.mul_mul_mul_comm]]
     rw [Int.natCast_mul,Int.mul_assoc,Int.mul_assoc]
     congr 1
     rw [←Int.mul_assoc,←Int.mul_assoc]
     congr 1
     exact Int.mul_comm _ _
theorem odd_pow {X Y:Nat}(a b:Nat) (hX:X%2=1) (hY:Y%2=1) (h:X*2^a=Y*2^b):X=Y∧a=b:=by
 have key:∀ (a b X Y:Nat),X%2=1→Y%2=1→X*2^a=Y*2^b→a≤b:=by
  intro a b X Y hX hY h
  rcases Nat.lt_or_ge b a with k|k
  · exfalso
    obtain ⟨d,rfl⟩:∃ d,a=b+(d+1):=⟨a-b-1,by omega⟩
    rw [Nat.pow_add,Nat.mul_comm (2^b),←Nat.mul_assoc] at h;have:=Nat.eq_of_mul_eq_mul_right (Nat.two_pow_pos b) h;rw [Nat.pow_succ,←Nat.mul_assoc] at this;omega
  · exact k
 have h1:=key a b X Y hX hY h;have h2:=key b a Y X hY hX h.symm;have e:a=b:=by omega
 subst e;exact ⟨Nat.eq_of_mul_eq_mul_right (Nat.two_pow_pos a) h,rfl⟩
theorem zv_inj {n m:Bool}{X Y:Nat}{e f:Int}(FX:Frm n X e) (FY:Frm m Y f) (B:Int) (hB:B≤-1048576) (h:zv B (n,X,e)=zv B (m,Y,f)):n=m∧X=Y∧e=f:=by
 have hx:=FX.down;have hy:=FY.down;unfold zv at h;simp only at h;have hpX:0<2^(e-B).toNat:=Nat.two_pow_pos _;have hpY:0<2^(f-B).toNat:=Nat.two_pow_pos _
 rcases FX.odd with oX|⟨rfl,rfl,rfl⟩
 · rcases FY.odd with oY | ⟨rfl,rfl,rfl⟩
   · have pX:0<X*2^(e-B).toNat:=Nat.mul_pos (by omega) hpX
     have pY:0<Y*2^(f-B).toNat:=Nat.mul_pos (by omega) hpY
     have hn:n=m:=by
      generalize X*2^(e-B).toNat=P at h pX;generalize Y*2^(f-B).toNat=Q at h pY
      cases n <;> cases m <;> first | rfl | (simp only [sg1,Bool.false_eq_true,if_true,if_false] at h;omega)
     subst hn
     have hPQ:X*2^(e-B).toNat=Y*2^(f-B).toNat:=by
      generalize X*2^(e-B).toNat=P at h;generalize Y*2^(f-B).toNat=Q at h
      cases n <;> (simp only [sg1,Bool.false_eq_true,if_true,if_false] at h;omega)
     obtain ⟨h1,h2⟩:=odd_pow _ _ oX oY hPQ;exact ⟨rfl,h1,by omega⟩
   · exfalso
     have pX:0<X*2^(e-B).toNat:=Nat.mul_pos (by omega) hpX
     generalize X*2^(e-B).toNat=P at h pX;rw [Nat.zero_mul] at h
     cases n <;> (simp only [sg1,Bool.false_eq_true,if_true,if_false] at h;omega)
 · rcases FY.odd with oY | ⟨rfl,rfl,rfl⟩
   · exfalso
     have pY:0<Y*2^(f-B).toNat:=Nat.mul_pos (by omega) hpY
     generalize Y*2^(f-B).toNat=Q at h pY;rw [Nat.zero_mul] at h
     cases m <;> (simp only [sg1,Bool.false_eq_true,if_true,if_false] at h;omega)
   · exact ⟨rfl,rfl,rfl⟩
end
section
open Go.RowKit
theorem addUp_frm {n m:Bool}{X Y:Nat}{e f:Int}{n':Bool}{Z:Nat}{g:Int}(h:addUp n X e m Y f=some (n',Z,g)):Frm n' Z g:=by
 unfold addUp at h
 split at h
 · cases h
 · split at h
   · exact mkS_frm h
   · split at h
     · exact mkS_frm h
     · exact mkS_frm h
theorem addF_frm {n m:Bool}{X Y:Nat}{e f:Int}(FX:Frm n X e) (FY:Frm m Y f) {n':Bool}{Z:Nat}{g:Int}(h:addF (n,X,e) (m,Y,f)=some (n',Z,g)):Frm n' Z g:=by
 unfold addF at h;simp only at h
 split at h
 · cases h;exact FY
 · split at h
   · cases h;exact FX
   · split at h
     · exact addUp_frm h
     · exact addUp_frm h
theorem addD_some {o p:Option (Bool×Nat×Int)}(h:(addD o p).isSome=true):∃ x y z,o=some x∧p=some y∧addF x y=some z∧addD o p=some z:=by
 cases o with
 | none=>cases h
 | some x =>
   cases p with
   | none=>cases h
   | some y =>
     obtain ⟨z,hz⟩:=Option.isSome_iff_exists.1 h;exact ⟨x,y,z,rfl,rfl,hz,hz⟩
theorem mulD_some {o p:Option (Bool×Nat×Int)}(h:(mulD o p).isSome=true):∃ x y z,o=some x∧p=some y∧mulF x y=some z∧mulD o p=some z:=by
 cases o with
 | none=>cases h
 | some x =>
   cases p with
   | none=>cases h
   | some y =>
     obtain ⟨z,hz⟩:=Option.isSome_iff_exists.1 h;exact ⟨x,y,z,rfl,rfl,hz,hz⟩
structure Fv (B:Int) (o:Option (Bool×Nat×Int)) (z:Int):Prop where
 ex:∃ n X e,o=some (n,X,e)∧Frm n X e∧zv B (n,X,e)=z
theorem Frm.base {n:Bool}{X:Nat}{e:Int}(F:Frm n X e) {B:Int}(hB:B≤-1048576):X=0∨B≤e:=.inr (by have:=F.down;omega)
theorem Fv.add {B:Int}(hB:B≤-1048576) {o p:Option (Bool×Nat×Int)}{x y:Int}(h1:Fv B o x) (h2:Fv B p y) (h:(addD o p).isSome=true):Fv B (addD o p) (x+y):=by
 obtain ⟨n,X,e,rfl,F,rfl⟩:=h1.ex;obtain ⟨m,Y,f,rfl,G,rfl⟩:=h2.ex;obtain ⟨_,_,z,e1,e2,hz,hd⟩:=addD_some h
 cases e1;cases e2
 obtain ⟨n',Z,g⟩:=z;exact ⟨n',Z,g,hd,addF_frm F G hz,zv_addF hz B (F.base hB) (G.base hB)⟩
theorem Fv.mul {B C:Int}(hB:B≤-1048576) (hC:C≤-1048576) {o p:Option (Bool×Nat×Int)}{x y:Int}(h1:Fv B o x) (h2:Fv C p y) (h:(mulD o p).isSome=true):Fv (B+C) (mulD o p) (x*y):=by
 obtain ⟨n,X,e,rfl,F,rfl⟩:=h1.ex;obtain ⟨m,Y,f,rfl,G,rfl⟩:=h2.ex;obtain ⟨_,_,z,e1,e2,hz,hd⟩:=mulD_some h
 cases e1;cases e2
 obtain ⟨n',Z,g⟩:=z;exact ⟨n',Z,g,hd,mkS_frm hz,zv_mulF hz B C (F.base hB) (G.base hC)⟩
theorem Fv.same {B:Int}(hB:B≤-1048576) {o p:Option (Bool×Nat×Int)}{x y:Int}(h1:Fv B o x) (h2:Fv B p y) (h:x=y):dN o=dN p∧dX o=dX p∧dE o=dE p:=by
 obtain ⟨n,X,e,rfl,F,rfl⟩:=h1.ex;obtain ⟨m,Y,f,rfl,G,rfl⟩:=h2.ex;exact zv_inj F G B hB h
end
section
open Go.RowKit
abbrev vK (K:Nat):Nat:=B.val Ieee.double K
theorem vK_lt {K L:Nat}:vK K<vK L↔K<L:=B.val_lt_iff Ieee.double
theorem vK_word (j F:Nat) (h:j=0∨4503599627370496≤F) (hF:F≤9007199254740992):vK (j*4503599627370496+F)=F*2^j:=by
 have:=B.val_at Ieee.double j F (by rw [B.dBin];exact h) (by rw [B.dBin];omega)
 rw [B.dBin] at this;exact this
end
section
open Go.RowKit
def wd64 (s:Bool) (K:Nat):Nat:=K+(if s then 9223372036854775808 else 0)
def sK (s:Bool) (K:Nat):Int:=if s then -(K:Int) else K
theorem wd64_bw (s:Bool) (K:Nat) (h:K≤9218868437227405312):wd64 s K=B.bw s (K/4503599627370496) (K%4503599627370496)∧K/4503599627370496<2048∧K%4503599627370496<4503599627370496∧B.odd (K/4503599627370496) (K%4503599627370496)=false∧B.pl s (K/4503599627370496) (K%4503599627370496)=sK s K:=by
 refine ⟨?_,by omega,by omega,?_,?_⟩
 · unfold wd64 B.bw
   cases s
   · simp;omega
   · simp;omega
 · unfold B.odd
   simp;omega
 · unfold B.pl B.sg sK
   rw [show K/4503599627370496*4503599627370496+K%4503599627370496=K by omega]
theorem frm_odd {n:Bool}{X:Nat}{e:Int}(F:Frm n X e) (h:X≠0):X%2=1:=by rcases F.odd with k | k;exact k;exact absurd k.1 h
end
section
open Go.RowKit
attribute [local go_sem] B.f64bits B.f64frombits st_float
def magW (x:Nat):Nat:=x%9223372036854775808
def negW (x:Nat):Bool:=decide (9223372036854775808≤x)
def turnW (x:Nat):Nat:=if 9223372036854775808≤x then x-9223372036854775808 else x+9223372036854775808
end
section
open Go.RowKit
def ofK (s:Bool) (K:Nat):Option (Bool×Nat×Int):=ofR s (K/4503599627370496) (K%4503599627370496)
theorem ofK_val (s:Bool) (K:Nat) (hK:K<9218868437227405312):∃ n X e,ofK s K=some (n,X,e)∧Frm n X e∧(X≠0→n=s)∧(X=0↔K=0)∧∀ Bs:Int,Bs≤-1074→zv Bs (n,X,e)=sg1 s*((vK K*2^(-1074-Bs).toNat:Nat):Int):=by
 obtain ⟨x,hx⟩:∃ x,K/4503599627370496=x:=⟨_,rfl⟩;obtain ⟨f,hf⟩:∃ f,K%4503599627370496=f:=⟨_,rfl⟩;have hxl:x<2047:=by omega
 have hfl:f<4503599627370496:=by omega
 obtain ⟨M,hM⟩:∃ M,(if x=0 then f else f+4503599627370496)=M:=⟨_,rfl⟩
 obtain ⟨E,hE⟩:∃ E:Int,(if x=0 then (-1074:Int) else (x:Int)-1075)=E:=⟨_,rfl⟩
 have hME:(x=0∧M=f∧E=-1074)∨(x≠0∧M=f+4503599627370496∧E=(x:Int)-1075):=by
  by_cases h:x=0
  · rw [if_pos h] at hM hE;exact .inl ⟨h,hM.symm,hE.symm⟩
  · rw [if_neg h] at hM hE;exact .inr ⟨h,hM.symm,hE.symm⟩
 have hMl:M<9007199254740992:=by omega
 have hO:ofK s K=mkS s M E:=by unfold ofK ofR;rw [hx,hf,if_neg (by omega),hM,hE]
 have hsome:(mkS s M E).isSome=true:=by
  unfold mkS
  split
  · rfl
  · rename_i h0
    have hb:=bl_le53 M hMl;obtain ⟨_,_,_,hbb⟩:=odd_part M h0;rw [if_neg (by omega)]
    rfl
 obtain ⟨⟨n,X,e⟩,hz⟩:=Option.isSome_iff_exists.1 hsome;have hKw:K=(E+1074).toNat*4503599627370496+M:=by rcases hME with h | h <;> omega
 have hv:vK K=M*2^(E+1074).toNat:=by
  rw [hKw];exact vK_word _ _ (by rcases hME with h | h;left;omega;right;omega) (by omega)
 have hM0:M=0↔K=0:=by rcases hME with h | h <;> omega
 refine ⟨n,X,e,by rw [hO,hz],mkS_frm hz,?_,?_,?_⟩
 · intro hX
   unfold mkS at hz
   split at hz
   · cases hz;exact absurd rfl hX
   · split at hz
     · cases hz
     · cases hz;rfl
 · rw [←hM0]
   constructor
   · intro hX
     unfold mkS at hz
     split at hz
     · assumption
     · rename_i h0
       split at hz
       · cases hz
       · obtain ⟨m,_,hd,_⟩:=odd_part M h0
         cases hz
         omega
   · intro h0
     unfold mkS at hz;rw [if_pos h0] at hz
     cases hz;rfl
 · intro Bs hBs
   rw [zv_mkS hz Bs (.inr (by omega)),hv,Nat.mul_assoc,←Nat.pow_add,show (E+1074).toNat+(-1074-Bs).toNat=(E-Bs).toNat by omega]
end
section
open Go.RowKit J
theorem wd_word (s:Bool) (K:Nat):wd64 s K=Ieee.double.word s K:=by
 unfold wd64;have e:Ieee.double.word s K=(if s then 9223372036854775808+K else K):=rfl
 rw [e]
 cases s <;> simp;omega
theorem hInf:Ieee.double.infRung<Ieee.double.signWeight:=by rw [B.dInf,B.dSign];omega
theorem hBin:Ieee.double.binade≤Ieee.double.infRung:=by rw [B.dInf,B.dBin];omega
theorem wd_of (x:Nat) (h:x<18446744073709551616):x=wd64 (negW x) (magW x):=by
 unfold wd64 negW magW
 by_cases hx:9223372036854775808≤x
 · rw [decide_eq_true hx,if_pos rfl];omega
 · rw [decide_eq_false hx,if_neg (by simp)];omega
theorem magW_wd (s:Bool) (K:Nat) (h:K<9223372036854775808):magW (wd64 s K)=K∧negW (wd64 s K)=s∧wd64 s K<18446744073709551616:=by
 unfold magW negW wd64
 cases s <;> simp <;> omega
end
section
open Go.RowKit J
theorem exU (a:Nat):∃ u:Nat,u=2^a:=⟨_,rfl⟩
def EU:Nat:=1074
def ES:Nat:=2095004
noncomputable def UU:Nat:=Classical.choose (exU EU)
noncomputable def SS:Nat:=Classical.choose (exU ES)
theorem U_eq:UU=2^EU:=Classical.choose_spec (exU EU)
theorem S_eq:SS=2^ES:=Classical.choose_spec (exU ES)
theorem EUS:EU+ES=2096078:=by unfold EU ES;rfl
theorem US (a:Nat) (h:a=2096078):2^a=UU*SS:=by
 rw [U_eq,S_eq,←Nat.pow_add,EUS,h]
structure Fo (o:Option (Bool×Nat×Int)) (z:Int) (L H:Int):Prop where
 ex:∃ n X e,o=some (n,X,e)∧Frm n X e∧zv (-2097152) (n,X,e)=z*(SS:Int)∧(X=0∨L≤e∧e+(bl X:Int)≤H)
theorem mkS_sz (n:Bool) (Z:Nat) (f L H:Int) (hZ:Z≠0) (h1:L≤f) (h2:f+(bl Z:Int)≤H) (hL:-1000000≤L) (hH:H≤1000000) (hd:H-L≤262144) :
 ∃ X e,mkS n Z f=some (n,X,e)∧X≠0∧L≤e∧e+(bl X:Int)≤H:=by
 obtain ⟨m,e0,e1,e2⟩:=odd_part Z hZ;unfold mkS;rw [if_neg hZ,if_neg (by omega)]
 exact ⟨_,_,rfl,by omega,by omega,by omega⟩
theorem blLe {X m:Nat}(h:X<2^m):bl X≤m:=by
 apply Nat.le_of_not_lt;intro hh
 have:=(bl_gt X m).1 hh;omega
end
section
open Go.RowKit J
theorem sg1_sg (s:Bool) (v:Nat):sg1 s*(v:Int)=B.sg s v:=by unfold sg1 B.sg;cases s <;> simp
theorem top_v (K:Nat) (hK:K<9218868437227405312) (a:Nat) (ha:a=2045):vK K<9007199254740992*2^a:=by
 have h:=vK_word a 9007199254740992 (.inr (by omega)) (by omega)
 have h2:a*4503599627370496+9007199254740992=9218868437227405312:=by rw [ha]
 rw [←h,h2];exact vK_lt.2 hK
theorem of_fo (s:Bool) (K:Nat) (hK:K<9218868437227405312):∃ n X e,ofK s K=some (n,X,e)∧Fo (some (n,X,e)) (B.sg s (vK K)*(UU:Int)) (-1074) 1024∧(X=0↔K=0):=by
 obtain ⟨n,X,e,h1,F,h2,h3,h4⟩:=ofK_val s K hK;refine ⟨n,X,e,h1,⟨n,X,e,rfl,F,?_,?_⟩,h3⟩
 · obtain ⟨a,ha⟩:∃ a:Nat,(-1074 - -2097152:Int).toNat=a:=⟨_,rfl⟩
   have h5:=h4 (-2097152) (by omega)
   rw [ha] at h5;rw [h5,US a (by omega),Int.natCast_mul,Int.natCast_mul,←Int.mul_assoc,←Int.mul_assoc,sg1_sg]
 · by_cases hX:X=0
   · exact .inl hX
   · right
     have ho:=frm_odd F hX;have hd:=F.down
     -- in units of the form's own place
     have h5:=h4 (min e (-1074)) (by omega)
     unfold zv at h5;simp only at h5;rw [h2 hX] at h5
     have h6:X*2^(e-min e (-1074)).toNat=vK K*2^(-1074-min e (-1074)).toNat:=by
      unfold sg1 at h5
      cases s
      · simp only [Bool.false_eq_true,if_false,Int.one_mul] at h5;exact_mod_cast h5
      · simp only [if_true] at h5;have:=Int.eq_of_mul_eq_mul_left (by decide) h5;exact_mod_cast this
     have he:-1074≤e:=by
      apply Int.le_of_not_gt;intro hlt
      rw [show (e-min e (-1074)).toNat=0 by omega,Nat.pow_zero,Nat.mul_one] at h6
      obtain ⟨q,hq⟩:∃ q,(-1074-min e (-1074)).toNat=q+1:=⟨(-1074-min e (-1074)).toNat-1,by omega⟩
      rw [hq,Nat.pow_succ,←Nat.mul_assoc] at h6;omega
     refine ⟨he,?_⟩;rw [show (-1074-min e (-1074)).toNat=0 by omega,Nat.pow_zero,Nat.mul_one] at h6
     obtain ⟨q,hq⟩:∃ q,(e-min e (-1074)).toNat=q:=⟨_,rfl⟩;rw [hq] at h6;obtain ⟨c,hc⟩:∃ c:Nat,c=2045:=⟨_,rfl⟩;have h7:=top_v K hK c hc;have h8:=bl_ge X hX;have h9:=bl_pos X hX;obtain ⟨b,hb⟩:∃ b,bl X=b+1:=⟨bl X-1,by omega⟩
     rw [hb,Nat.add_sub_cancel] at h8;have h10:2^b*2^q<9007199254740992*2^c:=Nat.lt_of_le_of_lt (Nat.mul_le_mul_right _ h8) (by rw [h6];exact h7)
     rw [←Nat.pow_add,show (9007199254740992:Nat)=2^53 from rfl,←Nat.pow_add] at h10
     have h11:=(Nat.pow_lt_pow_iff_right (by decide:1<2)).1 h10
     omega
theorem read_nanW (x:Nat) (h:9218868437227405312<magW x):∃ s t,Ieee.double.read x=.nan s t:=⟨_,_,B.read_nan Ieee.double x (by rw [B.dInf,B.dSign];exact h) hBin⟩
theorem read_infW (x:Nat) (hx:x<18446744073709551616) (h:magW x=9218868437227405312):Ieee.double.read x=.infinity (negW x):=by
 have e:=wd_of x hx;rw [h,wd_word,←B.dInf] at e;rw [e,B.read_inf Ieee.double _ hInf hBin,←e]
theorem read_finW (x:Nat) (hx:x<18446744073709551616) (h:magW x<9218868437227405312):∃ m k,Ieee.double.read x=.number (negW x) m (Ieee.double.leastPlace+(k:Nat))∧m*2^k=vK (magW x):=by
 have e:=wd_of x hx;rw [wd_word] at e;obtain ⟨m,k,h1,h2⟩:=B.read_word Ieee.double (negW x) (magW x) (by rw [B.dInf];exact h) hInf
 rw [←e] at h1;exact ⟨m,k,h1,h2⟩
end
section
open Go.RowKit J
theorem turn_wd (s:Bool) (K:Nat) (h:K<9223372036854775808):turnW (wd64 s K)=wd64 (!s) K:=by
 unfold turnW wd64
 cases s <;> simp <;> omega
theorem turn_lt (y:Nat) (hy:y<18446744073709551616):turnW y<18446744073709551616:=by unfold turnW;split <;> omega
end
section
open Go.RowKit J
theorem absSg (s:Bool) (v:Nat):(B.sg s v).natAbs=v:=by unfold B.sg;cases s <;> simp
end
section
open Go.RowKit J
abbrev Wd (x:Nat):Prop:=x<18446744073709551616
end
section
open Go.RowKit J
abbrev finW (x:Nat):Prop:=magW x<9218868437227405312
def fvW (x:Nat):Int:=B.sg (negW x) (vK (magW x))
theorem sg_abs (s:Bool) (v:Nat):(B.sg s v).natAbs=v:=absSg s v
theorem fv_wd (s:Bool) (K:Nat) (h:K<9218868437227405312):finW (wd64 s K)∧fvW (wd64 s K)=B.sg s (vK K):=by
 obtain ⟨h1,h2,_⟩:=magW_wd s K (by omega)
 unfold fvW;rw [h1,h2];exact ⟨by unfold finW;rw [h1];exact h,rfl⟩
theorem fv_turn {y:Nat}(hy:Wd y) (fy:finW y):finW (turnW y)∧fvW (turnW y)=-fvW y:=by
 have hm:magW y<9223372036854775808:=Nat.mod_lt _ (by decide)
 have e:turnW y=wd64 (!negW y) (magW y):=by rw [←turn_wd _ _ hm,←wd_of y hy]
 rw [e];obtain ⟨k1,k2⟩:=fv_wd (!negW y) (magW y) fy;refine ⟨k1,?_⟩;rw [k2];unfold fvW B.sg
 cases negW y <;> simp
end
section
open Go.RowKit J
theorem fin_parts {x:Nat}(hx:x<18446744073709551616) (fx:finW x):ngW x=negW x∧vK (magW x)=frW x*2^(xpW x+1074).toNat∧-1074≤xpW x∧((clW x=0∧frW x=0)∨((clW x=1∨clW x=2)∧frW x≠0)):=by
 have hm:magW x=eW x*4503599627370496+fW x:=by unfold magW eW fW;omega
 have he:eW x<2047:=by have h:magW x<9218868437227405312:=fx;omega
 have hf:fW x<4503599627370496:=Nat.mod_lt _ (by decide)
 refine ⟨by unfold ngW B.ng;rw [if_neg (by omega)];rfl,?_⟩
 by_cases h0:eW x=0
 · have hfr:frW x=fW x:=by unfold frW B.fr;rw [if_neg (by omega),if_pos h0];simp
   have hxp:xpW x=-1074:=by unfold xpW B.xp;rw [if_neg (by omega),if_pos h0]
   have hv:vK (magW x)=fW x:=by
    have:=vK_word 0 (fW x) (.inl rfl) (by omega)
    rw [hm,h0];simpa using this
   refine ⟨by rw [hv,hfr,hxp];simp,by omega,?_⟩
   by_cases hz:fW x=0
   · exact .inl ⟨by unfold clW B.cls;rw [if_neg (by omega),if_pos h0,if_pos hz],by omega⟩
   · exact .inr ⟨.inl (by unfold clW B.cls;rw [if_neg (by omega),if_pos h0,if_neg hz]),by omega⟩
 · have hfr:frW x=fW x+4503599627370496:=by unfold frW B.fr;rw [if_neg (by omega),if_neg h0];omega
   have hxp:xpW x=(eW x:Int)-1075:=by unfold xpW B.xp;rw [if_neg (by omega),if_neg h0]
   have hv:vK (magW x)=(fW x+4503599627370496)*2^(eW x-1):=by
    have:=vK_word (eW x-1) (fW x+4503599627370496) (.inr (by omega)) (by omega)
    rw [←this,hm,show eW x*4503599627370496+fW x=(eW x-1)*4503599627370496+(fW x+4503599627370496) by omega]
   refine ⟨by rw [hv,hfr,hxp,show ((eW x:Int)-1075+1074).toNat=eW x-1 by omega],by omega,.inr ⟨.inr (by unfold clW B.cls;rw [if_neg (by omega),if_neg h0]),by omega⟩⟩
theorem sg_prod (a b:Bool) (f g i j:Nat):sgn7 (!(a==b)) (f*g*2^(i+j))=B.sg a (f*2^i)*B.sg b (g*2^j):=by
 have e:f*g*2^(i+j)=(f*2^i)*(g*2^j):=by
  rw [Nat.pow_add,Nat.mul_mul_mul_comm]
 rw [e];generalize f*2^i=P;generalize g*2^j=Q;unfold sgn7 B.sg
 cases a <;> cases b <;> simp [Int.neg_mul,Int.mul_neg]
theorem pT_mul {x y:Nat}(hx:x<18446744073709551616) (hy:y<18446744073709551616) (fx:finW x) (fy:finW y):pT x y=fvW x*fvW y∧(pK x y=0∨pK x y=4∨pK x y=5):=by
 obtain ⟨n1,v1,x1,c1⟩:=fin_parts hx fx;obtain ⟨n2,v2,x2,c2⟩:=fin_parts hy fy;unfold pT pK fvW;rw [n1,n2,v1,v2]
 by_cases hz:clW x=0∨clW y=0
 · have hmin:min (clW x) (clW y)=0:=by omega
   have hmax:max (clW x) (clW y)≤2:=by omega
   have hpk:pk (max (clW x) (clW y)) (min (clW x) (clW y)) (!negW x==negW y)=4∨pk (max (clW x) (clW y)) (min (clW x) (clW y)) (!negW x==negW y)=5:=by
    unfold pk;rw [hmin,if_neg (by omega),if_neg (by omega),if_pos rfl]
    split
    · exact .inl rfl
    · exact .inr rfl
   refine ⟨?_,.inr hpk⟩;rw [pv7_no (by omega)]
   rcases c1 with ⟨_,f1⟩|⟨k1,_⟩
   · rw [f1];simp [B.sg]
   · rcases c2 with ⟨_,f2⟩ | ⟨k2,_⟩
     · rw [f2];simp [B.sg]
     · omega
 · have hpk:pk (max (clW x) (clW y)) (min (clW x) (clW y)) (!negW x==negW y)=0:=by
    unfold pk;rw [if_neg (by omega),if_neg (by omega),if_neg (by omega)]
   refine ⟨?_,.inl hpk⟩;rw [pv7_yes hpk,show (xpW x+xpW y+2148).toNat=(xpW x+1074).toNat+(xpW y+1074).toNat by omega]
   have e:(!negW x==negW y)=!(negW x==negW y):=by cases negW x <;> cases negW y <;> rfl
   rw [e];exact sg_prod _ _ _ _ _ _
theorem cl_nan {x:Nat}(h:9218868437227405312<magW x):clW x=4:=by
 have hm:magW x=eW x*4503599627370496+fW x:=by unfold magW eW fW;omega
 have hf:fW x<4503599627370496:=Nat.mod_lt _ (by decide)
 have he:eW x<2048:=by have:magW x<9223372036854775808:=Nat.mod_lt _ (by decide);omega
 unfold clW B.cls;rw [if_pos (by omega),if_neg (by omega)]
theorem cl_inf {x:Nat}(h:magW x=9218868437227405312):clW x=3∧ngW x=negW x:=by
 have hm:magW x=eW x*4503599627370496+fW x:=by unfold magW eW fW;omega
 have hf:fW x<4503599627370496:=Nat.mod_lt _ (by decide)
 unfold clW B.cls ngW B.ng;rw [if_pos (by omega),if_pos (by omega),if_neg (by omega)]
 exact ⟨rfl,rfl⟩
theorem cl_range (x:Nat):0≤clW x∧clW x≤4:=by unfold clW B.cls;(repeat' split) <;> omega
theorem pT_odd {x y:Nat}(h:¬ (finW x∧finW y)):pT x y=0∧(pK x y=1∨pK x y=2∨pK x y=3):=by
 have h3:3≤max (clW x) (clW y):=by
  have aux:∀ z:Nat,¬ finW z→3≤clW z:=fun z hz=>by
   rcases Nat.lt_or_ge 9218868437227405312 (magW z) with q|q
   · rw [cl_nan q];omega
   · have:magW z=9218868437227405312:=by
      have:¬ magW z<9218868437227405312:=hz;omega
     rw [(cl_inf this).1];omega
  by_cases hx:finW x
  · have:=aux y (fun hy=>h ⟨hx,hy⟩);omega
  · have:=aux x hx;omega
 have h4:=cl_range x;have h5:=cl_range y
 have hpk:pK x y=1∨pK x y=2∨pK x y=3:=by
  unfold pK pk
  split
  · exact .inl rfl
  · rw [if_pos (by omega)]
    split
    · exact .inr (.inr rfl)
    · exact .inr (.inl rfl)
 refine ⟨?_,hpk⟩;unfold pT
 exact pv7_no (by have:pK x y≠0:=by omega
                  exact this)
theorem pK_self_nan {x:Nat}(h:9218868437227405312<magW x):pK x x=1:=by
 unfold pK pk;rw [cl_nan h,if_pos (by omega)]
theorem pK_self_inf {x:Nat}(h:magW x=9218868437227405312):pK x x=2:=by
 unfold pK pk;rw [(cl_inf h).1,if_neg (by omega),if_pos (by omega),if_neg (by cases ngW x <;> simp)]
end
section
open Go.RowKit J
theorem xor_up (z:Nat) (hz:z<2^63):z ^^^ 2^63=2^63+z:=by
 apply Nat.eq_of_testBit_eq
 intro i;rw [Nat.testBit_xor,Nat.testBit_two_pow]
 rcases Nat.lt_trichotomy i 63 with h|h|h
 · rw [Nat.testBit_two_pow_add_gt h]
   simp [show ¬ 63=i by omega]
 · subst h
   rw [Nat.testBit_two_pow_add_eq,Nat.testBit_lt_two_pow hz];simp
 · have h1:z<2^i:=Nat.lt_of_lt_of_le hz (Nat.pow_le_pow_right (by decide) (by omega))
   have h2:2^63+z<2^i:=Nat.lt_of_lt_of_le (show 2^63+z<2^64 by omega) (Nat.pow_le_pow_right (by decide) (by omega))
   rw [Nat.testBit_lt_two_pow h1,Nat.testBit_lt_two_pow h2];simp [show ¬ 63=i by omega]
theorem neg_turn (y:Nat) (hy:y<18446744073709551616):Op.negFloat .f64 y=turnW y:=by
 show y ^^^ 2^63=turnW y
 unfold turnW
 by_cases h:9223372036854775808≤y
 · rw [if_pos h]
   obtain ⟨z,hz⟩:∃ z,z=y-9223372036854775808:=⟨_,rfl⟩;have e:y=z ^^^ 2^63:=by rw [xor_up z (by omega)];omega
   rw [←hz,e,Nat.xor_assoc,Nat.xor_self,Nat.xor_zero]
 · rw [if_neg h,xor_up y (by omega)];omega
theorem sub_self_fin (x:Nat) (hx:x<18446744073709551616) (fx:finW x):floatBits .sub .f64 x x=some 0:=by
 obtain ⟨m,k,hr,_⟩:=read_finW x hx fx
 show ((Ieee.double.read x).sum (Ieee.double.read x).opposite).map Ieee.double.write=some 0
 rw [hr];generalize Ieee.double.leastPlace+(k:Int)=p
 have ht:Ieee.signed (negW x) m (p-min p p).toNat+Ieee.signed (!negW x) m (p-min p p).toNat=0:=by
  unfold Ieee.signed
  cases negW x <;> simp <;> omega
 simp only [Ieee.Datum.opposite,Ieee.Datum.sum,ht,if_true,Option.map_some];have hs:(negW x&&!negW x)=false:=by cases negW x <;> rfl
 rw [hs];rfl
theorem sub_nan (x y:Nat) (h:9218868437227405312<magW x∨9218868437227405312<magW y):floatBits .sub .f64 x y=none:=by
 show ((Ieee.double.read x).sum (Ieee.double.read y).opposite).map Ieee.double.write=none
 rcases h with h|h
 · obtain ⟨s,t,hr⟩:=read_nanW x h
   rw [hr];rfl
 · obtain ⟨s,t,hr⟩:=read_nanW y h
   rw [hr]
   cases Ieee.double.read x <;> rfl
theorem write_inf12 (s:Bool):Ieee.double.write (.infinity s)=wd64 s 9218868437227405312:=by cases s <;> decide +kernel
theorem sub_inf_inf (x y:Nat) (hx:x<18446744073709551616) (hy:y<18446744073709551616) (h1:magW x=9218868437227405312) (h2:magW y=9218868437227405312):floatBits .sub .f64 x y=if negW x=negW y then none else some (wd64 (negW x) 9218868437227405312):=by
 show ((Ieee.double.read x).sum (Ieee.double.read y).opposite).map Ieee.double.write=_
 rw [read_infW x hx h1,read_infW y hy h2];simp only [Ieee.Datum.opposite,Ieee.Datum.sum]
 cases negW x <;> cases negW y <;> simp [write_inf12]
theorem sub_inf_fin (x y:Nat) (hx:x<18446744073709551616) (hy:y<18446744073709551616) (h1:magW x=9218868437227405312) (h2:finW y):floatBits .sub .f64 x y=some (wd64 (negW x) 9218868437227405312):=by
 show ((Ieee.double.read x).sum (Ieee.double.read y).opposite).map Ieee.double.write=_
 obtain ⟨m,k,hr,_⟩:=read_finW y hy h2;rw [read_infW x hx h1,hr];simp only [Ieee.Datum.opposite,Ieee.Datum.sum,Option.map_some,write_inf12]
theorem sub_fin_inf (x y:Nat) (hx:x<18446744073709551616) (hy:y<18446744073709551616) (h1:finW x) (h2:magW y=9218868437227405312):floatBits .sub .f64 x y=some (wd64 (!negW y) 9218868437227405312):=by
 show ((Ieee.double.read x).sum (Ieee.double.read y).opposite).map Ieee.double.write=_
 obtain ⟨m,k,hr,_⟩:=read_finW x hx h1;rw [read_infW y hy h2,hr];simp only [Ieee.Datum.opposite,Ieee.Datum.sum,Option.map_some,write_inf12]
def k12 (x y:Nat):Nat:=if 9218868437227405312<magW x∨9218868437227405312<magW y∨(magW x=9218868437227405312∧magW y=9218868437227405312∧negW x=negW y) then 1 else 2
theorem wd_inf (s:Bool):magW (wd64 s 9218868437227405312)=9218868437227405312∧wd64 s 9218868437227405312<18446744073709551616:=by cases s <;> decide
theorem sub_odd (x y:Nat) (hx:x<18446744073709551616) (hy:y<18446744073709551616) (h:¬ (finW x∧finW y)) :
 (floatBits .sub .f64 x y=none∧k12 x y=1)∨∃ z,floatBits .sub .f64 x y=some z∧magW z=9218868437227405312∧z<18446744073709551616∧k12 x y=2:=by
 unfold k12
 by_cases n1:9218868437227405312<magW x
 · exact .inl ⟨sub_nan x y (.inl n1),if_pos (.inl n1)⟩
 · by_cases n2:9218868437227405312<magW y
   · exact .inl ⟨sub_nan x y (.inr n2),if_pos (.inr (.inl n2))⟩
   · by_cases f1:finW x
     · have f2:¬ finW y:=fun f2=>h ⟨f1,f2⟩
       have i2:magW y=9218868437227405312:=by have:¬ magW y<9218868437227405312:=f2;omega
       have g1:magW x<9218868437227405312:=f1;exact .inr ⟨_,sub_fin_inf x y hx hy f1 i2,(wd_inf _).1,(wd_inf _).2,if_neg (by omega)⟩
     · have i1:magW x=9218868437227405312:=by have:¬ magW x<9218868437227405312:=f1;omega
       by_cases f2:finW y
       · have g2:magW y<9218868437227405312:=f2
         exact .inr ⟨_,sub_inf_fin x y hx hy i1 f2,(wd_inf _).1,(wd_inf _).2,if_neg (by omega)⟩
       · have i2:magW y=9218868437227405312:=by have:¬ magW y<9218868437227405312:=f2;omega
         have e:=sub_inf_inf x y hx hy i1 i2
         by_cases hs:negW x=negW y
         · rw [if_pos hs] at e
           exact .inl ⟨e,if_pos (.inr (.inr ⟨i1,i2,hs⟩))⟩
         · rw [if_neg hs] at e
           exact .inr ⟨_,e,(wd_inf _).1,(wd_inf _).2,if_neg (by rintro (q | q | ⟨_,_,q⟩);exact n1 q;exact n2 q;exact hs q)⟩
theorem order_nan (z:Nat) (h:9218868437227405312<magW z):(FloatKind.f64.format.order z 0==some .eq)=false:=by
 obtain ⟨s,t,hr⟩:=read_nanW z h
 show ((Ieee.double.read z).order (Ieee.double.read 0)==some .eq)=false
 rw [hr];rfl
theorem pK_nans {x y:Nat}(h:9218868437227405312<magW x) (h2:9218868437227405312<magW y):pK x y=1:=by
 unfold pK pk;rw [cl_nan h,cl_nan h2,if_pos (by omega)]
end
section
open Go.RowKit J
theorem put12 (g h:Nat) (I:List (Nat×Int)) (x y:Nat) (w:World) (hA:At12 w g I) (hl:I.length<1000000) (hx:x<18446744073709551616) (hy:y<18446744073709551616) (hc:w.cell? ⟨h,0,none⟩=some (.pointer (some ⟨g,0,none⟩))) :
 Calls Tryz.prog 84 #[.float .f64 x,.float .f64 y,.pointer (some ⟨h,0,none⟩)] w fun r w'=>r=.returned (.tuple #[])∧At12 w' g (I++[(pK x y,pT x y)])∧But g w w':=by
 have HP:=hid (addP12 g I x y w hA hl hx hy);clear hA hl hx hy;go_enter Tryz.func84,Tryz.ntmps84
 go_wp2_with fail
 refine HP.out.mono ?_;rintro r u ⟨rfl,h1,h2⟩;have H:=qsd (ai h1 h2);clear h1 h2 HP hc;go_wp2
 go_end0
 exact ⟨rfl,H.out⟩
theorem sum12D (n p q:Nat) (J:Nat→List (Nat×Int)) (w:World) (hJ:J 0=[]) (hn:n≤65536)
 (HH:Hid (∀ (g h k:Nat) (u:World),w.heap.size≤g→w.heap.size≤h→k<n→At12 u g (J k)→u.cell? ⟨h,0,none⟩=some (.pointer (some ⟨g,0,none⟩))→Below w.heap.size w u →
  Calls Tryz.prog 38 #[.int .i64 (k:Nat),.func (.func 84) #[] #[.pointer (some ⟨h,0,none⟩)],.pointer (some ⟨p,0,none⟩),.pointer (some ⟨q,0,none⟩)] u fun r u'=>r=.returned (.tuple #[])∧At12 u' g (J (k+1))∧But g u u')) :
 Calls Tryz.prog 37 #[.int .i64 (n:Nat),.func (.func 38) #[] #[.pointer (some ⟨p,0,none⟩),.pointer (some ⟨q,0,none⟩)]] w fun r w'=>∃ g,r=.returned (.pointer (some ⟨g,0,none⟩))∧At12 w' g (J n)∧Below w.heap.size w w':=by
 have HJ:=qsd (ai hJ hn);clear hJ;go_enter Tryz.func37,Tryz.ntmps37
 go_wp2_with fail
 refine (New7 w).mono ?_;rintro r w1 ⟨rfl,hA,hb1⟩;obtain ⟨g,hg⟩:∃ g,g=w.heap.size:=⟨_,rfl⟩;rw [←hg] at hA ⊢;obtain ⟨h,hh⟩:∃ h,h=w1.heap.size:=⟨_,rfl⟩;obtain ⟨W,hW⟩:∃ W,W=w1.alloc (Obj.cells #[.pointer (some ⟨g,0,none⟩)] 57):=⟨_,rfl⟩
 have H0:Aside (At12 W g (J 0)∧W.cell? ⟨h,0,none⟩=some (.pointer (some ⟨g,0,none⟩))∧Below w.heap.size w W∧W.heap.size=h+1):=by
  rw [hW,HJ.out.1,hh];refine ⟨⟨hA.bel (bel_alloc _ _),fun p hp=>by cases hp⟩,?_,hb1.trans ((bel_alloc _ _).mono hb1.size),by simp⟩
  unfold World.cell?;simp only [heap_alloc_new];rfl
 have HG:Aside (w.heap.size≤g∧w.heap.size≤h∧g<h):=by rw [hg,hh];exact ⟨Nat.le_refl _,hb1.size,by have:=hA.lt;omega⟩
 have HW:=qsd hW;clear hA hb1 hg hW;go_wp2
 try rw [←hh]
 try rw [←HW.out]
 clear HW hh
 go_loopg [11] n (fun gk i wr=>∃ k:Nat,gk+k=n∧i=.int .i64 (k:Nat)∧Aside (At12 wr g (J k)∧wr.cell? ⟨h,0,none⟩=some (.pointer (some ⟨g,0,none⟩))∧Below w.heap.size w wr∧h<wr.heap.size))
 case atStart=>exact ⟨0,by omega,by simp,H0.out.1,H0.out.2.1,H0.out.2.2.1,by have:=H0.out.2.2.2;omega⟩
 case round =>
  clear H0;obtain ⟨k,hgk,rfl,HA⟩:=hrel
  by_cases hk:k<n
  · have C:=hid (HH.out g h k wr HG.out.1 HG.out.2.1 hk HA.out.1 HA.out.2.1 HA.out.2.2.1)
    have hkb:k<4611686018427387904:=by omega
    go_wp2_with fail
    refine C.out.mono ?_;rintro r u ⟨rfl,h1,hbut⟩
    have H3:Aside (At12 u g (J (k+1))∧u.cell? ⟨h,0,none⟩=some (.pointer (some ⟨g,0,none⟩))∧Below w.heap.size w u∧h<u.heap.size) :=
     ⟨h1,(World.cell?_of_block (a:=⟨h,0,none⟩) (hbut.block h HA.out.2.2.2 (by have:=HG.out.2.2;omega))).trans HA.out.2.1,But.below HA.out.2.2.1 hbut HA.out.2.2.1.size HG.out.1,Nat.lt_of_lt_of_le HA.out.2.2.2 hbut.size⟩
    clear h1 hbut C HA;go_wp2
    go_roundg (gk-1)
    case measure=>omega
    case rel=>exact ⟨k+1,by omega,by first | rfl | simp,H3.out⟩
  · obtain rfl:n=k:=by omega
    have hd:decide ((n:Int)<n)=false:=by simp
    have hc:=HA.out.2.1;clear HH;go_wp2;go_ret;exact ⟨g,rfl,HA.out.1,HA.out.2.2.1⟩
theorem sum12N (n p:Nat) (J:Nat→List (Nat×Int)) (w:World) (hJ:J 0=[]) (hn:n≤65536)
 (HH:Hid (∀ (g h k:Nat) (u:World),w.heap.size≤g→w.heap.size≤h→k<n→At12 u g (J k)→u.cell? ⟨h,0,none⟩=some (.pointer (some ⟨g,0,none⟩))→Below w.heap.size w u →
  Calls Tryz.prog 46 #[.int .i64 (k:Nat),.func (.func 84) #[] #[.pointer (some ⟨h,0,none⟩)],.pointer (some ⟨p,0,none⟩)] u fun r u'=>r=.returned (.tuple #[])∧At12 u' g (J (k+1))∧But g u u')) :
 Calls Tryz.prog 37 #[.int .i64 (n:Nat),.func (.func 46) #[] #[.pointer (some ⟨p,0,none⟩)]] w fun r w'=>∃ g,r=.returned (.pointer (some ⟨g,0,none⟩))∧At12 w' g (J n)∧Below w.heap.size w w':=by
 have HJ:=qsd (ai hJ hn);clear hJ;go_enter Tryz.func37,Tryz.ntmps37
 go_wp2_with fail
 refine (New7 w).mono ?_;rintro r w1 ⟨rfl,hA,hb1⟩;obtain ⟨g,hg⟩:∃ g,g=w.heap.size:=⟨_,rfl⟩;rw [←hg] at hA ⊢;obtain ⟨h,hh⟩:∃ h,h=w1.heap.size:=⟨_,rfl⟩;obtain ⟨W,hW⟩:∃ W,W=w1.alloc (Obj.cells #[.pointer (some ⟨g,0,none⟩)] 57):=⟨_,rfl⟩
 have H0:Aside (At12 W g (J 0)∧W.cell? ⟨h,0,none⟩=some (.pointer (some ⟨g,0,none⟩))∧Below w.heap.size w W∧W.heap.size=h+1):=by
  rw [hW,HJ.out.1,hh];refine ⟨⟨hA.bel (bel_alloc _ _),fun p hp=>by cases hp⟩,?_,hb1.trans ((bel_alloc _ _).mono hb1.size),by simp⟩
  unfold World.cell?;simp only [heap_alloc_new];rfl
 have HG:Aside (w.heap.size≤g∧w.heap.size≤h∧g<h):=by rw [hg,hh];exact ⟨Nat.le_refl _,hb1.size,by have:=hA.lt;omega⟩
 have HW:=qsd hW;clear hA hb1 hg hW;go_wp2
 try rw [←hh]
 try rw [←HW.out]
 clear HW hh
 go_loopg [11] n (fun gk i wr=>∃ k:Nat,gk+k=n∧i=.int .i64 (k:Nat)∧Aside (At12 wr g (J k)∧wr.cell? ⟨h,0,none⟩=some (.pointer (some ⟨g,0,none⟩))∧Below w.heap.size w wr∧h<wr.heap.size))
 case atStart=>exact ⟨0,by omega,by simp,H0.out.1,H0.out.2.1,H0.out.2.2.1,by have:=H0.out.2.2.2;omega⟩
 case round =>
  clear H0;obtain ⟨k,hgk,rfl,HA⟩:=hrel
  by_cases hk:k<n
  · have C:=hid (HH.out g h k wr HG.out.1 HG.out.2.1 hk HA.out.1 HA.out.2.1 HA.out.2.2.1)
    have hkb:k<4611686018427387904:=by omega
    go_wp2_with fail
    refine C.out.mono ?_;rintro r u ⟨rfl,h1,hbut⟩
    have H3:Aside (At12 u g (J (k+1))∧u.cell? ⟨h,0,none⟩=some (.pointer (some ⟨g,0,none⟩))∧Below w.heap.size w u∧h<u.heap.size) :=
     ⟨h1,(World.cell?_of_block (a:=⟨h,0,none⟩) (hbut.block h HA.out.2.2.2 (by have:=HG.out.2.2;omega))).trans HA.out.2.1,But.below HA.out.2.2.1 hbut HA.out.2.2.1.size HG.out.1,Nat.lt_of_lt_of_le HA.out.2.2.2 hbut.size⟩
    clear h1 hbut C HA;go_wp2
    go_roundg (gk-1)
    case measure=>omega
    case rel=>exact ⟨k+1,by omega,by first | rfl | simp,H3.out⟩
  · obtain rfl:n=k:=by omega
    have hd:decide ((n:Int)<n)=false:=by simp
    have hc:=HA.out.2.1;clear HH;go_wp2;go_ret;exact ⟨g,rfl,HA.out.1,HA.out.2.2.1⟩
theorem sum12A (n p q:Nat) (J:Nat→List (Nat×Int)) (w:World) (hJ:J 0=[]) (hn:n≤65536)
 (HH:Hid (∀ (g h k:Nat) (u:World),w.heap.size≤g→w.heap.size≤h→k<n→At12 u g (J k)→u.cell? ⟨h,0,none⟩=some (.pointer (some ⟨g,0,none⟩))→Below w.heap.size w u →
  Calls Tryz.prog 48 #[.int .i64 (k:Nat),.func (.func 84) #[] #[.pointer (some ⟨h,0,none⟩)],.pointer (some ⟨p,0,none⟩),.pointer (some ⟨q,0,none⟩)] u fun r u'=>r=.returned (.tuple #[])∧At12 u' g (J (k+1))∧But g u u')) :
 Calls Tryz.prog 37 #[.int .i64 (n:Nat),.func (.func 48) #[] #[.pointer (some ⟨p,0,none⟩),.pointer (some ⟨q,0,none⟩)]] w fun r w'=>∃ g,r=.returned (.pointer (some ⟨g,0,none⟩))∧At12 w' g (J n)∧Below w.heap.size w w':=by
 have HJ:=qsd (ai hJ hn);clear hJ;go_enter Tryz.func37,Tryz.ntmps37
 go_wp2_with fail
 refine (New7 w).mono ?_;rintro r w1 ⟨rfl,hA,hb1⟩;obtain ⟨g,hg⟩:∃ g,g=w.heap.size:=⟨_,rfl⟩;rw [←hg] at hA ⊢;obtain ⟨h,hh⟩:∃ h,h=w1.heap.size:=⟨_,rfl⟩;obtain ⟨W,hW⟩:∃ W,W=w1.alloc (Obj.cells #[.pointer (some ⟨g,0,none⟩)] 57):=⟨_,rfl⟩
 have H0:Aside (At12 W g (J 0)∧W.cell? ⟨h,0,none⟩=some (.pointer (some ⟨g,0,none⟩))∧Below w.heap.size w W∧W.heap.size=h+1):=by
  rw [hW,HJ.out.1,hh];refine ⟨⟨hA.bel (bel_alloc _ _),fun p hp=>by cases hp⟩,?_,hb1.trans ((bel_alloc _ _).mono hb1.size),by simp⟩
  unfold World.cell?;simp only [heap_alloc_new];rfl
 have HG:Aside (w.heap.size≤g∧w.heap.size≤h∧g<h):=by rw [hg,hh];exact ⟨Nat.le_refl _,hb1.size,by have:=hA.lt;omega⟩
 have HW:=qsd hW;clear hA hb1 hg hW;go_wp2
 try rw [←hh]
 try rw [←HW.out]
 clear HW hh
 go_loopg [11] n (fun gk i wr=>∃ k:Nat,gk+k=n∧i=.int .i64 (k:Nat)∧Aside (At12 wr g (J k)∧wr.cell? ⟨h,0,none⟩=some (.pointer (some ⟨g,0,none⟩))∧Below w.heap.size w wr∧h<wr.heap.size))
 case atStart=>exact ⟨0,by omega,by simp,H0.out.1,H0.out.2.1,H0.out.2.2.1,by have:=H0.out.2.2.2;omega⟩
 case round =>
  clear H0;obtain ⟨k,hgk,rfl,HA⟩:=hrel
  by_cases hk:k<n
  · have C:=hid (HH.out g h k wr HG.out.1 HG.out.2.1 hk HA.out.1 HA.out.2.1 HA.out.2.2.1)
    have hkb:k<4611686018427387904:=by omega
    go_wp2_with fail
    refine C.out.mono ?_;rintro r u ⟨rfl,h1,hbut⟩
    have H3:Aside (At12 u g (J (k+1))∧u.cell? ⟨h,0,none⟩=some (.pointer (some ⟨g,0,none⟩))∧Below w.heap.size w u∧h<u.heap.size) :=
     ⟨h1,(World.cell?_of_block (a:=⟨h,0,none⟩) (hbut.block h HA.out.2.2.2 (by have:=HG.out.2.2;omega))).trans HA.out.2.1,But.below HA.out.2.2.1 hbut HA.out.2.2.1.size HG.out.1,Nat.lt_of_lt_of_le HA.out.2.2.2 hbut.size⟩
    clear h1 hbut C HA;go_wp2
    go_roundg (gk-1)
    case measure=>omega
    case rel=>exact ⟨k+1,by omega,by first | rfl | simp,H3.out⟩
  · obtain rfl:n=k:=by omega
    have hd:decide ((n:Int)<n)=false:=by simp
    have hc:=HA.out.2.1;clear HH;go_wp2;go_ret;exact ⟨g,rfl,HA.out.1,HA.out.2.2.1⟩
end
section
open Go.RowKit J
theorem neg12 {P:Program}(w:World) (t:TypeId) (y:Nat) (hy:y<18446744073709551616):(Go.Op.unary .neg (.float .f64 y)).run P w=.ok (.float .f64 (turnW y)) w:=by
 rw [←neg_turn y hy];rfl
theorem hand12D (p q g h k n m c1 c2 b1 o1 b2 o2:Nat) (I:List (Nat×Int)) (x y:Nat) (u:World) (hA:At12 u g I) (hl:I.length<1000000) (hx:x<18446744073709551616) (hy:y<18446744073709551616) (hc:u.cell? ⟨h,0,none⟩=some (.pointer (some ⟨g,0,none⟩)))
 (hp:u.cell? ⟨p,0,none⟩=some (.slice (some ⟨b1,o1,none⟩) n c1)) (hq:u.cell? ⟨q,0,none⟩=some (.slice (some ⟨b2,o2,none⟩) m c2)) (h1:u.cell? ⟨b1,o1+k,none⟩=some (.float .f64 x)) (h2:u.cell? ⟨b2,o2+k,none⟩=some (.float .f64 y)) (hk1:k<n) (hk2:k<m) (hn:n≤65536) :
 (p<g∧q<g∧b1<g∧b2<g) →
 Calls Tryz.prog 38 #[.int .i64 (k:Nat),.func (.func 84) #[] #[.pointer (some ⟨h,0,none⟩)],.pointer (some ⟨p,0,none⟩),.pointer (some ⟨q,0,none⟩)] u fun r u'=>r=.returned (.tuple #[])∧At12 u' g (I++[(pK x y,pT x y)])∧But g u u':=by
 rintro ⟨l1,l2,l3,l4⟩;have hgl:=hA.lt;have HP:=hid (put12 g h I x y u.drew (hA.bel ((Below.refl _ _).drew)) hl hx hy hc);have kS:Aside (u.drew.cell? ⟨p,0,none⟩=some (.slice (some ⟨b1,o1,none⟩) n c1)∧u.drew.cell? ⟨q,0,none⟩=some (.slice (some ⟨b2,o2,none⟩) m c2)∧u.drew.cell? ⟨b1,o1+k,none⟩=some (.float .f64 x)∧u.drew.cell? ⟨b2,o2+k,none⟩=some (.float .f64 y)):=⟨hp,hq,h1,h2⟩;have HL:=qsd (ai l1 (ai l2 (ai l3 (ai l4 hgl))));have hkb:k<4611686018427387904:=by omega
 clear hA hl hx hy hc hp hq h1 h2 hn l1 l2 l3 l4 hgl;go_enter Tryz.func38,Tryz.ntmps38
 go_upto_region 0 with fail
 go_region_held3 (fun w'=>w'.cell? ⟨p,0,none⟩=some (.slice (some ⟨b1,o1,none⟩) n c1)∧w'.cell? ⟨q,0,none⟩=some (.slice (some ⟨b2,o2,none⟩) m c2)∧w'.cell? ⟨b1,o1+k,none⟩=some (.float .f64 x)∧w'.cell? ⟨b2,o2+k,none⟩=some (.float .f64 y)) (with_reducible exact kS.out) (first
  | (go_at_call 84
     with_reducible refine HP.out.mono ?_
     rintro r v ⟨rfl,hA,hbut⟩;have H:=qsd (ai hA hbut);have kS:=qsd (ai ((World.cell?_of_block (a:=⟨p,0,none⟩) (hbut.block p (show p<u.heap.size by have:=HL.out;omega) (by have:=HL.out;omega))).trans kS.out.1) (ai ((World.cell?_of_block (a:=⟨q,0,none⟩) (hbut.block q (show q<u.heap.size by have:=HL.out;omega) (by have:=HL.out;omega))).trans kS.out.2.1) (ai ((World.cell?_of_block (a:=⟨b1,o1+k,none⟩) (hbut.block b1 (show b1<u.heap.size by have:=HL.out;omega) (by have:=HL.out;omega))).trans kS.out.2.2.1) ((World.cell?_of_block (a:=⟨b2,o2+k,none⟩) (hbut.block b2 (show b2<u.heap.size by have:=HL.out;omega) (by have:=HL.out;omega))).trans kS.out.2.2.2))))
     clear hA hbut))
 all_goals (
  clear kS HP;go_wp2
  go_end0
  exact ⟨rfl,H.out.1,(But.refl g u).drew.trans H.out.2⟩)
theorem hand12N (p g h k n c1 b1 o1:Nat) (I:List (Nat×Int)) (x:Nat) (u:World) (hA:At12 u g I) (hl:I.length<1000000) (hx:x<18446744073709551616) (hc:u.cell? ⟨h,0,none⟩=some (.pointer (some ⟨g,0,none⟩)))
 (hp:u.cell? ⟨p,0,none⟩=some (.slice (some ⟨b1,o1,none⟩) n c1)) (h1:u.cell? ⟨b1,o1+k,none⟩=some (.float .f64 x)) (hk1:k<n) (hn:n≤65536) :
 (p<g∧b1<g) →
 Calls Tryz.prog 46 #[.int .i64 (k:Nat),.func (.func 84) #[] #[.pointer (some ⟨h,0,none⟩)],.pointer (some ⟨p,0,none⟩)] u fun r u'=>r=.returned (.tuple #[])∧At12 u' g (I++[(pK x x,pT x x)])∧But g u u':=by
 rintro ⟨l1,l3⟩;have hgl:=hA.lt;have HP:=hid (put12 g h I x x u.drew (hA.bel ((Below.refl _ _).drew)) hl hx hx hc);have kS:Aside (u.drew.cell? ⟨p,0,none⟩=some (.slice (some ⟨b1,o1,none⟩) n c1)∧u.drew.cell? ⟨b1,o1+k,none⟩=some (.float .f64 x)):=⟨hp,h1⟩;have HL:=qsd (ai l1 (ai l3 hgl));have hkb:k<4611686018427387904:=by omega
 clear hA hl hx hc hp h1 hn l1 l3 hgl;go_enter Tryz.func46,Tryz.ntmps46
 go_upto_region 0 with fail
 go_region_held3 (fun w'=>w'.cell? ⟨p,0,none⟩=some (.slice (some ⟨b1,o1,none⟩) n c1)∧w'.cell? ⟨b1,o1+k,none⟩=some (.float .f64 x)) (with_reducible exact kS.out) (first
  | (go_at_call 84
     with_reducible refine HP.out.mono ?_
     rintro r v ⟨rfl,hA,hbut⟩;have H:=qsd (ai hA hbut);have kS:=qsd (ai ((World.cell?_of_block (a:=⟨p,0,none⟩) (hbut.block p (show p<u.heap.size by have:=HL.out;omega) (by have:=HL.out;omega))).trans kS.out.1) ((World.cell?_of_block (a:=⟨b1,o1+k,none⟩) (hbut.block b1 (show b1<u.heap.size by have:=HL.out;omega) (by have:=HL.out;omega))).trans kS.out.2))
     clear hA hbut))
 all_goals (
  clear kS HP;go_wp2
  go_end0
  exact ⟨rfl,H.out.1,(But.refl g u).drew.trans H.out.2⟩)
end
section
open Go.RowKit J
theorem finite12 (x:Nat) (hx:x<18446744073709551616) (w:World):Calls Tryz.prog 102 #[.float .f64 x] w fun r w'=>r=.returned (.bool (decide (finW x)))∧Below w.heap.size w w':=by
 by_cases fx:finW x
 · rw [decide_eq_true fx]
   have d:=run_float_arith (P:=Tryz.prog) w .sub 27 .f64 x x 0 (sub_self_fin x hx fx);have ho:(FloatKind.f64.format.order 0 0==some .eq)=true:=by decide +kernel
   clear hx fx;go_enter Tryz.func102,Tryz.ntmps102
   go_wp2_with (simp only [d])
   go_ret;exact ⟨rfl,Below.refl _ _⟩
 · rw [decide_eq_false fx]
   have h:floatBits .sub .f64 x x=none:=by
    rcases sub_odd x x hx hx (fun q=>fx q.1) with ⟨h,_⟩|⟨z,_,_,_,h⟩
    · exact h
    · exfalso
      unfold k12 at h;have hx2:¬ magW x<9218868437227405312:=fx;rw [if_pos (by rcases Nat.lt_or_ge 9218868437227405312 (magW x) with q | q;exact .inl q;exact .inr (.inr ⟨by omega,by omega,rfl⟩))] at h
      omega
   obtain ⟨z,hz,d⟩:=run_float_none (P:=Tryz.prog) w .sub 27 x x (.inr (.inl rfl)) h;have ho:=order_nan z hz.1;clear hx fx h hz;go_enter Tryz.func102,Tryz.ntmps102
   go_wp2_with (simp only [d])
   go_ret;exact ⟨rfl,(Below.refl _ _).drew⟩
def ap12 (x y:Nat):List (Nat×Int):=if finW x∧finW y then [(pK x x,pT x x),(pK y y,pT y y),(pK x (turnW y),pT x (turnW y)),(pK x (turnW y),pT x (turnW y))] else [(k12 x y,0)]
theorem ap12_len (x y:Nat):(ap12 x y).length≤4:=by unfold ap12;split <;> simp
theorem but_cell {g h:Nat}{w w':World}{v:Value}(hb:But g w w') (hl:h<w.heap.size) (hne:h≠g) (hc:w.cell? ⟨h,0,none⟩=some v):w'.cell? ⟨h,0,none⟩=some v:=(World.cell?_of_block (a:=⟨h,0,none⟩) (hb.block h hl hne)).trans hc
theorem apart12 (g h:Nat) (I:List (Nat×Int)) (x y:Nat) (u:World) (hA:At12 u g I) (hl:I.length<999990) (hx:x<18446744073709551616) (hy:y<18446744073709551616) (hc:u.cell? ⟨h,0,none⟩=some (.pointer (some ⟨g,0,none⟩))) (hh:h<u.heap.size) (hne:h≠g) :
 Calls Tryz.prog 49 #[.float .f64 x,.float .f64 y,.func (.func 84) #[] #[.pointer (some ⟨h,0,none⟩)]] u fun r u'=>r=.returned (.tuple #[])∧At12 u' g (I++ap12 x y)∧But g u u':=by
 have F1:=hid (fun W:World=>finite12 x hx W)
 have F2:=hid (fun W:World=>finite12 y hy W)
 by_cases hf:finW x∧finW y
 · have ht:=turn_lt y hy
   have e:I++ap12 x y=(((I++[(pK x x,pT x x)])++[(pK y y,pT y y)])++[(pK x (turnW y),pT x (turnW y))])++[(pK x (turnW y),pT x (turnW y))]:=by
    unfold ap12;rw [if_pos hf];simp
   rw [e];rw [decide_eq_true hf.1] at F1;rw [decide_eq_true hf.2] at F2;obtain ⟨I1,hI1⟩:∃ J,J=I++[(pK x x,pT x x)]:=⟨_,rfl⟩;obtain ⟨I2,hI2⟩:∃ J,J=I1++[(pK y y,pT y y)]:=⟨_,rfl⟩;obtain ⟨I3,hI3⟩:∃ J,J=I2++[(pK x (turnW y),pT x (turnW y))]:=⟨_,rfl⟩;obtain ⟨I4,hI4⟩:∃ J,J=I3++[(pK x (turnW y),pT x (turnW y))]:=⟨_,rfl⟩;rw [←hI1,←hI2,←hI3,←hI4];have l1:I1.length<999991:=by rw [hI1];simp;omega
   have l2:I2.length<999992:=by rw [hI2];simp;omega
   have l3:I3.length<999993:=by rw [hI3];simp;omega
   have P1:=hid (fun (W:World) (a:At12 W g I) (c:W.cell? ⟨h,0,none⟩=some (.pointer (some ⟨g,0,none⟩)))=>put12 g h I x x W a (by omega) hx hx c)
   have P2:=hid (fun (W:World) (a:At12 W g I1) (c:W.cell? ⟨h,0,none⟩=some (.pointer (some ⟨g,0,none⟩)))=>put12 g h I1 y y W a (by omega) hy hy c)
   have P3:=hid (fun (W:World) (a:At12 W g I2) (c:W.cell? ⟨h,0,none⟩=some (.pointer (some ⟨g,0,none⟩)))=>put12 g h I2 x (turnW y) W a (by omega) hx ht c)
   have P4:=hid (fun (W:World) (a:At12 W g I3) (c:W.cell? ⟨h,0,none⟩=some (.pointer (some ⟨g,0,none⟩)))=>put12 g h I3 x (turnW y) W a (by omega) hx ht c)
   rw [←hI1] at P1;rw [←hI2] at P2;rw [←hI3] at P3;rw [←hI4] at P4;have hn:=fun W:World=>neg12 (P:=Tryz.prog) W 0 y hy
   have HA:=qsd (ai hA (ai hc (ai hh hne)));clear hA hc hh hne hI1 hI2 hI3 hI4 l1 l2 l3 e hl ht hx hy hf;go_enter Tryz.func49,Tryz.ntmps49
   go_wp2_with fail
   refine (F1.out _).mono ?_;rintro r u1 ⟨rfl,hb1⟩;have K1:=qsd hb1;clear hb1
   go_wp2_with fail
   refine (F2.out _).mono ?_;rintro r u2 ⟨rfl,hb2⟩
   have K2:Aside (At12 u2 g I∧u2.cell? ⟨h,0,none⟩=some (.pointer (some ⟨g,0,none⟩))∧h<u2.heap.size∧But g u u2):=by
    have hb:=K1.out.trans (hb2.mono K1.out.size);exact ⟨HA.out.1.bel hb,(hb.cell (p:=⟨h,0,none⟩) HA.out.2.2.1).trans HA.out.2.1,Nat.lt_of_lt_of_le HA.out.2.2.1 hb.size,(But.refl g u).of_bel hb⟩
   clear hb2 K1 F1 F2
   go_wp2_with fail
   refine (P1.out _ K2.out.1 K2.out.2.1).mono ?_;rintro r u3 ⟨rfl,hA3,hB3⟩;have K3:=qsd (ai hA3 (ai (but_cell hB3 K2.out.2.2.1 HA.out.2.2.2 K2.out.2.1) (ai (Nat.lt_of_lt_of_le K2.out.2.2.1 hB3.size) (K2.out.2.2.2.trans hB3))));clear hA3 hB3 P1 K2
   go_wp2_with fail
   refine (P2.out _ K3.out.1 K3.out.2.1).mono ?_;rintro r u4 ⟨rfl,hA3,hB3⟩;have K4:=qsd (ai hA3 (ai (but_cell hB3 K3.out.2.2.1 HA.out.2.2.2 K3.out.2.1) (ai (Nat.lt_of_lt_of_le K3.out.2.2.1 hB3.size) (K3.out.2.2.2.trans hB3))));clear hA3 hB3 P2 K3
   go_wp2_with (simp only [hn])
   refine (P3.out _ K4.out.1 K4.out.2.1).mono ?_;rintro r u5 ⟨rfl,hA3,hB3⟩;have K5:=qsd (ai hA3 (ai (but_cell hB3 K4.out.2.2.1 HA.out.2.2.2 K4.out.2.1) (ai (Nat.lt_of_lt_of_le K4.out.2.2.1 hB3.size) (K4.out.2.2.2.trans hB3))));clear hA3 hB3 P3 K4
   go_wp2_with (simp only [hn])
   refine (P4.out _ K5.out.1 K5.out.2.1).mono ?_;rintro r u6 ⟨rfl,hA3,hB3⟩;have K6:=qsd (ai hA3 (K5.out.2.2.2.trans hB3));clear hA3 hB3 P4 K5;go_wp2
   go_end0
   exact ⟨rfl,K6.out.1,K6.out.2⟩
 · have e:ap12 x y=[(k12 x y,0)]:=by unfold ap12;rw [if_neg hf]
   rw [e];have HA:=qsd (ai hA (ai hc (ai hh (ai hne hl))))
   have hfd:(decide (finW x)=false)∨(decide (finW x)=true∧decide (finW y)=false):=by
    by_cases f1:finW x
    · exact .inr ⟨decide_eq_true f1,decide_eq_false (fun f2=>hf ⟨f1,f2⟩)⟩
    · exact .inl (decide_eq_false f1)
   have hodd:=sub_odd x y hx hy hf;have HX:=qsd (ai hx hy);clear hA hc hh hne hl e hf hx hy;have fin:Hid (∀ (W:World) (tmps:Array Value) (z1 z2:Nat),True):=fun _ _ _ _=>trivial
   clear fin
   rcases hfd with hfd|⟨hfd1,hfd⟩
   · rw [hfd] at F1
     clear hfd F2;go_enter Tryz.func49,Tryz.ntmps49
     go_wp2_with fail
     refine (F1.out _).mono ?_;rintro r u2 ⟨rfl,hb⟩
     have K2:Aside (At12 u2 g I∧u2.cell? ⟨h,0,none⟩=some (.pointer (some ⟨g,0,none⟩))∧But g u u2) :=
      ⟨HA.out.1.bel hb,(hb.cell (p:=⟨h,0,none⟩) HA.out.2.2.1).trans HA.out.2.1,(But.refl g u).of_bel hb⟩
     clear hb F1
     rcases hodd with ⟨hno,hk⟩|⟨z,hz,hm,hz64,hk⟩
     · obtain ⟨z1,hz1,d1⟩:=run_float_none (P:=Tryz.prog) u2 .sub 27 x y (.inr (.inl rfl)) hno
       obtain ⟨z2,hz2,d2⟩:=run_float_none (P:=Tryz.prog) u2.drew .sub 27 x y (.inr (.inl rfl)) hno;have HP:=put12 g h I z1 z2 u2.drew.drew (K2.out.1.bel (((Below.refl _ _).drew).drew)) (by have:=HA.out.2.2.2.2;omega) hz1.2 hz2.2 K2.out.2.1
       rw [pK_nans hz1.1 hz2.1,(pT_odd (fun q=>by have q1:magW z1<9218868437227405312:=q.1;have:9218868437227405312<magW z1:=hz1.1;omega)).1,←hk] at HP
       have HP:=hid HP;clear hno hk hz1 hz2 HX
       go_wp2_with (first | simp only [d1] | simp only [d2])
       refine HP.out.mono ?_;rintro r u3 ⟨rfl,hA3,hB3⟩;have K3:=qsd (ai hA3 (K2.out.2.2.trans (((But.refl g u2).drew.drew).trans hB3)));clear hA3 hB3 HP K2 d1 d2;go_wp2;refine bodyPost_ret (results_none rfl _ _ _) rfl ?_;exact ⟨rfl,K3.out.1,K3.out.2⟩
     · have d1:=run_float_arith (P:=Tryz.prog) u2 .sub 27 .f64 x y z hz
       have HP:=put12 g h I z z u2 K2.out.1 (by have:=HA.out.2.2.2.2;omega) hz64 hz64 K2.out.2.1
       rw [pK_self_inf hm,(pT_odd (fun q=>by have q1:magW z<9218868437227405312:=q.1;omega)).1,←hk] at HP
       have HP:=hid HP;clear hz hk hm hz64 HX
       go_wp2_with (simp only [d1])
       refine HP.out.mono ?_;rintro r u3 ⟨rfl,hA3,hB3⟩;have K3:=qsd (ai hA3 (K2.out.2.2.trans hB3));clear hA3 hB3 HP K2 d1;go_wp2;refine bodyPost_ret (results_none rfl _ _ _) rfl ?_;exact ⟨rfl,K3.out.1,K3.out.2⟩
   · rw [hfd1] at F1
     rw [hfd] at F2;clear hfd hfd1;go_enter Tryz.func49,Tryz.ntmps49
     go_wp2_with fail
     refine (F1.out _).mono ?_;rintro r u1 ⟨rfl,hb1⟩;have K1:=qsd hb1;clear hb1
     go_wp2_with fail
     refine (F2.out _).mono ?_;rintro r u2 ⟨rfl,hb2⟩
     have K2:Aside (At12 u2 g I∧u2.cell? ⟨h,0,none⟩=some (.pointer (some ⟨g,0,none⟩))∧But g u u2):=by
      have hb:=K1.out.trans (hb2.mono K1.out.size);exact ⟨HA.out.1.bel hb,(hb.cell (p:=⟨h,0,none⟩) HA.out.2.2.1).trans HA.out.2.1,(But.refl g u).of_bel hb⟩
     clear hb2 F1 F2 K1
     rcases hodd with ⟨hno,hk⟩|⟨z,hz,hm,hz64,hk⟩
     · obtain ⟨z1,hz1,d1⟩:=run_float_none (P:=Tryz.prog) u2 .sub 27 x y (.inr (.inl rfl)) hno
       obtain ⟨z2,hz2,d2⟩:=run_float_none (P:=Tryz.prog) u2.drew .sub 27 x y (.inr (.inl rfl)) hno;have HP:=put12 g h I z1 z2 u2.drew.drew (K2.out.1.bel (((Below.refl _ _).drew).drew)) (by have:=HA.out.2.2.2.2;omega) hz1.2 hz2.2 K2.out.2.1
       rw [pK_nans hz1.1 hz2.1,(pT_odd (fun q=>by have q1:magW z1<9218868437227405312:=q.1;have:9218868437227405312<magW z1:=hz1.1;omega)).1,←hk] at HP
       have HP:=hid HP;clear hno hk hz1 hz2 HX
       go_wp2_with (first | simp only [d1] | simp only [d2])
       refine HP.out.mono ?_;rintro r u3 ⟨rfl,hA3,hB3⟩;have K3:=qsd (ai hA3 (K2.out.2.2.trans (((But.refl g u2).drew.drew).trans hB3)));clear hA3 hB3 HP K2 d1 d2;go_wp2;refine bodyPost_ret (results_none rfl _ _ _) rfl ?_;exact ⟨rfl,K3.out.1,K3.out.2⟩
     · have d1:=run_float_arith (P:=Tryz.prog) u2 .sub 27 .f64 x y z hz
       have HP:=put12 g h I z z u2 K2.out.1 (by have:=HA.out.2.2.2.2;omega) hz64 hz64 K2.out.2.1
       rw [pK_self_inf hm,(pT_odd (fun q=>by have q1:magW z<9218868437227405312:=q.1;omega)).1,←hk] at HP
       have HP:=hid HP;clear hz hk hm hz64 HX
       go_wp2_with (simp only [d1])
       refine HP.out.mono ?_;rintro r u3 ⟨rfl,hA3,hB3⟩;have K3:=qsd (ai hA3 (K2.out.2.2.trans hB3));clear hA3 hB3 HP K2 d1;go_wp2;refine bodyPost_ret (results_none rfl _ _ _) rfl ?_;exact ⟨rfl,K3.out.1,K3.out.2⟩
theorem hand12A (p q g h k n m c1 c2 b1 o1 b2 o2:Nat) (I:List (Nat×Int)) (x y:Nat) (u:World) (hA:At12 u g I) (hl:I.length<999990) (hx:x<18446744073709551616) (hy:y<18446744073709551616) (hc:u.cell? ⟨h,0,none⟩=some (.pointer (some ⟨g,0,none⟩)))
 (hp:u.cell? ⟨p,0,none⟩=some (.slice (some ⟨b1,o1,none⟩) n c1)) (hq:u.cell? ⟨q,0,none⟩=some (.slice (some ⟨b2,o2,none⟩) m c2)) (h1:u.cell? ⟨b1,o1+k,none⟩=some (.float .f64 x)) (h2:u.cell? ⟨b2,o2+k,none⟩=some (.float .f64 y)) (hk1:k<n) (hk2:k<m) (hn:n≤65536) (hh:h<u.heap.size) (hne:h≠g) :
 (p<g∧q<g∧b1<g∧b2<g) →
 Calls Tryz.prog 48 #[.int .i64 (k:Nat),.func (.func 84) #[] #[.pointer (some ⟨h,0,none⟩)],.pointer (some ⟨p,0,none⟩),.pointer (some ⟨q,0,none⟩)] u fun r u'=>r=.returned (.tuple #[])∧At12 u' g (I++ap12 x y)∧But g u u':=by
 rintro ⟨l1,l2,l3,l4⟩;have hgl:=hA.lt;have HP:=hid (apart12 g h I x y u.drew (hA.bel ((Below.refl _ _).drew)) hl hx hy hc hh hne);have kS:Aside (u.drew.cell? ⟨p,0,none⟩=some (.slice (some ⟨b1,o1,none⟩) n c1)∧u.drew.cell? ⟨q,0,none⟩=some (.slice (some ⟨b2,o2,none⟩) m c2)∧u.drew.cell? ⟨b1,o1+k,none⟩=some (.float .f64 x)∧u.drew.cell? ⟨b2,o2+k,none⟩=some (.float .f64 y)):=⟨hp,hq,h1,h2⟩;have HL:=qsd (ai l1 (ai l2 (ai l3 (ai l4 hgl))));have hkb:k<4611686018427387904:=by omega
 clear hA hl hx hy hc hp hq h1 h2 hn l1 l2 l3 l4 hgl hh hne;go_enter Tryz.func48,Tryz.ntmps48
 go_upto_region 0 with fail
 go_region_held3 (fun w'=>w'.cell? ⟨p,0,none⟩=some (.slice (some ⟨b1,o1,none⟩) n c1)∧w'.cell? ⟨q,0,none⟩=some (.slice (some ⟨b2,o2,none⟩) m c2)∧w'.cell? ⟨b1,o1+k,none⟩=some (.float .f64 x)∧w'.cell? ⟨b2,o2+k,none⟩=some (.float .f64 y)) (with_reducible exact kS.out) (first
  | (go_at_call 49
     with_reducible refine HP.out.mono ?_
     rintro r v ⟨rfl,hA,hbut⟩;have H:=qsd (ai hA hbut);have kS:=qsd (ai ((World.cell?_of_block (a:=⟨p,0,none⟩) (hbut.block p (show p<u.heap.size by have:=HL.out;omega) (by have:=HL.out;omega))).trans kS.out.1) (ai ((World.cell?_of_block (a:=⟨q,0,none⟩) (hbut.block q (show q<u.heap.size by have:=HL.out;omega) (by have:=HL.out;omega))).trans kS.out.2.1) (ai ((World.cell?_of_block (a:=⟨b1,o1+k,none⟩) (hbut.block b1 (show b1<u.heap.size by have:=HL.out;omega) (by have:=HL.out;omega))).trans kS.out.2.2.1) ((World.cell?_of_block (a:=⟨b2,o2+k,none⟩) (hbut.block b2 (show b2<u.heap.size by have:=HL.out;omega) (by have:=HL.out;omega))).trans kS.out.2.2.2))))
     clear hA hbut))
 all_goals (
  clear kS HP;go_wp2
  go_end0
  exact ⟨rfl,H.out.1,(But.refl g u).drew.trans H.out.2⟩)
end
end Go.Proofs.YthfkleadcnkglaaGreatDoor
