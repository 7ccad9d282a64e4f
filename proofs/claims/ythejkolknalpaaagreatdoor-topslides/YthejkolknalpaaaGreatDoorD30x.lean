import Derived.Test.YthejkolknalpaaaGreatDoorD16x
import Derived.Deep.Cut
import Derived.Deep.RegionHeld3
import Derived.Test.YthejkolknalpaaaGreatDoorD21x
import Derived.Deep.RegionWith
import Derived.Deep.CutRange
import Derived.Test.YthejkolknalpaaaGreatDoorBIeeex
import Derived.BigQuiet
import Derived.Laws.Bits64
import Derived.Laws.Bits64b
import Derived.Test.YthejkolknalpaaaGreatDoorP2x
import Derived.Test.YthejkolknalpaaaGreatDoorD14x
import Derived.Test.YthejkolknalpaaaGreatDoorM1x
import Derived.Test.YthejkolknalpaaaGreatDoorW14x
set_option linter.unusedVariables false
set_option linter.unusedSimpArgs false
set_option maxHeartbeats 16000000
set_option maxRecDepth 20000
namespace Go.Proofs.YthejkolknalpaaaGreatDoor
namespace J
end J
section
open Go.RowKit
theorem mul_res (W:World) (g:Nat) (n:Bool) (v:Value) (e k:Int) (tmps:Array Value) (ht:tmps[4]?.getD undef=.pointer (some ⟨g,0,none⟩)) (hk:tmps[5]?.getD undef=.int .i64 k) (D:Dk W g n v e) :
 (results Tryz.f104 tmps).run Tryz.prog W=.ok (.tuple #[.agg #[.bool n,v,.int .i64 e],.int .i64 k]) W:=by
 obtain ⟨x0,x1,x2,xf0,xf1,xf2⟩:=D.facts;simp [results,Tryz.results104,ht,hk,go_sem,x0,x1,x2]
theorem mul_bad {w:World}{a b:Option Addr}{l c k d:Nat}(n m:Bool) (e f:Int) (HFM:Hid (∀ u,Below w.heap.size w u→Calls Tryz.prog 129 #[.agg #[.bool n,.slice a l c,.int .i64 e],.agg #[.bool m,.slice b k d,.int .i64 f]] u fun r w'=>r=.returned (.tuple #[.agg #[.bool false,.slice none 0 0,.int .i64 0],.agg #[.bool false,.slice none 0 0,.int .i64 0],.int .i64 2])∧Below u.heap.size u w')):Calls Tryz.prog 104 #[.agg #[.bool n,.slice a l c,.int .i64 e],.agg #[.bool m,.slice b k d,.int .i64 f]] w fun r w'=>r=.returned (.tuple #[.agg #[.bool false,.slice none 0 0,.int .i64 0],.int .i64 2])∧Below w.heap.size w w':=by
 obtain ⟨W1,hW1⟩:∃ W,W=((w.alloc (.cells #[.bool n,.slice a l c,.int .i64 e] 67)).alloc (.cells #[.bool m,.slice b k d,.int .i64 f] 67)).alloc (.cells #[.bool false,.slice none 0 0,.int .i64 0] 67):=⟨_,rfl⟩;obtain ⟨hB,hz1,DA,DB,DR⟩:=add_begin w n m (.slice a l c) (.slice b k d) e f W1 hW1;have H1:=hid (HFM.out W1 hB);have SB:=(qsd (ai hB (ai hz1 (ai DA (ai DB DR)))));clear hB hz1 DA DB DR HFM;go_enter Tryz.func104,Tryz.ntmps104
 go_wp2_with fail
 rw [←hW1];clear hW1;refine H1.out.mono ?_;rintro r u1 ⟨rfl,hb⟩;obtain ⟨hB,hz1,DA,DB,DR⟩:=SB.out;have EA:=DA.below hb;have EB:=DB.below hb;have ER:=DR.below hb;obtain ⟨x0,x1,x2,xf0,xf1,xf2⟩:=EA.facts;obtain ⟨y0,y1,y2,yf0,yf1,yf2⟩:=EB.facts;obtain ⟨r0,r1,r2,rf0,rf1,rf2⟩:=ER.facts;have F1:=qsd (show Fin w.heap.size (w.heap.size+3) w u1 (.slice none 0 0) 0 from ⟨Nt.nil _ _,hB.trans (hb.mono (by omega)),by have:=hb.size;omega⟩)
 have SE:=qsd ER;clear hb H1 hB hz1 DA DB DR EA EB ER SB;go_wp2;refine bodyPost_ret (mul_res _ (w.heap.size+1+1) false (.slice none 0 0) 0 2 _ rfl rfl (((SE.out.other _ (by omega) _ _ _).other _ (by omega) _ _ _).set _ _ _)) rfl ⟨rfl,?_⟩
 refine Fin.bel (m:=w.heap.size+3) (v:=.slice none 0 0) (X:=0) ?_
 repeat (with_reducible first | exact F1.out | refine Fin.drew ?_ | refine Fin.alloc ?_ _ | refine Fin.set ?_ _ _ _ (by omega) (by omega))
theorem mul_long {w:World}{a b:Option Addr}{l c k d:Nat}(n m:Bool) (e f:Int) (n1 m1:Bool) (X Y:Nat) (e1 f1:Int) (lX:(ws X).length≤8192) (lY:(ws Y).length≤8192) (be0:-1048576≤e1) (be1:e1≤1048576) (bf0:-1048576≤f1) (bf1:f1≤1048576)
 (HFM:Hid (∀ u,Below w.heap.size w u→Calls Tryz.prog 129 #[.agg #[.bool n,.slice a l c,.int .i64 e],.agg #[.bool m,.slice b k d,.int .i64 f]] u fun r w'=>∃ v v',r=.returned (.tuple #[.agg #[.bool n1,v,.int .i64 e1],.agg #[.bool m1,v',.int .i64 f1],.int .i64 0])∧Nt u.heap.size w' v X∧Nt u.heap.size w' v' Y∧Below u.heap.size u w'))
 (HSH:Hid (∀ (u:World) (p:Option Addr) (q:Nat) (p2:Option Addr) (q2:Nat),Below w.heap.size w u→Arg u p (ws X).length q (ws X)→Arg u p2 (ws Y).length q2 (ws Y)→Calls Tryz.prog 121 #[.slice p (ws X).length q,.slice p2 (ws Y).length q2] u fun r w'=>∃ v,r=.returned (.tuple #[v,.int .i64 2])∧Nt u.heap.size w' v 0∧Below u.heap.size u w')):Calls Tryz.prog 104 #[.agg #[.bool n,.slice a l c,.int .i64 e],.agg #[.bool m,.slice b k d,.int .i64 f]] w fun r w'=>r=.returned (.tuple #[.agg #[.bool false,.slice none 0 0,.int .i64 0],.int .i64 2])∧Below w.heap.size w w':=by
 have l0:(ws 0).length=0:=by rw [ws_zero];rfl
 obtain ⟨W1,hW1⟩:∃ W,W=((w.alloc (.cells #[.bool n,.slice a l c,.int .i64 e] 67)).alloc (.cells #[.bool m,.slice b k d,.int .i64 f] 67)).alloc (.cells #[.bool false,.slice none 0 0,.int .i64 0] 67):=⟨_,rfl⟩;obtain ⟨hB,hz1,DA,DB,DR⟩:=add_begin w n m (.slice a l c) (.slice b k d) e f W1 hW1;have H1:=hid (HFM.out W1 hB);have SB:=(qsd (ai hB (ai hz1 (ai DA (ai DB DR)))));clear hB hz1 DA DB DR HFM;go_enter Tryz.func104,Tryz.ntmps104
 go_wp2_with fail
 rw [←hW1];clear hW1;refine H1.out.mono ?_;rintro r u1 ⟨v,v',rfl,hN,hM,hb⟩;obtain ⟨a1,c1,rfl,_⟩:=hN.arg (by omega)
 obtain ⟨a2,c2,rfl,_⟩:=hM.arg (by omega)
 obtain ⟨hB,hz1,DA,DB,DR⟩:=SB.out;have EA:=DA.below hb;have EB:=DB.below hb;have ER:=DR.below hb;obtain ⟨x0,x1,x2,xf0,xf1,xf2⟩:=EA.facts;obtain ⟨y0,y1,y2,yf0,yf1,yf2⟩:=EB.facts;obtain ⟨r0,r1,r2,rf0,rf1,rf2⟩:=ER.facts;have FX:=qsd (show Fin w.heap.size (w.heap.size+3) w u1 (.slice a1 (ws X).length c1) X from ⟨by rw [←hz1];exact hN,hB.trans (hb.mono (by omega)),by have:=hb.size;omega⟩)
 have FY:=qsd (show Fin w.heap.size (w.heap.size+3) w u1 (.slice a2 (ws Y).length c2) Y from ⟨by rw [←hz1];exact hM,hB.trans (hb.mono (by omega)),by have:=hb.size;omega⟩)
 have SE:=(qsd (ai EA (ai EB ER)));clear hN hM hb H1 hB hz1 DA DB DR EA EB ER SB;obtain ⟨EA,EB,ER⟩:=SE.out;obtain ⟨U1,hU1⟩:∃ U,U=st3 (st3 u1 w.heap.size (.bool n1) (.slice a1 (ws X).length c1) (.int .i64 e1)) (w.heap.size+1) (.bool m1) (.slice a2 (ws Y).length c2) (.int .i64 f1):=⟨_,rfl⟩;have IA:Dk U1 w.heap.size n1 (.slice a1 (ws X).length c1) e1:=by rw [hU1];exact ((EA.set _ _ _).other _ (by omega) _ _ _)
 have IB:Dk U1 (w.heap.size+1) m1 (.slice a2 (ws Y).length c2) f1:=by rw [hU1];exact ((EB.other _ (by omega) _ _ _).set _ _ _)
 have IR:Dk U1 (w.heap.size+1+1) false (.slice none 0 0) 0:=by rw [hU1];exact ((ER.other _ (by omega) _ _ _).other _ (by omega) _ _ _)
 have GX:Fin w.heap.size (w.heap.size+3) w U1 (.slice a1 (ws X).length c1) X:=by rw [hU1];exact (Fin.st3 (Fin.st3 FX.out _ _ _ _ (by omega) (by omega)) _ _ _ _ (by omega) (by omega))
 have GY:Fin w.heap.size (w.heap.size+3) w U1 (.slice a2 (ws Y).length c2) Y:=by rw [hU1];exact (Fin.st3 (Fin.st3 FY.out _ _ _ _ (by omega) (by omega)) _ _ _ _ (by omega) (by omega))
 have H2:=hid (HSH.out U1 a1 c1 a2 c2 GX.bel (GX.nt.arg' (by omega)).2 (GY.nt.arg' (by omega)).2)
 have S1:=(qsd (ai IA (ai IB (ai IR (ai GX GY)))));have hzU:w.heap.size+3≤U1.heap.size:=by have:=IR.lt;omega
 clear EA EB ER IA IB IR GX GY SE HSH;unfold st3 at hU1
 go_wp2_with fail
 rw [←hU1];clear hU1 x0 x1 x2 xf0 xf1 xf2 y0 y1 y2 yf0 yf1 yf2 r0 r1 r2 rf0 rf1 rf2;refine H2.out.mono ?_;rintro r u2 ⟨v,rfl,hN,hb⟩;obtain ⟨a3,c3,rfl,_⟩:=hN.arg (by omega)
 obtain ⟨IA,IB,IR,GX,GY⟩:=S1.out;obtain ⟨x0,x1,x2,xf0,xf1,xf2⟩:=(IA.below hb).facts;obtain ⟨y0,y1,y2,yf0,yf1,yf2⟩:=(IB.below hb).facts;obtain ⟨r0,r1,r2,rf0,rf1,rf2⟩:=(IR.below hb).facts;have S2:=(qsd (ai (IR.below hb) ((GX.below hb))));clear hN hb H2 S1 IA IB IR GX GY;go_wp2;refine bodyPost_ret (mul_res _ (w.heap.size+1+1) false (.slice none 0 0) 0 2 _ rfl rfl (S2.out.1.set _ _ _)) rfl ⟨rfl,?_⟩;refine Fin.bel (m:=w.heap.size+3) (v:=.slice a1 (ws X).length c1) (X:=X) ?_
 repeat (with_reducible first | exact S2.out.2 | refine Fin.drew ?_ | refine Fin.alloc ?_ _ | refine Fin.set ?_ _ _ _ (by omega) (by omega))
theorem mul_ok {w:World}{a b:Option Addr}{l c k d:Nat}(n m:Bool) (e f:Int) (n1 m1:Bool) (X Y:Nat) (e1 f1:Int) (lX:(ws X).length≤8192) (lY:(ws Y).length≤8192) (be0:-1048576≤e1) (be1:e1≤1048576) (bf0:-1048576≤f1) (bf1:f1≤1048576)
 (HFM:Hid (∀ u,Below w.heap.size w u→Calls Tryz.prog 129 #[.agg #[.bool n,.slice a l c,.int .i64 e],.agg #[.bool m,.slice b k d,.int .i64 f]] u fun r w'=>∃ v v',r=.returned (.tuple #[.agg #[.bool n1,v,.int .i64 e1],.agg #[.bool m1,v',.int .i64 f1],.int .i64 0])∧Nt u.heap.size w' v X∧Nt u.heap.size w' v' Y∧Below u.heap.size u w')) (L:Nat) (lL:(ws L).length≤8192) (dn:Bool) (V:Nat) (de er:Int) (lV:(ws V).length≤8192)
 (HSH:Hid (∀ (u:World) (p:Option Addr) (q:Nat) (p2:Option Addr) (q2:Nat),Below w.heap.size w u→Arg u p (ws X).length q (ws X)→Arg u p2 (ws Y).length q2 (ws Y)→Calls Tryz.prog 121 #[.slice p (ws X).length q,.slice p2 (ws Y).length q2] u fun r w'=>∃ v,r=.returned (.tuple #[v,.int .i64 0])∧Nt u.heap.size w' v L∧Below u.heap.size u w'))
 (HT:Hid (∀ (u:World) (p:Option Addr) (s:Nat),Below w.heap.size w u→Arg u p (ws L).length s (ws L)→Calls Tryz.prog 63 #[.bool (n1 != m1),.slice p (ws L).length s,.int .i64 (e1+f1)] u fun r w'=>(∃ v,r=.returned (.tuple #[.agg #[.bool dn,v,.int .i64 de],.int .i64 er])∧Nt u.heap.size w' v V)∧Below u.heap.size u w')):Calls Tryz.prog 104 #[.agg #[.bool n,.slice a l c,.int .i64 e],.agg #[.bool m,.slice b k d,.int .i64 f]] w fun r w'=>(∃ v,r=.returned (.tuple #[.agg #[.bool dn,v,.int .i64 de],.int .i64 er])∧Nt w.heap.size w' v V)∧Below w.heap.size w w':=by
 obtain ⟨W1,hW1⟩:∃ W,W=((w.alloc (.cells #[.bool n,.slice a l c,.int .i64 e] 67)).alloc (.cells #[.bool m,.slice b k d,.int .i64 f] 67)).alloc (.cells #[.bool false,.slice none 0 0,.int .i64 0] 67):=⟨_,rfl⟩;obtain ⟨hB,hz1,DA,DB,DR⟩:=add_begin w n m (.slice a l c) (.slice b k d) e f W1 hW1;have H1:=hid (HFM.out W1 hB);have SB:=(qsd (ai hB (ai hz1 (ai DA (ai DB DR)))));clear hB hz1 DA DB DR HFM;go_enter Tryz.func104,Tryz.ntmps104
 go_wp2_with fail
 rw [←hW1];clear hW1;refine H1.out.mono ?_;rintro r u1 ⟨v,v',rfl,hN,hM,hb⟩;obtain ⟨a1,c1,rfl,_⟩:=hN.arg (by omega)
 obtain ⟨a2,c2,rfl,_⟩:=hM.arg (by omega)
 obtain ⟨hB,hz1,DA,DB,DR⟩:=SB.out;have EA:=DA.below hb;have EB:=DB.below hb;have ER:=DR.below hb;obtain ⟨x0,x1,x2,xf0,xf1,xf2⟩:=EA.facts;obtain ⟨y0,y1,y2,yf0,yf1,yf2⟩:=EB.facts;obtain ⟨r0,r1,r2,rf0,rf1,rf2⟩:=ER.facts;have FX:=qsd (show Fin w.heap.size (w.heap.size+3) w u1 (.slice a1 (ws X).length c1) X from ⟨by rw [←hz1];exact hN,hB.trans (hb.mono (by omega)),by have:=hb.size;omega⟩)
 have FY:=qsd (show Fin w.heap.size (w.heap.size+3) w u1 (.slice a2 (ws Y).length c2) Y from ⟨by rw [←hz1];exact hM,hB.trans (hb.mono (by omega)),by have:=hb.size;omega⟩)
 have SE:=(qsd (ai EA (ai EB ER)));clear hN hM hb H1 hB hz1 DA DB DR EA EB ER SB;obtain ⟨EA,EB,ER⟩:=SE.out;obtain ⟨U1,hU1⟩:∃ U,U=st3 (st3 u1 w.heap.size (.bool n1) (.slice a1 (ws X).length c1) (.int .i64 e1)) (w.heap.size+1) (.bool m1) (.slice a2 (ws Y).length c2) (.int .i64 f1):=⟨_,rfl⟩;have IA:Dk U1 w.heap.size n1 (.slice a1 (ws X).length c1) e1:=by rw [hU1];exact ((EA.set _ _ _).other _ (by omega) _ _ _)
 have IB:Dk U1 (w.heap.size+1) m1 (.slice a2 (ws Y).length c2) f1:=by rw [hU1];exact ((EB.other _ (by omega) _ _ _).set _ _ _)
 have IR:Dk U1 (w.heap.size+1+1) false (.slice none 0 0) 0:=by rw [hU1];exact ((ER.other _ (by omega) _ _ _).other _ (by omega) _ _ _)
 have GX:Fin w.heap.size (w.heap.size+3) w U1 (.slice a1 (ws X).length c1) X:=by rw [hU1];exact (Fin.st3 (Fin.st3 FX.out _ _ _ _ (by omega) (by omega)) _ _ _ _ (by omega) (by omega))
 have GY:Fin w.heap.size (w.heap.size+3) w U1 (.slice a2 (ws Y).length c2) Y:=by rw [hU1];exact (Fin.st3 (Fin.st3 FY.out _ _ _ _ (by omega) (by omega)) _ _ _ _ (by omega) (by omega))
 have H2:=hid (HSH.out U1 a1 c1 a2 c2 GX.bel (GX.nt.arg' (by omega)).2 (GY.nt.arg' (by omega)).2)
 have S1:=(qsd (ai IA (ai IB (ai IR (ai GX GY)))));have hzU:w.heap.size+3≤U1.heap.size:=by have:=IR.lt;omega
 clear EA EB ER IA IB IR GX GY SE HSH;unfold st3 at hU1
 go_wp2_with fail
 rw [←hU1];clear hU1 x0 x1 x2 xf0 xf1 xf2 y0 y1 y2 yf0 yf1 yf2 r0 r1 r2 rf0 rf1 rf2;refine H2.out.mono ?_;rintro r u2 ⟨v,rfl,hN,hb⟩;obtain ⟨a3,c3,rfl,_⟩:=hN.arg (by omega)
 obtain ⟨IA,IB,IR,GX,GY⟩:=S1.out;obtain ⟨x0,x1,x2,xf0,xf1,xf2⟩:=(IA.below hb).facts;obtain ⟨y0,y1,y2,yf0,yf1,yf2⟩:=(IB.below hb).facts;obtain ⟨r0,r1,r2,rf0,rf1,rf2⟩:=(IR.below hb).facts;have H3:=hid (HT.out u2 a3 c3 (GX.below hb).bel (hN.arg' (by omega)).2)
 have S2:=(qsd (ai (IR.below hb) ((GX.below hb))));have hz2:w.heap.size+3≤u2.heap.size:=by have:=hb.size;omega
 clear hN hb H2 S1 IA IB IR GX GY HT
 go_wp2_with fail
 refine H3.out.mono ?_;rintro r u3 ⟨⟨v,rfl,hN⟩,hb⟩;obtain ⟨a4,c4,rfl,_⟩:=hN.arg (by omega)
 have IR:=S2.out.1.below hb;obtain ⟨s0,s1,s2,sf0,sf1,sf2⟩:=IR.facts;have FV:=qsd (show Fin w.heap.size (w.heap.size+3) w u3 (.slice a4 (ws V).length c4) V from ⟨hN.mono hz2,(S2.out.2.below hb).bel,by have:=hb.size;omega⟩)
 have S3:=qsd IR;clear hN hb IR H3 S2;go_wp2;refine bodyPost_ret (mul_res _ (w.heap.size+1+1) dn (.slice a4 (ws V).length c4) de er _ rfl rfl (S3.out.set _ _ _)) rfl ?_;refine Fin.dans (m:=w.heap.size+3) ?_ (by omega)
 repeat (with_reducible first | exact FV.out | refine Fin.drew ?_ | refine Fin.alloc ?_ _ | refine Fin.set ?_ _ _ _ (by omega) (by omega))
def mulF (x y:Bool×Nat×Int):Option (Bool×Nat×Int):=mkS (x.1 != y.1) (x.2.1*y.2.1) (x.2.2+y.2.2)
def mulD (o p:Option (Bool×Nat×Int)):Option (Bool×Nat×Int) :=
 match o,p with
 | some x,some y=>mulF x y
 | _,_=>none
theorem Mul_one {w:World}{p q:Option Addr}{s t X Y:Nat}(L:Nat) (er:Int) (hA:Arg w p (ws X).length s (ws X)) (hB:Arg w q (ws Y).length t (ws Y)) (h:mulS X Y=(L,er)) :
 Calls Tryz.prog 121 #[.slice p (ws X).length s,.slice q (ws Y).length t] w fun r w'=>∃ v,r=.returned (.tuple #[v,.int .i64 er])∧Nt w.heap.size w' v L∧Below w.heap.size w w':=by
 have:=Mul_any (ws X) (ws Y) p q (ws X).length s (ws Y).length t w.heap.size w hA.len hB.len hA.cap hB.cap (by have:=hA.big;omega) (by have:=hB.big;omega) hA.wf hB.wf hA.rd hB.rd (Nat.le_refl _)
 rw [val_ws,val_ws,h] at this;exact this.mono fun r w' ⟨⟨v,h1,h2⟩,h3⟩=>⟨v,h1,h2,h3⟩
theorem lo_odd1 {X:Nat}(h:X%2=1):lo X=0:=by
 have:=lo_eq 0 (X/2);rw [show 2^0*(2*(X/2)+1)=X by omega] at this
 exact this
theorem Mul_any3 {w:World}{a b:Option Addr}{l c k d:Nat}{xs ys:List Nat}(h1:Arg w a l c xs) (h2:Arg w b k d ys) (hT:Tab w) (n m:Bool) (e f:Int) (he0:-9223372036854775808≤e) (he1:e≤9223372036854775807) (hf0:-9223372036854775808≤f) (hf1:f≤9223372036854775807) :
 Calls Tryz.prog 104 #[.agg #[.bool n,.slice a l c,.int .i64 e],.agg #[.bool m,.slice b k d,.int .i64 f]] w fun r w'=>DAns w.heap.size w' r (mulD (mkS n (val xs) e) (mkS m (val ys) f))∧Below w.heap.size w w':=by
 have zero:∀ {r:Ending} {w':World},(r=.returned (.tuple #[.agg #[.bool false,.slice none 0 0,.int .i64 0],.int .i64 2])∧Below w.heap.size w w')→DAns w.heap.size w' r none∧Below w.heap.size w w':=fun ⟨h1,h2⟩=>⟨⟨_,h1,Nt.nil _ _⟩,h2⟩
 cases hx:mkS n (val xs) e with
 | none =>
   exact (mul_bad n m e f (hid fun u hu=>forms_bad1 (h1.below hu) (h2.below hu) (hT.belows hu) n m e f he0 he1 hf0 hf1 hx)).mono fun r w' h=>zero h
 | some x =>
   obtain ⟨n1,X,e1⟩:=x
   cases hy:mkS m (val ys) f with
   | none =>
     exact (mul_bad n m e f (hid fun u hu=>forms_bad2 (h1.below hu) (h2.below hu) (hT.belows hu) n m e f he0 he1 hf0 hf1 n1 X e1 hx hy)).mono fun r w' h=>zero h
   | some y =>
     obtain ⟨m1,Y,f1⟩:=y;have HFM:=hid fun u (hu:Below w.heap.size w u)=>forms_ok (h1.below hu) (h2.below hu) (hT.belows hu) n m e f he0 he1 hf0 hf1 n1 m1 X Y e1 f1 hx hy
     have FX:=mkS_frm hx;have FY:=mkS_frm hy;have lX:=frm_len FX;have lY:=frm_len FY;have:=FX.up;have:=FX.down;have:=FY.up;have:=FY.down
     show Calls _ _ _ _ fun r w'=>DAns w.heap.size w' r (mkS (n1 != m1) (X*Y) (e1+f1))∧_
     by_cases hL:LG (X*Y)
     · have hs:mulS X Y=(0,2):=by unfold mulS;rw [if_neg (by intro h;rcases h with h | h;exact notLG FX.size h;exact notLG FY.size h),if_pos hL]
       have hno:mkS (n1 != m1) (X*Y) (e1+f1)=none:=by
        have hb:=(LG_bl _).1 hL;have h0:X*Y≠0:=by intro h;rw [h,bl_zero] at hb;omega
        have oX:X%2=1:=by rcases FX.odd with h | h;exact h;rw [h.1,Nat.zero_mul] at h0;exact absurd rfl h0
        have oY:Y%2=1:=by rcases FY.odd with h | h;exact h;rw [h.1,Nat.mul_zero] at h0;exact absurd rfl h0
        have hlo:lo (X*Y)=0:=lo_odd1 (by rw [Nat.mul_mod,oX,oY])
        unfold mkS;rw [if_neg h0,if_pos (.inl (by rw [hlo];omega))]
       rw [hno];exact (mul_long n m e f n1 m1 X Y e1 f1 lX lY (by omega) (by omega) (by omega) (by omega) HFM (hid fun u p q p2 q2 hu hA hB=>Mul_one 0 2 hA hB hs)).mono fun r w' h=>zero h
     · have hs:mulS X Y=(X*Y,0):=by unfold mulS;rw [if_neg (by intro h;rcases h with h | h;exact notLG FX.size h;exact notLG FY.size h),if_neg hL]
       obtain ⟨L,hLe⟩:∃ L,X*Y=L:=⟨_,rfl⟩;rw [hLe] at hs hL ⊢;have lL:(ws L).length≤8192:=by unfold LG at hL;omega
       exact mul_ok n m e f n1 m1 X Y e1 f1 lX lY (by omega) (by omega) (by omega) (by omega) HFM L lL _ _ _ _ (mkS_len (n1 != m1) L (e1+f1)) (hid fun u p q p2 q2 hu hA hB=>Mul_one L 0 hA hB hs)
        (hid fun u p s hu hA=>by have:=Make_any hA (hT.belows hu) (n1 != m1) (e1+f1) (by omega) (by omega);rw [val_ws] at this;exact this)
theorem sub_res (W:World) (g:Nat) (n:Bool) (v:Value) (e k:Int) (tmps:Array Value) (ht:tmps[4]?.getD undef=.pointer (some ⟨g,0,none⟩)) (hk:tmps[5]?.getD undef=.int .i64 k) (D:Dk W g n v e) :
 (results Tryz.f105 tmps).run Tryz.prog W=.ok (.tuple #[.agg #[.bool n,v,.int .i64 e],.int .i64 k]) W:=by
 obtain ⟨x0,x1,x2,xf0,xf1,xf2⟩:=D.facts;simp [results,Tryz.results105,ht,hk,go_sem,x0,x1,x2]
theorem sub_core {w:World}{a b:Option Addr}{l c k d:Nat}(n m:Bool) (e f:Int) (dn:Bool) (V:Nat) (de er:Int) (lV:(ws V).length≤8192)
 (HT:Hid (∀ u,Calls Tryz.prog 131 #[.agg #[.bool m,.slice b k d,.int .i64 f]] u fun r w'=>r=.returned (.agg #[.bool (!m),.slice b k d,.int .i64 f])∧Below u.heap.size u w'))
 (HA:Hid (∀ u,Below w.heap.size w u→Calls Tryz.prog 130 #[.agg #[.bool n,.slice a l c,.int .i64 e],.agg #[.bool (!m),.slice b k d,.int .i64 f]] u fun r w'=>(∃ v,r=.returned (.tuple #[.agg #[.bool dn,v,.int .i64 de],.int .i64 er])∧Nt u.heap.size w' v V)∧Below u.heap.size u w')) :
 Calls Tryz.prog 105 #[.agg #[.bool n,.slice a l c,.int .i64 e],.agg #[.bool m,.slice b k d,.int .i64 f]] w fun r w'=>(∃ v,r=.returned (.tuple #[.agg #[.bool dn,v,.int .i64 de],.int .i64 er])∧Nt w.heap.size w' v V)∧Below w.heap.size w w':=by
 obtain ⟨W1,hW1⟩:∃ W,W=((w.alloc (.cells #[.bool n,.slice a l c,.int .i64 e] 67)).alloc (.cells #[.bool m,.slice b k d,.int .i64 f] 67)).alloc (.cells #[.bool false,.slice none 0 0,.int .i64 0] 67):=⟨_,rfl⟩;obtain ⟨hB,hz1,DA,DB,DR⟩:=add_begin w n m (.slice a l c) (.slice b k d) e f W1 hW1;have T1:=hid (HT.out W1);have T2:=hid (HT.out W1.drew);obtain ⟨x0,x1,x2,xf0,xf1,xf2⟩:=DA.facts;obtain ⟨y0,y1,y2,yf0,yf1,yf2⟩:=DB.facts;obtain ⟨r0,r1,r2,rf0,rf1,rf2⟩:=DR.facts;have hs1:w.heap.size+3≤W1.heap.size:=by omega
 have SB:=(qsd (ai hB (ai DA (ai DB DR))));clear hB hz1 DA DB DR;go_enter Tryz.func105,Tryz.ntmps105
 go_wp2_with fail
 rw [←hW1];clear hW1;have ne1:w.heap.size≠w.heap.size+1+1:=by omega
 have ne2:w.heap.size+1≠w.heap.size+1+1:=by omega
 have ne3:w.heap.size+1+1≠w.heap.size:=by omega
 have ne4:w.heap.size+1+1≠w.heap.size+1:=by omega
 go_region_held3 (fun w'=>w'.cell? ⟨w.heap.size,0,none⟩=some (.bool n)∧w'.cell? ⟨w.heap.size,1,none⟩=some (.slice a l c)∧w'.cell? ⟨w.heap.size,2,none⟩=some (.int .i64 e)∧w'.cell? ⟨w.heap.size+1,0,none⟩=some (.bool m)∧w'.cell? ⟨w.heap.size+1,1,none⟩=some (.slice b k d)∧w'.cell? ⟨w.heap.size+1,2,none⟩=some (.int .i64 f)) (go_keep) (first
  | (go_at_call 131
     first | with_reducible refine T1.out.mono ?_ | with_reducible refine T2.out.mono ?_
     rintro r u1 ⟨rfl,hb⟩;have hb1:Below W1.heap.size W1 u1:=by first | exact hb | exact ((Below.refl _ W1).drew).trans (hb.mono (Nat.le_refl _))
     have hs2:W1.heap.size≤u1.heap.size:=hb1.size;have BW:Below w.heap.size w u1:=SB.out.1.trans (hb1.mono (by omega))
     have HA1:=hid (HA.out u1 BW);have KR:=SB.out.2.2.2.below hb1;obtain ⟨p0,p1,p2,pf0,pf1,pf2⟩:=KR.facts;obtain ⟨q0,q1,q2,qf0,qf1,qf2⟩:=(SB.out.2.1.below hb1).facts;obtain ⟨s0,s1,s2,sf0,sf1,sf2⟩:=(SB.out.2.2.1.below hb1).facts;have S1:=(qsd (ai BW (ai KR (ai (SB.out.2.1.below hb1) (SB.out.2.2.1.below hb1)))));clear hb hb1 KR BW)
  | (go_at_call 130
     with_reducible refine HA1.out.mono ?_
     rintro r u2 ⟨⟨v,rfl,hN⟩,hb⟩;obtain ⟨a4,c4,rfl,_⟩:=hN.arg (by omega)
     have LR:=S1.out.2.1.below hb;obtain ⟨t0,t1,t2,tf0,tf1,tf2⟩:=LR.facts;obtain ⟨i0,i1,i2,if0,if1,if2⟩:=(S1.out.2.2.1.below hb).facts;obtain ⟨j0,j1,j2,jf0,jf1,jf2⟩:=(S1.out.2.2.2.below hb).facts;have FV:=qsd (show Fin w.heap.size (w.heap.size+3) w u2 (.slice a4 (ws V).length c4) V from ⟨hN.mono (by omega),S1.out.1.trans (hb.mono (by omega)),by have:=hb.size;omega⟩)
     have S10:=qsd LR;clear hN hb LR))
 all_goals (
  go_wp2;refine bodyPost_ret (sub_res _ (w.heap.size+1+1) dn (.slice a4 (ws V).length c4) de er _ rfl rfl (S10.out.set _ _ _)) rfl ?_;refine Fin.dans (m:=w.heap.size+3) ?_ (by omega)
  repeat (with_reducible first | exact FV.out | refine Fin.drew ?_ | refine Fin.alloc ?_ _ | refine Fin.set ?_ _ _ _ (by omega) (by omega)))
theorem addUp_len (n:Bool) (X:Nat) (e:Int) (m:Bool) (Y:Nat) (f:Int):(ws (dX (addUp n X e m Y f))).length≤8192:=by
 unfold addUp
 split
 · show (ws 0).length≤8192;rw [ws_zero];exact Nat.zero_le _
 · split
   · exact mkS_len _ _ _
   · split <;> exact mkS_len _ _ _
theorem addD_len (n:Bool) (X:Nat) (e:Int) (m:Bool) (Y:Nat) (f:Int):(ws (dX (addD (mkS n X e) (mkS m Y f)))).length≤8192:=by
 have z0:(ws 0).length≤8192:=by rw [ws_zero];exact Nat.zero_le _
 cases hx:mkS n X e with
 | none=>exact z0
 | some x =>
   cases hy:mkS m Y f with
   | none=>exact z0
   | some y =>
     obtain ⟨n1,X1,e1⟩:=x;obtain ⟨m1,Y1,f1⟩:=y
     show (ws (dX (addF _ _))).length≤8192
     unfold addF
     split
     · exact frm_len (mkS_frm hy)
     · split
       · exact frm_len (mkS_frm hx)
       · split <;> exact addUp_len _ _ _ _ _ _
theorem Sub_any3 {w:World}{a b:Option Addr}{l c k d:Nat}{xs ys:List Nat}(h1:Arg w a l c xs) (h2:Arg w b k d ys) (hT:Tab w) (n m:Bool) (e f:Int) (he0:-9223372036854775808≤e) (he1:e≤9223372036854775807) (hf0:-9223372036854775808≤f) (hf1:f≤9223372036854775807) :
 Calls Tryz.prog 105 #[.agg #[.bool n,.slice a l c,.int .i64 e],.agg #[.bool m,.slice b k d,.int .i64 f]] w fun r w'=>DAns w.heap.size w' r (addD (mkS n (val xs) e) (mkS (!m) (val ys) f))∧Below w.heap.size w w' :=
 sub_core n m e f _ _ _ _ (addD_len n (val xs) e (!m) (val ys) f) (hid fun u=>turned_any b k d m f u) (hid fun u hu=>Add_any3 (h1.below hu) (h2.below hu) (hT.belows hu) n (!m) e f he0 he1 hf0 hf1)
def sgn (n:Bool) (X:Nat):Int:=if X=0 then 0 else if n then -1 else 1
theorem Sign_any3 {w:World}{a:Option Addr}{n c:Nat}{xs:List Nat}(h1:Arg w a n c xs) (ng:Bool) (e:Int) :
 Calls Tryz.prog 34 #[.agg #[.bool ng,.slice a n c,.int .i64 e]] w fun r w'=>r=.returned (.int .i64 (sgn ng (val xs)))∧Below w.heap.size w w':=by
 have hB:Below w.heap.size w (w.alloc (.cells #[.bool ng,.slice a n c,.int .i64 e] 67)):=below_alloc w _;have A1:=h1.below hB;have hbig:=h1.big;have H1:=hid (len_any xs a n c _ _ A1.len A1.cap (by omega) A1.wf A1.rd)
 obtain ⟨X,hX⟩:∃ X,val xs=X:=⟨_,rfl⟩;rw [hX] at H1 ⊢;have SB:=qsd hB;clear hB A1 h1 hX hbig;unfold sgn
 by_cases h0:X=0
 · rw [if_pos h0]
   have hb:bl X=0:=by rw [h0,bl_zero]
   rw [hb] at H1;clear h0 hb;go_enter Tryz.func34,Tryz.ntmps34
   go_wp2_with fail
   refine H1.out.mono ?_;rintro r w1 ⟨rfl,rfl⟩;go_wp2;go_ret;exact ⟨rfl,SB.out⟩
 · rw [if_neg h0]
   obtain ⟨b,hb⟩:∃ b,bl X=b:=⟨_,rfl⟩;have hb0:((b:Int)==0)=false:=by have:=bl_pos X h0;simp;omega
   rw [hb] at H1;clear h0 hb
   cases ng
   · simp only [Bool.false_eq_true,if_false]
     go_enter Tryz.func34,Tryz.ntmps34
     go_wp2_with fail
     refine H1.out.mono ?_;rintro r w1 ⟨rfl,rfl⟩;go_wp2;go_ret;exact ⟨rfl,SB.out⟩
   · simp only [if_true]
     go_enter Tryz.func34,Tryz.ntmps34
     go_wp2_with fail
     refine H1.out.mono ?_;rintro r w1 ⟨rfl,rfl⟩;go_wp2;go_ret;exact ⟨rfl,SB.out⟩
theorem sgn_zero3 {n:Bool}{X:Nat}:sgn n X=0↔X=0:=by
 unfold sgn
 by_cases h:X=0
 · simp [h]
 · rw [if_neg h];cases n <;> simp [h]
def sg1 (n:Bool):Int:=if n then -1 else 1
def zv (B:Int) (x:Bool×Nat×Int):Int:=sg1 x.1*((x.2.1*2^(x.2.2-B).toNat:Nat):Int)
theorem pow_split (e l B:Int) (h:B≤e) (hl:0≤l):(2:Nat)^(e+l-B).toNat=2^l.toNat*2^(e-B).toNat:=by
 rw [←Nat.pow_add];congr 1;omega
theorem zv_mkS {n:Bool}{X:Nat}{e:Int}{x:Bool×Nat×Int}(h:mkS n X e=some x) (B:Int) (hB:X=0∨B≤e):zv B x=sg1 n*((X*2^(e-B).toNat:Nat):Int):=by
 unfold mkS at h
 by_cases h0:X=0
 · rw [if_pos h0] at h
   cases h
   subst h0;simp [zv]
 · rw [if_neg h0] at h
   split at h
   · cases h
   · cases h
     have hB':B≤e:=by rcases hB with h | h;exact absurd h h0;exact h
     obtain ⟨m,hm,hd,_⟩:=odd_part X h0
     show sg1 n*((X/2^lo X*2^(e+(lo X:Int)-B).toNat:Nat):Int)=_
     rw [pow_split e (lo X) B hB' (by omega),Int.toNat_natCast,←Nat.mul_assoc]
     have hx:X/2^lo X*2^lo X=X:=by rw [hd];rw [Nat.mul_comm];exact hm.symm
     rw [hx]
theorem sg1_ne {n m:Bool}(h:¬ n=m):sg1 m=-sg1 n:=by cases n <;> cases m <;> first | exact absurd rfl h | rfl
theorem sg1_not (n:Bool):sg1 (!n)=-sg1 n:=by cases n <;> rfl
theorem sg1_bne (n m:Bool):sg1 (n != m)=sg1 n*sg1 m:=by cases n <;> cases m <;> rfl
theorem zv_addUp {n m:Bool}{X Y:Nat}{e f:Int}{z:Bool×Nat×Int}(h:addUp n X e m Y f=some z) (hfe:f≤e) (B:Int) (hB:B≤f):zv B z=zv B (n,X,e)+zv B (m,Y,f):=by
 unfold addUp at h
 split at h
 · cases h
 · have key:X*2^(e-f).toNat*2^(f-B).toNat=X*2^(e-B).toNat:=by
    rw [Nat.mul_assoc,←Nat.pow_add,show (e-f).toNat+(f-B).toNat=(e-B).toNat by omega]
   show zv B z=sg1 n*((X*2^(e-B).toNat:Nat):Int)+sg1 m*((Y*2^(f-B).toNat:Nat):Int)
   generalize 2^(e-f).toNat=P at h key
   split at h
   · rename_i hnm
     rw [zv_mkS h B (.inr hB),hnm,←Int.mul_add,Nat.add_mul,key,Int.natCast_add]
   · rename_i hnm
     split at h
     · rename_i hle
       rw [zv_mkS h B (.inr hB),sg1_ne hnm,Nat.sub_mul,key,Int.ofNat_sub (by rw [←key];exact Nat.mul_le_mul_right _ hle),Int.mul_sub,Int.neg_mul]
       omega
     · rename_i hle
       rw [zv_mkS h B (.inr hB),sg1_not,sg1_ne hnm,Nat.sub_mul,key,Int.ofNat_sub (by rw [←key];exact Nat.mul_le_mul_right _ (by omega)),Int.mul_sub,Int.neg_mul,Int.neg_mul]
       omega
theorem zv_zero {x:Bool×Nat×Int}(B:Int) (h:x.2.1=0):zv B x=0:=by unfold zv;rw [h];simp
theorem zv_addF {x y z:Bool×Nat×Int}(h:addF x y=some z) (B:Int) (hx:x.2.1=0∨B≤x.2.2) (hy:y.2.1=0∨B≤y.2.2):zv B z=zv B x+zv B y:=by
 obtain ⟨n,X,e⟩:=x;obtain ⟨m,Y,f⟩:=y;unfold addF at h;simp only at h hx hy
 by_cases h0:X=0
 · rw [if_pos h0] at h
   cases h
   rw [zv_zero (x:=(n,X,e)) B h0,Int.zero_add]
 · rw [if_neg h0] at h
   by_cases h1:Y=0
   · rw [if_pos h1] at h
     cases h
     rw [zv_zero (x:=(m,Y,f)) B h1,Int.add_zero]
   · rw [if_neg h1] at h
     have hx':B≤e:=by rcases hx with k | k;exact absurd k h0;exact k
     have hy':B≤f:=by rcases hy with k | k;exact absurd k h1;exact k
     by_cases h2:e<f
     · rw [if_pos h2] at h
       rw [zv_addUp h (by omega) B hx',Int.add_comm]
     · rw [if_neg h2] at h
       exact zv_addUp h (by omega) B hy'
theorem zv_mulF {x y z:Bool×Nat×Int}(h:mulF x y=some z) (B C:Int) (hx:x.2.1=0∨B≤x.2.2) (hy:y.2.1=0∨C≤y.2.2):zv (B+C) z=zv B x*zv C y:=by
 obtain ⟨n,X,e⟩:=x;obtain ⟨m,Y,f⟩:=y;unfold mulF at h;simp only at h hx hy
 by_cases h0:X=0
 · subst h0
   rw [Nat.zero_mul] at h;rw [zv_mkS h _ (.inl rfl),zv_zero (x:=(n,0,e)) B rfl];simp
 · by_cases h1:Y=0
   · subst h1
     rw [Nat.mul_zero] at h;rw [zv_mkS h _ (.inl rfl),zv_zero (x:=(m,0,f)) C rfl];simp
   · have hx':B≤e:=by rcases hx with k | k;exact absurd k h0;exact k
     have hy':C≤f:=by rcases hy with k | k;exact absurd k h1;exact k
     rw [zv_mkS h _ (.inr (by omega)),sg1_bne]
     unfold zv;simp only;rw [show (e+f-(B+C)).toNat=(e-B).toNat+(f-C).toNat by omega,Nat.pow_add]
     rw [show X*Y*(2^(e-B).toNat*2^(f-C).toNat)=(X*2^(e-B).toNat)*(Y*2^(f-C).toNat) by rw [Nat.mul_mul_mul_comm]]
     rw [Int.natCast_mul,Int.mul_assoc,Int.mul_assoc]
     congr 1
     rw [←Int.mul_assoc,←Int.mul_assoc]
     congr 1
     exact Int.mul_comm _ _
theorem odd_pow {X Y:Nat}(a b:Nat) (hX:X%2=1) (hY:Y%2=1) (h:X*2^a=Y*2^b):X=Y∧a=b:=by
 have key:∀ (a b X Y:Nat),X%2=1→Y%2=1→X*2^a=Y*2^b→a≤b:=by
  intro a b X Y hX hY h
  rcases Nat.lt_or_ge b a with k|k
  · exfalso
    obtain ⟨d,rfl⟩:∃ d,a=b+(d+1):=⟨a-b-1,by omega⟩
    rw [Nat.pow_add,Nat.mul_comm (2^b),←Nat.mul_assoc] at h;have:=Nat.eq_of_mul_eq_mul_right (Nat.two_pow_pos b) h;rw [Nat.pow_succ,←Nat.mul_assoc] at this;omega
  · exact k
 have h1:=key a b X Y hX hY h;have h2:=key b a Y X hY hX h.symm;have e:a=b:=by omega
 subst e;exact ⟨Nat.eq_of_mul_eq_mul_right (Nat.two_pow_pos a) h,rfl⟩
theorem zv_inj {n m:Bool}{X Y:Nat}{e f:Int}(FX:Frm n X e) (FY:Frm m Y f) (B:Int) (hB:B≤-1048576) (h:zv B (n,X,e)=zv B (m,Y,f)):n=m∧X=Y∧e=f:=by
 have hx:=FX.down;have hy:=FY.down;unfold zv at h;simp only at h;have hpX:0<2^(e-B).toNat:=Nat.two_pow_pos _;have hpY:0<2^(f-B).toNat:=Nat.two_pow_pos _
 rcases FX.odd with oX|⟨rfl,rfl,rfl⟩
 · rcases FY.odd with oY | ⟨rfl,rfl,rfl⟩
   · have pX:0<X*2^(e-B).toNat:=Nat.mul_pos (by omega) hpX
     have pY:0<Y*2^(f-B).toNat:=Nat.mul_pos (by omega) hpY
     have hn:n=m:=by
      generalize X*2^(e-B).toNat=P at h pX;generalize Y*2^(f-B).toNat=Q at h pY
      cases n <;> cases m <;> first | rfl | (simp only [sg1,Bool.false_eq_true,if_true,if_false] at h;omega)
     subst hn
     have hPQ:X*2^(e-B).toNat=Y*2^(f-B).toNat:=by
      generalize X*2^(e-B).toNat=P at h;generalize Y*2^(f-B).toNat=Q at h
      cases n <;> (simp only [sg1,Bool.false_eq_true,if_true,if_false] at h;omega)
     obtain ⟨h1,h2⟩:=odd_pow _ _ oX oY hPQ;exact ⟨rfl,h1,by omega⟩
   · exfalso
     have pX:0<X*2^(e-B).toNat:=Nat.mul_pos (by omega) hpX
     generalize X*2^(e-B).toNat=P at h pX;rw [Nat.zero_mul] at h
     cases n <;> (simp only [sg1,Bool.false_eq_true,if_true,if_false] at h;omega)
 · rcases FY.odd with oY | ⟨rfl,rfl,rfl⟩
   · exfalso
     have pY:0<Y*2^(f-B).toNat:=Nat.mul_pos (by omega) hpY
     generalize Y*2^(f-B).toNat=Q at h pY;rw [Nat.zero_mul] at h
     cases m <;> (simp only [sg1,Bool.false_eq_true,if_true,if_false] at h;omega)
   · exact ⟨rfl,rfl,rfl⟩
theorem mkS_idem {n:Bool}{X:Nat}{e:Int}(F:Frm n X e):mkS n X e=some (n,X,e):=by
 unfold mkS
 rcases F.odd with h|⟨rfl,rfl,rfl⟩
 · have h1:=F.size;have h2:=F.up;have h3:=F.down
   rw [if_neg (by omega),lo_odd1 h,if_neg (by omega),Nat.pow_zero,Nat.div_one]
   simp
 · rw [if_pos rfl]
theorem addUp_frm {n m:Bool}{X Y:Nat}{e f:Int}{n':Bool}{Z:Nat}{g:Int}(h:addUp n X e m Y f=some (n',Z,g)):Frm n' Z g:=by
 unfold addUp at h
 split at h
 · cases h
 · split at h
   · exact mkS_frm h
   · split at h
     · exact mkS_frm h
     · exact mkS_frm h
theorem addF_frm {n m:Bool}{X Y:Nat}{e f:Int}(FX:Frm n X e) (FY:Frm m Y f) {n':Bool}{Z:Nat}{g:Int}(h:addF (n,X,e) (m,Y,f)=some (n',Z,g)):Frm n' Z g:=by
 unfold addF at h;simp only at h
 split at h
 · cases h;exact FY
 · split at h
   · cases h;exact FX
   · split at h
     · exact addUp_frm h
     · exact addUp_frm h
theorem addD_some {o p:Option (Bool×Nat×Int)}(h:(addD o p).isSome=true):∃ x y z,o=some x∧p=some y∧addF x y=some z∧addD o p=some z:=by
 cases o with
 | none=>cases h
 | some x =>
   cases p with
   | none=>cases h
   | some y =>
     obtain ⟨z,hz⟩:=Option.isSome_iff_exists.1 h;exact ⟨x,y,z,rfl,rfl,hz,hz⟩
theorem mulD_some {o p:Option (Bool×Nat×Int)}(h:(mulD o p).isSome=true):∃ x y z,o=some x∧p=some y∧mulF x y=some z∧mulD o p=some z:=by
 cases o with
 | none=>cases h
 | some x =>
   cases p with
   | none=>cases h
   | some y =>
     obtain ⟨z,hz⟩:=Option.isSome_iff_exists.1 h;exact ⟨x,y,z,rfl,rfl,hz,hz⟩
structure Fv (B:Int) (o:Option (Bool×Nat×Int)) (z:Int):Prop where
 ex:∃ n X e,o=some (n,X,e)∧Frm n X e∧zv B (n,X,e)=z
theorem Frm.base {n:Bool}{X:Nat}{e:Int}(F:Frm n X e) {B:Int}(hB:B≤-1048576):X=0∨B≤e:=.inr (by have:=F.down;omega)
theorem Fv.add {B:Int}(hB:B≤-1048576) {o p:Option (Bool×Nat×Int)}{x y:Int}(h1:Fv B o x) (h2:Fv B p y) (h:(addD o p).isSome=true):Fv B (addD o p) (x+y):=by
 obtain ⟨n,X,e,rfl,F,rfl⟩:=h1.ex;obtain ⟨m,Y,f,rfl,G,rfl⟩:=h2.ex;obtain ⟨_,_,z,e1,e2,hz,hd⟩:=addD_some h
 cases e1;cases e2
 obtain ⟨n',Z,g⟩:=z;exact ⟨n',Z,g,hd,addF_frm F G hz,zv_addF hz B (F.base hB) (G.base hB)⟩
theorem Fv.mul {B C:Int}(hB:B≤-1048576) (hC:C≤-1048576) {o p:Option (Bool×Nat×Int)}{x y:Int}(h1:Fv B o x) (h2:Fv C p y) (h:(mulD o p).isSome=true):Fv (B+C) (mulD o p) (x*y):=by
 obtain ⟨n,X,e,rfl,F,rfl⟩:=h1.ex;obtain ⟨m,Y,f,rfl,G,rfl⟩:=h2.ex;obtain ⟨_,_,z,e1,e2,hz,hd⟩:=mulD_some h
 cases e1;cases e2
 obtain ⟨n',Z,g⟩:=z;exact ⟨n',Z,g,hd,mkS_frm hz,zv_mulF hz B C (F.base hB) (G.base hC)⟩
theorem Fv.same {B:Int}(hB:B≤-1048576) {o p:Option (Bool×Nat×Int)}{x y:Int}(h1:Fv B o x) (h2:Fv B p y) (h:x=y):dN o=dN p∧dX o=dX p∧dE o=dE p:=by
 obtain ⟨n,X,e,rfl,F,rfl⟩:=h1.ex;obtain ⟨m,Y,f,rfl,G,rfl⟩:=h2.ex;exact zv_inj F G B hB h
abbrev vK (K:Nat):Nat:=B.val Ieee.double K
theorem vK_lt {K L:Nat}:vK K<vK L↔K<L:=B.val_lt_iff Ieee.double
theorem vK_word (j F:Nat) (h:j=0∨4503599627370496≤F) (hF:F≤9007199254740992):vK (j*4503599627370496+F)=F*2^j:=by
 have:=B.val_at Ieee.double j F (by rw [B.dBin];exact h) (by rw [B.dBin];omega)
 rw [B.dBin] at this;exact this
def wd64 (s:Bool) (K:Nat):Nat:=K+(if s then 9223372036854775808 else 0)
def sK (s:Bool) (K:Nat):Int:=if s then -(K:Int) else K
theorem wd64_bw (s:Bool) (K:Nat) (h:K≤9218868437227405312):wd64 s K=B.bw s (K/4503599627370496) (K%4503599627370496)∧K/4503599627370496<2048∧K%4503599627370496<4503599627370496∧B.odd (K/4503599627370496) (K%4503599627370496)=false∧B.pl s (K/4503599627370496) (K%4503599627370496)=sK s K:=by
 refine ⟨?_,by omega,by omega,?_,?_⟩
 · unfold wd64 B.bw
   cases s
   · simp;omega
   · simp;omega
 · unfold B.odd
   simp;omega
 · unfold B.pl B.sg sK
   rw [show K/4503599627370496*4503599627370496+K%4503599627370496=K by omega]
theorem eq64 (s t:Bool) (K L:Nat) (hK:K≤9218868437227405312) (hL:L≤9218868437227405312):(FloatKind.f64.format.order (wd64 s K) (wd64 t L)==some .eq)=decide (sK s K=sK t L):=by
 obtain ⟨a1,a2,a3,a4,a5⟩:=wd64_bw s K hK;obtain ⟨b1,b2,b3,b4,b5⟩:=wd64_bw t L hL;rw [a1,b1,B.eq_f64 s t _ _ _ _ a2 a3 b2 b3,a4,b4,a5,b5];simp
theorem frm_odd {n:Bool}{X:Nat}{e:Int}(F:Frm n X e) (h:X≠0):X%2=1:=by rcases F.odd with k | k;exact k;exact absurd k.1 h
attribute [local go_sem] B.f64bits B.f64frombits st_float
def magW (x:Nat):Nat:=x%9223372036854775808
def negW (x:Nat):Bool:=decide (9223372036854775808≤x)
end
section
open Go.RowKit
def ofK (s:Bool) (K:Nat):Option (Bool×Nat×Int):=ofR s (K/4503599627370496) (K%4503599627370496)
theorem ofK_val (s:Bool) (K:Nat) (hK:K<9218868437227405312):∃ n X e,ofK s K=some (n,X,e)∧Frm n X e∧(X≠0→n=s)∧(X=0↔K=0)∧∀ Bs:Int,Bs≤-1074→zv Bs (n,X,e)=sg1 s*((vK K*2^(-1074-Bs).toNat:Nat):Int):=by
 obtain ⟨x,hx⟩:∃ x,K/4503599627370496=x:=⟨_,rfl⟩;obtain ⟨f,hf⟩:∃ f,K%4503599627370496=f:=⟨_,rfl⟩;have hxl:x<2047:=by omega
 have hfl:f<4503599627370496:=by omega
 obtain ⟨M,hM⟩:∃ M,(if x=0 then f else f+4503599627370496)=M:=⟨_,rfl⟩
 obtain ⟨E,hE⟩:∃ E:Int,(if x=0 then (-1074:Int) else (x:Int)-1075)=E:=⟨_,rfl⟩
 have hME:(x=0∧M=f∧E=-1074)∨(x≠0∧M=f+4503599627370496∧E=(x:Int)-1075):=by
  by_cases h:x=0
  · rw [if_pos h] at hM hE;exact .inl ⟨h,hM.symm,hE.symm⟩
  · rw [if_neg h] at hM hE;exact .inr ⟨h,hM.symm,hE.symm⟩
 have hMl:M<9007199254740992:=by omega
 have hO:ofK s K=mkS s M E:=by unfold ofK ofR;rw [hx,hf,if_neg (by omega),hM,hE]
 have hsome:(mkS s M E).isSome=true:=by
  unfold mkS
  split
  · rfl
  · rename_i h0
    have hb:=bl_le53 M hMl;obtain ⟨_,_,_,hbb⟩:=odd_part M h0;rw [if_neg (by omega)]
    rfl
 obtain ⟨⟨n,X,e⟩,hz⟩:=Option.isSome_iff_exists.1 hsome;have hKw:K=(E+1074).toNat*4503599627370496+M:=by rcases hME with h | h <;> omega
 have hv:vK K=M*2^(E+1074).toNat:=by
  rw [hKw];exact vK_word _ _ (by rcases hME with h | h;left;omega;right;omega) (by omega)
 have hM0:M=0↔K=0:=by rcases hME with h | h <;> omega
 refine ⟨n,X,e,by rw [hO,hz],mkS_frm hz,?_,?_,?_⟩
 · intro hX
   unfold mkS at hz
   split at hz
   · cases hz;exact absurd rfl hX
   · split at hz
     · cases hz
     · cases hz;rfl
 · rw [←hM0]
   constructor
   · intro hX
     unfold mkS at hz
     split at hz
     · assumption
     · rename_i h0
       split at hz
       · cases hz
       · obtain ⟨m,_,hd,_⟩:=odd_part M h0
         cases hz
         omega
   · intro h0
     unfold mkS at hz;rw [if_pos h0] at hz
     cases hz;rfl
 · intro Bs hBs
   rw [zv_mkS hz Bs (.inr (by omega)),hv,Nat.mul_assoc,←Nat.pow_add,show (E+1074).toNat+(-1074-Bs).toNat=(E-Bs).toNat by omega]
end
section
open Go.RowKit J
theorem hBin:Ieee.double.binade≤Ieee.double.infRung:=by rw [B.dInf,B.dBin];omega
theorem wd_of (x:Nat) (h:x<18446744073709551616):x=wd64 (negW x) (magW x):=by
 unfold wd64 negW magW
 by_cases hx:9223372036854775808≤x
 · rw [decide_eq_true hx,if_pos rfl];omega
 · rw [decide_eq_false hx,if_neg (by simp)];omega
theorem exU (a:Nat):∃ u:Nat,u=2^a:=⟨_,rfl⟩
def EU:Nat:=1074
def ES:Nat:=2095004
noncomputable def UU:Nat:=Classical.choose (exU EU)
noncomputable def SS:Nat:=Classical.choose (exU ES)
theorem U_eq:UU=2^EU:=Classical.choose_spec (exU EU)
theorem S_eq:SS=2^ES:=Classical.choose_spec (exU ES)
theorem EUS:EU+ES=2096078:=by unfold EU ES;rfl
theorem US (a:Nat) (h:a=2096078):2^a=UU*SS:=by
 rw [U_eq,S_eq,←Nat.pow_add,EUS,h]
structure Fo (o:Option (Bool×Nat×Int)) (z:Int) (L H:Int):Prop where
 ex:∃ n X e,o=some (n,X,e)∧Frm n X e∧zv (-2097152) (n,X,e)=z*(SS:Int)∧(X=0∨L≤e∧e+(bl X:Int)≤H)
theorem mkS_sz (n:Bool) (Z:Nat) (f L H:Int) (hZ:Z≠0) (h1:L≤f) (h2:f+(bl Z:Int)≤H) (hL:-1000000≤L) (hH:H≤1000000) (hd:H-L≤262144) :
 ∃ X e,mkS n Z f=some (n,X,e)∧X≠0∧L≤e∧e+(bl X:Int)≤H:=by
 obtain ⟨m,e0,e1,e2⟩:=odd_part Z hZ;unfold mkS;rw [if_neg hZ,if_neg (by omega)]
 exact ⟨_,_,rfl,by omega,by omega,by omega⟩
theorem blLe {X m:Nat}(h:X<2^m):bl X≤m:=by
 apply Nat.le_of_not_lt;intro hh
 have:=(bl_gt X m).1 hh;omega
theorem sg1_sg (s:Bool) (v:Nat):sg1 s*(v:Int)=B.sg s v:=by unfold sg1 B.sg;cases s <;> simp
theorem top_v (K:Nat) (hK:K<9218868437227405312) (a:Nat) (ha:a=2045):vK K<9007199254740992*2^a:=by
 have h:=vK_word a 9007199254740992 (.inr (by omega)) (by omega)
 have h2:a*4503599627370496+9007199254740992=9218868437227405312:=by rw [ha]
 rw [←h,h2];exact vK_lt.2 hK
theorem of_fo (s:Bool) (K:Nat) (hK:K<9218868437227405312):∃ n X e,ofK s K=some (n,X,e)∧Fo (some (n,X,e)) (B.sg s (vK K)*(UU:Int)) (-1074) 1024∧(X=0↔K=0):=by
 obtain ⟨n,X,e,h1,F,h2,h3,h4⟩:=ofK_val s K hK;refine ⟨n,X,e,h1,⟨n,X,e,rfl,F,?_,?_⟩,h3⟩
 · obtain ⟨a,ha⟩:∃ a:Nat,(-1074 - -2097152:Int).toNat=a:=⟨_,rfl⟩
   have h5:=h4 (-2097152) (by omega)
   rw [ha] at h5;rw [h5,US a (by omega),Int.natCast_mul,Int.natCast_mul,←Int.mul_assoc,←Int.mul_assoc,sg1_sg]
 · by_cases hX:X=0
   · exact .inl hX
   · right
     have ho:=frm_odd F hX;have hd:=F.down
     -- in units of the form's own place
     have h5:=h4 (min e (-1074)) (by omega)
     unfold zv at h5;simp only at h5;rw [h2 hX] at h5
     have h6:X*2^(e-min e (-1074)).toNat=vK K*2^(-1074-min e (-1074)).toNat:=by
      unfold sg1 at h5
      cases s
      · simp only [Bool.false_eq_true,if_false,Int.one_mul] at h5;exact_mod_cast h5
      · simp only [if_true] at h5;have:=Int.eq_of_mul_eq_mul_left (by decide) h5;exact_mod_cast this
     have he:-1074≤e:=by
      apply Int.le_of_not_gt;intro hlt
      rw [show (e-min e (-1074)).toNat=0 by omega,Nat.pow_zero,Nat.mul_one] at h6
      obtain ⟨q,hq⟩:∃ q,(-1074-min e (-1074)).toNat=q+1:=⟨(-1074-min e (-1074)).toNat-1,by omega⟩
      rw [hq,Nat.pow_succ,←Nat.mul_assoc] at h6;omega
     refine ⟨he,?_⟩;rw [show (-1074-min e (-1074)).toNat=0 by omega,Nat.pow_zero,Nat.mul_one] at h6
     obtain ⟨q,hq⟩:∃ q,(e-min e (-1074)).toNat=q:=⟨_,rfl⟩;rw [hq] at h6;obtain ⟨c,hc⟩:∃ c:Nat,c=2045:=⟨_,rfl⟩;have h7:=top_v K hK c hc;have h8:=bl_ge X hX;have h9:=bl_pos X hX;obtain ⟨b,hb⟩:∃ b,bl X=b+1:=⟨bl X-1,by omega⟩
     rw [hb,Nat.add_sub_cancel] at h8;have h10:2^b*2^q<9007199254740992*2^c:=Nat.lt_of_le_of_lt (Nat.mul_le_mul_right _ h8) (by rw [h6];exact h7)
     rw [←Nat.pow_add,show (9007199254740992:Nat)=2^53 from rfl,←Nat.pow_add] at h10
     have h11:=(Nat.pow_lt_pow_iff_right (by decide:1<2)).1 h10
     omega
theorem read_nanW (x:Nat) (h:9218868437227405312<magW x):∃ s t,Ieee.double.read x=.nan s t:=⟨_,_,B.read_nan Ieee.double x (by rw [B.dInf,B.dSign];exact h) hBin⟩
attribute [local go_sem] st_float
def Fw10 (n:Nat):Value:=.float .f64 n
theorem Tryz.und_floats:Tryz.prog.underlying 22=some (.slice 28):=by kernel_rfl
theorem Tryz.info_f64:(Tryz.prog.info? 28).map (fun i=>(i.zero,i.size,i.bytes))=some (some (.float .f64 0),1,8):=by kernel_rfl
def OwnF (w:World) (g:Nat) (L:List Nat):Prop:=w.heap[g]?=some (.cells (L.map Fw10).toArray 28 (0,0))
theorem make_floats (z:Int) (n:Nat) (hz:z=(n:Int)) (hn:n≤17592186044416) (w:World) :
 (Instr.makeSlice 22 (.int .i64 z) (.int .i64 z)).run Tryz.prog w=.ok (.slice (some ⟨w.heap.size,0,none⟩) n n) (w.alloc (.cells (madeCells #[.float .f64 0] n) 28)):=by
 subst hz;exact run_make_row' 22 28 (.float .f64 0) 8 Tryz.und_floats Tryz.info_f64 rfl .i64 .i64 n (by omega) (by omega) w
theorem OwnF.made (w:World) (n:Nat):OwnF (w.alloc (.cells (madeCells #[.float .f64 0] n) 28)) w.heap.size (List.replicate n 0):=by
 unfold OwnF;have h1:=heap_alloc_new w (.cells (madeCells #[.float .f64 0] n) 28);rw [h1]
 congr 2
 apply Array.toList_inj.1
 rw [toList_madeCells_one];simp [Fw10]
end
section
open Go.RowKit
theorem sI_perm20 {I J:List (Nat×Int)}(h:I.Perm J):sI I=sI J:=h.foldl_eq' (fun x _ y _ z=>(cnt_comm z x.1 y.1)) _
theorem vI_perm20 {I J:List (Nat×Int)}(h:I.Perm J):vI I=vI J:=h.foldl_eq' (fun x _ y _ z=>by omega) 0
theorem sI_cons20 (p:Nat×Int) (I:List (Nat×Int)):sI (p::I)=(sI I).cnt p.1 1:=by
 rw [←sI_snoc];exact sI_perm20 (List.perm_append_singleton p I).symm
theorem vI_cons20 (p:Nat×Int) (I:List (Nat×Int)):vI (p::I)=vI I+p.2:=by
 rw [←vI_snoc];exact vI_perm20 (List.perm_append_singleton p I).symm
theorem cnt_back20 (s:Sp) (k:Nat):(s.cnt k 1).cnt k (-1)=s:=by
 obtain ⟨n,u,d,m,p,a⟩:=s;simp only [Sp.cnt,Sp.mk.injEq];refine ⟨?_,?_,?_,?_,?_,?_⟩ <;> (try split) <;> omega
theorem has_cnt20 {s:Sp}(h:s.pos) (k:Nat) (hk:k≤5):(s.cnt k 1).has k≠0:=by
 obtain ⟨n,u,d,m,p,a⟩:=s;unfold Sp.pos at h;simp only at h;unfold Sp.has Sp.cnt;simp only
 rcases Nat.lt_or_ge k 1 with e|e
 · obtain rfl:k=0:=by omega
   simp;omega
 · have:k=1∨k=2∨k=3∨k=4∨k=5:=by omega
   rcases this with rfl|rfl|rfl|rfl|rfl <;> simp <;> omega
theorem drop_ok20 {I:List (Nat×Int)}{p:Nat×Int}(h:∀ q ∈ p::I,Ip q) (hl:I.length<1000000):dropS (vI (p::I)) (sI (p::I)) p.1 p.2=(0,vI I,sI I):=by
 have hI:∀ q ∈ I,Ip q:=fun q hq=>h q (List.mem_cons_of_mem _ hq)
 obtain ⟨p1,p2⟩:=sI_pos I hI;obtain ⟨v1,v2⟩:=vI_bd I hI;have hp:=h p List.mem_cons_self;have hkq:I.length*QB≤1000000*QB:=Nat.mul_le_mul_right _ (by omega)
 have hQ:=QB_HB;have hqp:=QB_pos;unfold dropS;rw [sI_cons20,if_neg (has_cnt20 p1 p.1 hp.1),cnt_back20,vI_cons20];unfold step7;rw [show vI I+p.2+-p.2=vI I by omega,if_pos (by constructor <;> omega)]
theorem add20 (g:Nat) (I:List (Nat×Int)) (x:Nat) (w:World) (hA:At12 w g I) (hl:I.length<1000000) (hx:x<18446744073709551616) :
 Calls Tryz.prog 40 #[.pointer (some ⟨g,0,none⟩),.float .f64 x] w fun r w'=>r=.returned (.int .i64 0)∧At12 w' g (I++[(pK x 4607182418800017408,pT x 4607182418800017408)])∧But g w w':=by
 have C:=Add7 g (vI I) (sI I) x w hA.1 (hA.ok (by omega)) hx
 obtain ⟨p1,p2⟩:=sI_pos I hA.2;obtain ⟨v1,v2⟩:=vI_bd I hA.2;have h1:4607182418800017408<18446744073709551616:=by decide
 have hsm:=pT_small x 4607182418800017408 hx h1;have hkq:I.length*QB≤1000000*QB:=Nat.mul_le_mul_right _ (by omega)
 have hQ:=QB_HB;have hqp:=QB_pos;rw [put_ok _ _ _ _ (by omega) (by omega) (by omega)] at C
 refine C.mono ?_;rintro r w' ⟨rfl,h2,h3⟩;refine ⟨rfl,⟨?_,fun p hp=>?_⟩,h3⟩
 · rw [vI_snoc,sI_snoc];exact h2
 · rcases List.mem_append.1 hp with h | h
   · exact hA.2 p h
   · rw [List.mem_singleton.1 h];exact ip_prod hx h1
theorem take20 (g:Nat) (I:List (Nat×Int)) (x:Nat) (w:World) (hA:At12 w g ((pK x 4607182418800017408,pT x 4607182418800017408)::I)) (hl:I.length<999999) (hx:x<18446744073709551616) :
 Calls Tryz.prog 52 #[.pointer (some ⟨g,0,none⟩),.float .f64 x] w fun r w'=>r=.returned (.int .i64 0)∧At12 w' g I∧But g w w':=by
 have C:=Take7 g _ _ x w hA.1 (hA.ok (by simp only [List.length_cons];omega)) hx
 rw [drop_ok20 hA.2 (by omega)] at C
 refine C.mono ?_;rintro r w' ⟨rfl,h2,h3⟩;exact ⟨rfl,⟨h2,fun q hq=>hA.2 q (List.mem_cons_of_mem _ hq)⟩,h3⟩
theorem takeP20 (g:Nat) (I:List (Nat×Int)) (x y:Nat) (w:World) (hA:At12 w g ((pK x y,pT x y)::I)) (hl:I.length<999999) (hx:x<18446744073709551616) (hy:y<18446744073709551616) :
 Calls Tryz.prog 53 #[.pointer (some ⟨g,0,none⟩),.float .f64 x,.float .f64 y] w fun r w'=>r=.returned (.int .i64 0)∧At12 w' g I∧But g w w':=by
 have C:=TakeProduct7 g _ _ x y w hA.1 (hA.ok (by simp only [List.length_cons];omega)) hx hy
 rw [drop_ok20 hA.2 (by omega)] at C
 refine C.mono ?_;rintro r w' ⟨rfl,h2,h3⟩;exact ⟨rfl,⟨h2,fun q hq=>hA.2 q (List.mem_cons_of_mem _ hq)⟩,h3⟩
def rg (R:List Nat) (s c:Nat):List Nat:=(List.range c).map fun i=>R.getD ((s+i)%R.length) 0
theorem rg_len (R:List Nat) (s c:Nat):(rg R s c).length=c:=by simp [rg]
theorem rg_get {R:List Nat}{s c i:Nat}(hi:i<c):(rg R s c).getD i 0=R.getD ((s+i)%R.length) 0:=by
 simp [rg,List.getD_eq_getElem?_getD,hi]
theorem rg_snoc (R:List Nat) (s c:Nat):rg R s (c+1)=rg R s c++[R.getD ((s+c)%R.length) 0]:=by
 simp [rg,List.range_succ]
theorem rg_first {R:List Nat}{s c:Nat}(hs:s<R.length):rg R s (c+1)=R.getD s 0::rg R ((s+1)%R.length) c:=by
 unfold rg;rw [List.range_succ_eq_map,List.map_cons,List.map_map,Nat.add_zero,Nat.mod_eq_of_lt hs]
 congr 1
 apply List.map_congr_left
 intro i _;simp only [Function.comp];rw [show s+(i+1)=s+1+i by omega,Nat.mod_add_mod]
theorem mod_ne20 {n s i c:Nat}(hs:s<n) (hi:i<c) (hc:c<n):(s+i)%n≠(s+c)%n:=by
 intro h
 have h1:(s+i)%n=if s+i<n then s+i else s+i-n:=by
  split
  · exact Nat.mod_eq_of_lt ‹_›
  · rw [Nat.mod_eq_sub_mod (by omega)];exact Nat.mod_eq_of_lt (by omega)
 have h2:(s+c)%n=if s+c<n then s+c else s+c-n:=by
  split
  · exact Nat.mod_eq_of_lt ‹_›
  · rw [Nat.mod_eq_sub_mod (by omega)];exact Nat.mod_eq_of_lt (by omega)
 rw [h1,h2] at h
 split at h <;> split at h <;> omega
theorem rg_set {R:List Nat}{s c:Nat}(x:Nat) (hs:s<R.length) (hc:c<R.length):rg (R.set ((s+c)%R.length) x) s (c+1)=rg R s c++[x]:=by
 have hp:(s+c)%R.length<R.length:=Nat.mod_lt _ (by omega)
 rw [rg_snoc,List.length_set]
 congr 1
 · unfold rg
   apply List.map_congr_left
   intro i hi;rw [List.length_set,List.getD_eq_getElem?_getD,List.getD_eq_getElem?_getD,List.getElem?_set_ne (Ne.symm (mod_ne20 hs (List.mem_range.1 hi) hc))]
 · rw [List.getD_eq_getElem?_getD,List.getElem?_set_self hp];rfl
end
section
open Go.RowKit J
def okB (K:Nat→Int) (xs:List Nat) (i:Nat):Bool:=!nanW (xs.getD i 0)&&(List.range xs.length).all fun j=>!decide (i<j) || nanW (xs.getD j 0) || decide (K (xs.getD i 0)<K (xs.getD j 0))
theorem okB_iff {K:Nat→Int}{xs:List Nat}{i:Nat}:okB K xs i=true↔nanW (xs.getD i 0)=false∧∀ j,i<j→j<xs.length→nanW (xs.getD j 0)=false→K (xs.getD i 0)<K (xs.getD j 0):=by
 unfold okB;rw [Bool.and_eq_true,List.all_eq_true]
 constructor
 · rintro ⟨h1,h2⟩
   refine ⟨by simpa using h1,fun j hj hl hn=>?_⟩
   have:=h2 j (List.mem_range.2 hl);rw [decide_eq_true hj,hn] at this;simpa using this
 · rintro ⟨h1,h2⟩
   refine ⟨by rw [h1];rfl,fun j hj=>?_⟩
   by_cases a:i<j
   · cases b:nanW (xs.getD j 0)
     · rw [decide_eq_true (h2 j a (List.mem_range.1 hj) b)];simp
     · simp
   · simp [a]
def stL (K:Nat→Int) (xs:List Nat):List Nat:=(List.range xs.length).filter (okB K xs)
theorem stL_mem {K:Nat→Int}{xs:List Nat}{i:Nat}:i ∈ stL K xs↔i<xs.length∧okB K xs i=true:=by
 unfold stL;rw [List.mem_filter,List.mem_range]
theorem stL_len (K:Nat→Int) (xs:List Nat):(stL K xs).length≤xs.length:=by
 have:=List.length_filter_le (okB K xs) (List.range xs.length);rw [List.length_range] at this;exact this
theorem stL_sorted (K:Nat→Int) (xs:List Nat):(stL K xs).Pairwise (·<·):=List.Pairwise.filter _ List.pairwise_lt_range
theorem getD_snoc20 (xs:List Nat) (x i:Nat) (h:i<xs.length):(xs++[x]).getD i 0=xs.getD i 0:=by
 simp [List.getD_eq_getElem?_getD,List.getElem?_append_left h]
theorem getD_last20 (xs:List Nat) (x:Nat):(xs++[x]).getD xs.length 0=x:=by
 simp [List.getD_eq_getElem?_getD]
theorem okB_snoc {K:Nat→Int}{xs:List Nat}{x i:Nat}(hi:i<xs.length):okB K (xs++[x]) i=(okB K xs i&&(nanW x || decide (K (xs.getD i 0)<K x))):=by
 rw [Bool.eq_iff_iff,Bool.and_eq_true,okB_iff,okB_iff,getD_snoc20 xs x i hi,Bool.or_eq_true,decide_eq_true_eq]
 constructor
 · rintro ⟨h1,h2⟩
   refine ⟨⟨h1,fun j hj hl hn=>?_⟩,?_⟩
   · have:=h2 j hj (by simp;omega)
     rw [getD_snoc20 xs x j hl] at this;exact this hn
   · have:=h2 xs.length hi (by simp)
     rw [getD_last20] at this
     cases h:nanW x
     · exact .inr (this h)
     · exact .inl rfl
 · rintro ⟨⟨h1,h2⟩,h3⟩
   refine ⟨h1,fun j hj hl hn=>?_⟩
   rw [List.length_append,List.length_singleton] at hl
   rcases Nat.lt_or_ge j xs.length with e|e
   · rw [getD_snoc20 xs x j e] at hn ⊢
     exact h2 j hj e hn
   · obtain rfl:j=xs.length:=by omega
     rw [getD_last20] at hn ⊢
     rcases h3 with h3|h3
     · rw [hn] at h3;cases h3
     · exact h3
theorem okB_last (K:Nat→Int) (xs:List Nat) (x:Nat):okB K (xs++[x]) xs.length=!nanW x:=by
 rw [Bool.eq_iff_iff,okB_iff,getD_last20]
 constructor
 · rintro ⟨h,_⟩;simpa using h
 · intro h
   refine ⟨by simpa using h,fun j hj hl=>?_⟩
   rw [List.length_append,List.length_singleton] at hl;omega
theorem stL_snoc (K:Nat→Int) (xs:List Nat) (x:Nat):stL K (xs++[x])=(stL K xs).filter (fun i=>nanW x || decide (K (xs.getD i 0)<K x))++(if nanW x then [] else [xs.length]):=by
 unfold stL;rw [List.length_append,List.length_singleton,List.range_succ,List.filter_append,List.filter_filter]
 congr 1
 · apply List.filter_congr
   intro i hi;rw [okB_snoc (List.mem_range.1 hi),Bool.and_comm]
 · rw [List.filter_cons,okB_last]
   cases nanW x <;> rfl
theorem stL_nan {K:Nat→Int}{xs:List Nat}{x:Nat}(h:nanW x=true):stL K (xs++[x])=stL K xs:=by
 rw [stL_snoc,h];simp only [Bool.true_or,if_true,List.append_nil];exact List.filter_eq_self.2 (fun _ _=>rfl)
theorem stL_up {K:Nat→Int}{xs:List Nat}{a b:Nat}(hab:a<b) (hb:b<(stL K xs).length):K (xs.getD ((stL K xs).getD a 0) 0)<K (xs.getD ((stL K xs).getD b 0) 0)∧(stL K xs).getD a 0<(stL K xs).getD b 0:=by
 have h1:=List.pairwise_iff_getElem.1 (stL_sorted K xs) a b (by omega) hb hab
 have ea:(stL K xs).getD a 0=(stL K xs)[a]'(by omega):=by rw [List.getD_eq_getElem?_getD,List.getElem?_eq_getElem (by omega)];rfl
 have eb:(stL K xs).getD b 0=(stL K xs)[b]'hb:=by rw [List.getD_eq_getElem?_getD,List.getElem?_eq_getElem hb];rfl
 rw [ea,eb];have ma:=stL_mem.1 (List.getElem_mem (l:=stL K xs) (n:=a) (by omega))
 have mb:=stL_mem.1 (List.getElem_mem (l:=stL K xs) (n:=b) hb);exact ⟨(okB_iff.1 ma.2).2 _ h1 mb.1 (okB_iff.1 mb.2).1,h1⟩
theorem stL_pop {K:Nat→Int}{xs:List Nat}{x m:Nat}(hn:nanW x=false) (hm:m≤(stL K xs).length) (hd:∀ t,m≤t→t<(stL K xs).length→¬ K (xs.getD ((stL K xs).getD t 0) 0)<K x) (hk:m=0∨K (xs.getD ((stL K xs).getD (m-1) 0) 0)<K x) :
 stL K (xs++[x])=(stL K xs).take m++[xs.length]:=by
 rw [stL_snoc,hn];simp only [Bool.false_or,Bool.false_eq_true,if_false]
 congr 1
 have h1:=List.take_append_drop m (stL K xs);obtain ⟨J,hJ⟩:∃ J,J=stL K xs:=⟨_,rfl⟩;have hm':m≤J.length:=by rw [hJ];exact hm
 have e:J.filter (fun i=>decide (K (xs.getD i 0)<K x))=(J.take m).filter (fun i=>decide (K (xs.getD i 0)<K x))++(J.drop m).filter (fun i=>decide (K (xs.getD i 0)<K x)):=by
  rw [←List.filter_append,List.take_append_drop]
 rw [←hJ,e,List.filter_eq_self.2,List.filter_eq_nil_iff.2,List.append_nil]
 · intro i hi
   obtain ⟨t,ht,rfl⟩:=List.mem_iff_getElem.1 hi;rw [List.length_drop] at ht;rw [List.getElem_drop];have:=hd (m+t) (by omega) (by rw [←hJ];omega)
   rw [←hJ,List.getD_eq_getElem?_getD (l:=J),List.getElem?_eq_getElem (by omega)] at this
   simpa using this
 · intro i hi
   obtain ⟨t,ht,rfl⟩:=List.mem_iff_getElem.1 hi;rw [List.length_take] at ht;rw [List.getElem_take];have e2:J.getD t 0=J[t]'(by omega):=by rw [List.getD_eq_getElem?_getD,List.getElem?_eq_getElem (by omega)];rfl
   rw [←e2]
   rcases hk with rfl|hk
   · omega
   · rw [←hJ] at hk
     rcases Nat.lt_or_ge t (m-1) with c|c
     · have:=(stL_up (K:=K) (xs:=xs) (a:=t) (b:=m-1) c (by rw [←hJ];omega)).1
       rw [←hJ] at this;simp only [decide_eq_true_eq];omega
     · obtain rfl:t=m-1:=by omega
       simpa using hk
theorem okB_cons (K:Nat→Int) (x:Nat) (ys:List Nat) (i:Nat):okB K (x::ys) (i+1)=okB K ys i:=by
 rw [Bool.eq_iff_iff,okB_iff,okB_iff];simp only [List.getD_cons_succ]
 constructor
 · rintro ⟨h1,h2⟩
   refine ⟨h1,fun j hj hl hn=>?_⟩
   have:=h2 (j+1) (by omega) (by simp;omega)
   rw [List.getD_cons_succ] at this;exact this hn
 · rintro ⟨h1,h2⟩
   refine ⟨h1,fun j hj hl hn=>?_⟩
   obtain ⟨j,rfl⟩:∃ q,j=q+1:=⟨j-1,by omega⟩
   rw [List.getD_cons_succ] at hn ⊢;exact h2 j (by omega) (by simp at hl;omega) hn
theorem stL_cons (K:Nat→Int) (x:Nat) (ys:List Nat):stL K (x::ys)=(if okB K (x::ys) 0 then [0] else [])++(stL K ys).map (·+1):=by
 unfold stL;rw [List.length_cons,List.range_succ_eq_map,List.filter_cons,List.filter_map]
 have e:(List.range ys.length).filter (okB K (x::ys) ∘ Nat.succ)=(List.range ys.length).filter (okB K ys):=by
  apply List.filter_congr
  intro i _;exact okB_cons K x ys i
 rw [e]
 split <;> rfl
def endR (K:Nat→Int) (xs:List Nat):Nat×Int:=if xs=[] then (0,3) else if stL K xs=[] then (9221120237041090560,0) else (xs.getD ((stL K xs).getD 0 0) 0,0)
theorem end_least {K:Nat→Int}{xs:List Nat}:∀ d i,xs.length-i≤d→i<xs.length→nanW (xs.getD i 0)=false→stL K xs≠[]∧K (xs.getD ((stL K xs).getD 0 0) 0)≤K (xs.getD i 0)
 | 0,i,hd,hi,_=>by omega
 | d+1,i,hd,hi,hn=>by
   by_cases h:∃ j,i<j∧j<xs.length∧nanW (xs.getD j 0)=false∧K (xs.getD j 0)≤K (xs.getD i 0)
   · obtain ⟨j,h1,h2,h3,h4⟩:=h
     obtain ⟨a,b⟩:=end_least (K:=K) (xs:=xs) d j (by omega) h2 h3
     exact ⟨a,by omega⟩
   · have hm:i ∈ stL K xs:=stL_mem.2 ⟨hi,okB_iff.2 ⟨hn,fun j h1 h2 h3=>by
      by_cases c:K (xs.getD i 0)<K (xs.getD j 0)
      · exact c
      · exact absurd ⟨j,h1,h2,h3,by omega⟩ h⟩⟩
     refine ⟨List.ne_nil_of_mem hm,?_⟩;obtain ⟨t,ht,e⟩:=List.mem_iff_getElem.1 hm
     rcases Nat.eq_zero_or_pos t with rfl|c
     · rw [List.getD_eq_getElem?_getD (l:=stL K xs),List.getElem?_eq_getElem ht,Option.getD_some,e];exact Int.le_refl _
     · have:=(stL_up (K:=K) (xs:=xs) (a:=0) (b:=t) c ht).1
       rw [List.getD_eq_getElem?_getD (l:=stL K xs) (i:=t),List.getElem?_eq_getElem ht,Option.getD_some,e] at this
       omega
theorem end_nn {K:Nat→Int}{xs:List Nat}(h:stL K xs≠[]):(stL K xs).getD 0 0<xs.length∧nanW (xs.getD ((stL K xs).getD 0 0) 0)=false:=by
 have hl:0<(stL K xs).length:=List.length_pos_iff.2 h;have hm:=stL_mem.1 (List.getElem_mem (l:=stL K xs) (n:=0) hl);rw [List.getD_eq_getElem?_getD (l:=stL K xs),List.getElem?_eq_getElem hl,Option.getD_some]
 exact ⟨hm.1,(okB_iff.1 hm.2).1⟩
attribute [local go_sem] st_float
theorem wrap20 {q:Nat}(h:q<4611686018427387904):IntKind.i64.wrap (q:Int)=(q:Int):=by
 simp [IntKind.wrap,IntKind.bits,IntKind.signed];omega
theorem wrapY20 {x:Int}{q:Nat}(h:x=(q:Int)) (hq:q<4611686018427387904):IntKind.i64.wrap x=(q:Int):=by rw [h];exact wrap20 hq
theorem tmod20 (a b:Nat):Int.tmod (a:Int) (b:Int)=((a%b:Nat):Int):=by rw [Int.tmod_eq_emod_of_nonneg (by omega)];omega
abbrev I20 (n:Nat):Value:=.int .i64 (n:Int)
theorem Bl.drewN {w:World}{g T:Nat}{C:List Value}(h:Bl w g T C) (k:Nat):Bl (w.drewN k) g T C:=h
theorem below_drewN20 {B:Nat}{a w:World}(h:Below B a w) (n:Nat):Below B a (w.drewN n):=⟨h.os,h.tape,h.output,h.size,h.block⟩
theorem elF {w:World}{g:Nat}{R:List Nat}(h:Bl w g 28 (R.map Fw10)) (i:Nat) (hi:i<R.length):w.cell? ⟨g,i,none⟩=some (.float .f64 (R.getD i 0)):=h.cell i _ (by simp [Fw10,I20,hi])
theorem placeF (g n c s i:Nat)  (a:Option Addr) (w:World) (c0:w.cell? ⟨g,0,none⟩=some (.slice a n c)) (c1:w.cell? ⟨g,1,none⟩=some (.int .i64 (s:Nat))) (hs:s<n) (hn:n≤4096) (hi:i≤4096) :
 Calls Tryz.prog 90 #[.pointer (some ⟨g,0,none⟩),.int .i64 (i:Nat)] w fun r w'=>r=.returned (.int .i64 (((s+i)%n:Nat):Int))∧∃ k,w'=w.drewN k:=by
 have w1:IntKind.i64.wrap ((s:Int)+(i:Int))=((s+i:Nat):Int):=wrapY20 (by omega) (by omega)
 obtain ⟨q,hq⟩:∃ q,q=s+i:=⟨_,rfl⟩;obtain ⟨m,hm⟩:∃ m,m=q%n:=⟨_,rfl⟩;have t1:=tmod20 q n;rw [←hm] at t1;rw [←hq] at w1;have hmn:m<n:=by rw [hm];exact Nat.mod_lt _ (by omega)
 have w2:IntKind.i64.wrap (m:Int)=(m:Int):=wrap20 (by omega)
 have n0:((n:Int)==0)=false:=by simp;omega
 have n1:(n:Int)≠0:=by omega
 have n2:n≠0:=by omega
 rw [←hq,←hm];clear hq hm;go_enter Tryz.func90,Tryz.ntmps90
 go_wp2_with fail
 go_quiet (fail)
 go_wp2
 try simp only [t1,w2,n0,n1]
 go_ret;exact ⟨by first | rfl | simp [t1,w2],_,rfl⟩
theorem firstF (g n c s b:Nat)  (R:List Nat) (w:World) (c0:w.cell? ⟨g,0,none⟩=some (.slice (some ⟨b,0,none⟩) n c)) (c1:w.cell? ⟨g,1,none⟩=some (.int .i64 (s:Nat))) (hR:Bl w b 28 (R.map Fw10)) (hn:R.length=n) (hs:s<n) :
 Calls Tryz.prog 51 #[.pointer (some ⟨g,0,none⟩)] w fun r w'=>r=.returned (.float .f64 (R.getD s 0))∧∃ k,w'=w.drewN k:=by
 have e:=elF hR s (by omega)
 have s1:(s:Int)<(n:Int):=by omega
 have s0:¬ ((s:Int)<0):=by omega
 clear hR hn;go_enter Tryz.func51,Tryz.ntmps51
 go_wp2_with fail
 go_quiet (fail)
 go_wp2;go_ret;exact ⟨rfl,_,rfl⟩
theorem dropFirstF (g n c s k T:Nat)  (a:Option Addr) (C:List Value) (w:World) (hC:Bl w g T C) (c0:C[0]?=some (.slice a n c)) (c1:C[1]?=some (I20 s)) (c2:C[2]?=some (I20 (k+1))) (hs:s<n) (hn:n≤4096) (hk:k≤4096) :
 Calls Tryz.prog 55 #[.pointer (some ⟨g,0,none⟩)] w fun r w'=>r=.returned (.tuple #[])∧Bl w' g T ((C.set 1 (I20 ((s+1)%n))).set 2 (I20 k))∧But g w w':=by
 have HP:=hid (placeF g n c s 1 a w (hC.cell _ _ c0) (hC.cell _ _ c1) hs hn (by decide))
 have d2:=hC.cell _ _ c2;have f1:=hC.frozen 1;have f2:=hC.frozen 2;have d1:=hC.cell _ _ c1;have HC:=qsd hC;have wk:IntKind.i64.wrap (((k+1:Nat):Int)-1)=(k:Int):=wrapY20 (by omega) (by omega)
 obtain ⟨k1,hk1⟩:∃ k1,k1=k+1:=⟨_,rfl⟩;obtain ⟨m,hm⟩:∃ m,m=(s+1)%n:=⟨_,rfl⟩;have d2':w.cell? ⟨g,2,none⟩=some (.int .i64 (k1:Nat)):=by rw [hk1];exact d2
 rw [←hk1] at wk;rw [←hm] at HP ⊢;clear hC c0 c1 c2 d2 hk1 hm;go_enter Tryz.func55,Tryz.ntmps55
 go_wp2_with fail
 refine HP.out.mono ?_;rintro r v ⟨rfl,j,rfl⟩;go_wp2;refine bodyPost_end (v:=.tuple #[]) (by simp [results,Tryz.results55,go_sem]) rfl ?_
 exact ⟨rfl,(((HC.out.drewN j).set _ _).set _ _),((((But.refl g w).drewN j).set _ _).set _ _)⟩
theorem pushF (g n c s k T b x:Nat)  (R:List Nat) (C:List Value) (w:World) (hC:Bl w g T C) (c0:C[0]?=some (.slice (some ⟨b,0,none⟩) n c)) (c1:C[1]?=some (I20 s)) (c2:C[2]?=some (I20 k)) (hR:Bl w b 28 (R.map Fw10)) (hl:R.length=n) (hgb:g≠b) (hs:s<n) (hn:n≤4096) (hk:k≤4096) :
 Calls Tryz.prog 56 #[.pointer (some ⟨g,0,none⟩),.float .f64 x] w fun r w'=>r=.returned (I20 ((s+k)%n))∧Bl w' g T (C.set 2 (I20 (k+1)))∧Bl w' b 28 ((R.map Fw10).set ((s+k)%n) (.float .f64 x))∧(∃ v,But b w v∧But g v w'):=by
 have HP:=hid (placeF g n c s k (some ⟨b,0,none⟩) w (hC.cell _ _ c0) (hC.cell _ _ c1) hs hn hk);have d0:=hC.cell _ _ c0;have d2:=hC.cell _ _ c2;have f2:=hC.frozen 2;obtain ⟨m,hm⟩:∃ m,m=(s+k)%n:=⟨_,rfl⟩;have hmn:m<n:=by rw [hm];exact Nat.mod_lt _ (by omega)
 have e1:=elF hR m (by omega)
 have f1:=hR.frozen m;have HC:=qsd (ai hC hR);have wk:IntKind.i64.wrap ((k:Int)+1)=((k+1:Nat):Int):=wrapY20 (by omega) (by omega)
 obtain ⟨k1,hk1⟩:∃ k1,k1=k+1:=⟨_,rfl⟩;have d2':w.cell? ⟨g,2,none⟩=some (.int .i64 (k:Nat)):=d2;rw [←hk1] at wk ⊢;rw [←hm] at HP ⊢;have s1:(m:Int)<(n:Int):=by omega
 have s0:¬ ((m:Int)<0):=by omega
 have hbg:b≠g:=fun e=>hgb e.symm
 clear hC c0 c1 c2 d2 hk1 hm hR;go_enter Tryz.func56,Tryz.ntmps56
 go_wp2_with fail
 refine HP.out.mono ?_;rintro r v ⟨rfl,j,rfl⟩;go_wp2;go_ret;exact ⟨rfl,(((HC.out.1.drewN j).but ((But.refl b _).set m _) hgb).set _ _),(((HC.out.2.drewN j).set m _).but ((But.refl g _).set _ _) hbg),_,(((But.refl b w).drewN j).set m _),((But.refl g _).set _ _)⟩
theorem fullF (g n c k:Nat)  (a:Option Addr) (w:World) (c0:w.cell? ⟨g,0,none⟩=some (.slice a n c)) (c2:w.cell? ⟨g,2,none⟩=some (.int .i64 (k:Nat))) :
 Calls Tryz.prog 25 #[.pointer (some ⟨g,0,none⟩)] w fun r w'=>r=.returned (.bool (decide (k=n)))∧∃ k,w'=w.drewN k:=by
 obtain ⟨t,ht⟩:∃ t,t=decide (k=n):=⟨_,rfl⟩;have e:((k:Int)==(n:Int))=t:=by rw [ht,Bool.eq_iff_iff];simp;omega
 rw [←ht];clear ht;go_enter Tryz.func25,Tryz.ntmps25
 go_wp2_with fail
 go_quiet (fail)
 go_wp2;go_ret;exact ⟨by first | rfl | simp [e],_,rfl⟩
theorem elI {w:World}{g:Nat}{R:List Nat}(h:Bl w g 3 (R.map I20)) (i:Nat) (hi:i<R.length):w.cell? ⟨g,i,none⟩=some (.int .i64 ((R.getD i 0:Nat):Int)):=h.cell i _ (by simp [Fw10,I20,hi])
theorem placeI (g n c s i:Nat) (o:Nat) (a:Option Addr) (w:World) (c0:w.cell? ⟨g,o,none⟩=some (.slice a n c)) (c1:w.cell? ⟨g,o+1,none⟩=some (.int .i64 (s:Nat))) (hs:s<n) (hn:n≤4096) (hi:i≤4096) :
 Calls Tryz.prog 122 #[.pointer (some ⟨g,o,none⟩),.int .i64 (i:Nat)] w fun r w'=>r=.returned (.int .i64 (((s+i)%n:Nat):Int))∧∃ k,w'=w.drewN k:=by
 have w1:IntKind.i64.wrap ((s:Int)+(i:Int))=((s+i:Nat):Int):=wrapY20 (by omega) (by omega)
 obtain ⟨q,hq⟩:∃ q,q=s+i:=⟨_,rfl⟩;obtain ⟨m,hm⟩:∃ m,m=q%n:=⟨_,rfl⟩;have t1:=tmod20 q n;rw [←hm] at t1;rw [←hq] at w1;have hmn:m<n:=by rw [hm];exact Nat.mod_lt _ (by omega)
 have w2:IntKind.i64.wrap (m:Int)=(m:Int):=wrap20 (by omega)
 have n0:((n:Int)==0)=false:=by simp;omega
 have n1:(n:Int)≠0:=by omega
 have n2:n≠0:=by omega
 rw [←hq,←hm];clear hq hm;go_enter Tryz.func122,Tryz.ntmps122
 go_wp2_with fail
 go_quiet (fail)
 go_wp2
 try simp only [t1,w2,n0,n1]
 go_ret;exact ⟨by first | rfl | simp [t1,w2],_,rfl⟩
theorem firstI (g n c s b:Nat) (o:Nat) (R:List Nat) (w:World) (c0:w.cell? ⟨g,o,none⟩=some (.slice (some ⟨b,0,none⟩) n c)) (c1:w.cell? ⟨g,o+1,none⟩=some (.int .i64 (s:Nat))) (hR:Bl w b 3 (R.map I20)) (hn:R.length=n) (hs:s<n) :
 Calls Tryz.prog 86 #[.pointer (some ⟨g,o,none⟩)] w fun r w'=>r=.returned (.int .i64 ((R.getD s 0:Nat):Int))∧∃ k,w'=w.drewN k:=by
 have e:=elI hR s (by omega)
 have s1:(s:Int)<(n:Int):=by omega
 have s0:¬ ((s:Int)<0):=by omega
 clear hR hn;go_enter Tryz.func86,Tryz.ntmps86
 go_wp2_with fail
 go_quiet (fail)
 go_wp2;go_ret;exact ⟨rfl,_,rfl⟩
theorem dropFirstI (g n c s k T:Nat) (o:Nat) (a:Option Addr) (C:List Value) (w:World) (hC:Bl w g T C) (c0:C[o]?=some (.slice a n c)) (c1:C[(o+1)]?=some (I20 s)) (c2:C[(o+2)]?=some (I20 (k+1))) (hs:s<n) (hn:n≤4096) (hk:k≤4096) :
 Calls Tryz.prog 89 #[.pointer (some ⟨g,o,none⟩)] w fun r w'=>r=.returned (.tuple #[])∧Bl w' g T ((C.set (o+1) (I20 ((s+1)%n))).set (o+2) (I20 k))∧But g w w':=by
 have HP:=hid (placeI g n c s 1 o a w (hC.cell _ _ c0) (hC.cell _ _ c1) hs hn (by decide))
 have d2:=hC.cell _ _ c2;have f1:=hC.frozen (o+1);have f2:=hC.frozen (o+2);have d1:=hC.cell _ _ c1;have HC:=qsd hC;have wk:IntKind.i64.wrap (((k+1:Nat):Int)-1)=(k:Int):=wrapY20 (by omega) (by omega)
 obtain ⟨k1,hk1⟩:∃ k1,k1=k+1:=⟨_,rfl⟩;obtain ⟨m,hm⟩:∃ m,m=(s+1)%n:=⟨_,rfl⟩;have d2':w.cell? ⟨g,o+2,none⟩=some (.int .i64 (k1:Nat)):=by rw [hk1];exact d2
 rw [←hk1] at wk;rw [←hm] at HP ⊢;clear hC c0 c1 c2 d2 hk1 hm;go_enter Tryz.func89,Tryz.ntmps89
 go_wp2_with fail
 refine HP.out.mono ?_;rintro r v ⟨rfl,j,rfl⟩;go_wp2;refine bodyPost_end (v:=.tuple #[]) (by simp [results,Tryz.results89,go_sem]) rfl ?_
 exact ⟨rfl,(((HC.out.drewN j).set _ _).set _ _),((((But.refl g w).drewN j).set _ _).set _ _)⟩
theorem pushI (g n c s k T b x:Nat) (o:Nat) (R:List Nat) (C:List Value) (w:World) (hC:Bl w g T C) (c0:C[o]?=some (.slice (some ⟨b,0,none⟩) n c)) (c1:C[(o+1)]?=some (I20 s)) (c2:C[(o+2)]?=some (I20 k)) (hR:Bl w b 3 (R.map I20)) (hl:R.length=n) (hgb:g≠b) (hs:s<n) (hn:n≤4096) (hk:k≤4096) :
 Calls Tryz.prog 94 #[.pointer (some ⟨g,o,none⟩),.int .i64 (x:Nat)] w fun r w'=>r=.returned (I20 ((s+k)%n))∧Bl w' g T (C.set (o+2) (I20 (k+1)))∧Bl w' b 3 ((R.map I20).set ((s+k)%n) (.int .i64 (x:Nat)))∧(∃ v,But b w v∧But g v w'):=by
 have HP:=hid (placeI g n c s k o (some ⟨b,0,none⟩) w (hC.cell _ _ c0) (hC.cell _ _ c1) hs hn hk);have d0:=hC.cell _ _ c0;have d2:=hC.cell _ _ c2;have f2:=hC.frozen (o+2);obtain ⟨m,hm⟩:∃ m,m=(s+k)%n:=⟨_,rfl⟩;have hmn:m<n:=by rw [hm];exact Nat.mod_lt _ (by omega)
 have e1:=elI hR m (by omega)
 have f1:=hR.frozen m;have HC:=qsd (ai hC hR);have wk:IntKind.i64.wrap ((k:Int)+1)=((k+1:Nat):Int):=wrapY20 (by omega) (by omega)
 obtain ⟨k1,hk1⟩:∃ k1,k1=k+1:=⟨_,rfl⟩;have d2':w.cell? ⟨g,o+2,none⟩=some (.int .i64 (k:Nat)):=d2;rw [←hk1] at wk ⊢;rw [←hm] at HP ⊢;have s1:(m:Int)<(n:Int):=by omega
 have s0:¬ ((m:Int)<0):=by omega
 have hbg:b≠g:=fun e=>hgb e.symm
 clear hC c0 c1 c2 d2 hk1 hm hR;go_enter Tryz.func94,Tryz.ntmps94
 go_wp2_with fail
 refine HP.out.mono ?_;rintro r v ⟨rfl,j,rfl⟩;go_wp2;go_ret;exact ⟨rfl,(((HC.out.1.drewN j).but ((But.refl b _).set m _) hgb).set _ _),(((HC.out.2.drewN j).set m _).but ((But.refl g _).set _ _) hbg),_,(((But.refl b w).drewN j).set m _),((But.refl g _).set _ _)⟩
theorem dropLastI (g k T:Nat) (o:Nat) (C:List Value) (w:World) (hC:Bl w g T C) (c2:C[(o+2)]?=some (I20 (k+1))) (hk:k≤4096) :
 Calls Tryz.prog 93 #[.pointer (some ⟨g,o,none⟩)] w fun r w'=>r=.returned (.tuple #[])∧Bl w' g T (C.set (o+2) (I20 k))∧But g w w':=by
 have d2:=hC.cell _ _ c2;have f2:=hC.frozen (o+2);have HC:=qsd hC;have wk:IntKind.i64.wrap (((k+1:Nat):Int)-1)=(k:Int):=wrapY20 (by omega) (by omega)
 obtain ⟨k1,hk1⟩:∃ k1,k1=k+1:=⟨_,rfl⟩;have d2':w.cell? ⟨g,o+2,none⟩=some (.int .i64 (k1:Nat)):=by rw [hk1];exact d2
 rw [←hk1] at wk;clear hC c2 d2 hk1;go_enter Tryz.func93,Tryz.ntmps93;go_wp2;refine bodyPost_end (v:=.tuple #[]) (by simp [results,Tryz.results93,go_sem]) rfl ?_
 exact ⟨rfl,HC.out.set _ _,(But.refl g w).set _ _⟩
theorem lastI (g n c s k b:Nat) (o:Nat) (R:List Nat) (w:World) (c0:w.cell? ⟨g,o,none⟩=some (.slice (some ⟨b,0,none⟩) n c)) (c1:w.cell? ⟨g,o+1,none⟩=some (.int .i64 (s:Nat))) (c2:w.cell? ⟨g,o+2,none⟩=some (.int .i64 ((k+1:Nat):Int))) (hR:Bl w b 3 (R.map I20)) (hl:R.length=n) (hs:s<n) (hn:n≤4096) (hk:k≤4096) :
 Calls Tryz.prog 92 #[.pointer (some ⟨g,o,none⟩)] w fun r w'=>r=.returned (.int .i64 ((R.getD ((s+k)%n) 0:Nat):Int))∧∃ k,w'=w.drewN k:=by
 have HP:=hid (fun j:Nat=>placeI g n c s k o (some ⟨b,0,none⟩) (w.drewN j) c0 c1 hs hn hk)
 obtain ⟨m,hm⟩:∃ m,m=(s+k)%n:=⟨_,rfl⟩;have hmn:m<n:=by rw [hm];exact Nat.mod_lt _ (by omega)
 have e1:=elI hR m (by omega)
 obtain ⟨xv,hxv⟩:∃ v,v=R.getD m 0:=⟨_,rfl⟩;rw [←hxv] at e1;have wk:IntKind.i64.wrap (((k+1:Nat):Int)-1)=(k:Int):=wrapY20 (by omega) (by omega)
 obtain ⟨k1,hk1⟩:∃ k1,k1=k+1:=⟨_,rfl⟩;rw [←hk1] at wk c2;rw [←hm] at HP ⊢;rw [←hxv];clear hxv;have s1:(m:Int)<(n:Int):=by omega
 have s0:¬ ((m:Int)<0):=by omega
 clear hk1 hm hR;go_enter Tryz.func92,Tryz.ntmps92
 go_wp2_with fail
 go_quiet (first | (go_at_call 122;exact Calls.quiet_of (HP.out _)))
 go_wp2;go_ret;exact ⟨rfl,_,rfl⟩
end
section
open Go.RowKit J
namespace B
attribute [local go_sem] fld1
theorem Class20 (s:Bool) (e f:Nat) (he:e<2048) (hf:f<4503599627370496) (w:World) :
 Calls Tryz.prog 91 #[.float .f64 (bw s e f)] w fun r w'=>r=.returned (.int .i64 (cls e f))∧Below w.heap.size w w':=by
 go_enter Tryz.func91,Tryz.ntmps91
 go_wp2_with (go_at_call 110;refine (Split_any s e f he hf _).mono ?_;rintro r w1 ⟨rfl,hb⟩)
 go_ret;exact ⟨rfl,hb⟩
end B
def tk20 (x:Nat):Int:=if 9218868437227405312<magW x then 9221120237041090560 else if negW x then -1-(magW x:Int) else magW x
theorem bw20 {x:Nat}(hx:x<18446744073709551616):∃ s e f,e<2048∧f<4503599627370496∧x=B.bw s e f∧s=negW x∧e=magW x/4503599627370496∧f=magW x%4503599627370496:=by
 have hm:magW x<9223372036854775808:=by unfold magW;omega
 refine ⟨negW x,magW x/4503599627370496,magW x%4503599627370496,by omega,by omega,?_,rfl,rfl,rfl⟩
 unfold B.bw negW magW at *
 by_cases h:9223372036854775808≤x
 · rw [decide_eq_true h];simp only [Bool.toNat_true];omega
 · rw [decide_eq_false h];simp only [Bool.toNat_false];omega
theorem ky_tk20 {x:Nat}(hx:x<18446744073709551616):B.ky (negW x) (magW x/4503599627370496) (magW x%4503599627370496)=tk20 x:=by
 have hm:magW x<9223372036854775808:=by unfold magW;omega
 have e:((magW x/4503599627370496:Nat):Int)*4503599627370496+(magW x%4503599627370496:Nat)=(magW x:Int):=by omega
 unfold B.ky tk20
 by_cases h:9218868437227405312<magW x
 · rw [if_pos h,if_pos (by omega)]
 · rw [if_neg h,if_neg (by omega),e]
theorem order20 {x y:Nat}(hx:x<18446744073709551616) (hy:y<18446744073709551616) (w:World) :
 Calls Tryz.prog 5 #[.float .f64 x,.float .f64 y] w fun r w'=>r=.returned (.int .i64 (B.oc (tk20 x) (tk20 y)))∧w'=w:=by
 obtain ⟨s,e,f,h1,h2,h3,rfl,rfl,rfl⟩:=bw20 hx;obtain ⟨t,u,v,i1,i2,i3,rfl,rfl,rfl⟩:=bw20 hy;have h:=B.order_any (negW x) (negW y) _ _ _ _ h1 h2 i1 i2 w;rw [ky_tk20 hx,ky_tk20 hy,←h3,←i3] at h;exact h
theorem class20 {x:Nat}(hx:x<18446744073709551616) (w:World) :
 Calls Tryz.prog 91 #[.float .f64 x] w fun r w'=>(∃ c:Int,r=.returned (.int .i64 c)∧(c==4)=nanW x)∧Below w.heap.size w w':=by
 obtain ⟨s,e,f,h1,h2,h3,h4,h5,h6⟩:=bw20 hx;have hm:magW x<9223372036854775808:=by unfold magW;omega
 have h:=B.Class20 s e f h1 h2 w;rw [←h3] at h;refine h.mono fun r w' ⟨hr,hb⟩=>⟨⟨_,hr,?_⟩,hb⟩
 rw [Bool.eq_iff_iff,beq_iff_eq]
 show B.cls e f=4↔decide (9218868437227405312<magW x)=true
 rw [decide_eq_true_eq];unfold B.cls;subst h5 h6
 constructor
 · intro h
   split at h
   · split at h
     · omega
     · omega
   · split at h
     · split at h <;> omega
     · omega
 · intro h
   rw [if_pos (by omega),if_neg (by omega)]
def sP20 (x:Nat):Int:=sK (negW x) (magW x)
abbrev nn20 (x:Nat):Prop:=magW x≤9218868437227405312
theorem nn_iff20 (x:Nat):nanW x=false↔nn20 x:=by
 show decide (9218868437227405312<magW x)=false↔magW x≤9218868437227405312
 rw [decide_eq_false_iff_not];omega
theorem wd_own20 (x:Nat) (hx:x<18446744073709551616):wd64 (negW x) (magW x)=x:=by
 unfold wd64 negW magW
 by_cases h:9223372036854775808≤x <;> simp [h] <;> omega
theorem eq20 {x y:Nat}(hx:x<18446744073709551616) (hy:y<18446744073709551616) (fx:nn20 x) (fy:nn20 y):(FloatKind.f64.format.order x y==some .eq)=decide (sP20 x=sP20 y):=by
 have h:=eq64 (negW x) (negW y) (magW x) (magW y) fx fy;rw [wd_own20 x hx,wd_own20 y hy] at h;exact h
theorem nanL20 (x y:Nat) (h:9218868437227405312<magW x) (o:Ordering):(FloatKind.f64.format.order x y==some o)=false:=by
 obtain ⟨s,t,hr⟩:=read_nanW x h
 show ((Ieee.double.read x).order (Ieee.double.read y)==some o)=false
 rw [hr]
 cases Ieee.double.read y <;> rfl
attribute [local go_sem] st_float
structure Ch2 (g h:Nat) (w w':World):Prop where
 os:w'.os=w.os
 tape:w'.tape=w.tape
 output:w'.output=w.output
 size:w.heap.size≤w'.heap.size
 block:∀ k,k<w.heap.size→k≠g→k≠h→w'.heap[k]?=w.heap[k]?
theorem Ch2.refl (g h:Nat) (w:World):Ch2 g h w w:=⟨rfl,rfl,rfl,Nat.le_refl _,fun _ _ _ _=>rfl⟩
theorem Ch2.trans {g h:Nat}{a b c:World}(p:Ch2 g h a b) (q:Ch2 g h b c):Ch2 g h a c :=
 ⟨q.os.trans p.os,q.tape.trans p.tape,q.output.trans p.output,Nat.le_trans p.size q.size,fun k hk h1 h2=>(q.block k (Nat.lt_of_lt_of_le hk p.size) h1 h2).trans (p.block k hk h1 h2)⟩
theorem But.ch2 {g h:Nat}{a b:World}(p:But g a b):Ch2 g h a b:=⟨p.os,p.tape,p.output,p.size,fun k hk h1 _=>p.block k hk h1⟩
theorem But.ch2' {g h:Nat}{a b:World}(p:But h a b):Ch2 g h a b:=⟨p.os,p.tape,p.output,p.size,fun k hk _ h2=>p.block k hk h2⟩
theorem Ch2.below {g h:Nat}{a b c:World}(p:Ch2 g h a b) (q:Below b.heap.size b c):Ch2 g h a c :=
 ⟨q.os.trans p.os,q.tape.trans p.tape,q.output.trans p.output,Nat.le_trans p.size q.size,fun k hk h1 h2=>(q.block k (Nat.lt_of_lt_of_le hk p.size)).trans (p.block k hk h1 h2)⟩
theorem Bl.ch2 {w w':World}{g h b T:Nat}{C:List Value}(hb:Bl w b T C) (p:Ch2 g h w w') (h1:b≠g) (h2:b≠h):Bl w' b T C:=by
 unfold Bl at hb ⊢;rw [p.block b (Bl.lt hb) h1 h2];exact hb
abbrev plc20 (s n:Nat) (J:List Nat):List Nat:=J.map fun i=>(s+i)%n
theorem plc_get {s n:Nat}{J:List Nat}{t:Nat}(h:t<J.length):(plc20 s n J).getD t 0=(s+J.getD t 0)%n:=by
 simp [plc20,List.getD_eq_getElem?_getD,h]
abbrev IsAt (L:List Nat) (s n:Nat) (xs:List Nat):Prop:=∀ i,i<xs.length→L.getD ((s+i)%n) 0=xs.getD i 0
theorem leave20 (g n sl cl b T o s:Nat) (R:List Nat) (J JZ:List Nat) (C:List Value) (w:World) (hC:Bl w g T C) (c0:C[o]?=some (.slice (some ⟨b,0,none⟩) n n)) (c1:C[o+1]?=some (I20 sl)) (c2:C[o+2]?=some (I20 cl)) (hR:Bl w b 3 (R.map I20)) (hl:R.length=n) (hgb:g≠b) (hs:s<n) (hsl:sl<n) (hn:n≤4096) (hcl:cl≤n)
 (hJ:rg R sl cl=plc20 s n J) (hJn:∀ i ∈ J,i<n) (hJZ:JZ=if J.head?=some 0 then J.tail else J) :
 Calls Tryz.prog 54 #[.pointer (some ⟨g,o,none⟩),.int .i64 (s:Nat)] w fun r w'=>r=.returned (.tuple #[])∧∃ sl' cl':Nat,Bl w' g T ((C.set (o+1) (I20 sl')).set (o+2) (I20 cl'))∧But g w w'∧sl'<n∧cl'≤n∧rg R sl' cl'=plc20 s n JZ:=by
 have jl:J.length=cl:=by have:=congrArg List.length hJ;rw [rg_len] at this;simpa using this.symm
 have d0:=hC.cell _ _ c0;have d1:=hC.cell _ _ c1;have d2:=hC.cell _ _ c2;have HF:=hid (fun j:Nat=>firstI g n n sl b o R (w.drewN j) d0 d1 hR hl hsl)
 rcases Nat.eq_zero_or_pos cl with e|e
 · subst e
   have:J=[]:=List.eq_nil_of_length_eq_zero jl;subst this;have d2':w.cell? ⟨g,o+2,none⟩=some (.int .i64 0):=d2
   have HC:Aside (Bl w g T ((C.set (o+1) (I20 sl)).set (o+2) (I20 0))):=by
    have e1:C.set (o+1) (I20 sl)=C:=by
     obtain ⟨h,q⟩:=List.getElem?_eq_some_iff.1 c1;rw [←q];exact List.set_getElem_self h
    have e2:C.set (o+2) (I20 0)=C:=by
     obtain ⟨h,q⟩:=List.getElem?_eq_some_iff.1 c2;rw [←q];exact List.set_getElem_self h
    rw [e1,e2];exact hC
   have HX:=(qsd (ai hsl (ai hJ hJZ)));clear hC c0 c1 c2 hR d0 d1 d2 hJ HF hJZ;go_enter Tryz.func54,Tryz.ntmps54;go_wp2;refine bodyPost_end (v:=.tuple #[]) (by simp [results,Tryz.results54,go_sem]) rfl ?_
   exact ⟨rfl,sl,0,HC.out,But.refl g w,HX.out.1,Nat.zero_le _,by rw [HX.out.2.2];simpa using HX.out.2.1⟩
 · obtain ⟨k,rfl⟩:∃ k,cl=k+1:=⟨cl-1,by omega⟩
   have hc1:0<(k+1:Nat):=by omega
   obtain ⟨i,J',rfl⟩:∃ i J',J=i::J':=by
    cases J with
    | nil=>simp at jl
    | cons i J'=>exact ⟨i,J',rfl⟩
   have hin:=hJn i List.mem_cons_self;rw [rg_first (by omega)] at hJ
   simp only [plc20,List.map_cons,List.cons.injEq] at hJ;obtain ⟨hq,hJ2⟩:=hJ;have HD:=hid (fun j:Nat=>dropFirstI g n n sl k T o (some ⟨b,0,none⟩) C (w.drewN j) hC c0 c1 c2 hsl hn (by omega))
   obtain ⟨v,hv⟩:∃ v,v=R.getD sl 0:=⟨_,rfl⟩;rw [←hv] at HF hq
   have eqz:i=0↔v=s:=by
    rw [hq]
    constructor
    · rintro rfl;exact Nat.mod_eq_of_lt (by omega)
    · intro h
      rcases Nat.eq_zero_or_pos i with c|c
      · exact c
      · exact absurd h (by have:=mod_ne20 (n:=n) (s:=s) (i:=0) (c:=i) hs c hin;rw [Nat.add_zero,Nat.mod_eq_of_lt hs] at this;exact fun h=>this h.symm)
   obtain ⟨k1,hk1⟩:∃ k1,k1=k+1:=⟨_,rfl⟩;have d2':w.cell? ⟨g,o+2,none⟩=some (.int .i64 (k1:Nat)):=by rw [hk1];exact d2
   have p1:decide ((0:Int)<(k1:Int))=true:=by simp;omega
   have p2:(0:Int)<(k1:Int):=by omega
   have p3:0<k1:=by omega
   by_cases e:i=0
   · have ev:v=s:=eqz.1 e
     have HX:=(qsd (ai hJ2 (ai e (ai hl (ai hk1 (ai hcl hJZ))))));have s1:((s:Int)==(s:Int))=true:=by simp
     rw [ev] at HF;clear hC c0 c1 c2 hR d0 d1 d2 hJ2 hq eqz hk1 hJn jl hv hc1 ev e hJZ;go_enter Tryz.func54,Tryz.ntmps54
     go_wp2_with fail
     refine (HF.out 0).mono ?_;rintro r v1 ⟨rfl,j,rfl⟩
     go_wp2_with fail
     refine (HD.out j).mono ?_;rintro r v2 ⟨rfl,h1,h2⟩;have HZ:=(qsd (ai h1 h2));clear h1 h2 HF HD;go_wp2;refine bodyPost_end (v:=.tuple #[]) (by simp [results,Tryz.results54,go_sem]) rfl ?_
     refine ⟨rfl,(sl+1)%n,k,HZ.out.1,⟨HZ.out.2.os,HZ.out.2.tape,HZ.out.2.output,HZ.out.2.size,HZ.out.2.block⟩,Nat.mod_lt _ (by omega),by have:=HX.out;omega,?_⟩
     rw [HX.out.2.2.2.2.2,HX.out.2.1];simp only [List.head?_cons,if_true,List.tail_cons];have hh:=HX.out.1;rw [HX.out.2.2.1] at hh;exact hh
   · have ev:v≠s:=fun h=>e (eqz.2 h)
     have s1:((v:Int)==(s:Int))=false:=by simp;omega
     have HC:Aside (Bl w g T ((C.set (o+1) (I20 sl)).set (o+2) (I20 k1))):=by
      have e1:C.set (o+1) (I20 sl)=C:=by
       obtain ⟨h,q⟩:=List.getElem?_eq_some_iff.1 c1;rw [←q];exact List.set_getElem_self h
      have e2:C.set (o+2) (I20 k1)=C:=by
       rw [←hk1] at c2;obtain ⟨h,q⟩:=List.getElem?_eq_some_iff.1 c2;rw [←q];exact List.set_getElem_self h
      rw [e1,e2];exact hC
     have HX:=(qsd (ai hJ2 (ai e (ai hl (ai hk1 (ai hcl (ai hsl (ai hv (ai hq hJZ)))))))));clear hC c0 c1 c2 hR d0 d1 d2 hJ2 hq eqz hk1 hJn jl hv hc1 ev e HD hJZ;go_enter Tryz.func54,Tryz.ntmps54
     go_wp2_with fail
     refine (HF.out 0).mono ?_;rintro r v1 ⟨rfl,j,rfl⟩;go_wp2;refine bodyPost_end (v:=.tuple #[]) (by simp [results,Tryz.results54,go_sem]) rfl ?_
     obtain ⟨x1,x2,x3,x4,x5,x6,x7,x8,x9⟩:=HX.out;refine ⟨rfl,sl,k1,HC.out,⟨rfl,rfl,rfl,Nat.le_refl _,fun _ _ _=>rfl⟩,x6,by omega,?_⟩
     rw [x9,if_neg (by simpa using x2),x4,rg_first (by omega),x1,←x7,x8]
     rfl
end
end Go.Proofs.YthejkolknalpaaaGreatDoor
