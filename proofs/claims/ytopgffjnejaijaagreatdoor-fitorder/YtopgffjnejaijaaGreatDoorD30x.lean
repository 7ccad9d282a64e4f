import Derived.Test.YtopgffjnejaijaaGreatDoorD15x
import Derived.Deep.Cut
import Derived.Deep.RegionHeld3
import Derived.Test.YtopgffjnejaijaaGreatDoorD20x
import Derived.Deep.RegionWith
import Derived.Deep.CutRange
import Derived.Test.YtopgffjnejaijaaGreatDoorW8x
import Derived.BigQuiet
import Derived.Test.YtopgffjnejaijaaGreatDoorM1x
import Ieee.Arith
import Derived.Test.YtopgffjnejaijaaGreatDoorD4x
import Derived.Laws.Bits64
import Derived.Laws.Bits64b
import Derived.Test.YtopgffjnejaijaaGreatDoorW18x
import Derived.Deep.MidRow
import Derived.ChangeKeysEq
set_option linter.unusedVariables false
set_option linter.unusedSimpArgs false
set_option maxHeartbeats 16000000
set_option maxRecDepth 20000
namespace Go.Proofs.YtopgffjnejaijaaGreatDoor
namespace J
end J
section
open Go.RowKit
theorem mul_res (W:World) (g:Nat) (n:Bool) (v:Value) (e k:Int) (tmps:Array Value) (ht:tmps[4]?.getD undef=.pointer (some ⟨g,0,none⟩)) (hk:tmps[5]?.getD undef=.int .i64 k) (D:Dk W g n v e) :
 (results Tryz.f17 tmps).run Tryz.prog W=.ok (.tuple #[.agg #[.bool n,v,.int .i64 e],.int .i64 k]) W:=by
 obtain ⟨x0,x1,x2,xf0,xf1,xf2⟩:=D.facts;simp [results,Tryz.results17,ht,hk,go_sem,x0,x1,x2]
theorem mul_bad {w:World}{a b:Option Addr}{l c k d:Nat}(n m:Bool) (e f:Int) (HFM:Hid (∀ u,Below w.heap.size w u→Calls Tryz.prog 36 #[.agg #[.bool n,.slice a l c,.int .i64 e],.agg #[.bool m,.slice b k d,.int .i64 f]] u fun r w'=>r=.returned (.tuple #[.agg #[.bool false,.slice none 0 0,.int .i64 0],.agg #[.bool false,.slice none 0 0,.int .i64 0],.int .i64 2])∧Below u.heap.size u w')):Calls Tryz.prog 17 #[.agg #[.bool n,.slice a l c,.int .i64 e],.agg #[.bool m,.slice b k d,.int .i64 f]] w fun r w'=>r=.returned (.tuple #[.agg #[.bool false,.slice none 0 0,.int .i64 0],.int .i64 2])∧Below w.heap.size w w':=by
 obtain ⟨W1,hW1⟩:∃ W,W=((w.alloc (.cells #[.bool n,.slice a l c,.int .i64 e] 42)).alloc (.cells #[.bool m,.slice b k d,.int .i64 f] 42)).alloc (.cells #[.bool false,.slice none 0 0,.int .i64 0] 42):=⟨_,rfl⟩;obtain ⟨hB,hz1,DA,DB,DR⟩:=add_begin w n m (.slice a l c) (.slice b k d) e f W1 hW1;have H1:=hid (HFM.out W1 hB);have SB:=(qsd (ai hB (ai hz1 (ai DA (ai DB DR)))));clear hB hz1 DA DB DR HFM;go_enter Tryz.func17,Tryz.ntmps17
 go_wp2_with fail
 rw [←hW1];clear hW1;refine H1.out.mono ?_;rintro r u1 ⟨rfl,hb⟩;obtain ⟨hB,hz1,DA,DB,DR⟩:=SB.out;have EA:=DA.below hb;have EB:=DB.below hb;have ER:=DR.below hb;obtain ⟨x0,x1,x2,xf0,xf1,xf2⟩:=EA.facts;obtain ⟨y0,y1,y2,yf0,yf1,yf2⟩:=EB.facts;obtain ⟨r0,r1,r2,rf0,rf1,rf2⟩:=ER.facts;have F1:=qsd (show Fin w.heap.size (w.heap.size+3) w u1 (.slice none 0 0) 0 from ⟨Nt.nil _ _,hB.trans (hb.mono (by omega)),by have:=hb.size;omega⟩)
 have SE:=qsd ER;clear hb H1 hB hz1 DA DB DR EA EB ER SB;go_wp2;refine bodyPost_ret (mul_res _ (w.heap.size+1+1) false (.slice none 0 0) 0 2 _ rfl rfl (((SE.out.other _ (by omega) _ _ _).other _ (by omega) _ _ _).set _ _ _)) rfl ⟨rfl,?_⟩
 refine Fin.bel (m:=w.heap.size+3) (v:=.slice none 0 0) (X:=0) ?_
 repeat (with_reducible first | exact F1.out | refine Fin.drew ?_ | refine Fin.alloc ?_ _ | refine Fin.set ?_ _ _ _ (by omega) (by omega))
theorem mul_long {w:World}{a b:Option Addr}{l c k d:Nat}(n m:Bool) (e f:Int) (n1 m1:Bool) (X Y:Nat) (e1 f1:Int) (lX:(ws X).length≤8192) (lY:(ws Y).length≤8192) (be0:-1048576≤e1) (be1:e1≤1048576) (bf0:-1048576≤f1) (bf1:f1≤1048576)
 (HFM:Hid (∀ u,Below w.heap.size w u→Calls Tryz.prog 36 #[.agg #[.bool n,.slice a l c,.int .i64 e],.agg #[.bool m,.slice b k d,.int .i64 f]] u fun r w'=>∃ v v',r=.returned (.tuple #[.agg #[.bool n1,v,.int .i64 e1],.agg #[.bool m1,v',.int .i64 f1],.int .i64 0])∧Nt u.heap.size w' v X∧Nt u.heap.size w' v' Y∧Below u.heap.size u w'))
 (HSH:Hid (∀ (u:World) (p:Option Addr) (q:Nat) (p2:Option Addr) (q2:Nat),Below w.heap.size w u→Arg u p (ws X).length q (ws X)→Arg u p2 (ws Y).length q2 (ws Y)→Calls Tryz.prog 37 #[.slice p (ws X).length q,.slice p2 (ws Y).length q2] u fun r w'=>∃ v,r=.returned (.tuple #[v,.int .i64 2])∧Nt u.heap.size w' v 0∧Below u.heap.size u w')):Calls Tryz.prog 17 #[.agg #[.bool n,.slice a l c,.int .i64 e],.agg #[.bool m,.slice b k d,.int .i64 f]] w fun r w'=>r=.returned (.tuple #[.agg #[.bool false,.slice none 0 0,.int .i64 0],.int .i64 2])∧Below w.heap.size w w':=by
 have l0:(ws 0).length=0:=by rw [ws_zero];rfl
 obtain ⟨W1,hW1⟩:∃ W,W=((w.alloc (.cells #[.bool n,.slice a l c,.int .i64 e] 42)).alloc (.cells #[.bool m,.slice b k d,.int .i64 f] 42)).alloc (.cells #[.bool false,.slice none 0 0,.int .i64 0] 42):=⟨_,rfl⟩;obtain ⟨hB,hz1,DA,DB,DR⟩:=add_begin w n m (.slice a l c) (.slice b k d) e f W1 hW1;have H1:=hid (HFM.out W1 hB);have SB:=(qsd (ai hB (ai hz1 (ai DA (ai DB DR)))));clear hB hz1 DA DB DR HFM;go_enter Tryz.func17,Tryz.ntmps17
 go_wp2_with fail
 rw [←hW1];clear hW1;refine H1.out.mono ?_;rintro r u1 ⟨v,v',rfl,hN,hM,hb⟩;obtain ⟨a1,c1,rfl,_⟩:=hN.arg (by omega)
 obtain ⟨a2,c2,rfl,_⟩:=hM.arg (by omega)
 obtain ⟨hB,hz1,DA,DB,DR⟩:=SB.out;have EA:=DA.below hb;have EB:=DB.below hb;have ER:=DR.below hb;obtain ⟨x0,x1,x2,xf0,xf1,xf2⟩:=EA.facts;obtain ⟨y0,y1,y2,yf0,yf1,yf2⟩:=EB.facts;obtain ⟨r0,r1,r2,rf0,rf1,rf2⟩:=ER.facts;have FX:=qsd (show Fin w.heap.size (w.heap.size+3) w u1 (.slice a1 (ws X).length c1) X from ⟨by rw [←hz1];exact hN,hB.trans (hb.mono (by omega)),by have:=hb.size;omega⟩)
 have FY:=qsd (show Fin w.heap.size (w.heap.size+3) w u1 (.slice a2 (ws Y).length c2) Y from ⟨by rw [←hz1];exact hM,hB.trans (hb.mono (by omega)),by have:=hb.size;omega⟩)
 have SE:=(qsd (ai EA (ai EB ER)));clear hN hM hb H1 hB hz1 DA DB DR EA EB ER SB;obtain ⟨EA,EB,ER⟩:=SE.out;obtain ⟨U1,hU1⟩:∃ U,U=st3 (st3 u1 w.heap.size (.bool n1) (.slice a1 (ws X).length c1) (.int .i64 e1)) (w.heap.size+1) (.bool m1) (.slice a2 (ws Y).length c2) (.int .i64 f1):=⟨_,rfl⟩;have IA:Dk U1 w.heap.size n1 (.slice a1 (ws X).length c1) e1:=by rw [hU1];exact ((EA.set _ _ _).other _ (by omega) _ _ _)
 have IB:Dk U1 (w.heap.size+1) m1 (.slice a2 (ws Y).length c2) f1:=by rw [hU1];exact ((EB.other _ (by omega) _ _ _).set _ _ _)
 have IR:Dk U1 (w.heap.size+1+1) false (.slice none 0 0) 0:=by rw [hU1];exact ((ER.other _ (by omega) _ _ _).other _ (by omega) _ _ _)
 have GX:Fin w.heap.size (w.heap.size+3) w U1 (.slice a1 (ws X).length c1) X:=by rw [hU1];exact (Fin.st3 (Fin.st3 FX.out _ _ _ _ (by omega) (by omega)) _ _ _ _ (by omega) (by omega))
 have GY:Fin w.heap.size (w.heap.size+3) w U1 (.slice a2 (ws Y).length c2) Y:=by rw [hU1];exact (Fin.st3 (Fin.st3 FY.out _ _ _ _ (by omega) (by omega)) _ _ _ _ (by omega) (by omega))
 have H2:=hid (HSH.out U1 a1 c1 a2 c2 GX.bel (GX.nt.arg' (by omega)).2 (GY.nt.arg' (by omega)).2)
 have S1:=(qsd (ai IA (ai IB (ai IR (ai GX GY)))));have hzU:w.heap.size+3≤U1.heap.size:=by have:=IR.lt;omega
 clear EA EB ER IA IB IR GX GY SE HSH;unfold st3 at hU1
 go_wp2_with fail
 rw [←hU1];clear hU1 x0 x1 x2 xf0 xf1 xf2 y0 y1 y2 yf0 yf1 yf2 r0 r1 r2 rf0 rf1 rf2;refine H2.out.mono ?_;rintro r u2 ⟨v,rfl,hN,hb⟩;obtain ⟨a3,c3,rfl,_⟩:=hN.arg (by omega)
 obtain ⟨IA,IB,IR,GX,GY⟩:=S1.out;obtain ⟨x0,x1,x2,xf0,xf1,xf2⟩:=(IA.below hb).facts;obtain ⟨y0,y1,y2,yf0,yf1,yf2⟩:=(IB.below hb).facts;obtain ⟨r0,r1,r2,rf0,rf1,rf2⟩:=(IR.below hb).facts;have S2:=(qsd (ai (IR.below hb) ((GX.below hb))));clear hN hb H2 S1 IA IB IR GX GY;go_wp2;refine bodyPost_ret (mul_res _ (w.heap.size+1+1) false (.slice none 0 0) 0 2 _ rfl rfl (S2.out.1.set _ _ _)) rfl ⟨rfl,?_⟩;refine Fin.bel (m:=w.heap.size+3) (v:=.slice a1 (ws X).length c1) (X:=X) ?_
 repeat (with_reducible first | exact S2.out.2 | refine Fin.drew ?_ | refine Fin.alloc ?_ _ | refine Fin.set ?_ _ _ _ (by omega) (by omega))
theorem mul_ok {w:World}{a b:Option Addr}{l c k d:Nat}(n m:Bool) (e f:Int) (n1 m1:Bool) (X Y:Nat) (e1 f1:Int) (lX:(ws X).length≤8192) (lY:(ws Y).length≤8192) (be0:-1048576≤e1) (be1:e1≤1048576) (bf0:-1048576≤f1) (bf1:f1≤1048576)
 (HFM:Hid (∀ u,Below w.heap.size w u→Calls Tryz.prog 36 #[.agg #[.bool n,.slice a l c,.int .i64 e],.agg #[.bool m,.slice b k d,.int .i64 f]] u fun r w'=>∃ v v',r=.returned (.tuple #[.agg #[.bool n1,v,.int .i64 e1],.agg #[.bool m1,v',.int .i64 f1],.int .i64 0])∧Nt u.heap.size w' v X∧Nt u.heap.size w' v' Y∧Below u.heap.size u w')) (L:Nat) (lL:(ws L).length≤8192) (dn:Bool) (V:Nat) (de er:Int) (lV:(ws V).length≤8192)
 (HSH:Hid (∀ (u:World) (p:Option Addr) (q:Nat) (p2:Option Addr) (q2:Nat),Below w.heap.size w u→Arg u p (ws X).length q (ws X)→Arg u p2 (ws Y).length q2 (ws Y)→Calls Tryz.prog 37 #[.slice p (ws X).length q,.slice p2 (ws Y).length q2] u fun r w'=>∃ v,r=.returned (.tuple #[v,.int .i64 0])∧Nt u.heap.size w' v L∧Below u.heap.size u w'))
 (HT:Hid (∀ (u:World) (p:Option Addr) (s:Nat),Below w.heap.size w u→Arg u p (ws L).length s (ws L)→Calls Tryz.prog 34 #[.bool (n1 != m1),.slice p (ws L).length s,.int .i64 (e1+f1)] u fun r w'=>(∃ v,r=.returned (.tuple #[.agg #[.bool dn,v,.int .i64 de],.int .i64 er])∧Nt u.heap.size w' v V)∧Below u.heap.size u w')):Calls Tryz.prog 17 #[.agg #[.bool n,.slice a l c,.int .i64 e],.agg #[.bool m,.slice b k d,.int .i64 f]] w fun r w'=>(∃ v,r=.returned (.tuple #[.agg #[.bool dn,v,.int .i64 de],.int .i64 er])∧Nt w.heap.size w' v V)∧Below w.heap.size w w':=by
 obtain ⟨W1,hW1⟩:∃ W,W=((w.alloc (.cells #[.bool n,.slice a l c,.int .i64 e] 42)).alloc (.cells #[.bool m,.slice b k d,.int .i64 f] 42)).alloc (.cells #[.bool false,.slice none 0 0,.int .i64 0] 42):=⟨_,rfl⟩;obtain ⟨hB,hz1,DA,DB,DR⟩:=add_begin w n m (.slice a l c) (.slice b k d) e f W1 hW1;have H1:=hid (HFM.out W1 hB);have SB:=(qsd (ai hB (ai hz1 (ai DA (ai DB DR)))));clear hB hz1 DA DB DR HFM;go_enter Tryz.func17,Tryz.ntmps17
 go_wp2_with fail
 rw [←hW1];clear hW1;refine H1.out.mono ?_;rintro r u1 ⟨v,v',rfl,hN,hM,hb⟩;obtain ⟨a1,c1,rfl,_⟩:=hN.arg (by omega)
 obtain ⟨a2,c2,rfl,_⟩:=hM.arg (by omega)
 obtain ⟨hB,hz1,DA,DB,DR⟩:=SB.out;have EA:=DA.below hb;have EB:=DB.below hb;have ER:=DR.below hb;obtain ⟨x0,x1,x2,xf0,xf1,xf2⟩:=EA.facts;obtain ⟨y0,y1,y2,yf0,yf1,yf2⟩:=EB.facts;obtain ⟨r0,r1,r2,rf0,rf1,rf2⟩:=ER.facts;have FX:=qsd (show Fin w.heap.size (w.heap.size+3) w u1 (.slice a1 (ws X).length c1) X from ⟨by rw [←hz1];exact hN,hB.trans (hb.mono (by omega)),by have:=hb.size;omega⟩)
 have FY:=qsd (show Fin w.heap.size (w.heap.size+3) w u1 (.slice a2 (ws Y).length c2) Y from ⟨by rw [←hz1];exact hM,hB.trans (hb.mono (by omega)),by have:=hb.size;omega⟩)
 have SE:=(qsd (ai EA (ai EB ER)));clear hN hM hb H1 hB hz1 DA DB DR EA EB ER SB;obtain ⟨EA,EB,ER⟩:=SE.out;obtain ⟨U1,hU1⟩:∃ U,U=st3 (st3 u1 w.heap.size (.bool n1) (.slice a1 (ws X).length c1) (.int .i64 e1)) (w.heap.size+1) (.bool m1) (.slice a2 (ws Y).length c2) (.int .i64 f1):=⟨_,rfl⟩;have IA:Dk U1 w.heap.size n1 (.slice a1 (ws X).length c1) e1:=by rw [hU1];exact ((EA.set _ _ _).other _ (by omega) _ _ _)
 have IB:Dk U1 (w.heap.size+1) m1 (.slice a2 (ws Y).length c2) f1:=by rw [hU1];exact ((EB.other _ (by omega) _ _ _).set _ _ _)
 have IR:Dk U1 (w.heap.size+1+1) false (.slice none 0 0) 0:=by rw [hU1];exact ((ER.other _ (by omega) _ _ _).other _ (by omega) _ _ _)
 have GX:Fin w.heap.size (w.heap.size+3) w U1 (.slice a1 (ws X).length c1) X:=by rw [hU1];exact (Fin.st3 (Fin.st3 FX.out _ _ _ _ (by omega) (by omega)) _ _ _ _ (by omega) (by omega))
 have GY:Fin w.heap.size (w.heap.size+3) w U1 (.slice a2 (ws Y).length c2) Y:=by rw [hU1];exact (Fin.st3 (Fin.st3 FY.out _ _ _ _ (by omega) (by omega)) _ _ _ _ (by omega) (by omega))
 have H2:=hid (HSH.out U1 a1 c1 a2 c2 GX.bel (GX.nt.arg' (by omega)).2 (GY.nt.arg' (by omega)).2)
 have S1:=(qsd (ai IA (ai IB (ai IR (ai GX GY)))));have hzU:w.heap.size+3≤U1.heap.size:=by have:=IR.lt;omega
 clear EA EB ER IA IB IR GX GY SE HSH;unfold st3 at hU1
 go_wp2_with fail
 rw [←hU1];clear hU1 x0 x1 x2 xf0 xf1 xf2 y0 y1 y2 yf0 yf1 yf2 r0 r1 r2 rf0 rf1 rf2;refine H2.out.mono ?_;rintro r u2 ⟨v,rfl,hN,hb⟩;obtain ⟨a3,c3,rfl,_⟩:=hN.arg (by omega)
 obtain ⟨IA,IB,IR,GX,GY⟩:=S1.out;obtain ⟨x0,x1,x2,xf0,xf1,xf2⟩:=(IA.below hb).facts;obtain ⟨y0,y1,y2,yf0,yf1,yf2⟩:=(IB.below hb).facts;obtain ⟨r0,r1,r2,rf0,rf1,rf2⟩:=(IR.below hb).facts;have H3:=hid (HT.out u2 a3 c3 (GX.below hb).bel (hN.arg' (by omega)).2)
 have S2:=(qsd (ai (IR.below hb) ((GX.below hb))));have hz2:w.heap.size+3≤u2.heap.size:=by have:=hb.size;omega
 clear hN hb H2 S1 IA IB IR GX GY HT
 go_wp2_with fail
 refine H3.out.mono ?_;rintro r u3 ⟨⟨v,rfl,hN⟩,hb⟩;obtain ⟨a4,c4,rfl,_⟩:=hN.arg (by omega)
 have IR:=S2.out.1.below hb;obtain ⟨s0,s1,s2,sf0,sf1,sf2⟩:=IR.facts;have FV:=qsd (show Fin w.heap.size (w.heap.size+3) w u3 (.slice a4 (ws V).length c4) V from ⟨hN.mono hz2,(S2.out.2.below hb).bel,by have:=hb.size;omega⟩)
 have S3:=qsd IR;clear hN hb IR H3 S2;go_wp2;refine bodyPost_ret (mul_res _ (w.heap.size+1+1) dn (.slice a4 (ws V).length c4) de er _ rfl rfl (S3.out.set _ _ _)) rfl ?_;refine Fin.dans (m:=w.heap.size+3) ?_ (by omega)
 repeat (with_reducible first | exact FV.out | refine Fin.drew ?_ | refine Fin.alloc ?_ _ | refine Fin.set ?_ _ _ _ (by omega) (by omega))
def mulF (x y:Bool×Nat×Int):Option (Bool×Nat×Int):=mkS (x.1 != y.1) (x.2.1*y.2.1) (x.2.2+y.2.2)
def mulD (o p:Option (Bool×Nat×Int)):Option (Bool×Nat×Int) :=
 match o,p with
 | some x,some y=>mulF x y
 | _,_=>none
theorem Mul_one {w:World}{p q:Option Addr}{s t X Y:Nat}(L:Nat) (er:Int) (hA:Arg w p (ws X).length s (ws X)) (hB:Arg w q (ws Y).length t (ws Y)) (h:mulS X Y=(L,er)) :
 Calls Tryz.prog 37 #[.slice p (ws X).length s,.slice q (ws Y).length t] w fun r w'=>∃ v,r=.returned (.tuple #[v,.int .i64 er])∧Nt w.heap.size w' v L∧Below w.heap.size w w':=by
 have:=Mul_any (ws X) (ws Y) p q (ws X).length s (ws Y).length t w.heap.size w hA.len hB.len hA.cap hB.cap (by have:=hA.big;omega) (by have:=hB.big;omega) hA.wf hB.wf hA.rd hB.rd (Nat.le_refl _)
 rw [val_ws,val_ws,h] at this;exact this.mono fun r w' ⟨⟨v,h1,h2⟩,h3⟩=>⟨v,h1,h2,h3⟩
theorem lo_odd1 {X:Nat}(h:X%2=1):lo X=0:=by
 have:=lo_eq 0 (X/2);rw [show 2^0*(2*(X/2)+1)=X by omega] at this
 exact this
theorem Mul_any3 {w:World}{a b:Option Addr}{l c k d:Nat}{xs ys:List Nat}(h1:Arg w a l c xs) (h2:Arg w b k d ys) (hT:Tab w) (n m:Bool) (e f:Int) (he0:-9223372036854775808≤e) (he1:e≤9223372036854775807) (hf0:-9223372036854775808≤f) (hf1:f≤9223372036854775807) :
 Calls Tryz.prog 17 #[.agg #[.bool n,.slice a l c,.int .i64 e],.agg #[.bool m,.slice b k d,.int .i64 f]] w fun r w'=>DAns w.heap.size w' r (mulD (mkS n (val xs) e) (mkS m (val ys) f))∧Below w.heap.size w w':=by
 have zero:∀ {r:Ending} {w':World},(r=.returned (.tuple #[.agg #[.bool false,.slice none 0 0,.int .i64 0],.int .i64 2])∧Below w.heap.size w w')→DAns w.heap.size w' r none∧Below w.heap.size w w':=fun ⟨h1,h2⟩=>⟨⟨_,h1,Nt.nil _ _⟩,h2⟩
 cases hx:mkS n (val xs) e with
 | none =>
   exact (mul_bad n m e f (hid fun u hu=>forms_bad1 (h1.below hu) (h2.below hu) (hT.belows hu) n m e f he0 he1 hf0 hf1 hx)).mono fun r w' h=>zero h
 | some x =>
   obtain ⟨n1,X,e1⟩:=x
   cases hy:mkS m (val ys) f with
   | none =>
     exact (mul_bad n m e f (hid fun u hu=>forms_bad2 (h1.below hu) (h2.below hu) (hT.belows hu) n m e f he0 he1 hf0 hf1 n1 X e1 hx hy)).mono fun r w' h=>zero h
   | some y =>
     obtain ⟨m1,Y,f1⟩:=y;have HFM:=hid fun u (hu:Below w.heap.size w u)=>forms_ok (h1.below hu) (h2.below hu) (hT.belows hu) n m e f he0 he1 hf0 hf1 n1 m1 X Y e1 f1 hx hy
     have FX:=mkS_frm hx;have FY:=mkS_frm hy;have lX:=frm_len FX;have lY:=frm_len FY;have:=FX.up;have:=FX.down;have:=FY.up;have:=FY.down
     show Calls _ _ _ _ fun r w'=>DAns w.heap.size w' r (mkS (n1 != m1) (X*Y) (e1+f1))∧_
     by_cases hL:LG (X*Y)
     · have hs:mulS X Y=(0,2):=by unfold mulS;rw [if_neg (by intro h;rcases h with h | h;exact notLG FX.size h;exact notLG FY.size h),if_pos hL]
       have hno:mkS (n1 != m1) (X*Y) (e1+f1)=none:=by
        have hb:=(LG_bl _).1 hL;have h0:X*Y≠0:=by intro h;rw [h,bl_zero] at hb;omega
        have oX:X%2=1:=by rcases FX.odd with h | h;exact h;rw [h.1,Nat.zero_mul] at h0;exact absurd rfl h0
        have oY:Y%2=1:=by rcases FY.odd with h | h;exact h;rw [h.1,Nat.mul_zero] at h0;exact absurd rfl h0
        have hlo:lo (X*Y)=0:=lo_odd1 (by rw [Nat.mul_mod,oX,oY])
        unfold mkS;rw [if_neg h0,if_pos (.inl (by rw [hlo];omega))]
       rw [hno];exact (mul_long n m e f n1 m1 X Y e1 f1 lX lY (by omega) (by omega) (by omega) (by omega) HFM (hid fun u p q p2 q2 hu hA hB=>Mul_one 0 2 hA hB hs)).mono fun r w' h=>zero h
     · have hs:mulS X Y=(X*Y,0):=by unfold mulS;rw [if_neg (by intro h;rcases h with h | h;exact notLG FX.size h;exact notLG FY.size h),if_neg hL]
       obtain ⟨L,hLe⟩:∃ L,X*Y=L:=⟨_,rfl⟩;rw [hLe] at hs hL ⊢;have lL:(ws L).length≤8192:=by unfold LG at hL;omega
       exact mul_ok n m e f n1 m1 X Y e1 f1 lX lY (by omega) (by omega) (by omega) (by omega) HFM L lL _ _ _ _ (mkS_len (n1 != m1) L (e1+f1)) (hid fun u p q p2 q2 hu hA hB=>Mul_one L 0 hA hB hs)
        (hid fun u p s hu hA=>by have:=Make_any hA (hT.belows hu) (n1 != m1) (e1+f1) (by omega) (by omega);rw [val_ws] at this;exact this)
end
section
open Go.RowKit
theorem sub_res (W:World) (g:Nat) (n:Bool) (v:Value) (e k:Int) (tmps:Array Value) (ht:tmps[4]?.getD undef=.pointer (some ⟨g,0,none⟩)) (hk:tmps[5]?.getD undef=.int .i64 k) (D:Dk W g n v e) :
 (results Tryz.f18 tmps).run Tryz.prog W=.ok (.tuple #[.agg #[.bool n,v,.int .i64 e],.int .i64 k]) W:=by
 obtain ⟨x0,x1,x2,xf0,xf1,xf2⟩:=D.facts;simp [results,Tryz.results18,ht,hk,go_sem,x0,x1,x2]
theorem sub_core {w:World}{a b:Option Addr}{l c k d:Nat}(n m:Bool) (e f:Int) (dn:Bool) (V:Nat) (de er:Int) (lV:(ws V).length≤8192)
 (HT:Hid (∀ u,Calls Tryz.prog 38 #[.agg #[.bool m,.slice b k d,.int .i64 f]] u fun r w'=>r=.returned (.agg #[.bool (!m),.slice b k d,.int .i64 f])∧Below u.heap.size u w'))
 (HA:Hid (∀ u,Below w.heap.size w u→Calls Tryz.prog 19 #[.agg #[.bool n,.slice a l c,.int .i64 e],.agg #[.bool (!m),.slice b k d,.int .i64 f]] u fun r w'=>(∃ v,r=.returned (.tuple #[.agg #[.bool dn,v,.int .i64 de],.int .i64 er])∧Nt u.heap.size w' v V)∧Below u.heap.size u w')) :
 Calls Tryz.prog 18 #[.agg #[.bool n,.slice a l c,.int .i64 e],.agg #[.bool m,.slice b k d,.int .i64 f]] w fun r w'=>(∃ v,r=.returned (.tuple #[.agg #[.bool dn,v,.int .i64 de],.int .i64 er])∧Nt w.heap.size w' v V)∧Below w.heap.size w w':=by
 obtain ⟨W1,hW1⟩:∃ W,W=((w.alloc (.cells #[.bool n,.slice a l c,.int .i64 e] 42)).alloc (.cells #[.bool m,.slice b k d,.int .i64 f] 42)).alloc (.cells #[.bool false,.slice none 0 0,.int .i64 0] 42):=⟨_,rfl⟩;obtain ⟨hB,hz1,DA,DB,DR⟩:=add_begin w n m (.slice a l c) (.slice b k d) e f W1 hW1;have T1:=hid (HT.out W1);have T2:=hid (HT.out W1.drew);obtain ⟨x0,x1,x2,xf0,xf1,xf2⟩:=DA.facts;obtain ⟨y0,y1,y2,yf0,yf1,yf2⟩:=DB.facts;obtain ⟨r0,r1,r2,rf0,rf1,rf2⟩:=DR.facts;have hs1:w.heap.size+3≤W1.heap.size:=by omega
 have SB:=(qsd (ai hB (ai DA (ai DB DR))));clear hB hz1 DA DB DR;go_enter Tryz.func18,Tryz.ntmps18
 go_wp2_with fail
 rw [←hW1];clear hW1;have ne1:w.heap.size≠w.heap.size+1+1:=by omega
 have ne2:w.heap.size+1≠w.heap.size+1+1:=by omega
 have ne3:w.heap.size+1+1≠w.heap.size:=by omega
 have ne4:w.heap.size+1+1≠w.heap.size+1:=by omega
 go_region_held3 (fun w'=>w'.cell? ⟨w.heap.size,0,none⟩=some (.bool n)∧w'.cell? ⟨w.heap.size,1,none⟩=some (.slice a l c)∧w'.cell? ⟨w.heap.size,2,none⟩=some (.int .i64 e)∧w'.cell? ⟨w.heap.size+1,0,none⟩=some (.bool m)∧w'.cell? ⟨w.heap.size+1,1,none⟩=some (.slice b k d)∧w'.cell? ⟨w.heap.size+1,2,none⟩=some (.int .i64 f)) (go_keep) (first
  | (go_at_call 38
     first | with_reducible refine T1.out.mono ?_ | with_reducible refine T2.out.mono ?_
     rintro r u1 ⟨rfl,hb⟩;have hb1:Below W1.heap.size W1 u1:=by first | exact hb | exact ((Below.refl _ W1).drew).trans (hb.mono (Nat.le_refl _))
     have hs2:W1.heap.size≤u1.heap.size:=hb1.size;have BW:Below w.heap.size w u1:=SB.out.1.trans (hb1.mono (by omega))
     have HA1:=hid (HA.out u1 BW);have KR:=SB.out.2.2.2.below hb1;obtain ⟨p0,p1,p2,pf0,pf1,pf2⟩:=KR.facts;obtain ⟨q0,q1,q2,qf0,qf1,qf2⟩:=(SB.out.2.1.below hb1).facts;obtain ⟨s0,s1,s2,sf0,sf1,sf2⟩:=(SB.out.2.2.1.below hb1).facts;have S1:=(qsd (ai BW (ai KR (ai (SB.out.2.1.below hb1) (SB.out.2.2.1.below hb1)))));clear hb hb1 KR BW)
  | (go_at_call 19
     with_reducible refine HA1.out.mono ?_
     rintro r u2 ⟨⟨v,rfl,hN⟩,hb⟩;obtain ⟨a4,c4,rfl,_⟩:=hN.arg (by omega)
     have LR:=S1.out.2.1.below hb;obtain ⟨t0,t1,t2,tf0,tf1,tf2⟩:=LR.facts;obtain ⟨i0,i1,i2,if0,if1,if2⟩:=(S1.out.2.2.1.below hb).facts;obtain ⟨j0,j1,j2,jf0,jf1,jf2⟩:=(S1.out.2.2.2.below hb).facts;have FV:=qsd (show Fin w.heap.size (w.heap.size+3) w u2 (.slice a4 (ws V).length c4) V from ⟨hN.mono (by omega),S1.out.1.trans (hb.mono (by omega)),by have:=hb.size;omega⟩)
     have S10:=qsd LR;clear hN hb LR))
 all_goals (
  go_wp2;refine bodyPost_ret (sub_res _ (w.heap.size+1+1) dn (.slice a4 (ws V).length c4) de er _ rfl rfl (S10.out.set _ _ _)) rfl ?_;refine Fin.dans (m:=w.heap.size+3) ?_ (by omega)
  repeat (with_reducible first | exact FV.out | refine Fin.drew ?_ | refine Fin.alloc ?_ _ | refine Fin.set ?_ _ _ _ (by omega) (by omega)))
theorem addUp_len (n:Bool) (X:Nat) (e:Int) (m:Bool) (Y:Nat) (f:Int):(ws (dX (addUp n X e m Y f))).length≤8192:=by
 unfold addUp
 split
 · show (ws 0).length≤8192;rw [ws_zero];exact Nat.zero_le _
 · split
   · exact mkS_len _ _ _
   · split <;> exact mkS_len _ _ _
theorem addD_len (n:Bool) (X:Nat) (e:Int) (m:Bool) (Y:Nat) (f:Int):(ws (dX (addD (mkS n X e) (mkS m Y f)))).length≤8192:=by
 have z0:(ws 0).length≤8192:=by rw [ws_zero];exact Nat.zero_le _
 cases hx:mkS n X e with
 | none=>exact z0
 | some x =>
   cases hy:mkS m Y f with
   | none=>exact z0
   | some y =>
     obtain ⟨n1,X1,e1⟩:=x;obtain ⟨m1,Y1,f1⟩:=y
     show (ws (dX (addF _ _))).length≤8192
     unfold addF
     split
     · exact frm_len (mkS_frm hy)
     · split
       · exact frm_len (mkS_frm hx)
       · split <;> exact addUp_len _ _ _ _ _ _
theorem Sub_any3 {w:World}{a b:Option Addr}{l c k d:Nat}{xs ys:List Nat}(h1:Arg w a l c xs) (h2:Arg w b k d ys) (hT:Tab w) (n m:Bool) (e f:Int) (he0:-9223372036854775808≤e) (he1:e≤9223372036854775807) (hf0:-9223372036854775808≤f) (hf1:f≤9223372036854775807) :
 Calls Tryz.prog 18 #[.agg #[.bool n,.slice a l c,.int .i64 e],.agg #[.bool m,.slice b k d,.int .i64 f]] w fun r w'=>DAns w.heap.size w' r (addD (mkS n (val xs) e) (mkS (!m) (val ys) f))∧Below w.heap.size w w' :=
 sub_core n m e f _ _ _ _ (addD_len n (val xs) e (!m) (val ys) f) (hid fun u=>turned_any b k d m f u) (hid fun u hu=>Add_any3 (h1.below hu) (h2.below hu) (hT.belows hu) n (!m) e f he0 he1 hf0 hf1)
end
section
open Go.RowKit
def sgn (n:Bool) (X:Nat):Int:=if X=0 then 0 else if n then -1 else 1
end
section
open Go.RowKit
theorem Sign_any3 {w:World}{a:Option Addr}{n c:Nat}{xs:List Nat}(h1:Arg w a n c xs) (ng:Bool) (e:Int) :
 Calls Tryz.prog 28 #[.agg #[.bool ng,.slice a n c,.int .i64 e]] w fun r w'=>r=.returned (.int .i64 (sgn ng (val xs)))∧Below w.heap.size w w':=by
 have hB:Below w.heap.size w (w.alloc (.cells #[.bool ng,.slice a n c,.int .i64 e] 42)):=below_alloc w _;have A1:=h1.below hB;have hbig:=h1.big;have H1:=hid (len_any xs a n c _ _ A1.len A1.cap (by omega) A1.wf A1.rd)
 obtain ⟨X,hX⟩:∃ X,val xs=X:=⟨_,rfl⟩;rw [hX] at H1 ⊢;have SB:=qsd hB;clear hB A1 h1 hX hbig;unfold sgn
 by_cases h0:X=0
 · rw [if_pos h0]
   have hb:bl X=0:=by rw [h0,bl_zero]
   rw [hb] at H1;clear h0 hb;go_enter Tryz.func28,Tryz.ntmps28
   go_wp2_with fail
   refine H1.out.mono ?_;rintro r w1 ⟨rfl,rfl⟩;go_wp2;go_ret;exact ⟨rfl,SB.out⟩
 · rw [if_neg h0]
   obtain ⟨b,hb⟩:∃ b,bl X=b:=⟨_,rfl⟩;have hb0:((b:Int)==0)=false:=by have:=bl_pos X h0;simp;omega
   rw [hb] at H1;clear h0 hb
   cases ng
   · simp only [Bool.false_eq_true,if_false]
     go_enter Tryz.func28,Tryz.ntmps28
     go_wp2_with fail
     refine H1.out.mono ?_;rintro r w1 ⟨rfl,rfl⟩;go_wp2;go_ret;exact ⟨rfl,SB.out⟩
   · simp only [if_true]
     go_enter Tryz.func28,Tryz.ntmps28
     go_wp2_with fail
     refine H1.out.mono ?_;rintro r w1 ⟨rfl,rfl⟩;go_wp2;go_ret;exact ⟨rfl,SB.out⟩
end
section
open Go.RowKit
theorem sgn_zero3 {n:Bool}{X:Nat}:sgn n X=0↔X=0:=by
 unfold sgn
 by_cases h:X=0
 · simp [h]
 · rw [if_neg h];cases n <;> simp [h]
end
section
open Go.RowKit
def sg1 (n:Bool):Int:=if n then -1 else 1
def zv (B:Int) (x:Bool×Nat×Int):Int:=sg1 x.1*((x.2.1*2^(x.2.2-B).toNat:Nat):Int)
theorem pow_split (e l B:Int) (h:B≤e) (hl:0≤l):(2:Nat)^(e+l-B).toNat=2^l.toNat*2^(e-B).toNat:=by
 rw [←Nat.pow_add];congr 1;omega
theorem zv_mkS {n:Bool}{X:Nat}{e:Int}{x:Bool×Nat×Int}(h:mkS n X e=some x) (B:Int) (hB:X=0∨B≤e):zv B x=sg1 n*((X*2^(e-B).toNat:Nat):Int):=by
 unfold mkS at h
 by_cases h0:X=0
 · rw [if_pos h0] at h
   cases h
   subst h0;simp [zv]
 · rw [if_neg h0] at h
   split at h
   · cases h
   · cases h
     have hB':B≤e:=by rcases hB with h | h;exact absurd h h0;exact h
     obtain ⟨m,hm,hd,_⟩:=odd_part X h0
     show sg1 n*((X/2^lo X*2^(e+(lo X:Int)-B).toNat:Nat):Int)=_
     rw [pow_split e (lo X) B hB' (by omega),Int.toNat_natCast,←Nat.mul_assoc]
     have hx:X/2^lo X*2^lo X=X:=by rw [hd];rw [Nat.mul_comm];exact hm.symm
     rw [hx]
theorem sg1_ne {n m:Bool}(h:¬ n=m):sg1 m=-sg1 n:=by cases n <;> cases m <;> first | exact absurd rfl h | rfl
theorem sg1_not (n:Bool):sg1 (!n)=-sg1 n:=by cases n <;> rfl
theorem sg1_bne (n m:Bool):sg1 (n != m)=sg1 n*sg1 m:=by cases n <;> cases m <;> rfl
theorem zv_addUp {n m:Bool}{X Y:Nat}{e f:Int}{z:Bool×Nat×Int}(h:addUp n X e m Y f=some z) (hfe:f≤e) (B:Int) (hB:B≤f):zv B z=zv B (n,X,e)+zv B (m,Y,f):=by
 unfold addUp at h
 split at h
 · cases h
 · have key:X*2^(e-f).toNat*2^(f-B).toNat=X*2^(e-B).toNat:=by
    rw [Nat.mul_assoc,←Nat.pow_add,show (e-f).toNat+(f-B).toNat=(e-B).toNat by omega]
   show zv B z=sg1 n*((X*2^(e-B).toNat:Nat):Int)+sg1 m*((Y*2^(f-B).toNat:Nat):Int)
   generalize 2^(e-f).toNat=P at h key
   split at h
   · rename_i hnm
     rw [zv_mkS h B (.inr hB),hnm,←Int.mul_add,Nat.add_mul,key,Int.natCast_add]
   · rename_i hnm
     split at h
     · rename_i hle
       rw [zv_mkS h B (.inr hB),sg1_ne hnm,Nat.sub_mul,key,Int.ofNat_sub (by rw [←key];exact Nat.mul_le_mul_right _ hle),Int.mul_sub,Int.neg_mul]
       omega
     · rename_i hle
       rw [zv_mkS h B (.inr hB),sg1_not,sg1_ne hnm,Nat.sub_mul,key,Int.ofNat_sub (by rw [←key];exact Nat.mul_le_mul_right _ (by omega)),Int.mul_sub,Int.neg_mul,Int.neg_mul]
       omega
theorem zv_zero {x:Bool×Nat×Int}(B:Int) (h:x.2.1=0):zv B x=0:=by unfold zv;rw [h];simp
theorem zv_addF {x y z:Bool×Nat×Int}(h:addF x y=some z) (B:Int) (hx:x.2.1=0∨B≤x.2.2) (hy:y.2.1=0∨B≤y.2.2):zv B z=zv B x+zv B y:=by
 obtain ⟨n,X,e⟩:=x;obtain ⟨m,Y,f⟩:=y;unfold addF at h;simp only at h hx hy
 by_cases h0:X=0
 · rw [if_pos h0] at h
   cases h
   rw [zv_zero (x:=(n,X,e)) B h0,Int.zero_add]
 · rw [if_neg h0] at h
   by_cases h1:Y=0
   · rw [if_pos h1] at h
     cases h
     rw [zv_zero (x:=(m,Y,f)) B h1,Int.add_zero]
   · rw [if_neg h1] at h
     have hx':B≤e:=by rcases hx with k | k;exact absurd k h0;exact k
     have hy':B≤f:=by rcases hy with k | k;exact absurd k h1;exact k
     by_cases h2:e<f
     · rw [if_pos h2] at h
       rw [zv_addUp h (by omega) B hx',Int.add_comm]
     · rw [if_neg h2] at h
       exact zv_addUp h (by omega) B hy'
theorem zv_mulF {x y z:Bool×Nat×Int}(h:mulF x y=some z) (B C:Int) (hx:x.2.1=0∨B≤x.2.2) (hy:y.2.1=0∨C≤y.2.2):zv (B+C) z=zv B x*zv C y:=by
 obtain ⟨n,X,e⟩:=x;obtain ⟨m,Y,f⟩:=y;unfold mulF at h;simp only at h hx hy
 by_cases h0:X=0
 · subst h0
   rw [Nat.zero_mul] at h;rw [zv_mkS h _ (.inl rfl),zv_zero (x:=(n,0,e)) B rfl];simp
 · by_cases h1:Y=0
   · subst h1
     rw [Nat.mul_zero] at h;rw [zv_mkS h _ (.inl rfl),zv_zero (x:=(m,0,f)) C rfl];simp
   · have hx':B≤e:=by rcases hx with k | k;exact absurd k h0;exact k
     have hy':C≤f:=by rcases hy with k | k;exact absurd k h1;exact k
     rw [zv_mkS h _ (.inr (by omega)),sg1_bne]
     unfold zv;simp only;rw [show (e+f-(B+C)).toNat=(e-B).toNat+(f-C).toNat by omega,Nat.pow_add]
     rw [show X*Y*(2^(e-B).toNat*2^(f-C).toNat)=(X*2^(e-B).toNat)*(Y*2^(f-C).toNat) by rw [Nat.mul_mul_mul_comm]]
     rw [Int.natCast_mul,Int.mul_assoc,Int.mul_assoc]
     congr 1
     rw [←Int.mul_assoc,←Int.mul_assoc]
     congr 1
     exact Int.mul_comm _ _
theorem odd_pow {X Y:Nat}(a b:Nat) (hX:X%2=1) (hY:Y%2=1) (h:X*2^a=Y*2^b):X=Y∧a=b:=by
 have key:∀ (a b X Y:Nat),X%2=1→Y%2=1→X*2^a=Y*2^b→a≤b:=by
  intro a b X Y hX hY h
  rcases Nat.lt_or_ge b a with k|k
  · exfalso
    obtain ⟨d,rfl⟩:∃ d,a=b+(d+1):=⟨a-b-1,by omega⟩
    rw [Nat.pow_add,Nat.mul_comm (2^b),←Nat.mul_assoc] at h;have:=Nat.eq_of_mul_eq_mul_right (Nat.two_pow_pos b) h;rw [Nat.pow_succ,←Nat.mul_assoc] at this;omega
  · exact k
 have h1:=key a b X Y hX hY h;have h2:=key b a Y X hY hX h.symm;have e:a=b:=by omega
 subst e;exact ⟨Nat.eq_of_mul_eq_mul_right (Nat.two_pow_pos a) h,rfl⟩
theorem zv_inj {n m:Bool}{X Y:Nat}{e f:Int}(FX:Frm n X e) (FY:Frm m Y f) (B:Int) (hB:B≤-1048576) (h:zv B (n,X,e)=zv B (m,Y,f)):n=m∧X=Y∧e=f:=by
 have hx:=FX.down;have hy:=FY.down;unfold zv at h;simp only at h;have hpX:0<2^(e-B).toNat:=Nat.two_pow_pos _;have hpY:0<2^(f-B).toNat:=Nat.two_pow_pos _
 rcases FX.odd with oX|⟨rfl,rfl,rfl⟩
 · rcases FY.odd with oY | ⟨rfl,rfl,rfl⟩
   · have pX:0<X*2^(e-B).toNat:=Nat.mul_pos (by omega) hpX
     have pY:0<Y*2^(f-B).toNat:=Nat.mul_pos (by omega) hpY
     have hn:n=m:=by
      generalize X*2^(e-B).toNat=P at h pX;generalize Y*2^(f-B).toNat=Q at h pY
      cases n <;> cases m <;> first | rfl | (simp only [sg1,Bool.false_eq_true,if_true,if_false] at h;omega)
     subst hn
     have hPQ:X*2^(e-B).toNat=Y*2^(f-B).toNat:=by
      generalize X*2^(e-B).toNat=P at h;generalize Y*2^(f-B).toNat=Q at h
      cases n <;> (simp only [sg1,Bool.false_eq_true,if_true,if_false] at h;omega)
     obtain ⟨h1,h2⟩:=odd_pow _ _ oX oY hPQ;exact ⟨rfl,h1,by omega⟩
   · exfalso
     have pX:0<X*2^(e-B).toNat:=Nat.mul_pos (by omega) hpX
     generalize X*2^(e-B).toNat=P at h pX;rw [Nat.zero_mul] at h
     cases n <;> (simp only [sg1,Bool.false_eq_true,if_true,if_false] at h;omega)
 · rcases FY.odd with oY | ⟨rfl,rfl,rfl⟩
   · exfalso
     have pY:0<Y*2^(f-B).toNat:=Nat.mul_pos (by omega) hpY
     generalize Y*2^(f-B).toNat=Q at h pY;rw [Nat.zero_mul] at h
     cases m <;> (simp only [sg1,Bool.false_eq_true,if_true,if_false] at h;omega)
   · exact ⟨rfl,rfl,rfl⟩
end
section
open Go.RowKit
theorem mkS_idem {n:Bool}{X:Nat}{e:Int}(F:Frm n X e):mkS n X e=some (n,X,e):=by
 unfold mkS
 rcases F.odd with h|⟨rfl,rfl,rfl⟩
 · have h1:=F.size;have h2:=F.up;have h3:=F.down
   rw [if_neg (by omega),lo_odd1 h,if_neg (by omega),Nat.pow_zero,Nat.div_one]
   simp
 · rw [if_pos rfl]
theorem addUp_frm {n m:Bool}{X Y:Nat}{e f:Int}{n':Bool}{Z:Nat}{g:Int}(h:addUp n X e m Y f=some (n',Z,g)):Frm n' Z g:=by
 unfold addUp at h
 split at h
 · cases h
 · split at h
   · exact mkS_frm h
   · split at h
     · exact mkS_frm h
     · exact mkS_frm h
theorem addF_frm {n m:Bool}{X Y:Nat}{e f:Int}(FX:Frm n X e) (FY:Frm m Y f) {n':Bool}{Z:Nat}{g:Int}(h:addF (n,X,e) (m,Y,f)=some (n',Z,g)):Frm n' Z g:=by
 unfold addF at h;simp only at h
 split at h
 · cases h;exact FY
 · split at h
   · cases h;exact FX
   · split at h
     · exact addUp_frm h
     · exact addUp_frm h
theorem addD_some {o p:Option (Bool×Nat×Int)}(h:(addD o p).isSome=true):∃ x y z,o=some x∧p=some y∧addF x y=some z∧addD o p=some z:=by
 cases o with
 | none=>cases h
 | some x =>
   cases p with
   | none=>cases h
   | some y =>
     obtain ⟨z,hz⟩:=Option.isSome_iff_exists.1 h;exact ⟨x,y,z,rfl,rfl,hz,hz⟩
theorem mulD_some {o p:Option (Bool×Nat×Int)}(h:(mulD o p).isSome=true):∃ x y z,o=some x∧p=some y∧mulF x y=some z∧mulD o p=some z:=by
 cases o with
 | none=>cases h
 | some x =>
   cases p with
   | none=>cases h
   | some y =>
     obtain ⟨z,hz⟩:=Option.isSome_iff_exists.1 h;exact ⟨x,y,z,rfl,rfl,hz,hz⟩
structure Fv (B:Int) (o:Option (Bool×Nat×Int)) (z:Int):Prop where
 ex:∃ n X e,o=some (n,X,e)∧Frm n X e∧zv B (n,X,e)=z
theorem Frm.base {n:Bool}{X:Nat}{e:Int}(F:Frm n X e) {B:Int}(hB:B≤-1048576):X=0∨B≤e:=.inr (by have:=F.down;omega)
theorem Fv.add {B:Int}(hB:B≤-1048576) {o p:Option (Bool×Nat×Int)}{x y:Int}(h1:Fv B o x) (h2:Fv B p y) (h:(addD o p).isSome=true):Fv B (addD o p) (x+y):=by
 obtain ⟨n,X,e,rfl,F,rfl⟩:=h1.ex;obtain ⟨m,Y,f,rfl,G,rfl⟩:=h2.ex;obtain ⟨_,_,z,e1,e2,hz,hd⟩:=addD_some h
 cases e1;cases e2
 obtain ⟨n',Z,g⟩:=z;exact ⟨n',Z,g,hd,addF_frm F G hz,zv_addF hz B (F.base hB) (G.base hB)⟩
theorem Fv.mul {B C:Int}(hB:B≤-1048576) (hC:C≤-1048576) {o p:Option (Bool×Nat×Int)}{x y:Int}(h1:Fv B o x) (h2:Fv C p y) (h:(mulD o p).isSome=true):Fv (B+C) (mulD o p) (x*y):=by
 obtain ⟨n,X,e,rfl,F,rfl⟩:=h1.ex;obtain ⟨m,Y,f,rfl,G,rfl⟩:=h2.ex;obtain ⟨_,_,z,e1,e2,hz,hd⟩:=mulD_some h
 cases e1;cases e2
 obtain ⟨n',Z,g⟩:=z;exact ⟨n',Z,g,hd,mkS_frm hz,zv_mulF hz B C (F.base hB) (G.base hC)⟩
theorem Fv.same {B:Int}(hB:B≤-1048576) {o p:Option (Bool×Nat×Int)}{x y:Int}(h1:Fv B o x) (h2:Fv B p y) (h:x=y):dN o=dN p∧dX o=dX p∧dE o=dE p:=by
 obtain ⟨n,X,e,rfl,F,rfl⟩:=h1.ex;obtain ⟨m,Y,f,rfl,G,rfl⟩:=h2.ex;exact zv_inj F G B hB h
end
section
open Go.RowKit
theorem plc_floor (dg:Nat) (least top:Int) (X:Nat) (e:Int) (ho:X%2=1) (Bs:Int) (h1:Bs≤e) (h2:Bs≤least) (hin:¬ top<e+(bl X:Int)) :
 Bs≤(plc dg least top X e).2.1 ∧
 (((plc dg least top X e).2.2.1=true∧X*2^(e-Bs).toNat=(plc dg least top X e).1*2^((plc dg least top X e).2.1-Bs).toNat) ∨
  ((plc dg least top X e).2.2.1=false∧(plc dg least top X e).1*2^((plc dg least top X e).2.1-Bs).toNat<X*2^(e-Bs).toNat∧X*2^(e-Bs).toNat<((plc dg least top X e).1+1)*2^((plc dg least top X e).2.1-Bs).toNat ∧
   ((plc dg least top X e).2.2.2=-1∧2*(X*2^(e-Bs).toNat)<(2*(plc dg least top X e).1+1)*2^((plc dg least top X e).2.1-Bs).toNat ∨
    (plc dg least top X e).2.2.2=0∧2*(X*2^(e-Bs).toNat)=(2*(plc dg least top X e).1+1)*2^((plc dg least top X e).2.1-Bs).toNat ∨
    (plc dg least top X e).2.2.2=1∧(2*(plc dg least top X e).1+1)*2^((plc dg least top X e).2.1-Bs).toNat<2*(X*2^(e-Bs).toNat)))):=by
 unfold plc;rw [if_neg hin];simp only;obtain ⟨ex,hex⟩:∃ ex,max (e+(bl X:Int)-(dg:Int)) least=ex:=⟨_,rfl⟩;rw [hex];have hle:least≤ex:=by omega
 by_cases hoff:ex-e≤0
 · rw [if_pos hoff]
   simp only;refine ⟨by omega,.inl ⟨trivial,?_⟩⟩
   rw [Nat.mul_assoc,←Nat.pow_add,show (-(ex-e)).toNat+(ex-Bs).toNat=(e-Bs).toNat by omega]
 · rw [if_neg hoff]
   simp only;obtain ⟨k,hk⟩:∃ k:Nat,(ex-e).toNat=k:=⟨_,rfl⟩;have hk0:0<k:=by omega
   have hexB:(ex-Bs).toNat=k+(e-Bs).toNat:=by omega
   have hk1:(ex-e-1).toNat=k-1:=by omega
   rw [hk,hexB,hk1,Nat.pow_add];obtain ⟨Q,hQ⟩:∃ Q,2^(e-Bs).toNat=Q:=⟨_,rfl⟩;have hQ0:0<Q:=by rw [←hQ];exact Nat.two_pow_pos _
   rw [hQ];have hdm:=Nat.div_add_mod X (2^k);have hmod:=Nat.mod_lt X (Nat.two_pow_pos k);obtain ⟨F,hF⟩:∃ F,X/2^k=F:=⟨_,rfl⟩;obtain ⟨R,hR⟩:∃ R,X%2^k=R:=⟨_,rfl⟩;have hhalf:2^k=2*2^(k-1):=by rw [show k=k-1+1 by omega,Nat.pow_succ,Nat.mul_comm];rfl
   have hbit:X/2^(k-1)%2=R/2^(k-1):=by
    rw [←hR,hhalf];rw [Nat.mul_comm 2,Nat.mod_mul_right_div_self]
   obtain ⟨Hf,hHf⟩:∃ Hf,2^(k-1)=Hf:=⟨_,rfl⟩;have hHf0:0<Hf:=by rw [←hHf];exact Nat.two_pow_pos _
   rw [hHf] at hhalf hbit ⊢;rw [hbit];rw [hhalf] at hdm hmod hF hR ⊢;rw [hF,hR] at hdm;rw [hR] at hmod;rw [hF]
   have hR0:R≠0:=by
    intro h;rw [h,Nat.add_zero,Nat.mul_assoc] at hdm;omega
   have e1:F*(2*Hf*Q)=(F*(2*Hf))*Q:=(Nat.mul_assoc _ _ _).symm;have e2:(F+1)*(2*Hf*Q)=((F+1)*(2*Hf))*Q:=(Nat.mul_assoc _ _ _).symm
   have e3:(2*F+1)*(2*Hf*Q)=(2*(F*(2*Hf))+2*Hf)*Q:=by
    rw [Nat.add_mul,Nat.add_mul,Nat.one_mul,Nat.mul_assoc 2 F,←Nat.mul_assoc F,Nat.mul_assoc 2 (F*(2*Hf)) Q]
   have e4:2*(X*Q)=(2*X)*Q:=by rw [Nat.mul_assoc]
   have e5:2*Hf*F=F*(2*Hf):=Nat.mul_comm _ _;rw [e5] at hdm;have e6:(F+1)*(2*Hf)=F*(2*Hf)+2*Hf:=by rw [Nat.add_mul,Nat.one_mul]
   rw [e1,e2,e3,e4,e6];generalize F*(2*Hf)=G at hdm ⊢;refine ⟨by omega,.inr ⟨trivial,Nat.mul_lt_mul_of_pos_right (by omega) hQ0,Nat.mul_lt_mul_of_pos_right (by omega) hQ0,?_⟩⟩
   by_cases hone:ex-e=1
   · rw [if_pos hone]
     have hk1':k=1:=by omega
     have hHf1:Hf=1:=by rw [←hHf,hk1']
     refine .inr (.inl ⟨rfl,?_⟩)
     congr 1
     omega
   · rw [if_neg hone]
     have hHf2:Hf%2=0:=by
      rw [←hHf,show k-1=k-2+1 by omega,Nat.pow_succ];omega
     have hRodd:R%2=1:=by
      have:G%2=0∨True:=.inr trivial;rw [←hR];rw [Nat.mod_mul_right_mod];exact ho
     by_cases hge:Hf≤R
     · have hd1:R/Hf=1:=by
        rw [Nat.div_eq_iff hHf0];omega
       rw [hd1,if_pos rfl];refine .inr (.inr ⟨rfl,Nat.mul_lt_mul_of_pos_right ?_ hQ0⟩);have:R≠Hf:=by intro h;rw [h] at hRodd;omega
       omega
     · have hd0:R/Hf=0:=Nat.div_eq_of_lt (by omega)
       rw [hd0,if_neg (by omega)]
       exact .inl ⟨rfl,Nat.mul_lt_mul_of_pos_right (by omega) hQ0⟩
def flK (X:Nat) (e:Int):Nat:=((plc 53 (-1074) 1024 X e).2.1+1074).toNat*4503599627370496+(plc 53 (-1074) 1024 X e).1
abbrev vK (K:Nat):Nat:=B.val Ieee.double K
theorem vK_lt {K L:Nat}:vK K<vK L↔K<L:=B.val_lt_iff Ieee.double
theorem vK_word (j F:Nat) (h:j=0∨4503599627370496≤F) (hF:F≤9007199254740992):vK (j*4503599627370496+F)=F*2^j:=by
 have:=B.val_at Ieee.double j F (by rw [B.dBin];exact h) (by rw [B.dBin];omega)
 rw [B.dBin] at this;exact this
structure Lies (K:Nat) (at':Bool) (mid:Int) (V S:Nat):Prop where
 fin:K<9218868437227405312
 pos:0<S
 one:at'=true→V=vK K*S
 low:at'=false→vK K*S<V
 mids:at'=false→V<vK (K+1)*S→(mid=-1∧2*V<vK K*S+vK (K+1)*S∨mid=0∧2*V=vK K*S+vK (K+1)*S∨mid=1∧vK K*S+vK (K+1)*S<2*V)
 high:at'=false→V<vK (K+1)*S∨(K=9218868437227405311∧mid=1)
theorem lies (X:Nat) (e:Int) (hX:X%2=1) (he0:-1048576≤e) (he1:e≤1048576) (Bs:Int) (h1:Bs≤e) (h2:Bs≤-1074) :
 Lies (flK X e) (plc 53 (-1074) 1024 X e).2.2.1 (plc 53 (-1074) 1024 X e).2.2.2 (X*2^(e-Bs).toNat) (2^(-1074-Bs).toNat):=by
 have hX0:X≠0:=by omega
 obtain ⟨f1,f2,f3,f4⟩:=plc_facts X e hX0 he0 he1;obtain ⟨j,hj⟩:∃ j:Nat,((plc 53 (-1074) 1024 X e).2.1+1074).toNat=j:=⟨_,rfl⟩;have hS:0<2^(-1074-Bs).toNat:=Nat.two_pow_pos _
 have hw:∀ F,F≤9007199254740992→(j=0∨4503599627370496≤F)→vK (j*4503599627370496+F)*2^(-1074-Bs).toNat=F*2^((plc 53 (-1074) 1024 X e).2.1-Bs).toNat:=by
  intro F hF hn;rw [vK_word j F hn hF,Nat.mul_assoc,←Nat.pow_add]
  congr 2
  omega
 have hn1:j=0∨4503599627370496≤(plc 53 (-1074) 1024 X e).1:=by
  rcases f4 with h|h
  · left;omega
  · exact .inr h
 have w1:=hw (plc 53 (-1074) 1024 X e).1 (by omega) hn1
 have w2:=hw ((plc 53 (-1074) 1024 X e).1+1) (by omega) (by rcases hn1 with h | h;exact .inl h;exact .inr (by omega))
 have hflK:flK X e=j*4503599627370496+(plc 53 (-1074) 1024 X e).1:=by unfold flK;rw [hj]
 have hflK1:flK X e+1=j*4503599627370496+((plc 53 (-1074) 1024 X e).1+1):=by rw [hflK];omega
 have hfin:flK X e<9218868437227405312:=by rw [hflK];omega
 rw [←hflK] at w1;rw [←hflK1] at w2
 by_cases hin:1024<e+(bl X:Int)
 · have hp:plc 53 (-1074) 1024 X e=((2^53-1:Nat),((1024:Int)-((53:Nat):Int)),false,(1:Int)):=by unfold plc;rw [if_pos hin]
   have hK:flK X e=9218868437227405311:=by unfold flK;rw [hp];rfl
   refine ⟨hfin,hS,fun h=>(by rw [hp] at h;cases h),fun _=>?_,fun _ hlt=>?_,fun _=>.inr ⟨hK,(by rw [hp])⟩⟩
   · rw [w1]
     have hlow:(2^53-1)*2^(971-Bs).toNat<2^53*2^(971-Bs).toNat:=Nat.mul_lt_mul_of_pos_right (by decide) (Nat.two_pow_pos _)
     have hup:2^53*2^(971-Bs).toNat≤X*2^(e-Bs).toNat:=by
      have hb:=bl_ge X hX0;have hbp:=bl_pos X hX0;refine Nat.le_trans ?_ (Nat.mul_le_mul_right _ hb);rw [←Nat.pow_add,←Nat.pow_add];exact Nat.pow_le_pow_right (by omega) (by omega)
     rw [hp];exact Nat.lt_of_lt_of_le hlow hup
   · exfalso
     rw [w2,hp] at hlt
     have hup:2^53*2^(971-Bs).toNat≤X*2^(e-Bs).toNat:=by
      have hb:=bl_ge X hX0;have hbp:=bl_pos X hX0;refine Nat.le_trans ?_ (Nat.mul_le_mul_right _ hb);rw [←Nat.pow_add,←Nat.pow_add];exact Nat.pow_le_pow_right (by omega) (by omega)
     exact absurd hlt (Nat.not_lt.2 hup)
 · obtain ⟨_,hfl⟩:=plc_floor 53 (-1074) 1024 X e hX Bs h1 h2 hin
   have hmid:vK (flK X e)*2^(-1074-Bs).toNat+vK (flK X e+1)*2^(-1074-Bs).toNat=(2*(plc 53 (-1074) 1024 X e).1+1)*2^((plc 53 (-1074) 1024 X e).2.1-Bs).toNat:=by
    rw [w1,w2,←Nat.add_mul];congr 1;omega
   rcases hfl with ⟨ht,hv⟩|⟨hf,hlo,hhi,hm⟩
   · exact ⟨hfin,hS,fun _=>(by rw [w1];exact hv),fun h=>(by rw [ht] at h;cases h),fun h=>(by rw [ht] at h;cases h),fun h=>(by rw [ht] at h;cases h)⟩
   · refine ⟨hfin,hS,fun h=>(by rw [hf] at h;cases h),fun _=>(by rw [w1];exact hlo),fun _ _=>(by rw [hmid];exact hm),fun _=>.inl (by rw [w2];exact hhi)⟩
end
section
open Go.RowKit
def rK (mode:Int) (n:Bool) (K:Nat) (t:Bool) (m:Int):Nat:=if t then K else if outS mode K m n then K+1 else K
theorem outS_par (mode:Int) (j F:Nat) (m:Int) (n:Bool):outS mode (j*4503599627370496+F) m n=outS mode F m n:=by
 unfold outS;rw [show (j*4503599627370496+F)%2=F%2 by omega]
theorem rndK_eq (mode:Int) (n:Bool) (X:Nat) (e:Int):rndK mode n X e=rK mode n (flK X e) (plc 53 (-1074) 1024 X e).2.2.1 (plc 53 (-1074) 1024 X e).2.2.2:=by
 unfold rndK rK flK;simp only;rw [outS_par]
 split
 · rfl
 · split <;> omega
end
section
open Go.RowKit
def wd64 (s:Bool) (K:Nat):Nat:=K+(if s then 9223372036854775808 else 0)
def sK (s:Bool) (K:Nat):Int:=if s then -(K:Int) else K
theorem wd64_bw (s:Bool) (K:Nat) (h:K≤9218868437227405312):wd64 s K=B.bw s (K/4503599627370496) (K%4503599627370496)∧K/4503599627370496<2048∧K%4503599627370496<4503599627370496∧B.odd (K/4503599627370496) (K%4503599627370496)=false∧B.pl s (K/4503599627370496) (K%4503599627370496)=sK s K:=by
 refine ⟨?_,by omega,by omega,?_,?_⟩
 · unfold wd64 B.bw
   cases s
   · simp;omega
   · simp;omega
 · unfold B.odd
   simp;omega
 · unfold B.pl B.sg sK
   rw [show K/4503599627370496*4503599627370496+K%4503599627370496=K by omega]
def rS (n:Bool) (X:Nat):Bool:=if X=0 then false else n
def rW (mode:Int) (n:Bool) (X:Nat) (e:Int):Nat:=if X=0 then 0 else rndK mode n X e
theorem rndS_form (mode:Int) (n:Bool) (X:Nat) (e:Int) (h0:0≤mode) (h4:mode≤4):rndS (some (n,X,e)) mode=(wd64 (rS n X) (rW mode n X e),0):=by
 unfold rndS;rw [if_neg (by omega)]
 simp only;unfold rS rW wd64
 by_cases h:X=0
 · rw [if_pos h,if_pos h,if_pos h];rfl
 · rw [if_neg h,if_neg h,if_neg h]
theorem frm_odd {n:Bool}{X:Nat}{e:Int}(F:Frm n X e) (h:X≠0):X%2=1:=by rcases F.odd with k | k;exact k;exact absurd k.1 h
end
section
open Go.RowKit
attribute [local go_sem] B.f64bits B.f64frombits
def magW (x:Nat):Nat:=x%9223372036854775808
def negW (x:Nat):Bool:=decide (9223372036854775808≤x)
end
section
open Go.RowKit
def ofK (s:Bool) (K:Nat):Option (Bool×Nat×Int):=ofR s (K/4503599627370496) (K%4503599627370496)
theorem ofK_val (s:Bool) (K:Nat) (hK:K<9218868437227405312):∃ n X e,ofK s K=some (n,X,e)∧Frm n X e∧(X≠0→n=s)∧(X=0↔K=0)∧∀ Bs:Int,Bs≤-1074→zv Bs (n,X,e)=sg1 s*((vK K*2^(-1074-Bs).toNat:Nat):Int):=by
 obtain ⟨x,hx⟩:∃ x,K/4503599627370496=x:=⟨_,rfl⟩;obtain ⟨f,hf⟩:∃ f,K%4503599627370496=f:=⟨_,rfl⟩;have hxl:x<2047:=by omega
 have hfl:f<4503599627370496:=by omega
 obtain ⟨M,hM⟩:∃ M,(if x=0 then f else f+4503599627370496)=M:=⟨_,rfl⟩
 obtain ⟨E,hE⟩:∃ E:Int,(if x=0 then (-1074:Int) else (x:Int)-1075)=E:=⟨_,rfl⟩
 have hME:(x=0∧M=f∧E=-1074)∨(x≠0∧M=f+4503599627370496∧E=(x:Int)-1075):=by
  by_cases h:x=0
  · rw [if_pos h] at hM hE;exact .inl ⟨h,hM.symm,hE.symm⟩
  · rw [if_neg h] at hM hE;exact .inr ⟨h,hM.symm,hE.symm⟩
 have hMl:M<9007199254740992:=by omega
 have hO:ofK s K=mkS s M E:=by unfold ofK ofR;rw [hx,hf,if_neg (by omega),hM,hE]
 have hsome:(mkS s M E).isSome=true:=by
  unfold mkS
  split
  · rfl
  · rename_i h0
    have hb:=bl_le53 M hMl;obtain ⟨_,_,_,hbb⟩:=odd_part M h0;rw [if_neg (by omega)]
    rfl
 obtain ⟨⟨n,X,e⟩,hz⟩:=Option.isSome_iff_exists.1 hsome;have hKw:K=(E+1074).toNat*4503599627370496+M:=by rcases hME with h | h <;> omega
 have hv:vK K=M*2^(E+1074).toNat:=by
  rw [hKw];exact vK_word _ _ (by rcases hME with h | h;left;omega;right;omega) (by omega)
 have hM0:M=0↔K=0:=by rcases hME with h | h <;> omega
 refine ⟨n,X,e,by rw [hO,hz],mkS_frm hz,?_,?_,?_⟩
 · intro hX
   unfold mkS at hz
   split at hz
   · cases hz;exact absurd rfl hX
   · split at hz
     · cases hz
     · cases hz;rfl
 · rw [←hM0]
   constructor
   · intro hX
     unfold mkS at hz
     split at hz
     · assumption
     · rename_i h0
       split at hz
       · cases hz
       · obtain ⟨m,_,hd,_⟩:=odd_part M h0
         cases hz
         omega
   · intro h0
     unfold mkS at hz;rw [if_pos h0] at hz
     cases hz;rfl
 · intro Bs hBs
   rw [zv_mkS hz Bs (.inr (by omega)),hv,Nat.mul_assoc,←Nat.pow_add,show (E+1074).toNat+(-1074-Bs).toNat=(E-Bs).toNat by omega]
end
section
open Go.RowKit J
theorem wd_of (x:Nat) (h:x<18446744073709551616):x=wd64 (negW x) (magW x):=by
 unfold wd64 negW magW
 by_cases hx:9223372036854775808≤x
 · rw [decide_eq_true hx,if_pos rfl];omega
 · rw [decide_eq_false hx,if_neg (by simp)];omega
end
section
open Go.RowKit J
theorem exU (a:Nat):∃ u:Nat,u=2^a:=⟨_,rfl⟩
def EU:Nat:=1074
def ES:Nat:=2095004
noncomputable def UU:Nat:=Classical.choose (exU EU)
noncomputable def SS:Nat:=Classical.choose (exU ES)
theorem U_eq:UU=2^EU:=Classical.choose_spec (exU EU)
theorem S_eq:SS=2^ES:=Classical.choose_spec (exU ES)
theorem EUS:EU+ES=2096078:=by unfold EU ES;rfl
theorem US (a:Nat) (h:a=2096078):2^a=UU*SS:=by
 rw [U_eq,S_eq,←Nat.pow_add,EUS,h]
structure Fo (o:Option (Bool×Nat×Int)) (z:Int) (L H:Int):Prop where
 ex:∃ n X e,o=some (n,X,e)∧Frm n X e∧zv (-2097152) (n,X,e)=z*(SS:Int)∧(X=0∨L≤e∧e+(bl X:Int)≤H)
theorem mkS_sz (n:Bool) (Z:Nat) (f L H:Int) (hZ:Z≠0) (h1:L≤f) (h2:f+(bl Z:Int)≤H) (hL:-1000000≤L) (hH:H≤1000000) (hd:H-L≤262144) :
 ∃ X e,mkS n Z f=some (n,X,e)∧X≠0∧L≤e∧e+(bl X:Int)≤H:=by
 obtain ⟨m,e0,e1,e2⟩:=odd_part Z hZ;unfold mkS;rw [if_neg hZ,if_neg (by omega)]
 exact ⟨_,_,rfl,by omega,by omega,by omega⟩
theorem blLe {X m:Nat}(h:X<2^m):bl X≤m:=by
 apply Nat.le_of_not_lt;intro hh
 have:=(bl_gt X m).1 hh;omega
end
section
open Go.RowKit J
theorem sg1_sg (s:Bool) (v:Nat):sg1 s*(v:Int)=B.sg s v:=by unfold sg1 B.sg;cases s <;> simp
theorem top_v (K:Nat) (hK:K<9218868437227405312) (a:Nat) (ha:a=2045):vK K<9007199254740992*2^a:=by
 have h:=vK_word a 9007199254740992 (.inr (by omega)) (by omega)
 have h2:a*4503599627370496+9007199254740992=9218868437227405312:=by rw [ha]
 rw [←h,h2];exact vK_lt.2 hK
theorem of_fo (s:Bool) (K:Nat) (hK:K<9218868437227405312):∃ n X e,ofK s K=some (n,X,e)∧Fo (some (n,X,e)) (B.sg s (vK K)*(UU:Int)) (-1074) 1024∧(X=0↔K=0):=by
 obtain ⟨n,X,e,h1,F,h2,h3,h4⟩:=ofK_val s K hK;refine ⟨n,X,e,h1,⟨n,X,e,rfl,F,?_,?_⟩,h3⟩
 · obtain ⟨a,ha⟩:∃ a:Nat,(-1074 - -2097152:Int).toNat=a:=⟨_,rfl⟩
   have h5:=h4 (-2097152) (by omega)
   rw [ha] at h5;rw [h5,US a (by omega),Int.natCast_mul,Int.natCast_mul,←Int.mul_assoc,←Int.mul_assoc,sg1_sg]
 · by_cases hX:X=0
   · exact .inl hX
   · right
     have ho:=frm_odd F hX;have hd:=F.down
     -- in units of the form's own place
     have h5:=h4 (min e (-1074)) (by omega)
     unfold zv at h5;simp only at h5;rw [h2 hX] at h5
     have h6:X*2^(e-min e (-1074)).toNat=vK K*2^(-1074-min e (-1074)).toNat:=by
      unfold sg1 at h5
      cases s
      · simp only [Bool.false_eq_true,if_false,Int.one_mul] at h5;exact_mod_cast h5
      · simp only [if_true] at h5;have:=Int.eq_of_mul_eq_mul_left (by decide) h5;exact_mod_cast this
     have he:-1074≤e:=by
      apply Int.le_of_not_gt;intro hlt
      rw [show (e-min e (-1074)).toNat=0 by omega,Nat.pow_zero,Nat.mul_one] at h6
      obtain ⟨q,hq⟩:∃ q,(-1074-min e (-1074)).toNat=q+1:=⟨(-1074-min e (-1074)).toNat-1,by omega⟩
      rw [hq,Nat.pow_succ,←Nat.mul_assoc] at h6;omega
     refine ⟨he,?_⟩;rw [show (-1074-min e (-1074)).toNat=0 by omega,Nat.pow_zero,Nat.mul_one] at h6
     obtain ⟨q,hq⟩:∃ q,(e-min e (-1074)).toNat=q:=⟨_,rfl⟩;rw [hq] at h6;obtain ⟨c,hc⟩:∃ c:Nat,c=2045:=⟨_,rfl⟩;have h7:=top_v K hK c hc;have h8:=bl_ge X hX;have h9:=bl_pos X hX;obtain ⟨b,hb⟩:∃ b,bl X=b+1:=⟨bl X-1,by omega⟩
     rw [hb,Nat.add_sub_cancel] at h8;have h10:2^b*2^q<9007199254740992*2^c:=Nat.lt_of_le_of_lt (Nat.mul_le_mul_right _ h8) (by rw [h6];exact h7)
     rw [←Nat.pow_add,show (9007199254740992:Nat)=2^53 from rfl,←Nat.pow_add] at h10
     have h11:=(Nat.pow_lt_pow_iff_right (by decide:1<2)).1 h10
     omega
end
section
open Go.RowKit J

def Fw10 (n:Nat):Value:=.float .f64 n
theorem Tryz.und_floats:Tryz.prog.underlying 23=some (.slice 24):=by kernel_rfl
theorem Tryz.info_f64:(Tryz.prog.info? 24).map (fun i=>(i.zero,i.size,i.bytes))=some (some (.float .f64 0),1,8):=by kernel_rfl
end
section
open Go.RowKit
def Wb (w:World) (g:Nat) (L:List Nat):Prop:=w.heap[g]?=some (.cells (L.map U).toArray 112 (0,0))
theorem Wb.lt {w:World}{g:Nat}{L:List Nat}(h:Wb w g L):g<w.heap.size:=(Array.getElem?_eq_some_iff.1 h).1
theorem Wb.cell {w:World}{g:Nat}{L:List Nat}(h:Wb w g L) (i:Nat) (hi:i<L.length):w.cell? ⟨g,i,none⟩=some (.int .u32 ((L.getD i 0:Nat):Int)):=by
 unfold Wb at h;simp only [World.cell?,h];simp [U,List.getD_eq_getElem?_getD,List.getElem?_eq_getElem hi]
theorem Wb.frozen {w:World}{g:Nat}{L:List Nat}(h:Wb w g L) (i:Nat):w.frozen? ⟨g,i,none⟩=false:=by
 unfold Wb at h;simp [World.frozen?,h]
theorem Wb.set {w:World}{g:Nat}{L:List Nat}(h:Wb w g L) (i x:Nat):Wb (w.setCell ⟨g,i,none⟩ (.int .u32 (x:Int))) g (L.set i x):=by
 unfold Wb at h ⊢;simp [World.setCell,Array.getElem?_modify,h,List.map_set,U]
theorem Wb.drew {w:World}{g:Nat}{L:List Nat}(h:Wb w g L):Wb w.drew g L:=h
def PB:Nat:=pw 133
theorem PB_pos:0<PB:=pw_pos 133
attribute [irreducible] PB
theorem val_lt_PB {L:List Nat}(hl:L.length=133) (hw:Wf L):val L<PB:=by
 have:=val_lt L hw;rw [hl] at this;unfold PB;exact this
theorem val_set (L:List Nat) (i x:Nat) (h:i<L.length):val (L.set i x)+L.getD i 0*pw i=val L+x*pw i:=by
 have h1:=val_take_drop L i (Nat.le_of_lt h);have h2:=val_take_drop (L.set i x) i (by simp;omega)
 rw [val_drop_succ L i h] at h1;rw [val_drop_succ (L.set i x) i (by simp;omega),getD_set_same _ _ _ h] at h2
 have e1:(L.set i x).take i=L.take i:=by rw [List.take_set];exact List.set_eq_of_length_le (by simp;omega)
 have e2:(L.set i x).drop (i+1)=L.drop (i+1):=by rw [List.drop_set,if_pos (by omega)]
 rw [e1,e2] at h2;rw [h2,h1]
 grind
theorem add_step (M:List Nat) (i c T s d:Nat) (h:i<M.length) (e:s+d*4294967296=c+M.getD i 0) (hT:val M+c*pw i=T):val (M.set i s)+d*pw (i+1)=T:=by
 have h1:=val_set M i s h;rw [pw_succ];have e2:(s+d*4294967296)*pw i=(c+M.getD i 0)*pw i:=by rw [e]
 rw [Nat.add_mul,Nat.add_mul,Nat.mul_assoc] at e2;omega
theorem take_step (M:List Nat) (i c T R s lo hi b:Nat) (h:i<M.length) (e:s+lo=M.getD i 0+b*4294967296) (hc:c=lo+hi*4294967296) (hT:val M+T=R+c*pw i):val (M.set i s)+T=R+(hi+b)*pw (i+1):=by
 have h1:=val_set M i s h;rw [pw_succ];have e2:(s+lo)*pw i=(M.getD i 0+b*4294967296)*pw i:=by rw [e]
 have e3:c*pw i=(lo+hi*4294967296)*pw i:=by rw [hc]
 rw [Nat.add_mul,Nat.add_mul,Nat.mul_assoc] at e2;rw [Nat.add_mul,Nat.mul_assoc] at e3;rw [Nat.add_mul];omega
theorem pw_pow (i:Nat):pw i=2^(32*i):=by unfold pw;rw [Nat.pow_mul]
theorem place_split (n p:Nat):n*2^(p%32)*pw (p/32)=n*2^p:=by
 rw [pw_pow,Nat.mul_assoc,←Nat.pow_add,Nat.mod_add_div]
theorem add_end (M:List Nat) (c T:Nat) (hl:M.length=133) (hw:Wf M) (h:val M+c*pw 133=T):val M=T%PB:=by
 have:=val_lt_PB hl hw;have e:pw 133=PB:=by unfold PB;rfl
 rw [←h,e,Nat.mul_comm,Nat.add_mul_mod_self_left,Nat.mod_eq_of_lt this]
theorem take_end (M:List Nat) (c T R:Nat) (hl:M.length=133) (hw:Wf M) (h:val M+T=R+c*pw 133):(val M:Int)=((R:Int)-(T:Int))%(PB:Int):=by
 have h1:=val_lt_PB hl hw;have e:pw 133=PB:=by unfold PB;rfl
 rw [e] at h
 have h2:(R:Int)-(T:Int)=(val M:Int)+(PB:Int)*(-(c:Int)):=by
  have:((val M+T:Nat):Int)=((R+c*PB:Nat):Int):=by rw [h]
  simp only [Int.natCast_add,Int.natCast_mul] at this;rw [Int.mul_neg,Int.mul_comm];omega
 rw [h2,Int.add_mul_emod_self_left,Int.emod_eq_of_lt (by omega) (by omega)]
end
section
open Go.RowKit
theorem shl_small (n q:Nat) (hn:n<4294967296) (hq:q<32):n*2^q<9223372036854775808:=by
 have h1:2^q≤2147483648:=by
  have:=Nat.pow_le_pow_right (n:=2) (by decide) (show q≤31 by omega)
  simpa using this
 calc n*2^q≤4294967295*2147483648:=Nat.mul_le_mul (by omega) h1
  _<_:=by decide
theorem shl_wrap (n p:Nat) (hn:n<4294967296):IntKind.u64.wrap ((n:Int)*2^(p%32))=((n*2^(p%32):Nat):Int):=by
 have h1:=shl_small n (p%32) hn (Nat.mod_lt _ (by decide))
 have e:((n:Int)*2^(p%32))=((n*2^(p%32):Nat):Int):=by simp
 rw [e];exact wrap_u64n _ (by omega) (by omega)
theorem wadd_any (L:List Nat) (g n p:Nat) (w:World) (hW:Wb w g L) (hl:L.length=133) (hL:Wf L) (hn:n<4294967296) (hp:p<4256) :
 Calls Tryz.prog 120 #[.pointer (some ⟨g,0,none⟩),.int .u32 (n:Nat),.int .i64 (p:Nat)] w fun r w' =>
  r=.returned (.tuple #[])∧∃ M,Wb w' g M∧M.length=133∧Wf M∧val M=(val L+n*2^p)%PB∧But g w w':=by
 have HR:Aside (Wf L∧L.length=133):=⟨hL,hl⟩;have HO:Hid (Wb w g L):=hW;clear hL hW hl;go_enter Tryz.func120,Tryz.ntmps120;go_wp2
 go_loopg [6,7] 133 (fun k c i wr=>∃ (cv iv:Nat) (M:List Nat),133≤k+iv∧iv≤133∧c=.int .u64 (cv:Nat)∧cv<9223372036854775808∧i=.int .i64 (iv:Nat) ∧
  Hid (Wb wr g M)∧Aside (Wf M∧M.length=133∧val M+cv*pw iv=val L+n*2^p∧But g w wr))
 case atStart =>
  exact ⟨n*2^(p%32),p/32,L,by omega,by omega,by rw [shl_wrap n p hn],shl_small n _ hn (Nat.mod_lt _ (by decide)),by simp,HO,HR.out.1,HR.out.2,by rw [place_split],But.refl _ _⟩
 case round =>
  obtain ⟨cv,iv,M,hk,hi,rfl,hcv,rfl,HM,HA⟩:=hrel
  by_cases h1:iv=133
  · subst h1
    go_wp2;refine bodyPost_end (v:=.tuple #[]) (by simp [results,Tryz.results120,go_sem]) rfl ?_
    obtain ⟨hMw,hMl,hMs,hbut⟩:=HA.out;exact ⟨rfl,M,HM.out,hMl,hMw,add_end M cv _ hMl hMw hMs,hbut⟩
  by_cases h2:cv=0
  · subst h2
    have h3:(iv:Int)<133:=by omega
    go_wp2;refine bodyPost_end (v:=.tuple #[]) (by simp [results,Tryz.results120,go_sem]) rfl ?_
    obtain ⟨hMw,hMl,hMs,hbut⟩:=HA.out;exact ⟨rfl,M,HM.out,hMl,hMw,add_end M 0 _ hMl hMw (by rw [←hMs];simp),hbut⟩
  · have h3:iv<133:=by omega
    have h4:0<cv:=by omega
    obtain ⟨hMw,hMl,hMs,hbut⟩:=HA.out;have hgc:=HM.out.cell iv (by omega)
    have hgf:=HM.out.frozen iv;obtain ⟨x,hx⟩:∃ x:Nat,M.getD iv 0=x:=⟨_,rfl⟩;have hxl:x<4294967296:=hx ▸ hMw.get _;rw [hx] at hgc;have HX:Aside (M.getD iv 0=x):=hx;clear hx hMw hMl hMs hbut h1 h2;obtain ⟨k,rfl⟩:∃ k,gk=k+1:=⟨gk-1,by omega⟩
    go_wp2
    go_roundg k
    case measure=>omega
    case rel =>
     obtain ⟨hMw,hMl,hMs,hbut⟩:=HA.out;have e1:((cv:Int)+(x:Int))%4294967296=(((cv+x)%4294967296:Nat):Int):=by omega
     have e2:((cv:Int)+(x:Int))/4294967296=(((cv+x)/4294967296:Nat):Int):=by omega
     rw [e1];exact ⟨(cv+x)/4294967296,iv+1,M.set iv ((cv+x)%4294967296),by omega,by omega,by rw [e2],by omega,by simp,HM.out.set iv _,hMw.set _ _ (Nat.mod_lt _ (by decide)),by simp [hMl],add_step M iv cv _ _ _ (by omega) (by rw [HX.out];omega) hMs,hbut.set iv _⟩
theorem wtake_any (L:List Nat) (g n p:Nat) (w:World) (hW:Wb w g L) (hl:L.length=133) (hL:Wf L) (hn:n<4294967296) (hp:p<4256) :
 Calls Tryz.prog 119 #[.pointer (some ⟨g,0,none⟩),.int .u32 (n:Nat),.int .i64 (p:Nat)] w fun r w' =>
  r=.returned (.tuple #[])∧∃ M,Wb w' g M∧M.length=133∧Wf M∧(val M:Int)=((val L:Int)-((n*2^p:Nat):Int))%(PB:Int)∧But g w w':=by
 have HR:Aside (Wf L∧L.length=133):=⟨hL,hl⟩;have HO:Hid (Wb w g L):=hW;clear hL hW hl;go_enter Tryz.func119,Tryz.ntmps119;go_wp2
 go_loopg [6,7] 133 (fun k c i wr=>∃ (cv iv:Nat) (M:List Nat),133≤k+iv∧iv≤133∧c=.int .u64 (cv:Nat)∧cv<9223372036854775808∧i=.int .i64 (iv:Nat) ∧
  Hid (Wb wr g M)∧Aside (Wf M∧M.length=133∧val M+n*2^p=val L+cv*pw iv∧But g w wr))
 case atStart =>
  exact ⟨n*2^(p%32),p/32,L,by omega,by omega,by rw [shl_wrap n p hn],shl_small n _ hn (Nat.mod_lt _ (by decide)),by simp,HO,HR.out.1,HR.out.2,by rw [place_split],But.refl _ _⟩
 case round =>
  obtain ⟨cv,iv,M,hk,hi,rfl,hcv,rfl,HM,HA⟩:=hrel
  by_cases h1:iv=133
  · subst h1
    go_wp2;refine bodyPost_end (v:=.tuple #[]) (by simp [results,Tryz.results119,go_sem]) rfl ?_
    obtain ⟨hMw,hMl,hMs,hbut⟩:=HA.out;exact ⟨rfl,M,HM.out,hMl,hMw,take_end M cv _ _ hMl hMw hMs,hbut⟩
  by_cases h2:cv=0
  · subst h2
    have h3:(iv:Int)<133:=by omega
    go_wp2;refine bodyPost_end (v:=.tuple #[]) (by simp [results,Tryz.results119,go_sem]) rfl ?_
    obtain ⟨hMw,hMl,hMs,hbut⟩:=HA.out;exact ⟨rfl,M,HM.out,hMl,hMw,take_end M 0 _ _ hMl hMw (by rw [hMs];simp),hbut⟩
  · have h3:iv<133:=by omega
    have h4:0<cv:=by omega
    obtain ⟨hMw,hMl,hMs,hbut⟩:=HA.out;have hgc:=HM.out.cell iv (by omega)
    have hgf:=HM.out.frozen iv;obtain ⟨x,hx⟩:∃ x:Nat,M.getD iv 0=x:=⟨_,rfl⟩;have hxl:x<4294967296:=hx ▸ hMw.get _;rw [hx] at hgc;obtain ⟨lo,hlo⟩:∃ lo:Nat,cv%4294967296=lo:=⟨_,rfl⟩;obtain ⟨hi',hhi⟩:∃ hi':Nat,cv/4294967296=hi':=⟨_,rfl⟩;have e1:(cv:Int)%4294967296=(lo:Int):=by omega
    have e2:(cv:Int)/4294967296=(hi':Int):=by omega
    have b1:lo<4294967296:=by omega
    have b2:hi'<2147483648:=by omega
    have HX:Aside (M.getD iv 0=x∧cv=lo+hi'*4294967296):=⟨hx,by omega⟩
    clear hx hMw hMl hMs hbut h1 h2 hlo hhi;obtain ⟨k,rfl⟩:∃ k,gk=k+1:=⟨gk-1,by omega⟩
    by_cases hlt:x<lo
    · have h5:decide (x<lo)=true:=by simp [hlt]
      go_wp2
      go_region
      all_goals (
       go_wp2
       go_roundg k
       case measure=>omega
       case rel =>
        obtain ⟨hMw,hMl,hMs,hbut⟩:=HA.out;have e3:((x:Int)-(lo:Int))%4294967296=((x+4294967296-lo:Nat):Int):=by omega
        rw [e3];exact ⟨hi'+1,iv+1,M.set iv (x+4294967296-lo),by omega,by omega,by simp,by omega,by simp,(HM.out.set iv _).drew,hMw.set _ _ (by omega),by simp [hMl],take_step M iv cv _ _ _ lo hi' 1 (by omega) (by rw [HX.out.1];omega) HX.out.2 hMs,(hbut.set iv _).drew⟩)
    · have h5:decide (x<lo)=false:=by simp [hlt]
      go_wp2
      go_region
      all_goals (
       go_wp2
       go_roundg k
       case measure=>omega
       case rel =>
        obtain ⟨hMw,hMl,hMs,hbut⟩:=HA.out;have e3:((x:Int)-(lo:Int))=((x-lo:Nat):Int):=by omega
        rw [e3];exact ⟨hi',iv+1,M.set iv (x-lo),by omega,by omega,by simp,by omega,by simp,(HM.out.set iv _).drew,hMw.set _ _ (by omega),by simp [hMl],by have:=take_step M iv cv _ _ (x-lo) lo hi' 0 (by omega) (by rw [HX.out.1];omega) HX.out.2 hMs;simpa using this,(hbut.set iv _).drew⟩)
end
section
open Go.RowKit
def Bl (w:World) (g T:Nat) (C:List Value):Prop:=w.heap[g]?=some (.cells C.toArray T (0,0))
theorem Bl.lt {w:World}{g T:Nat}{C:List Value}(h:Bl w g T C):g<w.heap.size:=(Array.getElem?_eq_some_iff.1 h).1
theorem Bl.cell {w:World}{g T:Nat}{C:List Value}(h:Bl w g T C) (i:Nat) (v:Value) (hv:C[i]?=some v):w.cell? ⟨g,i,none⟩=some v:=by
 unfold Bl at h;simp [World.cell?,h,hv]
theorem Bl.frozen {w:World}{g T:Nat}{C:List Value}(h:Bl w g T C) (i:Nat):w.frozen? ⟨g,i,none⟩=false:=by
 unfold Bl at h;simp [World.frozen?,h]
theorem Bl.set {w:World}{g T:Nat}{C:List Value}(h:Bl w g T C) (i:Nat) (v:Value):Bl (w.setCell ⟨g,i,none⟩ v) g T (C.set i v):=by
 unfold Bl at h ⊢;simp [World.setCell,Array.getElem?_modify,h]
theorem Bl.drew {w:World}{g T:Nat}{C:List Value}(h:Bl w g T C):Bl w.drew g T C:=h
theorem Bl.below {w w':World}{g T B:Nat}{C:List Value}(h:Bl w g T C) (hb:Below B w w') (hg:g<B):Bl w' g T C:=by
 unfold Bl at h ⊢;rw [hb.block g hg];exact h
theorem Bl.but {w w':World}{g g' T:Nat}{C:List Value}(h:Bl w g T C) (hb:But g' w w') (hg:g≠g'):Bl w' g T C:=by
 unfold Bl at h ⊢;rw [hb.block g (Bl.lt h) hg];exact h
theorem Bl.range {w:World}{g T:Nat}{C:List Value}(h:Bl w g T C) (o:Nat) (cs:List Value) (hc:∀ j v,cs[j]?=some v→C[o+j]?=some v):w.rangeAt g o cs :=
 fun j v hv=>h.cell _ _ (hc j v hv)
theorem Bl.there {w:World}{g T:Nat}{C:List Value}(h:Bl w g T C) (o n:Nat) (hn:o+n≤C.length):w.there g o n :=
 fun j hj=>⟨by rw [h.cell (o+j) _ (List.getElem?_eq_getElem (by omega))];rfl,h.frozen _⟩
theorem Bl.setCells {g T:Nat}:∀ (vs:List Value) (o:Nat) {w:World}{C:List Value}(h:Bl w g T C) (hn:o+vs.length≤C.length),Bl (w.setCells g o vs) g T (C.take o++vs++C.drop (o+vs.length))
 | [],o,w,C,h,hn=>by simpa [World.setCells] using h
 | v::r,o,w,C,h,hn=>by
   rw [World.setCells];have:=Bl.setCells r (o+1) (h.set o v) (by simp at hn ⊢;omega)
   simp only [List.length_cons] at hn
   have e:(C.set o v).take (o+1)++r++(C.set o v).drop (o+1+r.length)=C.take o++(v::r)++C.drop (o+(v::r).length):=by
    rw [List.drop_set,if_pos (by omega),List.take_succ_eq_append_getElem (by simp;omega),List.getElem_set_self,List.take_set,List.set_eq_of_length_le (by simp;omega)]
    simp [Nat.add_assoc,Nat.add_comm 1]
   rw [e] at this;exact this
theorem Bl.setAll {g T:Nat}{w:World}{C vs:List Value}(h:Bl w g T C) (hn:vs.length=C.length):Bl (w.setCells g 0 vs) g T vs:=by
 have:=Bl.setCells vs 0 h (by omega)
 rw [hn] at this;simpa using this
theorem But.setCells {g:Nat}{a:World}:∀ (vs:List Value) (o:Nat) {w:World}(h:But g a w),But g a (w.setCells g o vs)
 | [],o,w,h=>h
 | v::r,o,w,h=>by rw [World.setCells];exact But.setCells r (o+1) (h.set o v)
theorem bel_alloc (w:World) (o:Obj):Below w.heap.size w (w.alloc o):=(Below.refl _ _).alloc (Nat.le_refl _) _
theorem Bl.alloc {w:World}{g T:Nat}{C:List Value}(h:Bl w g T C) (o:Obj):Bl (w.alloc o) g T C:=by
 unfold Bl at h ⊢;rw [(bel_alloc w o).block g (Bl.lt h)];exact h
theorem Bl.new (w:World) (T:Nat) (C:List Value):Bl (w.alloc (.cells C.toArray T)) w.heap.size T C:=by
 unfold Bl;rw [heap_alloc_new]
theorem Bl.new' (w:World) (T n:Nat) (C:List Value) (hn:n=w.heap.size):Bl (w.alloc (.cells C.toArray T)) n T C:=by
 subst hn;exact Bl.new w T C
theorem Wb.bl {w:World}{g:Nat}{L:List Nat}(h:Wb w g L):Bl w g 112 (L.map U):=h
theorem Bl.wb {w:World}{g:Nat}{L:List Nat}(h:Bl w g 112 (L.map U)):Wb w g L:=h
theorem oneCell_U (L:List Nat):((L.map U).toArray).all (·.oneCell')=true:=all_oneCell_toArray fun v hv=>by
 obtain ⟨x,_,rfl⟩:=List.mem_map.1 hv;rfl
theorem Tryz.zero_words:Tryz.zeroCells112=(List.replicate 133 (Value.int .u32 0)).toArray:=by kernel_rfl
theorem Tryz.size_words:(Tryz.prog.info? 112).map (·.size)=some 133:=by kernel_rfl
theorem Tryz.desc_words:Tryz.prog.underlying 112=some (.array 133 90):=by kernel_rfl
theorem emod_add' (x y n:Int):(x%n+y)%n=(x+y)%n:=by simp
def sgn7 (ng:Bool) (T:Nat):Int:=if ng then -(T:Int) else (T:Int)
theorem sgn_zero (ng:Bool):sgn7 ng 0=0:=by cases ng <;> simp [sgn7]
theorem sgn_add (ng:Bool) (a b:Nat):sgn7 ng (a+b)=sgn7 ng a+sgn7 ng b:=by cases ng <;> simp [sgn7];omega
theorem with_step (xs:List Nat) (k p:Nat) (hk:k<xs.length):val (xs.take (k+1))*2^p=val (xs.take k)*2^p+xs.getD k 0*2^(p+32*k):=by
 rw [val_take_succ xs k hk,Nat.add_mul,pw_pow,Nat.pow_add]
 congr 1
 rw [Nat.mul_comm (2^(32*k)),Nat.mul_assoc,Nat.mul_comm (2^(32*k))]
theorem with_any (L xs:List Nat) (ao:Option Addr) (n cap p:Nat) (kd:Int) (ng:Bool) (w:World) (hl:L.length=133) (hL:Wf L) (hA:Arg w ao n cap xs) (hp:p+32*n≤4256) :
 Calls Tryz.prog 100 #[.agg (L.map U).toArray,.agg #[.int .i64 kd,.bool ng,.slice ao n cap,.int .i64 (p:Nat)]] w fun r w' =>
  ∃ M,r=.returned (.agg (M.map U).toArray)∧M.length=133∧Wf M∧(val M:Int)=((val L:Int)+sgn7 ng (val xs*2^p))%(PB:Int)∧Below w.heap.size w w':=by
 have HR:Aside (Wf L∧L.length=133∧Arg w ao n cap xs):=⟨hL,hl,hA⟩;clear hL hl hA;go_enter Tryz.func100,Tryz.ntmps100;go_wp2;obtain ⟨w3,hw3⟩:∃ w3,w3=(((w.alloc (Obj.cells (L.map U).toArray 112)).alloc (Obj.cells #[Value.int IntKind.i64 kd,Value.bool ng,Value.slice ao n cap,Value.int IntKind.i64 (p:Nat)] 117)).alloc (Obj.cells Tryz.zeroCells112 112)):=⟨_,rfl⟩;rw [←hw3]
 have H3:Aside (Below w.heap.size w w3∧Wb w3 w.heap.size L∧Bl w3 (w.heap.size+1) 117 [Value.int IntKind.i64 kd,Value.bool ng,Value.slice ao n cap,Value.int IntKind.i64 (p:Nat)]∧Bl w3 (w.heap.size+1+1) 112 (List.replicate 133 (Value.int .u32 0))∧w3.heap.size=w.heap.size+3):=by
  subst hw3;refine ⟨?_,?_,?_,?_,by simp⟩
  · exact ((bel_alloc w _).trans ((bel_alloc _ _).mono (by simp))).trans ((bel_alloc _ _).mono (by simp;omega))
  · exact (((Bl.new w 112 (L.map U)).alloc _).alloc _).wb
  · exact (Bl.new' (w.alloc (Obj.cells (L.map U).toArray 112)) 117 _ [_,_,_,_] (by simp)).alloc _
  · rw [Tryz.zero_words];exact Bl.new' _ 112 _ _ (by simp)
 clear hw3
 go_loopg [10] n (fun gk i wr=>∃ (k:Nat) (M:List Nat),gk+k=n∧i=.int .i64 (k:Nat) ∧
  Aside (Wb wr w.heap.size M∧Wf M∧M.length=133∧(val M:Int)=((val L:Int)+sgn7 ng (val (xs.take k)*2^p))%(PB:Int)∧But w.heap.size w3 wr))
 case atStart=>exact ⟨0,L,by omega,by simp,H3.out.2.1,HR.out.1,HR.out.2.1,by simp only [List.take_zero,val,Nat.zero_mul,sgn_zero,Int.add_zero];rw [Int.emod_eq_of_lt (by omega) (by have:=val_lt_PB HR.out.2.1 HR.out.1;omega)],But.refl _ _⟩
 case round =>
  obtain ⟨k,M,hgk,rfl,HA⟩:=hrel
  by_cases hk:k<n
  · obtain ⟨hL,hl,hA⟩:=HR.out
    obtain ⟨hM,hMw,hMl,hMs,hbut⟩:=HA.out;obtain ⟨b3,_,T3,Z3,s3⟩:=H3.out;obtain ⟨b,boff,hbB,rfl,hbc⟩:=hA.rd (by intro e;subst e;have:=hA.len;simp at this;omega)
    have hbk:wr.cell? ⟨b,boff+k,none⟩=some (.int .u32 ((xs.getD k 0:Nat):Int)):=by
     have h0:=b3.block b hbB;have h1:=hbut.block b (by omega) (by omega)
     exact (World.cell?_of_block (a:=⟨b,boff+k,none⟩) (h1.trans h0)).trans (hbc k (by rw [←hA.len];omega))
    have T4:=T3.but hbut (by omega)
    have c1:=T4.cell 1 _ rfl;have c3:=T4.cell 3 _ rfl;obtain ⟨y,hy⟩:∃ y:Nat,xs.getD k 0=y:=⟨_,rfl⟩;have hyl:y<4294967296:=hy ▸ hA.wf.get _;rw [hy] at hbk;have HX:Aside (xs.getD k 0=y):=hy;have HB:Aside (∀ i,i<xs.length→w.cell? ⟨b,boff+i,none⟩=some (.int .u32 ((xs.getD i 0:Nat):Int))):=hbc;clear hy hL hl hA hM hMw hMl hMs hbut b3 T3 Z3 s3 T4 hbc
    cases ng
    · go_wp2_with fail
      rw [show (p:Int)+32*(k:Int)=((p+32*k:Nat):Int) by simp]
      obtain ⟨hM,hMw,hMl,hMs,hbut⟩:=HA.out;refine (Calls.mono (wadd_any M w.heap.size y (p+32*k) wr hM hMl hMw hyl (by omega)) ?_)
      rintro r w' ⟨rfl,M',hM',hMl',hMw',hv',hb'⟩;have HA':Aside (Wb w' w.heap.size M'∧Wf M'∧M'.length=133∧val M'=(val M+y*2^(p+32*k))%PB∧But w.heap.size wr w'):=⟨hM',hMw',hMl',hv',hb'⟩;clear hM hMw hMl hMs hbut hM' hMl' hMw' hv' hb';go_wp2
      go_roundg (gk-1)
      case measure=>omega
      case rel =>
       obtain ⟨hM',hMw',hMl',hv',hb'⟩:=HA'.out;obtain ⟨hM,hMw,hMl,hMs,hbut⟩:=HA.out;refine ⟨k+1,M',by omega,by simp,hM',hMw',hMl',?_,hbut.trans hb'⟩
       rw [with_step xs k p (by rw [←HR.out.2.2.len];exact hk),HX.out,sgn_add,←Int.add_assoc,←emod_add',←hMs,hv']
       simp [sgn7]
    · go_wp2_with fail
      rw [show (p:Int)+32*(k:Int)=((p+32*k:Nat):Int) by simp]
      obtain ⟨hM,hMw,hMl,hMs,hbut⟩:=HA.out;refine (Calls.mono (wtake_any M w.heap.size y (p+32*k) wr hM hMl hMw hyl (by omega)) ?_)
      rintro r w' ⟨rfl,M',hM',hMl',hMw',hv',hb'⟩;have HA':Aside (Wb w' w.heap.size M'∧Wf M'∧M'.length=133∧(val M':Int)=((val M:Int)-((y*2^(p+32*k):Nat):Int))%(PB:Int)∧But w.heap.size wr w'):=⟨hM',hMw',hMl',hv',hb'⟩;clear hM hMw hMl hMs hbut hM' hMl' hMw' hv' hb';go_wp2
      go_roundg (gk-1)
      case measure=>omega
      case rel =>
       obtain ⟨hM',hMw',hMl',hv',hb'⟩:=HA'.out;obtain ⟨hM,hMw,hMl,hMs,hbut⟩:=HA.out;refine ⟨k+1,M',by omega,by simp,hM',hMw',hMl',?_,hbut.trans hb'⟩
       rw [with_step xs k p (by rw [←HR.out.2.2.len];exact hk),HX.out,sgn_add,←Int.add_assoc,←emod_add',←hMs,hv']
       simp only [sgn7,if_true,Int.sub_eq_add_neg]
  · obtain rfl:k=n:=by omega
    obtain ⟨hM,hMw,hMl,hMs,hbut⟩:=HA.out;obtain ⟨b3,_,T3,Z3,s3⟩:=H3.out;have HZ:Aside (Bl wr (w.heap.size+1+1) 112 (List.replicate 133 (Value.int .u32 0))):=Z3.but hbut (by omega)
    have HB:Aside (Below w.heap.size w w3∧w3.heap.size=w.heap.size+3):=⟨b3,s3⟩;clear hM hMw hMl hMs hbut b3 T3 Z3 s3
    go_wp2_with (first
     | (with_reducible refine wpList_load_mid (P:=Tryz.prog) rfl 112 (.tmp 2) rfl w.heap.size 0 rfl (M.map U) _ (HA.out.1.bl.range 0 _ (fun j v hv=>by simpa using hv)) Tryz.desc_words rfl (by simp [Tryz.size_words,HA.out.2.2.1]) ?_)
     | (with_reducible refine wpList_store_mid (P:=Tryz.prog) rfl 112 (.tmp 4) (.tmp 32) rfl (w.heap.size+1+1) 0 (M.map U).toArray rfl rfl (HZ.out.there 0 _ (by simp [HA.out.2.2.1])) (by simp [Tryz.size_words,HA.out.2.2.1]) (oneCell_U M) ?_))
    have hZ:Bl (wr.setCells (w.heap.size+1+1) 0 (M.map U)) (w.heap.size+1+1) 112 (M.map U):=HZ.out.setAll (by simp [HA.out.2.2.1])
    refine bodyPost_ret (v:=.agg (M.map U).toArray) (results_cell_row (P:=Tryz.prog) Tryz.results100 _ _ (w.heap.size+1+1) 112 _ _ _ rfl hZ Tryz.desc_words rfl (by simp [Tryz.size_words,HA.out.2.2.1])) rfl ?_
    obtain ⟨hM,hMw,hMl,hMs,hbut⟩:=HA.out;obtain ⟨b3,s3⟩:=HB.out;refine ⟨M,rfl,hMl,hMw,?_,?_⟩
    · rw [hMs,List.take_of_length_le (by rw [←HR.out.2.2.len];exact Nat.le_refl _)]
    · exact But.below (But.below b3 hbut (by omega) (Nat.le_refl _)) (But.setCells _ _ (But.refl _ _)) (by have:=hbut.size;omega) (by omega)
end
section
open Go.RowKit
def Hd (w:World) (g:Nat) (L:List Nat):Prop:=g<w.heap.size∧∀ i,i<L.length→w.cell? ⟨g,i,none⟩=some (.int .u32 ((L.getD i 0:Nat):Int))
theorem Hd.below {w w':World}{g B:Nat}{L:List Nat}(h:Hd w g L) (hb:Below B w w') (hg:g<B) (hB:B≤w.heap.size):Hd w' g L :=
 ⟨by have:=hb.size;omega,fun i hi=>(hb.cell (p:=⟨g,i,none⟩) hg).trans (h.2 i hi)⟩
theorem Bl.hd {w:World}{g T:Nat}{L:List Nat}{C:List Value}(h:Bl w g T (L.map U++C)):Hd w g L :=
 ⟨h.lt,fun i hi=>h.cell i _ (by rw [List.getElem?_append_left (by simpa using hi)];simp [U,List.getD_eq_getElem?_getD,List.getElem?_eq_getElem hi])⟩
theorem Wb.hd {w:World}{g:Nat}{L:List Nat}(h:Wb w g L):Hd w g L:=⟨h.lt,fun i hi=>h.cell i hi⟩
end
section
open Go.RowKit
theorem Tryz.plain_u32:Tryz.prog.plainKey 90=true:=by kernel_rfl
theorem Tryz.cells_u32:Tryz.prog.cellsOf 90=1:=by kernel_rfl
theorem Tryz.under_u32:Tryz.prog.underlying 90=some (.int .u32):=by kernel_rfl
theorem Tryz.there_u32:(Tryz.prog.info? 90).isSome=true:=by kernel_rfl
theorem eq_items (L K:List Nat) (d:Nat) (w:World):∀ (is:List Nat),(∀ i ∈ is,i<L.length∧i<K.length) →
 (Op.eqItems (d+1) 90 1 (L.map U).toArray (K.map U).toArray is).run Tryz.prog w=.ok (decide (∀ i ∈ is,L.getD i 0=K.getD i 0)) w
 | [],_=>by simp [Op.eqItems]
 | i::is,h=>by
   obtain ⟨h1,h2⟩:=h i (by simp)
   have ih:=eq_items L K d w is (fun j hj=>h j (by simp [hj]))
   have p1:(part 90 (L.map U).toArray (i*1)).run Tryz.prog w=.ok (.int .u32 ((L.getD i 0:Nat):Int)) w :=
    run_part_plain _ Tryz.plain_u32 (by simp [U,List.getD_eq_getElem?_getD,List.getElem?_eq_getElem h1])
   have p2:(part 90 (K.map U).toArray (i*1)).run Tryz.prog w=.ok (.int .u32 ((K.getD i 0:Nat):Int)) w :=
    run_part_plain _ Tryz.plain_u32 (by simp [U,List.getD_eq_getElem?_getD,List.getElem?_eq_getElem h2])
   simp only [Op.eqItems,Sem.run_bind,p1,p2,Result.andThen_ok,run_equalIn_int w d 90 .u32 .u32 _ _ Tryz.under_u32]
   by_cases e:L.getD i 0=K.getD i 0
   · rw [e]
     simp only [beq_self_eq_true,Bool.not_true];rw [if_neg (by decide),ih]
     simp only [List.mem_cons,forall_eq_or_imp,e,true_and]
   · have e2:(((L.getD i 0:Nat):Int)==((K.getD i 0:Nat):Int))=false:=by simp only [beq_eq_false_iff_ne,ne_eq];omega
     rw [e2];simp only [List.mem_cons,forall_eq_or_imp,e,false_and,decide_false,Bool.not_false,if_true,Sem.run_pure]
theorem eq_words (L K:List Nat) (w:World) (hl:L.length=133) (hk:K.length=133) :
 (Op.equalIn 10000 112 (.agg (L.map U).toArray) (.agg (K.map U).toArray)).run Tryz.prog w=.ok (decide (L=K)) w:=by
 obtain ⟨i,hi⟩:=Option.isSome_iff_exists.1 Tryz.there_u32;rw [show (10000:Nat)=9999+1 by rfl,run_equalIn_array _ 9999 _ _ Tryz.desc_words hi,Tryz.cells_u32,show (9999:Nat)=9998+1 by rfl,eq_items L K 9998 w (List.range 133) (fun i hi=>by simp at hi;omega)]
 congr 1
 rw [decide_eq_decide]
 constructor
 · intro h
   apply List.ext_getElem (by omega)
   intro i h1 h2;have:=h i (by simp;omega)
   simpa [List.getD_eq_getElem?_getD,List.getElem?_eq_getElem h1,List.getElem?_eq_getElem h2] using this
 · rintro rfl i _;rfl
def lowL:List Nat:=List.replicate 132 0++[4294950912]
theorem Tryz.low_words:Tryz.zeroCells112.setIfInBounds 132 (Value.int IntKind.u32 4294950912)=(lowL.map U).toArray:=by kernel_rfl
theorem lowL_len:lowL.length=133:=by simp [lowL]
theorem below_lo (g t:Nat) (w:World) (hc:w.cell? ⟨g,132,none⟩=some (.int .u32 (t:Nat))) (ht:t<2147483648) :
 Calls Tryz.prog 80 #[.pointer (some ⟨g,0,none⟩)] w fun r w'=>r=.returned (.bool false)∧w'=w:=by
 go_enter Tryz.func80,Tryz.ntmps80;go_wp2;refine bodyPost_ret (v:=.bool false) (by simp [results,Tryz.results80,go_sem]) rfl ⟨rfl,rfl⟩
theorem below_hi (g t:Nat) (w:World) (hc:w.cell? ⟨g,132,none⟩=some (.int .u32 (t:Nat))) (ht0:2147483648≤t) (ht:t<4294967296) :
 Calls Tryz.prog 80 #[.pointer (some ⟨g,0,none⟩)] w fun r w'=>r=.returned (.bool true)∧w'=w:=by
 have hw:wrap32 (t:Int)=(t:Int)-4294967296:=by unfold wrap32;omega
 go_enter Tryz.func80,Tryz.ntmps80;go_wp2;refine bodyPost_ret (v:=.bool true) (by simp [results,Tryz.results80,go_sem];omega) rfl ⟨rfl,rfl⟩
theorem beyond_lo (g t:Nat) (w:World) (hc:w.cell? ⟨g,132,none⟩=some (.int .u32 (t:Nat))) (ht:t<16384) :
 Calls Tryz.prog 118 #[.pointer (some ⟨g,0,none⟩)] w fun r w'=>r=.returned (.bool false)∧w'=w:=by
 have hw:((t:Int)/16384==0)=true:=by simp;omega
 go_enter Tryz.func118,Tryz.ntmps118;go_wp2;refine bodyPost_ret (v:=.bool false) (by simp [results,Tryz.results118,go_sem]) rfl ⟨rfl,rfl⟩
theorem beyond_mid (g t:Nat) (w:World) (hc:w.cell? ⟨g,132,none⟩=some (.int .u32 (t:Nat))) (ht0:16384≤t) (ht:t<4294950912) :
 Calls Tryz.prog 118 #[.pointer (some ⟨g,0,none⟩)] w fun r w'=>r=.returned (.bool true)∧w'=w:=by
 have hw0:(wrap32 (t:Int)/16384==0)=false:=by simp;unfold wrap32;omega
 have hw1:(wrap32 (t:Int)/16384==-1)=false:=by simp;unfold wrap32;omega
 go_enter Tryz.func118,Tryz.ntmps118;go_wp2;refine bodyPost_ret (v:=.bool true) (by simp [results,Tryz.results118,go_sem]) rfl ⟨rfl,rfl⟩
theorem beyond_hi (g t:Nat) (L:List Nat) (w:World) (hc:w.cell? ⟨g,132,none⟩=some (.int .u32 (t:Nat))) (hr:w.rangeAt g 0 (L.map U)) (hl:L.length=133) (ht0:4294950912≤t) (ht:t<4294967296) :
 Calls Tryz.prog 118 #[.pointer (some ⟨g,0,none⟩)] w fun r w'=>r=.returned (.bool (decide (L=lowL)))∧w'=w:=by
 have hw0:(wrap32 (t:Int)/16384==0)=false:=by simp;unfold wrap32;omega
 have hw1:(wrap32 (t:Int)/16384==-1)=true:=by simp;unfold wrap32;omega
 have HL:Aside (L.length=133∧w.rangeAt g 0 (L.map U)):=⟨hl,hr⟩;clear hl hr;go_enter Tryz.func118,Tryz.ntmps118
 go_wp2_with (first | (with_reducible refine wpList_load_mid (P:=Tryz.prog) rfl 112 (.tmp 14) rfl g 0 rfl (L.map U) _ HL.out.2 Tryz.desc_words rfl (by simp [Tryz.size_words,HL.out.1]) ?_))
 rw [Tryz.low_words,eq_words L _ w HL.out.1 lowL_len];generalize hb:decide (L=lowL)=b;generalize hK:lowL=K at hb;have HK:Aside (decide (L=lowL)=b):=by rw [hK];exact hb
 clear hb hK;simp only [Result.andThen_ok,Oper.upon];go_wp2;exact bodyPost_ret (v:=.bool b) (by simp [results,Tryz.results118,go_sem]) rfl ⟨by rw [HK.out],rfl⟩
def HB:Nat:=16384*pw 132
theorem HB_pos:0<HB:=Nat.mul_pos (by decide) (pw_pos _)
theorem PB_top:PB=4294967296*pw 132:=by unfold PB;exact pw_succ 132
attribute [irreducible] HB
theorem HB_eq:HB=16384*pw 132:=by unfold HB;rfl
theorem top_val (L:List Nat) (hl:L.length=133) (hL:Wf L):∃ r,r<pw 132∧val L=r+pw 132*L.getD 132 0:=by
 refine ⟨val (L.take 132),?_,?_⟩
 · have:=val_lt (L.take 132) (hL.take 132)
   rwa [show (L.take 132).length=132 by simp;omega] at this
 · have h:=val_take_succ L 132 (by omega)
   rwa [List.take_of_length_le (by omega)] at h
theorem val_lowL:val lowL=4294950912*pw 132:=by
 unfold lowL;rw [val_append,val_zeros,List.length_replicate,Nat.zero_add,Nat.mul_comm];rfl
theorem wf_lowL:Wf lowL:=by
 intro y hy;unfold lowL at hy
 rcases List.mem_append.1 hy with h|h
 · have:=List.eq_of_mem_replicate h;omega
 · have:=List.mem_singleton.1 h;omega
theorem val_inj {L K:List Nat}(hl:L.length=K.length) (hL:Wf L) (hK:Wf K) (h:val L=val K):L=K:=by
 induction L generalizing K with
 | nil=>cases K <;> simp_all
 | cons x xs ih =>
   cases K with
   | nil=>simp at hl
   | cons y ys =>
     simp only [val] at h;have h1:=hL.head;have h2:=hK.head;have e1:x=y:=by omega
     have e2:val xs=val ys:=by omega
     rw [e1,ih (by simpa using hl) hL.tail hK.tail e2]
def neg7 (N:Nat):Bool:=decide (PB≤2*N)
theorem below_any (g:Nat) (L:List Nat) (w:World) (hl:L.length=133) (hL:Wf L) (hH:Hd w g L) :
 Calls Tryz.prog 80 #[.pointer (some ⟨g,0,none⟩)] w fun r w'=>r=.returned (.bool (neg7 (val L)))∧w'=w:=by
 have hc:=hH.2 132 (by omega)
 obtain ⟨r,hr,hv⟩:=top_val L hl hL;have ht:=hL.get 132;generalize L.getD 132 0=t at hc hv ht;have h0:=pw_pos 132
 by_cases h:t<2147483648
 · have e:neg7 (val L)=false:=by
    unfold neg7;rw [decide_eq_false_iff_not,hv,PB_top];generalize pw 132=q at hr h0 ⊢;have:q*t≤q*2147483647:=Nat.mul_le_mul_left _ (by omega)
    omega
   rw [e];exact below_lo g t w hc h
 · have e:neg7 (val L)=true:=by
    unfold neg7;rw [decide_eq_true_iff,hv,PB_top];generalize pw 132=q at hr h0 ⊢;have:q*2147483648≤q*t:=Nat.mul_le_mul_left _ (by omega)
    omega
   rw [e];exact below_hi g t w hc (by omega) ht
def bey (N:Nat):Bool:=decide (HB≤N∧N≤PB-HB)
theorem beyond_any (g:Nat) (L:List Nat) (w:World) (hl:L.length=133) (hL:Wf L) (hH:Hd w g L) :
 Calls Tryz.prog 118 #[.pointer (some ⟨g,0,none⟩)] w fun r w'=>r=.returned (.bool (bey (val L)))∧w'=w:=by
 have hc:=hH.2 132 (by omega)
 obtain ⟨r,hr,hv⟩:=top_val L hl hL;have ht:=hL.get 132
 have hg:w.rangeAt g 0 (L.map U):=fun j v hj=>by
  have hj2:j<L.length:=by have:=(List.getElem?_eq_some_iff.1 hj).1;simpa using this
  rw [Nat.zero_add,hH.2 j hj2,←hj,List.getElem?_map,List.getElem?_eq_getElem hj2,List.getD_eq_getElem?_getD,List.getElem?_eq_getElem hj2]
  rfl
 generalize htt:L.getD 132 0=t at hc hv ht;have h0:=pw_pos 132;have eP:=PB_top;have eH:=HB_eq;have eL:=val_lowL;generalize pw 132=q at hr h0 hv eP eH eL
 by_cases h:t<16384
 · have e:bey (val L)=false:=by
    unfold bey;rw [decide_eq_false_iff_not,hv];have:q*t≤q*16383:=Nat.mul_le_mul_left _ (by omega)
    omega
   rw [e];exact beyond_lo g t w hc h
 by_cases h2:t<4294950912
 · have e:bey (val L)=true:=by
    unfold bey;rw [decide_eq_true_iff,hv];have a1:q*16384≤q*t:=Nat.mul_le_mul_left _ (by omega)
    have a2:q*t≤q*4294950911:=Nat.mul_le_mul_left _ (by omega)
    omega
   rw [e];exact beyond_mid g t w hc (by omega) h2
 · have e:bey (val L)=decide (L=lowL):=by
    unfold bey;rw [decide_eq_decide]
    constructor
    · intro hb
      have a1:q*4294950912≤q*t:=Nat.mul_le_mul_left _ (by omega)
      refine val_inj (by rw [hl,lowL_len]) hL wf_lowL ?_
      rw [eL];omega
    · rintro rfl
      rw [eL];omega
   rw [e];exact beyond_hi g t L w hc hg hl (by omega) ht
end
end Go.Proofs.YtopgffjnejaijaaGreatDoor
