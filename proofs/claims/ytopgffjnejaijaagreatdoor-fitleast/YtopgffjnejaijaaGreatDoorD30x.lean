import Derived.Test.YtopgffjnejaijaaGreatDoorD16x
import Derived.Deep.Cut
import Derived.Deep.RegionHeld3
import Derived.Test.YtopgffjnejaijaaGreatDoorD21x
import Derived.Deep.RegionWith
import Derived.Deep.CutRange
import Derived.Test.YtopgffjnejaijaaGreatDoorW24x
import Derived.BigQuiet
import Ieee.Arith
import Derived.Test.YtopgffjnejaijaaGreatDoorBIeeex
import Derived.Test.YtopgffjnejaijaaGreatDoorS11ax
import Derived.Laws.Bits64
import Derived.Laws.Bits64b
set_option linter.unusedVariables false
set_option linter.unusedSimpArgs false
set_option maxHeartbeats 16000000
set_option maxRecDepth 20000
namespace Go.Proofs.YtopgffjnejaijaaGreatDoor
section
open Go.RowKit
theorem mul_res (W:World) (g:Nat) (n:Bool) (v:Value) (e k:Int) (tmps:Array Value) (ht:tmps[4]?.getD undef=.pointer (some ⟨g,0,none⟩)) (hk:tmps[5]?.getD undef=.int .i64 k) (D:Dk W g n v e) :
 (results Tryz.f17 tmps).run Tryz.prog W=.ok (.tuple #[.agg #[.bool n,v,.int .i64 e],.int .i64 k]) W:=by
 obtain ⟨x0,x1,x2,xf0,xf1,xf2⟩:=D.facts;simp [results,Tryz.results17,ht,hk,go_sem,x0,x1,x2]
theorem mul_bad {w:World}{a b:Option Addr}{l c k d:Nat}(n m:Bool) (e f:Int) (HFM:Hid (∀ u,Below w.heap.size w u→Calls Tryz.prog 36 #[.agg #[.bool n,.slice a l c,.int .i64 e],.agg #[.bool m,.slice b k d,.int .i64 f]] u fun r w'=>r=.returned (.tuple #[.agg #[.bool false,.slice none 0 0,.int .i64 0],.agg #[.bool false,.slice none 0 0,.int .i64 0],.int .i64 2])∧Below u.heap.size u w')):Calls Tryz.prog 17 #[.agg #[.bool n,.slice a l c,.int .i64 e],.agg #[.bool m,.slice b k d,.int .i64 f]] w fun r w'=>r=.returned (.tuple #[.agg #[.bool false,.slice none 0 0,.int .i64 0],.int .i64 2])∧Below w.heap.size w w':=by
 obtain ⟨W1,hW1⟩:∃ W,W=((w.alloc (.cells #[.bool n,.slice a l c,.int .i64 e] 42)).alloc (.cells #[.bool m,.slice b k d,.int .i64 f] 42)).alloc (.cells #[.bool false,.slice none 0 0,.int .i64 0] 42):=⟨_,rfl⟩;obtain ⟨hB,hz1,DA,DB,DR⟩:=add_begin w n m (.slice a l c) (.slice b k d) e f W1 hW1;have H1:=hid (HFM.out W1 hB);have SB:=(qsd (ai hB (ai hz1 (ai DA (ai DB DR)))));clear hB hz1 DA DB DR HFM;go_enter Tryz.func17,Tryz.ntmps17
 go_wp2_with fail
 rw [←hW1];clear hW1;refine H1.out.mono ?_;rintro r u1 ⟨rfl,hb⟩;obtain ⟨hB,hz1,DA,DB,DR⟩:=SB.out;have EA:=DA.below hb;have EB:=DB.below hb;have ER:=DR.below hb;obtain ⟨x0,x1,x2,xf0,xf1,xf2⟩:=EA.facts;obtain ⟨y0,y1,y2,yf0,yf1,yf2⟩:=EB.facts;obtain ⟨r0,r1,r2,rf0,rf1,rf2⟩:=ER.facts;have F1:=qsd (show Fin w.heap.size (w.heap.size+3) w u1 (.slice none 0 0) 0 from ⟨Nt.nil _ _,hB.trans (hb.mono (by omega)),by have:=hb.size;omega⟩)
 have SE:=qsd ER;clear hb H1 hB hz1 DA DB DR EA EB ER SB;go_wp2;refine bodyPost_ret (mul_res _ (w.heap.size+1+1) false (.slice none 0 0) 0 2 _ rfl rfl (((SE.out.other _ (by omega) _ _ _).other _ (by omega) _ _ _).set _ _ _)) rfl ⟨rfl,?_⟩
 refine Fin.bel (m:=w.heap.size+3) (v:=.slice none 0 0) (X:=0) ?_
 repeat (with_reducible first | exact F1.out | refine Fin.drew ?_ | refine Fin.alloc ?_ _ | refine Fin.set ?_ _ _ _ (by omega) (by omega))
theorem mul_long {w:World}{a b:Option Addr}{l c k d:Nat}(n m:Bool) (e f:Int) (n1 m1:Bool) (X Y:Nat) (e1 f1:Int) (lX:(ws X).length≤8192) (lY:(ws Y).length≤8192) (be0:-1048576≤e1) (be1:e1≤1048576) (bf0:-1048576≤f1) (bf1:f1≤1048576)
 (HFM:Hid (∀ u,Below w.heap.size w u→Calls Tryz.prog 36 #[.agg #[.bool n,.slice a l c,.int .i64 e],.agg #[.bool m,.slice b k d,.int .i64 f]] u fun r w'=>∃ v v',r=.returned (.tuple #[.agg #[.bool n1,v,.int .i64 e1],.agg #[.bool m1,v',.int .i64 f1],.int .i64 0])∧Nt u.heap.size w' v X∧Nt u.heap.size w' v' Y∧Below u.heap.size u w'))
 (HSH:Hid (∀ (u:World) (p:Option Addr) (q:Nat) (p2:Option Addr) (q2:Nat),Below w.heap.size w u→Arg u p (ws X).length q (ws X)→Arg u p2 (ws Y).length q2 (ws Y)→Calls Tryz.prog 37 #[.slice p (ws X).length q,.slice p2 (ws Y).length q2] u fun r w'=>∃ v,r=.returned (.tuple #[v,.int .i64 2])∧Nt u.heap.size w' v 0∧Below u.heap.size u w')):Calls Tryz.prog 17 #[.agg #[.bool n,.slice a l c,.int .i64 e],.agg #[.bool m,.slice b k d,.int .i64 f]] w fun r w'=>r=.returned (.tuple #[.agg #[.bool false,.slice none 0 0,.int .i64 0],.int .i64 2])∧Below w.heap.size w w':=by
 have l0:(ws 0).length=0:=by rw [ws_zero];rfl
 obtain ⟨W1,hW1⟩:∃ W,W=((w.alloc (.cells #[.bool n,.slice a l c,.int .i64 e] 42)).alloc (.cells #[.bool m,.slice b k d,.int .i64 f] 42)).alloc (.cells #[.bool false,.slice none 0 0,.int .i64 0] 42):=⟨_,rfl⟩;obtain ⟨hB,hz1,DA,DB,DR⟩:=add_begin w n m (.slice a l c) (.slice b k d) e f W1 hW1;have H1:=hid (HFM.out W1 hB);have SB:=(qsd (ai hB (ai hz1 (ai DA (ai DB DR)))));clear hB hz1 DA DB DR HFM;go_enter Tryz.func17,Tryz.ntmps17
 go_wp2_with fail
 rw [←hW1];clear hW1;refine H1.out.mono ?_;rintro r u1 ⟨v,v',rfl,hN,hM,hb⟩;obtain ⟨a1,c1,rfl,_⟩:=hN.arg (by omega)
 obtain ⟨a2,c2,rfl,_⟩:=hM.arg (by omega)
 obtain ⟨hB,hz1,DA,DB,DR⟩:=SB.out;have EA:=DA.below hb;have EB:=DB.below hb;have ER:=DR.below hb;obtain ⟨x0,x1,x2,xf0,xf1,xf2⟩:=EA.facts;obtain ⟨y0,y1,y2,yf0,yf1,yf2⟩:=EB.facts;obtain ⟨r0,r1,r2,rf0,rf1,rf2⟩:=ER.facts;have FX:=qsd (show Fin w.heap.size (w.heap.size+3) w u1 (.slice a1 (ws X).length c1) X from ⟨by rw [←hz1];exact hN,hB.trans (hb.mono (by omega)),by have:=hb.size;omega⟩)
 have FY:=qsd (show Fin w.heap.size (w.heap.size+3) w u1 (.slice a2 (ws Y).length c2) Y from ⟨by rw [←hz1];exact hM,hB.trans (hb.mono (by omega)),by have:=hb.size;omega⟩)
 have SE:=(qsd (ai EA (ai EB ER)));clear hN hM hb H1 hB hz1 DA DB DR EA EB ER SB;obtain ⟨EA,EB,ER⟩:=SE.out;obtain ⟨U1,hU1⟩:∃ U,U=st3 (st3 u1 w.heap.size (.bool n1) (.slice a1 (ws X).length c1) (.int .i64 e1)) (w.heap.size+1) (.bool m1) (.slice a2 (ws Y).length c2) (.int .i64 f1):=⟨_,rfl⟩;have IA:Dk U1 w.heap.size n1 (.slice a1 (ws X).length c1) e1:=by rw [hU1];exact ((EA.set _ _ _).other _ (by omega) _ _ _)
 have IB:Dk U1 (w.heap.size+1) m1 (.slice a2 (ws Y).length c2) f1:=by rw [hU1];exact ((EB.other _ (by omega) _ _ _).set _ _ _)
 have IR:Dk U1 (w.heap.size+1+1) false (.slice none 0 0) 0:=by rw [hU1];exact ((ER.other _ (by omega) _ _ _).other _ (by omega) _ _ _)
 have GX:Fin w.heap.size (w.heap.size+3) w U1 (.slice a1 (ws X).length c1) X:=by rw [hU1];exact (Fin.st3 (Fin.st3 FX.out _ _ _ _ (by omega) (by omega)) _ _ _ _ (by omega) (by omega))
 have GY:Fin w.heap.size (w.heap.size+3) w U1 (.slice a2 (ws Y).length c2) Y:=by rw [hU1];exact (Fin.st3 (Fin.st3 FY.out _ _ _ _ (by omega) (by omega)) _ _ _ _ (by omega) (by omega))
 have H2:=hid (HSH.out U1 a1 c1 a2 c2 GX.bel (GX.nt.arg' (by omega)).2 (GY.nt.arg' (by omega)).2)
 have S1:=(qsd (ai IA (ai IB (ai IR (ai GX GY)))));have hzU:w.heap.size+3≤U1.heap.size:=by have:=IR.lt;omega
 clear EA EB ER IA IB IR GX GY SE HSH;unfold st3 at hU1
 go_wp2_with fail
 rw [←hU1];clear hU1 x0 x1 x2 xf0 xf1 xf2 y0 y1 y2 yf0 yf1 yf2 r0 r1 r2 rf0 rf1 rf2;refine H2.out.mono ?_;rintro r u2 ⟨v,rfl,hN,hb⟩;obtain ⟨a3,c3,rfl,_⟩:=hN.arg (by omega)
 obtain ⟨IA,IB,IR,GX,GY⟩:=S1.out;obtain ⟨x0,x1,x2,xf0,xf1,xf2⟩:=(IA.below hb).facts;obtain ⟨y0,y1,y2,yf0,yf1,yf2⟩:=(IB.below hb).facts;obtain ⟨r0,r1,r2,rf0,rf1,rf2⟩:=(IR.below hb).facts;have S2:=(qsd (ai (IR.below hb) ((GX.below hb))));clear hN hb H2 S1 IA IB IR GX GY;go_wp2;refine bodyPost_ret (mul_res _ (w.heap.size+1+1) false (.slice none 0 0) 0 2 _ rfl rfl (S2.out.1.set _ _ _)) rfl ⟨rfl,?_⟩;refine Fin.bel (m:=w.heap.size+3) (v:=.slice a1 (ws X).length c1) (X:=X) ?_
 repeat (with_reducible first | exact S2.out.2 | refine Fin.drew ?_ | refine Fin.alloc ?_ _ | refine Fin.set ?_ _ _ _ (by omega) (by omega))
theorem mul_ok {w:World}{a b:Option Addr}{l c k d:Nat}(n m:Bool) (e f:Int) (n1 m1:Bool) (X Y:Nat) (e1 f1:Int) (lX:(ws X).length≤8192) (lY:(ws Y).length≤8192) (be0:-1048576≤e1) (be1:e1≤1048576) (bf0:-1048576≤f1) (bf1:f1≤1048576)
 (HFM:Hid (∀ u,Below w.heap.size w u→Calls Tryz.prog 36 #[.agg #[.bool n,.slice a l c,.int .i64 e],.agg #[.bool m,.slice b k d,.int .i64 f]] u fun r w'=>∃ v v',r=.returned (.tuple #[.agg #[.bool n1,v,.int .i64 e1],.agg #[.bool m1,v',.int .i64 f1],.int .i64 0])∧Nt u.heap.size w' v X∧Nt u.heap.size w' v' Y∧Below u.heap.size u w')) (L:Nat) (lL:(ws L).length≤8192) (dn:Bool) (V:Nat) (de er:Int) (lV:(ws V).length≤8192)
 (HSH:Hid (∀ (u:World) (p:Option Addr) (q:Nat) (p2:Option Addr) (q2:Nat),Below w.heap.size w u→Arg u p (ws X).length q (ws X)→Arg u p2 (ws Y).length q2 (ws Y)→Calls Tryz.prog 37 #[.slice p (ws X).length q,.slice p2 (ws Y).length q2] u fun r w'=>∃ v,r=.returned (.tuple #[v,.int .i64 0])∧Nt u.heap.size w' v L∧Below u.heap.size u w'))
 (HT:Hid (∀ (u:World) (p:Option Addr) (s:Nat),Below w.heap.size w u→Arg u p (ws L).length s (ws L)→Calls Tryz.prog 34 #[.bool (n1 != m1),.slice p (ws L).length s,.int .i64 (e1+f1)] u fun r w'=>(∃ v,r=.returned (.tuple #[.agg #[.bool dn,v,.int .i64 de],.int .i64 er])∧Nt u.heap.size w' v V)∧Below u.heap.size u w')):Calls Tryz.prog 17 #[.agg #[.bool n,.slice a l c,.int .i64 e],.agg #[.bool m,.slice b k d,.int .i64 f]] w fun r w'=>(∃ v,r=.returned (.tuple #[.agg #[.bool dn,v,.int .i64 de],.int .i64 er])∧Nt w.heap.size w' v V)∧Below w.heap.size w w':=by
 obtain ⟨W1,hW1⟩:∃ W,W=((w.alloc (.cells #[.bool n,.slice a l c,.int .i64 e] 42)).alloc (.cells #[.bool m,.slice b k d,.int .i64 f] 42)).alloc (.cells #[.bool false,.slice none 0 0,.int .i64 0] 42):=⟨_,rfl⟩;obtain ⟨hB,hz1,DA,DB,DR⟩:=add_begin w n m (.slice a l c) (.slice b k d) e f W1 hW1;have H1:=hid (HFM.out W1 hB);have SB:=(qsd (ai hB (ai hz1 (ai DA (ai DB DR)))));clear hB hz1 DA DB DR HFM;go_enter Tryz.func17,Tryz.ntmps17
 go_wp2_with fail
 rw [←hW1];clear hW1;refine H1.out.mono ?_;rintro r u1 ⟨v,v',rfl,hN,hM,hb⟩;obtain ⟨a1,c1,rfl,_⟩:=hN.arg (by omega)
 obtain ⟨a2,c2,rfl,_⟩:=hM.arg (by omega)
 obtain ⟨hB,hz1,DA,DB,DR⟩:=SB.out;have EA:=DA.below hb;have EB:=DB.below hb;have ER:=DR.below hb;obtain ⟨x0,x1,x2,xf0,xf1,xf2⟩:=EA.facts;obtain ⟨y0,y1,y2,yf0,yf1,yf2⟩:=EB.facts;obtain ⟨r0,r1,r2,rf0,rf1,rf2⟩:=ER.facts;have FX:=qsd (show Fin w.heap.size (w.heap.size+3) w u1 (.slice a1 (ws X).length c1) X from ⟨by rw [←hz1];exact hN,hB.trans (hb.mono (by omega)),by have:=hb.size;omega⟩)
 have FY:=qsd (show Fin w.heap.size (w.heap.size+3) w u1 (.slice a2 (ws Y).length c2) Y from ⟨by rw [←hz1];exact hM,hB.trans (hb.mono (by omega)),by have:=hb.size;omega⟩)
 have SE:=(qsd (ai EA (ai EB ER)));clear hN hM hb H1 hB hz1 DA DB DR EA EB ER SB;obtain ⟨EA,EB,ER⟩:=SE.out;obtain ⟨U1,hU1⟩:∃ U,U=st3 (st3 u1 w.heap.size (.bool n1) (.slice a1 (ws X).length c1) (.int .i64 e1)) (w.heap.size+1) (.bool m1) (.slice a2 (ws Y).length c2) (.int .i64 f1):=⟨_,rfl⟩;have IA:Dk U1 w.heap.size n1 (.slice a1 (ws X).length c1) e1:=by rw [hU1];exact ((EA.set _ _ _).other _ (by omega) _ _ _)
 have IB:Dk U1 (w.heap.size+1) m1 (.slice a2 (ws Y).length c2) f1:=by rw [hU1];exact ((EB.other _ (by omega) _ _ _).set _ _ _)
 have IR:Dk U1 (w.heap.size+1+1) false (.slice none 0 0) 0:=by rw [hU1];exact ((ER.other _ (by omega) _ _ _).other _ (by omega) _ _ _)
 have GX:Fin w.heap.size (w.heap.size+3) w U1 (.slice a1 (ws X).length c1) X:=by rw [hU1];exact (Fin.st3 (Fin.st3 FX.out _ _ _ _ (by omega) (by omega)) _ _ _ _ (by omega) (by omega))
 have GY:Fin w.heap.size (w.heap.size+3) w U1 (.slice a2 (ws Y).length c2) Y:=by rw [hU1];exact (Fin.st3 (Fin.st3 FY.out _ _ _ _ (by omega) (by omega)) _ _ _ _ (by omega) (by omega))
 have H2:=hid (HSH.out U1 a1 c1 a2 c2 GX.bel (GX.nt.arg' (by omega)).2 (GY.nt.arg' (by omega)).2)
 have S1:=(qsd (ai IA (ai IB (ai IR (ai GX GY)))));have hzU:w.heap.size+3≤U1.heap.size:=by have:=IR.lt;omega
 clear EA EB ER IA IB IR GX GY SE HSH;unfold st3 at hU1
 go_wp2_with fail
 rw [←hU1];clear hU1 x0 x1 x2 xf0 xf1 xf2 y0 y1 y2 yf0 yf1 yf2 r0 r1 r2 rf0 rf1 rf2;refine H2.out.mono ?_;rintro r u2 ⟨v,rfl,hN,hb⟩;obtain ⟨a3,c3,rfl,_⟩:=hN.arg (by omega)
 obtain ⟨IA,IB,IR,GX,GY⟩:=S1.out;obtain ⟨x0,x1,x2,xf0,xf1,xf2⟩:=(IA.below hb).facts;obtain ⟨y0,y1,y2,yf0,yf1,yf2⟩:=(IB.below hb).facts;obtain ⟨r0,r1,r2,rf0,rf1,rf2⟩:=(IR.below hb).facts;have H3:=hid (HT.out u2 a3 c3 (GX.below hb).bel (hN.arg' (by omega)).2)
 have S2:=(qsd (ai (IR.below hb) ((GX.below hb))));have hz2:w.heap.size+3≤u2.heap.size:=by have:=hb.size;omega
 clear hN hb H2 S1 IA IB IR GX GY HT
 go_wp2_with fail
 refine H3.out.mono ?_;rintro r u3 ⟨⟨v,rfl,hN⟩,hb⟩;obtain ⟨a4,c4,rfl,_⟩:=hN.arg (by omega)
 have IR:=S2.out.1.below hb;obtain ⟨s0,s1,s2,sf0,sf1,sf2⟩:=IR.facts;have FV:=qsd (show Fin w.heap.size (w.heap.size+3) w u3 (.slice a4 (ws V).length c4) V from ⟨hN.mono hz2,(S2.out.2.below hb).bel,by have:=hb.size;omega⟩)
 have S3:=qsd IR;clear hN hb IR H3 S2;go_wp2;refine bodyPost_ret (mul_res _ (w.heap.size+1+1) dn (.slice a4 (ws V).length c4) de er _ rfl rfl (S3.out.set _ _ _)) rfl ?_;refine Fin.dans (m:=w.heap.size+3) ?_ (by omega)
 repeat (with_reducible first | exact FV.out | refine Fin.drew ?_ | refine Fin.alloc ?_ _ | refine Fin.set ?_ _ _ _ (by omega) (by omega))
def mulF (x y:Bool×Nat×Int):Option (Bool×Nat×Int):=mkS (x.1 != y.1) (x.2.1*y.2.1) (x.2.2+y.2.2)
def mulD (o p:Option (Bool×Nat×Int)):Option (Bool×Nat×Int) :=
 match o,p with
 | some x,some y=>mulF x y
 | _,_=>none
theorem Mul_one {w:World}{p q:Option Addr}{s t X Y:Nat}(L:Nat) (er:Int) (hA:Arg w p (ws X).length s (ws X)) (hB:Arg w q (ws Y).length t (ws Y)) (h:mulS X Y=(L,er)) :
 Calls Tryz.prog 37 #[.slice p (ws X).length s,.slice q (ws Y).length t] w fun r w'=>∃ v,r=.returned (.tuple #[v,.int .i64 er])∧Nt w.heap.size w' v L∧Below w.heap.size w w':=by
 have:=Mul_any (ws X) (ws Y) p q (ws X).length s (ws Y).length t w.heap.size w hA.len hB.len hA.cap hB.cap (by have:=hA.big;omega) (by have:=hB.big;omega) hA.wf hB.wf hA.rd hB.rd (Nat.le_refl _)
 rw [val_ws,val_ws,h] at this;exact this.mono fun r w' ⟨⟨v,h1,h2⟩,h3⟩=>⟨v,h1,h2,h3⟩
theorem lo_odd1 {X:Nat}(h:X%2=1):lo X=0:=by
 have:=lo_eq 0 (X/2);rw [show 2^0*(2*(X/2)+1)=X by omega] at this
 exact this
theorem Mul_any3 {w:World}{a b:Option Addr}{l c k d:Nat}{xs ys:List Nat}(h1:Arg w a l c xs) (h2:Arg w b k d ys) (hT:Tab w) (n m:Bool) (e f:Int) (he0:-9223372036854775808≤e) (he1:e≤9223372036854775807) (hf0:-9223372036854775808≤f) (hf1:f≤9223372036854775807) :
 Calls Tryz.prog 17 #[.agg #[.bool n,.slice a l c,.int .i64 e],.agg #[.bool m,.slice b k d,.int .i64 f]] w fun r w'=>DAns w.heap.size w' r (mulD (mkS n (val xs) e) (mkS m (val ys) f))∧Below w.heap.size w w':=by
 have zero:∀ {r:Ending} {w':World},(r=.returned (.tuple #[.agg #[.bool false,.slice none 0 0,.int .i64 0],.int .i64 2])∧Below w.heap.size w w')→DAns w.heap.size w' r none∧Below w.heap.size w w':=fun ⟨h1,h2⟩=>⟨⟨_,h1,Nt.nil _ _⟩,h2⟩
 cases hx:mkS n (val xs) e with
 | none =>
   exact (mul_bad n m e f (hid fun u hu=>forms_bad1 (h1.below hu) (h2.below hu) (hT.belows hu) n m e f he0 he1 hf0 hf1 hx)).mono fun r w' h=>zero h
 | some x =>
   obtain ⟨n1,X,e1⟩:=x
   cases hy:mkS m (val ys) f with
   | none =>
     exact (mul_bad n m e f (hid fun u hu=>forms_bad2 (h1.below hu) (h2.below hu) (hT.belows hu) n m e f he0 he1 hf0 hf1 n1 X e1 hx hy)).mono fun r w' h=>zero h
   | some y =>
     obtain ⟨m1,Y,f1⟩:=y;have HFM:=hid fun u (hu:Below w.heap.size w u)=>forms_ok (h1.below hu) (h2.below hu) (hT.belows hu) n m e f he0 he1 hf0 hf1 n1 m1 X Y e1 f1 hx hy
     have FX:=mkS_frm hx;have FY:=mkS_frm hy;have lX:=frm_len FX;have lY:=frm_len FY;have:=FX.up;have:=FX.down;have:=FY.up;have:=FY.down
     show Calls _ _ _ _ fun r w'=>DAns w.heap.size w' r (mkS (n1 != m1) (X*Y) (e1+f1))∧_
     by_cases hL:LG (X*Y)
     · have hs:mulS X Y=(0,2):=by unfold mulS;rw [if_neg (by intro h;rcases h with h | h;exact notLG FX.size h;exact notLG FY.size h),if_pos hL]
       have hno:mkS (n1 != m1) (X*Y) (e1+f1)=none:=by
        have hb:=(LG_bl _).1 hL;have h0:X*Y≠0:=by intro h;rw [h,bl_zero] at hb;omega
        have oX:X%2=1:=by rcases FX.odd with h | h;exact h;rw [h.1,Nat.zero_mul] at h0;exact absurd rfl h0
        have oY:Y%2=1:=by rcases FY.odd with h | h;exact h;rw [h.1,Nat.mul_zero] at h0;exact absurd rfl h0
        have hlo:lo (X*Y)=0:=lo_odd1 (by rw [Nat.mul_mod,oX,oY])
        unfold mkS;rw [if_neg h0,if_pos (.inl (by rw [hlo];omega))]
       rw [hno];exact (mul_long n m e f n1 m1 X Y e1 f1 lX lY (by omega) (by omega) (by omega) (by omega) HFM (hid fun u p q p2 q2 hu hA hB=>Mul_one 0 2 hA hB hs)).mono fun r w' h=>zero h
     · have hs:mulS X Y=(X*Y,0):=by unfold mulS;rw [if_neg (by intro h;rcases h with h | h;exact notLG FX.size h;exact notLG FY.size h),if_neg hL]
       obtain ⟨L,hLe⟩:∃ L,X*Y=L:=⟨_,rfl⟩;rw [hLe] at hs hL ⊢;have lL:(ws L).length≤8192:=by unfold LG at hL;omega
       exact mul_ok n m e f n1 m1 X Y e1 f1 lX lY (by omega) (by omega) (by omega) (by omega) HFM L lL _ _ _ _ (mkS_len (n1 != m1) L (e1+f1)) (hid fun u p q p2 q2 hu hA hB=>Mul_one L 0 hA hB hs)
        (hid fun u p s hu hA=>by have:=Make_any hA (hT.belows hu) (n1 != m1) (e1+f1) (by omega) (by omega);rw [val_ws] at this;exact this)
end
section
open Go.RowKit
theorem sub_res (W:World) (g:Nat) (n:Bool) (v:Value) (e k:Int) (tmps:Array Value) (ht:tmps[4]?.getD undef=.pointer (some ⟨g,0,none⟩)) (hk:tmps[5]?.getD undef=.int .i64 k) (D:Dk W g n v e) :
 (results Tryz.f18 tmps).run Tryz.prog W=.ok (.tuple #[.agg #[.bool n,v,.int .i64 e],.int .i64 k]) W:=by
 obtain ⟨x0,x1,x2,xf0,xf1,xf2⟩:=D.facts;simp [results,Tryz.results18,ht,hk,go_sem,x0,x1,x2]
theorem sub_core {w:World}{a b:Option Addr}{l c k d:Nat}(n m:Bool) (e f:Int) (dn:Bool) (V:Nat) (de er:Int) (lV:(ws V).length≤8192)
 (HT:Hid (∀ u,Calls Tryz.prog 38 #[.agg #[.bool m,.slice b k d,.int .i64 f]] u fun r w'=>r=.returned (.agg #[.bool (!m),.slice b k d,.int .i64 f])∧Below u.heap.size u w'))
 (HA:Hid (∀ u,Below w.heap.size w u→Calls Tryz.prog 19 #[.agg #[.bool n,.slice a l c,.int .i64 e],.agg #[.bool (!m),.slice b k d,.int .i64 f]] u fun r w'=>(∃ v,r=.returned (.tuple #[.agg #[.bool dn,v,.int .i64 de],.int .i64 er])∧Nt u.heap.size w' v V)∧Below u.heap.size u w')) :
 Calls Tryz.prog 18 #[.agg #[.bool n,.slice a l c,.int .i64 e],.agg #[.bool m,.slice b k d,.int .i64 f]] w fun r w'=>(∃ v,r=.returned (.tuple #[.agg #[.bool dn,v,.int .i64 de],.int .i64 er])∧Nt w.heap.size w' v V)∧Below w.heap.size w w':=by
 obtain ⟨W1,hW1⟩:∃ W,W=((w.alloc (.cells #[.bool n,.slice a l c,.int .i64 e] 42)).alloc (.cells #[.bool m,.slice b k d,.int .i64 f] 42)).alloc (.cells #[.bool false,.slice none 0 0,.int .i64 0] 42):=⟨_,rfl⟩;obtain ⟨hB,hz1,DA,DB,DR⟩:=add_begin w n m (.slice a l c) (.slice b k d) e f W1 hW1;have T1:=hid (HT.out W1);have T2:=hid (HT.out W1.drew);obtain ⟨x0,x1,x2,xf0,xf1,xf2⟩:=DA.facts;obtain ⟨y0,y1,y2,yf0,yf1,yf2⟩:=DB.facts;obtain ⟨r0,r1,r2,rf0,rf1,rf2⟩:=DR.facts;have hs1:w.heap.size+3≤W1.heap.size:=by omega
 have SB:=(qsd (ai hB (ai DA (ai DB DR))));clear hB hz1 DA DB DR;go_enter Tryz.func18,Tryz.ntmps18
 go_wp2_with fail
 rw [←hW1];clear hW1;have ne1:w.heap.size≠w.heap.size+1+1:=by omega
 have ne2:w.heap.size+1≠w.heap.size+1+1:=by omega
 have ne3:w.heap.size+1+1≠w.heap.size:=by omega
 have ne4:w.heap.size+1+1≠w.heap.size+1:=by omega
 go_region_held3 (fun w'=>w'.cell? ⟨w.heap.size,0,none⟩=some (.bool n)∧w'.cell? ⟨w.heap.size,1,none⟩=some (.slice a l c)∧w'.cell? ⟨w.heap.size,2,none⟩=some (.int .i64 e)∧w'.cell? ⟨w.heap.size+1,0,none⟩=some (.bool m)∧w'.cell? ⟨w.heap.size+1,1,none⟩=some (.slice b k d)∧w'.cell? ⟨w.heap.size+1,2,none⟩=some (.int .i64 f)) (go_keep) (first
  | (go_at_call 38
     first | with_reducible refine T1.out.mono ?_ | with_reducible refine T2.out.mono ?_
     rintro r u1 ⟨rfl,hb⟩;have hb1:Below W1.heap.size W1 u1:=by first | exact hb | exact ((Below.refl _ W1).drew).trans (hb.mono (Nat.le_refl _))
     have hs2:W1.heap.size≤u1.heap.size:=hb1.size;have BW:Below w.heap.size w u1:=SB.out.1.trans (hb1.mono (by omega))
     have HA1:=hid (HA.out u1 BW);have KR:=SB.out.2.2.2.below hb1;obtain ⟨p0,p1,p2,pf0,pf1,pf2⟩:=KR.facts;obtain ⟨q0,q1,q2,qf0,qf1,qf2⟩:=(SB.out.2.1.below hb1).facts;obtain ⟨s0,s1,s2,sf0,sf1,sf2⟩:=(SB.out.2.2.1.below hb1).facts;have S1:=(qsd (ai BW (ai KR (ai (SB.out.2.1.below hb1) (SB.out.2.2.1.below hb1)))));clear hb hb1 KR BW)
  | (go_at_call 19
     with_reducible refine HA1.out.mono ?_
     rintro r u2 ⟨⟨v,rfl,hN⟩,hb⟩;obtain ⟨a4,c4,rfl,_⟩:=hN.arg (by omega)
     have LR:=S1.out.2.1.below hb;obtain ⟨t0,t1,t2,tf0,tf1,tf2⟩:=LR.facts;obtain ⟨i0,i1,i2,if0,if1,if2⟩:=(S1.out.2.2.1.below hb).facts;obtain ⟨j0,j1,j2,jf0,jf1,jf2⟩:=(S1.out.2.2.2.below hb).facts;have FV:=qsd (show Fin w.heap.size (w.heap.size+3) w u2 (.slice a4 (ws V).length c4) V from ⟨hN.mono (by omega),S1.out.1.trans (hb.mono (by omega)),by have:=hb.size;omega⟩)
     have S10:=qsd LR;clear hN hb LR))
 all_goals (
  go_wp2;refine bodyPost_ret (sub_res _ (w.heap.size+1+1) dn (.slice a4 (ws V).length c4) de er _ rfl rfl (S10.out.set _ _ _)) rfl ?_;refine Fin.dans (m:=w.heap.size+3) ?_ (by omega)
  repeat (with_reducible first | exact FV.out | refine Fin.drew ?_ | refine Fin.alloc ?_ _ | refine Fin.set ?_ _ _ _ (by omega) (by omega)))
theorem addUp_len (n:Bool) (X:Nat) (e:Int) (m:Bool) (Y:Nat) (f:Int):(ws (dX (addUp n X e m Y f))).length≤8192:=by
 unfold addUp
 split
 · show (ws 0).length≤8192;rw [ws_zero];exact Nat.zero_le _
 · split
   · exact mkS_len _ _ _
   · split <;> exact mkS_len _ _ _
theorem addD_len (n:Bool) (X:Nat) (e:Int) (m:Bool) (Y:Nat) (f:Int):(ws (dX (addD (mkS n X e) (mkS m Y f)))).length≤8192:=by
 have z0:(ws 0).length≤8192:=by rw [ws_zero];exact Nat.zero_le _
 cases hx:mkS n X e with
 | none=>exact z0
 | some x =>
   cases hy:mkS m Y f with
   | none=>exact z0
   | some y =>
     obtain ⟨n1,X1,e1⟩:=x;obtain ⟨m1,Y1,f1⟩:=y
     show (ws (dX (addF _ _))).length≤8192
     unfold addF
     split
     · exact frm_len (mkS_frm hy)
     · split
       · exact frm_len (mkS_frm hx)
       · split <;> exact addUp_len _ _ _ _ _ _
theorem Sub_any3 {w:World}{a b:Option Addr}{l c k d:Nat}{xs ys:List Nat}(h1:Arg w a l c xs) (h2:Arg w b k d ys) (hT:Tab w) (n m:Bool) (e f:Int) (he0:-9223372036854775808≤e) (he1:e≤9223372036854775807) (hf0:-9223372036854775808≤f) (hf1:f≤9223372036854775807) :
 Calls Tryz.prog 18 #[.agg #[.bool n,.slice a l c,.int .i64 e],.agg #[.bool m,.slice b k d,.int .i64 f]] w fun r w'=>DAns w.heap.size w' r (addD (mkS n (val xs) e) (mkS (!m) (val ys) f))∧Below w.heap.size w w' :=
 sub_core n m e f _ _ _ _ (addD_len n (val xs) e (!m) (val ys) f) (hid fun u=>turned_any b k d m f u) (hid fun u hu=>Add_any3 (h1.below hu) (h2.below hu) (hT.belows hu) n (!m) e f he0 he1 hf0 hf1)
end
section
open Go.RowKit
def top (X:Nat) (i:Int):Nat:=if i<0 then X*2^(-i).toNat else X/2^i.toNat
theorem win_top (X:Nat) (i:Int):win X i=top X i%4294967296:=by unfold win top;split <;> rfl
theorem two32:(2:Nat)^32=4294967296:=rfl
theorem top_down (X:Nat) (i:Int):top X (i-32)/4294967296=top X i:=by
 rw [←two32];unfold top
 by_cases h:i<0
 · rw [if_pos (by omega),if_pos h,show (-(i-32)).toNat=(-i).toNat+32 by omega,Nat.pow_add,←Nat.mul_assoc,Nat.mul_div_cancel _ (Nat.two_pow_pos 32)]
 · by_cases h2:i<32
   · rw [if_pos (by omega),if_neg h]
     obtain ⟨k,hk⟩:∃ k,k=(-(i-32)).toNat:=⟨_,rfl⟩;have e:32=k+i.toNat:=by omega
     rw [←hk];generalize i.toNat=m at e ⊢;rw [show (2:Nat)^32=2^k*2^m by rw [←Nat.pow_add,←e],Nat.mul_comm X,Nat.mul_div_mul_left _ _ (Nat.two_pow_pos k)]
   · rw [if_neg (by omega),if_neg h,Nat.div_div_eq_div_mul,←Nat.pow_add,show (i-32).toNat+32=i.toNat by omega]
theorem top_step (X:Nat) (i:Int):top X (i-32)=top X i*4294967296+win X (i-32):=by
 rw [win_top,←top_down X i];exact (Nat.div_add_mod' _ _).symm
theorem top_shift (X d:Nat) (j:Int):top X (j-(d:Int))=top (X*2^d) j:=by
 unfold top
 by_cases h:j<0
 · rw [if_pos (by omega),if_pos h,show (-(j-(d:Int))).toNat=d+(-j).toNat by omega,Nat.pow_add,Nat.mul_assoc]
 · rw [if_neg h]
   by_cases h2:j<d
   · rw [if_pos (by omega)]
     obtain ⟨k,hk⟩:∃ k,k=(-(j-(d:Int))).toNat:=⟨_,rfl⟩;have e:d=k+j.toNat:=by omega
     rw [←hk];generalize j.toNat=m at e ⊢;rw [e,Nat.pow_add,←Nat.mul_assoc,Nat.mul_div_cancel _ (Nat.two_pow_pos m)]
   · rw [if_neg (by omega)]
     obtain ⟨k,hk⟩:∃ k,k=(j-(d:Int)).toNat:=⟨_,rfl⟩;have e:j.toNat=k+d:=by omega
     rw [←hk,e,Nat.pow_add,Nat.mul_div_mul_right _ _ (Nat.two_pow_pos d)]
theorem top_mono {X Y:Nat}(h:X≤Y) (j:Int):top X j≤top Y j:=by
 unfold top
 split
 · exact Nat.mul_le_mul_right _ h
 · exact Nat.div_le_div_right h
theorem top_lt {X Y:Nat}{j:Int}(h:top X j<top Y j):X<Y:=by
 rcases Nat.lt_or_ge X Y with k|k
 · exact k
 · have:=top_mono k j;omega
theorem top_inj {X Y:Nat}{j:Int}(hj:j≤0) (h:top X j=top Y j):X=Y:=by
 unfold top at h
 by_cases h0:j<0
 · rw [if_pos h0,if_pos h0] at h
   exact Nat.eq_of_mul_eq_mul_right (Nat.two_pow_pos _) h
 · rw [if_neg h0,if_neg h0,show j.toNat=0 by omega] at h
   simpa using h
theorem top_bl (X:Nat):top X (bl X:Int)=0:=by
 unfold top;rw [if_neg (by omega),Int.toNat_natCast]
 exact Nat.div_eq_of_lt (bl_lt X)
theorem top_differ {X Y:Nat}{i j:Int}(d:Nat) (hij:i=j-d) (h:top X i=top Y j) (hne:cmpI (win X (i-32)) (win Y (j-32))≠0) :
 cmpI (win X (i-32)) (win Y (j-32))=cmpI (X*2^d) Y:=by
 have h1:=top_step X i;have h2:=top_step Y j;have h3:=top_shift X d (j-32);rw [show j-32-(d:Int)=i-32 by omega] at h3
 rw [h] at h1;generalize top Y j*4294967296=T at h1 h2;unfold cmpI at hne ⊢
 by_cases k:win X (i-32)<win Y (j-32)
 · rw [if_pos k]
   have:X*2^d<Y:=top_lt (j:=j-32) (by rw [←h3];omega)
   rw [if_pos this]
 · rw [if_neg k] at hne ⊢
   by_cases k2:win Y (j-32)<win X (i-32)
   · rw [if_pos k2]
     have:Y<X*2^d:=top_lt (j:=j-32) (by rw [←h3];omega)
     rw [if_neg (by omega),if_pos this]
   · rw [if_neg k2] at hne;exact absurd rfl hne
theorem cmpI_zero {x y:Nat}(h:cmpI x y=0):x=y:=by
 unfold cmpI at h
 split at h
 · cases h
 · split at h
   · cases h
   · omega
theorem top_alike {X Y:Nat}{i j:Int}(h:top X i=top Y j) (he:cmpI (win X (i-32)) (win Y (j-32))=0):top X (i-32)=top Y (j-32):=by
 rw [top_step,top_step,h,cmpI_zero he]
theorem top_end {X Y:Nat}{i j:Int}(d:Nat) (hij:i=j-d) (h:top X i=top Y j) (hj:j≤0):cmpI (X*2^d) Y=0:=by
 subst hij;rw [top_shift] at h;rw [top_inj hj h];unfold cmpI;rw [if_neg (Nat.lt_irrefl _),if_neg (Nat.lt_irrefl _)]
def cmpP (X:Nat) (e:Int) (Y:Nat) (f:Int):Int:=if e<f then cmpI X (Y*2^(f-e).toNat) else cmpI (X*2^(e-f).toNat) Y
theorem cmpI_neg (x y:Nat):-cmpI x y=cmpI y x:=by
 unfold cmpI
 rcases Nat.lt_trichotomy x y with h|h|h
 · rw [if_pos h,if_neg (by omega),if_pos h];rfl
 · subst h;rw [if_neg (by omega),if_neg (by omega)];rfl
 · rw [if_neg (by omega),if_pos h,if_pos h]
theorem cmpP_neg (X:Nat) (e:Int) (Y:Nat) (f:Int):-cmpP X e Y f=cmpP Y f X e:=by
 unfold cmpP
 by_cases h:e<f
 · rw [if_pos h,if_neg (by omega),cmpI_neg]
 · rw [if_neg h]
   by_cases h2:f<e
   · rw [if_pos h2,cmpI_neg]
   · rw [if_neg h2,cmpI_neg,show (e-f).toNat=0 by omega,show (f-e).toNat=0 by omega,Nat.pow_zero,Nat.mul_one,Nat.mul_one]
theorem cmpI_bl {x y:Nat}(h:bl x≠bl y):cmpI x y=cmpI (bl x) (bl y):=by
 unfold cmpI
 rcases Nat.lt_or_ge (bl x) (bl y) with k|k
 · have:x<y:=by
    rcases Nat.lt_or_ge x y with q|q
    · exact q
    · have:=bl_mono q;omega
   rw [if_pos k,if_pos this]
 · have:y<x:=by
    rcases Nat.lt_or_ge y x with q|q
    · exact q
    · have:=bl_mono q;omega
   rw [if_neg (by omega:¬ x<y),if_pos this,if_neg (by omega:¬ bl x<bl y),if_pos (by omega:bl y<bl x)]
theorem cmpI_range (x y:Nat):cmpI x y=-1∨cmpI x y=0∨cmpI x y=1:=by
 unfold cmpI;split
 · exact .inl rfl
 · split
   · exact .inr (.inr rfl)
   · exact .inr (.inl rfl)
theorem cmpP_range (X:Nat) (e:Int) (Y:Nat) (f:Int):cmpP X e Y f=-1∨cmpP X e Y f=0∨cmpP X e Y f=1:=by
 unfold cmpP;split <;> exact cmpI_range _ _
def sgn (n:Bool) (X:Nat):Int:=if X=0 then 0 else if n then -1 else 1
def cmpV (n:Bool) (X:Nat) (e:Int) (m:Bool) (Y:Nat) (f:Int):Int :=
 if sgn n X<sgn m Y then -1 else if sgn m Y<sgn n X then 1 else if X=0 then 0 else if n then cmpP Y f X e else cmpP X e Y f
end
section
open Go.RowKit
theorem isNaN_c (x:Int) (w:World):Calls Tryz.prog 89 #[.int .u64 x] w fun r w'=>r=.returned (.bool false)∧w'=w:=by
 go_enter Tryz.func89,Tryz.ntmps89;go_wp2;go_ret;exact ⟨rfl,rfl⟩
def cmpZ (x y:Int):Int:=if x<y then -1 else if y<x then 1 else 0
theorem cmpZ_nat (x y:Nat):cmpZ (x:Int) (y:Int)=cmpI x y:=by
 unfold cmpZ cmpI;simp only [Int.ofNat_lt]
theorem compare_w (x y:Int) (w:World):Calls Tryz.prog 70 #[.int .u64 x,.int .u64 y] w fun r w'=>r=.returned (.int .i64 (cmpZ x y))∧w'=w:=by
 have H:Hid (∀ x w,_):=isNaN_c
 rcases Int.lt_trichotomy x y with h|h|h
 · have e:cmpZ x y=-1:=by simp [cmpZ,h]
   rw [e];clear e;go_enter Tryz.func70,Tryz.ntmps70
   go_wp2_with fail
   refine (H.out _ _).mono ?_;rintro r w1 ⟨rfl,rfl⟩
   go_wp2_with fail
   refine (H.out _ _).mono ?_;rintro r w1 ⟨rfl,rfl⟩;go_wp2;go_ret;exact ⟨rfl,rfl⟩
 · have e:cmpZ x y=0:=by simp [cmpZ,h]
   rw [e];clear e;subst h;go_enter Tryz.func70,Tryz.ntmps70
   go_wp2_with fail
   refine (H.out _ _).mono ?_;rintro r w1 ⟨rfl,rfl⟩
   go_wp2_with fail
   refine (H.out _ _).mono ?_;rintro r w1 ⟨rfl,rfl⟩;go_wp2;go_ret;exact ⟨rfl,rfl⟩
 · have e:cmpZ x y=1:=by unfold cmpZ;rw [if_neg (by omega),if_pos h]
   rw [e];clear e;have h0:decide (x<y)=false:=decide_eq_false (by omega)
   go_enter Tryz.func70,Tryz.ntmps70
   go_wp2_with fail
   refine (H.out _ _).mono ?_;rintro r w1 ⟨rfl,rfl⟩
   go_wp2_with fail
   refine (H.out _ _).mono ?_;rintro r w1 ⟨rfl,rfl⟩;go_wp2;go_ret;exact ⟨rfl,rfl⟩
theorem compare_z (x y:Int) (w:World):Calls Tryz.prog 42 #[.int .i64 x,.int .i64 y] w fun r w'=>r=.returned (.int .i64 (cmpZ x y))∧w'=w:=by
 have H:Hid (∀ x w,_):=isNaN_i
 rcases Int.lt_trichotomy x y with h|h|h
 · have e:cmpZ x y=-1:=by simp [cmpZ,h]
   rw [e];clear e;go_enter Tryz.func42,Tryz.ntmps42
   go_wp2_with fail
   refine (H.out _ _).mono ?_;rintro r w1 ⟨rfl,rfl⟩
   go_wp2_with fail
   refine (H.out _ _).mono ?_;rintro r w1 ⟨rfl,rfl⟩;go_wp2;go_ret;exact ⟨rfl,rfl⟩
 · have e:cmpZ x y=0:=by simp [cmpZ,h]
   rw [e];clear e;subst h;go_enter Tryz.func42,Tryz.ntmps42
   go_wp2_with fail
   refine (H.out _ _).mono ?_;rintro r w1 ⟨rfl,rfl⟩
   go_wp2_with fail
   refine (H.out _ _).mono ?_;rintro r w1 ⟨rfl,rfl⟩;go_wp2;go_ret;exact ⟨rfl,rfl⟩
 · have e:cmpZ x y=1:=by unfold cmpZ;rw [if_neg (by omega),if_pos h]
   rw [e];clear e;have h0:decide (x<y)=false:=decide_eq_false (by omega)
   go_enter Tryz.func42,Tryz.ntmps42
   go_wp2_with fail
   refine (H.out _ _).mono ?_;rintro r w1 ⟨rfl,rfl⟩
   go_wp2_with fail
   refine (H.out _ _).mono ?_;rintro r w1 ⟨rfl,rfl⟩;go_wp2;go_ret;exact ⟨rfl,rfl⟩
theorem Sign_any3 {w:World}{a:Option Addr}{n c:Nat}{xs:List Nat}(h1:Arg w a n c xs) (ng:Bool) (e:Int) :
 Calls Tryz.prog 28 #[.agg #[.bool ng,.slice a n c,.int .i64 e]] w fun r w'=>r=.returned (.int .i64 (sgn ng (val xs)))∧Below w.heap.size w w':=by
 have hB:Below w.heap.size w (w.alloc (.cells #[.bool ng,.slice a n c,.int .i64 e] 42)):=below_alloc w _;have A1:=h1.below hB;have hbig:=h1.big;have H1:=hid (len_any xs a n c _ _ A1.len A1.cap (by omega) A1.wf A1.rd)
 obtain ⟨X,hX⟩:∃ X,val xs=X:=⟨_,rfl⟩;rw [hX] at H1 ⊢;have SB:=qsd hB;clear hB A1 h1 hX hbig;unfold sgn
 by_cases h0:X=0
 · rw [if_pos h0]
   have hb:bl X=0:=by rw [h0,bl_zero]
   rw [hb] at H1;clear h0 hb;go_enter Tryz.func28,Tryz.ntmps28
   go_wp2_with fail
   refine H1.out.mono ?_;rintro r w1 ⟨rfl,rfl⟩;go_wp2;go_ret;exact ⟨rfl,SB.out⟩
 · rw [if_neg h0]
   obtain ⟨b,hb⟩:∃ b,bl X=b:=⟨_,rfl⟩;have hb0:((b:Int)==0)=false:=by have:=bl_pos X h0;simp;omega
   rw [hb] at H1;clear h0 hb
   cases ng
   · simp only [Bool.false_eq_true,if_false]
     go_enter Tryz.func28,Tryz.ntmps28
     go_wp2_with fail
     refine H1.out.mono ?_;rintro r w1 ⟨rfl,rfl⟩;go_wp2;go_ret;exact ⟨rfl,SB.out⟩
   · simp only [if_true]
     go_enter Tryz.func28,Tryz.ntmps28
     go_wp2_with fail
     refine H1.out.mono ?_;rintro r w1 ⟨rfl,rfl⟩;go_wp2;go_ret;exact ⟨rfl,SB.out⟩
theorem cmpFromTop_any {w:World}{a b:Option Addr}{n c m d:Nat}{xs ys:List Nat}(h1:Arg w a n c xs) (h2:Arg w b m d ys) (dd:Nat) (hd:bl (val xs)+dd=bl (val ys)) :
 Calls Tryz.prog 71 #[.slice a n c,.slice b m d] w fun r w'=>r=.returned (.int .i64 (cmpI (val xs*2^dd) (val ys)))∧w'=w:=by
 have hb1:=h1.big;have hb2:=h2.big;have H1:=hid (len_any xs a n c w.heap.size w h1.len h1.cap (by omega) h1.wf h1.rd)
 have H2:=hid (len_any ys b m d w.heap.size w h2.len h2.cap (by omega) h2.wf h2.rd)
 have b1:bl (val xs)≤32*n:=by have:=val_lt xs h1.wf;rw [←h1.len] at this;exact bl_pw _ _ this
 have b2:bl (val ys)≤32*m:=by have:=val_lt ys h2.wf;rw [←h2.len] at this;exact bl_pw _ _ this
 have WX:Hid (∀ i:Int,-9223372036854775808≤i→i≤9223372036854000000→Calls Tryz.prog 84 #[.slice a n c,.int .i64 i] w fun r w'=>r=.returned (.int .u32 ((win (val xs) i:Nat):Int))∧w'=w):=fun i h0 h3=>window_any xs a n c w.heap.size i w h1.len (by omega) h1.wf h1.rd h0 (by omega)
 have WY:Hid (∀ i:Int,-9223372036854775808≤i→i≤9223372036854000000→Calls Tryz.prog 84 #[.slice b m d,.int .i64 i] w fun r w'=>r=.returned (.int .u32 ((win (val ys) i:Nat):Int))∧w'=w):=fun i h0 h3=>window_any ys b m d w.heap.size i w h2.len (by omega) h2.wf h2.rd h0 (by omega)
 obtain ⟨X,hX⟩:∃ X,val xs=X:=⟨_,rfl⟩;obtain ⟨Y,hY⟩:∃ Y,val ys=Y:=⟨_,rfl⟩;rw [hX] at H1 b1 hd WX ⊢;rw [hY] at H2 b2 hd WY ⊢;have st:top X (bl X:Int)=top Y (bl Y:Int):=by rw [top_bl,top_bl]
 obtain ⟨i0,hi0⟩:∃ i,bl X=i:=⟨_,rfl⟩;obtain ⟨j0,hj0⟩:∃ j,bl Y=j:=⟨_,rfl⟩;rw [hi0] at H1 b1 hd st;rw [hj0] at H2 b2 hd st;obtain ⟨R,hR⟩:∃ R,cmpI (X*2^dd) Y=R:=⟨_,rfl⟩;rw [hR];have HR:=qsd hR;have ST:=qsd st;have HD:=qsd hd;have bi:(i0:Int)≤1125899906842624:=by omega
 have bj:(j0:Int)≤1125899906842624:=by omega
 clear h1 h2 hX hY hi0 hj0 st hR hd b1 b2 hb1 hb2;go_enter Tryz.func71,Tryz.ntmps71
 go_wp2_with fail
 refine H1.out.mono ?_;rintro r w1 ⟨rfl,rfl⟩
 go_wp2_with fail
 refine H2.out.mono ?_;rintro r w1 ⟨rfl,rfl⟩;go_wp2
 go_loopg [5,6] (j0+32) (fun gk iv jv wr=>∃ i j:Int,(gk:Int)=j+32∧iv=.int .i64 i∧jv=.int .i64 j∧wr=w1∧-32≤j∧j≤1125899906842624∧i≤j∧-1125899906842656≤i∧Aside (i=j-dd∧top X i=top Y j))
 case atStart=>exact ⟨i0,j0,by omega,rfl,rfl,rfl,by omega,by omega,by have:=HD.out;omega,by omega,by have:=HD.out;omega,ST.out⟩
 case round =>
  obtain ⟨i,j,hgk,rfl,rfl,rfl,hj0',hj1,hij,hi0',HA⟩:=hrel
  by_cases hj:0<j
  · have hi2:i-32≤9223372036854000000:=by omega
    have hj2:j-32≤9223372036854000000:=by omega
    have G1:=hid (WX.out (i-32) (by omega) hi2)
    have G2:=hid (WY.out (j-32) (by omega) hj2)
    obtain ⟨x,hx⟩:∃ x,win X (i-32)=x:=⟨_,rfl⟩;obtain ⟨y,hy⟩:∃ y,win Y (j-32)=y:=⟨_,rfl⟩;rw [hx] at G1;rw [hy] at G2;have HXY:=(qsd (ai hx hy));have hlo:-1125899906842656≤i:=hi0';clear hx hy;have CM:=hid (compare_u x y wr);obtain ⟨z,hz⟩:∃ z,cmpI x y=z:=⟨_,rfl⟩;rw [hz] at CM;have HZ:=qsd hz;clear hz
    by_cases hpi:0<i
    · by_cases h0:z=0
      · subst h0
        go_wp2_with fail
        refine G1.out.mono ?_;rintro r w2 ⟨rfl,rfl⟩
        go_wp2_with fail
        refine G2.out.mono ?_;rintro r w2 ⟨rfl,rfl⟩
        go_wp2_with fail
        refine CM.out.mono ?_;rintro r w2 ⟨rfl,rfl⟩;go_wp2
        go_roundg (gk-32)
        case measure=>omega
        case rel =>
         refine ⟨i-32,j-32,by omega,by first | rfl | go_num,by first | rfl | go_num,rfl,by omega,by omega,by omega,?_,?_,?_⟩
         · have:=HA.out.1;have:=HD.out;omega
         · have:=HA.out.1;omega
         · exact top_alike HA.out.2 (by rw [HXY.out.1,HXY.out.2];exact HZ.out)
      · have h0':(z==0)=false:=by simpa using h0
        go_wp2_with fail
        refine G1.out.mono ?_;rintro r w2 ⟨rfl,rfl⟩
        go_wp2_with fail
        refine G2.out.mono ?_;rintro r w2 ⟨rfl,rfl⟩
        go_wp2_with fail
        refine CM.out.mono ?_;rintro r w2 ⟨rfl,rfl⟩;go_wp2
        have e:z=R:=by
         have h:=top_differ dd HA.out.1 HA.out.2 (by rw [HXY.out.1,HXY.out.2,HZ.out];exact h0)
         rw [HXY.out.1,HXY.out.2,HZ.out,HR.out] at h;exact h
        subst e;go_ret;exact ⟨rfl,rfl⟩
    · have hpi':decide (0<i)=false:=decide_eq_false hpi
      by_cases h0:z=0
      · subst h0
        go_wp2_with fail
        refine G1.out.mono ?_;rintro r w2 ⟨rfl,rfl⟩
        go_wp2_with fail
        refine G2.out.mono ?_;rintro r w2 ⟨rfl,rfl⟩
        go_wp2_with fail
        refine CM.out.mono ?_;rintro r w2 ⟨rfl,rfl⟩;go_wp2
        go_roundg (gk-32)
        case measure=>omega
        case rel =>
         refine ⟨i-32,j-32,by omega,by first | rfl | go_num,by first | rfl | go_num,rfl,by omega,by omega,by omega,?_,?_,?_⟩
         · have:=HA.out.1;have:=HD.out;omega
         · have:=HA.out.1;omega
         · exact top_alike HA.out.2 (by rw [HXY.out.1,HXY.out.2];exact HZ.out)
      · have h0':(z==0)=false:=by simpa using h0
        go_wp2_with fail
        refine G1.out.mono ?_;rintro r w2 ⟨rfl,rfl⟩
        go_wp2_with fail
        refine G2.out.mono ?_;rintro r w2 ⟨rfl,rfl⟩
        go_wp2_with fail
        refine CM.out.mono ?_;rintro r w2 ⟨rfl,rfl⟩;go_wp2
        have e:z=R:=by
         have h:=top_differ dd HA.out.1 HA.out.2 (by rw [HXY.out.1,HXY.out.2,HZ.out];exact h0)
         rw [HXY.out.1,HXY.out.2,HZ.out,HR.out] at h;exact h
        subst e;go_ret;exact ⟨rfl,rfl⟩
  · have hpi':decide (0<i)=false:=decide_eq_false (by omega)
    have hpj':decide (0<j)=false:=decide_eq_false (by omega)
    have e:R=0:=by rw [←HR.out];exact top_end dd HA.out.1 HA.out.2 (by omega)
    subst e;go_wp2;go_ret;exact ⟨rfl,rfl⟩
theorem cmpSizes_go {w:World}{a b:Option Addr}{n c m d:Nat}(ng mg:Bool) (e f:Int) (x y dd:Nat) (R:Int) (bx:x≤1125899906842624) (by':y≤1125899906842624)
 (hge:decide (e<f)=false) (hap:IntKind.u64.wrap (IntKind.u64.wrap e-IntKind.u64.wrap f)=(dd:Int))
 (H1:Hid (∀ u,Below w.heap.size w u→Calls Tryz.prog 52 #[.slice a n c] u fun r w'=>r=.returned (.int .i64 (x:Nat))∧w'=u))
 (H2:Hid (∀ u,Below w.heap.size w u→Calls Tryz.prog 52 #[.slice b m d] u fun r w'=>r=.returned (.int .i64 (y:Nat))∧w'=u))
 (H3:Hid (∀ u,Below w.heap.size w u→dd+x=y→Calls Tryz.prog 71 #[.slice a n c,.slice b m d] u fun r w'=>r=.returned (.int .i64 R)∧w'=u)) :
 Calls Tryz.prog 43 #[.agg #[.bool ng,.slice a n c,.int .i64 e],.agg #[.bool mg,.slice b m d,.int .i64 f]] w fun r w'=>r=.returned (.int .i64 (if y<dd then 1 else if dd+x=y then R else cmpI (dd+x) y))∧Below w.heap.size w w':=by
 obtain ⟨W1,hW1⟩:∃ W,W=(w.alloc (.cells #[.bool ng,.slice a n c,.int .i64 e] 42)).alloc (.cells #[.bool mg,.slice b m d,.int .i64 f] 42):=⟨_,rfl⟩;have hB:Below w.heap.size w W1:=by rw [hW1];exact (below_alloc w _).alloc (by simp) _
 have DA:Dk W1 w.heap.size ng (.slice a n c) e:=by rw [hW1];exact (Dk.new w ng (.slice a n c) e).alloc _
 have DB:Dk W1 (w.heap.size+1) mg (.slice b m d) f:=by
  rw [hW1];have:=Dk.new (w.alloc (.cells #[.bool ng,.slice a n c,.int .i64 e] 42)) mg (.slice b m d) f;simpa using this
 obtain ⟨x0,x1,x2,xf0,xf1,xf2⟩:=DA.facts;obtain ⟨y0,y1,y2,yf0,yf1,yf2⟩:=DB.facts;have SB:=qsd hB;clear DA DB hB;have T1:=hid (H1.out W1 SB.out);have T2:=hid (H2.out W1 SB.out);have T1':=hid (H1.out W1.drew SB.out.drew);have T2':=hid (H2.out W1.drew SB.out.drew);have ex:IntKind.u64.wrap (x:Int)=(x:Int):=by rw [IntKind.wrap_u64];omega
 have ey:IntKind.u64.wrap (y:Int)=(y:Int):=by rw [IntKind.wrap_u64];omega
 by_cases h1:y<dd
 · rw [if_pos h1]
   have h1':(y:Int)<(dd:Int):=by omega
   go_enter Tryz.func43,Tryz.ntmps43
   go_upto_region 1 with fail
   rw [←hW1];clear hW1
   go_upto_region 4 with fail
   go_region_held3 (fun w'=>w'.cell? ⟨w.heap.size,1,none⟩=some (.slice a n c)∧w'.cell? ⟨w.heap.size+1,1,none⟩=some (.slice b m d)) (go_keep) (first
    | (go_at_call 52
       first | with_reducible refine T1.out.mono ?_ | with_reducible refine T1'.out.mono ?_ | with_reducible refine T2.out.mono ?_ | with_reducible refine T2'.out.mono ?_
       rintro r w' ⟨rfl,rfl⟩))
   all_goals (
    go_wp2;go_ret
    first | exact ⟨rfl,SB.out⟩ | exact ⟨rfl,SB.out.drew⟩)
 · rw [if_neg h1]
   have h1':decide ((y:Int)<(dd:Int))=false:=decide_eq_false (by omega)
   have es:IntKind.u64.wrap ((dd:Int)+(x:Int))=(dd:Int)+(x:Int):=by rw [IntKind.wrap_u64];omega
   by_cases h2:dd+x=y
   · rw [if_pos h2]
     have T3:=hid (H3.out W1 SB.out h2);have T3':=hid (H3.out W1.drew SB.out.drew h2);have h2':((dd:Int)+(x:Int)==(y:Int))=true:=by simp;omega
     have h2'':(dd:Int)+(x:Int)=(y:Int):=by omega
     go_enter Tryz.func43,Tryz.ntmps43
     go_upto_region 1 with fail
     rw [←hW1];clear hW1
     go_upto_region 4 with fail
     go_region_held3 (fun w'=>w'.cell? ⟨w.heap.size,1,none⟩=some (.slice a n c)∧w'.cell? ⟨w.heap.size+1,1,none⟩=some (.slice b m d)) (go_keep) (first
      | (go_at_call 52
         first | with_reducible refine T1.out.mono ?_ | with_reducible refine T1'.out.mono ?_ | with_reducible refine T2.out.mono ?_ | with_reducible refine T2'.out.mono ?_
         rintro r w' ⟨rfl,rfl⟩))
     all_goals (
      go_wp2_with fail
      first | with_reducible refine T3.out.mono ?_ | with_reducible refine T3'.out.mono ?_
      rintro r w' ⟨rfl,rfl⟩;go_wp2;go_ret
      first | exact ⟨rfl,SB.out⟩ | exact ⟨rfl,SB.out.drew⟩)
   · rw [if_neg h2]
     have h2':((dd:Int)+(x:Int)==(y:Int))=false:=by simp;omega
     have CW:Hid (∀ u,Calls Tryz.prog 70 #[.int .u64 ((dd:Int)+(x:Int)),.int .u64 (y:Int)] u fun r w'=>r=.returned (.int .i64 (cmpI (dd+x) y))∧w'=u):=fun u=>by
      have:=compare_w ((dd:Int)+(x:Int)) (y:Int) u;rw [show (dd:Int)+(x:Int)=((dd+x:Nat):Int) by omega,cmpZ_nat] at this
      rw [show (dd:Int)+(x:Int)=((dd+x:Nat):Int) by omega]
      exact this
     obtain ⟨z,hz⟩:∃ z,cmpI (dd+x) y=z:=⟨_,rfl⟩;rw [hz] at CW ⊢;clear hz;go_enter Tryz.func43,Tryz.ntmps43
     go_upto_region 1 with fail
     rw [←hW1];clear hW1
     go_upto_region 4 with fail
     go_region_held3 (fun w'=>w'.cell? ⟨w.heap.size,1,none⟩=some (.slice a n c)∧w'.cell? ⟨w.heap.size+1,1,none⟩=some (.slice b m d)) (go_keep) (first
      | (go_at_call 52
         first | with_reducible refine T1.out.mono ?_ | with_reducible refine T1'.out.mono ?_ | with_reducible refine T2.out.mono ?_ | with_reducible refine T2'.out.mono ?_
         rintro r w' ⟨rfl,rfl⟩))
     all_goals (
      go_wp2_with fail
      refine (CW.out _).mono ?_;rintro r w' ⟨rfl,rfl⟩;go_wp2;go_ret
      first | exact ⟨rfl,SB.out⟩ | exact ⟨rfl,SB.out.drew⟩)
end
section
open Go.RowKit
theorem cmpSizes_lt {w:World}{a b:Option Addr}{n c m d:Nat}(ng mg:Bool) (e f:Int) (z:Int) (hlt:e<f) (hz0:-1≤z) (hz1:z≤1)
 (HR:Hid (∀ u,Below w.heap.size w u→Calls Tryz.prog 43 #[.agg #[.bool mg,.slice b m d,.int .i64 f],.agg #[.bool ng,.slice a n c,.int .i64 e]] u fun r w'=>r=.returned (.int .i64 z)∧Below u.heap.size u w')) :
 Calls Tryz.prog 43 #[.agg #[.bool ng,.slice a n c,.int .i64 e],.agg #[.bool mg,.slice b m d,.int .i64 f]] w fun r w'=>r=.returned (.int .i64 (-z))∧Below w.heap.size w w':=by
 obtain ⟨W1,hW1⟩:∃ W,W=(w.alloc (.cells #[.bool ng,.slice a n c,.int .i64 e] 42)).alloc (.cells #[.bool mg,.slice b m d,.int .i64 f] 42):=⟨_,rfl⟩;have hB:Below w.heap.size w W1:=by rw [hW1];exact (below_alloc w _).alloc (by simp) _
 have hz:W1.heap.size=w.heap.size+2:=by rw [hW1];simp
 have DA:Dk W1 w.heap.size ng (.slice a n c) e:=by rw [hW1];exact (Dk.new w ng (.slice a n c) e).alloc _
 have DB:Dk W1 (w.heap.size+1) mg (.slice b m d) f:=by
  rw [hW1];have:=Dk.new (w.alloc (.cells #[.bool ng,.slice a n c,.int .i64 e] 42)) mg (.slice b m d) f;simpa using this
 have hs:w.heap.size≤W1.heap.size:=by omega
 have S0:=(qsd (ai hB (ai DA DB)));clear hz;clear hB DA DB;go_enter Tryz.func43,Tryz.ntmps43
 go_upto_region 1 with fail
 rw [←hW1];clear hW1;obtain ⟨hB,DA,DB⟩:=S0.out;obtain ⟨x0,x1,x2,xf0,xf1,xf2⟩:=DA.facts;obtain ⟨y0,y1,y2,yf0,yf1,yf2⟩:=DB.facts;have HH:=hid (HR.out W1 hB);clear hB DA DB
 go_wp2_with fail
 clear x0 x1 x2 xf0 xf1 xf2 y0 y1 y2 yf0 yf1 yf2;refine HH.out.mono ?_;rintro r u1 ⟨rfl,hb⟩;obtain ⟨hB,DA,DB⟩:=S0.out;have hs1:=hb.size;have S1:=(qsd (ai (hB.trans (hb.mono (by omega))) (ai (DA.below hb) (DB.below hb))))
 clear hB DA DB hb HH S0;go_wp2;go_ret;exact ⟨rfl,S1.out.1⟩
theorem cmp_nought {w:World}{a b:Option Addr}{n c m d:Nat}(ng mg:Bool) (e f:Int) (s t z:Int) (hs0:s=0)
 (HA:Hid (∀ u,Below w.heap.size w u→Calls Tryz.prog 28 #[.agg #[.bool ng,.slice a n c,.int .i64 e]] u fun r w'=>r=.returned (.int .i64 s)∧Below u.heap.size u w'))
 (HB:Hid (∀ u,Below w.heap.size w u→Calls Tryz.prog 28 #[.agg #[.bool mg,.slice b m d,.int .i64 f]] u fun r w'=>r=.returned (.int .i64 t)∧Below u.heap.size u w'))
 (HC:Hid (∀ u,Calls Tryz.prog 42 #[.int .i64 s,.int .i64 t] u fun r w'=>r=.returned (.int .i64 z)∧w'=u)) :
 Calls Tryz.prog 20 #[.agg #[.bool ng,.slice a n c,.int .i64 e],.agg #[.bool mg,.slice b m d,.int .i64 f]] w fun r w'=>r=.returned (.int .i64 z)∧Below w.heap.size w w':=by
 subst hs0;obtain ⟨W1,hW1⟩:∃ W,W=(w.alloc (.cells #[.bool ng,.slice a n c,.int .i64 e] 42)).alloc (.cells #[.bool mg,.slice b m d,.int .i64 f] 42):=⟨_,rfl⟩;have hB:Below w.heap.size w W1:=by rw [hW1];exact (below_alloc w _).alloc (by simp) _
 have hz:W1.heap.size=w.heap.size+2:=by rw [hW1];simp
 have DA:Dk W1 w.heap.size ng (.slice a n c) e:=by rw [hW1];exact (Dk.new w ng (.slice a n c) e).alloc _
 have DB:Dk W1 (w.heap.size+1) mg (.slice b m d) f:=by
  rw [hW1];have:=Dk.new (w.alloc (.cells #[.bool ng,.slice a n c,.int .i64 e] 42)) mg (.slice b m d) f;simpa using this
 have hs:w.heap.size≤W1.heap.size:=by omega
 have S0:=(qsd (ai hB (ai DA DB)));clear hz;clear hB DA DB;go_enter Tryz.func20,Tryz.ntmps20
 go_upto_region 1 with fail
 rw [←hW1];clear hW1;obtain ⟨hB,DA,DB⟩:=S0.out;obtain ⟨x0,x1,x2,xf0,xf1,xf2⟩:=DA.facts;obtain ⟨y0,y1,y2,yf0,yf1,yf2⟩:=DB.facts;have HH:=hid (HA.out W1 hB);clear hB DA DB
 go_wp2_with fail
 clear x0 x1 x2 xf0 xf1 xf2 y0 y1 y2 yf0 yf1 yf2;refine HH.out.mono ?_;rintro r u1 ⟨rfl,hb⟩;obtain ⟨hB,DA,DB⟩:=S0.out;have hs1:=hb.size;have S1:=(qsd (ai (hB.trans (hb.mono (by omega))) (ai (DA.below hb) (DB.below hb))))
 clear hB DA DB hb HH S0;obtain ⟨hB,DA,DB⟩:=S1.out;obtain ⟨x0,x1,x2,xf0,xf1,xf2⟩:=DA.facts;obtain ⟨y0,y1,y2,yf0,yf1,yf2⟩:=DB.facts;have HH:=hid (HB.out u1 hB);clear hB DA DB
 go_wp2_with fail
 clear x0 x1 x2 xf0 xf1 xf2 y0 y1 y2 yf0 yf1 yf2;refine HH.out.mono ?_;rintro r u2 ⟨rfl,hb⟩;obtain ⟨hB,DA,DB⟩:=S1.out;have hs2:=hb.size;have S2:=(qsd (ai (hB.trans (hb.mono (by omega))) (ai (DA.below hb) (DB.below hb))))
 clear hB DA DB hb HH S1;obtain ⟨hB,DA,DB⟩:=S2.out;obtain ⟨x0,x1,x2,xf0,xf1,xf2⟩:=DA.facts;obtain ⟨y0,y1,y2,yf0,yf1,yf2⟩:=DB.facts;have HH:=hid (HC.out u2);clear hB DA DB
 go_wp2_with fail
 clear x0 x1 x2 xf0 xf1 xf2 y0 y1 y2 yf0 yf1 yf2;refine HH.out.mono ?_;rintro r uu ⟨rfl,hw⟩;rw [hw];clear hw uu HH;go_wp2;go_ret;exact ⟨rfl,S2.out.1⟩
theorem cmp_apart {w:World}{a b:Option Addr}{n c m d:Nat}(ng mg:Bool) (e f:Int) (s t z:Int) (hs0:(s==0)=false) (hst:(s==t)=false)
 (HA:Hid (∀ u,Below w.heap.size w u→Calls Tryz.prog 28 #[.agg #[.bool ng,.slice a n c,.int .i64 e]] u fun r w'=>r=.returned (.int .i64 s)∧Below u.heap.size u w'))
 (HB:Hid (∀ u,Below w.heap.size w u→Calls Tryz.prog 28 #[.agg #[.bool mg,.slice b m d,.int .i64 f]] u fun r w'=>r=.returned (.int .i64 t)∧Below u.heap.size u w'))
 (HC:Hid (∀ u,Calls Tryz.prog 42 #[.int .i64 s,.int .i64 t] u fun r w'=>r=.returned (.int .i64 z)∧w'=u)) :
 Calls Tryz.prog 20 #[.agg #[.bool ng,.slice a n c,.int .i64 e],.agg #[.bool mg,.slice b m d,.int .i64 f]] w fun r w'=>r=.returned (.int .i64 z)∧Below w.heap.size w w':=by
 obtain ⟨W1,hW1⟩:∃ W,W=(w.alloc (.cells #[.bool ng,.slice a n c,.int .i64 e] 42)).alloc (.cells #[.bool mg,.slice b m d,.int .i64 f] 42):=⟨_,rfl⟩;have hB:Below w.heap.size w W1:=by rw [hW1];exact (below_alloc w _).alloc (by simp) _
 have hz:W1.heap.size=w.heap.size+2:=by rw [hW1];simp
 have DA:Dk W1 w.heap.size ng (.slice a n c) e:=by rw [hW1];exact (Dk.new w ng (.slice a n c) e).alloc _
 have DB:Dk W1 (w.heap.size+1) mg (.slice b m d) f:=by
  rw [hW1];have:=Dk.new (w.alloc (.cells #[.bool ng,.slice a n c,.int .i64 e] 42)) mg (.slice b m d) f;simpa using this
 have hs:w.heap.size≤W1.heap.size:=by omega
 have S0:=(qsd (ai hB (ai DA DB)));clear hz;clear hB DA DB;go_enter Tryz.func20,Tryz.ntmps20
 go_upto_region 1 with fail
 rw [←hW1];clear hW1;obtain ⟨hB,DA,DB⟩:=S0.out;obtain ⟨x0,x1,x2,xf0,xf1,xf2⟩:=DA.facts;obtain ⟨y0,y1,y2,yf0,yf1,yf2⟩:=DB.facts;have HH:=hid (HA.out W1 hB);clear hB DA DB
 go_wp2_with fail
 clear x0 x1 x2 xf0 xf1 xf2 y0 y1 y2 yf0 yf1 yf2;refine HH.out.mono ?_;rintro r u1 ⟨rfl,hb⟩;obtain ⟨hB,DA,DB⟩:=S0.out;have hs1:=hb.size;have S1:=(qsd (ai (hB.trans (hb.mono (by omega))) (ai (DA.below hb) (DB.below hb))))
 clear hB DA DB hb HH S0;obtain ⟨hB,DA,DB⟩:=S1.out;obtain ⟨x0,x1,x2,xf0,xf1,xf2⟩:=DA.facts;obtain ⟨y0,y1,y2,yf0,yf1,yf2⟩:=DB.facts;have HH:=hid (HB.out u1 hB);clear hB DA DB
 go_wp2_with fail
 clear x0 x1 x2 xf0 xf1 xf2 y0 y1 y2 yf0 yf1 yf2;refine HH.out.mono ?_;rintro r u2 ⟨rfl,hb⟩;obtain ⟨hB,DA,DB⟩:=S1.out;have hs2:=hb.size;have S2:=(qsd (ai (hB.trans (hb.mono (by omega))) (ai (DA.below hb) (DB.below hb))))
 clear hB DA DB hb HH S1;obtain ⟨hB,DA,DB⟩:=S2.out;obtain ⟨x0,x1,x2,xf0,xf1,xf2⟩:=DA.facts;obtain ⟨y0,y1,y2,yf0,yf1,yf2⟩:=DB.facts;have HH:=hid (HB.out u2 hB);clear hB DA DB
 go_wp2_with fail
 clear x0 x1 x2 xf0 xf1 xf2 y0 y1 y2 yf0 yf1 yf2;refine HH.out.mono ?_;rintro r u3 ⟨rfl,hb⟩;obtain ⟨hB,DA,DB⟩:=S2.out;have hs3:=hb.size;have S3:=(qsd (ai (hB.trans (hb.mono (by omega))) (ai (DA.below hb) (DB.below hb))))
 clear hB DA DB hb HH S2;obtain ⟨hB,DA,DB⟩:=S3.out;obtain ⟨x0,x1,x2,xf0,xf1,xf2⟩:=DA.facts;obtain ⟨y0,y1,y2,yf0,yf1,yf2⟩:=DB.facts;have HH:=hid (HC.out u3);clear hB DA DB
 go_wp2_with fail
 clear x0 x1 x2 xf0 xf1 xf2 y0 y1 y2 yf0 yf1 yf2;refine HH.out.mono ?_;rintro r uu ⟨rfl,hw⟩;rw [hw];clear hw uu HH;go_wp2;go_ret;exact ⟨rfl,S3.out.1⟩
theorem cmp_alike {w:World}{a b:Option Addr}{n c m d:Nat}(ng mg:Bool) (e f:Int) (s z:Int) (hs0:(s==0)=false) (bs0:-1≤s) (bs1:s≤1) (bz0:-1≤z) (bz1:z≤1) (p:Int) (hp:IntKind.i64.wrap (s*z)=p)
 (HA:Hid (∀ u,Below w.heap.size w u→Calls Tryz.prog 28 #[.agg #[.bool ng,.slice a n c,.int .i64 e]] u fun r w'=>r=.returned (.int .i64 s)∧Below u.heap.size u w'))
 (HB:Hid (∀ u,Below w.heap.size w u→Calls Tryz.prog 28 #[.agg #[.bool mg,.slice b m d,.int .i64 f]] u fun r w'=>r=.returned (.int .i64 s)∧Below u.heap.size u w'))
 (HZ:Hid (∀ u,Below w.heap.size w u→Calls Tryz.prog 43 #[.agg #[.bool ng,.slice a n c,.int .i64 e],.agg #[.bool mg,.slice b m d,.int .i64 f]] u fun r w'=>r=.returned (.int .i64 z)∧Below u.heap.size u w')) :
 Calls Tryz.prog 20 #[.agg #[.bool ng,.slice a n c,.int .i64 e],.agg #[.bool mg,.slice b m d,.int .i64 f]] w fun r w'=>r=.returned (.int .i64 p)∧Below w.heap.size w w':=by
 obtain ⟨W1,hW1⟩:∃ W,W=(w.alloc (.cells #[.bool ng,.slice a n c,.int .i64 e] 42)).alloc (.cells #[.bool mg,.slice b m d,.int .i64 f] 42):=⟨_,rfl⟩;have hB:Below w.heap.size w W1:=by rw [hW1];exact (below_alloc w _).alloc (by simp) _
 have hz:W1.heap.size=w.heap.size+2:=by rw [hW1];simp
 have DA:Dk W1 w.heap.size ng (.slice a n c) e:=by rw [hW1];exact (Dk.new w ng (.slice a n c) e).alloc _
 have DB:Dk W1 (w.heap.size+1) mg (.slice b m d) f:=by
  rw [hW1];have:=Dk.new (w.alloc (.cells #[.bool ng,.slice a n c,.int .i64 e] 42)) mg (.slice b m d) f;simpa using this
 have hs:w.heap.size≤W1.heap.size:=by omega
 have S0:=(qsd (ai hB (ai DA DB)));clear hz;clear hB DA DB;go_enter Tryz.func20,Tryz.ntmps20
 go_upto_region 1 with fail
 rw [←hW1];clear hW1;obtain ⟨hB,DA,DB⟩:=S0.out;obtain ⟨x0,x1,x2,xf0,xf1,xf2⟩:=DA.facts;obtain ⟨y0,y1,y2,yf0,yf1,yf2⟩:=DB.facts;have HH:=hid (HA.out W1 hB);clear hB DA DB
 go_wp2_with fail
 clear x0 x1 x2 xf0 xf1 xf2 y0 y1 y2 yf0 yf1 yf2;refine HH.out.mono ?_;rintro r u1 ⟨rfl,hb⟩;obtain ⟨hB,DA,DB⟩:=S0.out;have hs1:=hb.size;have S1:=(qsd (ai (hB.trans (hb.mono (by omega))) (ai (DA.below hb) (DB.below hb))))
 clear hB DA DB hb HH S0;obtain ⟨hB,DA,DB⟩:=S1.out;obtain ⟨x0,x1,x2,xf0,xf1,xf2⟩:=DA.facts;obtain ⟨y0,y1,y2,yf0,yf1,yf2⟩:=DB.facts;have HH:=hid (HB.out u1 hB);clear hB DA DB
 go_wp2_with fail
 clear x0 x1 x2 xf0 xf1 xf2 y0 y1 y2 yf0 yf1 yf2;refine HH.out.mono ?_;rintro r u2 ⟨rfl,hb⟩;obtain ⟨hB,DA,DB⟩:=S1.out;have hs2:=hb.size;have S2:=(qsd (ai (hB.trans (hb.mono (by omega))) (ai (DA.below hb) (DB.below hb))))
 clear hB DA DB hb HH S1;obtain ⟨hB,DA,DB⟩:=S2.out;obtain ⟨x0,x1,x2,xf0,xf1,xf2⟩:=DA.facts;obtain ⟨y0,y1,y2,yf0,yf1,yf2⟩:=DB.facts;have HH:=hid (HZ.out u2 hB);clear hB DA DB
 go_wp2_with fail
 clear x0 x1 x2 xf0 xf1 xf2 y0 y1 y2 yf0 yf1 yf2;refine HH.out.mono ?_;rintro r u3 ⟨rfl,hb⟩;obtain ⟨hB,DA,DB⟩:=S2.out;have hs3:=hb.size;have S3:=(qsd (ai (hB.trans (hb.mono (by omega))) (ai (DA.below hb) (DB.below hb))))
 clear hB DA DB hb HH S2;go_wp2;go_ret;exact ⟨rfl,S3.out.1⟩
theorem u64_apart (e f:Int) (he0:-9223372036854775808≤e) (he1:e≤9223372036854775807) (hf0:-9223372036854775808≤f) (hf1:f≤9223372036854775807) (h:f≤e):IntKind.u64.wrap (IntKind.u64.wrap e-IntKind.u64.wrap f)=(((e-f).toNat:Nat):Int):=by
 rw [IntKind.wrap_u64,IntKind.wrap_u64,IntKind.wrap_u64];omega
theorem cmp_size (X Y dd:Nat) (hX:X≠0):(if bl Y<dd then 1 else if dd+bl X=bl Y then cmpI (X*2^dd) Y else cmpI (dd+bl X) (bl Y))=cmpI (X*2^dd) Y:=by
 have hb:=bl_up X dd hX
 by_cases h1:bl Y<dd
 · rw [if_pos h1,cmpI_bl (by omega),hb]
   unfold cmpI;rw [if_neg (by omega),if_pos (by omega)]
 · rw [if_neg h1]
   by_cases h2:dd+bl X=bl Y
   · rw [if_pos h2]
   · rw [if_neg h2,cmpI_bl (x:=X*2^dd) (by omega),hb,Nat.add_comm]
theorem bl_arg {w:World}{a:Option Addr}{n c:Nat}{xs:List Nat}(h1:Arg w a n c xs):bl (val xs)≤1125899906842624:=by
 have:=val_lt xs h1.wf;rw [←h1.len] at this;have:=bl_pw _ _ this;have:=h1.big;omega
theorem cmpSizes_ge {w:World}{a b:Option Addr}{n c m d:Nat}{xs ys:List Nat}(h1:Arg w a n c xs) (h2:Arg w b m d ys) (ng mg:Bool) (e f:Int) (he0:-9223372036854775808≤e) (he1:e≤9223372036854775807) (hf0:-9223372036854775808≤f) (hf1:f≤9223372036854775807) (h:f≤e) (hX:val xs≠0) :
 Calls Tryz.prog 43 #[.agg #[.bool ng,.slice a n c,.int .i64 e],.agg #[.bool mg,.slice b m d,.int .i64 f]] w fun r w'=>r=.returned (.int .i64 (cmpP (val xs) e (val ys) f))∧Below w.heap.size w w':=by
 have b1:=h1.big;have b2:=h2.big
 have:=cmpSizes_go (w:=w) ng mg e f (bl (val xs)) (bl (val ys)) (e-f).toNat (cmpI (val xs*2^(e-f).toNat) (val ys)) (bl_arg h1) (bl_arg h2) (decide_eq_false (by omega)) (u64_apart e f he0 he1 hf0 hf1 h)
  (hid fun u hu=>len_any xs a n c u.heap.size u h1.len h1.cap (by omega) h1.wf (h1.below hu).rd)
  (hid fun u hu=>len_any ys b m d u.heap.size u h2.len h2.cap (by omega) h2.wf (h2.below hu).rd)
  (hid fun u hu hd=>cmpFromTop_any (h1.below hu) (h2.below hu) (e-f).toNat (by omega))
 rw [cmp_size _ _ _ hX] at this;unfold cmpP;rw [if_neg (by omega)]
 exact this
theorem cmpSizes_any {w:World}{a b:Option Addr}{n c m d:Nat}{xs ys:List Nat}(h1:Arg w a n c xs) (h2:Arg w b m d ys) (ng mg:Bool) (e f:Int) (he0:-9223372036854775808≤e) (he1:e≤9223372036854775807) (hf0:-9223372036854775808≤f) (hf1:f≤9223372036854775807) (hX:val xs≠0) (hY:val ys≠0) :
 Calls Tryz.prog 43 #[.agg #[.bool ng,.slice a n c,.int .i64 e],.agg #[.bool mg,.slice b m d,.int .i64 f]] w fun r w'=>r=.returned (.int .i64 (cmpP (val xs) e (val ys) f))∧Below w.heap.size w w':=by
 by_cases h:e<f
 · have hr:=cmpP_range (val ys) f (val xs) e
   have:=cmpSizes_lt (w:=w) ng mg e f (cmpP (val ys) f (val xs) e) h (by omega) (by omega) (hid fun u hu=>cmpSizes_ge (h2.below hu) (h1.below hu) mg ng f e hf0 hf1 he0 he1 (by omega) hY)
   rw [cmpP_neg] at this;exact this
 · exact cmpSizes_ge h1 h2 ng mg e f he0 he1 hf0 hf1 (by omega) hX
theorem sgn_range (n:Bool) (X:Nat):sgn n X=-1∨sgn n X=0∨sgn n X=1:=by
 unfold sgn;split
 · exact .inr (.inl rfl)
 · split
   · exact .inl rfl
   · exact .inr (.inr rfl)
theorem sgn_zero3 {n:Bool}{X:Nat}:sgn n X=0↔X=0:=by
 unfold sgn
 by_cases h:X=0
 · simp [h]
 · rw [if_neg h];cases n <;> simp [h]
theorem Cmp_any3 {w:World}{a b:Option Addr}{n c m d:Nat}{xs ys:List Nat}(h1:Arg w a n c xs) (h2:Arg w b m d ys) (ng mg:Bool) (e f:Int) (he0:-9223372036854775808≤e) (he1:e≤9223372036854775807) (hf0:-9223372036854775808≤f) (hf1:f≤9223372036854775807) :
 Calls Tryz.prog 20 #[.agg #[.bool ng,.slice a n c,.int .i64 e],.agg #[.bool mg,.slice b m d,.int .i64 f]] w fun r w'=>r=.returned (.int .i64 (cmpV ng (val xs) e mg (val ys) f))∧Below w.heap.size w w':=by
 have SA:=hid fun u (hu:Below w.heap.size w u)=>Sign_any3 (h1.below hu) ng e
 have SB:=hid fun u (hu:Below w.heap.size w u)=>Sign_any3 (h2.below hu) mg f
 have hA:=sgn_range ng (val xs);have hB:=sgn_range mg (val ys)
 by_cases h0:sgn ng (val xs)=0
 · have hX:=sgn_zero3.1 h0
   have e1:cmpV ng (val xs) e mg (val ys) f=cmpZ (sgn ng (val xs)) (sgn mg (val ys)):=by
    unfold cmpV cmpZ;rw [if_pos hX]
   rw [e1];exact cmp_nought ng mg e f _ _ _ h0 SA SB (hid fun u=>compare_z _ _ u)
 · have h0':(sgn ng (val xs)==0)=false:=by simpa using h0
   by_cases hst:sgn ng (val xs)=sgn mg (val ys)
   · have hX:val xs≠0:=fun h=>h0 (sgn_zero3.2 h)
     have hY:val ys≠0:=fun h=>h0 (by rw [hst];exact sgn_zero3.2 h)
     have hz:=cmpP_range (val xs) e (val ys) f
     have e1:cmpV ng (val xs) e mg (val ys) f=sgn ng (val xs)*cmpP (val xs) e (val ys) f:=by
      unfold cmpV;rw [hst,if_neg (by omega),if_neg (by omega),if_neg hX,←hst]
      unfold sgn;rw [if_neg hX]
      cases ng
      · simp
      · simp only [if_true]
        rw [Int.neg_one_mul,cmpP_neg]
     rw [e1];rw [←hst] at SB;refine cmp_alike ng mg e f (sgn ng (val xs)) (cmpP (val xs) e (val ys) f) h0' (by omega) (by omega) (by omega) (by omega) _ ?_ SA SB (hid fun u hu=>cmpSizes_any (h1.below hu) (h2.below hu) ng mg e f he0 he1 hf0 hf1 hX hY)
     rcases hA with h|h|h <;> rcases hz with k|k|k <;> rw [h,k] <;> rfl
   · have e1:cmpV ng (val xs) e mg (val ys) f=cmpZ (sgn ng (val xs)) (sgn mg (val ys)):=by
      unfold cmpV cmpZ
      by_cases k:sgn ng (val xs)<sgn mg (val ys)
      · rw [if_pos k,if_pos k]
      · rw [if_neg k,if_neg k,if_pos (by omega),if_pos (by omega)]
     rw [e1];exact cmp_apart ng mg e f _ _ _ h0' (by simpa using hst) SA SB (hid fun u=>compare_z _ _ u)
end
section
open Go.RowKit
def sg1 (n:Bool):Int:=if n then -1 else 1
def zv (B:Int) (x:Bool×Nat×Int):Int:=sg1 x.1*((x.2.1*2^(x.2.2-B).toNat:Nat):Int)
theorem pow_split (e l B:Int) (h:B≤e) (hl:0≤l):(2:Nat)^(e+l-B).toNat=2^l.toNat*2^(e-B).toNat:=by
 rw [←Nat.pow_add];congr 1;omega
theorem zv_mkS {n:Bool}{X:Nat}{e:Int}{x:Bool×Nat×Int}(h:mkS n X e=some x) (B:Int) (hB:X=0∨B≤e):zv B x=sg1 n*((X*2^(e-B).toNat:Nat):Int):=by
 unfold mkS at h
 by_cases h0:X=0
 · rw [if_pos h0] at h
   cases h
   subst h0;simp [zv]
 · rw [if_neg h0] at h
   split at h
   · cases h
   · cases h
     have hB':B≤e:=by rcases hB with h | h;exact absurd h h0;exact h
     obtain ⟨m,hm,hd,_⟩:=odd_part X h0
     show sg1 n*((X/2^lo X*2^(e+(lo X:Int)-B).toNat:Nat):Int)=_
     rw [pow_split e (lo X) B hB' (by omega),Int.toNat_natCast,←Nat.mul_assoc]
     have hx:X/2^lo X*2^lo X=X:=by rw [hd];rw [Nat.mul_comm];exact hm.symm
     rw [hx]
theorem sg1_ne {n m:Bool}(h:¬ n=m):sg1 m=-sg1 n:=by cases n <;> cases m <;> first | exact absurd rfl h | rfl
theorem sg1_not (n:Bool):sg1 (!n)=-sg1 n:=by cases n <;> rfl
theorem sg1_bne (n m:Bool):sg1 (n != m)=sg1 n*sg1 m:=by cases n <;> cases m <;> rfl
theorem zv_addUp {n m:Bool}{X Y:Nat}{e f:Int}{z:Bool×Nat×Int}(h:addUp n X e m Y f=some z) (hfe:f≤e) (B:Int) (hB:B≤f):zv B z=zv B (n,X,e)+zv B (m,Y,f):=by
 unfold addUp at h
 split at h
 · cases h
 · have key:X*2^(e-f).toNat*2^(f-B).toNat=X*2^(e-B).toNat:=by
    rw [Nat.mul_assoc,←Nat.pow_add,show (e-f).toNat+(f-B).toNat=(e-B).toNat by omega]
   show zv B z=sg1 n*((X*2^(e-B).toNat:Nat):Int)+sg1 m*((Y*2^(f-B).toNat:Nat):Int)
   generalize 2^(e-f).toNat=P at h key
   split at h
   · rename_i hnm
     rw [zv_mkS h B (.inr hB),hnm,←Int.mul_add,Nat.add_mul,key,Int.natCast_add]
   · rename_i hnm
     split at h
     · rename_i hle
       rw [zv_mkS h B (.inr hB),sg1_ne hnm,Nat.sub_mul,key,Int.ofNat_sub (by rw [←key];exact Nat.mul_le_mul_right _ hle),Int.mul_sub,Int.neg_mul]
       omega
     · rename_i hle
       rw [zv_mkS h B (.inr hB),sg1_not,sg1_ne hnm,Nat.sub_mul,key,Int.ofNat_sub (by rw [←key];exact Nat.mul_le_mul_right _ (by omega)),Int.mul_sub,Int.neg_mul,Int.neg_mul]
       omega
theorem zv_zero {x:Bool×Nat×Int}(B:Int) (h:x.2.1=0):zv B x=0:=by unfold zv;rw [h];simp
theorem zv_addF {x y z:Bool×Nat×Int}(h:addF x y=some z) (B:Int) (hx:x.2.1=0∨B≤x.2.2) (hy:y.2.1=0∨B≤y.2.2):zv B z=zv B x+zv B y:=by
 obtain ⟨n,X,e⟩:=x;obtain ⟨m,Y,f⟩:=y;unfold addF at h;simp only at h hx hy
 by_cases h0:X=0
 · rw [if_pos h0] at h
   cases h
   rw [zv_zero (x:=(n,X,e)) B h0,Int.zero_add]
 · rw [if_neg h0] at h
   by_cases h1:Y=0
   · rw [if_pos h1] at h
     cases h
     rw [zv_zero (x:=(m,Y,f)) B h1,Int.add_zero]
   · rw [if_neg h1] at h
     have hx':B≤e:=by rcases hx with k | k;exact absurd k h0;exact k
     have hy':B≤f:=by rcases hy with k | k;exact absurd k h1;exact k
     by_cases h2:e<f
     · rw [if_pos h2] at h
       rw [zv_addUp h (by omega) B hx',Int.add_comm]
     · rw [if_neg h2] at h
       exact zv_addUp h (by omega) B hy'
theorem zv_mulF {x y z:Bool×Nat×Int}(h:mulF x y=some z) (B C:Int) (hx:x.2.1=0∨B≤x.2.2) (hy:y.2.1=0∨C≤y.2.2):zv (B+C) z=zv B x*zv C y:=by
 obtain ⟨n,X,e⟩:=x;obtain ⟨m,Y,f⟩:=y;unfold mulF at h;simp only at h hx hy
 by_cases h0:X=0
 · subst h0
   rw [Nat.zero_mul] at h;rw [zv_mkS h _ (.inl rfl),zv_zero (x:=(n,0,e)) B rfl];simp
 · by_cases h1:Y=0
   · subst h1
     rw [Nat.mul_zero] at h;rw [zv_mkS h _ (.inl rfl),zv_zero (x:=(m,0,f)) C rfl];simp
   · have hx':B≤e:=by rcases hx with k | k;exact absurd k h0;exact k
     have hy':C≤f:=by rcases hy with k | k;exact absurd k h1;exact k
     rw [zv_mkS h _ (.inr (by omega)),sg1_bne]
     unfold zv;simp only;rw [show (e+f-(B+C)).toNat=(e-B).toNat+(f-C).toNat by omega,Nat.pow_add]
     rw [show X*Y*(2^(e-B).toNat*2^(f-C).toNat)=(X*2^(e-B).toNat)*(Y*2^(f-C).toNat) by rw [Nat.mul_mul_mul_comm]]
     rw [Int.natCast_mul,Int.mul_assoc,Int.mul_assoc]
     congr 1
     rw [←Int.mul_assoc,←Int.mul_assoc]
     congr 1
     exact Int.mul_comm _ _
theorem odd_pow {X Y:Nat}(a b:Nat) (hX:X%2=1) (hY:Y%2=1) (h:X*2^a=Y*2^b):X=Y∧a=b:=by
 have key:∀ (a b X Y:Nat),X%2=1→Y%2=1→X*2^a=Y*2^b→a≤b:=by
  intro a b X Y hX hY h
  rcases Nat.lt_or_ge b a with k|k
  · exfalso
    obtain ⟨d,rfl⟩:∃ d,a=b+(d+1):=⟨a-b-1,by omega⟩
    rw [Nat.pow_add,Nat.mul_comm (2^b),←Nat.mul_assoc] at h;have:=Nat.eq_of_mul_eq_mul_right (Nat.two_pow_pos b) h;rw [Nat.pow_succ,←Nat.mul_assoc] at this;omega
  · exact k
 have h1:=key a b X Y hX hY h;have h2:=key b a Y X hY hX h.symm;have e:a=b:=by omega
 subst e;exact ⟨Nat.eq_of_mul_eq_mul_right (Nat.two_pow_pos a) h,rfl⟩
theorem zv_inj {n m:Bool}{X Y:Nat}{e f:Int}(FX:Frm n X e) (FY:Frm m Y f) (B:Int) (hB:B≤-1048576) (h:zv B (n,X,e)=zv B (m,Y,f)):n=m∧X=Y∧e=f:=by
 have hx:=FX.down;have hy:=FY.down;unfold zv at h;simp only at h;have hpX:0<2^(e-B).toNat:=Nat.two_pow_pos _;have hpY:0<2^(f-B).toNat:=Nat.two_pow_pos _
 rcases FX.odd with oX|⟨rfl,rfl,rfl⟩
 · rcases FY.odd with oY | ⟨rfl,rfl,rfl⟩
   · have pX:0<X*2^(e-B).toNat:=Nat.mul_pos (by omega) hpX
     have pY:0<Y*2^(f-B).toNat:=Nat.mul_pos (by omega) hpY
     have hn:n=m:=by
      generalize X*2^(e-B).toNat=P at h pX;generalize Y*2^(f-B).toNat=Q at h pY
      cases n <;> cases m <;> first | rfl | (simp only [sg1,Bool.false_eq_true,if_true,if_false] at h;omega)
     subst hn
     have hPQ:X*2^(e-B).toNat=Y*2^(f-B).toNat:=by
      generalize X*2^(e-B).toNat=P at h;generalize Y*2^(f-B).toNat=Q at h
      cases n <;> (simp only [sg1,Bool.false_eq_true,if_true,if_false] at h;omega)
     obtain ⟨h1,h2⟩:=odd_pow _ _ oX oY hPQ;exact ⟨rfl,h1,by omega⟩
   · exfalso
     have pX:0<X*2^(e-B).toNat:=Nat.mul_pos (by omega) hpX
     generalize X*2^(e-B).toNat=P at h pX;rw [Nat.zero_mul] at h
     cases n <;> (simp only [sg1,Bool.false_eq_true,if_true,if_false] at h;omega)
 · rcases FY.odd with oY | ⟨rfl,rfl,rfl⟩
   · exfalso
     have pY:0<Y*2^(f-B).toNat:=Nat.mul_pos (by omega) hpY
     generalize Y*2^(f-B).toNat=Q at h pY;rw [Nat.zero_mul] at h
     cases m <;> (simp only [sg1,Bool.false_eq_true,if_true,if_false] at h;omega)
   · exact ⟨rfl,rfl,rfl⟩
end
section
open Go.RowKit
theorem mkS_idem {n:Bool}{X:Nat}{e:Int}(F:Frm n X e):mkS n X e=some (n,X,e):=by
 unfold mkS
 rcases F.odd with h|⟨rfl,rfl,rfl⟩
 · have h1:=F.size;have h2:=F.up;have h3:=F.down
   rw [if_neg (by omega),lo_odd1 h,if_neg (by omega),Nat.pow_zero,Nat.div_one]
   simp
 · rw [if_pos rfl]
theorem addUp_frm {n m:Bool}{X Y:Nat}{e f:Int}{n':Bool}{Z:Nat}{g:Int}(h:addUp n X e m Y f=some (n',Z,g)):Frm n' Z g:=by
 unfold addUp at h
 split at h
 · cases h
 · split at h
   · exact mkS_frm h
   · split at h
     · exact mkS_frm h
     · exact mkS_frm h
theorem addF_frm {n m:Bool}{X Y:Nat}{e f:Int}(FX:Frm n X e) (FY:Frm m Y f) {n':Bool}{Z:Nat}{g:Int}(h:addF (n,X,e) (m,Y,f)=some (n',Z,g)):Frm n' Z g:=by
 unfold addF at h;simp only at h
 split at h
 · cases h;exact FY
 · split at h
   · cases h;exact FX
   · split at h
     · exact addUp_frm h
     · exact addUp_frm h
theorem addD_some {o p:Option (Bool×Nat×Int)}(h:(addD o p).isSome=true):∃ x y z,o=some x∧p=some y∧addF x y=some z∧addD o p=some z:=by
 cases o with
 | none=>cases h
 | some x =>
   cases p with
   | none=>cases h
   | some y =>
     obtain ⟨z,hz⟩:=Option.isSome_iff_exists.1 h;exact ⟨x,y,z,rfl,rfl,hz,hz⟩
theorem mulD_some {o p:Option (Bool×Nat×Int)}(h:(mulD o p).isSome=true):∃ x y z,o=some x∧p=some y∧mulF x y=some z∧mulD o p=some z:=by
 cases o with
 | none=>cases h
 | some x =>
   cases p with
   | none=>cases h
   | some y =>
     obtain ⟨z,hz⟩:=Option.isSome_iff_exists.1 h;exact ⟨x,y,z,rfl,rfl,hz,hz⟩
structure Fv (B:Int) (o:Option (Bool×Nat×Int)) (z:Int):Prop where
 ex:∃ n X e,o=some (n,X,e)∧Frm n X e∧zv B (n,X,e)=z
theorem Frm.base {n:Bool}{X:Nat}{e:Int}(F:Frm n X e) {B:Int}(hB:B≤-1048576):X=0∨B≤e:=.inr (by have:=F.down;omega)
theorem Fv.add {B:Int}(hB:B≤-1048576) {o p:Option (Bool×Nat×Int)}{x y:Int}(h1:Fv B o x) (h2:Fv B p y) (h:(addD o p).isSome=true):Fv B (addD o p) (x+y):=by
 obtain ⟨n,X,e,rfl,F,rfl⟩:=h1.ex;obtain ⟨m,Y,f,rfl,G,rfl⟩:=h2.ex;obtain ⟨_,_,z,e1,e2,hz,hd⟩:=addD_some h
 cases e1;cases e2
 obtain ⟨n',Z,g⟩:=z;exact ⟨n',Z,g,hd,addF_frm F G hz,zv_addF hz B (F.base hB) (G.base hB)⟩
theorem Fv.mul {B C:Int}(hB:B≤-1048576) (hC:C≤-1048576) {o p:Option (Bool×Nat×Int)}{x y:Int}(h1:Fv B o x) (h2:Fv C p y) (h:(mulD o p).isSome=true):Fv (B+C) (mulD o p) (x*y):=by
 obtain ⟨n,X,e,rfl,F,rfl⟩:=h1.ex;obtain ⟨m,Y,f,rfl,G,rfl⟩:=h2.ex;obtain ⟨_,_,z,e1,e2,hz,hd⟩:=mulD_some h
 cases e1;cases e2
 obtain ⟨n',Z,g⟩:=z;exact ⟨n',Z,g,hd,mkS_frm hz,zv_mulF hz B C (F.base hB) (G.base hC)⟩
theorem Fv.same {B:Int}(hB:B≤-1048576) {o p:Option (Bool×Nat×Int)}{x y:Int}(h1:Fv B o x) (h2:Fv B p y) (h:x=y):dN o=dN p∧dX o=dX p∧dE o=dE p:=by
 obtain ⟨n,X,e,rfl,F,rfl⟩:=h1.ex;obtain ⟨m,Y,f,rfl,G,rfl⟩:=h2.ex;exact zv_inj F G B hB h
theorem cmpI_scale (x y k:Nat) (hk:0<k):cmpI (x*k) (y*k)=cmpI x y:=by
 unfold cmpI;simp only [Nat.mul_lt_mul_right hk]
theorem cmpP_base (X:Nat) (e:Int) (Y:Nat) (f B:Int) (h1:B≤e) (h2:B≤f):cmpP X e Y f=cmpI (X*2^(e-B).toNat) (Y*2^(f-B).toNat):=by
 unfold cmpP
 by_cases h:e<f
 · rw [if_pos h,←cmpI_scale _ _ (2^(e-B).toNat) (Nat.two_pow_pos _),Nat.mul_assoc,←Nat.pow_add,show (f-e).toNat+(e-B).toNat=(f-B).toNat by omega]
 · rw [if_neg h,←cmpI_scale _ _ (2^(f-B).toNat) (Nat.two_pow_pos _),Nat.mul_assoc,←Nat.pow_add,show (e-f).toNat+(f-B).toNat=(e-B).toNat by omega]
theorem pos_iff (X k:Nat):X*2^k=0↔X=0:=by
 constructor
 · intro h
   rcases Nat.mul_eq_zero.1 h with h|h
   · exact h
   · have:=Nat.two_pow_pos k;omega
 · rintro rfl;exact Nat.zero_mul _
theorem cmpV_z (n:Bool) (X:Nat) (e:Int) (m:Bool) (Y:Nat) (f B:Int) (h1:B≤e) (h2:B≤f):cmpV n X e m Y f=cmpZ (sg1 n*((X*2^(e-B).toNat:Nat):Int)) (sg1 m*((Y*2^(f-B).toNat:Nat):Int)):=by
 unfold cmpV;rw [cmpP_base X e Y f B h1 h2,cmpP_base Y f X e B h2 h1];have p1:=pos_iff X (e-B).toNat;have p2:=pos_iff Y (f-B).toNat;generalize X*2^(e-B).toNat=P at p1;generalize Y*2^(f-B).toNat=Q at p2;unfold sgn cmpZ cmpI sg1
 have q1:X=0∧P=0∨X≠0∧0<P:=by
  by_cases h:X=0
  · exact .inl ⟨h,p1.2 h⟩
  · exact .inr ⟨h,Nat.pos_of_ne_zero fun k=>h (p1.1 k)⟩
 have q2:Y=0∧Q=0∨Y≠0∧0<Q:=by
  by_cases h:Y=0
  · exact .inl ⟨h,p2.2 h⟩
  · exact .inr ⟨h,Nat.pos_of_ne_zero fun k=>h (p2.1 k)⟩
 clear p1 p2
 rcases q1 with ⟨hX,hP⟩|⟨hX,hP⟩ <;> rcases q2 with ⟨hY,hQ⟩|⟨hY,hQ⟩ <;> cases n <;> cases m <;> simp only [hX,hY,if_true,if_false,Bool.false_eq_true] <;> (repeat' split) <;> omega
end
section
open Go.RowKit
theorem plc_floor (dg:Nat) (least top:Int) (X:Nat) (e:Int) (ho:X%2=1) (Bs:Int) (h1:Bs≤e) (h2:Bs≤least) (hin:¬ top<e+(bl X:Int)) :
 Bs≤(plc dg least top X e).2.1 ∧
 (((plc dg least top X e).2.2.1=true∧X*2^(e-Bs).toNat=(plc dg least top X e).1*2^((plc dg least top X e).2.1-Bs).toNat) ∨
  ((plc dg least top X e).2.2.1=false∧(plc dg least top X e).1*2^((plc dg least top X e).2.1-Bs).toNat<X*2^(e-Bs).toNat∧X*2^(e-Bs).toNat<((plc dg least top X e).1+1)*2^((plc dg least top X e).2.1-Bs).toNat ∧
   ((plc dg least top X e).2.2.2=-1∧2*(X*2^(e-Bs).toNat)<(2*(plc dg least top X e).1+1)*2^((plc dg least top X e).2.1-Bs).toNat ∨
    (plc dg least top X e).2.2.2=0∧2*(X*2^(e-Bs).toNat)=(2*(plc dg least top X e).1+1)*2^((plc dg least top X e).2.1-Bs).toNat ∨
    (plc dg least top X e).2.2.2=1∧(2*(plc dg least top X e).1+1)*2^((plc dg least top X e).2.1-Bs).toNat<2*(X*2^(e-Bs).toNat)))):=by
 unfold plc;rw [if_neg hin];simp only;obtain ⟨ex,hex⟩:∃ ex,max (e+(bl X:Int)-(dg:Int)) least=ex:=⟨_,rfl⟩;rw [hex];have hle:least≤ex:=by omega
 by_cases hoff:ex-e≤0
 · rw [if_pos hoff]
   simp only;refine ⟨by omega,.inl ⟨trivial,?_⟩⟩
   rw [Nat.mul_assoc,←Nat.pow_add,show (-(ex-e)).toNat+(ex-Bs).toNat=(e-Bs).toNat by omega]
 · rw [if_neg hoff]
   simp only;obtain ⟨k,hk⟩:∃ k:Nat,(ex-e).toNat=k:=⟨_,rfl⟩;have hk0:0<k:=by omega
   have hexB:(ex-Bs).toNat=k+(e-Bs).toNat:=by omega
   have hk1:(ex-e-1).toNat=k-1:=by omega
   rw [hk,hexB,hk1,Nat.pow_add];obtain ⟨Q,hQ⟩:∃ Q,2^(e-Bs).toNat=Q:=⟨_,rfl⟩;have hQ0:0<Q:=by rw [←hQ];exact Nat.two_pow_pos _
   rw [hQ];have hdm:=Nat.div_add_mod X (2^k);have hmod:=Nat.mod_lt X (Nat.two_pow_pos k);obtain ⟨F,hF⟩:∃ F,X/2^k=F:=⟨_,rfl⟩;obtain ⟨R,hR⟩:∃ R,X%2^k=R:=⟨_,rfl⟩;have hhalf:2^k=2*2^(k-1):=by rw [show k=k-1+1 by omega,Nat.pow_succ,Nat.mul_comm];rfl
   have hbit:X/2^(k-1)%2=R/2^(k-1):=by
    rw [←hR,hhalf];rw [Nat.mul_comm 2,Nat.mod_mul_right_div_self]
   obtain ⟨Hf,hHf⟩:∃ Hf,2^(k-1)=Hf:=⟨_,rfl⟩;have hHf0:0<Hf:=by rw [←hHf];exact Nat.two_pow_pos _
   rw [hHf] at hhalf hbit ⊢;rw [hbit];rw [hhalf] at hdm hmod hF hR ⊢;rw [hF,hR] at hdm;rw [hR] at hmod;rw [hF]
   have hR0:R≠0:=by
    intro h;rw [h,Nat.add_zero,Nat.mul_assoc] at hdm;omega
   have e1:F*(2*Hf*Q)=(F*(2*Hf))*Q:=(Nat.mul_assoc _ _ _).symm;have e2:(F+1)*(2*Hf*Q)=((F+1)*(2*Hf))*Q:=(Nat.mul_assoc _ _ _).symm
   have e3:(2*F+1)*(2*Hf*Q)=(2*(F*(2*Hf))+2*Hf)*Q:=by
    rw [Nat.add_mul,Nat.add_mul,Nat.one_mul,Nat.mul_assoc 2 F,←Nat.mul_assoc F,Nat.mul_assoc 2 (F*(2*Hf)) Q]
   have e4:2*(X*Q)=(2*X)*Q:=by rw [Nat.mul_assoc]
   have e5:2*Hf*F=F*(2*Hf):=Nat.mul_comm _ _;rw [e5] at hdm;have e6:(F+1)*(2*Hf)=F*(2*Hf)+2*Hf:=by rw [Nat.add_mul,Nat.one_mul]
   rw [e1,e2,e3,e4,e6];generalize F*(2*Hf)=G at hdm ⊢;refine ⟨by omega,.inr ⟨trivial,Nat.mul_lt_mul_of_pos_right (by omega) hQ0,Nat.mul_lt_mul_of_pos_right (by omega) hQ0,?_⟩⟩
   by_cases hone:ex-e=1
   · rw [if_pos hone]
     have hk1':k=1:=by omega
     have hHf1:Hf=1:=by rw [←hHf,hk1']
     refine .inr (.inl ⟨rfl,?_⟩)
     congr 1
     omega
   · rw [if_neg hone]
     have hHf2:Hf%2=0:=by
      rw [←hHf,show k-1=k-2+1 by omega,Nat.pow_succ];omega
     have hRodd:R%2=1:=by
      have:G%2=0∨True:=.inr trivial;rw [←hR];rw [Nat.mod_mul_right_mod];exact ho
     by_cases hge:Hf≤R
     · have hd1:R/Hf=1:=by
        rw [Nat.div_eq_iff hHf0];omega
       rw [hd1,if_pos rfl];refine .inr (.inr ⟨rfl,Nat.mul_lt_mul_of_pos_right ?_ hQ0⟩);have:R≠Hf:=by intro h;rw [h] at hRodd;omega
       omega
     · have hd0:R/Hf=0:=Nat.div_eq_of_lt (by omega)
       rw [hd0,if_neg (by omega)]
       exact .inl ⟨rfl,Nat.mul_lt_mul_of_pos_right (by omega) hQ0⟩
def flK (X:Nat) (e:Int):Nat:=((plc 53 (-1074) 1024 X e).2.1+1074).toNat*4503599627370496+(plc 53 (-1074) 1024 X e).1
abbrev vK (K:Nat):Nat:=B.val Ieee.double K
theorem vK_lt {K L:Nat}:vK K<vK L↔K<L:=B.val_lt_iff Ieee.double
theorem vK_word (j F:Nat) (h:j=0∨4503599627370496≤F) (hF:F≤9007199254740992):vK (j*4503599627370496+F)=F*2^j:=by
 have:=B.val_at Ieee.double j F (by rw [B.dBin];exact h) (by rw [B.dBin];omega)
 rw [B.dBin] at this;exact this
structure Lies (K:Nat) (at':Bool) (mid:Int) (V S:Nat):Prop where
 fin:K<9218868437227405312
 pos:0<S
 one:at'=true→V=vK K*S
 low:at'=false→vK K*S<V
 mids:at'=false→V<vK (K+1)*S→(mid=-1∧2*V<vK K*S+vK (K+1)*S∨mid=0∧2*V=vK K*S+vK (K+1)*S∨mid=1∧vK K*S+vK (K+1)*S<2*V)
 high:at'=false→V<vK (K+1)*S∨(K=9218868437227405311∧mid=1)
theorem lies (X:Nat) (e:Int) (hX:X%2=1) (he0:-1048576≤e) (he1:e≤1048576) (Bs:Int) (h1:Bs≤e) (h2:Bs≤-1074) :
 Lies (flK X e) (plc 53 (-1074) 1024 X e).2.2.1 (plc 53 (-1074) 1024 X e).2.2.2 (X*2^(e-Bs).toNat) (2^(-1074-Bs).toNat):=by
 have hX0:X≠0:=by omega
 obtain ⟨f1,f2,f3,f4⟩:=plc_facts X e hX0 he0 he1;obtain ⟨j,hj⟩:∃ j:Nat,((plc 53 (-1074) 1024 X e).2.1+1074).toNat=j:=⟨_,rfl⟩;have hS:0<2^(-1074-Bs).toNat:=Nat.two_pow_pos _
 have hw:∀ F,F≤9007199254740992→(j=0∨4503599627370496≤F)→vK (j*4503599627370496+F)*2^(-1074-Bs).toNat=F*2^((plc 53 (-1074) 1024 X e).2.1-Bs).toNat:=by
  intro F hF hn;rw [vK_word j F hn hF,Nat.mul_assoc,←Nat.pow_add]
  congr 2
  omega
 have hn1:j=0∨4503599627370496≤(plc 53 (-1074) 1024 X e).1:=by
  rcases f4 with h|h
  · left;omega
  · exact .inr h
 have w1:=hw (plc 53 (-1074) 1024 X e).1 (by omega) hn1
 have w2:=hw ((plc 53 (-1074) 1024 X e).1+1) (by omega) (by rcases hn1 with h | h;exact .inl h;exact .inr (by omega))
 have hflK:flK X e=j*4503599627370496+(plc 53 (-1074) 1024 X e).1:=by unfold flK;rw [hj]
 have hflK1:flK X e+1=j*4503599627370496+((plc 53 (-1074) 1024 X e).1+1):=by rw [hflK];omega
 have hfin:flK X e<9218868437227405312:=by rw [hflK];omega
 rw [←hflK] at w1;rw [←hflK1] at w2
 by_cases hin:1024<e+(bl X:Int)
 · have hp:plc 53 (-1074) 1024 X e=((2^53-1:Nat),((1024:Int)-((53:Nat):Int)),false,(1:Int)):=by unfold plc;rw [if_pos hin]
   have hK:flK X e=9218868437227405311:=by unfold flK;rw [hp];rfl
   refine ⟨hfin,hS,fun h=>(by rw [hp] at h;cases h),fun _=>?_,fun _ hlt=>?_,fun _=>.inr ⟨hK,(by rw [hp])⟩⟩
   · rw [w1]
     have hlow:(2^53-1)*2^(971-Bs).toNat<2^53*2^(971-Bs).toNat:=Nat.mul_lt_mul_of_pos_right (by decide) (Nat.two_pow_pos _)
     have hup:2^53*2^(971-Bs).toNat≤X*2^(e-Bs).toNat:=by
      have hb:=bl_ge X hX0;have hbp:=bl_pos X hX0;refine Nat.le_trans ?_ (Nat.mul_le_mul_right _ hb);rw [←Nat.pow_add,←Nat.pow_add];exact Nat.pow_le_pow_right (by omega) (by omega)
     rw [hp];exact Nat.lt_of_lt_of_le hlow hup
   · exfalso
     rw [w2,hp] at hlt
     have hup:2^53*2^(971-Bs).toNat≤X*2^(e-Bs).toNat:=by
      have hb:=bl_ge X hX0;have hbp:=bl_pos X hX0;refine Nat.le_trans ?_ (Nat.mul_le_mul_right _ hb);rw [←Nat.pow_add,←Nat.pow_add];exact Nat.pow_le_pow_right (by omega) (by omega)
     exact absurd hlt (Nat.not_lt.2 hup)
 · obtain ⟨_,hfl⟩:=plc_floor 53 (-1074) 1024 X e hX Bs h1 h2 hin
   have hmid:vK (flK X e)*2^(-1074-Bs).toNat+vK (flK X e+1)*2^(-1074-Bs).toNat=(2*(plc 53 (-1074) 1024 X e).1+1)*2^((plc 53 (-1074) 1024 X e).2.1-Bs).toNat:=by
    rw [w1,w2,←Nat.add_mul];congr 1;omega
   rcases hfl with ⟨ht,hv⟩|⟨hf,hlo,hhi,hm⟩
   · exact ⟨hfin,hS,fun _=>(by rw [w1];exact hv),fun h=>(by rw [ht] at h;cases h),fun h=>(by rw [ht] at h;cases h),fun h=>(by rw [ht] at h;cases h)⟩
   · refine ⟨hfin,hS,fun h=>(by rw [hf] at h;cases h),fun _=>(by rw [w1];exact hlo),fun _ _=>(by rw [hmid];exact hm),fun _=>.inl (by rw [w2];exact hhi)⟩
end
section
open Go.RowKit
def rK (mode:Int) (n:Bool) (K:Nat) (t:Bool) (m:Int):Nat:=if t then K else if outS mode K m n then K+1 else K
theorem outS_par (mode:Int) (j F:Nat) (m:Int) (n:Bool):outS mode (j*4503599627370496+F) m n=outS mode F m n:=by
 unfold outS;rw [show (j*4503599627370496+F)%2=F%2 by omega]
theorem rndK_eq (mode:Int) (n:Bool) (X:Nat) (e:Int):rndK mode n X e=rK mode n (flK X e) (plc 53 (-1074) 1024 X e).2.2.1 (plc 53 (-1074) 1024 X e).2.2.2:=by
 unfold rndK rK flK;simp only;rw [outS_par]
 split
 · rfl
 · split <;> omega
end
section
open Go.RowKit
def wd64 (s:Bool) (K:Nat):Nat:=K+(if s then 9223372036854775808 else 0)
def sK (s:Bool) (K:Nat):Int:=if s then -(K:Int) else K
theorem wd64_bw (s:Bool) (K:Nat) (h:K≤9218868437227405312):wd64 s K=B.bw s (K/4503599627370496) (K%4503599627370496)∧K/4503599627370496<2048∧K%4503599627370496<4503599627370496∧B.odd (K/4503599627370496) (K%4503599627370496)=false∧B.pl s (K/4503599627370496) (K%4503599627370496)=sK s K:=by
 refine ⟨?_,by omega,by omega,?_,?_⟩
 · unfold wd64 B.bw
   cases s
   · simp;omega
   · simp;omega
 · unfold B.odd
   simp;omega
 · unfold B.pl B.sg sK
   rw [show K/4503599627370496*4503599627370496+K%4503599627370496=K by omega]
def rS (n:Bool) (X:Nat):Bool:=if X=0 then false else n
def rW (mode:Int) (n:Bool) (X:Nat) (e:Int):Nat:=if X=0 then 0 else rndK mode n X e
theorem rndS_form (mode:Int) (n:Bool) (X:Nat) (e:Int) (h0:0≤mode) (h4:mode≤4):rndS (some (n,X,e)) mode=(wd64 (rS n X) (rW mode n X e),0):=by
 unfold rndS;rw [if_neg (by omega)]
 simp only;unfold rS rW wd64
 by_cases h:X=0
 · rw [if_pos h,if_pos h,if_pos h];rfl
 · rw [if_neg h,if_neg h,if_neg h]
theorem frm_odd {n:Bool}{X:Nat}{e:Int}(F:Frm n X e) (h:X≠0):X%2=1:=by rcases F.odd with k | k;exact k;exact absurd k.1 h
end
section
open Go.RowKit
attribute [local go_sem] B.f64bits B.f64frombits
def magW (x:Nat):Nat:=x%9223372036854775808
def negW (x:Nat):Bool:=decide (9223372036854775808≤x)
end
end Go.Proofs.YtopgffjnejaijaaGreatDoor
