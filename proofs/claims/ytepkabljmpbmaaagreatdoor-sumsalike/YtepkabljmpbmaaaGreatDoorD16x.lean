import Derived.Test.YtepkabljmpbmaaaGreatDoorD14x
import Derived.Deep.Cut
import Derived.Test.YtepkabljmpbmaaaGreatDoorW53x
import Derived.Test.YtepkabljmpbmaaaGreatDoorBIeeex
import Derived.Laws.FloatArith
set_option linter.unusedVariables false
set_option linter.unusedSimpArgs false
set_option maxHeartbeats 16000000
set_option maxRecDepth 20000
namespace Go.Proofs.YtepkabljmpbmaaaGreatDoor
section
open Go.RowKit
theorem add_res (W:World) (g:Nat) (n:Bool) (v:Value) (e k:Int) (tmps:Array Value) (ht:tmps[4]?.getD undef=.pointer (some ⟨g,0,none⟩)) (hk:tmps[5]?.getD undef=.int .i64 k) (D:Dk W g n v e) :
 (results Tryz.f63 tmps).run Tryz.prog W=.ok (.tuple #[.agg #[.bool n,v,.int .i64 e],.int .i64 k]) W:=by
 obtain ⟨x0,x1,x2,xf0,xf1,xf2⟩:=D.facts;simp [results,Tryz.results63,ht,hk,go_sem,x0,x1,x2]
theorem add_begin (w:World) (n m:Bool) (v u:Value) (e f:Int) (W:World) (hW:W=((w.alloc (.cells #[.bool n,v,.int .i64 e] 70)).alloc (.cells #[.bool m,u,.int .i64 f] 70)).alloc (.cells #[.bool false,.slice none 0 0,.int .i64 0] 70)) :
 Below w.heap.size w W∧W.heap.size=w.heap.size+3∧Dk W w.heap.size n v e∧Dk W (w.heap.size+1) m u f∧Dk W (w.heap.size+1+1) false (.slice none 0 0) 0:=by
 subst hW;refine ⟨((below_alloc w _).alloc (by simp) _).alloc (by simp;omega) _,by simp,((Dk.new w n v e).alloc _).alloc _,?_,?_⟩
 · have:=(Dk.new (w.alloc (.cells #[.bool n,v,.int .i64 e] 70)) m u f).alloc (.cells #[.bool false,.slice none 0 0,.int .i64 0] 70);simpa using this
 · have:=Dk.new ((w.alloc (.cells #[.bool n,v,.int .i64 e] 70)).alloc (.cells #[.bool m,u,.int .i64 f] 70)) false (.slice none 0 0) 0;simpa using this
theorem add_bad {w:World}{a b:Option Addr}{l c k d:Nat}(n m:Bool) (e f:Int) (HFM:Hid (∀ u,Below w.heap.size w u→Calls Tryz.prog 82 #[.agg #[.bool n,.slice a l c,.int .i64 e],.agg #[.bool m,.slice b k d,.int .i64 f]] u fun r w'=>r=.returned (.tuple #[.agg #[.bool false,.slice none 0 0,.int .i64 0],.agg #[.bool false,.slice none 0 0,.int .i64 0],.int .i64 2])∧Below u.heap.size u w')):Calls Tryz.prog 63 #[.agg #[.bool n,.slice a l c,.int .i64 e],.agg #[.bool m,.slice b k d,.int .i64 f]] w fun r w'=>r=.returned (.tuple #[.agg #[.bool false,.slice none 0 0,.int .i64 0],.int .i64 2])∧Below w.heap.size w w':=by
 obtain ⟨W1,hW1⟩:∃ W,W=((w.alloc (.cells #[.bool n,.slice a l c,.int .i64 e] 70)).alloc (.cells #[.bool m,.slice b k d,.int .i64 f] 70)).alloc (.cells #[.bool false,.slice none 0 0,.int .i64 0] 70):=⟨_,rfl⟩;obtain ⟨hB,hz1,DA,DB,DR⟩:=add_begin w n m (.slice a l c) (.slice b k d) e f W1 hW1;have H1:=hid (HFM.out W1 hB);have SB:=(qsd (ai hB (ai hz1 (ai DA (ai DB DR)))));clear hB hz1 DA DB DR HFM;go_enter Tryz.func63,Tryz.ntmps63;go_wp2_with fail;rw [←hW1];clear hW1;refine H1.out.mono ?_;rintro r u1 ⟨rfl,hb⟩;obtain ⟨hB,hz1,DA,DB,DR⟩:=SB.out;have EA:=DA.below hb;have EB:=DB.below hb;have ER:=DR.below hb;obtain ⟨x0,x1,x2,xf0,xf1,xf2⟩:=EA.facts;obtain ⟨y0,y1,y2,yf0,yf1,yf2⟩:=EB.facts;obtain ⟨r0,r1,r2,rf0,rf1,rf2⟩:=ER.facts;have F1:=qsd (show Fin w.heap.size (w.heap.size+3) w u1 (.slice none 0 0) 0 from ⟨Nt.nil _ _,hB.trans (hb.mono (by omega)),by have:=hb.size;omega⟩);have SE:=qsd ER;clear hb H1 hB hz1 DA DB DR EA EB ER SB;go_wp2;refine bodyPost_ret (add_res _ (w.heap.size+1+1) false (.slice none 0 0) 0 2 _ rfl rfl (((SE.out.other _ (by omega) _ _ _).other _ (by omega) _ _ _).set _ _ _)) rfl ⟨rfl,?_⟩;refine Fin.bel (m:=w.heap.size+3) (v:=.slice none 0 0) (X:=0) ?_
 repeat (with_reducible first | exact F1.out | refine Fin.drew ?_ | refine Fin.alloc ?_ _ | refine Fin.set ?_ _ _ _ (by omega) (by omega))
theorem add_left {w:World}{a b:Option Addr}{l c k d:Nat}(n m:Bool) (e f:Int) (n1 m1:Bool) (X Y:Nat) (e1 f1:Int) (lX:(ws X).length≤8192) (lY:(ws Y).length≤8192) (hX:(ws X).length=0)
 (HFM:Hid (∀ u,Below w.heap.size w u→Calls Tryz.prog 82 #[.agg #[.bool n,.slice a l c,.int .i64 e],.agg #[.bool m,.slice b k d,.int .i64 f]] u fun r w'=>∃ v v',r=.returned (.tuple #[.agg #[.bool n1,v,.int .i64 e1],.agg #[.bool m1,v',.int .i64 f1],.int .i64 0])∧Nt u.heap.size w' v X∧Nt u.heap.size w' v' Y∧Below u.heap.size u w')):Calls Tryz.prog 63 #[.agg #[.bool n,.slice a l c,.int .i64 e],.agg #[.bool m,.slice b k d,.int .i64 f]] w fun r w'=>DAns w.heap.size w' r (some (m1,Y,f1))∧Below w.heap.size w w':=by
 obtain ⟨W1,hW1⟩:∃ W,W=((w.alloc (.cells #[.bool n,.slice a l c,.int .i64 e] 70)).alloc (.cells #[.bool m,.slice b k d,.int .i64 f] 70)).alloc (.cells #[.bool false,.slice none 0 0,.int .i64 0] 70):=⟨_,rfl⟩;obtain ⟨hB,hz1,DA,DB,DR⟩:=add_begin w n m (.slice a l c) (.slice b k d) e f W1 hW1;have H1:=hid (HFM.out W1 hB);have SB:=(qsd (ai hB (ai hz1 (ai DA (ai DB DR)))));clear hB hz1 DA DB DR HFM;go_enter Tryz.func63,Tryz.ntmps63;go_wp2_with fail;rw [←hW1];clear hW1;refine H1.out.mono ?_;rintro r u1 ⟨v,v',rfl,hN,hM,hb⟩;obtain ⟨a1,c1,rfl,_⟩:=hN.arg (by omega);obtain ⟨a2,c2,rfl,_⟩:=hM.arg (by omega);obtain ⟨hB,hz1,DA,DB,DR⟩:=SB.out;have EA:=DA.below hb;have EB:=DB.below hb;have ER:=DR.below hb;obtain ⟨x0,x1,x2,xf0,xf1,xf2⟩:=EA.facts;obtain ⟨y0,y1,y2,yf0,yf1,yf2⟩:=EB.facts;obtain ⟨r0,r1,r2,rf0,rf1,rf2⟩:=ER.facts;have FX:=qsd (show Fin w.heap.size (w.heap.size+3) w u1 (.slice a1 (ws X).length c1) X from ⟨by rw [←hz1];exact hN,hB.trans (hb.mono (by omega)),by have:=hb.size;omega⟩);have FY:=qsd (show Fin w.heap.size (w.heap.size+3) w u1 (.slice a2 (ws Y).length c2) Y from ⟨by rw [←hz1];exact hM,hB.trans (hb.mono (by omega)),by have:=hb.size;omega⟩);have SE:=(qsd (ai EA (ai EB ER)));clear hN hM hb H1 hB hz1 DA DB DR EA EB ER SB
 try rw [hX]
 go_wp2;refine bodyPost_ret (add_res _ (w.heap.size+1+1) m1 (.slice a2 (ws Y).length c2) f1 0 _ rfl rfl (((SE.out.2.2.other _ (by omega) _ _ _).other _ (by omega) _ _ _).set _ _ _)) rfl ?_;refine Fin.dans (m:=w.heap.size+3) ?_ (by omega)
 repeat (with_reducible first | exact FY.out | refine Fin.drew ?_ | refine Fin.alloc ?_ _ | refine Fin.set ?_ _ _ _ (by omega) (by omega))
 exact FY.out
theorem add_right {w:World}{a b:Option Addr}{l c k d:Nat}(n m:Bool) (e f:Int) (n1 m1:Bool) (X Y:Nat) (e1 f1:Int) (lX:(ws X).length≤8192) (lY:(ws Y).length≤8192) (hX:((((ws X).length:Nat):Int)==0)=false) (hY:(ws Y).length=0)
 (HFM:Hid (∀ u,Below w.heap.size w u→Calls Tryz.prog 82 #[.agg #[.bool n,.slice a l c,.int .i64 e],.agg #[.bool m,.slice b k d,.int .i64 f]] u fun r w'=>∃ v v',r=.returned (.tuple #[.agg #[.bool n1,v,.int .i64 e1],.agg #[.bool m1,v',.int .i64 f1],.int .i64 0])∧Nt u.heap.size w' v X∧Nt u.heap.size w' v' Y∧Below u.heap.size u w')):Calls Tryz.prog 63 #[.agg #[.bool n,.slice a l c,.int .i64 e],.agg #[.bool m,.slice b k d,.int .i64 f]] w fun r w'=>DAns w.heap.size w' r (some (n1,X,e1))∧Below w.heap.size w w':=by
 obtain ⟨W1,hW1⟩:∃ W,W=((w.alloc (.cells #[.bool n,.slice a l c,.int .i64 e] 70)).alloc (.cells #[.bool m,.slice b k d,.int .i64 f] 70)).alloc (.cells #[.bool false,.slice none 0 0,.int .i64 0] 70):=⟨_,rfl⟩;obtain ⟨hB,hz1,DA,DB,DR⟩:=add_begin w n m (.slice a l c) (.slice b k d) e f W1 hW1;have H1:=hid (HFM.out W1 hB);have SB:=(qsd (ai hB (ai hz1 (ai DA (ai DB DR)))));clear hB hz1 DA DB DR HFM;go_enter Tryz.func63,Tryz.ntmps63;go_wp2_with fail;rw [←hW1];clear hW1;refine H1.out.mono ?_;rintro r u1 ⟨v,v',rfl,hN,hM,hb⟩;obtain ⟨a1,c1,rfl,_⟩:=hN.arg (by omega);obtain ⟨a2,c2,rfl,_⟩:=hM.arg (by omega);obtain ⟨hB,hz1,DA,DB,DR⟩:=SB.out;have EA:=DA.below hb;have EB:=DB.below hb;have ER:=DR.below hb;obtain ⟨x0,x1,x2,xf0,xf1,xf2⟩:=EA.facts;obtain ⟨y0,y1,y2,yf0,yf1,yf2⟩:=EB.facts;obtain ⟨r0,r1,r2,rf0,rf1,rf2⟩:=ER.facts;have FX:=qsd (show Fin w.heap.size (w.heap.size+3) w u1 (.slice a1 (ws X).length c1) X from ⟨by rw [←hz1];exact hN,hB.trans (hb.mono (by omega)),by have:=hb.size;omega⟩);have FY:=qsd (show Fin w.heap.size (w.heap.size+3) w u1 (.slice a2 (ws Y).length c2) Y from ⟨by rw [←hz1];exact hM,hB.trans (hb.mono (by omega)),by have:=hb.size;omega⟩);have SE:=(qsd (ai EA (ai EB ER)));clear hN hM hb H1 hB hz1 DA DB DR EA EB ER SB
 try rw [hX]
 go_wp2;refine bodyPost_ret (add_res _ (w.heap.size+1+1) n1 (.slice a1 (ws X).length c1) e1 0 _ rfl rfl (((SE.out.2.2.other _ (by omega) _ _ _).other _ (by omega) _ _ _).set _ _ _)) rfl ?_;refine Fin.dans (m:=w.heap.size+3) ?_ (by omega)
 repeat (with_reducible first | exact FX.out | refine Fin.drew ?_ | refine Fin.alloc ?_ _ | refine Fin.set ?_ _ _ _ (by omega) (by omega))
 exact FX.out
theorem add_nlong {w:World}{a b:Option Addr}{l c k d:Nat}(n m:Bool) (e f:Int) (n1 m1:Bool) (X Y:Nat) (e1 f1:Int) (lX:(ws X).length≤8192) (lY:(ws Y).length≤8192) (hX:((((ws X).length:Nat):Int)==0)=false) (hY:((((ws Y).length:Nat):Int)==0)=false) (hlt:decide (e1<f1)=false) (be0:-1048576≤e1) (be1:e1≤1048576) (bf0:-1048576≤f1) (bf1:f1≤1048576)
 (HFM:Hid (∀ u,Below w.heap.size w u→Calls Tryz.prog 82 #[.agg #[.bool n,.slice a l c,.int .i64 e],.agg #[.bool m,.slice b k d,.int .i64 f]] u fun r w'=>∃ v v',r=.returned (.tuple #[.agg #[.bool n1,v,.int .i64 e1],.agg #[.bool m1,v',.int .i64 f1],.int .i64 0])∧Nt u.heap.size w' v X∧Nt u.heap.size w' v' Y∧Below u.heap.size u w'))
 (HSH:Hid (∀ (u:World) (p:Option Addr) (q:Nat),Below w.heap.size w u→Arg u p (ws X).length q (ws X)→Calls Tryz.prog 83 #[.slice p (ws X).length q,.int .i64 (e1-f1)] u fun r w'=>∃ v,r=.returned (.tuple #[v,.int .i64 2])∧Nt u.heap.size w' v 0∧Below u.heap.size u w')):Calls Tryz.prog 63 #[.agg #[.bool n,.slice a l c,.int .i64 e],.agg #[.bool m,.slice b k d,.int .i64 f]] w fun r w'=>r=.returned (.tuple #[.agg #[.bool false,.slice none 0 0,.int .i64 0],.int .i64 2])∧Below w.heap.size w w':=by
 have l0:(ws 0).length=0:=by rw [ws_zero];rfl
 obtain ⟨W1,hW1⟩:∃ W,W=((w.alloc (.cells #[.bool n,.slice a l c,.int .i64 e] 70)).alloc (.cells #[.bool m,.slice b k d,.int .i64 f] 70)).alloc (.cells #[.bool false,.slice none 0 0,.int .i64 0] 70):=⟨_,rfl⟩;obtain ⟨hB,hz1,DA,DB,DR⟩:=add_begin w n m (.slice a l c) (.slice b k d) e f W1 hW1;have H1:=hid (HFM.out W1 hB);have SB:=(qsd (ai hB (ai hz1 (ai DA (ai DB DR)))));clear hB hz1 DA DB DR HFM;go_enter Tryz.func63,Tryz.ntmps63;go_wp2_with fail;rw [←hW1];clear hW1;refine H1.out.mono ?_;rintro r u1 ⟨v,v',rfl,hN,hM,hb⟩;obtain ⟨a1,c1,rfl,_⟩:=hN.arg (by omega);obtain ⟨a2,c2,rfl,_⟩:=hM.arg (by omega);obtain ⟨hB,hz1,DA,DB,DR⟩:=SB.out;have EA:=DA.below hb;have EB:=DB.below hb;have ER:=DR.below hb;obtain ⟨x0,x1,x2,xf0,xf1,xf2⟩:=EA.facts;obtain ⟨y0,y1,y2,yf0,yf1,yf2⟩:=EB.facts;obtain ⟨r0,r1,r2,rf0,rf1,rf2⟩:=ER.facts;have FX:=qsd (show Fin w.heap.size (w.heap.size+3) w u1 (.slice a1 (ws X).length c1) X from ⟨by rw [←hz1];exact hN,hB.trans (hb.mono (by omega)),by have:=hb.size;omega⟩);have FY:=qsd (show Fin w.heap.size (w.heap.size+3) w u1 (.slice a2 (ws Y).length c2) Y from ⟨by rw [←hz1];exact hM,hB.trans (hb.mono (by omega)),by have:=hb.size;omega⟩);have SE:=(qsd (ai EA (ai EB ER)));clear hN hM hb H1 hB hz1 DA DB DR EA EB ER SB;obtain ⟨EA,EB,ER⟩:=SE.out;obtain ⟨U1,hU1⟩:∃ U,U=st3 (st3 u1 w.heap.size (.bool n1) (.slice a1 (ws X).length c1) (.int .i64 e1)) (w.heap.size+1) (.bool m1) (.slice a2 (ws Y).length c2) (.int .i64 f1):=⟨_,rfl⟩;have IA:Dk U1 w.heap.size n1 (.slice a1 (ws X).length c1) e1:=by rw [hU1];exact ((EA.set _ _ _).other _ (by omega) _ _ _)
 have IB:Dk U1 (w.heap.size+1) m1 (.slice a2 (ws Y).length c2) f1:=by rw [hU1];exact ((EB.other _ (by omega) _ _ _).set _ _ _)
 have IR:Dk U1 (w.heap.size+1+1) false (.slice none 0 0) 0:=by rw [hU1];exact ((ER.other _ (by omega) _ _ _).other _ (by omega) _ _ _)
 have GX:Fin w.heap.size (w.heap.size+3) w U1 (.slice a1 (ws X).length c1) X:=by rw [hU1];exact (Fin.st3 (Fin.st3 FX.out _ _ _ _ (by omega) (by omega)) _ _ _ _ (by omega) (by omega))
 have GY:Fin w.heap.size (w.heap.size+3) w U1 (.slice a2 (ws Y).length c2) Y:=by rw [hU1];exact (Fin.st3 (Fin.st3 FY.out _ _ _ _ (by omega) (by omega)) _ _ _ _ (by omega) (by omega))
 have H2:=hid (HSH.out U1 a1 c1 GX.bel (GX.nt.arg' (by omega)).2);have S1:=(qsd (ai IA (ai IB (ai IR (ai GX GY)))));have hzU:w.heap.size+3≤U1.heap.size:=by have:=IR.lt;omega
 clear EA EB ER IA IB IR GX GY SE HSH;unfold st3 at hU1;go_wp2_with fail;rw [←hU1];clear hU1 x0 x1 x2 xf0 xf1 xf2 y0 y1 y2 yf0 yf1 yf2 r0 r1 r2 rf0 rf1 rf2;refine H2.out.mono ?_;rintro r u2 ⟨v,rfl,hN,hb⟩;obtain ⟨a3,c3,rfl,_⟩:=hN.arg (by omega);obtain ⟨IA,IB,IR,GX,GY⟩:=S1.out;obtain ⟨x0,x1,x2,xf0,xf1,xf2⟩:=(IA.below hb).facts;obtain ⟨y0,y1,y2,yf0,yf1,yf2⟩:=(IB.below hb).facts;obtain ⟨r0,r1,r2,rf0,rf1,rf2⟩:=(IR.below hb).facts;have S2:=(qsd (ai (IR.below hb) ((GX.below hb))));clear hN hb H2 S1 IA IB IR GX GY;go_wp2;refine bodyPost_ret (add_res _ (w.heap.size+1+1) false (.slice none 0 0) 0 2 _ rfl rfl (S2.out.1.set _ _ _)) rfl ⟨rfl,?_⟩;refine Fin.bel (m:=w.heap.size+3) (v:=.slice a1 (ws X).length c1) (X:=X) ?_
 repeat (with_reducible first | exact S2.out.2 | refine Fin.drew ?_ | refine Fin.alloc ?_ _ | refine Fin.set ?_ _ _ _ (by omega) (by omega))
theorem add_nsum {w:World}{a b:Option Addr}{l c k d:Nat}(n m:Bool) (e f:Int) (n1 m1:Bool) (X Y:Nat) (e1 f1:Int) (lX:(ws X).length≤8192) (lY:(ws Y).length≤8192) (hX:((((ws X).length:Nat):Int)==0)=false) (hY:((((ws Y).length:Nat):Int)==0)=false) (hlt:decide (e1<f1)=false) (be0:-1048576≤e1) (be1:e1≤1048576) (bf0:-1048576≤f1) (bf1:f1≤1048576)
 (HFM:Hid (∀ u,Below w.heap.size w u→Calls Tryz.prog 82 #[.agg #[.bool n,.slice a l c,.int .i64 e],.agg #[.bool m,.slice b k d,.int .i64 f]] u fun r w'=>∃ v v',r=.returned (.tuple #[.agg #[.bool n1,v,.int .i64 e1],.agg #[.bool m1,v',.int .i64 f1],.int .i64 0])∧Nt u.heap.size w' v X∧Nt u.heap.size w' v' Y∧Below u.heap.size u w')) (hs:(n1==m1)=true) (L:Nat) (lL:(ws L).length≤8192) (dn:Bool) (V:Nat) (de er:Int) (lV:(ws V).length≤8192)
 (HSH:Hid (∀ (u:World) (p:Option Addr) (q:Nat),Below w.heap.size w u→Arg u p (ws X).length q (ws X)→Calls Tryz.prog 83 #[.slice p (ws X).length q,.int .i64 (e1-f1)] u fun r w'=>∃ v,r=.returned (.tuple #[v,.int .i64 0])∧Nt u.heap.size w' v L∧Below u.heap.size u w'))
 (HT:Hid (∀ (u:World) (p q:Option Addr) (s t:Nat),Below w.heap.size w u→Arg u p (ws L).length s (ws L)→Arg u q (ws Y).length t (ws Y)→Calls Tryz.prog 84 #[.bool n1,.slice p (ws L).length s,.slice q (ws Y).length t,.int .i64 f1] u fun r w'=>(∃ v,r=.returned (.tuple #[.agg #[.bool dn,v,.int .i64 de],.int .i64 er])∧Nt u.heap.size w' v V)∧Below u.heap.size u w')):Calls Tryz.prog 63 #[.agg #[.bool n,.slice a l c,.int .i64 e],.agg #[.bool m,.slice b k d,.int .i64 f]] w fun r w'=>(∃ v,r=.returned (.tuple #[.agg #[.bool dn,v,.int .i64 de],.int .i64 er])∧Nt w.heap.size w' v V)∧Below w.heap.size w w':=by
 obtain ⟨W1,hW1⟩:∃ W,W=((w.alloc (.cells #[.bool n,.slice a l c,.int .i64 e] 70)).alloc (.cells #[.bool m,.slice b k d,.int .i64 f] 70)).alloc (.cells #[.bool false,.slice none 0 0,.int .i64 0] 70):=⟨_,rfl⟩;obtain ⟨hB,hz1,DA,DB,DR⟩:=add_begin w n m (.slice a l c) (.slice b k d) e f W1 hW1;have H1:=hid (HFM.out W1 hB);have SB:=(qsd (ai hB (ai hz1 (ai DA (ai DB DR)))));clear hB hz1 DA DB DR HFM;go_enter Tryz.func63,Tryz.ntmps63;go_wp2_with fail;rw [←hW1];clear hW1;refine H1.out.mono ?_;rintro r u1 ⟨v,v',rfl,hN,hM,hb⟩;obtain ⟨a1,c1,rfl,_⟩:=hN.arg (by omega);obtain ⟨a2,c2,rfl,_⟩:=hM.arg (by omega);obtain ⟨hB,hz1,DA,DB,DR⟩:=SB.out;have EA:=DA.below hb;have EB:=DB.below hb;have ER:=DR.below hb;obtain ⟨x0,x1,x2,xf0,xf1,xf2⟩:=EA.facts;obtain ⟨y0,y1,y2,yf0,yf1,yf2⟩:=EB.facts;obtain ⟨r0,r1,r2,rf0,rf1,rf2⟩:=ER.facts;have FX:=qsd (show Fin w.heap.size (w.heap.size+3) w u1 (.slice a1 (ws X).length c1) X from ⟨by rw [←hz1];exact hN,hB.trans (hb.mono (by omega)),by have:=hb.size;omega⟩);have FY:=qsd (show Fin w.heap.size (w.heap.size+3) w u1 (.slice a2 (ws Y).length c2) Y from ⟨by rw [←hz1];exact hM,hB.trans (hb.mono (by omega)),by have:=hb.size;omega⟩);have SE:=(qsd (ai EA (ai EB ER)));clear hN hM hb H1 hB hz1 DA DB DR EA EB ER SB;obtain ⟨EA,EB,ER⟩:=SE.out;obtain ⟨U1,hU1⟩:∃ U,U=st3 (st3 u1 w.heap.size (.bool n1) (.slice a1 (ws X).length c1) (.int .i64 e1)) (w.heap.size+1) (.bool m1) (.slice a2 (ws Y).length c2) (.int .i64 f1):=⟨_,rfl⟩;have IA:Dk U1 w.heap.size n1 (.slice a1 (ws X).length c1) e1:=by rw [hU1];exact ((EA.set _ _ _).other _ (by omega) _ _ _)
 have IB:Dk U1 (w.heap.size+1) m1 (.slice a2 (ws Y).length c2) f1:=by rw [hU1];exact ((EB.other _ (by omega) _ _ _).set _ _ _)
 have IR:Dk U1 (w.heap.size+1+1) false (.slice none 0 0) 0:=by rw [hU1];exact ((ER.other _ (by omega) _ _ _).other _ (by omega) _ _ _)
 have GX:Fin w.heap.size (w.heap.size+3) w U1 (.slice a1 (ws X).length c1) X:=by rw [hU1];exact (Fin.st3 (Fin.st3 FX.out _ _ _ _ (by omega) (by omega)) _ _ _ _ (by omega) (by omega))
 have GY:Fin w.heap.size (w.heap.size+3) w U1 (.slice a2 (ws Y).length c2) Y:=by rw [hU1];exact (Fin.st3 (Fin.st3 FY.out _ _ _ _ (by omega) (by omega)) _ _ _ _ (by omega) (by omega))
 have H2:=hid (HSH.out U1 a1 c1 GX.bel (GX.nt.arg' (by omega)).2);have S1:=(qsd (ai IA (ai IB (ai IR (ai GX GY)))));have hzU:w.heap.size+3≤U1.heap.size:=by have:=IR.lt;omega
 clear EA EB ER IA IB IR GX GY SE HSH;unfold st3 at hU1;go_wp2_with fail;rw [←hU1];clear hU1 x0 x1 x2 xf0 xf1 xf2 y0 y1 y2 yf0 yf1 yf2 r0 r1 r2 rf0 rf1 rf2;refine H2.out.mono ?_;rintro r u2 ⟨v,rfl,hN,hb⟩;obtain ⟨a3,c3,rfl,_⟩:=hN.arg (by omega);obtain ⟨IA,IB,IR,GX,GY⟩:=S1.out;obtain ⟨x0,x1,x2,xf0,xf1,xf2⟩:=(IA.below hb).facts;obtain ⟨y0,y1,y2,yf0,yf1,yf2⟩:=(IB.below hb).facts;obtain ⟨r0,r1,r2,rf0,rf1,rf2⟩:=(IR.below hb).facts;have H3:=hid (HT.out u2 a3 a2 c3 c2 (GX.below hb).bel (hN.arg' (by omega)).2 ((GY.below hb).nt.arg' (by omega)).2);have S2:=(qsd (ai (IR.below hb) ((GX.below hb))));have hz2:w.heap.size+3≤u2.heap.size:=by have:=hb.size;omega
 clear hN hb H2 S1 IA IB IR GX GY HT;go_wp2_with fail;refine H3.out.mono ?_;rintro r u3 ⟨⟨v,rfl,hN⟩,hb⟩;obtain ⟨a4,c4,rfl,_⟩:=hN.arg (by omega);have IR:=S2.out.1.below hb;obtain ⟨s0,s1,s2,sf0,sf1,sf2⟩:=IR.facts;have FV:=qsd (show Fin w.heap.size (w.heap.size+3) w u3 (.slice a4 (ws V).length c4) V from ⟨hN.mono hz2,(S2.out.2.below hb).bel,by have:=hb.size;omega⟩);have S3:=qsd IR;clear hN hb IR H3 S2;go_wp2;refine bodyPost_ret (add_res _ (w.heap.size+1+1) dn (.slice a4 (ws V).length c4) de er _ rfl rfl (S3.out.set _ _ _)) rfl ?_;refine Fin.dans (m:=w.heap.size+3) ?_ (by omega)
 repeat (with_reducible first | exact FV.out | refine Fin.drew ?_ | refine Fin.alloc ?_ _ | refine Fin.set ?_ _ _ _ (by omega) (by omega))
theorem add_ndiff {w:World}{a b:Option Addr}{l c k d:Nat}(n m:Bool) (e f:Int) (n1 m1:Bool) (X Y:Nat) (e1 f1:Int) (lX:(ws X).length≤8192) (lY:(ws Y).length≤8192) (hX:((((ws X).length:Nat):Int)==0)=false) (hY:((((ws Y).length:Nat):Int)==0)=false) (hlt:decide (e1<f1)=false) (be0:-1048576≤e1) (be1:e1≤1048576) (bf0:-1048576≤f1) (bf1:f1≤1048576)
 (HFM:Hid (∀ u,Below w.heap.size w u→Calls Tryz.prog 82 #[.agg #[.bool n,.slice a l c,.int .i64 e],.agg #[.bool m,.slice b k d,.int .i64 f]] u fun r w'=>∃ v v',r=.returned (.tuple #[.agg #[.bool n1,v,.int .i64 e1],.agg #[.bool m1,v',.int .i64 f1],.int .i64 0])∧Nt u.heap.size w' v X∧Nt u.heap.size w' v' Y∧Below u.heap.size u w')) (hs:(n1==m1)=false) (L:Nat) (lL:(ws L).length≤8192) (dn:Bool) (V:Nat) (de er:Int) (lV:(ws V).length≤8192)
 (HSH:Hid (∀ (u:World) (p:Option Addr) (q:Nat),Below w.heap.size w u→Arg u p (ws X).length q (ws X)→Calls Tryz.prog 83 #[.slice p (ws X).length q,.int .i64 (e1-f1)] u fun r w'=>∃ v,r=.returned (.tuple #[v,.int .i64 0])∧Nt u.heap.size w' v L∧Below u.heap.size u w'))
 (HT:Hid (∀ (u:World) (p q:Option Addr) (s t:Nat),Below w.heap.size w u→Arg u p (ws L).length s (ws L)→Arg u q (ws Y).length t (ws Y)→Calls Tryz.prog 85 #[.bool n1,.slice p (ws L).length s,.slice q (ws Y).length t,.int .i64 f1] u fun r w'=>(∃ v,r=.returned (.tuple #[.agg #[.bool dn,v,.int .i64 de],.int .i64 er])∧Nt u.heap.size w' v V)∧Below u.heap.size u w')):Calls Tryz.prog 63 #[.agg #[.bool n,.slice a l c,.int .i64 e],.agg #[.bool m,.slice b k d,.int .i64 f]] w fun r w'=>(∃ v,r=.returned (.tuple #[.agg #[.bool dn,v,.int .i64 de],.int .i64 er])∧Nt w.heap.size w' v V)∧Below w.heap.size w w':=by
 obtain ⟨W1,hW1⟩:∃ W,W=((w.alloc (.cells #[.bool n,.slice a l c,.int .i64 e] 70)).alloc (.cells #[.bool m,.slice b k d,.int .i64 f] 70)).alloc (.cells #[.bool false,.slice none 0 0,.int .i64 0] 70):=⟨_,rfl⟩;obtain ⟨hB,hz1,DA,DB,DR⟩:=add_begin w n m (.slice a l c) (.slice b k d) e f W1 hW1;have H1:=hid (HFM.out W1 hB);have SB:=(qsd (ai hB (ai hz1 (ai DA (ai DB DR)))));clear hB hz1 DA DB DR HFM;go_enter Tryz.func63,Tryz.ntmps63;go_wp2_with fail;rw [←hW1];clear hW1;refine H1.out.mono ?_;rintro r u1 ⟨v,v',rfl,hN,hM,hb⟩;obtain ⟨a1,c1,rfl,_⟩:=hN.arg (by omega);obtain ⟨a2,c2,rfl,_⟩:=hM.arg (by omega);obtain ⟨hB,hz1,DA,DB,DR⟩:=SB.out;have EA:=DA.below hb;have EB:=DB.below hb;have ER:=DR.below hb;obtain ⟨x0,x1,x2,xf0,xf1,xf2⟩:=EA.facts;obtain ⟨y0,y1,y2,yf0,yf1,yf2⟩:=EB.facts;obtain ⟨r0,r1,r2,rf0,rf1,rf2⟩:=ER.facts;have FX:=qsd (show Fin w.heap.size (w.heap.size+3) w u1 (.slice a1 (ws X).length c1) X from ⟨by rw [←hz1];exact hN,hB.trans (hb.mono (by omega)),by have:=hb.size;omega⟩);have FY:=qsd (show Fin w.heap.size (w.heap.size+3) w u1 (.slice a2 (ws Y).length c2) Y from ⟨by rw [←hz1];exact hM,hB.trans (hb.mono (by omega)),by have:=hb.size;omega⟩);have SE:=(qsd (ai EA (ai EB ER)));clear hN hM hb H1 hB hz1 DA DB DR EA EB ER SB;obtain ⟨EA,EB,ER⟩:=SE.out;obtain ⟨U1,hU1⟩:∃ U,U=st3 (st3 u1 w.heap.size (.bool n1) (.slice a1 (ws X).length c1) (.int .i64 e1)) (w.heap.size+1) (.bool m1) (.slice a2 (ws Y).length c2) (.int .i64 f1):=⟨_,rfl⟩;have IA:Dk U1 w.heap.size n1 (.slice a1 (ws X).length c1) e1:=by rw [hU1];exact ((EA.set _ _ _).other _ (by omega) _ _ _)
 have IB:Dk U1 (w.heap.size+1) m1 (.slice a2 (ws Y).length c2) f1:=by rw [hU1];exact ((EB.other _ (by omega) _ _ _).set _ _ _)
 have IR:Dk U1 (w.heap.size+1+1) false (.slice none 0 0) 0:=by rw [hU1];exact ((ER.other _ (by omega) _ _ _).other _ (by omega) _ _ _)
 have GX:Fin w.heap.size (w.heap.size+3) w U1 (.slice a1 (ws X).length c1) X:=by rw [hU1];exact (Fin.st3 (Fin.st3 FX.out _ _ _ _ (by omega) (by omega)) _ _ _ _ (by omega) (by omega))
 have GY:Fin w.heap.size (w.heap.size+3) w U1 (.slice a2 (ws Y).length c2) Y:=by rw [hU1];exact (Fin.st3 (Fin.st3 FY.out _ _ _ _ (by omega) (by omega)) _ _ _ _ (by omega) (by omega))
 have H2:=hid (HSH.out U1 a1 c1 GX.bel (GX.nt.arg' (by omega)).2);have S1:=(qsd (ai IA (ai IB (ai IR (ai GX GY)))));have hzU:w.heap.size+3≤U1.heap.size:=by have:=IR.lt;omega
 clear EA EB ER IA IB IR GX GY SE HSH;unfold st3 at hU1;go_wp2_with fail;rw [←hU1];clear hU1 x0 x1 x2 xf0 xf1 xf2 y0 y1 y2 yf0 yf1 yf2 r0 r1 r2 rf0 rf1 rf2;refine H2.out.mono ?_;rintro r u2 ⟨v,rfl,hN,hb⟩;obtain ⟨a3,c3,rfl,_⟩:=hN.arg (by omega);obtain ⟨IA,IB,IR,GX,GY⟩:=S1.out;obtain ⟨x0,x1,x2,xf0,xf1,xf2⟩:=(IA.below hb).facts;obtain ⟨y0,y1,y2,yf0,yf1,yf2⟩:=(IB.below hb).facts;obtain ⟨r0,r1,r2,rf0,rf1,rf2⟩:=(IR.below hb).facts;have H3:=hid (HT.out u2 a3 a2 c3 c2 (GX.below hb).bel (hN.arg' (by omega)).2 ((GY.below hb).nt.arg' (by omega)).2);have S2:=(qsd (ai (IR.below hb) ((GX.below hb))));have hz2:w.heap.size+3≤u2.heap.size:=by have:=hb.size;omega
 clear hN hb H2 S1 IA IB IR GX GY HT;go_wp2_with fail;refine H3.out.mono ?_;rintro r u3 ⟨⟨v,rfl,hN⟩,hb⟩;obtain ⟨a4,c4,rfl,_⟩:=hN.arg (by omega);have IR:=S2.out.1.below hb;obtain ⟨s0,s1,s2,sf0,sf1,sf2⟩:=IR.facts;have FV:=qsd (show Fin w.heap.size (w.heap.size+3) w u3 (.slice a4 (ws V).length c4) V from ⟨hN.mono hz2,(S2.out.2.below hb).bel,by have:=hb.size;omega⟩);have S3:=qsd IR;clear hN hb IR H3 S2;go_wp2;refine bodyPost_ret (add_res _ (w.heap.size+1+1) dn (.slice a4 (ws V).length c4) de er _ rfl rfl (S3.out.set _ _ _)) rfl ?_;refine Fin.dans (m:=w.heap.size+3) ?_ (by omega)
 repeat (with_reducible first | exact FV.out | refine Fin.drew ?_ | refine Fin.alloc ?_ _ | refine Fin.set ?_ _ _ _ (by omega) (by omega))
theorem add_slong {w:World}{a b:Option Addr}{l c k d:Nat}(n m:Bool) (e f:Int) (n1 m1:Bool) (X Y:Nat) (e1 f1:Int) (lX:(ws X).length≤8192) (lY:(ws Y).length≤8192) (hX:((((ws X).length:Nat):Int)==0)=false) (hY:((((ws Y).length:Nat):Int)==0)=false) (hlt:e1<f1) (be0:-1048576≤e1) (be1:e1≤1048576) (bf0:-1048576≤f1) (bf1:f1≤1048576)
 (HFM:Hid (∀ u,Below w.heap.size w u→Calls Tryz.prog 82 #[.agg #[.bool n,.slice a l c,.int .i64 e],.agg #[.bool m,.slice b k d,.int .i64 f]] u fun r w'=>∃ v v',r=.returned (.tuple #[.agg #[.bool n1,v,.int .i64 e1],.agg #[.bool m1,v',.int .i64 f1],.int .i64 0])∧Nt u.heap.size w' v X∧Nt u.heap.size w' v' Y∧Below u.heap.size u w'))
 (HSH:Hid (∀ (u:World) (p:Option Addr) (q:Nat),Below w.heap.size w u→Arg u p (ws Y).length q (ws Y)→Calls Tryz.prog 83 #[.slice p (ws Y).length q,.int .i64 (f1-e1)] u fun r w'=>∃ v,r=.returned (.tuple #[v,.int .i64 2])∧Nt u.heap.size w' v 0∧Below u.heap.size u w')):Calls Tryz.prog 63 #[.agg #[.bool n,.slice a l c,.int .i64 e],.agg #[.bool m,.slice b k d,.int .i64 f]] w fun r w'=>r=.returned (.tuple #[.agg #[.bool false,.slice none 0 0,.int .i64 0],.int .i64 2])∧Below w.heap.size w w':=by
 have l0:(ws 0).length=0:=by rw [ws_zero];rfl
 obtain ⟨W1,hW1⟩:∃ W,W=((w.alloc (.cells #[.bool n,.slice a l c,.int .i64 e] 70)).alloc (.cells #[.bool m,.slice b k d,.int .i64 f] 70)).alloc (.cells #[.bool false,.slice none 0 0,.int .i64 0] 70):=⟨_,rfl⟩;obtain ⟨hB,hz1,DA,DB,DR⟩:=add_begin w n m (.slice a l c) (.slice b k d) e f W1 hW1;have H1:=hid (HFM.out W1 hB);have SB:=(qsd (ai hB (ai hz1 (ai DA (ai DB DR)))));clear hB hz1 DA DB DR HFM;go_enter Tryz.func63,Tryz.ntmps63;go_wp2_with fail;rw [←hW1];clear hW1;refine H1.out.mono ?_;rintro r u1 ⟨v,v',rfl,hN,hM,hb⟩;obtain ⟨a1,c1,rfl,_⟩:=hN.arg (by omega);obtain ⟨a2,c2,rfl,_⟩:=hM.arg (by omega);obtain ⟨hB,hz1,DA,DB,DR⟩:=SB.out;have EA:=DA.below hb;have EB:=DB.below hb;have ER:=DR.below hb;obtain ⟨x0,x1,x2,xf0,xf1,xf2⟩:=EA.facts;obtain ⟨y0,y1,y2,yf0,yf1,yf2⟩:=EB.facts;obtain ⟨r0,r1,r2,rf0,rf1,rf2⟩:=ER.facts;have FX:=qsd (show Fin w.heap.size (w.heap.size+3) w u1 (.slice a1 (ws X).length c1) X from ⟨by rw [←hz1];exact hN,hB.trans (hb.mono (by omega)),by have:=hb.size;omega⟩);have FY:=qsd (show Fin w.heap.size (w.heap.size+3) w u1 (.slice a2 (ws Y).length c2) Y from ⟨by rw [←hz1];exact hM,hB.trans (hb.mono (by omega)),by have:=hb.size;omega⟩);have SE:=(qsd (ai EA (ai EB ER)));clear hN hM hb H1 hB hz1 DA DB DR EA EB ER SB;obtain ⟨EA,EB,ER⟩:=SE.out;obtain ⟨U0,hU0⟩:∃ U,U=st3 (st3 u1 w.heap.size (.bool n1) (.slice a1 (ws X).length c1) (.int .i64 e1)) (w.heap.size+1) (.bool m1) (.slice a2 (ws Y).length c2) (.int .i64 f1):=⟨_,rfl⟩;have JA:Dk U0 w.heap.size n1 (.slice a1 (ws X).length c1) e1:=by rw [hU0];exact ((EA.set _ _ _).other _ (by omega) _ _ _)
 have JB:Dk U0 (w.heap.size+1) m1 (.slice a2 (ws Y).length c2) f1:=by rw [hU0];exact ((EB.other _ (by omega) _ _ _).set _ _ _)
 have JR:Dk U0 (w.heap.size+1+1) false (.slice none 0 0) 0:=by rw [hU0];exact ((ER.other _ (by omega) _ _ _).other _ (by omega) _ _ _)
 have KX:=qsd (show Fin w.heap.size (w.heap.size+3) w U0 (.slice a1 (ws X).length c1) X by rw [hU0];exact (Fin.st3 (Fin.st3 FX.out _ _ _ _ (by omega) (by omega)) _ _ _ _ (by omega) (by omega)));have KY:=qsd (show Fin w.heap.size (w.heap.size+3) w U0 (.slice a2 (ws Y).length c2) Y by rw [hU0];exact (Fin.st3 (Fin.st3 FY.out _ _ _ _ (by omega) (by omega)) _ _ _ _ (by omega) (by omega)));have SE:=(qsd (ai JA (ai JB JR)));unfold st3 at hU0;clear EA EB ER JA JB JR
 go_upto_region 9 with fail
 rw [←hU0];clear hU0 x0 x1 x2 xf0 xf1 xf2 y0 y1 y2 yf0 yf1 yf2 r0 r1 r2 rf0 rf1 rf2 FX FY;obtain ⟨x0,x1,x2,xf0,xf1,xf2⟩:=SE.out.1.facts;obtain ⟨y0,y1,y2,yf0,yf1,yf2⟩:=SE.out.2.1.facts;obtain ⟨r0,r1,r2,rf0,rf1,rf2⟩:=SE.out.2.2.facts;obtain ⟨EA,EB,ER⟩:=SE.out;obtain ⟨U1,hU1⟩:∃ U,U=st3 (st3 U0 w.heap.size (.bool m1) (.slice a2 (ws Y).length c2) (.int .i64 f1)) (w.heap.size+1) (.bool n1) (.slice a1 (ws X).length c1) (.int .i64 e1):=⟨_,rfl⟩;have IA:Dk U1 w.heap.size m1 (.slice a2 (ws Y).length c2) f1:=by rw [hU1];exact ((EA.set _ _ _).other _ (by omega) _ _ _)
 have IB:Dk U1 (w.heap.size+1) n1 (.slice a1 (ws X).length c1) e1:=by rw [hU1];exact ((EB.other _ (by omega) _ _ _).set _ _ _)
 have IR:Dk U1 (w.heap.size+1+1) false (.slice none 0 0) 0:=by rw [hU1];exact ((ER.other _ (by omega) _ _ _).other _ (by omega) _ _ _)
 have GX:Fin w.heap.size (w.heap.size+3) w U1 (.slice a1 (ws X).length c1) X:=by rw [hU1];exact (Fin.st3 (Fin.st3 KX.out _ _ _ _ (by omega) (by omega)) _ _ _ _ (by omega) (by omega))
 have GY:Fin w.heap.size (w.heap.size+3) w U1 (.slice a2 (ws Y).length c2) Y:=by rw [hU1];exact (Fin.st3 (Fin.st3 KY.out _ _ _ _ (by omega) (by omega)) _ _ _ _ (by omega) (by omega))
 have H2:=hid (HSH.out U1 a2 c2 GX.bel (GY.nt.arg' (by omega)).2);have S1:=(qsd (ai IA (ai IB (ai IR (ai GX GY)))));have hzU:w.heap.size+3≤U1.heap.size:=by have:=IR.lt;omega
 clear EA EB ER IA IB IR GX GY SE HSH;unfold st3 at hU1;go_wp2_with fail;rw [←hU1];clear hU1 x0 x1 x2 xf0 xf1 xf2 y0 y1 y2 yf0 yf1 yf2 r0 r1 r2 rf0 rf1 rf2;refine H2.out.mono ?_;rintro r u2 ⟨v,rfl,hN,hb⟩;obtain ⟨a3,c3,rfl,_⟩:=hN.arg (by omega);obtain ⟨IA,IB,IR,GX,GY⟩:=S1.out;obtain ⟨x0,x1,x2,xf0,xf1,xf2⟩:=(IA.below hb).facts;obtain ⟨y0,y1,y2,yf0,yf1,yf2⟩:=(IB.below hb).facts;obtain ⟨r0,r1,r2,rf0,rf1,rf2⟩:=(IR.below hb).facts;have S2:=(qsd (ai (IR.below hb) ((GX.below hb))));clear hN hb H2 S1 IA IB IR GX GY;go_wp2;refine bodyPost_ret (add_res _ (w.heap.size+1+1) false (.slice none 0 0) 0 2 _ rfl rfl (S2.out.1.set _ _ _)) rfl ⟨rfl,?_⟩;refine Fin.bel (m:=w.heap.size+3) (v:=.slice a1 (ws X).length c1) (X:=X) ?_
 repeat (with_reducible first | exact S2.out.2 | refine Fin.drew ?_ | refine Fin.alloc ?_ _ | refine Fin.set ?_ _ _ _ (by omega) (by omega))
theorem add_ssum {w:World}{a b:Option Addr}{l c k d:Nat}(n m:Bool) (e f:Int) (n1 m1:Bool) (X Y:Nat) (e1 f1:Int) (lX:(ws X).length≤8192) (lY:(ws Y).length≤8192) (hX:((((ws X).length:Nat):Int)==0)=false) (hY:((((ws Y).length:Nat):Int)==0)=false) (hlt:e1<f1) (be0:-1048576≤e1) (be1:e1≤1048576) (bf0:-1048576≤f1) (bf1:f1≤1048576)
 (HFM:Hid (∀ u,Below w.heap.size w u→Calls Tryz.prog 82 #[.agg #[.bool n,.slice a l c,.int .i64 e],.agg #[.bool m,.slice b k d,.int .i64 f]] u fun r w'=>∃ v v',r=.returned (.tuple #[.agg #[.bool n1,v,.int .i64 e1],.agg #[.bool m1,v',.int .i64 f1],.int .i64 0])∧Nt u.heap.size w' v X∧Nt u.heap.size w' v' Y∧Below u.heap.size u w')) (hs:(m1==n1)=true) (L:Nat) (lL:(ws L).length≤8192) (dn:Bool) (V:Nat) (de er:Int) (lV:(ws V).length≤8192)
 (HSH:Hid (∀ (u:World) (p:Option Addr) (q:Nat),Below w.heap.size w u→Arg u p (ws Y).length q (ws Y)→Calls Tryz.prog 83 #[.slice p (ws Y).length q,.int .i64 (f1-e1)] u fun r w'=>∃ v,r=.returned (.tuple #[v,.int .i64 0])∧Nt u.heap.size w' v L∧Below u.heap.size u w'))
 (HT:Hid (∀ (u:World) (p q:Option Addr) (s t:Nat),Below w.heap.size w u→Arg u p (ws L).length s (ws L)→Arg u q (ws X).length t (ws X)→Calls Tryz.prog 84 #[.bool m1,.slice p (ws L).length s,.slice q (ws X).length t,.int .i64 e1] u fun r w'=>(∃ v,r=.returned (.tuple #[.agg #[.bool dn,v,.int .i64 de],.int .i64 er])∧Nt u.heap.size w' v V)∧Below u.heap.size u w')):Calls Tryz.prog 63 #[.agg #[.bool n,.slice a l c,.int .i64 e],.agg #[.bool m,.slice b k d,.int .i64 f]] w fun r w'=>(∃ v,r=.returned (.tuple #[.agg #[.bool dn,v,.int .i64 de],.int .i64 er])∧Nt w.heap.size w' v V)∧Below w.heap.size w w':=by
 obtain ⟨W1,hW1⟩:∃ W,W=((w.alloc (.cells #[.bool n,.slice a l c,.int .i64 e] 70)).alloc (.cells #[.bool m,.slice b k d,.int .i64 f] 70)).alloc (.cells #[.bool false,.slice none 0 0,.int .i64 0] 70):=⟨_,rfl⟩;obtain ⟨hB,hz1,DA,DB,DR⟩:=add_begin w n m (.slice a l c) (.slice b k d) e f W1 hW1;have H1:=hid (HFM.out W1 hB);have SB:=(qsd (ai hB (ai hz1 (ai DA (ai DB DR)))));clear hB hz1 DA DB DR HFM;go_enter Tryz.func63,Tryz.ntmps63;go_wp2_with fail;rw [←hW1];clear hW1;refine H1.out.mono ?_;rintro r u1 ⟨v,v',rfl,hN,hM,hb⟩;obtain ⟨a1,c1,rfl,_⟩:=hN.arg (by omega);obtain ⟨a2,c2,rfl,_⟩:=hM.arg (by omega);obtain ⟨hB,hz1,DA,DB,DR⟩:=SB.out;have EA:=DA.below hb;have EB:=DB.below hb;have ER:=DR.below hb;obtain ⟨x0,x1,x2,xf0,xf1,xf2⟩:=EA.facts;obtain ⟨y0,y1,y2,yf0,yf1,yf2⟩:=EB.facts;obtain ⟨r0,r1,r2,rf0,rf1,rf2⟩:=ER.facts;have FX:=qsd (show Fin w.heap.size (w.heap.size+3) w u1 (.slice a1 (ws X).length c1) X from ⟨by rw [←hz1];exact hN,hB.trans (hb.mono (by omega)),by have:=hb.size;omega⟩);have FY:=qsd (show Fin w.heap.size (w.heap.size+3) w u1 (.slice a2 (ws Y).length c2) Y from ⟨by rw [←hz1];exact hM,hB.trans (hb.mono (by omega)),by have:=hb.size;omega⟩);have SE:=(qsd (ai EA (ai EB ER)));clear hN hM hb H1 hB hz1 DA DB DR EA EB ER SB;obtain ⟨EA,EB,ER⟩:=SE.out;obtain ⟨U0,hU0⟩:∃ U,U=st3 (st3 u1 w.heap.size (.bool n1) (.slice a1 (ws X).length c1) (.int .i64 e1)) (w.heap.size+1) (.bool m1) (.slice a2 (ws Y).length c2) (.int .i64 f1):=⟨_,rfl⟩;have JA:Dk U0 w.heap.size n1 (.slice a1 (ws X).length c1) e1:=by rw [hU0];exact ((EA.set _ _ _).other _ (by omega) _ _ _)
 have JB:Dk U0 (w.heap.size+1) m1 (.slice a2 (ws Y).length c2) f1:=by rw [hU0];exact ((EB.other _ (by omega) _ _ _).set _ _ _)
 have JR:Dk U0 (w.heap.size+1+1) false (.slice none 0 0) 0:=by rw [hU0];exact ((ER.other _ (by omega) _ _ _).other _ (by omega) _ _ _)
 have KX:=qsd (show Fin w.heap.size (w.heap.size+3) w U0 (.slice a1 (ws X).length c1) X by rw [hU0];exact (Fin.st3 (Fin.st3 FX.out _ _ _ _ (by omega) (by omega)) _ _ _ _ (by omega) (by omega)));have KY:=qsd (show Fin w.heap.size (w.heap.size+3) w U0 (.slice a2 (ws Y).length c2) Y by rw [hU0];exact (Fin.st3 (Fin.st3 FY.out _ _ _ _ (by omega) (by omega)) _ _ _ _ (by omega) (by omega)));have SE:=(qsd (ai JA (ai JB JR)));unfold st3 at hU0;clear EA EB ER JA JB JR
 go_upto_region 9 with fail
 rw [←hU0];clear hU0 x0 x1 x2 xf0 xf1 xf2 y0 y1 y2 yf0 yf1 yf2 r0 r1 r2 rf0 rf1 rf2 FX FY;obtain ⟨x0,x1,x2,xf0,xf1,xf2⟩:=SE.out.1.facts;obtain ⟨y0,y1,y2,yf0,yf1,yf2⟩:=SE.out.2.1.facts;obtain ⟨r0,r1,r2,rf0,rf1,rf2⟩:=SE.out.2.2.facts;obtain ⟨EA,EB,ER⟩:=SE.out;obtain ⟨U1,hU1⟩:∃ U,U=st3 (st3 U0 w.heap.size (.bool m1) (.slice a2 (ws Y).length c2) (.int .i64 f1)) (w.heap.size+1) (.bool n1) (.slice a1 (ws X).length c1) (.int .i64 e1):=⟨_,rfl⟩;have IA:Dk U1 w.heap.size m1 (.slice a2 (ws Y).length c2) f1:=by rw [hU1];exact ((EA.set _ _ _).other _ (by omega) _ _ _)
 have IB:Dk U1 (w.heap.size+1) n1 (.slice a1 (ws X).length c1) e1:=by rw [hU1];exact ((EB.other _ (by omega) _ _ _).set _ _ _)
 have IR:Dk U1 (w.heap.size+1+1) false (.slice none 0 0) 0:=by rw [hU1];exact ((ER.other _ (by omega) _ _ _).other _ (by omega) _ _ _)
 have GX:Fin w.heap.size (w.heap.size+3) w U1 (.slice a1 (ws X).length c1) X:=by rw [hU1];exact (Fin.st3 (Fin.st3 KX.out _ _ _ _ (by omega) (by omega)) _ _ _ _ (by omega) (by omega))
 have GY:Fin w.heap.size (w.heap.size+3) w U1 (.slice a2 (ws Y).length c2) Y:=by rw [hU1];exact (Fin.st3 (Fin.st3 KY.out _ _ _ _ (by omega) (by omega)) _ _ _ _ (by omega) (by omega))
 have H2:=hid (HSH.out U1 a2 c2 GX.bel (GY.nt.arg' (by omega)).2);have S1:=(qsd (ai IA (ai IB (ai IR (ai GX GY)))));have hzU:w.heap.size+3≤U1.heap.size:=by have:=IR.lt;omega
 clear EA EB ER IA IB IR GX GY SE HSH;unfold st3 at hU1;go_wp2_with fail;rw [←hU1];clear hU1 x0 x1 x2 xf0 xf1 xf2 y0 y1 y2 yf0 yf1 yf2 r0 r1 r2 rf0 rf1 rf2;refine H2.out.mono ?_;rintro r u2 ⟨v,rfl,hN,hb⟩;obtain ⟨a3,c3,rfl,_⟩:=hN.arg (by omega);obtain ⟨IA,IB,IR,GX,GY⟩:=S1.out;obtain ⟨x0,x1,x2,xf0,xf1,xf2⟩:=(IA.below hb).facts;obtain ⟨y0,y1,y2,yf0,yf1,yf2⟩:=(IB.below hb).facts;obtain ⟨r0,r1,r2,rf0,rf1,rf2⟩:=(IR.below hb).facts;have H3:=hid (HT.out u2 a3 a1 c3 c1 (GX.below hb).bel (hN.arg' (by omega)).2 ((GX.below hb).nt.arg' (by omega)).2);have S2:=(qsd (ai (IR.below hb) ((GX.below hb))));have hz2:w.heap.size+3≤u2.heap.size:=by have:=hb.size;omega
 clear hN hb H2 S1 IA IB IR GX GY HT;go_wp2_with fail;refine H3.out.mono ?_;rintro r u3 ⟨⟨v,rfl,hN⟩,hb⟩;obtain ⟨a4,c4,rfl,_⟩:=hN.arg (by omega);have IR:=S2.out.1.below hb;obtain ⟨s0,s1,s2,sf0,sf1,sf2⟩:=IR.facts;have FV:=qsd (show Fin w.heap.size (w.heap.size+3) w u3 (.slice a4 (ws V).length c4) V from ⟨hN.mono hz2,(S2.out.2.below hb).bel,by have:=hb.size;omega⟩);have S3:=qsd IR;clear hN hb IR H3 S2;go_wp2;refine bodyPost_ret (add_res _ (w.heap.size+1+1) dn (.slice a4 (ws V).length c4) de er _ rfl rfl (S3.out.set _ _ _)) rfl ?_;refine Fin.dans (m:=w.heap.size+3) ?_ (by omega)
 repeat (with_reducible first | exact FV.out | refine Fin.drew ?_ | refine Fin.alloc ?_ _ | refine Fin.set ?_ _ _ _ (by omega) (by omega))
theorem add_sdiff {w:World}{a b:Option Addr}{l c k d:Nat}(n m:Bool) (e f:Int) (n1 m1:Bool) (X Y:Nat) (e1 f1:Int) (lX:(ws X).length≤8192) (lY:(ws Y).length≤8192) (hX:((((ws X).length:Nat):Int)==0)=false) (hY:((((ws Y).length:Nat):Int)==0)=false) (hlt:e1<f1) (be0:-1048576≤e1) (be1:e1≤1048576) (bf0:-1048576≤f1) (bf1:f1≤1048576)
 (HFM:Hid (∀ u,Below w.heap.size w u→Calls Tryz.prog 82 #[.agg #[.bool n,.slice a l c,.int .i64 e],.agg #[.bool m,.slice b k d,.int .i64 f]] u fun r w'=>∃ v v',r=.returned (.tuple #[.agg #[.bool n1,v,.int .i64 e1],.agg #[.bool m1,v',.int .i64 f1],.int .i64 0])∧Nt u.heap.size w' v X∧Nt u.heap.size w' v' Y∧Below u.heap.size u w')) (hs:(m1==n1)=false) (L:Nat) (lL:(ws L).length≤8192) (dn:Bool) (V:Nat) (de er:Int) (lV:(ws V).length≤8192)
 (HSH:Hid (∀ (u:World) (p:Option Addr) (q:Nat),Below w.heap.size w u→Arg u p (ws Y).length q (ws Y)→Calls Tryz.prog 83 #[.slice p (ws Y).length q,.int .i64 (f1-e1)] u fun r w'=>∃ v,r=.returned (.tuple #[v,.int .i64 0])∧Nt u.heap.size w' v L∧Below u.heap.size u w'))
 (HT:Hid (∀ (u:World) (p q:Option Addr) (s t:Nat),Below w.heap.size w u→Arg u p (ws L).length s (ws L)→Arg u q (ws X).length t (ws X)→Calls Tryz.prog 85 #[.bool m1,.slice p (ws L).length s,.slice q (ws X).length t,.int .i64 e1] u fun r w'=>(∃ v,r=.returned (.tuple #[.agg #[.bool dn,v,.int .i64 de],.int .i64 er])∧Nt u.heap.size w' v V)∧Below u.heap.size u w')):Calls Tryz.prog 63 #[.agg #[.bool n,.slice a l c,.int .i64 e],.agg #[.bool m,.slice b k d,.int .i64 f]] w fun r w'=>(∃ v,r=.returned (.tuple #[.agg #[.bool dn,v,.int .i64 de],.int .i64 er])∧Nt w.heap.size w' v V)∧Below w.heap.size w w':=by
 obtain ⟨W1,hW1⟩:∃ W,W=((w.alloc (.cells #[.bool n,.slice a l c,.int .i64 e] 70)).alloc (.cells #[.bool m,.slice b k d,.int .i64 f] 70)).alloc (.cells #[.bool false,.slice none 0 0,.int .i64 0] 70):=⟨_,rfl⟩;obtain ⟨hB,hz1,DA,DB,DR⟩:=add_begin w n m (.slice a l c) (.slice b k d) e f W1 hW1;have H1:=hid (HFM.out W1 hB);have SB:=(qsd (ai hB (ai hz1 (ai DA (ai DB DR)))));clear hB hz1 DA DB DR HFM;go_enter Tryz.func63,Tryz.ntmps63;go_wp2_with fail;rw [←hW1];clear hW1;refine H1.out.mono ?_;rintro r u1 ⟨v,v',rfl,hN,hM,hb⟩;obtain ⟨a1,c1,rfl,_⟩:=hN.arg (by omega);obtain ⟨a2,c2,rfl,_⟩:=hM.arg (by omega);obtain ⟨hB,hz1,DA,DB,DR⟩:=SB.out;have EA:=DA.below hb;have EB:=DB.below hb;have ER:=DR.below hb;obtain ⟨x0,x1,x2,xf0,xf1,xf2⟩:=EA.facts;obtain ⟨y0,y1,y2,yf0,yf1,yf2⟩:=EB.facts;obtain ⟨r0,r1,r2,rf0,rf1,rf2⟩:=ER.facts;have FX:=qsd (show Fin w.heap.size (w.heap.size+3) w u1 (.slice a1 (ws X).length c1) X from ⟨by rw [←hz1];exact hN,hB.trans (hb.mono (by omega)),by have:=hb.size;omega⟩);have FY:=qsd (show Fin w.heap.size (w.heap.size+3) w u1 (.slice a2 (ws Y).length c2) Y from ⟨by rw [←hz1];exact hM,hB.trans (hb.mono (by omega)),by have:=hb.size;omega⟩);have SE:=(qsd (ai EA (ai EB ER)));clear hN hM hb H1 hB hz1 DA DB DR EA EB ER SB;obtain ⟨EA,EB,ER⟩:=SE.out;obtain ⟨U0,hU0⟩:∃ U,U=st3 (st3 u1 w.heap.size (.bool n1) (.slice a1 (ws X).length c1) (.int .i64 e1)) (w.heap.size+1) (.bool m1) (.slice a2 (ws Y).length c2) (.int .i64 f1):=⟨_,rfl⟩;have JA:Dk U0 w.heap.size n1 (.slice a1 (ws X).length c1) e1:=by rw [hU0];exact ((EA.set _ _ _).other _ (by omega) _ _ _)
 have JB:Dk U0 (w.heap.size+1) m1 (.slice a2 (ws Y).length c2) f1:=by rw [hU0];exact ((EB.other _ (by omega) _ _ _).set _ _ _)
 have JR:Dk U0 (w.heap.size+1+1) false (.slice none 0 0) 0:=by rw [hU0];exact ((ER.other _ (by omega) _ _ _).other _ (by omega) _ _ _)
 have KX:=qsd (show Fin w.heap.size (w.heap.size+3) w U0 (.slice a1 (ws X).length c1) X by rw [hU0];exact (Fin.st3 (Fin.st3 FX.out _ _ _ _ (by omega) (by omega)) _ _ _ _ (by omega) (by omega)));have KY:=qsd (show Fin w.heap.size (w.heap.size+3) w U0 (.slice a2 (ws Y).length c2) Y by rw [hU0];exact (Fin.st3 (Fin.st3 FY.out _ _ _ _ (by omega) (by omega)) _ _ _ _ (by omega) (by omega)));have SE:=(qsd (ai JA (ai JB JR)));unfold st3 at hU0;clear EA EB ER JA JB JR
 go_upto_region 9 with fail
 rw [←hU0];clear hU0 x0 x1 x2 xf0 xf1 xf2 y0 y1 y2 yf0 yf1 yf2 r0 r1 r2 rf0 rf1 rf2 FX FY;obtain ⟨x0,x1,x2,xf0,xf1,xf2⟩:=SE.out.1.facts;obtain ⟨y0,y1,y2,yf0,yf1,yf2⟩:=SE.out.2.1.facts;obtain ⟨r0,r1,r2,rf0,rf1,rf2⟩:=SE.out.2.2.facts;obtain ⟨EA,EB,ER⟩:=SE.out;obtain ⟨U1,hU1⟩:∃ U,U=st3 (st3 U0 w.heap.size (.bool m1) (.slice a2 (ws Y).length c2) (.int .i64 f1)) (w.heap.size+1) (.bool n1) (.slice a1 (ws X).length c1) (.int .i64 e1):=⟨_,rfl⟩;have IA:Dk U1 w.heap.size m1 (.slice a2 (ws Y).length c2) f1:=by rw [hU1];exact ((EA.set _ _ _).other _ (by omega) _ _ _)
 have IB:Dk U1 (w.heap.size+1) n1 (.slice a1 (ws X).length c1) e1:=by rw [hU1];exact ((EB.other _ (by omega) _ _ _).set _ _ _)
 have IR:Dk U1 (w.heap.size+1+1) false (.slice none 0 0) 0:=by rw [hU1];exact ((ER.other _ (by omega) _ _ _).other _ (by omega) _ _ _)
 have GX:Fin w.heap.size (w.heap.size+3) w U1 (.slice a1 (ws X).length c1) X:=by rw [hU1];exact (Fin.st3 (Fin.st3 KX.out _ _ _ _ (by omega) (by omega)) _ _ _ _ (by omega) (by omega))
 have GY:Fin w.heap.size (w.heap.size+3) w U1 (.slice a2 (ws Y).length c2) Y:=by rw [hU1];exact (Fin.st3 (Fin.st3 KY.out _ _ _ _ (by omega) (by omega)) _ _ _ _ (by omega) (by omega))
 have H2:=hid (HSH.out U1 a2 c2 GX.bel (GY.nt.arg' (by omega)).2);have S1:=(qsd (ai IA (ai IB (ai IR (ai GX GY)))));have hzU:w.heap.size+3≤U1.heap.size:=by have:=IR.lt;omega
 clear EA EB ER IA IB IR GX GY SE HSH;unfold st3 at hU1;go_wp2_with fail;rw [←hU1];clear hU1 x0 x1 x2 xf0 xf1 xf2 y0 y1 y2 yf0 yf1 yf2 r0 r1 r2 rf0 rf1 rf2;refine H2.out.mono ?_;rintro r u2 ⟨v,rfl,hN,hb⟩;obtain ⟨a3,c3,rfl,_⟩:=hN.arg (by omega);obtain ⟨IA,IB,IR,GX,GY⟩:=S1.out;obtain ⟨x0,x1,x2,xf0,xf1,xf2⟩:=(IA.below hb).facts;obtain ⟨y0,y1,y2,yf0,yf1,yf2⟩:=(IB.below hb).facts;obtain ⟨r0,r1,r2,rf0,rf1,rf2⟩:=(IR.below hb).facts;have H3:=hid (HT.out u2 a3 a1 c3 c1 (GX.below hb).bel (hN.arg' (by omega)).2 ((GX.below hb).nt.arg' (by omega)).2);have S2:=(qsd (ai (IR.below hb) ((GX.below hb))));have hz2:w.heap.size+3≤u2.heap.size:=by have:=hb.size;omega
 clear hN hb H2 S1 IA IB IR GX GY HT;go_wp2_with fail;refine H3.out.mono ?_;rintro r u3 ⟨⟨v,rfl,hN⟩,hb⟩;obtain ⟨a4,c4,rfl,_⟩:=hN.arg (by omega);have IR:=S2.out.1.below hb;obtain ⟨s0,s1,s2,sf0,sf1,sf2⟩:=IR.facts;have FV:=qsd (show Fin w.heap.size (w.heap.size+3) w u3 (.slice a4 (ws V).length c4) V from ⟨hN.mono hz2,(S2.out.2.below hb).bel,by have:=hb.size;omega⟩);have S3:=qsd IR;clear hN hb IR H3 S2;go_wp2;refine bodyPost_ret (add_res _ (w.heap.size+1+1) dn (.slice a4 (ws V).length c4) de er _ rfl rfl (S3.out.set _ _ _)) rfl ?_;refine Fin.dans (m:=w.heap.size+3) ?_ (by omega)
 repeat (with_reducible first | exact FV.out | refine Fin.drew ?_ | refine Fin.alloc ?_ _ | refine Fin.set ?_ _ _ _ (by omega) (by omega))
end
section
open Go.RowKit
def addUp (n:Bool) (X:Nat) (e:Int) (m:Bool) (Y:Nat) (f:Int):Option (Bool×Nat×Int) :=
 if 262144<bl X+(e-f).toNat then none
 else if n=m then mkS n (X*2^(e-f).toNat+Y) f
 else if Y≤X*2^(e-f).toNat then mkS n (X*2^(e-f).toNat-Y) f
 else mkS (!n) (Y-X*2^(e-f).toNat) f
def addF (x y:Bool×Nat×Int):Option (Bool×Nat×Int) :=
 if x.2.1=0 then some y else if y.2.1=0 then some x
 else if x.2.2<y.2.2 then addUp y.1 y.2.1 y.2.2 x.1 x.2.1 x.2.2 else addUp x.1 x.2.1 x.2.2 y.1 y.2.1 y.2.2
def addD (o p:Option (Bool×Nat×Int)):Option (Bool×Nat×Int) :=
 match o,p with
 | some x,some y=>addF x y
 | _,_=>none
theorem shift_up (X:Nat) (b:Int) (h0:0≤b) (hX:X≠0) (hl:bl X≤262144):shiftS X b=if 262144<bl X+b.toNat then (0,2) else (X*2^b.toNat,0):=by
 unfold shiftS;rw [if_neg (notLG hl),if_neg hX,if_neg (by omega)]
 by_cases h:262144<bl X+b.toNat
 · rw [if_pos h,if_pos (by omega)]
 · rw [if_neg h,if_neg (by omega)]
theorem bl_up (X b:Nat) (hX:X≠0):bl (X*2^b)=bl X+b:=by rw [Nat.mul_comm,bl_mul_pow b X hX];omega
theorem Shift_one {w:World}{p:Option Addr}{q X:Nat}(b:Int) (L:Nat) (er:Int) (hA:Arg w p (ws X).length q (ws X)) (hb0:-9223372036854775808≤b) (hb1:b≤9223372036854775807) (h:shiftS X b=(L,er)) :
 Calls Tryz.prog 83 #[.slice p (ws X).length q,.int .i64 b] w fun r w'=>∃ v,r=.returned (.tuple #[v,.int .i64 er])∧Nt w.heap.size w' v L∧Below w.heap.size w w':=by
 have:=Shift_any (ws X) p (ws X).length q w.heap.size b w hA.len hA.cap (by have:=hA.big;omega) hA.wf hA.rd (Nat.le_refl _) hb0 hb1;rw [val_ws,h] at this;exact this.mono fun r w' ⟨⟨v,h1,h2⟩,h3⟩=>⟨v,h1,h2,h3⟩
theorem sum_ws {w u:World}{p q:Option Addr}{s t L Y:Nat}(hT:Tab w) (hu:Below w.heap.size w u) (A1:Arg u p (ws L).length s (ws L)) (A2:Arg u q (ws Y).length t (ws Y)) (n:Bool) (f:Int) (h0:-1048576≤f) (h1:f≤1048576) (oY:Y%2=1) (bL:bl L≤262144) (bY:bl Y≤262144) :
 Calls Tryz.prog 84 #[.bool n,.slice p (ws L).length s,.slice q (ws Y).length t,.int .i64 f] u fun r w'=>DAns u.heap.size w' r (mkS n (L+Y) f)∧Below u.heap.size u w' :=
 sum_any A1 A2 (hT.belows hu) n f h0 h1 L Y (val_ws L) (val_ws Y) oY bL bY
theorem diff_ws {w u:World}{p q:Option Addr}{s t L Y:Nat}(hT:Tab w) (hu:Below w.heap.size w u) (A1:Arg u p (ws L).length s (ws L)) (A2:Arg u q (ws Y).length t (ws Y)) (n:Bool) (f:Int) (h0:-1048576≤f) (h1:f≤1048576) (bL:bl L≤262144) (bY:bl Y≤262144) :
 Calls Tryz.prog 85 #[.bool n,.slice p (ws L).length s,.slice q (ws Y).length t,.int .i64 f] u fun r w'=>DAns u.heap.size w' r (if Y≤L then mkS n (L-Y) f else mkS (!n) (Y-L) f)∧Below u.heap.size u w':=by
 by_cases h:Y≤L
 · rw [if_pos h];exact diff_high A1 A2 (hT.belows hu) n f h0 h1 L Y (val_ws L) (val_ws Y) bL bY h
 · rw [if_neg h];exact diff_low A1 A2 (hT.belows hu) n f h0 h1 L Y (val_ws L) (val_ws Y) bL bY (by omega)
theorem len_ne {X:Nat}(h:X≠0):((((ws X).length:Nat):Int)==0)=false:=beq_eq_false_iff_ne.2 (by have:(ws X).length≠0:=fun e=>h ((ws_len_zero X).1 e);omega)
theorem Add_any3 {w:World}{a b:Option Addr}{l c k d:Nat}{xs ys:List Nat}(h1:Arg w a l c xs) (h2:Arg w b k d ys) (hT:Tab w) (n m:Bool) (e f:Int) (he0:-9223372036854775808≤e) (he1:e≤9223372036854775807) (hf0:-9223372036854775808≤f) (hf1:f≤9223372036854775807) :
 Calls Tryz.prog 63 #[.agg #[.bool n,.slice a l c,.int .i64 e],.agg #[.bool m,.slice b k d,.int .i64 f]] w fun r w'=>DAns w.heap.size w' r (addD (mkS n (val xs) e) (mkS m (val ys) f))∧Below w.heap.size w w':=by
 have zero:∀ {r:Ending} {w':World},(r=.returned (.tuple #[.agg #[.bool false,.slice none 0 0,.int .i64 0],.int .i64 2])∧Below w.heap.size w w')→DAns w.heap.size w' r none∧Below w.heap.size w w':=fun ⟨h1,h2⟩=>⟨⟨_,h1,Nt.nil _ _⟩,h2⟩
 cases hx:mkS n (val xs) e with
 | none =>
   exact (add_bad n m e f (hid fun u hu=>forms_bad1 (h1.below hu) (h2.below hu) (hT.belows hu) n m e f he0 he1 hf0 hf1 hx)).mono fun r w' h=>zero h
 | some x =>
   obtain ⟨n1,X,e1⟩:=x
   cases hy:mkS m (val ys) f with
   | none =>
     exact (add_bad n m e f (hid fun u hu=>forms_bad2 (h1.below hu) (h2.below hu) (hT.belows hu) n m e f he0 he1 hf0 hf1 n1 X e1 hx hy)).mono fun r w' h=>zero h
   | some y =>
     obtain ⟨m1,Y,f1⟩:=y;have HFM:=hid fun u (hu:Below w.heap.size w u)=>forms_ok (h1.below hu) (h2.below hu) (hT.belows hu) n m e f he0 he1 hf0 hf1 n1 m1 X Y e1 f1 hx hy;have FX:=mkS_frm hx;have FY:=mkS_frm hy;have lX:=frm_len FX;have lY:=frm_len FY;have:=FX.up;have:=FX.down;have:=FY.up;have:=FY.down;show Calls _ _ _ _ fun r w'=>DAns w.heap.size w' r (addF (n1,X,e1) (m1,Y,f1))∧_;unfold addF;simp only
     by_cases hX0:X=0
     · rw [if_pos hX0];exact add_left n m e f n1 m1 X Y e1 f1 lX lY ((ws_len_zero X).2 hX0) HFM
     · rw [if_neg hX0]
       by_cases hY0:Y=0
       · rw [if_pos hY0];exact add_right n m e f n1 m1 X Y e1 f1 lX lY (len_ne hX0) ((ws_len_zero Y).2 hY0) HFM
       · rw [if_neg hY0];have oX:X%2=1:=by rcases FX.odd with h | h <;> omega
         have oY:Y%2=1:=by rcases FY.odd with h | h <;> omega
         by_cases hlt:e1<f1
         · rw [if_pos hlt];have hsh:=shift_up Y (f1-e1) (by omega) hY0 FY.size;unfold addUp
           by_cases hL:262144<bl Y+(f1-e1).toNat
           · rw [if_pos hL] at hsh ⊢;exact (add_slong n m e f n1 m1 X Y e1 f1 lX lY (len_ne hX0) (len_ne hY0) hlt (by omega) (by omega) (by omega) (by omega) HFM (hid fun u p q hu hA=>Shift_one (f1-e1) 0 2 hA (by omega) (by omega) hsh)).mono fun r w' h=>zero h
           · rw [if_neg hL] at hsh ⊢;have hbl:=bl_up Y (f1-e1).toNat hY0;obtain ⟨L,hLe⟩:∃ L,Y*2^(f1-e1).toNat=L:=⟨_,rfl⟩;rw [hLe] at hsh hbl ⊢;have lL:=len8 (X:=L) (by omega)
             by_cases hs:m1=n1
             · rw [if_pos hs]
               exact add_ssum n m e f n1 m1 X Y e1 f1 lX lY (len_ne hX0) (len_ne hY0) hlt (by omega) (by omega) (by omega) (by omega) HFM (by simp [hs]) L lL _ _ _ _ (mkS_len m1 (L+X) e1) (hid fun u p q hu hA=>Shift_one (f1-e1) L 0 hA (by omega) (by omega) hsh)
                (hid fun u p q s t hu hA hB=>sum_ws hT hu hA hB m1 e1 (by omega) (by omega) oX (by omega) FX.size)
             · rw [if_neg hs];have hlen:(ws (dX (if X≤L then mkS m1 (L-X) e1 else mkS (!m1) (X-L) e1))).length≤8192:=by split <;> exact mkS_len _ _ _
               exact add_sdiff n m e f n1 m1 X Y e1 f1 lX lY (len_ne hX0) (len_ne hY0) hlt (by omega) (by omega) (by omega) (by omega) HFM (by simp [hs]) L lL _ _ _ _ hlen (hid fun u p q hu hA=>Shift_one (f1-e1) L 0 hA (by omega) (by omega) hsh)
                (hid fun u p q s t hu hA hB=>diff_ws hT hu hA hB m1 e1 (by omega) (by omega) (by omega) FX.size)
         · rw [if_neg hlt];have hsh:=shift_up X (e1-f1) (by omega) hX0 FX.size;have hltd:decide (e1<f1)=false:=decide_eq_false hlt;unfold addUp
           by_cases hL:262144<bl X+(e1-f1).toNat
           · rw [if_pos hL] at hsh ⊢;exact (add_nlong n m e f n1 m1 X Y e1 f1 lX lY (len_ne hX0) (len_ne hY0) hltd (by omega) (by omega) (by omega) (by omega) HFM (hid fun u p q hu hA=>Shift_one (e1-f1) 0 2 hA (by omega) (by omega) hsh)).mono fun r w' h=>zero h
           · rw [if_neg hL] at hsh ⊢;have hbl:=bl_up X (e1-f1).toNat hX0;obtain ⟨L,hLe⟩:∃ L,X*2^(e1-f1).toNat=L:=⟨_,rfl⟩;rw [hLe] at hsh hbl ⊢;have lL:=len8 (X:=L) (by omega)
             by_cases hs:n1=m1
             · rw [if_pos hs]
               exact add_nsum n m e f n1 m1 X Y e1 f1 lX lY (len_ne hX0) (len_ne hY0) hltd (by omega) (by omega) (by omega) (by omega) HFM (by simp [hs]) L lL _ _ _ _ (mkS_len n1 (L+Y) f1) (hid fun u p q hu hA=>Shift_one (e1-f1) L 0 hA (by omega) (by omega) hsh)
                (hid fun u p q s t hu hA hB=>sum_ws hT hu hA hB n1 f1 (by omega) (by omega) oY (by omega) FY.size)
             · rw [if_neg hs];have hlen:(ws (dX (if Y≤L then mkS n1 (L-Y) f1 else mkS (!n1) (Y-L) f1))).length≤8192:=by split <;> exact mkS_len _ _ _
               exact add_ndiff n m e f n1 m1 X Y e1 f1 lX lY (len_ne hX0) (len_ne hY0) hltd (by omega) (by omega) (by omega) (by omega) HFM (by simp [hs]) L lL _ _ _ _ hlen (hid fun u p q hu hA=>Shift_one (e1-f1) L 0 hA (by omega) (by omega) hsh)
                (hid fun u p q s t hu hA hB=>diff_ws hT hu hA hB n1 f1 (by omega) (by omega) (by omega) FY.size)
end
namespace B
open Go.RowKit
attribute [local go_sem] f64bits f64frombits
theorem mul_exact (f:Ieee.Format) (hs:f.infRung<f.signWeight) (s t:Bool) (r u v a:Nat) (ha:f.leastPlace=-(a:Int)) (hr:r<f.infRung) (hu:u<f.infRung) (hv:v<f.infRung)
 (h:val f r*val f u=val f v*2^a) (h0:val f r≠0) (h1:val f u≠0):f.mul (f.word s r) (f.word t u)=some (f.word (s ^^ t) v):=by
 obtain ⟨m,k,e1,v1⟩:=read_word f s r hr hs;obtain ⟨n,j,e2,v2⟩:=read_word f t u hu hs;unfold Ieee.Format.mul;rw [e1,e2];show some (f.nearest (s ^^ t) (m*n) (f.leastPlace+k+(f.leastPlace+j)))=_;have e:f.leastPlace+(k:Int)+(f.leastPlace+(j:Int))=f.leastPlace+((k+j:Nat):Int)-(a:Int):=by omega
 have hmn:m*n≠0:=by
  intro h2;rcases Nat.mul_eq_zero.1 h2 with h3|h3
  · subst h3;simp at v1;exact h0 v1.symm
  · subst h3;simp at v2;exact h1 v2.symm
 rw [e,nearest_exact2 f _ (m*n) (k+j) a v hv ?_ hmn];rw [←h,←v1,←v2,Nat.pow_add]
 grind
theorem and_high (a:Nat) (h:a<2^63):a &&& 2^63=0:=by
 apply Nat.eq_of_testBit_eq;intro i;rw [Nat.testBit_and,Nat.testBit_two_pow,Nat.zero_testBit]
 by_cases hi:63=i
 · subst hi;rw [Nat.testBit_lt_two_pow h];rfl
 · simp [hi]
theorem mask_clear (e g:Nat) (he:e<2048) (hg:g<4503599627370496):bits .andNot .u64 ((bw false e g:Nat):Int) 9218868437227405312=(g:Int):=by
 have h:=u64_andNot_nat (bw false e g) 9218868437227405312 (bw_lt false e g he hg) (by omega);rw [show (((9218868437227405312:Nat)):Int)=9218868437227405312 from rfl] at h;rw [h];have hb:bw false e g=e*4503599627370496+g:=by unfold bw;simp
 have hlt:bw false e g<2^63:=by rw [hb];omega
 have e1:18446744073709551615-9218868437227405312=2^63 ||| (2^52-1):=by decide
 rw [e1,Nat.and_or_distrib_left,Nat.and_two_pow_sub_one_eq_mod,and_high _ hlt,Nat.zero_or,hb];omega
theorem join_exp (E g:Nat) (hE:E<2048) (hg:g<4503599627370496):bits .or .u64 (g:Int) ((E:Int)*4503599627370496)=((bw false E g:Nat):Int):=by
 have hc:bits .or .u64 (g:Int) ((E:Int)*4503599627370496)=bits .or .u64 ((E:Int)*4503599627370496) (g:Int):=by simp only [bits,BitVec.or_comm]
 rw [hc,bits_join .u64 64 (by decide) wraps_u64 52 ((E:Int)*4503599627370496) (g:Int) (by omega) (by omega) (by omega) (by omega) (by omega) (by omega)];unfold bw;simp
theorem isInf0 (e g:Nat) (he:e<2047) (hg:g<4503599627370496) (w:World) :
 Calls Tryz.prog 45 #[.float .f64 (bw false e g),.int .i64 0] w fun r w'=>r=.returned (.bool false)∧w'=w:=by
 have H:=hid (abs_any false e g (by omega) hg w);have h1:=gt_max false e g (by omega) hg;have h2:(!false&&(e==2047&&g==0))=false:=by simp;omega
 rw [h2] at h1;generalize bw false e g=b at *;go_enter Tryz.func45,Tryz.ntmps45;go_wp2_with fail;refine H.out.mono ?_;rintro r w1 ⟨rfl,rfl⟩;go_wp2;go_ret;exact ⟨rfl,rfl⟩
theorem normalize_any (e g:Nat) (h0:0<e) (he:e<2047) (hg:g<4503599627370496) (w:World) :
 Calls Tryz.prog 47 #[.float .f64 (bw false e g)] w fun r w'=>r=.returned (.tuple #[.float .f64 (bw false e g),.int .i64 0])∧w'=w:=by
 have H:=hid (abs_any false e g (by omega) hg w);have h1:=lt_f64 false false e g 1 0 (by omega) hg (by omega) (by omega)
 have h3:(!odd e g&&(!odd 1 0&&decide (pl false e g<pl false 1 0)))=false:=by
  have:¬ pl false e g<pl false 1 0:=by unfold pl sg;simp;omega
  simp [this]
 rw [h3,show bw false 1 0=4503599627370496 from rfl] at h1;generalize bw false e g=b at *;clear h3;go_enter Tryz.func47,Tryz.ntmps47;go_wp2_with fail;refine H.out.mono ?_;rintro r w1 ⟨rfl,rfl⟩;go_wp2
 go_ret2
 exact ⟨rfl,rfl⟩
theorem inf_any (w:World):Calls Tryz.prog 49 #[.int .i64 1] w fun r w'=>r=.returned (.float .f64 9218868437227405312)∧w'=w:=by
 go_enter Tryz.func49,Tryz.ntmps49;go_wp2;go_ret;exact ⟨rfl,rfl⟩
theorem copysign_neg (e g:Nat) (he:e<2048) (hg:g<4503599627370496) (w:World) :
 Calls Tryz.prog 48 #[.float .f64 (bw false e g),.float .f64 13830554455654793216] w fun r w'=>r=.returned (.float .f64 (bw true e g))∧w'=w:=by
 have h1:=abs_bw false e g he hg;have h2:bits .and .u64 13830554455654793216 9223372036854775808=9223372036854775808:=by decide
 have hb:bw false e g=e*4503599627370496+g:=by unfold bw;simp
 have h3:=or_sign ((bw false e g:Nat):Int) (by omega) (by rw [hb];omega);have h4:((bw false e g:Nat):Int)+9223372036854775808=((bw true e g:Nat):Int):=by unfold bw;simp;omega
 rw [h4] at h3;generalize bw false e g=b at *;generalize bw true e g=d at *;clear hb h4;go_enter Tryz.func48,Tryz.ntmps48;go_wp2;go_ret;exact ⟨by simp,rfl⟩
end B
namespace B
open Go.RowKit
attribute [local go_sem] f64bits f64frombits
theorem ldexp_norm (b e g d:Nat) (x y z:Int) (w:World) (hb:b<9223372036854775808) (hx0:-3000≤x) (hx1:x≤3000) (he0:0<e) (he1:e<2047) (hg:g<4503599627370496)
 (z0:(FloatKind.f64.format.order b 0==some .eq)=false)
 (HI:Hid (∀ u,Calls Tryz.prog 45 #[.float .f64 b,.int .i64 0] u fun r w'=>r=.returned (.bool false)∧w'=u))
 (HN:Hid (∀ u,Calls Tryz.prog 46 #[.float .f64 b] u fun r w'=>r=.returned (.bool false)∧w'=u))
 (HZ:Hid (∀ u,Calls Tryz.prog 47 #[.float .f64 b] u fun r w'=>r=.returned (.tuple #[.float .f64 b,.int .i64 0])∧w'=u))
 (e1:bits .and .i64 ((b:Int)/4503599627370496) 2047=(e:Int)) (mc:bits .andNot .u64 (b:Int) 9218868437227405312=(g:Int))
 (ey:x+((e:Int)-1023)=y) (hy0:-1022≤y) (hy1:y≤1023) (ez:(y+1023)*4503599627370496=z) (hz0:0≤z) (hz1:z<9223372036854775808) (je:bits .or .u64 (g:Int) z=(d:Int))
 (mu:∀ u:World,(binOp .mul 25 (.float .f64 4607182418800017408) (.float .f64 d)).run Tryz.prog u=.ok (.float .f64 d) u) :
 Calls Tryz.prog 23 #[.float .f64 b,.int .i64 x] w fun r w'=>r=.returned (.float .f64 d)∧w'=w:=by
 go_enter Tryz.func23,Tryz.ntmps23;go_wp2_with fail;refine (Calls.mono (HI.out _)) ?_;rintro r w1 ⟨rfl,hw⟩;rw [hw];clear hw w1;go_wp2_with fail;refine (Calls.mono (HN.out _)) ?_;rintro r w1 ⟨rfl,hw⟩;rw [hw];clear hw w1;go_wp2_with fail;refine (Calls.mono (HZ.out _)) ?_;rintro r w1 ⟨rfl,hw⟩;rw [hw];clear hw w1;go_wp2;go_ret;exact ⟨rfl,rfl⟩
theorem ldexp_sub (b e g d c:Nat) (x y y2 z:Int) (w:World) (hb:b<9223372036854775808) (hx0:-3000≤x) (hx1:x≤3000) (he0:0<e) (he1:e<2047) (hg:g<4503599627370496)
 (z0:(FloatKind.f64.format.order b 0==some .eq)=false)
 (HI:Hid (∀ u,Calls Tryz.prog 45 #[.float .f64 b,.int .i64 0] u fun r w'=>r=.returned (.bool false)∧w'=u))
 (HN:Hid (∀ u,Calls Tryz.prog 46 #[.float .f64 b] u fun r w'=>r=.returned (.bool false)∧w'=u))
 (HZ:Hid (∀ u,Calls Tryz.prog 47 #[.float .f64 b] u fun r w'=>r=.returned (.tuple #[.float .f64 b,.int .i64 0])∧w'=u))
 (e1:bits .and .i64 ((b:Int)/4503599627370496) 2047=(e:Int)) (mc:bits .andNot .u64 (b:Int) 9218868437227405312=(g:Int))
 (ey:x+((e:Int)-1023)=y) (hy0:-1075≤y) (hy1:y < -1022) (ey2:y+53=y2) (hy2:-1022≤y2) (hy3:y2≤1023) (ez:(y2+1023)*4503599627370496=z) (hz0:0≤z) (hz1:z<9223372036854775808) (je:bits .or .u64 (g:Int) z=(d:Int))
 (mu:∀ u:World,(binOp .mul 25 (.float .f64 4368491638549381120) (.float .f64 d)).run Tryz.prog u=.ok (.float .f64 c) u) :
 Calls Tryz.prog 23 #[.float .f64 b,.int .i64 x] w fun r w'=>r=.returned (.float .f64 c)∧w'=w:=by
 go_enter Tryz.func23,Tryz.ntmps23;go_wp2_with fail;refine (Calls.mono (HI.out _)) ?_;rintro r w1 ⟨rfl,hw⟩;rw [hw];clear hw w1;go_wp2_with fail;refine (Calls.mono (HN.out _)) ?_;rintro r w1 ⟨rfl,hw⟩;rw [hw];clear hw w1;go_wp2_with fail;refine (Calls.mono (HZ.out _)) ?_;rintro r w1 ⟨rfl,hw⟩;rw [hw];clear hw w1;go_wp2;go_ret;exact ⟨rfl,rfl⟩
theorem ldexp_inf (b e g:Nat) (x y:Int) (w:World) (hb:b<9223372036854775808) (hx0:-3000≤x) (hx1:x≤3000) (he0:0<e) (he1:e<2047) (hg:g<4503599627370496)
 (z0:(FloatKind.f64.format.order b 0==some .eq)=false)
 (HI:Hid (∀ u,Calls Tryz.prog 45 #[.float .f64 b,.int .i64 0] u fun r w'=>r=.returned (.bool false)∧w'=u))
 (HN:Hid (∀ u,Calls Tryz.prog 46 #[.float .f64 b] u fun r w'=>r=.returned (.bool false)∧w'=u))
 (HZ:Hid (∀ u,Calls Tryz.prog 47 #[.float .f64 b] u fun r w'=>r=.returned (.tuple #[.float .f64 b,.int .i64 0])∧w'=u))
 (e1:bits .and .i64 ((b:Int)/4503599627370496) 2047=(e:Int)) (mc:bits .andNot .u64 (b:Int) 9218868437227405312=(g:Int))
 (ey:x+((e:Int)-1023)=y) (hy0:1023<y) (z1:(FloatKind.f64.format.order b 0==some .lt)=false) :
 Calls Tryz.prog 23 #[.float .f64 b,.int .i64 x] w fun r w'=>r=.returned (.float .f64 9218868437227405312)∧w'=w:=by
 go_enter Tryz.func23,Tryz.ntmps23;go_wp2_with fail;refine (Calls.mono (HI.out _)) ?_;rintro r w1 ⟨rfl,hw⟩;rw [hw];clear hw w1;go_wp2_with fail;refine (Calls.mono (HN.out _)) ?_;rintro r w1 ⟨rfl,hw⟩;rw [hw];clear hw w1;go_wp2_with fail;refine (Calls.mono (HZ.out _)) ?_;rintro r w1 ⟨rfl,hw⟩;rw [hw];clear hw w1;go_wp2_with fail;refine (Calls.mono (inf_any _)) ?_;rintro r w1 ⟨rfl,hw⟩;rw [hw];clear hw w1;go_wp2;go_ret;exact ⟨rfl,rfl⟩
end B
namespace B
open Go.RowKit
theorem bl_le53' (X:Nat) (h:X≤9007199254740991):bl X≤53:=by
 by_cases h0:X=0
 · subst h0;rw [bl_zero];omega
 · have:=(Nat.pow_lt_pow_iff_right (a:=2) (by omega)).1 (Nat.lt_of_le_of_lt (bl_ge X h0) (show X<2^53 by omega));omega
theorem bits_mask1 (z:Nat) (hz:z<18446744073709551616):bits .and .u64 (z:Int) 1=((z%2:Nat):Int):=by
 have h:=bits_mask .u64 64 (by decide) wraps_u64 1 (by decide) (z:Int) (by omega) (by omega);rw [show ((2:Int)^1-1)=1 from rfl] at h;rw [h];omega
def LP:Nat:=1074
theorem dLP:Ieee.double.leastPlace=-(LP:Int):=by decide
theorem val_plain (e g:Nat) (he:0<e) (hg:g<4503599627370496):val Ieee.double (e*4503599627370496+g)=(4503599627370496+g)*2^(e-1):=by
 obtain ⟨j,rfl⟩:∃ j,e=j+1:=⟨e-1,by omega⟩;have h:=val_at Ieee.double j (4503599627370496+g) (.inr (by rw [dBin];omega)) (by rw [dBin];omega);rw [dBin] at h;rw [show (j+1)*4503599627370496+g=j*4503599627370496+(4503599627370496+g) by omega,h];rfl
theorem val_tiny (r:Nat) (h:r<4503599627370496):val Ieee.double r=r:=by unfold val;rw [dBin,if_pos h]
theorem two52:(4503599627370496:Nat)=2^52:=rfl
structure Whole (c e g:Nat):Prop where
 e0:0<e
 e1:e<1077
 g0:g<4503599627370496
 v:(4503599627370496+g)*2^(e-1)=c*2^LP
 ex:e=bl c+1022
 gx:∀ k,bl c+k=53→4503599627370496+g=c*2^k
 top:bl c=54→g=0
theorem whole_of (c:Nat) (h0:0<c) (h1:c≤9007199254740992):∃ e g,Whole c e g:=by
 by_cases ht:c=9007199254740992
 · subst ht;have hb:bl 9007199254740992=54:=bl_eq _ 53 (by decide) (by decide);obtain ⟨e,he⟩:∃ e,e=1076:=⟨_,rfl⟩;refine ⟨e,0,by omega,by omega,by omega,?_,by rw [hb];omega,fun k hk=>by omega,fun _=>rfl⟩
   have key:∀ q,q=LP+1→(4503599627370496+0)*2^q=9007199254740992*2^LP:=by
    intro q hq;rw [hq,Nat.pow_succ];generalize 2^LP=Q;omega
   exact key (e-1) (by rw [he];rfl)
 · have hb1:=bl_pos c (by omega)
   have hb2:bl c≤53:=by
    have:=(Nat.pow_lt_pow_iff_right (a:=2) (by omega)).1 (Nat.lt_of_le_of_lt (bl_ge c (by omega)) (show c<2^53 by omega));omega
   obtain ⟨k,hk⟩:∃ k,bl c+k=53:=⟨53-bl c,by omega⟩
   have hlo:2^52≤c*2^k:=by
    have h2:=bl_ge c (by omega);have h3:2^(bl c-1)*2^k≤c*2^k:=Nat.mul_le_mul_right _ h2;rw [←Nat.pow_add,show bl c-1+k=52 by omega] at h3;exact h3
   have hhi:c*2^k<2^53:=by
    have h3:=Nat.mul_lt_mul_of_pos_right (bl_lt c) (Nat.two_pow_pos k);rw [←Nat.pow_add,hk] at h3;exact h3
   have e52:(2:Nat)^52=4503599627370496:=rfl;have e53:(2:Nat)^53=9007199254740992:=rfl;rw [e52] at hlo;rw [e53] at hhi;refine ⟨bl c+1022,c*2^k-4503599627370496,by omega,by omega,by omega,?_,rfl,fun k' hk'=>?_,fun h=>by omega⟩
   · rw [show 4503599627370496+(c*2^k-4503599627370496)=c*2^k by omega,Nat.mul_assoc,←Nat.pow_add];congr 2;show k+(bl c+1022-1)=1074;omega
   · obtain rfl:k'=k:=by omega
     omega
theorem ofInt_whole (c e g:Nat) (h:Whole c e g):floatOfInt .f64 (c:Int)=bw false e g:=by
 have hr:e*4503599627370496+g<Ieee.double.infRung:=by rw [dInf];have:=h.e1;have:=h.g0;omega
 have hn:=nearest_exact Ieee.double false c LP (e*4503599627370496+g) hr (by rw [val_plain e g h.e0 h.g0,h.v]);rw [dLP] at hn;rw [bw_word,←hn];show Ieee.double.nearest (decide ((c:Int)<0)) (c:Int).natAbs 0=_;rw [show decide ((c:Int)<0)=false from decide_eq_false (by omega),Int.natAbs_natCast];congr 1
theorem pow_val (e:Nat) (he:0<e) (q:Nat) (hq:e-1=q):val Ieee.double (e*4503599627370496+0)=2^(52+q):=by
 rw [val_plain e 0 he (by omega),hq,Nat.add_zero,Nat.pow_add]
theorem pow_val2 (e:Nat) (he:0<e) (q r:Nat) (hq:e-1=q) (hr:52+q=r):val Ieee.double (e*4503599627370496+0)=2^r:=by rw [pow_val e he q hq,hr]
theorem one_val:val Ieee.double 4607182418800017408=2^LP:=pow_val2 1023 (by omega) (LP-52) LP rfl rfl
theorem small_val:val Ieee.double 4368491638549381120*2^53=2^LP:=by
 have h:val Ieee.double 4368491638549381120=2^(LP-53):=pow_val2 970 (by omega) (LP-105) (LP-53) rfl rfl;rw [h,←Nat.pow_add];congr 1
theorem mul_one (d:Nat) (hd:d<9218868437227405312) (h0:0<d) (t:TypeId) (u:World):(binOp .mul t (.float .f64 4607182418800017408) (.float .f64 d)).run Tryz.prog u=.ok (.float .f64 d) u:=by
 refine run_float_arith u .mul t .f64 _ _ _ ?_;show Ieee.double.mul 4607182418800017408 d=some d;have hw:∀ r:Nat,Ieee.double.word false r=r:=fun r=>by simp [Ieee.Format.word]
 have hp:0<val Ieee.double d:=by have:=val_lt Ieee.double (r:=0) (s:=d) h0;omega
 have:=mul_exact Ieee.double dHs false false 4607182418800017408 d d LP dLP (by rw [dInf];omega) (by rw [dInf];omega) (by rw [dInf];omega) (by rw [one_val,Nat.mul_comm]) (by rw [one_val];have:=Nat.two_pow_pos LP;omega) (by omega);rw [hw,hw] at this;exact this
theorem mul_small (d c:Nat) (hd:d<9218868437227405312) (hc:c<4503599627370496) (h0:0<c) (hv:val Ieee.double d=c*2^53) (t:TypeId) (u:World):(binOp .mul t (.float .f64 4368491638549381120) (.float .f64 d)).run Tryz.prog u=.ok (.float .f64 c) u:=by
 refine run_float_arith u .mul t .f64 _ _ _ ?_;show Ieee.double.mul 4368491638549381120 d=some c;have hw:∀ r:Nat,Ieee.double.word false r=r:=fun r=>by simp [Ieee.Format.word]
 have hs:=small_val;have hp:val Ieee.double 4368491638549381120≠0:=by intro h;rw [h] at hs;have:=Nat.two_pow_pos LP;omega
 have:=mul_exact Ieee.double dHs false false 4368491638549381120 d c LP dLP (by rw [dInf];omega) (by rw [dInf];omega) (by rw [dInf];omega) (by rw [hv,val_tiny c hc,←hs];grind) hp (by rw [hv];have:=Nat.two_pow_pos 53;have:=Nat.mul_pos h0 this;omega);rw [hw,hw,Bool.xor_false,hw] at this;exact this
theorem nan_no (e g:Nat) (he:e<2047) (hg:g<4503599627370496) (u:World):Calls Tryz.prog 46 #[.float .f64 (bw false e g)] u fun r w'=>r=.returned (.bool false)∧w'=u:=by
 have:=isNaN_any false e g (by omega) hg u;rw [odd_lt e g he] at this;exact this
theorem ldexp_any (c e g:Nat) (x:Int) (w:World) (hw:Whole c e g) (h0:0<c) (h1:c≤9007199254740992) (hx0:-1074≤x) (hx1:x≤971) (hn:x=-1074∨4503599627370496≤c) :
 Calls Tryz.prog 23 #[.float .f64 (bw false e g),.int .i64 x] w fun r w'=>r=.returned (.float .f64 ((x+1074).toNat*4503599627370496+c))∧w'=w:=by
 have he0:=hw.e0;have he1:=hw.e1;have hg:=hw.g0;have hb:bw false e g=e*4503599627370496+g:=by unfold bw;simp
 have z0:(FloatKind.f64.format.order (bw false e g) 0==some .eq)=false:=by rw [eq_zero false e g (by omega) hg];simp;omega
 have HI:Hid (∀ u,Calls Tryz.prog 45 #[.float .f64 (bw false e g),.int .i64 0] u fun r w'=>r=.returned (.bool false)∧w'=u):=fun u=>isInf0 e g (by omega) hg u;have HN:Hid (∀ u,Calls Tryz.prog 46 #[.float .f64 (bw false e g)] u fun r w'=>r=.returned (.bool false)∧w'=u):=fun u=>nan_no e g (by omega) hg u;have HZ:Hid (∀ u,Calls Tryz.prog 47 #[.float .f64 (bw false e g)] u fun r w'=>r=.returned (.tuple #[.float .f64 (bw false e g),.int .i64 0])∧w'=u):=fun u=>normalize_any e g he0 (by omega) hg u;have e1:=bw_exp false e g (by omega) hg;have mc:=mask_clear e g (by omega) hg;have hbl:bl c≤54:=by have:=hw.ex;omega
 have hblp:=bl_pos c (by omega);have hex:=hw.ex
 by_cases hc:4503599627370496≤c
 · have hb53:53≤bl c:=by
    have:=(bl_gt c 52).2 (by rw [←two52];exact hc);omega
   by_cases hb54:bl c=54
   · have hg0:=hw.top hb54
     have hc2:c=9007199254740992:=by
      have:=(bl_gt c 53).1 (by omega);have e53:(2:Nat)^53=9007199254740992:=rfl;omega
     subst hg0
     by_cases hinf:x=971
     · subst hinf;have:=ldexp_inf (bw false e 0) e 0 971 1024 w (by rw [hb];omega) (by omega) (by omega) he0 (by omega) (by omega) z0 HI HN HZ e1 mc (by omega) (by omega) (by rw [lt_zero false e 0 (by omega) (by omega) (odd_zero e) (by simp;omega)]);rw [hc2];exact this
     · obtain ⟨E,hE⟩:∃ E:Nat,(E:Int)=x+((e:Int)-1023)+1023:=⟨(x+((e:Int)-1023)+1023).toNat,by omega⟩;have hd:bw false E 0=(x+1074).toNat*4503599627370496+c:=by unfold bw;simp;omega
       have:=ldexp_norm (bw false e 0) e 0 (bw false E 0) x (x+((e:Int)-1023)) ((E:Int)*4503599627370496) w (by rw [hb];omega) (by omega) (by omega) he0 (by omega) (by omega) z0 HI HN HZ e1 mc rfl (by omega) (by omega) (by omega) (by omega) (by omega) (join_exp E 0 (by omega) (by omega)) (mul_one _ (by rw [hd];omega) (by rw [hd];omega) _);rw [hd] at this;exact this
   · have hb3:bl c=53:=by omega
     have hgx:=hw.gx 0 (by omega);rw [Nat.pow_zero,Nat.mul_one] at hgx;obtain ⟨E,hE⟩:∃ E:Nat,(E:Int)=x+((e:Int)-1023)+1023:=⟨(x+((e:Int)-1023)+1023).toNat,by omega⟩;have hd:bw false E g=(x+1074).toNat*4503599627370496+c:=by unfold bw;simp;omega
     have:=ldexp_norm (bw false e g) e g (bw false E g) x (x+((e:Int)-1023)) ((E:Int)*4503599627370496) w (by rw [hb];omega) (by omega) (by omega) he0 (by omega) hg z0 HI HN HZ e1 mc rfl (by omega) (by omega) (by omega) (by omega) (by omega) (join_exp E g (by omega) hg) (mul_one _ (by rw [hd];omega) (by rw [hd];omega) _);rw [hd] at this;exact this
 · obtain rfl:x=-1074:=by omega
   have hb52:bl c≤52:=by
    by_cases h:52<bl c
    · have:=(bl_gt c 52).1 h;rw [←two52] at this;omega
    · omega
   obtain ⟨k,hk⟩:∃ k,bl c+k=53:=⟨53-bl c,by omega⟩;have hgx:=hw.gx k hk;obtain ⟨E,hE⟩:∃ E:Nat,E=bl c+1:=⟨_,rfl⟩;have hd:bw false E g=E*4503599627370496+g:=by unfold bw;simp
   have hv:val Ieee.double (bw false E g)=c*2^53:=by
    rw [hd,val_plain E g (by omega) hg,hgx,Nat.mul_assoc,←Nat.pow_add,show k+(E-1)=53 by omega]
   have:=ldexp_sub (bw false e g) e g (bw false E g) c (-1074) (-1074+((e:Int)-1023)) (-1074+((e:Int)-1023)+53) ((E:Int)*4503599627370496) w (by rw [hb];omega) (by omega) (by omega) he0 (by omega) hg z0 HI HN HZ e1 mc rfl (by omega) (by omega) rfl (by omega) (by omega) (by omega) (by omega) (by omega) (join_exp E g (by omega) hg) (mul_small _ c (by rw [hd];omega) (by omega) h0 hv _);simpa using this
theorem Ldexp_any (c e g:Nat) (x:Int) (w:World) (hw:Whole c e g) (h0:0<c) (h1:c≤9007199254740992) (hx0:-1074≤x) (hx1:x≤971) (hn:x=-1074∨4503599627370496≤c) :
 Calls Tryz.prog 10 #[.float .f64 (bw false e g),.int .i64 x] w fun r w'=>r=.returned (.float .f64 ((x+1074).toNat*4503599627370496+c))∧w'=w:=by
 have H:=hid (ldexp_any c e g x w hw h0 h1 hx0 hx1 hn);generalize bw false e g=b at *;generalize (x+1074).toNat*4503599627370496+c=d at *;clear hn hw;go_enter Tryz.func10,Tryz.ntmps10;go_wp2_with fail;refine H.out.mono ?_;rintro r w1 ⟨rfl,rfl⟩;go_wp2;go_ret;exact ⟨rfl,rfl⟩
theorem ldexp_nought (x:Int) (w:World):Calls Tryz.prog 23 #[.float .f64 0,.int .i64 x] w fun r w'=>r=.returned (.float .f64 0)∧w'=w:=by
 have z0:(FloatKind.f64.format.order 0 0==some .eq)=true:=eq_zero false 0 0 (by omega) (by omega);go_enter Tryz.func23,Tryz.ntmps23;go_wp2;go_ret;exact ⟨rfl,rfl⟩
theorem Ldexp_nought (x:Int) (w:World):Calls Tryz.prog 10 #[.float .f64 0,.int .i64 x] w fun r w'=>r=.returned (.float .f64 0)∧w'=w:=by
 have H:=hid (ldexp_nought x w);go_enter Tryz.func10,Tryz.ntmps10;go_wp2_with fail;refine H.out.mono ?_;rintro r w1 ⟨rfl,rfl⟩;go_wp2;go_ret;exact ⟨rfl,rfl⟩
end B
end Go.Proofs.YtepkabljmpbmaaaGreatDoor
