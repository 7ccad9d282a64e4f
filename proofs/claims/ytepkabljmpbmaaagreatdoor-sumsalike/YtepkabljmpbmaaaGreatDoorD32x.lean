import Derived.Test.YtepkabljmpbmaaaGreatDoorD21x
import Derived.Deep.Cut
import Derived.Deep.RegionHeld3
import Derived.Deep.RegionWith
import Derived.Deep.CutRange
import Derived.Test.YtepkabljmpbmaaaGreatDoorW33x
import Derived.Test.YtepkabljmpbmaaaGreatDoorD16x
import Derived.BigQuiet
set_option linter.unusedVariables false
set_option linter.unusedSimpArgs false
set_option maxHeartbeats 16000000
set_option maxRecDepth 20000
namespace Go.Proofs.YtepkabljmpbmaaaGreatDoor
section
open Go.RowKit
theorem radd_res (W:World) (g:Nat) (n:Bool) (v:Value) (e k:Int) (tmps:Array Value) (ht:tmps[4]?.getD undef=.pointer (some ⟨g,0,none⟩)) (hk:tmps[5]?.getD undef=.int .i64 k) (D:Dk W g n v e) :
 (results Tryz.f96 tmps).run Tryz.prog W=.ok (.tuple #[.agg #[.bool n,v,.int .i64 e],.int .i64 k]) W:=by
 obtain ⟨x0,x1,x2,xf0,xf1,xf2⟩:=D.facts;simp [results,Tryz.results96,ht,hk,go_sem,x0,x1,x2]
theorem radd_ff {w:World}{a b:Option Addr}{l c k d:Nat}(n m:Bool) (e f:Int) (n1 m1:Bool) (X Y:Nat) (e1 f1:Int) (lX:(ws X).length≤8192) (lY:(ws Y).length≤8192)
 (HF1:Hid (∀ u,Below w.heap.size w u→Calls Tryz.prog 89 #[.agg #[.bool n,.slice a l c,.int .i64 e]] u fun r w'=>(∃ v,r=.returned (.tuple #[.agg #[.bool n1,v,.int .i64 e1],.bool false])∧Nt u.heap.size w' v X)∧Below u.heap.size u w'))
 (HF2:Hid (∀ u,Below w.heap.size w u→Calls Tryz.prog 89 #[.agg #[.bool m,.slice b k d,.int .i64 f]] u fun r w'=>(∃ v,r=.returned (.tuple #[.agg #[.bool m1,v,.int .i64 f1],.bool false])∧Nt u.heap.size w' v Y)∧Below u.heap.size u w')):Calls Tryz.prog 96 #[.agg #[.bool n,.slice a l c,.int .i64 e],.agg #[.bool m,.slice b k d,.int .i64 f]] w fun r w'=>r=.returned (.tuple #[.agg #[.bool false,.slice none 0 0,.int .i64 0],.int .i64 2])∧Below w.heap.size w w':=by
 obtain ⟨W1,hW1⟩:∃ W,W=((w.alloc (.cells #[.bool n,.slice a l c,.int .i64 e] 70)).alloc (.cells #[.bool m,.slice b k d,.int .i64 f] 70)).alloc (.cells #[.bool false,.slice none 0 0,.int .i64 0] 70):=⟨_,rfl⟩;obtain ⟨hB,hz1,DA,DB,DR⟩:=add_begin w n m (.slice a l c) (.slice b k d) e f W1 hW1;have H1:=hid (HF1.out W1 hB);have SB:=(qsd (ai hB (ai hz1 (ai DA (ai DB DR)))));clear hB hz1 DA DB DR HF1;go_enter Tryz.func96,Tryz.ntmps96;go_wp2_with fail;rw [←hW1];clear hW1;refine H1.out.mono ?_;rintro r u1 ⟨⟨v,rfl,hN⟩,hb⟩;obtain ⟨a1,c1,rfl,_⟩:=hN.arg (by omega);obtain ⟨hB,hz1,DA,DB,DR⟩:=SB.out;obtain ⟨U1,hU1⟩:∃ U,U=u1.alloc (.cells #[.bool n1,.slice a1 (ws X).length c1,.int .i64 e1] 70):=⟨_,rfl⟩;have hA:Below u1.heap.size u1 U1:=by rw [hU1];exact below_alloc _ _
 have hs1:w.heap.size+3≤u1.heap.size:=by have:=hb.size;omega
 have hs2:u1.heap.size<U1.heap.size:=by rw [hU1];simp
 have FB:=(DB.below hb).below hA;have FR:=(DR.below hb).below hA;have DX:Dk U1 u1.heap.size n1 (.slice a1 (ws X).length c1) e1:=by rw [hU1];exact Dk.new _ _ _ _
 have NX:Nt (w.heap.size+3) U1 (.slice a1 (ws X).length c1) X:=(hN.mono (by omega)).below hA;have BU:Below w.heap.size w U1:=(hB.trans (hb.mono (by omega))).trans (hA.mono (by omega));have H2:=hid (HF2.out U1 BU);obtain ⟨y0,y1,y2,yf0,yf1,yf2⟩:=FB.facts;have S1:=(qsd (ai BU (ai FR (ai DX NX))));clear hN hb H1 hB hz1 hA DA DB DR FB FR DX NX BU SB HF2
 go_upto_region 2 with fail
 rw [←hU1];clear hU1;go_wp2_with fail;clear y0 y1 y2 yf0 yf1 yf2;refine H2.out.mono ?_;rintro r u2 ⟨⟨v,rfl,hM⟩,hb⟩;obtain ⟨a2,c2,rfl,_⟩:=hM.arg (by omega);obtain ⟨BU,FR,DX,NX⟩:=S1.out;obtain ⟨U2,hU2⟩:∃ U,U=u2.alloc (.cells #[.bool m1,.slice a2 (ws Y).length c2,.int .i64 f1] 70):=⟨_,rfl⟩;have hA:Below u2.heap.size u2 U2:=by rw [hU2];exact below_alloc _ _
 have hs3:U1.heap.size≤u2.heap.size:=hb.size;have hs4:u2.heap.size<U2.heap.size:=by rw [hU2];simp
 have GR:=(FR.below hb).below hA;have GX:=(DX.below hb).below hA;have GY:Dk U2 u2.heap.size m1 (.slice a2 (ws Y).length c2) f1:=by rw [hU2];exact Dk.new _ _ _ _
 have MX:=(NX.below hb).below hA;have MY:Nt (w.heap.size+3) U2 (.slice a2 (ws Y).length c2) Y:=(hM.mono (by omega)).below hA;have BV:Below w.heap.size w U2:=(BU.trans (hb.mono (by omega))).trans (hA.mono (by omega));have S2:=(qsd (ai BV (ai GR (ai GX (ai GY (ai MX MY))))));clear hM hb H2 hA FR DX NX BU GR GX GY MX MY BV S1
 go_upto_region 3 with fail
 rw [←hU2];clear hU2;obtain ⟨r0,r1,r2,rf0,rf1,rf2⟩:=S2.out.2.1.facts;obtain ⟨x0,x1,x2,xf0,xf1,xf2⟩:=S2.out.2.2.1.facts;obtain ⟨y0,y1,y2,yf0,yf1,yf2⟩:=S2.out.2.2.2.1.facts;go_wp2;refine bodyPost_ret (radd_res _ (w.heap.size+1+1) false (.slice none 0 0) 0 2 _ rfl rfl (S2.out.2.1.set _ _ _)) rfl ⟨rfl,?_⟩;refine Fin.bel (m:=w.heap.size+3) (v:=.slice a1 (ws X).length c1) (X:=X) ?_;have FE:Fin w.heap.size (w.heap.size+3) w U2 (.slice a1 (ws X).length c1) X:=⟨S2.out.2.2.2.2.1,S2.out.1,by omega⟩
 repeat (with_reducible first | exact FE | refine Fin.drew ?_ | refine Fin.alloc ?_ _ | refine Fin.set ?_ _ _ _ (by omega) (by omega))
theorem radd_ft {w:World}{a b:Option Addr}{l c k d:Nat}(n m:Bool) (e f:Int) (n1 m1:Bool) (X Y:Nat) (e1 f1:Int) (lX:(ws X).length≤8192) (lY:(ws Y).length≤8192)
 (HF1:Hid (∀ u,Below w.heap.size w u→Calls Tryz.prog 89 #[.agg #[.bool n,.slice a l c,.int .i64 e]] u fun r w'=>(∃ v,r=.returned (.tuple #[.agg #[.bool n1,v,.int .i64 e1],.bool false])∧Nt u.heap.size w' v X)∧Below u.heap.size u w'))
 (HF2:Hid (∀ u,Below w.heap.size w u→Calls Tryz.prog 89 #[.agg #[.bool m,.slice b k d,.int .i64 f]] u fun r w'=>(∃ v,r=.returned (.tuple #[.agg #[.bool m1,v,.int .i64 f1],.bool true])∧Nt u.heap.size w' v Y)∧Below u.heap.size u w')):Calls Tryz.prog 96 #[.agg #[.bool n,.slice a l c,.int .i64 e],.agg #[.bool m,.slice b k d,.int .i64 f]] w fun r w'=>r=.returned (.tuple #[.agg #[.bool false,.slice none 0 0,.int .i64 0],.int .i64 2])∧Below w.heap.size w w':=by
 obtain ⟨W1,hW1⟩:∃ W,W=((w.alloc (.cells #[.bool n,.slice a l c,.int .i64 e] 70)).alloc (.cells #[.bool m,.slice b k d,.int .i64 f] 70)).alloc (.cells #[.bool false,.slice none 0 0,.int .i64 0] 70):=⟨_,rfl⟩;obtain ⟨hB,hz1,DA,DB,DR⟩:=add_begin w n m (.slice a l c) (.slice b k d) e f W1 hW1;have H1:=hid (HF1.out W1 hB);have SB:=(qsd (ai hB (ai hz1 (ai DA (ai DB DR)))));clear hB hz1 DA DB DR HF1;go_enter Tryz.func96,Tryz.ntmps96;go_wp2_with fail;rw [←hW1];clear hW1;refine H1.out.mono ?_;rintro r u1 ⟨⟨v,rfl,hN⟩,hb⟩;obtain ⟨a1,c1,rfl,_⟩:=hN.arg (by omega);obtain ⟨hB,hz1,DA,DB,DR⟩:=SB.out;obtain ⟨U1,hU1⟩:∃ U,U=u1.alloc (.cells #[.bool n1,.slice a1 (ws X).length c1,.int .i64 e1] 70):=⟨_,rfl⟩;have hA:Below u1.heap.size u1 U1:=by rw [hU1];exact below_alloc _ _
 have hs1:w.heap.size+3≤u1.heap.size:=by have:=hb.size;omega
 have hs2:u1.heap.size<U1.heap.size:=by rw [hU1];simp
 have FB:=(DB.below hb).below hA;have FR:=(DR.below hb).below hA;have DX:Dk U1 u1.heap.size n1 (.slice a1 (ws X).length c1) e1:=by rw [hU1];exact Dk.new _ _ _ _
 have NX:Nt (w.heap.size+3) U1 (.slice a1 (ws X).length c1) X:=(hN.mono (by omega)).below hA;have BU:Below w.heap.size w U1:=(hB.trans (hb.mono (by omega))).trans (hA.mono (by omega));have H2:=hid (HF2.out U1 BU);obtain ⟨y0,y1,y2,yf0,yf1,yf2⟩:=FB.facts;have S1:=(qsd (ai BU (ai FR (ai DX NX))));clear hN hb H1 hB hz1 hA DA DB DR FB FR DX NX BU SB HF2
 go_upto_region 2 with fail
 rw [←hU1];clear hU1;go_wp2_with fail;clear y0 y1 y2 yf0 yf1 yf2;refine H2.out.mono ?_;rintro r u2 ⟨⟨v,rfl,hM⟩,hb⟩;obtain ⟨a2,c2,rfl,_⟩:=hM.arg (by omega);obtain ⟨BU,FR,DX,NX⟩:=S1.out;obtain ⟨U2,hU2⟩:∃ U,U=u2.alloc (.cells #[.bool m1,.slice a2 (ws Y).length c2,.int .i64 f1] 70):=⟨_,rfl⟩;have hA:Below u2.heap.size u2 U2:=by rw [hU2];exact below_alloc _ _
 have hs3:U1.heap.size≤u2.heap.size:=hb.size;have hs4:u2.heap.size<U2.heap.size:=by rw [hU2];simp
 have GR:=(FR.below hb).below hA;have GX:=(DX.below hb).below hA;have GY:Dk U2 u2.heap.size m1 (.slice a2 (ws Y).length c2) f1:=by rw [hU2];exact Dk.new _ _ _ _
 have MX:=(NX.below hb).below hA;have MY:Nt (w.heap.size+3) U2 (.slice a2 (ws Y).length c2) Y:=(hM.mono (by omega)).below hA;have BV:Below w.heap.size w U2:=(BU.trans (hb.mono (by omega))).trans (hA.mono (by omega));have S2:=(qsd (ai BV (ai GR (ai GX (ai GY (ai MX MY))))));clear hM hb H2 hA FR DX NX BU GR GX GY MX MY BV S1
 go_upto_region 3 with fail
 rw [←hU2];clear hU2;obtain ⟨r0,r1,r2,rf0,rf1,rf2⟩:=S2.out.2.1.facts;obtain ⟨x0,x1,x2,xf0,xf1,xf2⟩:=S2.out.2.2.1.facts;obtain ⟨y0,y1,y2,yf0,yf1,yf2⟩:=S2.out.2.2.2.1.facts;go_wp2;refine bodyPost_ret (radd_res _ (w.heap.size+1+1) false (.slice none 0 0) 0 2 _ rfl rfl (S2.out.2.1.set _ _ _)) rfl ⟨rfl,?_⟩;refine Fin.bel (m:=w.heap.size+3) (v:=.slice a1 (ws X).length c1) (X:=X) ?_;have FE:Fin w.heap.size (w.heap.size+3) w U2 (.slice a1 (ws X).length c1) X:=⟨S2.out.2.2.2.2.1,S2.out.1,by omega⟩
 repeat (with_reducible first | exact FE | refine Fin.drew ?_ | refine Fin.alloc ?_ _ | refine Fin.set ?_ _ _ _ (by omega) (by omega))
theorem radd_tf {w:World}{a b:Option Addr}{l c k d:Nat}(n m:Bool) (e f:Int) (n1 m1:Bool) (X Y:Nat) (e1 f1:Int) (lX:(ws X).length≤8192) (lY:(ws Y).length≤8192)
 (HF1:Hid (∀ u,Below w.heap.size w u→Calls Tryz.prog 89 #[.agg #[.bool n,.slice a l c,.int .i64 e]] u fun r w'=>(∃ v,r=.returned (.tuple #[.agg #[.bool n1,v,.int .i64 e1],.bool true])∧Nt u.heap.size w' v X)∧Below u.heap.size u w'))
 (HF2:Hid (∀ u,Below w.heap.size w u→Calls Tryz.prog 89 #[.agg #[.bool m,.slice b k d,.int .i64 f]] u fun r w'=>(∃ v,r=.returned (.tuple #[.agg #[.bool m1,v,.int .i64 f1],.bool false])∧Nt u.heap.size w' v Y)∧Below u.heap.size u w')):Calls Tryz.prog 96 #[.agg #[.bool n,.slice a l c,.int .i64 e],.agg #[.bool m,.slice b k d,.int .i64 f]] w fun r w'=>r=.returned (.tuple #[.agg #[.bool false,.slice none 0 0,.int .i64 0],.int .i64 2])∧Below w.heap.size w w':=by
 obtain ⟨W1,hW1⟩:∃ W,W=((w.alloc (.cells #[.bool n,.slice a l c,.int .i64 e] 70)).alloc (.cells #[.bool m,.slice b k d,.int .i64 f] 70)).alloc (.cells #[.bool false,.slice none 0 0,.int .i64 0] 70):=⟨_,rfl⟩;obtain ⟨hB,hz1,DA,DB,DR⟩:=add_begin w n m (.slice a l c) (.slice b k d) e f W1 hW1;have H1:=hid (HF1.out W1 hB);have SB:=(qsd (ai hB (ai hz1 (ai DA (ai DB DR)))));clear hB hz1 DA DB DR HF1;go_enter Tryz.func96,Tryz.ntmps96;go_wp2_with fail;rw [←hW1];clear hW1;refine H1.out.mono ?_;rintro r u1 ⟨⟨v,rfl,hN⟩,hb⟩;obtain ⟨a1,c1,rfl,_⟩:=hN.arg (by omega);obtain ⟨hB,hz1,DA,DB,DR⟩:=SB.out;obtain ⟨U1,hU1⟩:∃ U,U=u1.alloc (.cells #[.bool n1,.slice a1 (ws X).length c1,.int .i64 e1] 70):=⟨_,rfl⟩;have hA:Below u1.heap.size u1 U1:=by rw [hU1];exact below_alloc _ _
 have hs1:w.heap.size+3≤u1.heap.size:=by have:=hb.size;omega
 have hs2:u1.heap.size<U1.heap.size:=by rw [hU1];simp
 have FB:=(DB.below hb).below hA;have FR:=(DR.below hb).below hA;have DX:Dk U1 u1.heap.size n1 (.slice a1 (ws X).length c1) e1:=by rw [hU1];exact Dk.new _ _ _ _
 have NX:Nt (w.heap.size+3) U1 (.slice a1 (ws X).length c1) X:=(hN.mono (by omega)).below hA;have BU:Below w.heap.size w U1:=(hB.trans (hb.mono (by omega))).trans (hA.mono (by omega));have H2:=hid (HF2.out U1 BU);obtain ⟨y0,y1,y2,yf0,yf1,yf2⟩:=FB.facts;have S1:=(qsd (ai BU (ai FR (ai DX NX))));clear hN hb H1 hB hz1 hA DA DB DR FB FR DX NX BU SB HF2
 go_upto_region 2 with fail
 rw [←hU1];clear hU1;go_wp2_with fail;clear y0 y1 y2 yf0 yf1 yf2;refine H2.out.mono ?_;rintro r u2 ⟨⟨v,rfl,hM⟩,hb⟩;obtain ⟨a2,c2,rfl,_⟩:=hM.arg (by omega);obtain ⟨BU,FR,DX,NX⟩:=S1.out;obtain ⟨U2,hU2⟩:∃ U,U=u2.alloc (.cells #[.bool m1,.slice a2 (ws Y).length c2,.int .i64 f1] 70):=⟨_,rfl⟩;have hA:Below u2.heap.size u2 U2:=by rw [hU2];exact below_alloc _ _
 have hs3:U1.heap.size≤u2.heap.size:=hb.size;have hs4:u2.heap.size<U2.heap.size:=by rw [hU2];simp
 have GR:=(FR.below hb).below hA;have GX:=(DX.below hb).below hA;have GY:Dk U2 u2.heap.size m1 (.slice a2 (ws Y).length c2) f1:=by rw [hU2];exact Dk.new _ _ _ _
 have MX:=(NX.below hb).below hA;have MY:Nt (w.heap.size+3) U2 (.slice a2 (ws Y).length c2) Y:=(hM.mono (by omega)).below hA;have BV:Below w.heap.size w U2:=(BU.trans (hb.mono (by omega))).trans (hA.mono (by omega));have S2:=(qsd (ai BV (ai GR (ai GX (ai GY (ai MX MY))))));clear hM hb H2 hA FR DX NX BU GR GX GY MX MY BV S1
 go_upto_region 3 with fail
 rw [←hU2];clear hU2;obtain ⟨r0,r1,r2,rf0,rf1,rf2⟩:=S2.out.2.1.facts;obtain ⟨x0,x1,x2,xf0,xf1,xf2⟩:=S2.out.2.2.1.facts;obtain ⟨y0,y1,y2,yf0,yf1,yf2⟩:=S2.out.2.2.2.1.facts;go_wp2;refine bodyPost_ret (radd_res _ (w.heap.size+1+1) false (.slice none 0 0) 0 2 _ rfl rfl (S2.out.2.1.set _ _ _)) rfl ⟨rfl,?_⟩;refine Fin.bel (m:=w.heap.size+3) (v:=.slice a1 (ws X).length c1) (X:=X) ?_;have FE:Fin w.heap.size (w.heap.size+3) w U2 (.slice a1 (ws X).length c1) X:=⟨S2.out.2.2.2.2.1,S2.out.1,by omega⟩
 repeat (with_reducible first | exact FE | refine Fin.drew ?_ | refine Fin.alloc ?_ _ | refine Fin.set ?_ _ _ _ (by omega) (by omega))
theorem radd_left {w:World}{a b:Option Addr}{l c k d:Nat}(n m:Bool) (e f:Int) (n1 m1:Bool) (X Y:Nat) (e1 f1:Int) (lX:(ws X).length≤8192) (lY:(ws Y).length≤8192) (hX:(ws X).length=0)
 (HF1:Hid (∀ u,Below w.heap.size w u→Calls Tryz.prog 89 #[.agg #[.bool n,.slice a l c,.int .i64 e]] u fun r w'=>(∃ v,r=.returned (.tuple #[.agg #[.bool n1,v,.int .i64 e1],.bool true])∧Nt u.heap.size w' v X)∧Below u.heap.size u w'))
 (HF2:Hid (∀ u,Below w.heap.size w u→Calls Tryz.prog 89 #[.agg #[.bool m,.slice b k d,.int .i64 f]] u fun r w'=>(∃ v,r=.returned (.tuple #[.agg #[.bool m1,v,.int .i64 f1],.bool true])∧Nt u.heap.size w' v Y)∧Below u.heap.size u w')):Calls Tryz.prog 96 #[.agg #[.bool n,.slice a l c,.int .i64 e],.agg #[.bool m,.slice b k d,.int .i64 f]] w fun r w'=>DAns w.heap.size w' r (some (m1,Y,f1))∧Below w.heap.size w w':=by
 have HH:=qsd hX;clear hX;obtain ⟨W1,hW1⟩:∃ W,W=((w.alloc (.cells #[.bool n,.slice a l c,.int .i64 e] 70)).alloc (.cells #[.bool m,.slice b k d,.int .i64 f] 70)).alloc (.cells #[.bool false,.slice none 0 0,.int .i64 0] 70):=⟨_,rfl⟩;obtain ⟨hB,hz1,DA,DB,DR⟩:=add_begin w n m (.slice a l c) (.slice b k d) e f W1 hW1;have H1:=hid (HF1.out W1 hB);have SB:=(qsd (ai hB (ai hz1 (ai DA (ai DB DR)))));clear hB hz1 DA DB DR HF1;go_enter Tryz.func96,Tryz.ntmps96;go_wp2_with fail;rw [←hW1];clear hW1;refine H1.out.mono ?_;rintro r u1 ⟨⟨v,rfl,hN⟩,hb⟩;obtain ⟨a1,c1,rfl,_⟩:=hN.arg (by omega);obtain ⟨hB,hz1,DA,DB,DR⟩:=SB.out;obtain ⟨U1,hU1⟩:∃ U,U=u1.alloc (.cells #[.bool n1,.slice a1 (ws X).length c1,.int .i64 e1] 70):=⟨_,rfl⟩;have hA:Below u1.heap.size u1 U1:=by rw [hU1];exact below_alloc _ _
 have hs1:w.heap.size+3≤u1.heap.size:=by have:=hb.size;omega
 have hs2:u1.heap.size<U1.heap.size:=by rw [hU1];simp
 have FB:=(DB.below hb).below hA;have FR:=(DR.below hb).below hA;have DX:Dk U1 u1.heap.size n1 (.slice a1 (ws X).length c1) e1:=by rw [hU1];exact Dk.new _ _ _ _
 have NX:Nt (w.heap.size+3) U1 (.slice a1 (ws X).length c1) X:=(hN.mono (by omega)).below hA;have BU:Below w.heap.size w U1:=(hB.trans (hb.mono (by omega))).trans (hA.mono (by omega));have H2:=hid (HF2.out U1 BU);obtain ⟨y0,y1,y2,yf0,yf1,yf2⟩:=FB.facts;have S1:=(qsd (ai BU (ai FR (ai DX NX))));clear hN hb H1 hB hz1 hA DA DB DR FB FR DX NX BU SB HF2
 go_upto_region 2 with fail
 rw [←hU1];clear hU1;go_wp2_with fail;clear y0 y1 y2 yf0 yf1 yf2;refine H2.out.mono ?_;rintro r u2 ⟨⟨v,rfl,hM⟩,hb⟩;obtain ⟨a2,c2,rfl,_⟩:=hM.arg (by omega);obtain ⟨BU,FR,DX,NX⟩:=S1.out;obtain ⟨U2,hU2⟩:∃ U,U=u2.alloc (.cells #[.bool m1,.slice a2 (ws Y).length c2,.int .i64 f1] 70):=⟨_,rfl⟩;have hA:Below u2.heap.size u2 U2:=by rw [hU2];exact below_alloc _ _
 have hs3:U1.heap.size≤u2.heap.size:=hb.size;have hs4:u2.heap.size<U2.heap.size:=by rw [hU2];simp
 have GR:=(FR.below hb).below hA;have GX:=(DX.below hb).below hA;have GY:Dk U2 u2.heap.size m1 (.slice a2 (ws Y).length c2) f1:=by rw [hU2];exact Dk.new _ _ _ _
 have MX:=(NX.below hb).below hA;have MY:Nt (w.heap.size+3) U2 (.slice a2 (ws Y).length c2) Y:=(hM.mono (by omega)).below hA;have BV:Below w.heap.size w U2:=(BU.trans (hb.mono (by omega))).trans (hA.mono (by omega));have S2:=(qsd (ai BV (ai GR (ai GX (ai GY (ai MX MY))))));clear hM hb H2 hA FR DX NX BU GR GX GY MX MY BV S1
 go_upto_region 5 with fail
 rw [←hU2];clear hU2;obtain ⟨r0,r1,r2,rf0,rf1,rf2⟩:=S2.out.2.1.facts;obtain ⟨x0,x1,x2,xf0,xf1,xf2⟩:=S2.out.2.2.1.facts;obtain ⟨y0,y1,y2,yf0,yf1,yf2⟩:=S2.out.2.2.2.1.facts;have hX:=HH.out;go_wp2;refine bodyPost_ret (radd_res _ (w.heap.size+1+1) m1 (.slice a2 (ws Y).length c2) f1 0 _ rfl rfl (S2.out.2.1.set _ _ _)) rfl ?_;refine Fin.dans (m:=w.heap.size+3) ?_ (by omega);have FE:Fin w.heap.size (w.heap.size+3) w U2 _ _:=⟨S2.out.2.2.2.2.2,S2.out.1,by omega⟩
 repeat (with_reducible first | exact FE | refine Fin.drew ?_ | refine Fin.alloc ?_ _ | refine Fin.set ?_ _ _ _ (by omega) (by omega))
 exact FE
theorem radd_right {w:World}{a b:Option Addr}{l c k d:Nat}(n m:Bool) (e f:Int) (n1 m1:Bool) (X Y:Nat) (e1 f1:Int) (lX:(ws X).length≤8192) (lY:(ws Y).length≤8192) (hX:((((ws X).length:Nat):Int)==0)=false) (hY:(ws Y).length=0)
 (HF1:Hid (∀ u,Below w.heap.size w u→Calls Tryz.prog 89 #[.agg #[.bool n,.slice a l c,.int .i64 e]] u fun r w'=>(∃ v,r=.returned (.tuple #[.agg #[.bool n1,v,.int .i64 e1],.bool true])∧Nt u.heap.size w' v X)∧Below u.heap.size u w'))
 (HF2:Hid (∀ u,Below w.heap.size w u→Calls Tryz.prog 89 #[.agg #[.bool m,.slice b k d,.int .i64 f]] u fun r w'=>(∃ v,r=.returned (.tuple #[.agg #[.bool m1,v,.int .i64 f1],.bool true])∧Nt u.heap.size w' v Y)∧Below u.heap.size u w')):Calls Tryz.prog 96 #[.agg #[.bool n,.slice a l c,.int .i64 e],.agg #[.bool m,.slice b k d,.int .i64 f]] w fun r w'=>DAns w.heap.size w' r (some (n1,X,e1))∧Below w.heap.size w w':=by
 have HH:=qsd hY;clear hY;obtain ⟨W1,hW1⟩:∃ W,W=((w.alloc (.cells #[.bool n,.slice a l c,.int .i64 e] 70)).alloc (.cells #[.bool m,.slice b k d,.int .i64 f] 70)).alloc (.cells #[.bool false,.slice none 0 0,.int .i64 0] 70):=⟨_,rfl⟩;obtain ⟨hB,hz1,DA,DB,DR⟩:=add_begin w n m (.slice a l c) (.slice b k d) e f W1 hW1;have H1:=hid (HF1.out W1 hB);have SB:=(qsd (ai hB (ai hz1 (ai DA (ai DB DR)))));clear hB hz1 DA DB DR HF1;go_enter Tryz.func96,Tryz.ntmps96;go_wp2_with fail;rw [←hW1];clear hW1;refine H1.out.mono ?_;rintro r u1 ⟨⟨v,rfl,hN⟩,hb⟩;obtain ⟨a1,c1,rfl,_⟩:=hN.arg (by omega);obtain ⟨hB,hz1,DA,DB,DR⟩:=SB.out;obtain ⟨U1,hU1⟩:∃ U,U=u1.alloc (.cells #[.bool n1,.slice a1 (ws X).length c1,.int .i64 e1] 70):=⟨_,rfl⟩;have hA:Below u1.heap.size u1 U1:=by rw [hU1];exact below_alloc _ _
 have hs1:w.heap.size+3≤u1.heap.size:=by have:=hb.size;omega
 have hs2:u1.heap.size<U1.heap.size:=by rw [hU1];simp
 have FB:=(DB.below hb).below hA;have FR:=(DR.below hb).below hA;have DX:Dk U1 u1.heap.size n1 (.slice a1 (ws X).length c1) e1:=by rw [hU1];exact Dk.new _ _ _ _
 have NX:Nt (w.heap.size+3) U1 (.slice a1 (ws X).length c1) X:=(hN.mono (by omega)).below hA;have BU:Below w.heap.size w U1:=(hB.trans (hb.mono (by omega))).trans (hA.mono (by omega));have H2:=hid (HF2.out U1 BU);obtain ⟨y0,y1,y2,yf0,yf1,yf2⟩:=FB.facts;have S1:=(qsd (ai BU (ai FR (ai DX NX))));clear hN hb H1 hB hz1 hA DA DB DR FB FR DX NX BU SB HF2
 go_upto_region 2 with fail
 rw [←hU1];clear hU1;go_wp2_with fail;clear y0 y1 y2 yf0 yf1 yf2;refine H2.out.mono ?_;rintro r u2 ⟨⟨v,rfl,hM⟩,hb⟩;obtain ⟨a2,c2,rfl,_⟩:=hM.arg (by omega);obtain ⟨BU,FR,DX,NX⟩:=S1.out;obtain ⟨U2,hU2⟩:∃ U,U=u2.alloc (.cells #[.bool m1,.slice a2 (ws Y).length c2,.int .i64 f1] 70):=⟨_,rfl⟩;have hA:Below u2.heap.size u2 U2:=by rw [hU2];exact below_alloc _ _
 have hs3:U1.heap.size≤u2.heap.size:=hb.size;have hs4:u2.heap.size<U2.heap.size:=by rw [hU2];simp
 have GR:=(FR.below hb).below hA;have GX:=(DX.below hb).below hA;have GY:Dk U2 u2.heap.size m1 (.slice a2 (ws Y).length c2) f1:=by rw [hU2];exact Dk.new _ _ _ _
 have MX:=(NX.below hb).below hA;have MY:Nt (w.heap.size+3) U2 (.slice a2 (ws Y).length c2) Y:=(hM.mono (by omega)).below hA;have BV:Below w.heap.size w U2:=(BU.trans (hb.mono (by omega))).trans (hA.mono (by omega));have S2:=(qsd (ai BV (ai GR (ai GX (ai GY (ai MX MY))))));clear hM hb H2 hA FR DX NX BU GR GX GY MX MY BV S1
 go_upto_region 5 with fail
 rw [←hU2];clear hU2;obtain ⟨r0,r1,r2,rf0,rf1,rf2⟩:=S2.out.2.1.facts;obtain ⟨x0,x1,x2,xf0,xf1,xf2⟩:=S2.out.2.2.1.facts;obtain ⟨y0,y1,y2,yf0,yf1,yf2⟩:=S2.out.2.2.2.1.facts;have hY:=HH.out;go_wp2;refine bodyPost_ret (radd_res _ (w.heap.size+1+1) n1 (.slice a1 (ws X).length c1) e1 0 _ rfl rfl (S2.out.2.1.set _ _ _)) rfl ?_;refine Fin.dans (m:=w.heap.size+3) ?_ (by omega);have FE:Fin w.heap.size (w.heap.size+3) w U2 _ _:=⟨S2.out.2.2.2.2.1,S2.out.1,by omega⟩
 repeat (with_reducible first | exact FE | refine Fin.drew ?_ | refine Fin.alloc ?_ _ | refine Fin.set ?_ _ _ _ (by omega) (by omega))
 exact FE
end
section
open Go.RowKit
theorem radd_lp {w:World}{a b:Option Addr}{l c k d:Nat}(n m:Bool) (e f:Int) (n1 m1:Bool) (X Y:Nat) (e1 f1:Int) (lX:(ws X).length≤8192) (lY:(ws Y).length≤8192) (hX:((((ws X).length:Nat):Int)==0)=false) (hY:((((ws Y).length:Nat):Int)==0)=false) (be0:-1048576≤e1) (be1:e1≤1048576) (bf0:-1048576≤f1) (bf1:f1≤1048576) (g:Int) (hg:min e1 f1=g) (bg0:-1048576≤g) (bg1:g≤1048576) (P Q:Nat) (lP:(ws P).length≤1000000) (lQ:(ws Q).length≤1000000) (h5:8192<(ws P).length)
 (HF1:Hid (∀ u,Below w.heap.size w u→Calls Tryz.prog 89 #[.agg #[.bool n,.slice a l c,.int .i64 e]] u fun r w'=>(∃ v,r=.returned (.tuple #[.agg #[.bool n1,v,.int .i64 e1],.bool true])∧Nt u.heap.size w' v X)∧Below u.heap.size u w'))
 (HF2:Hid (∀ u,Below w.heap.size w u→Calls Tryz.prog 89 #[.agg #[.bool m,.slice b k d,.int .i64 f]] u fun r w'=>(∃ v,r=.returned (.tuple #[.agg #[.bool m1,v,.int .i64 f1],.bool true])∧Nt u.heap.size w' v Y)∧Below u.heap.size u w'))
 (HP:Hid (∀ (u:World) (v:Value),Below w.heap.size w u→Nt (w.heap.size+3) u v X→Calls Tryz.prog 126 #[v,.int .i64 (e1-g)] u fun r w'=>∃ v,r=.returned v∧Nt u.heap.size w' v P∧Below u.heap.size u w'))
 (HQ:Hid (∀ (u:World) (v:Value),Below w.heap.size w u→Nt (w.heap.size+3) u v Y→Calls Tryz.prog 126 #[v,.int .i64 (f1-g)] u fun r w'=>∃ v,r=.returned v∧Nt u.heap.size w' v Q∧Below u.heap.size u w')):Calls Tryz.prog 96 #[.agg #[.bool n,.slice a l c,.int .i64 e],.agg #[.bool m,.slice b k d,.int .i64 f]] w fun r w'=>r=.returned (.tuple #[.agg #[.bool false,.slice none 0 0,.int .i64 0],.int .i64 2])∧Below w.heap.size w w':=by
 obtain ⟨W1,hW1⟩:∃ W,W=((w.alloc (.cells #[.bool n,.slice a l c,.int .i64 e] 70)).alloc (.cells #[.bool m,.slice b k d,.int .i64 f] 70)).alloc (.cells #[.bool false,.slice none 0 0,.int .i64 0] 70):=⟨_,rfl⟩;obtain ⟨hB,hz1,DA,DB,DR⟩:=add_begin w n m (.slice a l c) (.slice b k d) e f W1 hW1;have H1:=hid (HF1.out W1 hB);have SB:=(qsd (ai hB (ai hz1 (ai DA (ai DB DR)))));clear hB hz1 DA DB DR HF1;go_enter Tryz.func96,Tryz.ntmps96;go_wp2_with fail;rw [←hW1];clear hW1;refine H1.out.mono ?_;rintro r u1 ⟨⟨v,rfl,hN⟩,hb⟩;obtain ⟨a1,c1,rfl,_⟩:=hN.arg (by omega);obtain ⟨hB,hz1,DA,DB,DR⟩:=SB.out;obtain ⟨U1,hU1⟩:∃ U,U=u1.alloc (.cells #[.bool n1,.slice a1 (ws X).length c1,.int .i64 e1] 70):=⟨_,rfl⟩;have hA:Below u1.heap.size u1 U1:=by rw [hU1];exact below_alloc _ _
 have hs1:w.heap.size+3≤u1.heap.size:=by have:=hb.size;omega
 have hs2:u1.heap.size<U1.heap.size:=by rw [hU1];simp
 have FB:=(DB.below hb).below hA;have FR:=(DR.below hb).below hA;have DX:Dk U1 u1.heap.size n1 (.slice a1 (ws X).length c1) e1:=by rw [hU1];exact Dk.new _ _ _ _
 have NX:Nt (w.heap.size+3) U1 (.slice a1 (ws X).length c1) X:=(hN.mono (by omega)).below hA;have BU:Below w.heap.size w U1:=(hB.trans (hb.mono (by omega))).trans (hA.mono (by omega));have H2:=hid (HF2.out U1 BU);obtain ⟨y0,y1,y2,yf0,yf1,yf2⟩:=FB.facts;have S1:=(qsd (ai BU (ai FR (ai DX NX))));clear hN hb H1 hB hz1 hA DA DB DR FB FR DX NX BU SB HF2
 go_upto_region 2 with fail
 rw [←hU1];clear hU1;go_wp2_with fail;clear y0 y1 y2 yf0 yf1 yf2;refine H2.out.mono ?_;rintro r u2 ⟨⟨v,rfl,hM⟩,hb⟩;obtain ⟨a2,c2,rfl,_⟩:=hM.arg (by omega);obtain ⟨BU,FR,DX,NX⟩:=S1.out;obtain ⟨U2,hU2⟩:∃ U,U=u2.alloc (.cells #[.bool m1,.slice a2 (ws Y).length c2,.int .i64 f1] 70):=⟨_,rfl⟩;have hA:Below u2.heap.size u2 U2:=by rw [hU2];exact below_alloc _ _
 have hs3:U1.heap.size≤u2.heap.size:=hb.size;have hs4:u2.heap.size<U2.heap.size:=by rw [hU2];simp
 have GR:=(FR.below hb).below hA;have GX:=(DX.below hb).below hA;have GY:Dk U2 u2.heap.size m1 (.slice a2 (ws Y).length c2) f1:=by rw [hU2];exact Dk.new _ _ _ _
 have MX:=(NX.below hb).below hA;have MY:Nt (w.heap.size+3) U2 (.slice a2 (ws Y).length c2) Y:=(hM.mono (by omega)).below hA;have BV:Below w.heap.size w U2:=(BU.trans (hb.mono (by omega))).trans (hA.mono (by omega));have S2:=(qsd (ai BV (ai GR (ai GX (ai GY (ai MX MY))))));clear hM hb H2 hA FR DX NX BU GR GX GY MX MY BV S1
 go_upto_region 5 with fail
 rw [←hU2];clear hU2;obtain ⟨r0,r1,r2,rf0,rf1,rf2⟩:=S2.out.2.1.facts;obtain ⟨x0,x1,x2,xf0,xf1,xf2⟩:=S2.out.2.2.1.facts;obtain ⟨y0,y1,y2,yf0,yf1,yf2⟩:=S2.out.2.2.2.1.facts;have H3:=hid (HP.out U2 _ S2.out.1 S2.out.2.2.2.2.1);clear HP;go_wp2_with fail;clear r0 r1 r2 rf0 rf1 rf2 x0 x1 x2 xf0 xf1 xf2 y0 y1 y2 yf0 yf1 yf2;refine H3.out.mono ?_;rintro r u5 ⟨v,rfl,hP,hb⟩;obtain ⟨a5,c5,rfl,_⟩:=hP.arg (by omega);obtain ⟨BV,GR,GX,GY,MX,MY⟩:=S2.out;have hs5:U2.heap.size≤u5.heap.size:=hb.size;have BV5:Below w.heap.size w u5:=BV.trans (hb.mono (by omega));have H4:=hid (HQ.out u5 _ BV5 (MY.below hb));have S5:=(qsd (ai BV5 (ai (GR.below hb) (ai (GX.below hb) (ai (GY.below hb) (ai (MX.below hb) (hP.mono (lo':=w.heap.size+3) (by omega))))))));clear BV GR GX GY MX MY BV5 hP hb H3 S2 HQ;obtain ⟨r0,r1,r2,rf0,rf1,rf2⟩:=S5.out.2.1.facts;obtain ⟨x0,x1,x2,xf0,xf1,xf2⟩:=S5.out.2.2.1.facts;obtain ⟨y0,y1,y2,yf0,yf1,yf2⟩:=S5.out.2.2.2.1.facts;go_wp2_with fail;clear r0 r1 r2 rf0 rf1 rf2 x0 x1 x2 xf0 xf1 xf2 y0 y1 y2 yf0 yf1 yf2;refine H4.out.mono ?_;rintro r u6 ⟨v,rfl,hQ,hb⟩;obtain ⟨a6,c6,rfl,_⟩:=hQ.arg (by omega);obtain ⟨BV,GR,GX,GY,MX,MP⟩:=S5.out;have hs6:u5.heap.size≤u6.heap.size:=hb.size;have S2:=(qsd (ai (BV.trans (hb.mono (by omega))) (ai (GR.below hb) (ai (GX.below hb) (ai (GY.below hb) (ai (MP.below hb) (hQ.mono (lo':=w.heap.size+3) (by omega))))))));clear BV GR GX GY MX MP hQ hb H4 S5;obtain ⟨r0,r1,r2,rf0,rf1,rf2⟩:=S2.out.2.1.facts;obtain ⟨x0,x1,x2,xf0,xf1,xf2⟩:=S2.out.2.2.1.facts;obtain ⟨y0,y1,y2,yf0,yf1,yf2⟩:=S2.out.2.2.2.1.facts;go_wp2;refine bodyPost_ret (radd_res _ (w.heap.size+1+1) false (.slice none 0 0) 0 2 _ rfl rfl (S2.out.2.1.set _ _ _)) rfl ⟨rfl,?_⟩;refine Fin.bel (m:=w.heap.size+3) (v:=.slice a5 (ws P).length c5) (X:=P) ?_;have FE:Fin w.heap.size (w.heap.size+3) w u6 (.slice a5 (ws P).length c5) P:=⟨S2.out.2.2.2.2.1,S2.out.1,by omega⟩
 repeat (with_reducible first | exact FE | refine Fin.drew ?_ | refine Fin.alloc ?_ _ | refine Fin.set ?_ _ _ _ (by omega) (by omega))
theorem radd_lq {w:World}{a b:Option Addr}{l c k d:Nat}(n m:Bool) (e f:Int) (n1 m1:Bool) (X Y:Nat) (e1 f1:Int) (lX:(ws X).length≤8192) (lY:(ws Y).length≤8192) (hX:((((ws X).length:Nat):Int)==0)=false) (hY:((((ws Y).length:Nat):Int)==0)=false) (be0:-1048576≤e1) (be1:e1≤1048576) (bf0:-1048576≤f1) (bf1:f1≤1048576) (g:Int) (hg:min e1 f1=g) (bg0:-1048576≤g) (bg1:g≤1048576) (P Q:Nat) (lP:(ws P).length≤1000000) (lQ:(ws Q).length≤1000000) (h5:(ws P).length≤8192) (h6:8192<(ws Q).length)
 (HF1:Hid (∀ u,Below w.heap.size w u→Calls Tryz.prog 89 #[.agg #[.bool n,.slice a l c,.int .i64 e]] u fun r w'=>(∃ v,r=.returned (.tuple #[.agg #[.bool n1,v,.int .i64 e1],.bool true])∧Nt u.heap.size w' v X)∧Below u.heap.size u w'))
 (HF2:Hid (∀ u,Below w.heap.size w u→Calls Tryz.prog 89 #[.agg #[.bool m,.slice b k d,.int .i64 f]] u fun r w'=>(∃ v,r=.returned (.tuple #[.agg #[.bool m1,v,.int .i64 f1],.bool true])∧Nt u.heap.size w' v Y)∧Below u.heap.size u w'))
 (HP:Hid (∀ (u:World) (v:Value),Below w.heap.size w u→Nt (w.heap.size+3) u v X→Calls Tryz.prog 126 #[v,.int .i64 (e1-g)] u fun r w'=>∃ v,r=.returned v∧Nt u.heap.size w' v P∧Below u.heap.size u w'))
 (HQ:Hid (∀ (u:World) (v:Value),Below w.heap.size w u→Nt (w.heap.size+3) u v Y→Calls Tryz.prog 126 #[v,.int .i64 (f1-g)] u fun r w'=>∃ v,r=.returned v∧Nt u.heap.size w' v Q∧Below u.heap.size u w')):Calls Tryz.prog 96 #[.agg #[.bool n,.slice a l c,.int .i64 e],.agg #[.bool m,.slice b k d,.int .i64 f]] w fun r w'=>r=.returned (.tuple #[.agg #[.bool false,.slice none 0 0,.int .i64 0],.int .i64 2])∧Below w.heap.size w w':=by
 obtain ⟨W1,hW1⟩:∃ W,W=((w.alloc (.cells #[.bool n,.slice a l c,.int .i64 e] 70)).alloc (.cells #[.bool m,.slice b k d,.int .i64 f] 70)).alloc (.cells #[.bool false,.slice none 0 0,.int .i64 0] 70):=⟨_,rfl⟩;obtain ⟨hB,hz1,DA,DB,DR⟩:=add_begin w n m (.slice a l c) (.slice b k d) e f W1 hW1;have H1:=hid (HF1.out W1 hB);have SB:=(qsd (ai hB (ai hz1 (ai DA (ai DB DR)))));clear hB hz1 DA DB DR HF1;go_enter Tryz.func96,Tryz.ntmps96;go_wp2_with fail;rw [←hW1];clear hW1;refine H1.out.mono ?_;rintro r u1 ⟨⟨v,rfl,hN⟩,hb⟩;obtain ⟨a1,c1,rfl,_⟩:=hN.arg (by omega);obtain ⟨hB,hz1,DA,DB,DR⟩:=SB.out;obtain ⟨U1,hU1⟩:∃ U,U=u1.alloc (.cells #[.bool n1,.slice a1 (ws X).length c1,.int .i64 e1] 70):=⟨_,rfl⟩;have hA:Below u1.heap.size u1 U1:=by rw [hU1];exact below_alloc _ _
 have hs1:w.heap.size+3≤u1.heap.size:=by have:=hb.size;omega
 have hs2:u1.heap.size<U1.heap.size:=by rw [hU1];simp
 have FB:=(DB.below hb).below hA;have FR:=(DR.below hb).below hA;have DX:Dk U1 u1.heap.size n1 (.slice a1 (ws X).length c1) e1:=by rw [hU1];exact Dk.new _ _ _ _
 have NX:Nt (w.heap.size+3) U1 (.slice a1 (ws X).length c1) X:=(hN.mono (by omega)).below hA;have BU:Below w.heap.size w U1:=(hB.trans (hb.mono (by omega))).trans (hA.mono (by omega));have H2:=hid (HF2.out U1 BU);obtain ⟨y0,y1,y2,yf0,yf1,yf2⟩:=FB.facts;have S1:=(qsd (ai BU (ai FR (ai DX NX))));clear hN hb H1 hB hz1 hA DA DB DR FB FR DX NX BU SB HF2
 go_upto_region 2 with fail
 rw [←hU1];clear hU1;go_wp2_with fail;clear y0 y1 y2 yf0 yf1 yf2;refine H2.out.mono ?_;rintro r u2 ⟨⟨v,rfl,hM⟩,hb⟩;obtain ⟨a2,c2,rfl,_⟩:=hM.arg (by omega);obtain ⟨BU,FR,DX,NX⟩:=S1.out;obtain ⟨U2,hU2⟩:∃ U,U=u2.alloc (.cells #[.bool m1,.slice a2 (ws Y).length c2,.int .i64 f1] 70):=⟨_,rfl⟩;have hA:Below u2.heap.size u2 U2:=by rw [hU2];exact below_alloc _ _
 have hs3:U1.heap.size≤u2.heap.size:=hb.size;have hs4:u2.heap.size<U2.heap.size:=by rw [hU2];simp
 have GR:=(FR.below hb).below hA;have GX:=(DX.below hb).below hA;have GY:Dk U2 u2.heap.size m1 (.slice a2 (ws Y).length c2) f1:=by rw [hU2];exact Dk.new _ _ _ _
 have MX:=(NX.below hb).below hA;have MY:Nt (w.heap.size+3) U2 (.slice a2 (ws Y).length c2) Y:=(hM.mono (by omega)).below hA;have BV:Below w.heap.size w U2:=(BU.trans (hb.mono (by omega))).trans (hA.mono (by omega));have S2:=(qsd (ai BV (ai GR (ai GX (ai GY (ai MX MY))))));clear hM hb H2 hA FR DX NX BU GR GX GY MX MY BV S1
 go_upto_region 5 with fail
 rw [←hU2];clear hU2;obtain ⟨r0,r1,r2,rf0,rf1,rf2⟩:=S2.out.2.1.facts;obtain ⟨x0,x1,x2,xf0,xf1,xf2⟩:=S2.out.2.2.1.facts;obtain ⟨y0,y1,y2,yf0,yf1,yf2⟩:=S2.out.2.2.2.1.facts;have H3:=hid (HP.out U2 _ S2.out.1 S2.out.2.2.2.2.1);clear HP;go_wp2_with fail;clear r0 r1 r2 rf0 rf1 rf2 x0 x1 x2 xf0 xf1 xf2 y0 y1 y2 yf0 yf1 yf2;refine H3.out.mono ?_;rintro r u5 ⟨v,rfl,hP,hb⟩;obtain ⟨a5,c5,rfl,_⟩:=hP.arg (by omega);obtain ⟨BV,GR,GX,GY,MX,MY⟩:=S2.out;have hs5:U2.heap.size≤u5.heap.size:=hb.size;have BV5:Below w.heap.size w u5:=BV.trans (hb.mono (by omega));have H4:=hid (HQ.out u5 _ BV5 (MY.below hb));have S5:=(qsd (ai BV5 (ai (GR.below hb) (ai (GX.below hb) (ai (GY.below hb) (ai (MX.below hb) (hP.mono (lo':=w.heap.size+3) (by omega))))))));clear BV GR GX GY MX MY BV5 hP hb H3 S2 HQ;obtain ⟨r0,r1,r2,rf0,rf1,rf2⟩:=S5.out.2.1.facts;obtain ⟨x0,x1,x2,xf0,xf1,xf2⟩:=S5.out.2.2.1.facts;obtain ⟨y0,y1,y2,yf0,yf1,yf2⟩:=S5.out.2.2.2.1.facts;go_wp2_with fail;clear r0 r1 r2 rf0 rf1 rf2 x0 x1 x2 xf0 xf1 xf2 y0 y1 y2 yf0 yf1 yf2;refine H4.out.mono ?_;rintro r u6 ⟨v,rfl,hQ,hb⟩;obtain ⟨a6,c6,rfl,_⟩:=hQ.arg (by omega);obtain ⟨BV,GR,GX,GY,MX,MP⟩:=S5.out;have hs6:u5.heap.size≤u6.heap.size:=hb.size;have S2:=(qsd (ai (BV.trans (hb.mono (by omega))) (ai (GR.below hb) (ai (GX.below hb) (ai (GY.below hb) (ai (MP.below hb) (hQ.mono (lo':=w.heap.size+3) (by omega))))))));clear BV GR GX GY MX MP hQ hb H4 S5;obtain ⟨r0,r1,r2,rf0,rf1,rf2⟩:=S2.out.2.1.facts;obtain ⟨x0,x1,x2,xf0,xf1,xf2⟩:=S2.out.2.2.1.facts;obtain ⟨y0,y1,y2,yf0,yf1,yf2⟩:=S2.out.2.2.2.1.facts;go_wp2;refine bodyPost_ret (radd_res _ (w.heap.size+1+1) false (.slice none 0 0) 0 2 _ rfl rfl (S2.out.2.1.set _ _ _)) rfl ⟨rfl,?_⟩;refine Fin.bel (m:=w.heap.size+3) (v:=.slice a5 (ws P).length c5) (X:=P) ?_;have FE:Fin w.heap.size (w.heap.size+3) w u6 (.slice a5 (ws P).length c5) P:=⟨S2.out.2.2.2.2.1,S2.out.1,by omega⟩
 repeat (with_reducible first | exact FE | refine Fin.drew ?_ | refine Fin.alloc ?_ _ | refine Fin.set ?_ _ _ _ (by omega) (by omega))
end
section
open Go.RowKit
theorem radd_sum {w:World}{a b:Option Addr}{l c k d:Nat}(n m:Bool) (e f:Int) (n1 m1:Bool) (X Y:Nat) (e1 f1:Int) (lX:(ws X).length≤8192) (lY:(ws Y).length≤8192) (hX:((((ws X).length:Nat):Int)==0)=false) (hY:((((ws Y).length:Nat):Int)==0)=false) (be0:-1048576≤e1) (be1:e1≤1048576) (bf0:-1048576≤f1) (bf1:f1≤1048576) (g:Int) (hg:min e1 f1=g) (bg0:-1048576≤g) (bg1:g≤1048576) (P Q:Nat) (lP:(ws P).length≤1000000) (lQ:(ws Q).length≤1000000) (h5:(ws P).length≤8192) (h6:(ws Q).length≤8192) (hs:(n1==m1)=true) (L:Nat) (lL:(ws L).length≤1000000) (dn:Bool) (V:Nat) (de er:Int) (lV:(ws V).length≤8192)
 (HF1:Hid (∀ u,Below w.heap.size w u→Calls Tryz.prog 89 #[.agg #[.bool n,.slice a l c,.int .i64 e]] u fun r w'=>(∃ v,r=.returned (.tuple #[.agg #[.bool n1,v,.int .i64 e1],.bool true])∧Nt u.heap.size w' v X)∧Below u.heap.size u w'))
 (HF2:Hid (∀ u,Below w.heap.size w u→Calls Tryz.prog 89 #[.agg #[.bool m,.slice b k d,.int .i64 f]] u fun r w'=>(∃ v,r=.returned (.tuple #[.agg #[.bool m1,v,.int .i64 f1],.bool true])∧Nt u.heap.size w' v Y)∧Below u.heap.size u w'))
 (HP:Hid (∀ (u:World) (v:Value),Below w.heap.size w u→Nt (w.heap.size+3) u v X→Calls Tryz.prog 126 #[v,.int .i64 (e1-g)] u fun r w'=>∃ v,r=.returned v∧Nt u.heap.size w' v P∧Below u.heap.size u w'))
 (HQ:Hid (∀ (u:World) (v:Value),Below w.heap.size w u→Nt (w.heap.size+3) u v Y→Calls Tryz.prog 126 #[v,.int .i64 (f1-g)] u fun r w'=>∃ v,r=.returned v∧Nt u.heap.size w' v Q∧Below u.heap.size u w'))
 (HT:Hid (∀ (u:World) (p q:Option Addr) (s t:Nat),Below w.heap.size w u→Arg u p (ws P).length s (ws P)→Arg u q (ws Q).length t (ws Q)→Calls Tryz.prog 129 #[.slice p (ws P).length s,.slice q (ws Q).length t] u fun r w'=>∃ v,r=.returned v∧Nt u.heap.size w' v L∧Below u.heap.size u w'))
 (HL:Hid (∀ (u:World) (p:Option Addr) (s:Nat),Below w.heap.size w u→Arg u p (ws L).length s (ws L)→Calls Tryz.prog 128 #[.bool n1,.slice p (ws L).length s,.int .i64 g] u fun r w'=>(∃ v,r=.returned (.tuple #[.agg #[.bool dn,v,.int .i64 de],.int .i64 er])∧Nt u.heap.size w' v V)∧Below u.heap.size u w')):Calls Tryz.prog 96 #[.agg #[.bool n,.slice a l c,.int .i64 e],.agg #[.bool m,.slice b k d,.int .i64 f]] w fun r w'=>(∃ v,r=.returned (.tuple #[.agg #[.bool dn,v,.int .i64 de],.int .i64 er])∧Nt w.heap.size w' v V)∧Below w.heap.size w w':=by
 obtain ⟨W1,hW1⟩:∃ W,W=((w.alloc (.cells #[.bool n,.slice a l c,.int .i64 e] 70)).alloc (.cells #[.bool m,.slice b k d,.int .i64 f] 70)).alloc (.cells #[.bool false,.slice none 0 0,.int .i64 0] 70):=⟨_,rfl⟩;obtain ⟨hB,hz1,DA,DB,DR⟩:=add_begin w n m (.slice a l c) (.slice b k d) e f W1 hW1;have H1:=hid (HF1.out W1 hB);have SB:=(qsd (ai hB (ai hz1 (ai DA (ai DB DR)))));clear hB hz1 DA DB DR HF1;go_enter Tryz.func96,Tryz.ntmps96;go_wp2_with fail;rw [←hW1];clear hW1;refine H1.out.mono ?_;rintro r u1 ⟨⟨v,rfl,hN⟩,hb⟩;obtain ⟨a1,c1,rfl,_⟩:=hN.arg (by omega);obtain ⟨hB,hz1,DA,DB,DR⟩:=SB.out;obtain ⟨U1,hU1⟩:∃ U,U=u1.alloc (.cells #[.bool n1,.slice a1 (ws X).length c1,.int .i64 e1] 70):=⟨_,rfl⟩;have hA:Below u1.heap.size u1 U1:=by rw [hU1];exact below_alloc _ _
 have hs1:w.heap.size+3≤u1.heap.size:=by have:=hb.size;omega
 have hs2:u1.heap.size<U1.heap.size:=by rw [hU1];simp
 have FB:=(DB.below hb).below hA;have FR:=(DR.below hb).below hA;have DX:Dk U1 u1.heap.size n1 (.slice a1 (ws X).length c1) e1:=by rw [hU1];exact Dk.new _ _ _ _
 have NX:Nt (w.heap.size+3) U1 (.slice a1 (ws X).length c1) X:=(hN.mono (by omega)).below hA;have BU:Below w.heap.size w U1:=(hB.trans (hb.mono (by omega))).trans (hA.mono (by omega));have H2:=hid (HF2.out U1 BU);obtain ⟨y0,y1,y2,yf0,yf1,yf2⟩:=FB.facts;have S1:=(qsd (ai BU (ai FR (ai DX NX))));clear hN hb H1 hB hz1 hA DA DB DR FB FR DX NX BU SB HF2
 go_upto_region 2 with fail
 rw [←hU1];clear hU1;go_wp2_with fail;clear y0 y1 y2 yf0 yf1 yf2;refine H2.out.mono ?_;rintro r u2 ⟨⟨v,rfl,hM⟩,hb⟩;obtain ⟨a2,c2,rfl,_⟩:=hM.arg (by omega);obtain ⟨BU,FR,DX,NX⟩:=S1.out;obtain ⟨U2,hU2⟩:∃ U,U=u2.alloc (.cells #[.bool m1,.slice a2 (ws Y).length c2,.int .i64 f1] 70):=⟨_,rfl⟩;have hA:Below u2.heap.size u2 U2:=by rw [hU2];exact below_alloc _ _
 have hs3:U1.heap.size≤u2.heap.size:=hb.size;have hs4:u2.heap.size<U2.heap.size:=by rw [hU2];simp
 have GR:=(FR.below hb).below hA;have GX:=(DX.below hb).below hA;have GY:Dk U2 u2.heap.size m1 (.slice a2 (ws Y).length c2) f1:=by rw [hU2];exact Dk.new _ _ _ _
 have MX:=(NX.below hb).below hA;have MY:Nt (w.heap.size+3) U2 (.slice a2 (ws Y).length c2) Y:=(hM.mono (by omega)).below hA;have BV:Below w.heap.size w U2:=(BU.trans (hb.mono (by omega))).trans (hA.mono (by omega));have S2:=(qsd (ai BV (ai GR (ai GX (ai GY (ai MX MY))))));clear hM hb H2 hA FR DX NX BU GR GX GY MX MY BV S1
 go_upto_region 5 with fail
 rw [←hU2];clear hU2;obtain ⟨r0,r1,r2,rf0,rf1,rf2⟩:=S2.out.2.1.facts;obtain ⟨x0,x1,x2,xf0,xf1,xf2⟩:=S2.out.2.2.1.facts;obtain ⟨y0,y1,y2,yf0,yf1,yf2⟩:=S2.out.2.2.2.1.facts;have H3:=hid (HP.out U2 _ S2.out.1 S2.out.2.2.2.2.1);clear HP;go_wp2_with fail;clear r0 r1 r2 rf0 rf1 rf2 x0 x1 x2 xf0 xf1 xf2 y0 y1 y2 yf0 yf1 yf2;refine H3.out.mono ?_;rintro r u5 ⟨v,rfl,hP,hb⟩;obtain ⟨a5,c5,rfl,_⟩:=hP.arg (by omega);obtain ⟨BV,GR,GX,GY,MX,MY⟩:=S2.out;have hs5:U2.heap.size≤u5.heap.size:=hb.size;have BV5:Below w.heap.size w u5:=BV.trans (hb.mono (by omega));have H4:=hid (HQ.out u5 _ BV5 (MY.below hb));have S5:=(qsd (ai BV5 (ai (GR.below hb) (ai (GX.below hb) (ai (GY.below hb) (ai (MX.below hb) (hP.mono (lo':=w.heap.size+3) (by omega))))))));clear BV GR GX GY MX MY BV5 hP hb H3 S2 HQ;obtain ⟨r0,r1,r2,rf0,rf1,rf2⟩:=S5.out.2.1.facts;obtain ⟨x0,x1,x2,xf0,xf1,xf2⟩:=S5.out.2.2.1.facts;obtain ⟨y0,y1,y2,yf0,yf1,yf2⟩:=S5.out.2.2.2.1.facts;go_wp2_with fail;clear r0 r1 r2 rf0 rf1 rf2 x0 x1 x2 xf0 xf1 xf2 y0 y1 y2 yf0 yf1 yf2;refine H4.out.mono ?_;rintro r u6 ⟨v,rfl,hQ,hb⟩;obtain ⟨a6,c6,rfl,_⟩:=hQ.arg (by omega);obtain ⟨BV,GR,GX,GY,MX,MP⟩:=S5.out;have hs6:u5.heap.size≤u6.heap.size:=hb.size;have S2:=(qsd (ai (BV.trans (hb.mono (by omega))) (ai (GR.below hb) (ai (GX.below hb) (ai (GY.below hb) (ai (MP.below hb) (hQ.mono (lo':=w.heap.size+3) (by omega))))))));clear BV GR GX GY MX MP hQ hb H4 S5;obtain ⟨r0,r1,r2,rf0,rf1,rf2⟩:=S2.out.2.1.facts;obtain ⟨x0,x1,x2,xf0,xf1,xf2⟩:=S2.out.2.2.1.facts;obtain ⟨y0,y1,y2,yf0,yf1,yf2⟩:=S2.out.2.2.2.1.facts;go_wp2_with fail;have ne1:u1.heap.size≠w.heap.size+1+1:=by omega
 have ne2:u2.heap.size≠w.heap.size+1+1:=by omega
 have ne3:w.heap.size+1+1≠u1.heap.size:=by omega
 have ne4:w.heap.size+1+1≠u2.heap.size:=by omega
 have T1:=hid (HT.out u6 a5 a6 c5 c6 S2.out.1 (S2.out.2.2.2.2.1.arg' (by omega)).2 (S2.out.2.2.2.2.2.arg' (by omega)).2);have T2:=hid (HT.out u6.drew a5 a6 c5 c6 (Below.drew S2.out.1) (Arg.drew' (S2.out.2.2.2.2.1.arg' (by omega)).2) (Arg.drew' (S2.out.2.2.2.2.2.arg' (by omega)).2))
 go_region_held3 (fun w'=>w'.cell? ⟨u1.heap.size,0,none⟩=some (.bool n1)∧w'.cell? ⟨u1.heap.size,1,none⟩=some (.slice a1 (ws X).length c1)∧w'.cell? ⟨u1.heap.size,2,none⟩=some (.int .i64 e1)∧w'.cell? ⟨u2.heap.size,0,none⟩=some (.bool m1)∧w'.cell? ⟨u2.heap.size,1,none⟩=some (.slice a2 (ws Y).length c2)∧w'.cell? ⟨u2.heap.size,2,none⟩=some (.int .i64 f1)) (go_keep) (first
  | (go_at_call 129
     first | with_reducible refine T1.out.mono ?_ | with_reducible refine T2.out.mono ?_
     rintro r u3 ⟨v,rfl,hN,hb⟩;obtain ⟨a3,c3,rfl,_⟩:=hN.arg (by omega);have hb3:Below u6.heap.size u6 u3:=by first | exact hb | exact ((Below.refl _ u6).drew).trans (hb.mono (Nat.le_refl _))
     have HL3:=hid (HL.out u3 a3 c3 (S2.out.1.trans (hb3.mono (by omega))) (hN.arg' (by omega)).2);have KR:=S2.out.2.1.below hb3;have KX:=S2.out.2.2.1.below hb3;have KY:=S2.out.2.2.2.1.below hb3;obtain ⟨p0,p1,p2,pf0,pf1,pf2⟩:=KR.facts;obtain ⟨q0,q1,q2,qf0,qf1,qf2⟩:=KX.facts;obtain ⟨s0,s1,s2,sf0,sf1,sf2⟩:=KY.facts;have hs9:u6.heap.size≤u3.heap.size:=hb3.size;have S9:=(qsd (ai (S2.out.1.trans (hb3.mono (by omega))) (ai KR (ai KX KY))))
     clear hN hb hb3 KR KX KY)
  | (go_at_call 128
     with_reducible refine HL3.out.mono ?_
     rintro r u4 ⟨⟨v,rfl,hN⟩,hb⟩;obtain ⟨a4,c4,rfl,_⟩:=hN.arg (by omega);have LR:=S9.out.2.1.below hb;obtain ⟨t0,t1,t2,tf0,tf1,tf2⟩:=LR.facts;obtain ⟨i0,i1,i2,if0,if1,if2⟩:=(S9.out.2.2.1.below hb).facts;obtain ⟨j0,j1,j2,jf0,jf1,jf2⟩:=(S9.out.2.2.2.below hb).facts;have FV:=qsd (show Fin w.heap.size (w.heap.size+3) w u4 (.slice a4 (ws V).length c4) V from ⟨hN.mono (by omega),S9.out.1.trans (hb.mono (by omega)),by have:=hb.size;omega⟩);have S10:=qsd LR
     clear hN hb LR))
 all_goals (
  go_wp2;refine bodyPost_ret (radd_res _ (w.heap.size+1+1) dn (.slice a4 (ws V).length c4) de er _ rfl rfl (S10.out.set _ _ _)) rfl ?_;refine Fin.dans (m:=w.heap.size+3) ?_ (by omega)
  repeat (with_reducible first | exact FV.out | refine Fin.drew ?_ | refine Fin.alloc ?_ _ | refine Fin.set ?_ _ _ _ (by omega) (by omega)))
end
section
open Go.RowKit
theorem radd_ge {w:World}{a b:Option Addr}{l c k d:Nat}(n m:Bool) (e f:Int) (n1 m1:Bool) (X Y:Nat) (e1 f1:Int) (lX:(ws X).length≤8192) (lY:(ws Y).length≤8192) (hX:((((ws X).length:Nat):Int)==0)=false) (hY:((((ws Y).length:Nat):Int)==0)=false) (be0:-1048576≤e1) (be1:e1≤1048576) (bf0:-1048576≤f1) (bf1:f1≤1048576) (g:Int) (hg:min e1 f1=g) (bg0:-1048576≤g) (bg1:g≤1048576) (P Q:Nat) (lP:(ws P).length≤1000000) (lQ:(ws Q).length≤1000000) (h5:(ws P).length≤8192) (h6:(ws Q).length≤8192) (hs:(n1==m1)=false) (z:Int) (hz:0≤z) (L:Nat) (lL:(ws L).length≤1000000) (dn:Bool) (V:Nat) (de er:Int) (lV:(ws V).length≤8192)
 (HF1:Hid (∀ u,Below w.heap.size w u→Calls Tryz.prog 89 #[.agg #[.bool n,.slice a l c,.int .i64 e]] u fun r w'=>(∃ v,r=.returned (.tuple #[.agg #[.bool n1,v,.int .i64 e1],.bool true])∧Nt u.heap.size w' v X)∧Below u.heap.size u w'))
 (HF2:Hid (∀ u,Below w.heap.size w u→Calls Tryz.prog 89 #[.agg #[.bool m,.slice b k d,.int .i64 f]] u fun r w'=>(∃ v,r=.returned (.tuple #[.agg #[.bool m1,v,.int .i64 f1],.bool true])∧Nt u.heap.size w' v Y)∧Below u.heap.size u w'))
 (HP:Hid (∀ (u:World) (v:Value),Below w.heap.size w u→Nt (w.heap.size+3) u v X→Calls Tryz.prog 126 #[v,.int .i64 (e1-g)] u fun r w'=>∃ v,r=.returned v∧Nt u.heap.size w' v P∧Below u.heap.size u w'))
 (HQ:Hid (∀ (u:World) (v:Value),Below w.heap.size w u→Nt (w.heap.size+3) u v Y→Calls Tryz.prog 126 #[v,.int .i64 (f1-g)] u fun r w'=>∃ v,r=.returned v∧Nt u.heap.size w' v Q∧Below u.heap.size u w'))
 (HC:Hid (∀ (u:World) (p q:Option Addr) (s t:Nat),Below w.heap.size w u→Arg u p (ws P).length s (ws P)→Arg u q (ws Q).length t (ws Q)→Calls Tryz.prog 130 #[.slice p (ws P).length s,.slice q (ws Q).length t] u fun r w'=>r=.returned (.int .i64 z)∧Below u.heap.size u w'))
 (HT:Hid (∀ (u:World) (p q:Option Addr) (s t:Nat),Below w.heap.size w u→Arg u p (ws P).length s (ws P)→Arg u q (ws Q).length t (ws Q)→Calls Tryz.prog 131 #[.slice p (ws P).length s,.slice q (ws Q).length t] u fun r w'=>∃ v,r=.returned v∧Nt u.heap.size w' v L∧Below u.heap.size u w'))
 (HL:Hid (∀ (u:World) (p:Option Addr) (s:Nat),Below w.heap.size w u→Arg u p (ws L).length s (ws L)→Calls Tryz.prog 128 #[.bool n1,.slice p (ws L).length s,.int .i64 g] u fun r w'=>(∃ v,r=.returned (.tuple #[.agg #[.bool dn,v,.int .i64 de],.int .i64 er])∧Nt u.heap.size w' v V)∧Below u.heap.size u w')):Calls Tryz.prog 96 #[.agg #[.bool n,.slice a l c,.int .i64 e],.agg #[.bool m,.slice b k d,.int .i64 f]] w fun r w'=>(∃ v,r=.returned (.tuple #[.agg #[.bool dn,v,.int .i64 de],.int .i64 er])∧Nt w.heap.size w' v V)∧Below w.heap.size w w':=by
 obtain ⟨W1,hW1⟩:∃ W,W=((w.alloc (.cells #[.bool n,.slice a l c,.int .i64 e] 70)).alloc (.cells #[.bool m,.slice b k d,.int .i64 f] 70)).alloc (.cells #[.bool false,.slice none 0 0,.int .i64 0] 70):=⟨_,rfl⟩;obtain ⟨hB,hz1,DA,DB,DR⟩:=add_begin w n m (.slice a l c) (.slice b k d) e f W1 hW1;have H1:=hid (HF1.out W1 hB);have SB:=(qsd (ai hB (ai hz1 (ai DA (ai DB DR)))));clear hB hz1 DA DB DR HF1;go_enter Tryz.func96,Tryz.ntmps96;go_wp2_with fail;rw [←hW1];clear hW1;refine H1.out.mono ?_;rintro r u1 ⟨⟨v,rfl,hN⟩,hb⟩;obtain ⟨a1,c1,rfl,_⟩:=hN.arg (by omega);obtain ⟨hB,hz1,DA,DB,DR⟩:=SB.out;obtain ⟨U1,hU1⟩:∃ U,U=u1.alloc (.cells #[.bool n1,.slice a1 (ws X).length c1,.int .i64 e1] 70):=⟨_,rfl⟩;have hA:Below u1.heap.size u1 U1:=by rw [hU1];exact below_alloc _ _
 have hs1:w.heap.size+3≤u1.heap.size:=by have:=hb.size;omega
 have hs2:u1.heap.size<U1.heap.size:=by rw [hU1];simp
 have FB:=(DB.below hb).below hA;have FR:=(DR.below hb).below hA;have DX:Dk U1 u1.heap.size n1 (.slice a1 (ws X).length c1) e1:=by rw [hU1];exact Dk.new _ _ _ _
 have NX:Nt (w.heap.size+3) U1 (.slice a1 (ws X).length c1) X:=(hN.mono (by omega)).below hA;have BU:Below w.heap.size w U1:=(hB.trans (hb.mono (by omega))).trans (hA.mono (by omega));have H2:=hid (HF2.out U1 BU);obtain ⟨y0,y1,y2,yf0,yf1,yf2⟩:=FB.facts;have S1:=(qsd (ai BU (ai FR (ai DX NX))));clear hN hb H1 hB hz1 hA DA DB DR FB FR DX NX BU SB HF2
 go_upto_region 2 with fail
 rw [←hU1];clear hU1;go_wp2_with fail;clear y0 y1 y2 yf0 yf1 yf2;refine H2.out.mono ?_;rintro r u2 ⟨⟨v,rfl,hM⟩,hb⟩;obtain ⟨a2,c2,rfl,_⟩:=hM.arg (by omega);obtain ⟨BU,FR,DX,NX⟩:=S1.out;obtain ⟨U2,hU2⟩:∃ U,U=u2.alloc (.cells #[.bool m1,.slice a2 (ws Y).length c2,.int .i64 f1] 70):=⟨_,rfl⟩;have hA:Below u2.heap.size u2 U2:=by rw [hU2];exact below_alloc _ _
 have hs3:U1.heap.size≤u2.heap.size:=hb.size;have hs4:u2.heap.size<U2.heap.size:=by rw [hU2];simp
 have GR:=(FR.below hb).below hA;have GX:=(DX.below hb).below hA;have GY:Dk U2 u2.heap.size m1 (.slice a2 (ws Y).length c2) f1:=by rw [hU2];exact Dk.new _ _ _ _
 have MX:=(NX.below hb).below hA;have MY:Nt (w.heap.size+3) U2 (.slice a2 (ws Y).length c2) Y:=(hM.mono (by omega)).below hA;have BV:Below w.heap.size w U2:=(BU.trans (hb.mono (by omega))).trans (hA.mono (by omega));have S2:=(qsd (ai BV (ai GR (ai GX (ai GY (ai MX MY))))));clear hM hb H2 hA FR DX NX BU GR GX GY MX MY BV S1
 go_upto_region 5 with fail
 rw [←hU2];clear hU2;obtain ⟨r0,r1,r2,rf0,rf1,rf2⟩:=S2.out.2.1.facts;obtain ⟨x0,x1,x2,xf0,xf1,xf2⟩:=S2.out.2.2.1.facts;obtain ⟨y0,y1,y2,yf0,yf1,yf2⟩:=S2.out.2.2.2.1.facts;have H3:=hid (HP.out U2 _ S2.out.1 S2.out.2.2.2.2.1);clear HP;go_wp2_with fail;clear r0 r1 r2 rf0 rf1 rf2 x0 x1 x2 xf0 xf1 xf2 y0 y1 y2 yf0 yf1 yf2;refine H3.out.mono ?_;rintro r u5 ⟨v,rfl,hP,hb⟩;obtain ⟨a5,c5,rfl,_⟩:=hP.arg (by omega);obtain ⟨BV,GR,GX,GY,MX,MY⟩:=S2.out;have hs5:U2.heap.size≤u5.heap.size:=hb.size;have BV5:Below w.heap.size w u5:=BV.trans (hb.mono (by omega));have H4:=hid (HQ.out u5 _ BV5 (MY.below hb));have S5:=(qsd (ai BV5 (ai (GR.below hb) (ai (GX.below hb) (ai (GY.below hb) (ai (MX.below hb) (hP.mono (lo':=w.heap.size+3) (by omega))))))));clear BV GR GX GY MX MY BV5 hP hb H3 S2 HQ;obtain ⟨r0,r1,r2,rf0,rf1,rf2⟩:=S5.out.2.1.facts;obtain ⟨x0,x1,x2,xf0,xf1,xf2⟩:=S5.out.2.2.1.facts;obtain ⟨y0,y1,y2,yf0,yf1,yf2⟩:=S5.out.2.2.2.1.facts;go_wp2_with fail;clear r0 r1 r2 rf0 rf1 rf2 x0 x1 x2 xf0 xf1 xf2 y0 y1 y2 yf0 yf1 yf2;refine H4.out.mono ?_;rintro r u6 ⟨v,rfl,hQ,hb⟩;obtain ⟨a6,c6,rfl,_⟩:=hQ.arg (by omega);obtain ⟨BV,GR,GX,GY,MX,MP⟩:=S5.out;have hs6:u5.heap.size≤u6.heap.size:=hb.size;have S2:=(qsd (ai (BV.trans (hb.mono (by omega))) (ai (GR.below hb) (ai (GX.below hb) (ai (GY.below hb) (ai (MP.below hb) (hQ.mono (lo':=w.heap.size+3) (by omega))))))));clear BV GR GX GY MX MP hQ hb H4 S5;obtain ⟨r0,r1,r2,rf0,rf1,rf2⟩:=S2.out.2.1.facts;obtain ⟨x0,x1,x2,xf0,xf1,xf2⟩:=S2.out.2.2.1.facts;obtain ⟨y0,y1,y2,yf0,yf1,yf2⟩:=S2.out.2.2.2.1.facts;have H7:=hid (HC.out u6 a5 a6 c5 c6 S2.out.1 (S2.out.2.2.2.2.1.arg' (by omega)).2 (S2.out.2.2.2.2.2.arg' (by omega)).2);clear HC;go_wp2_with fail;clear r0 r1 r2 rf0 rf1 rf2 x0 x1 x2 xf0 xf1 xf2 y0 y1 y2 yf0 yf1 yf2;refine H7.out.mono ?_;rintro r u7 ⟨rfl,hb⟩;obtain ⟨BV,GR,GX,GY,MP,MQ⟩:=S2.out;have hs7:u6.heap.size≤u7.heap.size:=hb.size;have S2':=(qsd (ai (BV.trans (hb.mono (by omega))) (ai (GR.below hb) (ai (GX.below hb) (ai (GY.below hb) (ai (MP.below hb) (MQ.below hb)))))));clear S2;have S2:=S2';clear BV GR GX GY MP MQ hb H7 S2';obtain ⟨r0,r1,r2,rf0,rf1,rf2⟩:=S2.out.2.1.facts;obtain ⟨x0,x1,x2,xf0,xf1,xf2⟩:=S2.out.2.2.1.facts;obtain ⟨y0,y1,y2,yf0,yf1,yf2⟩:=S2.out.2.2.2.1.facts;go_wp2_with fail;have ne1:u1.heap.size≠w.heap.size+1+1:=by omega
 have ne2:u2.heap.size≠w.heap.size+1+1:=by omega
 have ne3:w.heap.size+1+1≠u1.heap.size:=by omega
 have ne4:w.heap.size+1+1≠u2.heap.size:=by omega
 have T1:=hid (HT.out u7 a5 a6 c5 c6 S2.out.1 (S2.out.2.2.2.2.1.arg' (by omega)).2 (S2.out.2.2.2.2.2.arg' (by omega)).2);have T2:=hid (HT.out u7.drew a5 a6 c5 c6 (Below.drew S2.out.1) (Arg.drew' (S2.out.2.2.2.2.1.arg' (by omega)).2) (Arg.drew' (S2.out.2.2.2.2.2.arg' (by omega)).2))
 go_region_held3 (fun w'=>w'.cell? ⟨u1.heap.size,0,none⟩=some (.bool n1)∧w'.cell? ⟨u1.heap.size,1,none⟩=some (.slice a1 (ws X).length c1)∧w'.cell? ⟨u1.heap.size,2,none⟩=some (.int .i64 e1)∧w'.cell? ⟨u2.heap.size,0,none⟩=some (.bool m1)∧w'.cell? ⟨u2.heap.size,1,none⟩=some (.slice a2 (ws Y).length c2)∧w'.cell? ⟨u2.heap.size,2,none⟩=some (.int .i64 f1)) (go_keep) (first
  | (go_at_call 131
     first | with_reducible refine T1.out.mono ?_ | with_reducible refine T2.out.mono ?_
     rintro r u3 ⟨v,rfl,hN,hb⟩;obtain ⟨a3,c3,rfl,_⟩:=hN.arg (by omega);have hb3:Below u7.heap.size u7 u3:=by first | exact hb | exact ((Below.refl _ u7).drew).trans (hb.mono (Nat.le_refl _))
     have HL3:=hid (HL.out u3 a3 c3 (S2.out.1.trans (hb3.mono (by omega))) (hN.arg' (by omega)).2);have KR:=S2.out.2.1.below hb3;have KX:=S2.out.2.2.1.below hb3;have KY:=S2.out.2.2.2.1.below hb3;obtain ⟨p0,p1,p2,pf0,pf1,pf2⟩:=KR.facts;obtain ⟨q0,q1,q2,qf0,qf1,qf2⟩:=KX.facts;obtain ⟨s0,s1,s2,sf0,sf1,sf2⟩:=KY.facts;have hs9:u7.heap.size≤u3.heap.size:=hb3.size;have S9:=(qsd (ai (S2.out.1.trans (hb3.mono (by omega))) (ai KR (ai KX KY))))
     clear hN hb hb3 KR KX KY)
  | (go_at_call 128
     with_reducible refine HL3.out.mono ?_
     rintro r u4 ⟨⟨v,rfl,hN⟩,hb⟩;obtain ⟨a4,c4,rfl,_⟩:=hN.arg (by omega);have LR:=S9.out.2.1.below hb;obtain ⟨t0,t1,t2,tf0,tf1,tf2⟩:=LR.facts;obtain ⟨i0,i1,i2,if0,if1,if2⟩:=(S9.out.2.2.1.below hb).facts;obtain ⟨j0,j1,j2,jf0,jf1,jf2⟩:=(S9.out.2.2.2.below hb).facts;have FV:=qsd (show Fin w.heap.size (w.heap.size+3) w u4 (.slice a4 (ws V).length c4) V from ⟨hN.mono (by omega),S9.out.1.trans (hb.mono (by omega)),by have:=hb.size;omega⟩);have S10:=qsd LR
     clear hN hb LR))
 all_goals (
  go_wp2;refine bodyPost_ret (radd_res _ (w.heap.size+1+1) dn (.slice a4 (ws V).length c4) de er _ rfl rfl (S10.out.set _ _ _)) rfl ?_;refine Fin.dans (m:=w.heap.size+3) ?_ (by omega)
  repeat (with_reducible first | exact FV.out | refine Fin.drew ?_ | refine Fin.alloc ?_ _ | refine Fin.set ?_ _ _ _ (by omega) (by omega)))
end
section
open Go.RowKit
theorem radd_lt {w:World}{a b:Option Addr}{l c k d:Nat}(n m:Bool) (e f:Int) (n1 m1:Bool) (X Y:Nat) (e1 f1:Int) (lX:(ws X).length≤8192) (lY:(ws Y).length≤8192) (hX:((((ws X).length:Nat):Int)==0)=false) (hY:((((ws Y).length:Nat):Int)==0)=false) (be0:-1048576≤e1) (be1:e1≤1048576) (bf0:-1048576≤f1) (bf1:f1≤1048576) (g:Int) (hg:min e1 f1=g) (bg0:-1048576≤g) (bg1:g≤1048576) (P Q:Nat) (lP:(ws P).length≤1000000) (lQ:(ws Q).length≤1000000) (h5:(ws P).length≤8192) (h6:(ws Q).length≤8192) (hs:(n1==m1)=false) (z:Int) (hz:z<0) (L:Nat) (lL:(ws L).length≤1000000) (dn:Bool) (V:Nat) (de er:Int) (lV:(ws V).length≤8192)
 (HF1:Hid (∀ u,Below w.heap.size w u→Calls Tryz.prog 89 #[.agg #[.bool n,.slice a l c,.int .i64 e]] u fun r w'=>(∃ v,r=.returned (.tuple #[.agg #[.bool n1,v,.int .i64 e1],.bool true])∧Nt u.heap.size w' v X)∧Below u.heap.size u w'))
 (HF2:Hid (∀ u,Below w.heap.size w u→Calls Tryz.prog 89 #[.agg #[.bool m,.slice b k d,.int .i64 f]] u fun r w'=>(∃ v,r=.returned (.tuple #[.agg #[.bool m1,v,.int .i64 f1],.bool true])∧Nt u.heap.size w' v Y)∧Below u.heap.size u w'))
 (HP:Hid (∀ (u:World) (v:Value),Below w.heap.size w u→Nt (w.heap.size+3) u v X→Calls Tryz.prog 126 #[v,.int .i64 (e1-g)] u fun r w'=>∃ v,r=.returned v∧Nt u.heap.size w' v P∧Below u.heap.size u w'))
 (HQ:Hid (∀ (u:World) (v:Value),Below w.heap.size w u→Nt (w.heap.size+3) u v Y→Calls Tryz.prog 126 #[v,.int .i64 (f1-g)] u fun r w'=>∃ v,r=.returned v∧Nt u.heap.size w' v Q∧Below u.heap.size u w'))
 (HC:Hid (∀ (u:World) (p q:Option Addr) (s t:Nat),Below w.heap.size w u→Arg u p (ws P).length s (ws P)→Arg u q (ws Q).length t (ws Q)→Calls Tryz.prog 130 #[.slice p (ws P).length s,.slice q (ws Q).length t] u fun r w'=>r=.returned (.int .i64 z)∧Below u.heap.size u w'))
 (HT:Hid (∀ (u:World) (p q:Option Addr) (s t:Nat),Below w.heap.size w u→Arg u p (ws Q).length s (ws Q)→Arg u q (ws P).length t (ws P)→Calls Tryz.prog 131 #[.slice p (ws Q).length s,.slice q (ws P).length t] u fun r w'=>∃ v,r=.returned v∧Nt u.heap.size w' v L∧Below u.heap.size u w'))
 (HL:Hid (∀ (u:World) (p:Option Addr) (s:Nat),Below w.heap.size w u→Arg u p (ws L).length s (ws L)→Calls Tryz.prog 128 #[.bool m1,.slice p (ws L).length s,.int .i64 g] u fun r w'=>(∃ v,r=.returned (.tuple #[.agg #[.bool dn,v,.int .i64 de],.int .i64 er])∧Nt u.heap.size w' v V)∧Below u.heap.size u w')):Calls Tryz.prog 96 #[.agg #[.bool n,.slice a l c,.int .i64 e],.agg #[.bool m,.slice b k d,.int .i64 f]] w fun r w'=>(∃ v,r=.returned (.tuple #[.agg #[.bool dn,v,.int .i64 de],.int .i64 er])∧Nt w.heap.size w' v V)∧Below w.heap.size w w':=by
 obtain ⟨W1,hW1⟩:∃ W,W=((w.alloc (.cells #[.bool n,.slice a l c,.int .i64 e] 70)).alloc (.cells #[.bool m,.slice b k d,.int .i64 f] 70)).alloc (.cells #[.bool false,.slice none 0 0,.int .i64 0] 70):=⟨_,rfl⟩;obtain ⟨hB,hz1,DA,DB,DR⟩:=add_begin w n m (.slice a l c) (.slice b k d) e f W1 hW1;have H1:=hid (HF1.out W1 hB);have SB:=(qsd (ai hB (ai hz1 (ai DA (ai DB DR)))));clear hB hz1 DA DB DR HF1;go_enter Tryz.func96,Tryz.ntmps96;go_wp2_with fail;rw [←hW1];clear hW1;refine H1.out.mono ?_;rintro r u1 ⟨⟨v,rfl,hN⟩,hb⟩;obtain ⟨a1,c1,rfl,_⟩:=hN.arg (by omega);obtain ⟨hB,hz1,DA,DB,DR⟩:=SB.out;obtain ⟨U1,hU1⟩:∃ U,U=u1.alloc (.cells #[.bool n1,.slice a1 (ws X).length c1,.int .i64 e1] 70):=⟨_,rfl⟩;have hA:Below u1.heap.size u1 U1:=by rw [hU1];exact below_alloc _ _
 have hs1:w.heap.size+3≤u1.heap.size:=by have:=hb.size;omega
 have hs2:u1.heap.size<U1.heap.size:=by rw [hU1];simp
 have FB:=(DB.below hb).below hA;have FR:=(DR.below hb).below hA;have DX:Dk U1 u1.heap.size n1 (.slice a1 (ws X).length c1) e1:=by rw [hU1];exact Dk.new _ _ _ _
 have NX:Nt (w.heap.size+3) U1 (.slice a1 (ws X).length c1) X:=(hN.mono (by omega)).below hA;have BU:Below w.heap.size w U1:=(hB.trans (hb.mono (by omega))).trans (hA.mono (by omega));have H2:=hid (HF2.out U1 BU);obtain ⟨y0,y1,y2,yf0,yf1,yf2⟩:=FB.facts;have S1:=(qsd (ai BU (ai FR (ai DX NX))));clear hN hb H1 hB hz1 hA DA DB DR FB FR DX NX BU SB HF2
 go_upto_region 2 with fail
 rw [←hU1];clear hU1;go_wp2_with fail;clear y0 y1 y2 yf0 yf1 yf2;refine H2.out.mono ?_;rintro r u2 ⟨⟨v,rfl,hM⟩,hb⟩;obtain ⟨a2,c2,rfl,_⟩:=hM.arg (by omega);obtain ⟨BU,FR,DX,NX⟩:=S1.out;obtain ⟨U2,hU2⟩:∃ U,U=u2.alloc (.cells #[.bool m1,.slice a2 (ws Y).length c2,.int .i64 f1] 70):=⟨_,rfl⟩;have hA:Below u2.heap.size u2 U2:=by rw [hU2];exact below_alloc _ _
 have hs3:U1.heap.size≤u2.heap.size:=hb.size;have hs4:u2.heap.size<U2.heap.size:=by rw [hU2];simp
 have GR:=(FR.below hb).below hA;have GX:=(DX.below hb).below hA;have GY:Dk U2 u2.heap.size m1 (.slice a2 (ws Y).length c2) f1:=by rw [hU2];exact Dk.new _ _ _ _
 have MX:=(NX.below hb).below hA;have MY:Nt (w.heap.size+3) U2 (.slice a2 (ws Y).length c2) Y:=(hM.mono (by omega)).below hA;have BV:Below w.heap.size w U2:=(BU.trans (hb.mono (by omega))).trans (hA.mono (by omega));have S2:=(qsd (ai BV (ai GR (ai GX (ai GY (ai MX MY))))));clear hM hb H2 hA FR DX NX BU GR GX GY MX MY BV S1
 go_upto_region 5 with fail
 rw [←hU2];clear hU2;obtain ⟨r0,r1,r2,rf0,rf1,rf2⟩:=S2.out.2.1.facts;obtain ⟨x0,x1,x2,xf0,xf1,xf2⟩:=S2.out.2.2.1.facts;obtain ⟨y0,y1,y2,yf0,yf1,yf2⟩:=S2.out.2.2.2.1.facts;have H3:=hid (HP.out U2 _ S2.out.1 S2.out.2.2.2.2.1);clear HP;go_wp2_with fail;clear r0 r1 r2 rf0 rf1 rf2 x0 x1 x2 xf0 xf1 xf2 y0 y1 y2 yf0 yf1 yf2;refine H3.out.mono ?_;rintro r u5 ⟨v,rfl,hP,hb⟩;obtain ⟨a5,c5,rfl,_⟩:=hP.arg (by omega);obtain ⟨BV,GR,GX,GY,MX,MY⟩:=S2.out;have hs5:U2.heap.size≤u5.heap.size:=hb.size;have BV5:Below w.heap.size w u5:=BV.trans (hb.mono (by omega));have H4:=hid (HQ.out u5 _ BV5 (MY.below hb));have S5:=(qsd (ai BV5 (ai (GR.below hb) (ai (GX.below hb) (ai (GY.below hb) (ai (MX.below hb) (hP.mono (lo':=w.heap.size+3) (by omega))))))));clear BV GR GX GY MX MY BV5 hP hb H3 S2 HQ;obtain ⟨r0,r1,r2,rf0,rf1,rf2⟩:=S5.out.2.1.facts;obtain ⟨x0,x1,x2,xf0,xf1,xf2⟩:=S5.out.2.2.1.facts;obtain ⟨y0,y1,y2,yf0,yf1,yf2⟩:=S5.out.2.2.2.1.facts;go_wp2_with fail;clear r0 r1 r2 rf0 rf1 rf2 x0 x1 x2 xf0 xf1 xf2 y0 y1 y2 yf0 yf1 yf2;refine H4.out.mono ?_;rintro r u6 ⟨v,rfl,hQ,hb⟩;obtain ⟨a6,c6,rfl,_⟩:=hQ.arg (by omega);obtain ⟨BV,GR,GX,GY,MX,MP⟩:=S5.out;have hs6:u5.heap.size≤u6.heap.size:=hb.size;have S2:=(qsd (ai (BV.trans (hb.mono (by omega))) (ai (GR.below hb) (ai (GX.below hb) (ai (GY.below hb) (ai (MP.below hb) (hQ.mono (lo':=w.heap.size+3) (by omega))))))));clear BV GR GX GY MX MP hQ hb H4 S5;obtain ⟨r0,r1,r2,rf0,rf1,rf2⟩:=S2.out.2.1.facts;obtain ⟨x0,x1,x2,xf0,xf1,xf2⟩:=S2.out.2.2.1.facts;obtain ⟨y0,y1,y2,yf0,yf1,yf2⟩:=S2.out.2.2.2.1.facts;have H7:=hid (HC.out u6 a5 a6 c5 c6 S2.out.1 (S2.out.2.2.2.2.1.arg' (by omega)).2 (S2.out.2.2.2.2.2.arg' (by omega)).2);clear HC;go_wp2_with fail;clear r0 r1 r2 rf0 rf1 rf2 x0 x1 x2 xf0 xf1 xf2 y0 y1 y2 yf0 yf1 yf2;refine H7.out.mono ?_;rintro r u7 ⟨rfl,hb⟩;obtain ⟨BV,GR,GX,GY,MP,MQ⟩:=S2.out;have hs7:u6.heap.size≤u7.heap.size:=hb.size;have S2':=(qsd (ai (BV.trans (hb.mono (by omega))) (ai (GR.below hb) (ai (GX.below hb) (ai (GY.below hb) (ai (MP.below hb) (MQ.below hb)))))));clear S2;have S2:=S2';clear BV GR GX GY MP MQ hb H7 S2';obtain ⟨r0,r1,r2,rf0,rf1,rf2⟩:=S2.out.2.1.facts;obtain ⟨x0,x1,x2,xf0,xf1,xf2⟩:=S2.out.2.2.1.facts;obtain ⟨y0,y1,y2,yf0,yf1,yf2⟩:=S2.out.2.2.2.1.facts;go_wp2_with fail;have ne1:u1.heap.size≠w.heap.size+1+1:=by omega
 have ne2:u2.heap.size≠w.heap.size+1+1:=by omega
 have ne3:w.heap.size+1+1≠u1.heap.size:=by omega
 have ne4:w.heap.size+1+1≠u2.heap.size:=by omega
 have T1:=hid (HT.out u7 a6 a5 c6 c5 S2.out.1 (S2.out.2.2.2.2.2.arg' (by omega)).2 (S2.out.2.2.2.2.1.arg' (by omega)).2);have T2:=hid (HT.out u7.drew a6 a5 c6 c5 (Below.drew S2.out.1) (Arg.drew' (S2.out.2.2.2.2.2.arg' (by omega)).2) (Arg.drew' (S2.out.2.2.2.2.1.arg' (by omega)).2))
 go_region_held3 (fun w'=>w'.cell? ⟨u1.heap.size,0,none⟩=some (.bool n1)∧w'.cell? ⟨u1.heap.size,1,none⟩=some (.slice a1 (ws X).length c1)∧w'.cell? ⟨u1.heap.size,2,none⟩=some (.int .i64 e1)∧w'.cell? ⟨u2.heap.size,0,none⟩=some (.bool m1)∧w'.cell? ⟨u2.heap.size,1,none⟩=some (.slice a2 (ws Y).length c2)∧w'.cell? ⟨u2.heap.size,2,none⟩=some (.int .i64 f1)) (go_keep) (first
  | (go_at_call 131
     first | with_reducible refine T1.out.mono ?_ | with_reducible refine T2.out.mono ?_
     rintro r u3 ⟨v,rfl,hN,hb⟩;obtain ⟨a3,c3,rfl,_⟩:=hN.arg (by omega);have hb3:Below u7.heap.size u7 u3:=by first | exact hb | exact ((Below.refl _ u7).drew).trans (hb.mono (Nat.le_refl _))
     have HL3:=hid (HL.out u3 a3 c3 (S2.out.1.trans (hb3.mono (by omega))) (hN.arg' (by omega)).2);have KR:=S2.out.2.1.below hb3;have KX:=S2.out.2.2.1.below hb3;have KY:=S2.out.2.2.2.1.below hb3;obtain ⟨p0,p1,p2,pf0,pf1,pf2⟩:=KR.facts;obtain ⟨q0,q1,q2,qf0,qf1,qf2⟩:=KX.facts;obtain ⟨s0,s1,s2,sf0,sf1,sf2⟩:=KY.facts;have hs9:u7.heap.size≤u3.heap.size:=hb3.size;have S9:=(qsd (ai (S2.out.1.trans (hb3.mono (by omega))) (ai KR (ai KX KY))))
     clear hN hb hb3 KR KX KY)
  | (go_at_call 128
     with_reducible refine HL3.out.mono ?_
     rintro r u4 ⟨⟨v,rfl,hN⟩,hb⟩;obtain ⟨a4,c4,rfl,_⟩:=hN.arg (by omega);have LR:=S9.out.2.1.below hb;obtain ⟨t0,t1,t2,tf0,tf1,tf2⟩:=LR.facts;obtain ⟨i0,i1,i2,if0,if1,if2⟩:=(S9.out.2.2.1.below hb).facts;obtain ⟨j0,j1,j2,jf0,jf1,jf2⟩:=(S9.out.2.2.2.below hb).facts;have FV:=qsd (show Fin w.heap.size (w.heap.size+3) w u4 (.slice a4 (ws V).length c4) V from ⟨hN.mono (by omega),S9.out.1.trans (hb.mono (by omega)),by have:=hb.size;omega⟩);have S10:=qsd LR
     clear hN hb LR))
 all_goals (
  go_wp2;refine bodyPost_ret (radd_res _ (w.heap.size+1+1) dn (.slice a4 (ws V).length c4) de er _ rfl rfl (S10.out.set _ _ _)) rfl ?_;refine Fin.dans (m:=w.heap.size+3) ?_ (by omega)
  repeat (with_reducible first | exact FV.out | refine Fin.drew ?_ | refine Fin.alloc ?_ _ | refine Fin.set ?_ _ _ _ (by omega) (by omega)))
end
section
open Go.RowKit
theorem mkS_z2 (n m:Bool) (e f:Int):mkS n 0 e=mkS m 0 f:=by unfold mkS;rw [if_pos rfl,if_pos rfl]
theorem notb {n m:Bool}(h:¬ n=m):m=(!n)∧n=(!m)∧¬ m=n:=by
 cases n <;> cases m <;> first | exact absurd rfl h | exact ⟨rfl,rfl,fun h=>by cases h⟩
theorem rAdd_any3 {w:World}{a b:Option Addr}{l c k d:Nat}{xs ys:List Nat}(h1:Arg w a l c xs) (h2:Arg w b k d ys) (hl:l≤2000000) (hk:k≤2000000) (n m:Bool) (e f:Int) (he0:-9223372036854775808≤e) (he1:e≤9223372036854775807) (hf0:-9223372036854775808≤f) (hf1:f≤9223372036854775807) :
 Calls Tryz.prog 96 #[.agg #[.bool n,.slice a l c,.int .i64 e],.agg #[.bool m,.slice b k d,.int .i64 f]] w fun r w'=>DAns w.heap.size w' r (addD (mkS n (val xs) e) (mkS m (val ys) f))∧Below w.heap.size w w':=by
 have zero:∀ {r:Ending} {w':World},(r=.returned (.tuple #[.agg #[.bool false,.slice none 0 0,.int .i64 0],.int .i64 2])∧Below w.heap.size w w')→DAns w.heap.size w' r none∧Below w.heap.size w w':=fun ⟨h1,h2⟩=>⟨⟨_,h1,Nt.nil _ _⟩,h2⟩;have M1:=hid fun u (hu:Below w.heap.size w u)=>rMade_any (h1.below hu) hl n e he0 he1;have M2:=hid fun u (hu:Below w.heap.size w u)=>rMade_any (h2.below hu) hk m f hf0 hf1;have z0:(ws 0).length≤8192:=by rw [ws_zero];exact Nat.zero_le _
 cases hx:mkS n (val xs) e with
 | none =>
   cases hy:mkS m (val ys) f with
   | none =>
     rw [hx] at M1;rw [hy] at M2;exact (radd_ff n m e f false false 0 0 0 0 z0 z0 M1 M2).mono fun r w' h=>zero h
   | some y =>
     obtain ⟨m1,Y,f1⟩:=y;rw [hx] at M1;rw [hy] at M2;exact (radd_ft n m e f false m1 0 Y 0 f1 z0 (frm_len (mkS_frm hy)) M1 M2).mono fun r w' h=>zero h
 | some x =>
   obtain ⟨n1,X,e1⟩:=x
   cases hy:mkS m (val ys) f with
   | none =>
     rw [hx] at M1;rw [hy] at M2;exact (radd_tf n m e f n1 false X 0 e1 0 (frm_len (mkS_frm hx)) z0 M1 M2).mono fun r w' h=>zero h
   | some y =>
     obtain ⟨m1,Y,f1⟩:=y;rw [hx] at M1;rw [hy] at M2;have FX:=mkS_frm hx;have FY:=mkS_frm hy;have lX:=frm_len FX;have lY:=frm_len FY;have:=FX.up;have:=FX.down;have:=FY.up;have:=FY.down;show Calls _ _ _ _ fun r w'=>DAns w.heap.size w' r (addF (n1,X,e1) (m1,Y,f1))∧_;unfold addF;simp only
     by_cases hX0:X=0
     · rw [if_pos hX0];exact radd_left n m e f n1 m1 X Y e1 f1 lX lY ((ws_len_zero X).2 hX0) M1 M2
     · rw [if_neg hX0]
       by_cases hY0:Y=0
       · rw [if_pos hY0];exact radd_right n m e f n1 m1 X Y e1 f1 lX lY (len_ne hX0) ((ws_len_zero Y).2 hY0) M1 M2
       · rw [if_neg hY0];obtain ⟨g,hg⟩:∃ g,min e1 f1=g:=⟨_,rfl⟩;have hg2:g=f1∧f1<e1∨g=e1∧e1≤f1:=by omega
         have up:∀ (d:Int) (Z:Nat),0≤d→(if d<0 then Z/2^(-d).toNat else Z*2^d.toNat)=Z*2^d.toNat:=fun d Z h=>if_neg (by omega);obtain ⟨P,hP⟩:∃ P,X*2^(e1-g).toNat=P:=⟨_,rfl⟩;obtain ⟨Q,hQ⟩:∃ Q,Y*2^(f1-g).toNat=Q:=⟨_,rfl⟩
         have HP:Hid (∀ (u:World) (v:Value),Below w.heap.size w u→Nt (w.heap.size+3) u v X→Calls Tryz.prog 126 #[v,.int .i64 (e1-g)] u fun r w'=>∃ v,r=.returned v∧Nt u.heap.size w' v P∧Below u.heap.size u w'):=fun u v hu hN=>by
          have:=moved_any hN (e1-g) (by omega) (by omega) hX0 (by omega);rw [up _ _ (by omega),hP] at this;exact this
         have HQ:Hid (∀ (u:World) (v:Value),Below w.heap.size w u→Nt (w.heap.size+3) u v Y→Calls Tryz.prog 126 #[v,.int .i64 (f1-g)] u fun r w'=>∃ v,r=.returned v∧Nt u.heap.size w' v Q∧Below u.heap.size u w'):=fun u v hu hN=>by
          have:=moved_any hN (f1-g) (by omega) (by omega) hY0 (by omega);rw [up _ _ (by omega),hQ] at this;exact this
         have bP:bl P=bl X+(e1-g).toNat:=by rw [←hP];exact bl_up _ _ hX0
         have bQ:bl Q=bl Y+(f1-g).toNat:=by rw [←hQ];exact bl_up _ _ hY0
         have s1:=FX.size;have s2:=FY.size;have wP:=ws_len_bl P;have wQ:=ws_len_bl Q
         have kind:(if e1<f1 then addUp m1 Y f1 n1 X e1 else addUp n1 X e1 m1 Y f1)=(if 8192<(ws P).length∨8192<(ws Q).length then none else if n1=m1 then mkS n1 (P+Q) g else if Q≤P then mkS n1 (P-Q) g else mkS m1 (Q-P) g):=by
          rcases hg2 with ⟨rfl,h⟩|⟨rfl,h⟩
          · rw [if_neg (by omega)];rw [Int.sub_self,show (0:Int).toNat=0 from rfl,Nat.pow_zero,Nat.mul_one] at hQ;subst hQ;unfold addUp;rw [hP]
            by_cases hL:262144<bl X+(e1-g).toNat
            · rw [if_pos hL,if_pos (.inl (by omega))]
            · rw [if_neg hL,if_neg (show ¬ (8192<(ws P).length∨8192<(ws Y).length) by omega)]
              by_cases hs:n1=m1
              · rw [if_pos hs,if_pos hs]
              · rw [if_neg hs,if_neg hs,←(notb hs).1]
          · rw [Int.sub_self,show (0:Int).toNat=0 from rfl,Nat.pow_zero,Nat.mul_one] at hP;subst hP
            by_cases he:g<f1
            · rw [if_pos he];unfold addUp;rw [hQ]
              by_cases hL:262144<bl Y+(f1-g).toNat
              · rw [if_pos hL,if_pos (.inr (by omega))]
              · rw [if_neg hL,if_neg (show ¬ (8192<(ws X).length∨8192<(ws Q).length) by omega)]
                by_cases hs:m1=n1
                · rw [if_pos hs,if_pos hs.symm,hs,Nat.add_comm]
                · rw [if_neg hs,if_neg (notb hs).2.2,←(notb hs).1];rcases Nat.lt_trichotomy X Q with q|q|q
                  · rw [if_pos (show X≤Q by omega),if_neg (show ¬ Q≤X by omega)]
                  · rw [q];simp only [Nat.le_refl,if_true,Nat.sub_self];exact mkS_z2 _ _ _ _
                  · rw [if_neg (show ¬ X≤Q by omega),if_pos (show Q≤X by omega)]
            · obtain rfl:g=f1:=by omega
              rw [if_neg he];rw [Int.sub_self,show (0:Int).toNat=0 from rfl,Nat.pow_zero,Nat.mul_one] at hQ;subst hQ;unfold addUp;rw [Int.sub_self,show (0:Int).toNat=0 from rfl,Nat.pow_zero,Nat.mul_one,if_neg (show ¬ 262144<bl X+0 by omega),if_neg (show ¬ (8192<(ws X).length∨8192<(ws Y).length) by omega)]
              by_cases hs:n1=m1
              · rw [if_pos hs,if_pos hs]
              · rw [if_neg hs,if_neg hs,←(notb hs).1]
         rw [kind];clear kind;have cmpz:∀ u p q s t,Arg u p (ws P).length s (ws P)→Arg u q (ws Q).length t (ws Q)→Calls Tryz.prog 130 #[.slice p (ws P).length s,.slice q (ws Q).length t] u fun r w'=>r=.returned (.int .i64 (cmpI P Q))∧Below u.heap.size u w':=fun u p q s t hA hB=>rCmp_arg hA hB (cmpI P Q) (by rw [val_ws,val_ws])
         by_cases c1:8192<(ws P).length
         · rw [if_pos (.inl c1)];exact (radd_lp n m e f n1 m1 X Y e1 f1 lX lY (len_ne hX0) (len_ne hY0) (by omega) (by omega) (by omega) (by omega) g hg (by omega) (by omega) P Q (by omega) (by omega) c1 M1 M2 HP HQ).mono fun r w' h=>zero h
         · by_cases c2:8192<(ws Q).length
           · rw [if_pos (.inr c2)];exact (radd_lq n m e f n1 m1 X Y e1 f1 lX lY (len_ne hX0) (len_ne hY0) (by omega) (by omega) (by omega) (by omega) g hg (by omega) (by omega) P Q (by omega) (by omega) (by omega) c2 M1 M2 HP HQ).mono fun r w' h=>zero h
           · rw [if_neg (by omega)]
             by_cases hs:n1=m1
             · rw [if_pos hs]
               have lL:(ws (P+Q)).length≤8193:=by
                have h1:P<pw 8192:=(ws_len_le _ _).1 (by omega);have h2:Q<pw 8192:=(ws_len_le _ _).1 (by omega);exact (ws_len_le _ _).2 (pw_add_lt h1 h2)
               exact radd_sum n m e f n1 m1 X Y e1 f1 lX lY (len_ne hX0) (len_ne hY0) (by omega) (by omega) (by omega) (by omega) g hg (by omega) (by omega) P Q (by omega) (by omega) (by omega) (by omega) (by simp [hs]) (P+Q) (by omega) _ _ _ _ (mkS_len n1 (P+Q) g) M1 M2 HP HQ
                (hid fun u p q s t hu hA hB=>rPlus_arg hA hB (by omega) (by omega) (by rw [val_ws,val_ws]))
                (hid fun u p s hu hA=>by have:=rtold_any hA (by omega) n1 g (by omega) (by omega);rw [val_ws] at this;exact this)
             · rw [if_neg hs]
               by_cases hq:Q≤P
               · rw [if_pos hq];have lL:(ws (P-Q)).length≤8192:=(ws_len_le _ _).2 (Nat.lt_of_le_of_lt (Nat.sub_le _ _) ((ws_len_le P 8192).1 (by omega)));have hz:0≤cmpI P Q:=by unfold cmpI;rw [if_neg (by omega)];split <;> omega
                 exact radd_ge n m e f n1 m1 X Y e1 f1 lX lY (len_ne hX0) (len_ne hY0) (by omega) (by omega) (by omega) (by omega) g hg (by omega) (by omega) P Q (by omega) (by omega) (by omega) (by omega) (by simp [hs]) (cmpI P Q) hz (P-Q) (by omega) _ _ _ _ (mkS_len n1 (P-Q) g) M1 M2 HP HQ
                  (hid fun u p q s t hu hA hB=>cmpz u p q s t hA hB)
                  (hid fun u p q s t hu hA hB=>rMinus_arg hA hB (by omega) (by omega) (by rw [val_ws,val_ws];omega))
                  (hid fun u p s hu hA=>by have:=rtold_any hA (by omega) n1 g (by omega) (by omega);rw [val_ws] at this;exact this)
               · rw [if_neg hq];have lL:(ws (Q-P)).length≤8192:=(ws_len_le _ _).2 (Nat.lt_of_le_of_lt (Nat.sub_le _ _) ((ws_len_le Q 8192).1 (by omega)));have hz:cmpI P Q<0:=by unfold cmpI;rw [if_pos (by omega)];omega
                 exact radd_lt n m e f n1 m1 X Y e1 f1 lX lY (len_ne hX0) (len_ne hY0) (by omega) (by omega) (by omega) (by omega) g hg (by omega) (by omega) P Q (by omega) (by omega) (by omega) (by omega) (by simp [hs]) (cmpI P Q) hz (Q-P) (by omega) _ _ _ _ (mkS_len m1 (Q-P) g) M1 M2 HP HQ
                  (hid fun u p q s t hu hA hB=>cmpz u p q s t hA hB)
                  (hid fun u p q s t hu hA hB=>rMinus_arg hA hB (by omega) (by omega) (by rw [val_ws,val_ws];omega))
                  (hid fun u p s hu hA=>by have:=rtold_any hA (by omega) m1 g (by omega) (by omega);rw [val_ws] at this;exact this)
end
section
open Go.RowKit
def cmpP (X:Nat) (e:Int) (Y:Nat) (f:Int):Int:=if e<f then cmpI X (Y*2^(f-e).toNat) else cmpI (X*2^(e-f).toNat) Y
theorem cmpI_neg (x y:Nat):-cmpI x y=cmpI y x:=by
 unfold cmpI;rcases Nat.lt_trichotomy x y with h|h|h
 · rw [if_pos h,if_neg (by omega),if_pos h];rfl
 · subst h;rw [if_neg (by omega),if_neg (by omega)];rfl
 · rw [if_neg (by omega),if_pos h,if_pos h]
theorem cmpP_neg (X:Nat) (e:Int) (Y:Nat) (f:Int):-cmpP X e Y f=cmpP Y f X e:=by
 unfold cmpP
 by_cases h:e<f
 · rw [if_pos h,if_neg (by omega),cmpI_neg]
 · rw [if_neg h]
   by_cases h2:f<e
   · rw [if_pos h2,cmpI_neg]
   · rw [if_neg h2,cmpI_neg,show (e-f).toNat=0 by omega,show (f-e).toNat=0 by omega,Nat.pow_zero,Nat.mul_one,Nat.mul_one]
theorem cmpI_bl {x y:Nat}(h:bl x≠bl y):cmpI x y=cmpI (bl x) (bl y):=by
 unfold cmpI;rcases Nat.lt_or_ge (bl x) (bl y) with k|k
 · have:x<y:=by
    rcases Nat.lt_or_ge x y with q|q
    · exact q
    · have:=bl_mono q;omega
   rw [if_pos k,if_pos this]
 · have:y<x:=by
    rcases Nat.lt_or_ge y x with q|q
    · exact q
    · have:=bl_mono q;omega
   rw [if_neg (by omega:¬ x<y),if_pos this,if_neg (by omega:¬ bl x<bl y),if_pos (by omega:bl y<bl x)]
theorem cmpI_range (x y:Nat):cmpI x y=-1∨cmpI x y=0∨cmpI x y=1:=by
 unfold cmpI;split
 · exact .inl rfl
 · split
   · exact .inr (.inr rfl)
   · exact .inr (.inl rfl)
theorem cmpP_range (X:Nat) (e:Int) (Y:Nat) (f:Int):cmpP X e Y f=-1∨cmpP X e Y f=0∨cmpP X e Y f=1:=by
 unfold cmpP;split <;> exact cmpI_range _ _
end
section
open Go.RowKit
def cmpZ (x y:Int):Int:=if x<y then -1 else if y<x then 1 else 0
theorem cmpZ_nat (x y:Nat):cmpZ (x:Int) (y:Int)=cmpI x y:=by
 unfold cmpZ cmpI;simp only [Int.ofNat_lt]
end
section
open Go.RowKit
theorem u64_apart (e f:Int) (he0:-9223372036854775808≤e) (he1:e≤9223372036854775807) (hf0:-9223372036854775808≤f) (hf1:f≤9223372036854775807) (h:f≤e):IntKind.u64.wrap (IntKind.u64.wrap e-IntKind.u64.wrap f)=(((e-f).toNat:Nat):Int):=by
 rw [IntKind.wrap_u64,IntKind.wrap_u64,IntKind.wrap_u64];omega
theorem bl_arg {w:World}{a:Option Addr}{n c:Nat}{xs:List Nat}(h1:Arg w a n c xs):bl (val xs)≤1125899906842624:=by
 have:=val_lt xs h1.wf;rw [←h1.len] at this;have:=bl_pw _ _ this;have:=h1.big;omega
end
section
open Go.RowKit
def sg1 (n:Bool):Int:=if n then -1 else 1
def zv (B:Int) (x:Bool×Nat×Int):Int:=sg1 x.1*((x.2.1*2^(x.2.2-B).toNat:Nat):Int)
theorem pow_split (e l B:Int) (h:B≤e) (hl:0≤l):(2:Nat)^(e+l-B).toNat=2^l.toNat*2^(e-B).toNat:=by
 rw [←Nat.pow_add];congr 1;omega
theorem zv_mkS {n:Bool}{X:Nat}{e:Int}{x:Bool×Nat×Int}(h:mkS n X e=some x) (B:Int) (hB:X=0∨B≤e):zv B x=sg1 n*((X*2^(e-B).toNat:Nat):Int):=by
 unfold mkS at h
 by_cases h0:X=0
 · rw [if_pos h0] at h
   cases h
   subst h0;simp [zv]
 · rw [if_neg h0] at h
   split at h
   · cases h
   · cases h
     have hB':B≤e:=by rcases hB with h | h;exact absurd h h0;exact h
     obtain ⟨m,hm,hd,_⟩:=odd_part X h0;show sg1 n*((X/2^lo X*2^(e+(lo X:Int)-B).toNat:Nat):Int)=_;rw [pow_split e (lo X) B hB' (by omega),Int.toNat_natCast,←Nat.mul_assoc];have hx:X/2^lo X*2^lo X=X:=by rw [hd];rw [Nat.mul_comm];exact hm.symm
     rw [hx]
theorem sg1_ne {n m:Bool}(h:¬ n=m):sg1 m=-sg1 n:=by cases n <;> cases m <;> first | exact absurd rfl h | rfl
theorem sg1_not (n:Bool):sg1 (!n)=-sg1 n:=by cases n <;> rfl
theorem zv_addUp {n m:Bool}{X Y:Nat}{e f:Int}{z:Bool×Nat×Int}(h:addUp n X e m Y f=some z) (hfe:f≤e) (B:Int) (hB:B≤f):zv B z=zv B (n,X,e)+zv B (m,Y,f):=by
 unfold addUp at h
 split at h
 · cases h
 · have key:X*2^(e-f).toNat*2^(f-B).toNat=X*2^(e-B).toNat:=by
    rw [Nat.mul_assoc,←Nat.pow_add,show (e-f).toNat+(f-B).toNat=(e-B).toNat by omega]
   show zv B z=sg1 n*((X*2^(e-B).toNat:Nat):Int)+sg1 m*((Y*2^(f-B).toNat:Nat):Int);generalize 2^(e-f).toNat=P at h key
   split at h
   · rename_i hnm;rw [zv_mkS h B (.inr hB),hnm,←Int.mul_add,Nat.add_mul,key,Int.natCast_add]
   · rename_i hnm
     split at h
     · rename_i hle;rw [zv_mkS h B (.inr hB),sg1_ne hnm,Nat.sub_mul,key,Int.ofNat_sub (by rw [←key];exact Nat.mul_le_mul_right _ hle),Int.mul_sub,Int.neg_mul];omega
     · rename_i hle;rw [zv_mkS h B (.inr hB),sg1_not,sg1_ne hnm,Nat.sub_mul,key,Int.ofNat_sub (by rw [←key];exact Nat.mul_le_mul_right _ (by omega)),Int.mul_sub,Int.neg_mul,Int.neg_mul];omega
theorem zv_zero {x:Bool×Nat×Int}(B:Int) (h:x.2.1=0):zv B x=0:=by unfold zv;rw [h];simp
theorem zv_addF {x y z:Bool×Nat×Int}(h:addF x y=some z) (B:Int) (hx:x.2.1=0∨B≤x.2.2) (hy:y.2.1=0∨B≤y.2.2):zv B z=zv B x+zv B y:=by
 obtain ⟨n,X,e⟩:=x;obtain ⟨m,Y,f⟩:=y;unfold addF at h;simp only at h hx hy
 by_cases h0:X=0
 · rw [if_pos h0] at h
   cases h
   rw [zv_zero (x:=(n,X,e)) B h0,Int.zero_add]
 · rw [if_neg h0] at h
   by_cases h1:Y=0
   · rw [if_pos h1] at h
     cases h
     rw [zv_zero (x:=(m,Y,f)) B h1,Int.add_zero]
   · rw [if_neg h1] at h;have hx':B≤e:=by rcases hx with k | k;exact absurd k h0;exact k
     have hy':B≤f:=by rcases hy with k | k;exact absurd k h1;exact k
     by_cases h2:e<f
     · rw [if_pos h2] at h;rw [zv_addUp h (by omega) B hx',Int.add_comm]
     · rw [if_neg h2] at h;exact zv_addUp h (by omega) B hy'
theorem odd_pow {X Y:Nat}(a b:Nat) (hX:X%2=1) (hY:Y%2=1) (h:X*2^a=Y*2^b):X=Y∧a=b:=by
 have key:∀ (a b X Y:Nat),X%2=1→Y%2=1→X*2^a=Y*2^b→a≤b:=by
  intro a b X Y hX hY h;rcases Nat.lt_or_ge b a with k|k
  · exfalso;obtain ⟨d,rfl⟩:∃ d,a=b+(d+1):=⟨a-b-1,by omega⟩;rw [Nat.pow_add,Nat.mul_comm (2^b),←Nat.mul_assoc] at h;have:=Nat.eq_of_mul_eq_mul_right (Nat.two_pow_pos b) h;rw [Nat.pow_succ,←Nat.mul_assoc] at this;omega
  · exact k
 have h1:=key a b X Y hX hY h;have h2:=key b a Y X hY hX h.symm;have e:a=b:=by omega
 subst e;exact ⟨Nat.eq_of_mul_eq_mul_right (Nat.two_pow_pos a) h,rfl⟩
theorem zv_inj {n m:Bool}{X Y:Nat}{e f:Int}(FX:Frm n X e) (FY:Frm m Y f) (B:Int) (hB:B≤-1048576) (h:zv B (n,X,e)=zv B (m,Y,f)):n=m∧X=Y∧e=f:=by
 have hx:=FX.down;have hy:=FY.down;unfold zv at h;simp only at h;have hpX:0<2^(e-B).toNat:=Nat.two_pow_pos _;have hpY:0<2^(f-B).toNat:=Nat.two_pow_pos _;rcases FX.odd with oX|⟨rfl,rfl,rfl⟩
 · rcases FY.odd with oY | ⟨rfl,rfl,rfl⟩
   · have pX:0<X*2^(e-B).toNat:=Nat.mul_pos (by omega) hpX;have pY:0<Y*2^(f-B).toNat:=Nat.mul_pos (by omega) hpY
     have hn:n=m:=by
      generalize X*2^(e-B).toNat=P at h pX;generalize Y*2^(f-B).toNat=Q at h pY
      cases n <;> cases m <;> first | rfl | (simp only [sg1,Bool.false_eq_true,if_true,if_false] at h;omega)
     subst hn
     have hPQ:X*2^(e-B).toNat=Y*2^(f-B).toNat:=by
      generalize X*2^(e-B).toNat=P at h;generalize Y*2^(f-B).toNat=Q at h
      cases n <;> (simp only [sg1,Bool.false_eq_true,if_true,if_false] at h;omega)
     obtain ⟨h1,h2⟩:=odd_pow _ _ oX oY hPQ;exact ⟨rfl,h1,by omega⟩
   · exfalso;have pX:0<X*2^(e-B).toNat:=Nat.mul_pos (by omega) hpX;generalize X*2^(e-B).toNat=P at h pX;rw [Nat.zero_mul] at h
     cases n <;> (simp only [sg1,Bool.false_eq_true,if_true,if_false] at h;omega)
 · rcases FY.odd with oY | ⟨rfl,rfl,rfl⟩
   · exfalso;have pY:0<Y*2^(f-B).toNat:=Nat.mul_pos (by omega) hpY;generalize Y*2^(f-B).toNat=Q at h pY;rw [Nat.zero_mul] at h
     cases m <;> (simp only [sg1,Bool.false_eq_true,if_true,if_false] at h;omega)
   · exact ⟨rfl,rfl,rfl⟩
end
end Go.Proofs.YtepkabljmpbmaaaGreatDoor
