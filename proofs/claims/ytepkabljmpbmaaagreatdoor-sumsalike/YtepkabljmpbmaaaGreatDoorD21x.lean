import Derived.Test.YtepkabljmpbmaaaGreatDoorD16x
import Derived.Deep.Cut
set_option linter.unusedVariables false
set_option linter.unusedSimpArgs false
set_option maxHeartbeats 16000000
set_option maxRecDepth 20000
namespace Go.Proofs.YtepkabljmpbmaaaGreatDoor
section
open Go.RowKit
def Pk (w:World) (g:Nat) (f:Int) (e:Int) (t:Bool) (m:Int):Prop:=w.heap[g]?=some (.cells #[.int .u64 f,.int .i64 e,.bool t,.int .i64 m] 124 (0,0))
theorem Pk.lt {w:World}{g:Nat}{f e:Int}{t:Bool}{m:Int}(h:Pk w g f e t m):g<w.heap.size:=(Array.getElem?_eq_some_iff.1 h).1
theorem Pk.below {w w':World}{g:Nat}{f e:Int}{t:Bool}{m:Int}(h:Pk w g f e t m) (hb:Below w.heap.size w w'):Pk w' g f e t m:=by
 unfold Pk;rw [hb.block g h.lt];exact h
theorem Pk.facts {w:World}{g:Nat}{f e:Int}{t:Bool}{m:Int}(h:Pk w g f e t m) :
 w.cell? ⟨g,0,none⟩=some (.int .u64 f)∧w.cell? ⟨g,1,none⟩=some (.int .i64 e)∧w.cell? ⟨g,2,none⟩=some (.bool t)∧w.cell? ⟨g,3,none⟩=some (.int .i64 m) ∧
 w.frozen? ⟨g,0,none⟩=false∧w.frozen? ⟨g,1,none⟩=false∧w.frozen? ⟨g,2,none⟩=false∧w.frozen? ⟨g,3,none⟩=false:=by
 unfold Pk at h;simp [World.cell?,World.frozen?,h]
def Wk (w:World) (g:Nat) (a b c:Int):Prop:=w.heap[g]?=some (.cells #[.int .i64 a,.int .i64 b,.int .i64 c] 102 (0,0))
theorem Wk.facts {w:World}{g:Nat}{a b c:Int}(h:Wk w g a b c):w.cell? ⟨g,0,none⟩=some (.int .i64 a)∧w.cell? ⟨g,1,none⟩=some (.int .i64 b)∧w.cell? ⟨g,2,none⟩=some (.int .i64 c):=by
 unfold Wk at h;simp [World.cell?,h]
theorem placed_begin (w:World) (n:Bool) (v:Value) (e a b c:Int) (W:World) (hW:W=((w.alloc (.cells #[.bool n,v,.int .i64 e] 70)).alloc (.cells #[.int .i64 a,.int .i64 b,.int .i64 c] 102)).alloc (.cells #[.int .u64 0,.int .i64 0,.bool false,.int .i64 0] 124)) :
 Below w.heap.size w W∧W.heap.size=w.heap.size+3∧Dk W w.heap.size n v e∧Wk W (w.heap.size+1) a b c∧Pk W (w.heap.size+1+1) 0 0 false 0:=by
 subst hW;refine ⟨((below_alloc w _).alloc (by simp) _).alloc (by simp;omega) _,by simp,((Dk.new w n v e).alloc _).alloc _,?_,?_⟩
 · unfold Wk;rw [Below.heap_alloc _ _ _ (by simp)];have:=heap_alloc_new (w.alloc (.cells #[.bool n,v,.int .i64 e] 70)) (.cells #[.int .i64 a,.int .i64 b,.int .i64 c] 102);simpa using this
 · have:=heap_alloc_new ((w.alloc (.cells #[.bool n,v,.int .i64 e] 70)).alloc (.cells #[.int .i64 a,.int .i64 b,.int .i64 c] 102)) (.cells #[.int .u64 0,.int .i64 0,.bool false,.int .i64 0] 124);unfold Pk;simpa using this
def plc (dg:Nat) (least top:Int) (X:Nat) (e:Int):Nat×Int×Bool×Int :=
 if top<e+bl X then (2^dg-1,top-dg,false,1)
 else
  let ex:=max (e+bl X-dg) least
  let off:=ex-e
  if off≤0 then (X*2^(-off).toNat,ex,true,-1)
  else (X/2^off.toNat,ex,false,if off=1 then 0 else if X/2^(off-1).toNat%2=1 then 1 else -1)
abbrev st4 (w:World) (g:Nat) (x y z t:Value):World:=(((w.setCell ⟨g,0,none⟩ x).setCell ⟨g,1,none⟩ y).setCell ⟨g,2,none⟩ z).setCell ⟨g,3,none⟩ t
theorem Pk.set {w:World}{g:Nat}{f e:Int}{t:Bool}{m:Int}(h:Pk w g f e t m) (f' e':Int) (t':Bool) (m':Int):Pk (st4 w g (.int .u64 f') (.int .i64 e') (.bool t') (.int .i64 m')) g f' e' t' m':=by
 unfold Pk at h ⊢;simp [st4,World.setCell,Array.getElem?_modify,h]
theorem Pk.drew {w:World}{g:Nat}{f e:Int}{t:Bool}{m:Int}(h:Pk w g f e t m):Pk w.drew g f e t m:=h
theorem Pk.alloc {w:World}{g:Nat}{f e:Int}{t:Bool}{m:Int}(h:Pk w g f e t m) (o:Obj):Pk (w.alloc o) g f e t m:=h.below (below_alloc w o)
theorem placed_res (W:World) (g:Nat) (f e:Int) (t:Bool) (m:Int) (tmps:Array Value) (ht:tmps[4]?.getD undef=.pointer (some ⟨g,0,none⟩)) (D:Pk W g f e t m) :
 (results Tryz.f80 tmps).run Tryz.prog W=.ok (.agg #[.int .u64 f,.int .i64 e,.bool t,.int .i64 m]) W:=by
 obtain ⟨x0,x1,x2,x3,xf0,xf1,xf2,xf3⟩:=D.facts;simp [results,Tryz.results80,ht,go_sem,x0,x1,x2,x3]
theorem placed_far64 {w:World}{a:Option Addr}{l c:Nat}(n:Bool) (X:Nat) (e:Int) (b:Nat) (he0:-1048576≤e) (he1:e≤1048576) (hb:b≤262144) (hfar:1024<e+(b:Int))
 (HL:Hid (∀ u,Below w.heap.size w u→Calls Tryz.prog 104 #[.slice a l c] u fun r w'=>r=.returned (.int .i64 (b:Nat))∧w'=u)) :
 Calls Tryz.prog 80 #[.agg #[.bool n,.slice a l c,.int .i64 e],.agg #[.int .i64 53,.int .i64 (-1074),.int .i64 1024]] w fun r w'=>r=.returned (.agg #[.int .u64 9007199254740991,.int .i64 971,.bool false,.int .i64 1])∧Below w.heap.size w w':=by
 obtain ⟨W1,hW1⟩:∃ W,W=((w.alloc (.cells #[.bool n,.slice a l c,.int .i64 e] 70)).alloc (.cells #[.int .i64 53,.int .i64 (-1074),.int .i64 1024] 102)).alloc (.cells #[.int .u64 0,.int .i64 0,.bool false,.int .i64 0] 124):=⟨_,rfl⟩;obtain ⟨hB,hz1,DD,DW,DP⟩:=placed_begin w n (.slice a l c) e 53 (-1074) 1024 W1 hW1;have H1:=hid (HL.out W1 hB);obtain ⟨x0,x1,x2,xf0,xf1,xf2⟩:=DD.facts;obtain ⟨y0,y1,y2⟩:=DW.facts;obtain ⟨p0,p1,p2,p3,pf0,pf1,pf2,pf3⟩:=DP.facts;have F0:=qsd (show Fin w.heap.size (w.heap.size+3) w W1 (.slice none 0 0) 0 from ⟨Nt.nil _ _,hB,by omega⟩);have SB:=(qsd (ai hB (ai hz1 DP)));clear hB hz1 DD DW DP HL;go_enter Tryz.func80,Tryz.ntmps80;go_wp2_with fail;rw [←hW1];clear hW1;refine H1.out.mono ?_;rintro r ww ⟨rfl,hw⟩;rw [hw];clear hw ww H1;go_wp2
 go_region
 all_goals (
  go_wp2;refine bodyPost_ret (placed_res _ (w.heap.size+1+1) 9007199254740991 971 false 1 _ rfl (by repeat (with_reducible first | exact SB.out.2.2 | refine Pk.drew ?_ | refine Pk.set (f:=0) (e:=0) (t:=false) (m:=0) ?_ _ _ _ _))) rfl ⟨rfl,?_⟩;refine Fin.bel (m:=w.heap.size+3) (v:=.slice none 0 0) (X:=0) ?_
  repeat (with_reducible first | exact F0.out | refine Fin.drew ?_ | refine Fin.alloc ?_ _ | refine Fin.set ?_ _ _ _ (by omega) (by omega)))
theorem placed_64one {w:World}{a:Option Addr}{l c:Nat}(n:Bool) (e ex off:Int) (b F:Nat) (he0:-1048576≤e) (he1:e≤1048576) (hb:b≤262144) (hF:F<18446744073709551616) (lF:(ws F).length≤100) (hnf:e+(b:Int)≤1024)
 (hmx:max (e+(b:Int)-53) (-1074)=ex) (eof:ex-e=off) (hex0:-2000≤ex) (hex1:ex≤2000) (hof0:-2000000≤off) (hof1:off≤2000000) (tt:Bool) (htt:decide (off≤0)=tt) (ho:(off==1)=true)
 (HL:Hid (∀ u,Below w.heap.size w u→Calls Tryz.prog 104 #[.slice a l c] u fun r w'=>r=.returned (.int .i64 (b:Nat))∧w'=u))
 (HS:Hid (∀ u,Below w.heap.size w u→Calls Tryz.prog 83 #[.slice a l c,.int .i64 (-off)] u fun r w'=>∃ v,r=.returned (.tuple #[v,.int .i64 0])∧Nt u.heap.size w' v F∧Below u.heap.size u w'))
 (HM:Hid (∀ (u:World) (p:Option Addr) (q:Nat),Arg u p (ws F).length q (ws F)→Calls Tryz.prog 109 #[.slice p (ws F).length q] u fun r w'=>r=.returned (.tuple #[.int .u64 (F:Nat),.int .i64 0])∧w'=u)) :
 Calls Tryz.prog 80 #[.agg #[.bool n,.slice a l c,.int .i64 e],.agg #[.int .i64 53,.int .i64 (-1074),.int .i64 1024]] w fun r w'=>r=.returned (.agg #[.int .u64 (F:Nat),.int .i64 ex,.bool tt,.int .i64 0])∧Below w.heap.size w w':=by
 obtain ⟨W1,hW1⟩:∃ W,W=((w.alloc (.cells #[.bool n,.slice a l c,.int .i64 e] 70)).alloc (.cells #[.int .i64 53,.int .i64 (-1074),.int .i64 1024] 102)).alloc (.cells #[.int .u64 0,.int .i64 0,.bool false,.int .i64 0] 124):=⟨_,rfl⟩;obtain ⟨hB,hz1,DD,DW,DP⟩:=placed_begin w n (.slice a l c) e 53 (-1074) 1024 W1 hW1;have H1:=hid (HL.out W1 hB);have H2:=hid (HS.out W1 hB);obtain ⟨x0,x1,x2,xf0,xf1,xf2⟩:=DD.facts;obtain ⟨y0,y1,y2⟩:=DW.facts;have SB:=(qsd (ai hB (ai hz1 (ai DD DP))));clear hB hz1 DD DW DP HL HS;go_enter Tryz.func80,Tryz.ntmps80;go_wp2_with fail;rw [←hW1];clear hW1;refine H1.out.mono ?_;rintro r ww ⟨rfl,hw⟩;rw [hw];clear hw ww H1;go_wp2_with fail
 try simp only [hmx,eof]
 refine H2.out.mono ?_;rintro r u1 ⟨v,rfl,hN,hbb⟩;obtain ⟨a1,c1,rfl,A1⟩:=hN.arg (by omega);obtain ⟨hB,hz1,DD,DP⟩:=SB.out;have H3:=hid (HM.out u1 a1 c1 A1);obtain ⟨z0,z1,z2,zf0,zf1,zf2⟩:=(DD.below hbb).facts;have DP1:=DP.below hbb;obtain ⟨p0,p1,p2,p3,pf0,pf1,pf2,pf3⟩:=DP1.facts;have F0:=qsd (show Fin w.heap.size (w.heap.size+3) w u1 (.slice none 0 0) 0 from ⟨Nt.nil _ _,hB.trans (hbb.mono (by omega)),by have:=hbb.size;omega⟩);have hz:w.heap.size+1+1<u1.heap.size:=by have:=hbb.size;omega
 have hz':w.heap.size<u1.heap.size:=by omega
 have SP:=qsd DP1;clear hN hbb A1 hB hz1 DD DP DP1 H2 HM SB;go_wp2_with fail
 try simp only [hmx,eof]
 refine H3.out.mono ?_;rintro r ww ⟨rfl,hw⟩;rw [hw];clear hw ww H3;go_wp2;refine bodyPost_ret (placed_res _ (w.heap.size+1+1) (F:Nat) ex tt 0 _ rfl (by repeat (with_reducible first | exact SP.out | refine Pk.alloc ?_ _ | refine Pk.drew ?_ | refine Pk.set (f:=0) (e:=0) (t:=false) (m:=0) ?_ _ _ _ _))) rfl ⟨rfl,?_⟩;refine Fin.bel (m:=w.heap.size+3) (v:=.slice none 0 0) (X:=0) ?_
 repeat (with_reducible first | exact F0.out | refine Fin.drew ?_ | refine Fin.alloc ?_ _ | refine Fin.set ?_ _ _ _ (by omega) (by omega))
theorem placed_64bt {w:World}{a:Option Addr}{l c:Nat}(n:Bool) (e ex off:Int) (b F:Nat) (he0:-1048576≤e) (he1:e≤1048576) (hb:b≤262144) (hF:F<18446744073709551616) (lF:(ws F).length≤100) (hnf:e+(b:Int)≤1024)
 (hmx:max (e+(b:Int)-53) (-1074)=ex) (eof:ex-e=off) (hex0:-2000≤ex) (hex1:ex≤2000) (hof0:-2000000≤off) (hof1:off≤2000000) (tt:Bool) (htt:decide (off≤0)=tt) (ho:(off==1)=false)
 (HL:Hid (∀ u,Below w.heap.size w u→Calls Tryz.prog 104 #[.slice a l c] u fun r w'=>r=.returned (.int .i64 (b:Nat))∧w'=u))
 (HS:Hid (∀ u,Below w.heap.size w u→Calls Tryz.prog 83 #[.slice a l c,.int .i64 (-off)] u fun r w'=>∃ v,r=.returned (.tuple #[v,.int .i64 0])∧Nt u.heap.size w' v F∧Below u.heap.size u w'))
 (HM:Hid (∀ (u:World) (p:Option Addr) (q:Nat),Arg u p (ws F).length q (ws F)→Calls Tryz.prog 109 #[.slice p (ws F).length q] u fun r w'=>r=.returned (.tuple #[.int .u64 (F:Nat),.int .i64 0])∧w'=u))
 (HB:Hid (∀ u,Below w.heap.size w u→Calls Tryz.prog 110 #[.slice a l c,.int .i64 (off-1)] u fun r w'=>r=.returned (.bool true)∧w'=u)) :
 Calls Tryz.prog 80 #[.agg #[.bool n,.slice a l c,.int .i64 e],.agg #[.int .i64 53,.int .i64 (-1074),.int .i64 1024]] w fun r w'=>r=.returned (.agg #[.int .u64 (F:Nat),.int .i64 ex,.bool tt,.int .i64 1])∧Below w.heap.size w w':=by
 obtain ⟨W1,hW1⟩:∃ W,W=((w.alloc (.cells #[.bool n,.slice a l c,.int .i64 e] 70)).alloc (.cells #[.int .i64 53,.int .i64 (-1074),.int .i64 1024] 102)).alloc (.cells #[.int .u64 0,.int .i64 0,.bool false,.int .i64 0] 124):=⟨_,rfl⟩;obtain ⟨hB,hz1,DD,DW,DP⟩:=placed_begin w n (.slice a l c) e 53 (-1074) 1024 W1 hW1;have H1:=hid (HL.out W1 hB);have H2:=hid (HS.out W1 hB);obtain ⟨x0,x1,x2,xf0,xf1,xf2⟩:=DD.facts;obtain ⟨y0,y1,y2⟩:=DW.facts;have SB:=(qsd (ai hB (ai hz1 (ai DD DP))));clear hB hz1 DD DW DP HL HS;go_enter Tryz.func80,Tryz.ntmps80;go_wp2_with fail;rw [←hW1];clear hW1;refine H1.out.mono ?_;rintro r ww ⟨rfl,hw⟩;rw [hw];clear hw ww H1;go_wp2_with fail
 try simp only [hmx,eof]
 refine H2.out.mono ?_;rintro r u1 ⟨v,rfl,hN,hbb⟩;obtain ⟨a1,c1,rfl,A1⟩:=hN.arg (by omega);obtain ⟨hB,hz1,DD,DP⟩:=SB.out;have H3:=hid (HM.out u1 a1 c1 A1);obtain ⟨z0,z1,z2,zf0,zf1,zf2⟩:=(DD.below hbb).facts;have DP1:=DP.below hbb;obtain ⟨p0,p1,p2,p3,pf0,pf1,pf2,pf3⟩:=DP1.facts;have F0:=qsd (show Fin w.heap.size (w.heap.size+3) w u1 (.slice none 0 0) 0 from ⟨Nt.nil _ _,hB.trans (hbb.mono (by omega)),by have:=hbb.size;omega⟩);have hz:w.heap.size+1+1<u1.heap.size:=by have:=hbb.size;omega
 have hz':w.heap.size<u1.heap.size:=by omega
 have SP:=qsd DP1;clear hN hbb A1 hB hz1 DD DP DP1 H2 HM SB;go_wp2_with fail
 try simp only [hmx,eof]
 refine H3.out.mono ?_;rintro r ww ⟨rfl,hw⟩;rw [hw];clear hw ww H3;have H4:=hid (HB.out (u1.alloc (.cells #[.int .u64 (F:Nat),.int .i64 ex,.bool tt,.int .i64 (-1)] 124)) (F0.out.bel.alloc F0.out.size _));clear HB;go_wp2_with fail
 try simp only [hmx,eof,htt]
 refine H4.out.mono ?_;rintro r ww ⟨rfl,hw⟩;rw [hw];clear hw ww H4;go_wp2;refine bodyPost_ret (placed_res _ (w.heap.size+1+1) (F:Nat) ex tt 1 _ rfl (by repeat (with_reducible first | exact SP.out | refine Pk.alloc ?_ _ | refine Pk.drew ?_ | refine Pk.set (f:=0) (e:=0) (t:=false) (m:=0) ?_ _ _ _ _))) rfl ⟨rfl,?_⟩;refine Fin.bel (m:=w.heap.size+3) (v:=.slice none 0 0) (X:=0) ?_
 repeat (with_reducible first | exact F0.out | refine Fin.drew ?_ | refine Fin.alloc ?_ _ | refine Fin.set ?_ _ _ _ (by omega) (by omega))
theorem placed_64bf {w:World}{a:Option Addr}{l c:Nat}(n:Bool) (e ex off:Int) (b F:Nat) (he0:-1048576≤e) (he1:e≤1048576) (hb:b≤262144) (hF:F<18446744073709551616) (lF:(ws F).length≤100) (hnf:e+(b:Int)≤1024)
 (hmx:max (e+(b:Int)-53) (-1074)=ex) (eof:ex-e=off) (hex0:-2000≤ex) (hex1:ex≤2000) (hof0:-2000000≤off) (hof1:off≤2000000) (tt:Bool) (htt:decide (off≤0)=tt) (ho:(off==1)=false)
 (HL:Hid (∀ u,Below w.heap.size w u→Calls Tryz.prog 104 #[.slice a l c] u fun r w'=>r=.returned (.int .i64 (b:Nat))∧w'=u))
 (HS:Hid (∀ u,Below w.heap.size w u→Calls Tryz.prog 83 #[.slice a l c,.int .i64 (-off)] u fun r w'=>∃ v,r=.returned (.tuple #[v,.int .i64 0])∧Nt u.heap.size w' v F∧Below u.heap.size u w'))
 (HM:Hid (∀ (u:World) (p:Option Addr) (q:Nat),Arg u p (ws F).length q (ws F)→Calls Tryz.prog 109 #[.slice p (ws F).length q] u fun r w'=>r=.returned (.tuple #[.int .u64 (F:Nat),.int .i64 0])∧w'=u))
 (HB:Hid (∀ u,Below w.heap.size w u→Calls Tryz.prog 110 #[.slice a l c,.int .i64 (off-1)] u fun r w'=>r=.returned (.bool false)∧w'=u)) :
 Calls Tryz.prog 80 #[.agg #[.bool n,.slice a l c,.int .i64 e],.agg #[.int .i64 53,.int .i64 (-1074),.int .i64 1024]] w fun r w'=>r=.returned (.agg #[.int .u64 (F:Nat),.int .i64 ex,.bool tt,.int .i64 (-1)])∧Below w.heap.size w w':=by
 obtain ⟨W1,hW1⟩:∃ W,W=((w.alloc (.cells #[.bool n,.slice a l c,.int .i64 e] 70)).alloc (.cells #[.int .i64 53,.int .i64 (-1074),.int .i64 1024] 102)).alloc (.cells #[.int .u64 0,.int .i64 0,.bool false,.int .i64 0] 124):=⟨_,rfl⟩;obtain ⟨hB,hz1,DD,DW,DP⟩:=placed_begin w n (.slice a l c) e 53 (-1074) 1024 W1 hW1;have H1:=hid (HL.out W1 hB);have H2:=hid (HS.out W1 hB);obtain ⟨x0,x1,x2,xf0,xf1,xf2⟩:=DD.facts;obtain ⟨y0,y1,y2⟩:=DW.facts;have SB:=(qsd (ai hB (ai hz1 (ai DD DP))));clear hB hz1 DD DW DP HL HS;go_enter Tryz.func80,Tryz.ntmps80;go_wp2_with fail;rw [←hW1];clear hW1;refine H1.out.mono ?_;rintro r ww ⟨rfl,hw⟩;rw [hw];clear hw ww H1;go_wp2_with fail
 try simp only [hmx,eof]
 refine H2.out.mono ?_;rintro r u1 ⟨v,rfl,hN,hbb⟩;obtain ⟨a1,c1,rfl,A1⟩:=hN.arg (by omega);obtain ⟨hB,hz1,DD,DP⟩:=SB.out;have H3:=hid (HM.out u1 a1 c1 A1);obtain ⟨z0,z1,z2,zf0,zf1,zf2⟩:=(DD.below hbb).facts;have DP1:=DP.below hbb;obtain ⟨p0,p1,p2,p3,pf0,pf1,pf2,pf3⟩:=DP1.facts;have F0:=qsd (show Fin w.heap.size (w.heap.size+3) w u1 (.slice none 0 0) 0 from ⟨Nt.nil _ _,hB.trans (hbb.mono (by omega)),by have:=hbb.size;omega⟩);have hz:w.heap.size+1+1<u1.heap.size:=by have:=hbb.size;omega
 have hz':w.heap.size<u1.heap.size:=by omega
 have SP:=qsd DP1;clear hN hbb A1 hB hz1 DD DP DP1 H2 HM SB;go_wp2_with fail
 try simp only [hmx,eof]
 refine H3.out.mono ?_;rintro r ww ⟨rfl,hw⟩;rw [hw];clear hw ww H3;have H4:=hid (HB.out (u1.alloc (.cells #[.int .u64 (F:Nat),.int .i64 ex,.bool tt,.int .i64 (-1)] 124)) (F0.out.bel.alloc F0.out.size _));clear HB;go_wp2_with fail
 try simp only [hmx,eof,htt]
 refine H4.out.mono ?_;rintro r ww ⟨rfl,hw⟩;rw [hw];clear hw ww H4;go_wp2;refine bodyPost_ret (placed_res _ (w.heap.size+1+1) (F:Nat) ex tt (-1) _ rfl (by repeat (with_reducible first | exact SP.out | refine Pk.alloc ?_ _ | refine Pk.drew ?_ | refine Pk.set (f:=0) (e:=0) (t:=false) (m:=0) ?_ _ _ _ _))) rfl ⟨rfl,?_⟩;refine Fin.bel (m:=w.heap.size+3) (v:=.slice none 0 0) (X:=0) ?_
 repeat (with_reducible first | exact F0.out | refine Fin.drew ?_ | refine Fin.alloc ?_ _ | refine Fin.set ?_ _ _ _ (by omega) (by omega))
end
section
open Go.RowKit
theorem small_ws {w:World}{p:Option Addr}{q F:Nat}(hF:F<18446744073709551616) (hA:Arg w p (ws F).length q (ws F)) :
 Calls Tryz.prog 109 #[.slice p (ws F).length q] w fun r w'=>r=.returned (.tuple #[.int .u64 (F:Nat),.int .i64 0])∧w'=w:=by
 have:=small_any (ws F) p (ws F).length q w.heap.size w hA.len hA.cap (by have:=hA.big;omega) hA.wf hA.rd;rw [val_ws] at this;unfold smallV at this;rw [if_pos hF] at this;exact this
theorem plc_facts (X:Nat) (e:Int) (hX:X≠0) (he0:-1048576≤e) (he1:e≤1048576) :
 (plc 53 (-1074) 1024 X e).1≤9007199254740991∧-1074≤(plc 53 (-1074) 1024 X e).2.1∧(plc 53 (-1074) 1024 X e).2.1≤971∧((plc 53 (-1074) 1024 X e).2.1=-1074∨4503599627370496≤(plc 53 (-1074) 1024 X e).1):=by
 have hb:=bl_pos X hX;have h1:=bl_lt X;have h2:=bl_ge X hX;have e53:(2:Nat)^53=9007199254740992:=rfl;have e52:(2:Nat)^52=4503599627370496:=rfl;unfold plc
 by_cases hf:1024<e+(bl X:Int)
 · rw [if_pos hf];refine ⟨by simp,by simp,by simp,.inr (by simp)⟩
 · rw [if_neg hf];simp only;obtain ⟨ex,hex⟩:∃ ex,max (e+(bl X:Int)-((53:Nat):Int)) (-1074)=ex:=⟨_,rfl⟩;rw [hex]
   by_cases ho:ex-e≤0
   · rw [if_pos ho];obtain ⟨k,hk⟩:∃ k:Nat,(-(ex-e)).toNat=k:=⟨_,rfl⟩;rw [hk];have hub:X*2^k<2^(bl X+k):=by rw [Nat.pow_add];exact Nat.mul_lt_mul_of_pos_right h1 (Nat.two_pow_pos k)
     have hm:2^(bl X+k)≤2^53:=Nat.pow_le_pow_right (by omega) (by omega);refine ⟨by simp only;omega,by simp only;omega,by simp only;omega,?_⟩
     by_cases hl:ex=-1074
     · exact .inl hl
     · right
       have hlb:2^(bl X-1)*2^k≤X*2^k:=Nat.mul_le_mul_right _ h2;rw [←Nat.pow_add,show bl X-1+k=52 by omega] at hlb;simp only;omega
   · rw [if_neg ho];obtain ⟨k,hk⟩:∃ k:Nat,(ex-e).toNat=k:=⟨_,rfl⟩;rw [hk]
     have hub:X/2^k<2^53:=by
      rw [Nat.div_lt_iff_lt_mul (Nat.two_pow_pos k),←Nat.pow_add];exact Nat.lt_of_lt_of_le h1 (Nat.pow_le_pow_right (by omega) (by omega))
     refine ⟨by simp only;omega,by simp only;omega,by simp only;omega,?_⟩
     by_cases hl:ex=-1074
     · exact .inl hl
     · right
       have hlb:2^52≤X/2^k:=by
        rw [Nat.le_div_iff_mul_le (Nat.two_pow_pos k),←Nat.pow_add,show 52+k=bl X-1 by omega];exact h2
       simp only;omega
theorem shift_down (X:Nat) (k:Nat) (hX:X≠0) (hl:bl X≤262144) (h0:0<k):shiftS X (-(k:Int))=(X/2^k,0):=by
 unfold shiftS;rw [if_neg (notLG hl),if_neg hX,if_pos (by omega),show (- -(k:Int)).toNat=k by omega]
theorem placed_any {w:World}{a:Option Addr}{l c:Nat}{X:Nat}(hA:Arg w a l c (ws X)) (n:Bool) (e:Int) (he0:-1048576≤e) (he1:e≤1048576) (hX:X≠0) (hl:bl X≤262144) :
 Calls Tryz.prog 80 #[.agg #[.bool n,.slice a l c,.int .i64 e],.agg #[.int .i64 53,.int .i64 (-1074),.int .i64 1024]] w fun r w' =>
  r=.returned (.agg #[.int .u64 ((plc 53 (-1074) 1024 X e).1:Nat),.int .i64 (plc 53 (-1074) 1024 X e).2.1,.bool (plc 53 (-1074) 1024 X e).2.2.1,.int .i64 (plc 53 (-1074) 1024 X e).2.2.2])∧Below w.heap.size w w':=by
 have pf:=plc_facts X e hX he0 he1
 have HL:Hid (∀ u,Below w.heap.size w u→Calls Tryz.prog 104 #[.slice a l c] u fun r w'=>r=.returned (.int .i64 (bl X:Nat))∧w'=u):=by
  intro u hu;have A:=hA.below hu;have:=len_any (ws X) a l c u.heap.size u A.len A.cap (by have:=A.big;omega) A.wf A.rd;rw [val_ws] at this;exact this
 have hb:=bl_pos X hX
 by_cases hf:1024<e+(bl X:Int)
 · have hp:plc 53 (-1074) 1024 X e=(9007199254740991,971,false,1):=by unfold plc;rw [if_pos hf];rfl
   rw [hp];exact placed_far64 n X e (bl X) he0 he1 hl hf HL
 · obtain ⟨ex,hex⟩:∃ ex,max (e+(bl X:Int)-53) (-1074)=ex:=⟨_,rfl⟩;obtain ⟨off,hof⟩:∃ off,ex-e=off:=⟨_,rfl⟩;have hexb:-2000≤ex∧ex≤2000:=by omega
   have hp:plc 53 (-1074) 1024 X e=if off≤0 then (X*2^(-off).toNat,ex,true,-1) else (X/2^off.toNat,ex,false,if off=1 then 0 else if X/2^(off-1).toNat%2=1 then 1 else -1):=by
    unfold plc;rw [if_neg hf];simp only;rw [show ((53:Nat):Int)=53 from rfl,hex,hof]
   obtain ⟨F,hFe⟩:∃ F,(plc 53 (-1074) 1024 X e).1=F:=⟨_,rfl⟩;have hF:F≤9007199254740991:=by rw [←hFe];exact pf.1
   have lF:(ws F).length≤100:=by have:=ws_len_bl F;have:=B.bl_le53' F hF;omega
   have hsh:shiftS X (-off)=(F,0):=by
    rw [←hFe,hp]
    by_cases ho:off≤0
    · rw [if_pos ho,shift_up X (-off) (by omega) hX hl,if_neg (by omega)]
    · obtain ⟨k,hk⟩:∃ k:Nat,off=(k:Int):=⟨off.toNat,by omega⟩;rw [if_neg ho,hk,shift_down X k hX hl (by omega),Int.toNat_natCast]
   have HS:Hid (∀ u,Below w.heap.size w u→Calls Tryz.prog 83 #[.slice a l c,.int .i64 (-off)] u fun r w'=>∃ v,r=.returned (.tuple #[v,.int .i64 0])∧Nt u.heap.size w' v F∧Below u.heap.size u w'):=by
    intro u hu;have A:=hA.below hu;exact Shift_arg (-off) A (by rw [val_ws];exact hsh) (by omega) (by omega)
   have HM:Hid (∀ (u:World) (p:Option Addr) (q:Nat),Arg u p (ws F).length q (ws F)→Calls Tryz.prog 109 #[.slice p (ws F).length q] u fun r w'=>r=.returned (.tuple #[.int .u64 (F:Nat),.int .i64 0])∧w'=u):=fun u p q hA=>small_ws (by omega) hA
   have HB:∀ t:Bool,(if off-1<0 then false else decide (X/2^(off-1).toNat%2=1))=t→Hid (∀ u,Below w.heap.size w u→Calls Tryz.prog 110 #[.slice a l c,.int .i64 (off-1)] u fun r w'=>r=.returned (.bool t)∧w'=u):=by
    intro t ht u hu;have A:=hA.below hu
    by_cases h0:off-1<0
    · rw [if_pos h0] at ht;subst ht;exact bit_neg a l c (off-1) u h0
    · rw [if_neg h0] at ht;obtain ⟨k,hk⟩:∃ k:Nat,off-1=(k:Int):=⟨(off-1).toNat,by omega⟩;have:=bit_any (ws X) a l c u.heap.size k u A.len A.wf A.rd (by omega);rw [val_ws] at this;rw [hk] at ht ⊢;rw [Int.toNat_natCast] at ht;rw [ht] at this;exact this
   rw [hFe]
   by_cases h1:off=1
   · have:=placed_64one n e ex off (bl X) F he0 he1 hl (by omega) lF (by omega) hex hof hexb.1 hexb.2 (by omega) (by omega) false (decide_eq_false (by omega)) (by simp [h1]) HL HS HM;rw [hp,if_neg (by omega)];simp only [h1,if_true];exact this
   · have h1':(off==1)=false:=by simp [h1]
     by_cases ho:off≤0
     · have:=placed_64bf n e ex off (bl X) F he0 he1 hl (by omega) lF (by omega) hex hof hexb.1 hexb.2 (by omega) (by omega) true (decide_eq_true ho) h1' HL HS HM (HB false (by rw [if_pos (by omega)]));rw [hp,if_pos ho];exact this
     · rw [hp,if_neg ho];simp only [if_neg h1]
       by_cases hbt:X/2^(off-1).toNat%2=1
       · have:=placed_64bt n e ex off (bl X) F he0 he1 hl (by omega) lF (by omega) hex hof hexb.1 hexb.2 (by omega) (by omega) false (decide_eq_false ho) h1' HL HS HM (HB true (by rw [if_neg (by omega)];exact decide_eq_true hbt));rw [if_pos hbt];exact this
       · have:=placed_64bf n e ex off (bl X) F he0 he1 hl (by omega) lF (by omega) hex hof hexb.1 hexb.2 (by omega) (by omega) false (decide_eq_false ho) h1' HL HS HM (HB false (by rw [if_neg (by omega)];exact decide_eq_false hbt));rw [if_neg hbt];exact this
def outS (mode:Int) (F:Nat) (mid:Int) (n:Bool):Bool :=
 if mode=0 then decide (0<mid) || (decide (mid=0)&&decide (F%2=1)) else if mode=2 then !n else if mode=3 then n else if mode=4 then decide (0≤mid) else false
end
section
open Go.RowKit
theorem and_one64 (z:Nat) (h:z<18446744073709551616):bits BinOp.and IntKind.u64 (z:Int) 1=((z%2:Nat):Int):=by
 have h:=B.bits_mask1 z h;exact h
theorem out_even1 (F:Nat) (ex:Int) (t:Bool) (n:Bool) (w:World)  :
 Calls Tryz.prog 81 #[.agg #[.int .u64 (F:Nat),.int .i64 ex,.bool t,.int .i64 1],.int .i64 0,.bool n] w fun r w'=>r=.returned (.bool true)∧Below w.heap.size w w':=by
 have HB:=qsd (show Below w.heap.size w (w.alloc (.cells #[.int .u64 (F:Nat),.int .i64 ex,.bool t,.int .i64 1] 124)) from below_alloc w _);go_enter Tryz.func81,Tryz.ntmps81;go_wp2
 all_goals go_ret
 all_goals exact ⟨rfl,HB.out⟩
theorem out_even0 (F:Nat) (ex:Int) (t:Bool) (n:Bool) (w:World) (b:Bool) (hb:(bits BinOp.and IntKind.u64 (F:Int) 1==1)=b) :
 Calls Tryz.prog 81 #[.agg #[.int .u64 (F:Nat),.int .i64 ex,.bool t,.int .i64 0],.int .i64 0,.bool n] w fun r w'=>r=.returned (.bool b)∧Below w.heap.size w w':=by
 have HB:=qsd (show Below w.heap.size w (w.alloc (.cells #[.int .u64 (F:Nat),.int .i64 ex,.bool t,.int .i64 0] 124)) from below_alloc w _);go_enter Tryz.func81,Tryz.ntmps81;go_wp2
 all_goals go_ret
 all_goals exact ⟨rfl,HB.out⟩
theorem out_evenm (F:Nat) (ex:Int) (t:Bool) (n:Bool) (w:World)  :
 Calls Tryz.prog 81 #[.agg #[.int .u64 (F:Nat),.int .i64 ex,.bool t,.int .i64 (-1)],.int .i64 0,.bool n] w fun r w'=>r=.returned (.bool false)∧Below w.heap.size w w':=by
 have HB:=qsd (show Below w.heap.size w (w.alloc (.cells #[.int .u64 (F:Nat),.int .i64 ex,.bool t,.int .i64 (-1)] 124)) from below_alloc w _);go_enter Tryz.func81,Tryz.ntmps81;go_wp2
 all_goals go_ret
 all_goals exact ⟨rfl,HB.out⟩
theorem out_zero (F:Nat) (ex:Int) (t:Bool) (mid:Int) (n:Bool) (w:World)  :
 Calls Tryz.prog 81 #[.agg #[.int .u64 (F:Nat),.int .i64 ex,.bool t,.int .i64 mid],.int .i64 1,.bool n] w fun r w'=>r=.returned (.bool false)∧Below w.heap.size w w':=by
 have HB:=qsd (show Below w.heap.size w (w.alloc (.cells #[.int .u64 (F:Nat),.int .i64 ex,.bool t,.int .i64 mid] 124)) from below_alloc w _);go_enter Tryz.func81,Tryz.ntmps81;go_wp2
 all_goals go_ret
 all_goals exact ⟨rfl,HB.out⟩
theorem out_up (F:Nat) (ex:Int) (t:Bool) (mid:Int) (n:Bool) (w:World)  :
 Calls Tryz.prog 81 #[.agg #[.int .u64 (F:Nat),.int .i64 ex,.bool t,.int .i64 mid],.int .i64 2,.bool n] w fun r w'=>r=.returned (.bool (!n))∧Below w.heap.size w w':=by
 have HB:=qsd (show Below w.heap.size w (w.alloc (.cells #[.int .u64 (F:Nat),.int .i64 ex,.bool t,.int .i64 mid] 124)) from below_alloc w _);go_enter Tryz.func81,Tryz.ntmps81;go_wp2
 all_goals go_ret
 all_goals exact ⟨rfl,HB.out⟩
theorem out_down (F:Nat) (ex:Int) (t:Bool) (mid:Int) (n:Bool) (w:World)  :
 Calls Tryz.prog 81 #[.agg #[.int .u64 (F:Nat),.int .i64 ex,.bool t,.int .i64 mid],.int .i64 3,.bool n] w fun r w'=>r=.returned (.bool n)∧Below w.heap.size w w':=by
 have HB:=qsd (show Below w.heap.size w (w.alloc (.cells #[.int .u64 (F:Nat),.int .i64 ex,.bool t,.int .i64 mid] 124)) from below_alloc w _);go_enter Tryz.func81,Tryz.ntmps81;go_wp2
 all_goals go_ret
 all_goals exact ⟨rfl,HB.out⟩
theorem out_away (F:Nat) (ex:Int) (t:Bool) (mid:Int) (n:Bool) (w:World) (b:Bool) (hb:decide (0≤mid)=b) :
 Calls Tryz.prog 81 #[.agg #[.int .u64 (F:Nat),.int .i64 ex,.bool t,.int .i64 mid],.int .i64 4,.bool n] w fun r w'=>r=.returned (.bool b)∧Below w.heap.size w w':=by
 have HB:=qsd (show Below w.heap.size w (w.alloc (.cells #[.int .u64 (F:Nat),.int .i64 ex,.bool t,.int .i64 mid] 124)) from below_alloc w _);go_enter Tryz.func81,Tryz.ntmps81;go_wp2
 all_goals go_ret
 all_goals exact ⟨rfl,HB.out⟩
theorem goesOut_any (F:Nat) (ex:Int) (t:Bool) (mid mode:Int) (n:Bool) (w:World) (hF:F<18446744073709551616) (hm:mid=-1∨mid=0∨mid=1) (h0:0≤mode) (h4:mode≤4) :
 Calls Tryz.prog 81 #[.agg #[.int .u64 (F:Nat),.int .i64 ex,.bool t,.int .i64 mid],.int .i64 mode,.bool n] w fun r w'=>r=.returned (.bool (outS mode F mid n))∧Below w.heap.size w w':=by
 have hc:mode=0∨mode=1∨mode=2∨mode=3∨mode=4:=by omega
 rcases hc with rfl|rfl|rfl|rfl|rfl
 · rcases hm with rfl | rfl | rfl
   · exact out_evenm F ex t n w
   · have e:(bits BinOp.and IntKind.u64 (F:Int) 1==1)=outS 0 F 0 n:=by
      rw [and_one64 F hF];unfold outS;rcases Nat.mod_two_eq_zero_or_one F with h|h <;> simp [h]
     exact out_even0 F ex t n w _ e
   · exact out_even1 F ex t n w
 · exact out_zero F ex t mid n w
 · exact out_up F ex t mid n w
 · exact out_down F ex t mid n w
 · exact out_away F ex t mid n w _ rfl
end
section
open Go.RowKit
theorem round_begin (w:World) (n:Bool) (v:Value) (e a b c:Int) (W:World) (hW:W=(w.alloc (.cells #[.bool n,v,.int .i64 e] 70)).alloc (.cells #[.int .i64 a,.int .i64 b,.int .i64 c] 102)) :
 Below w.heap.size w W∧W.heap.size=w.heap.size+2∧Dk W w.heap.size n v e∧Wk W (w.heap.size+1) a b c:=by
 subst hW;refine ⟨(below_alloc w _).alloc (by simp) _,by simp,(Dk.new w n v e).alloc _,?_⟩;unfold Wk;have:=heap_alloc_new (w.alloc (.cells #[.bool n,v,.int .i64 e] 70)) (.cells #[.int .i64 a,.int .i64 b,.int .i64 c] 102);simpa using this
theorem Wk.below {w w':World}{g:Nat}{a b c:Int}(h:Wk w g a b c) (hb:Below w.heap.size w w'):Wk w' g a b c:=by
 unfold Wk;rw [hb.block g (Array.getElem?_eq_some_iff.1 h).1];exact h
theorem round_mode (n:Bool) (a:Option Addr) (l c:Nat) (e mode:Int) (w:World) (hm:mode<0∨4<mode) :
 Calls Tryz.prog 62 #[.agg #[.bool n,.slice a l c,.int .i64 e],.int .i64 mode,.agg #[.int .i64 53,.int .i64 (-1074),.int .i64 1024]] w fun r w'=>r=.returned (.tuple #[.float .f64 0,.int .i64 1])∧Below w.heap.size w w':=by
 have HB:=qsd (show Below w.heap.size w ((w.alloc (.cells #[.bool n,.slice a l c,.int .i64 e] 70)).alloc (.cells #[.int .i64 53,.int .i64 (-1074),.int .i64 1024] 102)) from (below_alloc w _).alloc (by simp) _);rcases hm with h|h
 · go_enter Tryz.func62,Tryz.ntmps62;go_wp2
   go_ret2
   exact ⟨rfl,HB.out⟩
 · have h':decide (mode<0)=false:=decide_eq_false (by omega);go_enter Tryz.func62,Tryz.ntmps62;go_wp2
   go_ret2
   exact ⟨rfl,HB.out⟩
theorem round_err {w:World}{a:Option Addr}{l c:Nat}(n:Bool) (e mode:Int) (n1:Bool) (X:Nat) (e1 er:Int) (lX:(ws X).length≤8192) (hm0:0≤mode) (hm4:mode≤4) (her:(er != 0)=true)
 (HF:Hid (∀ u,Below w.heap.size w u→Calls Tryz.prog 79 #[.agg #[.bool n,.slice a l c,.int .i64 e]] u fun r w'=>(∃ v,r=.returned (.tuple #[.agg #[.bool n1,v,.int .i64 e1],.int .i64 er])∧Nt u.heap.size w' v X)∧Below u.heap.size u w')) :
 Calls Tryz.prog 62 #[.agg #[.bool n,.slice a l c,.int .i64 e],.int .i64 mode,.agg #[.int .i64 53,.int .i64 (-1074),.int .i64 1024]] w fun r w'=>r=.returned (.tuple #[.float .f64 0,.int .i64 er])∧Below w.heap.size w w':=by
 obtain ⟨W1,hW1⟩:∃ W,W=(w.alloc (.cells #[.bool n,.slice a l c,.int .i64 e] 70)).alloc (.cells #[.int .i64 53,.int .i64 (-1074),.int .i64 1024] 102):=⟨_,rfl⟩;obtain ⟨hB,hz1,DD,DW⟩:=round_begin w n (.slice a l c) e 53 (-1074) 1024 W1 hW1;have H1:=hid (HF.out W1 hB);have SB:=(qsd (ai hB (ai hz1 DW)));clear hB hz1 DD DW HF;go_enter Tryz.func62,Tryz.ntmps62;go_wp2_with fail;rw [←hW1];clear hW1;refine H1.out.mono ?_;rintro r u1 ⟨⟨v,rfl,hN⟩,hb⟩;obtain ⟨a1,c1,rfl,_⟩:=hN.arg (by omega);obtain ⟨hB,hz1,DW⟩:=SB.out;have SF:=qsd (hB.trans (hb.mono (by omega)));have hz:w.heap.size≤u1.heap.size:=by have:=hb.size;omega
 clear hN hb H1 hB hz1 DW SB;go_wp2
 go_ret2
 exact ⟨rfl,SF.out.alloc hz _⟩
theorem round_none {w:World}{a:Option Addr}{l c:Nat}(n:Bool) (e mode:Int) (n1:Bool) (X:Nat) (e1:Int) (lX:(ws X).length=0) (hm0:0≤mode) (hm4:mode≤4)
 (HF:Hid (∀ u,Below w.heap.size w u→Calls Tryz.prog 79 #[.agg #[.bool n,.slice a l c,.int .i64 e]] u fun r w'=>(∃ v,r=.returned (.tuple #[.agg #[.bool n1,v,.int .i64 e1],.int .i64 0])∧Nt u.heap.size w' v X)∧Below u.heap.size u w')) :
 Calls Tryz.prog 62 #[.agg #[.bool n,.slice a l c,.int .i64 e],.int .i64 mode,.agg #[.int .i64 53,.int .i64 (-1074),.int .i64 1024]] w fun r w'=>r=.returned (.tuple #[.float .f64 0,.int .i64 0])∧Below w.heap.size w w':=by
 obtain ⟨W1,hW1⟩:∃ W,W=(w.alloc (.cells #[.bool n,.slice a l c,.int .i64 e] 70)).alloc (.cells #[.int .i64 53,.int .i64 (-1074),.int .i64 1024] 102):=⟨_,rfl⟩;obtain ⟨hB,hz1,DD,DW⟩:=round_begin w n (.slice a l c) e 53 (-1074) 1024 W1 hW1;have H1:=hid (HF.out W1 hB);have SB:=(qsd (ai hB (ai hz1 DW)));clear hB hz1 DD DW HF;go_enter Tryz.func62,Tryz.ntmps62;go_wp2_with fail;rw [←hW1];clear hW1;refine H1.out.mono ?_;rintro r u1 ⟨⟨v,rfl,hN⟩,hb⟩;obtain ⟨a1,c1,rfl,_⟩:=hN.arg (by omega);obtain ⟨hB,hz1,DW⟩:=SB.out;have SF:=qsd (hB.trans (hb.mono (by omega)));have hz:w.heap.size≤u1.heap.size:=by have:=hb.size;omega
 clear hN hb H1 hB hz1 DW SB;rw [lX];go_wp2
 go_ret2
 exact ⟨rfl,SF.out.alloc hz _⟩
theorem round_tf {w:World}{a:Option Addr}{l c:Nat}(n:Bool) (e mode:Int) (X:Nat) (e1:Int) (lX:(ws X).length≤8192) (hX:((((ws X).length:Nat):Int)==0)=false) (hm0:0≤mode) (hm4:mode≤4)
 (F cw K K2:Nat) (ex mid:Int) (hF:F≤9007199254740991) (ecv:floatOfInt .f64 (F:Int)=cw)
 (HF:Hid (∀ u,Below w.heap.size w u→Calls Tryz.prog 79 #[.agg #[.bool n,.slice a l c,.int .i64 e]] u fun r w'=>(∃ v,r=.returned (.tuple #[.agg #[.bool false,v,.int .i64 e1],.int .i64 0])∧Nt u.heap.size w' v X)∧Below u.heap.size u w'))
 (HP:Hid (∀ (u:World) (p:Option Addr) (q:Nat),Arg u p (ws X).length q (ws X)→Calls Tryz.prog 80 #[.agg #[.bool false,.slice p (ws X).length q,.int .i64 e1],.agg #[.int .i64 53,.int .i64 (-1074),.int .i64 1024]] u fun r w'=>r=.returned (.agg #[.int .u64 (F:Nat),.int .i64 ex,.bool true,.int .i64 mid])∧Below u.heap.size u w'))
 (HD:Hid (∀ u,Calls Tryz.prog 10 #[.float .f64 cw,.int .i64 ex] u fun r w'=>r=.returned (.float .f64 K)∧w'=u)) :
 Calls Tryz.prog 62 #[.agg #[.bool n,.slice a l c,.int .i64 e],.int .i64 mode,.agg #[.int .i64 53,.int .i64 (-1074),.int .i64 1024]] w fun r w'=>r=.returned (.tuple #[.float .f64 K,.int .i64 0])∧Below w.heap.size w w':=by
 obtain ⟨W1,hW1⟩:∃ W,W=(w.alloc (.cells #[.bool n,.slice a l c,.int .i64 e] 70)).alloc (.cells #[.int .i64 53,.int .i64 (-1074),.int .i64 1024] 102):=⟨_,rfl⟩;obtain ⟨hB,hz1,DD,DW⟩:=round_begin w n (.slice a l c) e 53 (-1074) 1024 W1 hW1;have H1:=hid (HF.out W1 hB);have SB:=(qsd (ai hB (ai hz1 DW)));clear hB hz1 DD DW HF;go_enter Tryz.func62,Tryz.ntmps62;go_wp2_with fail;rw [←hW1];clear hW1;refine H1.out.mono ?_;rintro r u1 ⟨⟨v,rfl,hN⟩,hb⟩;obtain ⟨a1,c1,rfl,_⟩:=hN.arg (by omega);obtain ⟨hB,hz1,DW⟩:=SB.out;obtain ⟨W2,hW2⟩:∃ W,W=u1.alloc (.cells #[.bool false,.slice a1 (ws X).length c1,.int .i64 e1] 70):=⟨_,rfl⟩;have hbW:Below u1.heap.size u1 W2:=by rw [hW2];exact below_alloc u1 _
 have D2:Dk W2 u1.heap.size false (.slice a1 (ws X).length c1) e1:=by rw [hW2];exact Dk.new u1 _ _ _
 have V2:Wk W2 (w.heap.size+1) 53 (-1074) 1024:=(DW.below hb).below hbW;have hB2:Below w.heap.size w W2:=(hB.trans (hb.mono (by omega))).trans (hbW.mono (by have:=hb.size;omega));have H2:=hid (HP.out W2 a1 c1 ((hN.below hbW).arg' (by omega)).2);obtain ⟨x0,x1,x2,xf0,xf1,xf2⟩:=D2.facts;obtain ⟨y0,y1,y2⟩:=V2.facts;obtain ⟨t0,t1,t2⟩:=(DW.below hb).facts;have hzu:w.heap.size+1<u1.heap.size:=by have:=hb.size;omega
 have hzz:w.heap.size≤u1.heap.size:=by have:=hb.size;omega
 have hz4:u1.heap.size<W2.heap.size:=D2.lt;have S2:=(qsd (ai hB2 D2));clear hN hb H1 hB hz1 DW SB hbW D2 V2 hB2 HP;go_wp2_with fail;rw [←hW2];clear hW2;refine H2.out.mono ?_;rintro r u2 ⟨rfl,hb⟩;obtain ⟨W3,hW3⟩:∃ W,W=u2.alloc (.cells #[.int .u64 (F:Nat),.int .i64 ex,.bool true,.int .i64 mid] 124):=⟨_,rfl⟩;have hbW:Below u2.heap.size u2 W3:=by rw [hW3];exact below_alloc u2 _
 have P3:Pk W3 u2.heap.size (F:Nat) ex true mid:=by rw [hW3];exact heap_alloc_new _ _
 have D3:=(S2.out.2.below hb).below hbW;have hB3:Below w.heap.size w W3:=(S2.out.1.trans (hb.mono (by omega))).trans (hbW.mono (by have:=hb.size;omega));have hz6:u1.heap.size<u2.heap.size:=by have:=hb.size;omega
 obtain ⟨q0,q1,q2,q3,qf0,qf1,qf2,qf3⟩:=P3.facts;obtain ⟨d0,d1,d2,df0,df1,df2⟩:=D3.facts;have hz5:w.heap.size≤u2.heap.size:=by omega
 have hz7:u2.heap.size<W3.heap.size:=P3.lt;have S3:=(qsd (ai hB3 (ai P3 D3)));clear hb hbW P3 D3 hB3 S2 H2 x0 x1 x2 xf0 xf1 xf2 y0 y1 y2
 go_upto_region 7 with fail
 rw [←hW3];clear hW3;go_wp2_with fail
 try simp only [ecv]
 refine (Calls.mono (HD.out _)) ?_;rintro r ww ⟨rfl,hw⟩;rw [hw];clear hw ww HD;go_wp2
 go_ret2
 exact ⟨rfl,S3.out.1⟩
theorem round_tt {w:World}{a:Option Addr}{l c:Nat}(n:Bool) (e mode:Int) (X:Nat) (e1:Int) (lX:(ws X).length≤8192) (hX:((((ws X).length:Nat):Int)==0)=false) (hm0:0≤mode) (hm4:mode≤4)
 (F cw K K2:Nat) (ex mid:Int) (hF:F≤9007199254740991) (ecv:floatOfInt .f64 (F:Int)=cw)
 (HF:Hid (∀ u,Below w.heap.size w u→Calls Tryz.prog 79 #[.agg #[.bool n,.slice a l c,.int .i64 e]] u fun r w'=>(∃ v,r=.returned (.tuple #[.agg #[.bool true,v,.int .i64 e1],.int .i64 0])∧Nt u.heap.size w' v X)∧Below u.heap.size u w'))
 (HP:Hid (∀ (u:World) (p:Option Addr) (q:Nat),Arg u p (ws X).length q (ws X)→Calls Tryz.prog 80 #[.agg #[.bool true,.slice p (ws X).length q,.int .i64 e1],.agg #[.int .i64 53,.int .i64 (-1074),.int .i64 1024]] u fun r w'=>r=.returned (.agg #[.int .u64 (F:Nat),.int .i64 ex,.bool true,.int .i64 mid])∧Below u.heap.size u w'))
 (HD:Hid (∀ u,Calls Tryz.prog 10 #[.float .f64 cw,.int .i64 ex] u fun r w'=>r=.returned (.float .f64 K)∧w'=u))
 (HC:Hid (∀ u,Calls Tryz.prog 48 #[.float .f64 K,.float .f64 13830554455654793216] u fun r w'=>r=.returned (.float .f64 K2)∧w'=u)) :
 Calls Tryz.prog 62 #[.agg #[.bool n,.slice a l c,.int .i64 e],.int .i64 mode,.agg #[.int .i64 53,.int .i64 (-1074),.int .i64 1024]] w fun r w'=>r=.returned (.tuple #[.float .f64 K2,.int .i64 0])∧Below w.heap.size w w':=by
 obtain ⟨W1,hW1⟩:∃ W,W=(w.alloc (.cells #[.bool n,.slice a l c,.int .i64 e] 70)).alloc (.cells #[.int .i64 53,.int .i64 (-1074),.int .i64 1024] 102):=⟨_,rfl⟩;obtain ⟨hB,hz1,DD,DW⟩:=round_begin w n (.slice a l c) e 53 (-1074) 1024 W1 hW1;have H1:=hid (HF.out W1 hB);have SB:=(qsd (ai hB (ai hz1 DW)));clear hB hz1 DD DW HF;go_enter Tryz.func62,Tryz.ntmps62;go_wp2_with fail;rw [←hW1];clear hW1;refine H1.out.mono ?_;rintro r u1 ⟨⟨v,rfl,hN⟩,hb⟩;obtain ⟨a1,c1,rfl,_⟩:=hN.arg (by omega);obtain ⟨hB,hz1,DW⟩:=SB.out;obtain ⟨W2,hW2⟩:∃ W,W=u1.alloc (.cells #[.bool true,.slice a1 (ws X).length c1,.int .i64 e1] 70):=⟨_,rfl⟩;have hbW:Below u1.heap.size u1 W2:=by rw [hW2];exact below_alloc u1 _
 have D2:Dk W2 u1.heap.size true (.slice a1 (ws X).length c1) e1:=by rw [hW2];exact Dk.new u1 _ _ _
 have V2:Wk W2 (w.heap.size+1) 53 (-1074) 1024:=(DW.below hb).below hbW;have hB2:Below w.heap.size w W2:=(hB.trans (hb.mono (by omega))).trans (hbW.mono (by have:=hb.size;omega));have H2:=hid (HP.out W2 a1 c1 ((hN.below hbW).arg' (by omega)).2);obtain ⟨x0,x1,x2,xf0,xf1,xf2⟩:=D2.facts;obtain ⟨y0,y1,y2⟩:=V2.facts;obtain ⟨t0,t1,t2⟩:=(DW.below hb).facts;have hzu:w.heap.size+1<u1.heap.size:=by have:=hb.size;omega
 have hzz:w.heap.size≤u1.heap.size:=by have:=hb.size;omega
 have hz4:u1.heap.size<W2.heap.size:=D2.lt;have S2:=(qsd (ai hB2 D2));clear hN hb H1 hB hz1 DW SB hbW D2 V2 hB2 HP;go_wp2_with fail;rw [←hW2];clear hW2;refine H2.out.mono ?_;rintro r u2 ⟨rfl,hb⟩;obtain ⟨W3,hW3⟩:∃ W,W=u2.alloc (.cells #[.int .u64 (F:Nat),.int .i64 ex,.bool true,.int .i64 mid] 124):=⟨_,rfl⟩;have hbW:Below u2.heap.size u2 W3:=by rw [hW3];exact below_alloc u2 _
 have P3:Pk W3 u2.heap.size (F:Nat) ex true mid:=by rw [hW3];exact heap_alloc_new _ _
 have D3:=(S2.out.2.below hb).below hbW;have hB3:Below w.heap.size w W3:=(S2.out.1.trans (hb.mono (by omega))).trans (hbW.mono (by have:=hb.size;omega));have hz6:u1.heap.size<u2.heap.size:=by have:=hb.size;omega
 obtain ⟨q0,q1,q2,q3,qf0,qf1,qf2,qf3⟩:=P3.facts;obtain ⟨d0,d1,d2,df0,df1,df2⟩:=D3.facts;have hz5:w.heap.size≤u2.heap.size:=by omega
 have hz7:u2.heap.size<W3.heap.size:=P3.lt;have S3:=(qsd (ai hB3 (ai P3 D3)));clear hb hbW P3 D3 hB3 S2 H2 x0 x1 x2 xf0 xf1 xf2 y0 y1 y2
 go_upto_region 7 with fail
 rw [←hW3];clear hW3;go_wp2_with fail
 try simp only [ecv]
 refine (Calls.mono (HD.out _)) ?_;rintro r ww ⟨rfl,hw⟩;rw [hw];clear hw ww HD;go_wp2_with fail;refine (Calls.mono (HC.out _)) ?_;rintro r ww ⟨rfl,hw⟩;rw [hw];clear hw ww HC;go_wp2
 go_ret2
 exact ⟨rfl,S3.out.1⟩
theorem round_fff {w:World}{a:Option Addr}{l c:Nat}(n:Bool) (e mode:Int) (X:Nat) (e1:Int) (lX:(ws X).length≤8192) (hX:((((ws X).length:Nat):Int)==0)=false) (hm0:0≤mode) (hm4:mode≤4)
 (F cw K K2:Nat) (ex mid:Int) (hF:F≤9007199254740991) (ecv:floatOfInt .f64 (F:Int)=cw)
 (HF:Hid (∀ u,Below w.heap.size w u→Calls Tryz.prog 79 #[.agg #[.bool n,.slice a l c,.int .i64 e]] u fun r w'=>(∃ v,r=.returned (.tuple #[.agg #[.bool false,v,.int .i64 e1],.int .i64 0])∧Nt u.heap.size w' v X)∧Below u.heap.size u w'))
 (HP:Hid (∀ (u:World) (p:Option Addr) (q:Nat),Arg u p (ws X).length q (ws X)→Calls Tryz.prog 80 #[.agg #[.bool false,.slice p (ws X).length q,.int .i64 e1],.agg #[.int .i64 53,.int .i64 (-1074),.int .i64 1024]] u fun r w'=>r=.returned (.agg #[.int .u64 (F:Nat),.int .i64 ex,.bool false,.int .i64 mid])∧Below u.heap.size u w'))
 (HG:Hid (∀ u,Calls Tryz.prog 81 #[.agg #[.int .u64 (F:Nat),.int .i64 ex,.bool false,.int .i64 mid],.int .i64 mode,.bool false] u fun r w'=>r=.returned (.bool false)∧Below u.heap.size u w'))
 (HD:Hid (∀ u,Calls Tryz.prog 10 #[.float .f64 cw,.int .i64 ex] u fun r w'=>r=.returned (.float .f64 K)∧w'=u)) :
 Calls Tryz.prog 62 #[.agg #[.bool n,.slice a l c,.int .i64 e],.int .i64 mode,.agg #[.int .i64 53,.int .i64 (-1074),.int .i64 1024]] w fun r w'=>r=.returned (.tuple #[.float .f64 K,.int .i64 0])∧Below w.heap.size w w':=by
 obtain ⟨W1,hW1⟩:∃ W,W=(w.alloc (.cells #[.bool n,.slice a l c,.int .i64 e] 70)).alloc (.cells #[.int .i64 53,.int .i64 (-1074),.int .i64 1024] 102):=⟨_,rfl⟩;obtain ⟨hB,hz1,DD,DW⟩:=round_begin w n (.slice a l c) e 53 (-1074) 1024 W1 hW1;have H1:=hid (HF.out W1 hB);have SB:=(qsd (ai hB (ai hz1 DW)));clear hB hz1 DD DW HF;go_enter Tryz.func62,Tryz.ntmps62;go_wp2_with fail;rw [←hW1];clear hW1;refine H1.out.mono ?_;rintro r u1 ⟨⟨v,rfl,hN⟩,hb⟩;obtain ⟨a1,c1,rfl,_⟩:=hN.arg (by omega);obtain ⟨hB,hz1,DW⟩:=SB.out;obtain ⟨W2,hW2⟩:∃ W,W=u1.alloc (.cells #[.bool false,.slice a1 (ws X).length c1,.int .i64 e1] 70):=⟨_,rfl⟩;have hbW:Below u1.heap.size u1 W2:=by rw [hW2];exact below_alloc u1 _
 have D2:Dk W2 u1.heap.size false (.slice a1 (ws X).length c1) e1:=by rw [hW2];exact Dk.new u1 _ _ _
 have V2:Wk W2 (w.heap.size+1) 53 (-1074) 1024:=(DW.below hb).below hbW;have hB2:Below w.heap.size w W2:=(hB.trans (hb.mono (by omega))).trans (hbW.mono (by have:=hb.size;omega));have H2:=hid (HP.out W2 a1 c1 ((hN.below hbW).arg' (by omega)).2);obtain ⟨x0,x1,x2,xf0,xf1,xf2⟩:=D2.facts;obtain ⟨y0,y1,y2⟩:=V2.facts;obtain ⟨t0,t1,t2⟩:=(DW.below hb).facts;have hzu:w.heap.size+1<u1.heap.size:=by have:=hb.size;omega
 have hzz:w.heap.size≤u1.heap.size:=by have:=hb.size;omega
 have hz4:u1.heap.size<W2.heap.size:=D2.lt;have S2:=(qsd (ai hB2 D2));clear hN hb H1 hB hz1 DW SB hbW D2 V2 hB2 HP;go_wp2_with fail;rw [←hW2];clear hW2;refine H2.out.mono ?_;rintro r u2 ⟨rfl,hb⟩;obtain ⟨W3,hW3⟩:∃ W,W=u2.alloc (.cells #[.int .u64 (F:Nat),.int .i64 ex,.bool false,.int .i64 mid] 124):=⟨_,rfl⟩;have hbW:Below u2.heap.size u2 W3:=by rw [hW3];exact below_alloc u2 _
 have P3:Pk W3 u2.heap.size (F:Nat) ex false mid:=by rw [hW3];exact heap_alloc_new _ _
 have D3:=(S2.out.2.below hb).below hbW;have hB3:Below w.heap.size w W3:=(S2.out.1.trans (hb.mono (by omega))).trans (hbW.mono (by have:=hb.size;omega));have hz6:u1.heap.size<u2.heap.size:=by have:=hb.size;omega
 obtain ⟨q0,q1,q2,q3,qf0,qf1,qf2,qf3⟩:=P3.facts;obtain ⟨d0,d1,d2,df0,df1,df2⟩:=D3.facts;have hz5:w.heap.size≤u2.heap.size:=by omega
 have hz7:u2.heap.size<W3.heap.size:=P3.lt;have S3:=(qsd (ai hB3 (ai P3 D3)));clear hb hbW P3 D3 hB3 S2 H2 x0 x1 x2 xf0 xf1 xf2 y0 y1 y2
 go_upto_region 7 with fail
 rw [←hW3];clear hW3;go_wp2_with fail;refine (Calls.mono (HG.out _)) ?_;rintro r u3 ⟨rfl,hb⟩;have P4:=S3.out.2.1.below hb;have D4:=S3.out.2.2.below hb;have hB4:Below w.heap.size w u3:=S3.out.1.trans (hb.mono (by omega));have hz8:w.heap.size≤u3.heap.size:=by have:=hb.size;omega
 obtain ⟨r0,r1,r2,r3,rf0,rf1,rf2,rf3⟩:=P4.facts;obtain ⟨s0,s1,s2,sf0,sf1,sf2⟩:=D4.facts;have S4:=qsd hB4;clear hb P4 D4 hB4 S3 HG q0 q1 q2 q3 qf0 qf1 qf2 qf3 d0 d1 d2 df0 df1 df2;go_wp2_with fail
 try simp only [ecv]
 refine (Calls.mono (HD.out _)) ?_;rintro r ww ⟨rfl,hw⟩;rw [hw];clear hw ww HD;go_wp2
 go_ret2
 exact ⟨rfl,S4.out⟩
theorem round_fft {w:World}{a:Option Addr}{l c:Nat}(n:Bool) (e mode:Int) (X:Nat) (e1:Int) (lX:(ws X).length≤8192) (hX:((((ws X).length:Nat):Int)==0)=false) (hm0:0≤mode) (hm4:mode≤4)
 (F cw K K2:Nat) (ex mid:Int) (hF:F≤9007199254740991) (ecv:floatOfInt .f64 (F:Int)=cw)
 (HF:Hid (∀ u,Below w.heap.size w u→Calls Tryz.prog 79 #[.agg #[.bool n,.slice a l c,.int .i64 e]] u fun r w'=>(∃ v,r=.returned (.tuple #[.agg #[.bool true,v,.int .i64 e1],.int .i64 0])∧Nt u.heap.size w' v X)∧Below u.heap.size u w'))
 (HP:Hid (∀ (u:World) (p:Option Addr) (q:Nat),Arg u p (ws X).length q (ws X)→Calls Tryz.prog 80 #[.agg #[.bool true,.slice p (ws X).length q,.int .i64 e1],.agg #[.int .i64 53,.int .i64 (-1074),.int .i64 1024]] u fun r w'=>r=.returned (.agg #[.int .u64 (F:Nat),.int .i64 ex,.bool false,.int .i64 mid])∧Below u.heap.size u w'))
 (HG:Hid (∀ u,Calls Tryz.prog 81 #[.agg #[.int .u64 (F:Nat),.int .i64 ex,.bool false,.int .i64 mid],.int .i64 mode,.bool true] u fun r w'=>r=.returned (.bool false)∧Below u.heap.size u w'))
 (HD:Hid (∀ u,Calls Tryz.prog 10 #[.float .f64 cw,.int .i64 ex] u fun r w'=>r=.returned (.float .f64 K)∧w'=u))
 (HC:Hid (∀ u,Calls Tryz.prog 48 #[.float .f64 K,.float .f64 13830554455654793216] u fun r w'=>r=.returned (.float .f64 K2)∧w'=u)) :
 Calls Tryz.prog 62 #[.agg #[.bool n,.slice a l c,.int .i64 e],.int .i64 mode,.agg #[.int .i64 53,.int .i64 (-1074),.int .i64 1024]] w fun r w'=>r=.returned (.tuple #[.float .f64 K2,.int .i64 0])∧Below w.heap.size w w':=by
 obtain ⟨W1,hW1⟩:∃ W,W=(w.alloc (.cells #[.bool n,.slice a l c,.int .i64 e] 70)).alloc (.cells #[.int .i64 53,.int .i64 (-1074),.int .i64 1024] 102):=⟨_,rfl⟩;obtain ⟨hB,hz1,DD,DW⟩:=round_begin w n (.slice a l c) e 53 (-1074) 1024 W1 hW1;have H1:=hid (HF.out W1 hB);have SB:=(qsd (ai hB (ai hz1 DW)));clear hB hz1 DD DW HF;go_enter Tryz.func62,Tryz.ntmps62;go_wp2_with fail;rw [←hW1];clear hW1;refine H1.out.mono ?_;rintro r u1 ⟨⟨v,rfl,hN⟩,hb⟩;obtain ⟨a1,c1,rfl,_⟩:=hN.arg (by omega);obtain ⟨hB,hz1,DW⟩:=SB.out;obtain ⟨W2,hW2⟩:∃ W,W=u1.alloc (.cells #[.bool true,.slice a1 (ws X).length c1,.int .i64 e1] 70):=⟨_,rfl⟩;have hbW:Below u1.heap.size u1 W2:=by rw [hW2];exact below_alloc u1 _
 have D2:Dk W2 u1.heap.size true (.slice a1 (ws X).length c1) e1:=by rw [hW2];exact Dk.new u1 _ _ _
 have V2:Wk W2 (w.heap.size+1) 53 (-1074) 1024:=(DW.below hb).below hbW;have hB2:Below w.heap.size w W2:=(hB.trans (hb.mono (by omega))).trans (hbW.mono (by have:=hb.size;omega));have H2:=hid (HP.out W2 a1 c1 ((hN.below hbW).arg' (by omega)).2);obtain ⟨x0,x1,x2,xf0,xf1,xf2⟩:=D2.facts;obtain ⟨y0,y1,y2⟩:=V2.facts;obtain ⟨t0,t1,t2⟩:=(DW.below hb).facts;have hzu:w.heap.size+1<u1.heap.size:=by have:=hb.size;omega
 have hzz:w.heap.size≤u1.heap.size:=by have:=hb.size;omega
 have hz4:u1.heap.size<W2.heap.size:=D2.lt;have S2:=(qsd (ai hB2 D2));clear hN hb H1 hB hz1 DW SB hbW D2 V2 hB2 HP;go_wp2_with fail;rw [←hW2];clear hW2;refine H2.out.mono ?_;rintro r u2 ⟨rfl,hb⟩;obtain ⟨W3,hW3⟩:∃ W,W=u2.alloc (.cells #[.int .u64 (F:Nat),.int .i64 ex,.bool false,.int .i64 mid] 124):=⟨_,rfl⟩;have hbW:Below u2.heap.size u2 W3:=by rw [hW3];exact below_alloc u2 _
 have P3:Pk W3 u2.heap.size (F:Nat) ex false mid:=by rw [hW3];exact heap_alloc_new _ _
 have D3:=(S2.out.2.below hb).below hbW;have hB3:Below w.heap.size w W3:=(S2.out.1.trans (hb.mono (by omega))).trans (hbW.mono (by have:=hb.size;omega));have hz6:u1.heap.size<u2.heap.size:=by have:=hb.size;omega
 obtain ⟨q0,q1,q2,q3,qf0,qf1,qf2,qf3⟩:=P3.facts;obtain ⟨d0,d1,d2,df0,df1,df2⟩:=D3.facts;have hz5:w.heap.size≤u2.heap.size:=by omega
 have hz7:u2.heap.size<W3.heap.size:=P3.lt;have S3:=(qsd (ai hB3 (ai P3 D3)));clear hb hbW P3 D3 hB3 S2 H2 x0 x1 x2 xf0 xf1 xf2 y0 y1 y2
 go_upto_region 7 with fail
 rw [←hW3];clear hW3;go_wp2_with fail;refine (Calls.mono (HG.out _)) ?_;rintro r u3 ⟨rfl,hb⟩;have P4:=S3.out.2.1.below hb;have D4:=S3.out.2.2.below hb;have hB4:Below w.heap.size w u3:=S3.out.1.trans (hb.mono (by omega));have hz8:w.heap.size≤u3.heap.size:=by have:=hb.size;omega
 obtain ⟨r0,r1,r2,r3,rf0,rf1,rf2,rf3⟩:=P4.facts;obtain ⟨s0,s1,s2,sf0,sf1,sf2⟩:=D4.facts;have S4:=qsd hB4;clear hb P4 D4 hB4 S3 HG q0 q1 q2 q3 qf0 qf1 qf2 qf3 d0 d1 d2 df0 df1 df2;go_wp2_with fail
 try simp only [ecv]
 refine (Calls.mono (HD.out _)) ?_;rintro r ww ⟨rfl,hw⟩;rw [hw];clear hw ww HD;go_wp2_with fail;refine (Calls.mono (HC.out _)) ?_;rintro r ww ⟨rfl,hw⟩;rw [hw];clear hw ww HC;go_wp2
 go_ret2
 exact ⟨rfl,S4.out⟩
theorem round_ftf {w:World}{a:Option Addr}{l c:Nat}(n:Bool) (e mode:Int) (X:Nat) (e1:Int) (lX:(ws X).length≤8192) (hX:((((ws X).length:Nat):Int)==0)=false) (hm0:0≤mode) (hm4:mode≤4)
 (F cw K K2:Nat) (ex mid:Int) (hF:F≤9007199254740991) (ecv:floatOfInt .f64 ((F:Int)+1)=cw)
 (HF:Hid (∀ u,Below w.heap.size w u→Calls Tryz.prog 79 #[.agg #[.bool n,.slice a l c,.int .i64 e]] u fun r w'=>(∃ v,r=.returned (.tuple #[.agg #[.bool false,v,.int .i64 e1],.int .i64 0])∧Nt u.heap.size w' v X)∧Below u.heap.size u w'))
 (HP:Hid (∀ (u:World) (p:Option Addr) (q:Nat),Arg u p (ws X).length q (ws X)→Calls Tryz.prog 80 #[.agg #[.bool false,.slice p (ws X).length q,.int .i64 e1],.agg #[.int .i64 53,.int .i64 (-1074),.int .i64 1024]] u fun r w'=>r=.returned (.agg #[.int .u64 (F:Nat),.int .i64 ex,.bool false,.int .i64 mid])∧Below u.heap.size u w'))
 (HG:Hid (∀ u,Calls Tryz.prog 81 #[.agg #[.int .u64 (F:Nat),.int .i64 ex,.bool false,.int .i64 mid],.int .i64 mode,.bool false] u fun r w'=>r=.returned (.bool true)∧Below u.heap.size u w'))
 (HD:Hid (∀ u,Calls Tryz.prog 10 #[.float .f64 cw,.int .i64 ex] u fun r w'=>r=.returned (.float .f64 K)∧w'=u)) :
 Calls Tryz.prog 62 #[.agg #[.bool n,.slice a l c,.int .i64 e],.int .i64 mode,.agg #[.int .i64 53,.int .i64 (-1074),.int .i64 1024]] w fun r w'=>r=.returned (.tuple #[.float .f64 K,.int .i64 0])∧Below w.heap.size w w':=by
 obtain ⟨W1,hW1⟩:∃ W,W=(w.alloc (.cells #[.bool n,.slice a l c,.int .i64 e] 70)).alloc (.cells #[.int .i64 53,.int .i64 (-1074),.int .i64 1024] 102):=⟨_,rfl⟩;obtain ⟨hB,hz1,DD,DW⟩:=round_begin w n (.slice a l c) e 53 (-1074) 1024 W1 hW1;have H1:=hid (HF.out W1 hB);have SB:=(qsd (ai hB (ai hz1 DW)));clear hB hz1 DD DW HF;go_enter Tryz.func62,Tryz.ntmps62;go_wp2_with fail;rw [←hW1];clear hW1;refine H1.out.mono ?_;rintro r u1 ⟨⟨v,rfl,hN⟩,hb⟩;obtain ⟨a1,c1,rfl,_⟩:=hN.arg (by omega);obtain ⟨hB,hz1,DW⟩:=SB.out;obtain ⟨W2,hW2⟩:∃ W,W=u1.alloc (.cells #[.bool false,.slice a1 (ws X).length c1,.int .i64 e1] 70):=⟨_,rfl⟩;have hbW:Below u1.heap.size u1 W2:=by rw [hW2];exact below_alloc u1 _
 have D2:Dk W2 u1.heap.size false (.slice a1 (ws X).length c1) e1:=by rw [hW2];exact Dk.new u1 _ _ _
 have V2:Wk W2 (w.heap.size+1) 53 (-1074) 1024:=(DW.below hb).below hbW;have hB2:Below w.heap.size w W2:=(hB.trans (hb.mono (by omega))).trans (hbW.mono (by have:=hb.size;omega));have H2:=hid (HP.out W2 a1 c1 ((hN.below hbW).arg' (by omega)).2);obtain ⟨x0,x1,x2,xf0,xf1,xf2⟩:=D2.facts;obtain ⟨y0,y1,y2⟩:=V2.facts;obtain ⟨t0,t1,t2⟩:=(DW.below hb).facts;have hzu:w.heap.size+1<u1.heap.size:=by have:=hb.size;omega
 have hzz:w.heap.size≤u1.heap.size:=by have:=hb.size;omega
 have hz4:u1.heap.size<W2.heap.size:=D2.lt;have S2:=(qsd (ai hB2 D2));clear hN hb H1 hB hz1 DW SB hbW D2 V2 hB2 HP;go_wp2_with fail;rw [←hW2];clear hW2;refine H2.out.mono ?_;rintro r u2 ⟨rfl,hb⟩;obtain ⟨W3,hW3⟩:∃ W,W=u2.alloc (.cells #[.int .u64 (F:Nat),.int .i64 ex,.bool false,.int .i64 mid] 124):=⟨_,rfl⟩;have hbW:Below u2.heap.size u2 W3:=by rw [hW3];exact below_alloc u2 _
 have P3:Pk W3 u2.heap.size (F:Nat) ex false mid:=by rw [hW3];exact heap_alloc_new _ _
 have D3:=(S2.out.2.below hb).below hbW;have hB3:Below w.heap.size w W3:=(S2.out.1.trans (hb.mono (by omega))).trans (hbW.mono (by have:=hb.size;omega));have hz6:u1.heap.size<u2.heap.size:=by have:=hb.size;omega
 obtain ⟨q0,q1,q2,q3,qf0,qf1,qf2,qf3⟩:=P3.facts;obtain ⟨d0,d1,d2,df0,df1,df2⟩:=D3.facts;have hz5:w.heap.size≤u2.heap.size:=by omega
 have hz7:u2.heap.size<W3.heap.size:=P3.lt;have S3:=(qsd (ai hB3 (ai P3 D3)));clear hb hbW P3 D3 hB3 S2 H2 x0 x1 x2 xf0 xf1 xf2 y0 y1 y2
 go_upto_region 7 with fail
 rw [←hW3];clear hW3;go_wp2_with fail;refine (Calls.mono (HG.out _)) ?_;rintro r u3 ⟨rfl,hb⟩;have P4:=S3.out.2.1.below hb;have D4:=S3.out.2.2.below hb;have hB4:Below w.heap.size w u3:=S3.out.1.trans (hb.mono (by omega));have hz8:w.heap.size≤u3.heap.size:=by have:=hb.size;omega
 obtain ⟨r0,r1,r2,r3,rf0,rf1,rf2,rf3⟩:=P4.facts;obtain ⟨s0,s1,s2,sf0,sf1,sf2⟩:=D4.facts;have S4:=qsd hB4;clear hb P4 D4 hB4 S3 HG q0 q1 q2 q3 qf0 qf1 qf2 qf3 d0 d1 d2 df0 df1 df2;go_wp2_with fail
 try simp only [ecv]
 refine (Calls.mono (HD.out _)) ?_;rintro r ww ⟨rfl,hw⟩;rw [hw];clear hw ww HD;go_wp2
 go_ret2
 exact ⟨rfl,Below.setC S4.out _ _ _ hz5 hz8⟩
theorem round_ftt {w:World}{a:Option Addr}{l c:Nat}(n:Bool) (e mode:Int) (X:Nat) (e1:Int) (lX:(ws X).length≤8192) (hX:((((ws X).length:Nat):Int)==0)=false) (hm0:0≤mode) (hm4:mode≤4)
 (F cw K K2:Nat) (ex mid:Int) (hF:F≤9007199254740991) (ecv:floatOfInt .f64 ((F:Int)+1)=cw)
 (HF:Hid (∀ u,Below w.heap.size w u→Calls Tryz.prog 79 #[.agg #[.bool n,.slice a l c,.int .i64 e]] u fun r w'=>(∃ v,r=.returned (.tuple #[.agg #[.bool true,v,.int .i64 e1],.int .i64 0])∧Nt u.heap.size w' v X)∧Below u.heap.size u w'))
 (HP:Hid (∀ (u:World) (p:Option Addr) (q:Nat),Arg u p (ws X).length q (ws X)→Calls Tryz.prog 80 #[.agg #[.bool true,.slice p (ws X).length q,.int .i64 e1],.agg #[.int .i64 53,.int .i64 (-1074),.int .i64 1024]] u fun r w'=>r=.returned (.agg #[.int .u64 (F:Nat),.int .i64 ex,.bool false,.int .i64 mid])∧Below u.heap.size u w'))
 (HG:Hid (∀ u,Calls Tryz.prog 81 #[.agg #[.int .u64 (F:Nat),.int .i64 ex,.bool false,.int .i64 mid],.int .i64 mode,.bool true] u fun r w'=>r=.returned (.bool true)∧Below u.heap.size u w'))
 (HD:Hid (∀ u,Calls Tryz.prog 10 #[.float .f64 cw,.int .i64 ex] u fun r w'=>r=.returned (.float .f64 K)∧w'=u))
 (HC:Hid (∀ u,Calls Tryz.prog 48 #[.float .f64 K,.float .f64 13830554455654793216] u fun r w'=>r=.returned (.float .f64 K2)∧w'=u)) :
 Calls Tryz.prog 62 #[.agg #[.bool n,.slice a l c,.int .i64 e],.int .i64 mode,.agg #[.int .i64 53,.int .i64 (-1074),.int .i64 1024]] w fun r w'=>r=.returned (.tuple #[.float .f64 K2,.int .i64 0])∧Below w.heap.size w w':=by
 obtain ⟨W1,hW1⟩:∃ W,W=(w.alloc (.cells #[.bool n,.slice a l c,.int .i64 e] 70)).alloc (.cells #[.int .i64 53,.int .i64 (-1074),.int .i64 1024] 102):=⟨_,rfl⟩;obtain ⟨hB,hz1,DD,DW⟩:=round_begin w n (.slice a l c) e 53 (-1074) 1024 W1 hW1;have H1:=hid (HF.out W1 hB);have SB:=(qsd (ai hB (ai hz1 DW)));clear hB hz1 DD DW HF;go_enter Tryz.func62,Tryz.ntmps62;go_wp2_with fail;rw [←hW1];clear hW1;refine H1.out.mono ?_;rintro r u1 ⟨⟨v,rfl,hN⟩,hb⟩;obtain ⟨a1,c1,rfl,_⟩:=hN.arg (by omega);obtain ⟨hB,hz1,DW⟩:=SB.out;obtain ⟨W2,hW2⟩:∃ W,W=u1.alloc (.cells #[.bool true,.slice a1 (ws X).length c1,.int .i64 e1] 70):=⟨_,rfl⟩;have hbW:Below u1.heap.size u1 W2:=by rw [hW2];exact below_alloc u1 _
 have D2:Dk W2 u1.heap.size true (.slice a1 (ws X).length c1) e1:=by rw [hW2];exact Dk.new u1 _ _ _
 have V2:Wk W2 (w.heap.size+1) 53 (-1074) 1024:=(DW.below hb).below hbW;have hB2:Below w.heap.size w W2:=(hB.trans (hb.mono (by omega))).trans (hbW.mono (by have:=hb.size;omega));have H2:=hid (HP.out W2 a1 c1 ((hN.below hbW).arg' (by omega)).2);obtain ⟨x0,x1,x2,xf0,xf1,xf2⟩:=D2.facts;obtain ⟨y0,y1,y2⟩:=V2.facts;obtain ⟨t0,t1,t2⟩:=(DW.below hb).facts;have hzu:w.heap.size+1<u1.heap.size:=by have:=hb.size;omega
 have hzz:w.heap.size≤u1.heap.size:=by have:=hb.size;omega
 have hz4:u1.heap.size<W2.heap.size:=D2.lt;have S2:=(qsd (ai hB2 D2));clear hN hb H1 hB hz1 DW SB hbW D2 V2 hB2 HP;go_wp2_with fail;rw [←hW2];clear hW2;refine H2.out.mono ?_;rintro r u2 ⟨rfl,hb⟩;obtain ⟨W3,hW3⟩:∃ W,W=u2.alloc (.cells #[.int .u64 (F:Nat),.int .i64 ex,.bool false,.int .i64 mid] 124):=⟨_,rfl⟩;have hbW:Below u2.heap.size u2 W3:=by rw [hW3];exact below_alloc u2 _
 have P3:Pk W3 u2.heap.size (F:Nat) ex false mid:=by rw [hW3];exact heap_alloc_new _ _
 have D3:=(S2.out.2.below hb).below hbW;have hB3:Below w.heap.size w W3:=(S2.out.1.trans (hb.mono (by omega))).trans (hbW.mono (by have:=hb.size;omega));have hz6:u1.heap.size<u2.heap.size:=by have:=hb.size;omega
 obtain ⟨q0,q1,q2,q3,qf0,qf1,qf2,qf3⟩:=P3.facts;obtain ⟨d0,d1,d2,df0,df1,df2⟩:=D3.facts;have hz5:w.heap.size≤u2.heap.size:=by omega
 have hz7:u2.heap.size<W3.heap.size:=P3.lt;have S3:=(qsd (ai hB3 (ai P3 D3)));clear hb hbW P3 D3 hB3 S2 H2 x0 x1 x2 xf0 xf1 xf2 y0 y1 y2
 go_upto_region 7 with fail
 rw [←hW3];clear hW3;go_wp2_with fail;refine (Calls.mono (HG.out _)) ?_;rintro r u3 ⟨rfl,hb⟩;have P4:=S3.out.2.1.below hb;have D4:=S3.out.2.2.below hb;have hB4:Below w.heap.size w u3:=S3.out.1.trans (hb.mono (by omega));have hz8:w.heap.size≤u3.heap.size:=by have:=hb.size;omega
 obtain ⟨r0,r1,r2,r3,rf0,rf1,rf2,rf3⟩:=P4.facts;obtain ⟨s0,s1,s2,sf0,sf1,sf2⟩:=D4.facts;have S4:=qsd hB4;clear hb P4 D4 hB4 S3 HG q0 q1 q2 q3 qf0 qf1 qf2 qf3 d0 d1 d2 df0 df1 df2;go_wp2_with fail
 try simp only [ecv]
 refine (Calls.mono (HD.out _)) ?_;rintro r ww ⟨rfl,hw⟩;rw [hw];clear hw ww HD;go_wp2_with fail;refine (Calls.mono (HC.out _)) ?_;rintro r ww ⟨rfl,hw⟩;rw [hw];clear hw ww HC;go_wp2
 go_ret2
 exact ⟨rfl,Below.setC S4.out _ _ _ hz5 hz8⟩
end
section
open Go.RowKit
def rndK (mode:Int) (n:Bool) (X:Nat) (e:Int):Nat :=
 let p:=plc 53 (-1074) 1024 X e
 (p.2.1+1074).toNat*4503599627370496+(if p.2.2.1 then p.1 else if outS mode p.1 p.2.2.2 n then p.1+1 else p.1)
def rndS (o:Option (Bool×Nat×Int)) (mode:Int):Nat×Int :=
 if mode<0∨4<mode then (0,1)
 else match o with
  | none=>(0,2)
  | some (n,X,e)=>if X=0 then (0,0) else (rndK mode n X e+(if n then 9223372036854775808 else 0),0)
theorem plc_mid (X:Nat) (e:Int):(plc 53 (-1074) 1024 X e).2.2.2=-1∨(plc 53 (-1074) 1024 X e).2.2.2=0∨(plc 53 (-1074) 1024 X e).2.2.2=1:=by
 unfold plc
 split
 · simp
 · simp only
   split
   · simp
   · simp only
     split
     · simp
     · split <;> simp
theorem ldexp_word (F:Nat) (ex:Int) (hF:F≤9007199254740992) (h0:-1074≤ex) (h1:ex≤971) (hn:ex=-1074∨4503599627370496≤F) :
 ∃ cw,floatOfInt .f64 (F:Int)=cw∧∀ u,Calls Tryz.prog 10 #[.float .f64 cw,.int .i64 ex] u fun r w'=>r=.returned (.float .f64 ((ex+1074).toNat*4503599627370496+F))∧w'=u:=by
 by_cases hz:F=0
 · subst hz;obtain rfl:ex=-1074:=by omega
   exact ⟨0,by decide,fun u=>B.Ldexp_nought _ u⟩
 · obtain ⟨e,g,hw⟩:=B.whole_of F (by omega) hF;exact ⟨_,B.ofInt_whole F e g hw,fun u=>B.Ldexp_any F e g ex u hw (by omega) hF h0 h1 hn⟩
theorem copy_word (K:Nat) (hK:K≤9218868437227405312) (u:World):Calls Tryz.prog 48 #[.float .f64 K,.float .f64 13830554455654793216] u fun r w'=>r=.returned (.float .f64 (K+9223372036854775808))∧w'=u:=by
 have h:=B.copysign_neg (K/4503599627370496) (K%4503599627370496) (by omega) (by omega) u;have e1:B.bw false (K/4503599627370496) (K%4503599627370496)=K:=by unfold B.bw;simp;omega
 have e2:B.bw true (K/4503599627370496) (K%4503599627370496)=K+9223372036854775808:=by unfold B.bw;simp;omega
 rw [e1,e2] at h;exact h
theorem round_any {w:World}{a:Option Addr}{l c:Nat}{xs:List Nat}(hA:Arg w a l c xs) (hT:Tab w) (n:Bool) (e mode:Int) (he0:-9223372036854775808≤e) (he1:e≤9223372036854775807) :
 Calls Tryz.prog 62 #[.agg #[.bool n,.slice a l c,.int .i64 e],.int .i64 mode,.agg #[.int .i64 53,.int .i64 (-1074),.int .i64 1024]] w fun r w'=>r=.returned (.tuple #[.float .f64 (rndS (mkS n (val xs) e) mode).1,.int .i64 (rndS (mkS n (val xs) e) mode).2])∧Below w.heap.size w w':=by
 unfold rndS
 by_cases hm:mode<0∨4<mode
 · rw [if_pos hm];exact round_mode n a l c e mode w hm
 · rw [if_neg hm];have HF:Hid (∀ u,Below w.heap.size w u→Calls Tryz.prog 79 #[.agg #[.bool n,.slice a l c,.int .i64 e]] u fun r w'=>DAns u.heap.size w' r (mkS n (val xs) e)∧Below u.heap.size u w'):=fun u hu=>form_any (hA.below hu) (hT.belows hu) n e he0 he1
   cases ho:mkS n (val xs) e with
   | none =>
     rw [ho] at HF;exact round_err n e mode false 0 0 2 (by rw [ws_zero];simp) (by omega) (by omega) rfl HF
   | some d =>
     obtain ⟨n1,X,e1⟩:=d;rw [ho] at HF;have FX:=mkS_frm ho;simp only
     by_cases hX:X=0
     · rw [if_pos hX];exact round_none n e mode n1 X e1 ((ws_len_zero X).2 hX) (by omega) (by omega) HF
     · rw [if_neg hX];have pf:=plc_facts X e1 hX FX.down FX.up;have pm:=plc_mid X e1;have HP:∀ (u:World) (p:Option Addr) (q:Nat),Arg u p (ws X).length q (ws X)→Calls Tryz.prog 80 #[.agg #[.bool n1,.slice p (ws X).length q,.int .i64 e1],.agg #[.int .i64 53,.int .i64 (-1074),.int .i64 1024]] u fun r w'=>r=.returned (.agg #[.int .u64 ((plc 53 (-1074) 1024 X e1).1:Nat),.int .i64 (plc 53 (-1074) 1024 X e1).2.1,.bool (plc 53 (-1074) 1024 X e1).2.2.1,.int .i64 (plc 53 (-1074) 1024 X e1).2.2.2])∧Below u.heap.size u w':=fun u p q hA=>placed_any hA n1 e1 FX.down FX.up hX FX.size;unfold rndK;simp only;generalize plc 53 (-1074) 1024 X e1=P at pf pm HP ⊢;obtain ⟨F,ex,t,mid⟩:=P;simp only at pf pm HP ⊢;obtain ⟨p1,p2,p3,p4⟩:=pf;have HG:∀ u,Calls Tryz.prog 81 #[.agg #[.int .u64 (F:Nat),.int .i64 ex,.bool false,.int .i64 mid],.int .i64 mode,.bool n1] u fun r w'=>r=.returned (.bool (outS mode F mid n1))∧Below u.heap.size u w':=fun u=>goesOut_any F ex false mid mode n1 u (by omega) pm (by omega) (by omega);have lX:=frm_len FX
       cases t with
       | true =>
         simp only [if_true];obtain ⟨cw,ecv,HD⟩:=ldexp_word F ex (by omega) p2 p3 p4
         cases n1 with
         | false =>
           simp only [Bool.false_eq_true,if_false,Nat.add_zero];exact round_tf n e mode X e1 lX (len_ne hX) (by omega) (by omega) F cw _ 0 ex mid p1 ecv HF (hid HP) (hid HD)
         | true =>
           simp only [if_true];exact round_tt n e mode X e1 lX (len_ne hX) (by omega) (by omega) F cw _ _ ex mid p1 ecv HF (hid HP) (hid HD) (hid fun u=>copy_word _ (by omega) u)
       | false =>
         simp only [Bool.false_eq_true,if_false]
         cases hob:outS mode F mid n1 with
         | false =>
           rw [hob] at HG;simp only [Bool.false_eq_true,if_false];obtain ⟨cw,ecv,HD⟩:=ldexp_word F ex (by omega) p2 p3 p4
           cases n1 with
           | false =>
             simp only [Bool.false_eq_true,if_false,Nat.add_zero];exact round_fff n e mode X e1 lX (len_ne hX) (by omega) (by omega) F cw _ 0 ex mid p1 ecv HF (hid HP) (hid HG) (hid HD)
           | true =>
             simp only [if_true];exact round_fft n e mode X e1 lX (len_ne hX) (by omega) (by omega) F cw _ _ ex mid p1 ecv HF (hid HP) (hid HG) (hid HD) (hid fun u=>copy_word _ (by omega) u)
         | true =>
           rw [hob] at HG;simp only [if_true];obtain ⟨cw,ecv,HD⟩:=ldexp_word (F+1) ex (by omega) p2 p3 (by omega)
           cases n1 with
           | false =>
             simp only [Bool.false_eq_true,if_false,Nat.add_zero];exact round_ftf n e mode X e1 lX (len_ne hX) (by omega) (by omega) F cw _ 0 ex mid p1 (by simpa using ecv) HF (hid HP) (hid HG) (hid HD)
           | true =>
             simp only [if_true];exact round_ftt n e mode X e1 lX (len_ne hX) (by omega) (by omega) F cw _ _ ex mid p1 (by simpa using ecv) HF (hid HP) (hid HG) (hid HD) (hid fun u=>copy_word _ (by omega) u)
theorem Round_any {w:World}{a:Option Addr}{l c:Nat}{xs:List Nat}(hA:Arg w a l c xs) (hT:Tab w) (n:Bool) (e mode:Int) (he0:-9223372036854775808≤e) (he1:e≤9223372036854775807) :
 Calls Tryz.prog 39 #[.agg #[.bool n,.slice a l c,.int .i64 e],.int .i64 mode] w fun r w'=>r=.returned (.tuple #[.float .f64 (rndS (mkS n (val xs) e) mode).1,.int .i64 (rndS (mkS n (val xs) e) mode).2])∧Below w.heap.size w w':=by
 have hb0:=below_alloc w (.cells #[.bool n,.slice a l c,.int .i64 e] 70);have H:=hid (round_any (hA.below hb0) (hT.belows hb0) n e mode he0 he1);have S0:=qsd hb0;obtain ⟨⟨K,er⟩,hK⟩:∃ K,rndS (mkS n (val xs) e) mode=K:=⟨_,rfl⟩;rw [hK] at H ⊢;simp only at H ⊢;clear hA hT hb0 hK;go_enter Tryz.func39,Tryz.ntmps39;go_wp2_with fail;refine H.out.mono ?_;rintro r u1 ⟨rfl,hb⟩;have S1:=qsd hb;clear hb;go_wp2
 go_ret2
 exact ⟨rfl,S0.out.trans (S1.out.mono (by simp))⟩
end
section
open Go.RowKit
theorem lo_odd1 {X:Nat}(h:X%2=1):lo X=0:=by
 have:=lo_eq 0 (X/2);rw [show 2^0*(2*(X/2)+1)=X by omega] at this;exact this
end
end Go.Proofs.YtepkabljmpbmaaaGreatDoor
