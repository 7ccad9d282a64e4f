import Derived.Test.YthejkolknalpaaaGreatDoorD16x
import Derived.Deep.Cut
import Derived.Test.YthejkolknalpaaaGreatDoorS11ax
import Derived.Test.YthejkolknalpaaaGreatDoorP2x
import Derived.Test.YthejkolknalpaaaGreatDoorBIeeex
import Derived.Test.YthejkolknalpaaaGreatDoorM1x
import Ieee.Arith
set_option linter.unusedVariables false
set_option linter.unusedSimpArgs false
set_option maxHeartbeats 16000000
set_option maxRecDepth 20000
namespace Go.Proofs.YthejkolknalpaaaGreatDoor
section
open Go.RowKit
def Pk (w:World) (g:Nat) (f:Int) (e:Int) (t:Bool) (m:Int):Prop:=w.heap[g]?=some (.cells #[.int .u64 f,.int .i64 e,.bool t,.int .i64 m] 169 (0,0))
theorem Pk.lt {w:World}{g:Nat}{f e:Int}{t:Bool}{m:Int}(h:Pk w g f e t m):g<w.heap.size:=(Array.getElem?_eq_some_iff.1 h).1
theorem Pk.below {w w':World}{g:Nat}{f e:Int}{t:Bool}{m:Int}(h:Pk w g f e t m) (hb:Below w.heap.size w w'):Pk w' g f e t m:=by
 unfold Pk;rw [hb.block g h.lt];exact h
theorem Pk.facts {w:World}{g:Nat}{f e:Int}{t:Bool}{m:Int}(h:Pk w g f e t m) :
 w.cell? ⟨g,0,none⟩=some (.int .u64 f)∧w.cell? ⟨g,1,none⟩=some (.int .i64 e)∧w.cell? ⟨g,2,none⟩=some (.bool t)∧w.cell? ⟨g,3,none⟩=some (.int .i64 m) ∧
 w.frozen? ⟨g,0,none⟩=false∧w.frozen? ⟨g,1,none⟩=false∧w.frozen? ⟨g,2,none⟩=false∧w.frozen? ⟨g,3,none⟩=false:=by
 unfold Pk at h;simp [World.cell?,World.frozen?,h]
def Wk (w:World) (g:Nat) (a b c:Int):Prop:=w.heap[g]?=some (.cells #[.int .i64 a,.int .i64 b,.int .i64 c] 136 (0,0))
theorem Wk.facts {w:World}{g:Nat}{a b c:Int}(h:Wk w g a b c):w.cell? ⟨g,0,none⟩=some (.int .i64 a)∧w.cell? ⟨g,1,none⟩=some (.int .i64 b)∧w.cell? ⟨g,2,none⟩=some (.int .i64 c):=by
 unfold Wk at h;simp [World.cell?,h]
theorem placed_begin (w:World) (n:Bool) (v:Value) (e a b c:Int) (W:World) (hW:W=((w.alloc (.cells #[.bool n,v,.int .i64 e] 67)).alloc (.cells #[.int .i64 a,.int .i64 b,.int .i64 c] 136)).alloc (.cells #[.int .u64 0,.int .i64 0,.bool false,.int .i64 0] 169)) :
 Below w.heap.size w W∧W.heap.size=w.heap.size+3∧Dk W w.heap.size n v e∧Wk W (w.heap.size+1) a b c∧Pk W (w.heap.size+1+1) 0 0 false 0:=by
 subst hW;refine ⟨((below_alloc w _).alloc (by simp) _).alloc (by simp;omega) _,by simp,((Dk.new w n v e).alloc _).alloc _,?_,?_⟩
 · unfold Wk
   rw [Below.heap_alloc _ _ _ (by simp)]
   have:=heap_alloc_new (w.alloc (.cells #[.bool n,v,.int .i64 e] 67)) (.cells #[.int .i64 a,.int .i64 b,.int .i64 c] 136);simpa using this
 · have:=heap_alloc_new ((w.alloc (.cells #[.bool n,v,.int .i64 e] 67)).alloc (.cells #[.int .i64 a,.int .i64 b,.int .i64 c] 136)) (.cells #[.int .u64 0,.int .i64 0,.bool false,.int .i64 0] 169)
   unfold Pk;simpa using this
def plc (dg:Nat) (least top:Int) (X:Nat) (e:Int):Nat×Int×Bool×Int :=
 if top<e+bl X then (2^dg-1,top-dg,false,1)
 else
  let ex:=max (e+bl X-dg) least
  let off:=ex-e
  if off≤0 then (X*2^(-off).toNat,ex,true,-1)
  else (X/2^off.toNat,ex,false,if off=1 then 0 else if X/2^(off-1).toNat%2=1 then 1 else -1)
abbrev st4 (w:World) (g:Nat) (x y z t:Value):World:=(((w.setCell ⟨g,0,none⟩ x).setCell ⟨g,1,none⟩ y).setCell ⟨g,2,none⟩ z).setCell ⟨g,3,none⟩ t
theorem Pk.set {w:World}{g:Nat}{f e:Int}{t:Bool}{m:Int}(h:Pk w g f e t m) (f' e':Int) (t':Bool) (m':Int):Pk (st4 w g (.int .u64 f') (.int .i64 e') (.bool t') (.int .i64 m')) g f' e' t' m':=by
 unfold Pk at h ⊢;simp [st4,World.setCell,Array.getElem?_modify,h]
theorem Pk.drew {w:World}{g:Nat}{f e:Int}{t:Bool}{m:Int}(h:Pk w g f e t m):Pk w.drew g f e t m:=h
theorem Pk.alloc {w:World}{g:Nat}{f e:Int}{t:Bool}{m:Int}(h:Pk w g f e t m) (o:Obj):Pk (w.alloc o) g f e t m:=h.below (below_alloc w o)
theorem placed_res (W:World) (g:Nat) (f e:Int) (t:Bool) (m:Int) (tmps:Array Value) (ht:tmps[4]?.getD undef=.pointer (some ⟨g,0,none⟩)) (D:Pk W g f e t m) :
 (results Tryz.f124 tmps).run Tryz.prog W=.ok (.agg #[.int .u64 f,.int .i64 e,.bool t,.int .i64 m]) W:=by
 obtain ⟨x0,x1,x2,x3,xf0,xf1,xf2,xf3⟩:=D.facts;simp [results,Tryz.results124,ht,go_sem,x0,x1,x2,x3]
theorem placed_far64 {w:World}{a:Option Addr}{l c:Nat}(n:Bool) (X:Nat) (e:Int) (b:Nat) (he0:-1048576≤e) (he1:e≤1048576) (hb:b≤262144) (hfar:1024<e+(b:Int))
 (HL:Hid (∀ u,Below w.heap.size w u→Calls Tryz.prog 66 #[.slice a l c] u fun r w'=>r=.returned (.int .i64 (b:Nat))∧w'=u)) :
 Calls Tryz.prog 124 #[.agg #[.bool n,.slice a l c,.int .i64 e],.agg #[.int .i64 53,.int .i64 (-1074),.int .i64 1024]] w fun r w'=>r=.returned (.agg #[.int .u64 9007199254740991,.int .i64 971,.bool false,.int .i64 1])∧Below w.heap.size w w':=by
 obtain ⟨W1,hW1⟩:∃ W,W=((w.alloc (.cells #[.bool n,.slice a l c,.int .i64 e] 67)).alloc (.cells #[.int .i64 53,.int .i64 (-1074),.int .i64 1024] 136)).alloc (.cells #[.int .u64 0,.int .i64 0,.bool false,.int .i64 0] 169):=⟨_,rfl⟩;obtain ⟨hB,hz1,DD,DW,DP⟩:=placed_begin w n (.slice a l c) e 53 (-1074) 1024 W1 hW1;have H1:=hid (HL.out W1 hB);obtain ⟨x0,x1,x2,xf0,xf1,xf2⟩:=DD.facts;obtain ⟨y0,y1,y2⟩:=DW.facts;obtain ⟨p0,p1,p2,p3,pf0,pf1,pf2,pf3⟩:=DP.facts;have F0:=qsd (show Fin w.heap.size (w.heap.size+3) w W1 (.slice none 0 0) 0 from ⟨Nt.nil _ _,hB,by omega⟩)
 have SB:=(qsd (ai hB (ai hz1 DP)));clear hB hz1 DD DW DP HL;go_enter Tryz.func124,Tryz.ntmps124
 go_wp2_with fail
 rw [←hW1];clear hW1;refine H1.out.mono ?_;rintro r ww ⟨rfl,hw⟩;rw [hw];clear hw ww H1;go_wp2
 go_region
 all_goals (
  go_wp2;refine bodyPost_ret (placed_res _ (w.heap.size+1+1) 9007199254740991 971 false 1 _ rfl (by repeat (with_reducible first | exact SB.out.2.2 | refine Pk.drew ?_ | refine Pk.set (f:=0) (e:=0) (t:=false) (m:=0) ?_ _ _ _ _))) rfl ⟨rfl,?_⟩
  refine Fin.bel (m:=w.heap.size+3) (v:=.slice none 0 0) (X:=0) ?_
  repeat (with_reducible first | exact F0.out | refine Fin.drew ?_ | refine Fin.alloc ?_ _ | refine Fin.set ?_ _ _ _ (by omega) (by omega)))
theorem placed_64one {w:World}{a:Option Addr}{l c:Nat}(n:Bool) (e ex off:Int) (b F:Nat) (he0:-1048576≤e) (he1:e≤1048576) (hb:b≤262144) (hF:F<18446744073709551616) (lF:(ws F).length≤100) (hnf:e+(b:Int)≤1024)
 (hmx:max (e+(b:Int)-53) (-1074)=ex) (eof:ex-e=off) (hex0:-2000≤ex) (hex1:ex≤2000) (hof0:-2000000≤off) (hof1:off≤2000000) (tt:Bool) (htt:decide (off≤0)=tt) (ho:(off==1)=true)
 (HL:Hid (∀ u,Below w.heap.size w u→Calls Tryz.prog 66 #[.slice a l c] u fun r w'=>r=.returned (.int .i64 (b:Nat))∧w'=u))
 (HS:Hid (∀ u,Below w.heap.size w u→Calls Tryz.prog 139 #[.slice a l c,.int .i64 (-off)] u fun r w'=>∃ v,r=.returned (.tuple #[v,.int .i64 0])∧Nt u.heap.size w' v F∧Below u.heap.size u w'))
 (HM:Hid (∀ (u:World) (p:Option Addr) (q:Nat),Arg u p (ws F).length q (ws F)→Calls Tryz.prog 147 #[.slice p (ws F).length q] u fun r w'=>r=.returned (.tuple #[.int .u64 (F:Nat),.int .i64 0])∧w'=u)) :
 Calls Tryz.prog 124 #[.agg #[.bool n,.slice a l c,.int .i64 e],.agg #[.int .i64 53,.int .i64 (-1074),.int .i64 1024]] w fun r w'=>r=.returned (.agg #[.int .u64 (F:Nat),.int .i64 ex,.bool tt,.int .i64 0])∧Below w.heap.size w w':=by
 obtain ⟨W1,hW1⟩:∃ W,W=((w.alloc (.cells #[.bool n,.slice a l c,.int .i64 e] 67)).alloc (.cells #[.int .i64 53,.int .i64 (-1074),.int .i64 1024] 136)).alloc (.cells #[.int .u64 0,.int .i64 0,.bool false,.int .i64 0] 169):=⟨_,rfl⟩;obtain ⟨hB,hz1,DD,DW,DP⟩:=placed_begin w n (.slice a l c) e 53 (-1074) 1024 W1 hW1;have H1:=hid (HL.out W1 hB);have H2:=hid (HS.out W1 hB);obtain ⟨x0,x1,x2,xf0,xf1,xf2⟩:=DD.facts;obtain ⟨y0,y1,y2⟩:=DW.facts;have SB:=(qsd (ai hB (ai hz1 (ai DD DP))));clear hB hz1 DD DW DP HL HS;go_enter Tryz.func124,Tryz.ntmps124
 go_wp2_with fail
 rw [←hW1];clear hW1;refine H1.out.mono ?_;rintro r ww ⟨rfl,hw⟩;rw [hw];clear hw ww H1
 go_wp2_with fail
 try simp only [hmx,eof]
 refine H2.out.mono ?_;rintro r u1 ⟨v,rfl,hN,hbb⟩;obtain ⟨a1,c1,rfl,A1⟩:=hN.arg (by omega)
 obtain ⟨hB,hz1,DD,DP⟩:=SB.out;have H3:=hid (HM.out u1 a1 c1 A1);obtain ⟨z0,z1,z2,zf0,zf1,zf2⟩:=(DD.below hbb).facts;have DP1:=DP.below hbb;obtain ⟨p0,p1,p2,p3,pf0,pf1,pf2,pf3⟩:=DP1.facts;have F0:=qsd (show Fin w.heap.size (w.heap.size+3) w u1 (.slice none 0 0) 0 from ⟨Nt.nil _ _,hB.trans (hbb.mono (by omega)),by have:=hbb.size;omega⟩)
 have hz:w.heap.size+1+1<u1.heap.size:=by have:=hbb.size;omega
 have hz':w.heap.size<u1.heap.size:=by omega
 have SP:=qsd DP1;clear hN hbb A1 hB hz1 DD DP DP1 H2 HM SB
 go_wp2_with fail
 try simp only [hmx,eof]
 refine H3.out.mono ?_;rintro r ww ⟨rfl,hw⟩;rw [hw];clear hw ww H3;go_wp2;refine bodyPost_ret (placed_res _ (w.heap.size+1+1) (F:Nat) ex tt 0 _ rfl (by repeat (with_reducible first | exact SP.out | refine Pk.alloc ?_ _ | refine Pk.drew ?_ | refine Pk.set (f:=0) (e:=0) (t:=false) (m:=0) ?_ _ _ _ _))) rfl ⟨rfl,?_⟩
 refine Fin.bel (m:=w.heap.size+3) (v:=.slice none 0 0) (X:=0) ?_
 repeat (with_reducible first | exact F0.out | refine Fin.drew ?_ | refine Fin.alloc ?_ _ | refine Fin.set ?_ _ _ _ (by omega) (by omega))
theorem placed_64bt {w:World}{a:Option Addr}{l c:Nat}(n:Bool) (e ex off:Int) (b F:Nat) (he0:-1048576≤e) (he1:e≤1048576) (hb:b≤262144) (hF:F<18446744073709551616) (lF:(ws F).length≤100) (hnf:e+(b:Int)≤1024)
 (hmx:max (e+(b:Int)-53) (-1074)=ex) (eof:ex-e=off) (hex0:-2000≤ex) (hex1:ex≤2000) (hof0:-2000000≤off) (hof1:off≤2000000) (tt:Bool) (htt:decide (off≤0)=tt) (ho:(off==1)=false)
 (HL:Hid (∀ u,Below w.heap.size w u→Calls Tryz.prog 66 #[.slice a l c] u fun r w'=>r=.returned (.int .i64 (b:Nat))∧w'=u))
 (HS:Hid (∀ u,Below w.heap.size w u→Calls Tryz.prog 139 #[.slice a l c,.int .i64 (-off)] u fun r w'=>∃ v,r=.returned (.tuple #[v,.int .i64 0])∧Nt u.heap.size w' v F∧Below u.heap.size u w'))
 (HM:Hid (∀ (u:World) (p:Option Addr) (q:Nat),Arg u p (ws F).length q (ws F)→Calls Tryz.prog 147 #[.slice p (ws F).length q] u fun r w'=>r=.returned (.tuple #[.int .u64 (F:Nat),.int .i64 0])∧w'=u))
 (HB:Hid (∀ u,Below w.heap.size w u→Calls Tryz.prog 148 #[.slice a l c,.int .i64 (off-1)] u fun r w'=>r=.returned (.bool true)∧w'=u)) :
 Calls Tryz.prog 124 #[.agg #[.bool n,.slice a l c,.int .i64 e],.agg #[.int .i64 53,.int .i64 (-1074),.int .i64 1024]] w fun r w'=>r=.returned (.agg #[.int .u64 (F:Nat),.int .i64 ex,.bool tt,.int .i64 1])∧Below w.heap.size w w':=by
 obtain ⟨W1,hW1⟩:∃ W,W=((w.alloc (.cells #[.bool n,.slice a l c,.int .i64 e] 67)).alloc (.cells #[.int .i64 53,.int .i64 (-1074),.int .i64 1024] 136)).alloc (.cells #[.int .u64 0,.int .i64 0,.bool false,.int .i64 0] 169):=⟨_,rfl⟩;obtain ⟨hB,hz1,DD,DW,DP⟩:=placed_begin w n (.slice a l c) e 53 (-1074) 1024 W1 hW1;have H1:=hid (HL.out W1 hB);have H2:=hid (HS.out W1 hB);obtain ⟨x0,x1,x2,xf0,xf1,xf2⟩:=DD.facts;obtain ⟨y0,y1,y2⟩:=DW.facts;have SB:=(qsd (ai hB (ai hz1 (ai DD DP))));clear hB hz1 DD DW DP HL HS;go_enter Tryz.func124,Tryz.ntmps124
 go_wp2_with fail
 rw [←hW1];clear hW1;refine H1.out.mono ?_;rintro r ww ⟨rfl,hw⟩;rw [hw];clear hw ww H1
 go_wp2_with fail
 try simp only [hmx,eof]
 refine H2.out.mono ?_;rintro r u1 ⟨v,rfl,hN,hbb⟩;obtain ⟨a1,c1,rfl,A1⟩:=hN.arg (by omega)
 obtain ⟨hB,hz1,DD,DP⟩:=SB.out;have H3:=hid (HM.out u1 a1 c1 A1);obtain ⟨z0,z1,z2,zf0,zf1,zf2⟩:=(DD.below hbb).facts;have DP1:=DP.below hbb;obtain ⟨p0,p1,p2,p3,pf0,pf1,pf2,pf3⟩:=DP1.facts;have F0:=qsd (show Fin w.heap.size (w.heap.size+3) w u1 (.slice none 0 0) 0 from ⟨Nt.nil _ _,hB.trans (hbb.mono (by omega)),by have:=hbb.size;omega⟩)
 have hz:w.heap.size+1+1<u1.heap.size:=by have:=hbb.size;omega
 have hz':w.heap.size<u1.heap.size:=by omega
 have SP:=qsd DP1;clear hN hbb A1 hB hz1 DD DP DP1 H2 HM SB
 go_wp2_with fail
 try simp only [hmx,eof]
 refine H3.out.mono ?_;rintro r ww ⟨rfl,hw⟩;rw [hw];clear hw ww H3;have H4:=hid (HB.out (u1.alloc (.cells #[.int .u64 (F:Nat),.int .i64 ex,.bool tt,.int .i64 (-1)] 169)) (F0.out.bel.alloc F0.out.size _));clear HB
 go_wp2_with fail
 try simp only [hmx,eof,htt]
 refine H4.out.mono ?_;rintro r ww ⟨rfl,hw⟩;rw [hw];clear hw ww H4;go_wp2;refine bodyPost_ret (placed_res _ (w.heap.size+1+1) (F:Nat) ex tt 1 _ rfl (by repeat (with_reducible first | exact SP.out | refine Pk.alloc ?_ _ | refine Pk.drew ?_ | refine Pk.set (f:=0) (e:=0) (t:=false) (m:=0) ?_ _ _ _ _))) rfl ⟨rfl,?_⟩
 refine Fin.bel (m:=w.heap.size+3) (v:=.slice none 0 0) (X:=0) ?_
 repeat (with_reducible first | exact F0.out | refine Fin.drew ?_ | refine Fin.alloc ?_ _ | refine Fin.set ?_ _ _ _ (by omega) (by omega))
theorem placed_64bf {w:World}{a:Option Addr}{l c:Nat}(n:Bool) (e ex off:Int) (b F:Nat) (he0:-1048576≤e) (he1:e≤1048576) (hb:b≤262144) (hF:F<18446744073709551616) (lF:(ws F).length≤100) (hnf:e+(b:Int)≤1024)
 (hmx:max (e+(b:Int)-53) (-1074)=ex) (eof:ex-e=off) (hex0:-2000≤ex) (hex1:ex≤2000) (hof0:-2000000≤off) (hof1:off≤2000000) (tt:Bool) (htt:decide (off≤0)=tt) (ho:(off==1)=false)
 (HL:Hid (∀ u,Below w.heap.size w u→Calls Tryz.prog 66 #[.slice a l c] u fun r w'=>r=.returned (.int .i64 (b:Nat))∧w'=u))
 (HS:Hid (∀ u,Below w.heap.size w u→Calls Tryz.prog 139 #[.slice a l c,.int .i64 (-off)] u fun r w'=>∃ v,r=.returned (.tuple #[v,.int .i64 0])∧Nt u.heap.size w' v F∧Below u.heap.size u w'))
 (HM:Hid (∀ (u:World) (p:Option Addr) (q:Nat),Arg u p (ws F).length q (ws F)→Calls Tryz.prog 147 #[.slice p (ws F).length q] u fun r w'=>r=.returned (.tuple #[.int .u64 (F:Nat),.int .i64 0])∧w'=u))
 (HB:Hid (∀ u,Below w.heap.size w u→Calls Tryz.prog 148 #[.slice a l c,.int .i64 (off-1)] u fun r w'=>r=.returned (.bool false)∧w'=u)) :
 Calls Tryz.prog 124 #[.agg #[.bool n,.slice a l c,.int .i64 e],.agg #[.int .i64 53,.int .i64 (-1074),.int .i64 1024]] w fun r w'=>r=.returned (.agg #[.int .u64 (F:Nat),.int .i64 ex,.bool tt,.int .i64 (-1)])∧Below w.heap.size w w':=by
 obtain ⟨W1,hW1⟩:∃ W,W=((w.alloc (.cells #[.bool n,.slice a l c,.int .i64 e] 67)).alloc (.cells #[.int .i64 53,.int .i64 (-1074),.int .i64 1024] 136)).alloc (.cells #[.int .u64 0,.int .i64 0,.bool false,.int .i64 0] 169):=⟨_,rfl⟩;obtain ⟨hB,hz1,DD,DW,DP⟩:=placed_begin w n (.slice a l c) e 53 (-1074) 1024 W1 hW1;have H1:=hid (HL.out W1 hB);have H2:=hid (HS.out W1 hB);obtain ⟨x0,x1,x2,xf0,xf1,xf2⟩:=DD.facts;obtain ⟨y0,y1,y2⟩:=DW.facts;have SB:=(qsd (ai hB (ai hz1 (ai DD DP))));clear hB hz1 DD DW DP HL HS;go_enter Tryz.func124,Tryz.ntmps124
 go_wp2_with fail
 rw [←hW1];clear hW1;refine H1.out.mono ?_;rintro r ww ⟨rfl,hw⟩;rw [hw];clear hw ww H1
 go_wp2_with fail
 try simp only [hmx,eof]
 refine H2.out.mono ?_;rintro r u1 ⟨v,rfl,hN,hbb⟩;obtain ⟨a1,c1,rfl,A1⟩:=hN.arg (by omega)
 obtain ⟨hB,hz1,DD,DP⟩:=SB.out;have H3:=hid (HM.out u1 a1 c1 A1);obtain ⟨z0,z1,z2,zf0,zf1,zf2⟩:=(DD.below hbb).facts;have DP1:=DP.below hbb;obtain ⟨p0,p1,p2,p3,pf0,pf1,pf2,pf3⟩:=DP1.facts;have F0:=qsd (show Fin w.heap.size (w.heap.size+3) w u1 (.slice none 0 0) 0 from ⟨Nt.nil _ _,hB.trans (hbb.mono (by omega)),by have:=hbb.size;omega⟩)
 have hz:w.heap.size+1+1<u1.heap.size:=by have:=hbb.size;omega
 have hz':w.heap.size<u1.heap.size:=by omega
 have SP:=qsd DP1;clear hN hbb A1 hB hz1 DD DP DP1 H2 HM SB
 go_wp2_with fail
 try simp only [hmx,eof]
 refine H3.out.mono ?_;rintro r ww ⟨rfl,hw⟩;rw [hw];clear hw ww H3;have H4:=hid (HB.out (u1.alloc (.cells #[.int .u64 (F:Nat),.int .i64 ex,.bool tt,.int .i64 (-1)] 169)) (F0.out.bel.alloc F0.out.size _));clear HB
 go_wp2_with fail
 try simp only [hmx,eof,htt]
 refine H4.out.mono ?_;rintro r ww ⟨rfl,hw⟩;rw [hw];clear hw ww H4;go_wp2;refine bodyPost_ret (placed_res _ (w.heap.size+1+1) (F:Nat) ex tt (-1) _ rfl (by repeat (with_reducible first | exact SP.out | refine Pk.alloc ?_ _ | refine Pk.drew ?_ | refine Pk.set (f:=0) (e:=0) (t:=false) (m:=0) ?_ _ _ _ _))) rfl ⟨rfl,?_⟩
 refine Fin.bel (m:=w.heap.size+3) (v:=.slice none 0 0) (X:=0) ?_
 repeat (with_reducible first | exact F0.out | refine Fin.drew ?_ | refine Fin.alloc ?_ _ | refine Fin.set ?_ _ _ _ (by omega) (by omega))
theorem small_ws {w:World}{p:Option Addr}{q F:Nat}(hF:F<18446744073709551616) (hA:Arg w p (ws F).length q (ws F)) :
 Calls Tryz.prog 147 #[.slice p (ws F).length q] w fun r w'=>r=.returned (.tuple #[.int .u64 (F:Nat),.int .i64 0])∧w'=w:=by
 have:=small_any (ws F) p (ws F).length q w.heap.size w hA.len hA.cap (by have:=hA.big;omega) hA.wf hA.rd
 rw [val_ws] at this;unfold smallV at this;rw [if_pos hF] at this;exact this
theorem plc_facts (X:Nat) (e:Int) (hX:X≠0) (he0:-1048576≤e) (he1:e≤1048576) :
 (plc 53 (-1074) 1024 X e).1≤9007199254740991∧-1074≤(plc 53 (-1074) 1024 X e).2.1∧(plc 53 (-1074) 1024 X e).2.1≤971∧((plc 53 (-1074) 1024 X e).2.1=-1074∨4503599627370496≤(plc 53 (-1074) 1024 X e).1):=by
 have hb:=bl_pos X hX;have h1:=bl_lt X;have h2:=bl_ge X hX;have e53:(2:Nat)^53=9007199254740992:=rfl;have e52:(2:Nat)^52=4503599627370496:=rfl;unfold plc
 by_cases hf:1024<e+(bl X:Int)
 · rw [if_pos hf]
   refine ⟨by simp,by simp,by simp,.inr (by simp)⟩
 · rw [if_neg hf]
   simp only;obtain ⟨ex,hex⟩:∃ ex,max (e+(bl X:Int)-((53:Nat):Int)) (-1074)=ex:=⟨_,rfl⟩;rw [hex]
   by_cases ho:ex-e≤0
   · rw [if_pos ho]
     obtain ⟨k,hk⟩:∃ k:Nat,(-(ex-e)).toNat=k:=⟨_,rfl⟩;rw [hk];have hub:X*2^k<2^(bl X+k):=by rw [Nat.pow_add];exact Nat.mul_lt_mul_of_pos_right h1 (Nat.two_pow_pos k)
     have hm:2^(bl X+k)≤2^53:=Nat.pow_le_pow_right (by omega) (by omega)
     refine ⟨by simp only;omega,by simp only;omega,by simp only;omega,?_⟩
     by_cases hl:ex=-1074
     · exact .inl hl
     · right
       have hlb:2^(bl X-1)*2^k≤X*2^k:=Nat.mul_le_mul_right _ h2;rw [←Nat.pow_add,show bl X-1+k=52 by omega] at hlb
       simp only;omega
   · rw [if_neg ho]
     obtain ⟨k,hk⟩:∃ k:Nat,(ex-e).toNat=k:=⟨_,rfl⟩;rw [hk]
     have hub:X/2^k<2^53:=by
      rw [Nat.div_lt_iff_lt_mul (Nat.two_pow_pos k),←Nat.pow_add];exact Nat.lt_of_lt_of_le h1 (Nat.pow_le_pow_right (by omega) (by omega))
     refine ⟨by simp only;omega,by simp only;omega,by simp only;omega,?_⟩
     by_cases hl:ex=-1074
     · exact .inl hl
     · right
       have hlb:2^52≤X/2^k:=by
        rw [Nat.le_div_iff_mul_le (Nat.two_pow_pos k),←Nat.pow_add,show 52+k=bl X-1 by omega]
        exact h2
       simp only;omega
theorem shift_down (X:Nat) (k:Nat) (hX:X≠0) (hl:bl X≤262144) (h0:0<k):shiftS X (-(k:Int))=(X/2^k,0):=by
 unfold shiftS;rw [if_neg (notLG hl),if_neg hX,if_pos (by omega),show (- -(k:Int)).toNat=k by omega]
theorem placed_any {w:World}{a:Option Addr}{l c:Nat}{X:Nat}(hA:Arg w a l c (ws X)) (n:Bool) (e:Int) (he0:-1048576≤e) (he1:e≤1048576) (hX:X≠0) (hl:bl X≤262144) :
 Calls Tryz.prog 124 #[.agg #[.bool n,.slice a l c,.int .i64 e],.agg #[.int .i64 53,.int .i64 (-1074),.int .i64 1024]] w fun r w' =>
  r=.returned (.agg #[.int .u64 ((plc 53 (-1074) 1024 X e).1:Nat),.int .i64 (plc 53 (-1074) 1024 X e).2.1,.bool (plc 53 (-1074) 1024 X e).2.2.1,.int .i64 (plc 53 (-1074) 1024 X e).2.2.2])∧Below w.heap.size w w':=by
 have pf:=plc_facts X e hX he0 he1
 have HL:Hid (∀ u,Below w.heap.size w u→Calls Tryz.prog 66 #[.slice a l c] u fun r w'=>r=.returned (.int .i64 (bl X:Nat))∧w'=u):=by
  intro u hu;have A:=hA.below hu;have:=len_any (ws X) a l c u.heap.size u A.len A.cap (by have:=A.big;omega) A.wf A.rd
  rw [val_ws] at this;exact this
 have hb:=bl_pos X hX
 by_cases hf:1024<e+(bl X:Int)
 · have hp:plc 53 (-1074) 1024 X e=(9007199254740991,971,false,1):=by unfold plc;rw [if_pos hf];rfl
   rw [hp];exact placed_far64 n X e (bl X) he0 he1 hl hf HL
 · obtain ⟨ex,hex⟩:∃ ex,max (e+(bl X:Int)-53) (-1074)=ex:=⟨_,rfl⟩
   obtain ⟨off,hof⟩:∃ off,ex-e=off:=⟨_,rfl⟩;have hexb:-2000≤ex∧ex≤2000:=by omega
   have hp:plc 53 (-1074) 1024 X e=if off≤0 then (X*2^(-off).toNat,ex,true,-1) else (X/2^off.toNat,ex,false,if off=1 then 0 else if X/2^(off-1).toNat%2=1 then 1 else -1):=by
    unfold plc;rw [if_neg hf];simp only;rw [show ((53:Nat):Int)=53 from rfl,hex,hof]
   obtain ⟨F,hFe⟩:∃ F,(plc 53 (-1074) 1024 X e).1=F:=⟨_,rfl⟩;have hF:F≤9007199254740991:=by rw [←hFe];exact pf.1
   have lF:(ws F).length≤100:=by have:=ws_len_bl F;have:=B.bl_le53' F hF;omega
   have hsh:shiftS X (-off)=(F,0):=by
    rw [←hFe,hp]
    by_cases ho:off≤0
    · rw [if_pos ho,shift_up X (-off) (by omega) hX hl,if_neg (by omega)]
    · obtain ⟨k,hk⟩:∃ k:Nat,off=(k:Int):=⟨off.toNat,by omega⟩
      rw [if_neg ho,hk,shift_down X k hX hl (by omega),Int.toNat_natCast]
   have HS:Hid (∀ u,Below w.heap.size w u→Calls Tryz.prog 139 #[.slice a l c,.int .i64 (-off)] u fun r w'=>∃ v,r=.returned (.tuple #[v,.int .i64 0])∧Nt u.heap.size w' v F∧Below u.heap.size u w'):=by
    intro u hu;have A:=hA.below hu;exact Shift_arg (-off) A (by rw [val_ws];exact hsh) (by omega) (by omega)
   have HM:Hid (∀ (u:World) (p:Option Addr) (q:Nat),Arg u p (ws F).length q (ws F)→Calls Tryz.prog 147 #[.slice p (ws F).length q] u fun r w'=>r=.returned (.tuple #[.int .u64 (F:Nat),.int .i64 0])∧w'=u):=fun u p q hA=>small_ws (by omega) hA
   have HB:∀ t:Bool,(if off-1<0 then false else decide (X/2^(off-1).toNat%2=1))=t→Hid (∀ u,Below w.heap.size w u→Calls Tryz.prog 148 #[.slice a l c,.int .i64 (off-1)] u fun r w'=>r=.returned (.bool t)∧w'=u):=by
    intro t ht u hu;have A:=hA.below hu
    by_cases h0:off-1<0
    · rw [if_pos h0] at ht;subst ht;exact bit_neg a l c (off-1) u h0
    · rw [if_neg h0] at ht
      obtain ⟨k,hk⟩:∃ k:Nat,off-1=(k:Int):=⟨(off-1).toNat,by omega⟩
      have:=bit_any (ws X) a l c u.heap.size k u A.len A.wf A.rd (by omega)
      rw [val_ws] at this;rw [hk] at ht ⊢;rw [Int.toNat_natCast] at ht;rw [ht] at this;exact this
   rw [hFe]
   by_cases h1:off=1
   · have:=placed_64one n e ex off (bl X) F he0 he1 hl (by omega) lF (by omega) hex hof hexb.1 hexb.2 (by omega) (by omega) false (decide_eq_false (by omega)) (by simp [h1]) HL HS HM
     rw [hp,if_neg (by omega)]
     simp only [h1,if_true];exact this
   · have h1':(off==1)=false:=by simp [h1]
     by_cases ho:off≤0
     · have:=placed_64bf n e ex off (bl X) F he0 he1 hl (by omega) lF (by omega) hex hof hexb.1 hexb.2 (by omega) (by omega) true (decide_eq_true ho) h1' HL HS HM (HB false (by rw [if_pos (by omega)]))
       rw [hp,if_pos ho];exact this
     · rw [hp,if_neg ho]
       simp only [if_neg h1]
       by_cases hbt:X/2^(off-1).toNat%2=1
       · have:=placed_64bt n e ex off (bl X) F he0 he1 hl (by omega) lF (by omega) hex hof hexb.1 hexb.2 (by omega) (by omega) false (decide_eq_false ho) h1' HL HS HM (HB true (by rw [if_neg (by omega)];exact decide_eq_true hbt))
         rw [if_pos hbt];exact this
       · have:=placed_64bf n e ex off (bl X) F he0 he1 hl (by omega) lF (by omega) hex hof hexb.1 hexb.2 (by omega) (by omega) false (decide_eq_false ho) h1' HL HS HM (HB false (by rw [if_neg (by omega)];exact decide_eq_false hbt))
         rw [if_neg hbt];exact this
def outS (mode:Int) (F:Nat) (mid:Int) (n:Bool):Bool :=
 if mode=0 then decide (0<mid) || (decide (mid=0)&&decide (F%2=1)) else if mode=2 then !n else if mode=3 then n else if mode=4 then decide (0≤mid) else false
theorem and_one64 (z:Nat) (h:z<18446744073709551616):bits BinOp.and IntKind.u64 (z:Int) 1=((z%2:Nat):Int):=by
 have h:=B.bits_mask1 z h;exact h
theorem out_even1 (F:Nat) (ex:Int) (t:Bool) (n:Bool) (w:World)  :
 Calls Tryz.prog 125 #[.agg #[.int .u64 (F:Nat),.int .i64 ex,.bool t,.int .i64 1],.int .i64 0,.bool n] w fun r w'=>r=.returned (.bool true)∧Below w.heap.size w w':=by
 have HB:=qsd (show Below w.heap.size w (w.alloc (.cells #[.int .u64 (F:Nat),.int .i64 ex,.bool t,.int .i64 1] 169)) from below_alloc w _)
 go_enter Tryz.func125,Tryz.ntmps125;go_wp2
 all_goals go_ret
 all_goals exact ⟨rfl,HB.out⟩
theorem out_even0 (F:Nat) (ex:Int) (t:Bool) (n:Bool) (w:World) (b:Bool) (hb:(bits BinOp.and IntKind.u64 (F:Int) 1==1)=b) :
 Calls Tryz.prog 125 #[.agg #[.int .u64 (F:Nat),.int .i64 ex,.bool t,.int .i64 0],.int .i64 0,.bool n] w fun r w'=>r=.returned (.bool b)∧Below w.heap.size w w':=by
 have HB:=qsd (show Below w.heap.size w (w.alloc (.cells #[.int .u64 (F:Nat),.int .i64 ex,.bool t,.int .i64 0] 169)) from below_alloc w _)
 go_enter Tryz.func125,Tryz.ntmps125;go_wp2
 all_goals go_ret
 all_goals exact ⟨rfl,HB.out⟩
theorem out_evenm (F:Nat) (ex:Int) (t:Bool) (n:Bool) (w:World)  :
 Calls Tryz.prog 125 #[.agg #[.int .u64 (F:Nat),.int .i64 ex,.bool t,.int .i64 (-1)],.int .i64 0,.bool n] w fun r w'=>r=.returned (.bool false)∧Below w.heap.size w w':=by
 have HB:=qsd (show Below w.heap.size w (w.alloc (.cells #[.int .u64 (F:Nat),.int .i64 ex,.bool t,.int .i64 (-1)] 169)) from below_alloc w _)
 go_enter Tryz.func125,Tryz.ntmps125;go_wp2
 all_goals go_ret
 all_goals exact ⟨rfl,HB.out⟩
theorem out_zero (F:Nat) (ex:Int) (t:Bool) (mid:Int) (n:Bool) (w:World)  :
 Calls Tryz.prog 125 #[.agg #[.int .u64 (F:Nat),.int .i64 ex,.bool t,.int .i64 mid],.int .i64 1,.bool n] w fun r w'=>r=.returned (.bool false)∧Below w.heap.size w w':=by
 have HB:=qsd (show Below w.heap.size w (w.alloc (.cells #[.int .u64 (F:Nat),.int .i64 ex,.bool t,.int .i64 mid] 169)) from below_alloc w _)
 go_enter Tryz.func125,Tryz.ntmps125;go_wp2
 all_goals go_ret
 all_goals exact ⟨rfl,HB.out⟩
theorem out_up (F:Nat) (ex:Int) (t:Bool) (mid:Int) (n:Bool) (w:World)  :
 Calls Tryz.prog 125 #[.agg #[.int .u64 (F:Nat),.int .i64 ex,.bool t,.int .i64 mid],.int .i64 2,.bool n] w fun r w'=>r=.returned (.bool (!n))∧Below w.heap.size w w':=by
 have HB:=qsd (show Below w.heap.size w (w.alloc (.cells #[.int .u64 (F:Nat),.int .i64 ex,.bool t,.int .i64 mid] 169)) from below_alloc w _)
 go_enter Tryz.func125,Tryz.ntmps125;go_wp2
 all_goals go_ret
 all_goals exact ⟨rfl,HB.out⟩
theorem out_down (F:Nat) (ex:Int) (t:Bool) (mid:Int) (n:Bool) (w:World)  :
 Calls Tryz.prog 125 #[.agg #[.int .u64 (F:Nat),.int .i64 ex,.bool t,.int .i64 mid],.int .i64 3,.bool n] w fun r w'=>r=.returned (.bool n)∧Below w.heap.size w w':=by
 have HB:=qsd (show Below w.heap.size w (w.alloc (.cells #[.int .u64 (F:Nat),.int .i64 ex,.bool t,.int .i64 mid] 169)) from below_alloc w _)
 go_enter Tryz.func125,Tryz.ntmps125;go_wp2
 all_goals go_ret
 all_goals exact ⟨rfl,HB.out⟩
theorem out_away (F:Nat) (ex:Int) (t:Bool) (mid:Int) (n:Bool) (w:World) (b:Bool) (hb:decide (0≤mid)=b) :
 Calls Tryz.prog 125 #[.agg #[.int .u64 (F:Nat),.int .i64 ex,.bool t,.int .i64 mid],.int .i64 4,.bool n] w fun r w'=>r=.returned (.bool b)∧Below w.heap.size w w':=by
 have HB:=qsd (show Below w.heap.size w (w.alloc (.cells #[.int .u64 (F:Nat),.int .i64 ex,.bool t,.int .i64 mid] 169)) from below_alloc w _)
 go_enter Tryz.func125,Tryz.ntmps125;go_wp2
 all_goals go_ret
 all_goals exact ⟨rfl,HB.out⟩
theorem goesOut_any (F:Nat) (ex:Int) (t:Bool) (mid mode:Int) (n:Bool) (w:World) (hF:F<18446744073709551616) (hm:mid=-1∨mid=0∨mid=1) (h0:0≤mode) (h4:mode≤4) :
 Calls Tryz.prog 125 #[.agg #[.int .u64 (F:Nat),.int .i64 ex,.bool t,.int .i64 mid],.int .i64 mode,.bool n] w fun r w'=>r=.returned (.bool (outS mode F mid n))∧Below w.heap.size w w':=by
 have hc:mode=0∨mode=1∨mode=2∨mode=3∨mode=4:=by omega
 rcases hc with rfl|rfl|rfl|rfl|rfl
 · rcases hm with rfl | rfl | rfl
   · exact out_evenm F ex t n w
   · have e:(bits BinOp.and IntKind.u64 (F:Int) 1==1)=outS 0 F 0 n:=by
      rw [and_one64 F hF];unfold outS
      rcases Nat.mod_two_eq_zero_or_one F with h|h <;> simp [h]
     exact out_even0 F ex t n w _ e
   · exact out_even1 F ex t n w
 · exact out_zero F ex t mid n w
 · exact out_up F ex t mid n w
 · exact out_down F ex t mid n w
 · exact out_away F ex t mid n w _ rfl
theorem round_begin (w:World) (n:Bool) (v:Value) (e a b c:Int) (W:World) (hW:W=(w.alloc (.cells #[.bool n,v,.int .i64 e] 67)).alloc (.cells #[.int .i64 a,.int .i64 b,.int .i64 c] 136)) :
 Below w.heap.size w W∧W.heap.size=w.heap.size+2∧Dk W w.heap.size n v e∧Wk W (w.heap.size+1) a b c:=by
 subst hW;refine ⟨(below_alloc w _).alloc (by simp) _,by simp,(Dk.new w n v e).alloc _,?_⟩
 unfold Wk;have:=heap_alloc_new (w.alloc (.cells #[.bool n,v,.int .i64 e] 67)) (.cells #[.int .i64 a,.int .i64 b,.int .i64 c] 136);simpa using this
theorem Wk.below {w w':World}{g:Nat}{a b c:Int}(h:Wk w g a b c) (hb:Below w.heap.size w w'):Wk w' g a b c:=by
 unfold Wk;rw [hb.block g (Array.getElem?_eq_some_iff.1 h).1];exact h
theorem round_mode (n:Bool) (a:Option Addr) (l c:Nat) (e mode:Int) (w:World) (hm:mode<0∨4<mode) :
 Calls Tryz.prog 95 #[.agg #[.bool n,.slice a l c,.int .i64 e],.int .i64 mode,.agg #[.int .i64 53,.int .i64 (-1074),.int .i64 1024]] w fun r w'=>r=.returned (.tuple #[.float .f64 0,.int .i64 1])∧Below w.heap.size w w':=by
 have HB:=qsd (show Below w.heap.size w ((w.alloc (.cells #[.bool n,.slice a l c,.int .i64 e] 67)).alloc (.cells #[.int .i64 53,.int .i64 (-1074),.int .i64 1024] 136)) from (below_alloc w _).alloc (by simp) _)
 rcases hm with h|h
 · go_enter Tryz.func95,Tryz.ntmps95
   go_wp2
   go_ret2
   exact ⟨rfl,HB.out⟩
 · have h':decide (mode<0)=false:=decide_eq_false (by omega)
   go_enter Tryz.func95,Tryz.ntmps95;go_wp2
   go_ret2
   exact ⟨rfl,HB.out⟩
theorem round_err {w:World}{a:Option Addr}{l c:Nat}(n:Bool) (e mode:Int) (n1:Bool) (X:Nat) (e1 er:Int) (lX:(ws X).length≤8192) (hm0:0≤mode) (hm4:mode≤4) (her:(er != 0)=true)
 (HF:Hid (∀ u,Below w.heap.size w u→Calls Tryz.prog 123 #[.agg #[.bool n,.slice a l c,.int .i64 e]] u fun r w'=>(∃ v,r=.returned (.tuple #[.agg #[.bool n1,v,.int .i64 e1],.int .i64 er])∧Nt u.heap.size w' v X)∧Below u.heap.size u w')) :
 Calls Tryz.prog 95 #[.agg #[.bool n,.slice a l c,.int .i64 e],.int .i64 mode,.agg #[.int .i64 53,.int .i64 (-1074),.int .i64 1024]] w fun r w'=>r=.returned (.tuple #[.float .f64 0,.int .i64 er])∧Below w.heap.size w w':=by
 obtain ⟨W1,hW1⟩:∃ W,W=(w.alloc (.cells #[.bool n,.slice a l c,.int .i64 e] 67)).alloc (.cells #[.int .i64 53,.int .i64 (-1074),.int .i64 1024] 136):=⟨_,rfl⟩;obtain ⟨hB,hz1,DD,DW⟩:=round_begin w n (.slice a l c) e 53 (-1074) 1024 W1 hW1;have H1:=hid (HF.out W1 hB);have SB:=(qsd (ai hB (ai hz1 DW)));clear hB hz1 DD DW HF;go_enter Tryz.func95,Tryz.ntmps95
 go_wp2_with fail
 rw [←hW1];clear hW1;refine H1.out.mono ?_;rintro r u1 ⟨⟨v,rfl,hN⟩,hb⟩;obtain ⟨a1,c1,rfl,_⟩:=hN.arg (by omega)
 obtain ⟨hB,hz1,DW⟩:=SB.out;have SF:=qsd (hB.trans (hb.mono (by omega)))
 have hz:w.heap.size≤u1.heap.size:=by have:=hb.size;omega
 clear hN hb H1 hB hz1 DW SB;go_wp2
 go_ret2
 exact ⟨rfl,SF.out.alloc hz _⟩
theorem round_none {w:World}{a:Option Addr}{l c:Nat}(n:Bool) (e mode:Int) (n1:Bool) (X:Nat) (e1:Int) (lX:(ws X).length=0) (hm0:0≤mode) (hm4:mode≤4)
 (HF:Hid (∀ u,Below w.heap.size w u→Calls Tryz.prog 123 #[.agg #[.bool n,.slice a l c,.int .i64 e]] u fun r w'=>(∃ v,r=.returned (.tuple #[.agg #[.bool n1,v,.int .i64 e1],.int .i64 0])∧Nt u.heap.size w' v X)∧Below u.heap.size u w')) :
 Calls Tryz.prog 95 #[.agg #[.bool n,.slice a l c,.int .i64 e],.int .i64 mode,.agg #[.int .i64 53,.int .i64 (-1074),.int .i64 1024]] w fun r w'=>r=.returned (.tuple #[.float .f64 0,.int .i64 0])∧Below w.heap.size w w':=by
 obtain ⟨W1,hW1⟩:∃ W,W=(w.alloc (.cells #[.bool n,.slice a l c,.int .i64 e] 67)).alloc (.cells #[.int .i64 53,.int .i64 (-1074),.int .i64 1024] 136):=⟨_,rfl⟩;obtain ⟨hB,hz1,DD,DW⟩:=round_begin w n (.slice a l c) e 53 (-1074) 1024 W1 hW1;have H1:=hid (HF.out W1 hB);have SB:=(qsd (ai hB (ai hz1 DW)));clear hB hz1 DD DW HF;go_enter Tryz.func95,Tryz.ntmps95
 go_wp2_with fail
 rw [←hW1];clear hW1;refine H1.out.mono ?_;rintro r u1 ⟨⟨v,rfl,hN⟩,hb⟩;obtain ⟨a1,c1,rfl,_⟩:=hN.arg (by omega)
 obtain ⟨hB,hz1,DW⟩:=SB.out;have SF:=qsd (hB.trans (hb.mono (by omega)))
 have hz:w.heap.size≤u1.heap.size:=by have:=hb.size;omega
 clear hN hb H1 hB hz1 DW SB;rw [lX];go_wp2
 go_ret2
 exact ⟨rfl,SF.out.alloc hz _⟩
theorem round_tf {w:World}{a:Option Addr}{l c:Nat}(n:Bool) (e mode:Int) (X:Nat) (e1:Int) (lX:(ws X).length≤8192) (hX:((((ws X).length:Nat):Int)==0)=false) (hm0:0≤mode) (hm4:mode≤4)
 (F cw K K2:Nat) (ex mid:Int) (hF:F≤9007199254740991) (ecv:floatOfInt .f64 (F:Int)=cw)
 (HF:Hid (∀ u,Below w.heap.size w u→Calls Tryz.prog 123 #[.agg #[.bool n,.slice a l c,.int .i64 e]] u fun r w'=>(∃ v,r=.returned (.tuple #[.agg #[.bool false,v,.int .i64 e1],.int .i64 0])∧Nt u.heap.size w' v X)∧Below u.heap.size u w'))
 (HP:Hid (∀ (u:World) (p:Option Addr) (q:Nat),Arg u p (ws X).length q (ws X)→Calls Tryz.prog 124 #[.agg #[.bool false,.slice p (ws X).length q,.int .i64 e1],.agg #[.int .i64 53,.int .i64 (-1074),.int .i64 1024]] u fun r w'=>r=.returned (.agg #[.int .u64 (F:Nat),.int .i64 ex,.bool true,.int .i64 mid])∧Below u.heap.size u w'))
 (HD:Hid (∀ u,Calls Tryz.prog 126 #[.float .f64 cw,.int .i64 ex] u fun r w'=>r=.returned (.float .f64 K)∧w'=u)) :
 Calls Tryz.prog 95 #[.agg #[.bool n,.slice a l c,.int .i64 e],.int .i64 mode,.agg #[.int .i64 53,.int .i64 (-1074),.int .i64 1024]] w fun r w'=>r=.returned (.tuple #[.float .f64 K,.int .i64 0])∧Below w.heap.size w w':=by
 obtain ⟨W1,hW1⟩:∃ W,W=(w.alloc (.cells #[.bool n,.slice a l c,.int .i64 e] 67)).alloc (.cells #[.int .i64 53,.int .i64 (-1074),.int .i64 1024] 136):=⟨_,rfl⟩;obtain ⟨hB,hz1,DD,DW⟩:=round_begin w n (.slice a l c) e 53 (-1074) 1024 W1 hW1;have H1:=hid (HF.out W1 hB);have SB:=(qsd (ai hB (ai hz1 DW)));clear hB hz1 DD DW HF;go_enter Tryz.func95,Tryz.ntmps95
 go_wp2_with fail
 rw [←hW1];clear hW1;refine H1.out.mono ?_;rintro r u1 ⟨⟨v,rfl,hN⟩,hb⟩;obtain ⟨a1,c1,rfl,_⟩:=hN.arg (by omega)
 obtain ⟨hB,hz1,DW⟩:=SB.out;obtain ⟨W2,hW2⟩:∃ W,W=u1.alloc (.cells #[.bool false,.slice a1 (ws X).length c1,.int .i64 e1] 67):=⟨_,rfl⟩;have hbW:Below u1.heap.size u1 W2:=by rw [hW2];exact below_alloc u1 _
 have D2:Dk W2 u1.heap.size false (.slice a1 (ws X).length c1) e1:=by rw [hW2];exact Dk.new u1 _ _ _
 have V2:Wk W2 (w.heap.size+1) 53 (-1074) 1024:=(DW.below hb).below hbW;have hB2:Below w.heap.size w W2:=(hB.trans (hb.mono (by omega))).trans (hbW.mono (by have:=hb.size;omega))
 have H2:=hid (HP.out W2 a1 c1 ((hN.below hbW).arg' (by omega)).2)
 obtain ⟨x0,x1,x2,xf0,xf1,xf2⟩:=D2.facts;obtain ⟨y0,y1,y2⟩:=V2.facts;obtain ⟨t0,t1,t2⟩:=(DW.below hb).facts;have hzu:w.heap.size+1<u1.heap.size:=by have:=hb.size;omega
 have hzz:w.heap.size≤u1.heap.size:=by have:=hb.size;omega
 have hz4:u1.heap.size<W2.heap.size:=D2.lt;have S2:=(qsd (ai hB2 D2));clear hN hb H1 hB hz1 DW SB hbW D2 V2 hB2 HP
 go_wp2_with fail
 rw [←hW2];clear hW2;refine H2.out.mono ?_;rintro r u2 ⟨rfl,hb⟩;obtain ⟨W3,hW3⟩:∃ W,W=u2.alloc (.cells #[.int .u64 (F:Nat),.int .i64 ex,.bool true,.int .i64 mid] 169):=⟨_,rfl⟩;have hbW:Below u2.heap.size u2 W3:=by rw [hW3];exact below_alloc u2 _
 have P3:Pk W3 u2.heap.size (F:Nat) ex true mid:=by rw [hW3];exact heap_alloc_new _ _
 have D3:=(S2.out.2.below hb).below hbW;have hB3:Below w.heap.size w W3:=(S2.out.1.trans (hb.mono (by omega))).trans (hbW.mono (by have:=hb.size;omega))
 have hz6:u1.heap.size<u2.heap.size:=by have:=hb.size;omega
 obtain ⟨q0,q1,q2,q3,qf0,qf1,qf2,qf3⟩:=P3.facts;obtain ⟨d0,d1,d2,df0,df1,df2⟩:=D3.facts;have hz5:w.heap.size≤u2.heap.size:=by omega
 have hz7:u2.heap.size<W3.heap.size:=P3.lt;have S3:=(qsd (ai hB3 (ai P3 D3)));clear hb hbW P3 D3 hB3 S2 H2 x0 x1 x2 xf0 xf1 xf2 y0 y1 y2
 go_upto_region 7 with fail
 rw [←hW3];clear hW3
 go_wp2_with fail
 try simp only [ecv]
 refine (Calls.mono (HD.out _)) ?_;rintro r ww ⟨rfl,hw⟩;rw [hw];clear hw ww HD;go_wp2
 go_ret2
 exact ⟨rfl,S3.out.1⟩
theorem round_tt {w:World}{a:Option Addr}{l c:Nat}(n:Bool) (e mode:Int) (X:Nat) (e1:Int) (lX:(ws X).length≤8192) (hX:((((ws X).length:Nat):Int)==0)=false) (hm0:0≤mode) (hm4:mode≤4)
 (F cw K K2:Nat) (ex mid:Int) (hF:F≤9007199254740991) (ecv:floatOfInt .f64 (F:Int)=cw)
 (HF:Hid (∀ u,Below w.heap.size w u→Calls Tryz.prog 123 #[.agg #[.bool n,.slice a l c,.int .i64 e]] u fun r w'=>(∃ v,r=.returned (.tuple #[.agg #[.bool true,v,.int .i64 e1],.int .i64 0])∧Nt u.heap.size w' v X)∧Below u.heap.size u w'))
 (HP:Hid (∀ (u:World) (p:Option Addr) (q:Nat),Arg u p (ws X).length q (ws X)→Calls Tryz.prog 124 #[.agg #[.bool true,.slice p (ws X).length q,.int .i64 e1],.agg #[.int .i64 53,.int .i64 (-1074),.int .i64 1024]] u fun r w'=>r=.returned (.agg #[.int .u64 (F:Nat),.int .i64 ex,.bool true,.int .i64 mid])∧Below u.heap.size u w'))
 (HD:Hid (∀ u,Calls Tryz.prog 126 #[.float .f64 cw,.int .i64 ex] u fun r w'=>r=.returned (.float .f64 K)∧w'=u))
 (HC:Hid (∀ u,Calls Tryz.prog 67 #[.float .f64 K,.float .f64 13830554455654793216] u fun r w'=>r=.returned (.float .f64 K2)∧w'=u)) :
 Calls Tryz.prog 95 #[.agg #[.bool n,.slice a l c,.int .i64 e],.int .i64 mode,.agg #[.int .i64 53,.int .i64 (-1074),.int .i64 1024]] w fun r w'=>r=.returned (.tuple #[.float .f64 K2,.int .i64 0])∧Below w.heap.size w w':=by
 obtain ⟨W1,hW1⟩:∃ W,W=(w.alloc (.cells #[.bool n,.slice a l c,.int .i64 e] 67)).alloc (.cells #[.int .i64 53,.int .i64 (-1074),.int .i64 1024] 136):=⟨_,rfl⟩;obtain ⟨hB,hz1,DD,DW⟩:=round_begin w n (.slice a l c) e 53 (-1074) 1024 W1 hW1;have H1:=hid (HF.out W1 hB);have SB:=(qsd (ai hB (ai hz1 DW)));clear hB hz1 DD DW HF;go_enter Tryz.func95,Tryz.ntmps95
 go_wp2_with fail
 rw [←hW1];clear hW1;refine H1.out.mono ?_;rintro r u1 ⟨⟨v,rfl,hN⟩,hb⟩;obtain ⟨a1,c1,rfl,_⟩:=hN.arg (by omega)
 obtain ⟨hB,hz1,DW⟩:=SB.out;obtain ⟨W2,hW2⟩:∃ W,W=u1.alloc (.cells #[.bool true,.slice a1 (ws X).length c1,.int .i64 e1] 67):=⟨_,rfl⟩;have hbW:Below u1.heap.size u1 W2:=by rw [hW2];exact below_alloc u1 _
 have D2:Dk W2 u1.heap.size true (.slice a1 (ws X).length c1) e1:=by rw [hW2];exact Dk.new u1 _ _ _
 have V2:Wk W2 (w.heap.size+1) 53 (-1074) 1024:=(DW.below hb).below hbW;have hB2:Below w.heap.size w W2:=(hB.trans (hb.mono (by omega))).trans (hbW.mono (by have:=hb.size;omega))
 have H2:=hid (HP.out W2 a1 c1 ((hN.below hbW).arg' (by omega)).2)
 obtain ⟨x0,x1,x2,xf0,xf1,xf2⟩:=D2.facts;obtain ⟨y0,y1,y2⟩:=V2.facts;obtain ⟨t0,t1,t2⟩:=(DW.below hb).facts;have hzu:w.heap.size+1<u1.heap.size:=by have:=hb.size;omega
 have hzz:w.heap.size≤u1.heap.size:=by have:=hb.size;omega
 have hz4:u1.heap.size<W2.heap.size:=D2.lt;have S2:=(qsd (ai hB2 D2));clear hN hb H1 hB hz1 DW SB hbW D2 V2 hB2 HP
 go_wp2_with fail
 rw [←hW2];clear hW2;refine H2.out.mono ?_;rintro r u2 ⟨rfl,hb⟩;obtain ⟨W3,hW3⟩:∃ W,W=u2.alloc (.cells #[.int .u64 (F:Nat),.int .i64 ex,.bool true,.int .i64 mid] 169):=⟨_,rfl⟩;have hbW:Below u2.heap.size u2 W3:=by rw [hW3];exact below_alloc u2 _
 have P3:Pk W3 u2.heap.size (F:Nat) ex true mid:=by rw [hW3];exact heap_alloc_new _ _
 have D3:=(S2.out.2.below hb).below hbW;have hB3:Below w.heap.size w W3:=(S2.out.1.trans (hb.mono (by omega))).trans (hbW.mono (by have:=hb.size;omega))
 have hz6:u1.heap.size<u2.heap.size:=by have:=hb.size;omega
 obtain ⟨q0,q1,q2,q3,qf0,qf1,qf2,qf3⟩:=P3.facts;obtain ⟨d0,d1,d2,df0,df1,df2⟩:=D3.facts;have hz5:w.heap.size≤u2.heap.size:=by omega
 have hz7:u2.heap.size<W3.heap.size:=P3.lt;have S3:=(qsd (ai hB3 (ai P3 D3)));clear hb hbW P3 D3 hB3 S2 H2 x0 x1 x2 xf0 xf1 xf2 y0 y1 y2
 go_upto_region 7 with fail
 rw [←hW3];clear hW3
 go_wp2_with fail
 try simp only [ecv]
 refine (Calls.mono (HD.out _)) ?_;rintro r ww ⟨rfl,hw⟩;rw [hw];clear hw ww HD
 go_wp2_with fail
 refine (Calls.mono (HC.out _)) ?_;rintro r ww ⟨rfl,hw⟩;rw [hw];clear hw ww HC;go_wp2
 go_ret2
 exact ⟨rfl,S3.out.1⟩
theorem round_fff {w:World}{a:Option Addr}{l c:Nat}(n:Bool) (e mode:Int) (X:Nat) (e1:Int) (lX:(ws X).length≤8192) (hX:((((ws X).length:Nat):Int)==0)=false) (hm0:0≤mode) (hm4:mode≤4)
 (F cw K K2:Nat) (ex mid:Int) (hF:F≤9007199254740991) (ecv:floatOfInt .f64 (F:Int)=cw)
 (HF:Hid (∀ u,Below w.heap.size w u→Calls Tryz.prog 123 #[.agg #[.bool n,.slice a l c,.int .i64 e]] u fun r w'=>(∃ v,r=.returned (.tuple #[.agg #[.bool false,v,.int .i64 e1],.int .i64 0])∧Nt u.heap.size w' v X)∧Below u.heap.size u w'))
 (HP:Hid (∀ (u:World) (p:Option Addr) (q:Nat),Arg u p (ws X).length q (ws X)→Calls Tryz.prog 124 #[.agg #[.bool false,.slice p (ws X).length q,.int .i64 e1],.agg #[.int .i64 53,.int .i64 (-1074),.int .i64 1024]] u fun r w'=>r=.returned (.agg #[.int .u64 (F:Nat),.int .i64 ex,.bool false,.int .i64 mid])∧Below u.heap.size u w'))
 (HG:Hid (∀ u,Calls Tryz.prog 125 #[.agg #[.int .u64 (F:Nat),.int .i64 ex,.bool false,.int .i64 mid],.int .i64 mode,.bool false] u fun r w'=>r=.returned (.bool false)∧Below u.heap.size u w'))
 (HD:Hid (∀ u,Calls Tryz.prog 126 #[.float .f64 cw,.int .i64 ex] u fun r w'=>r=.returned (.float .f64 K)∧w'=u)) :
 Calls Tryz.prog 95 #[.agg #[.bool n,.slice a l c,.int .i64 e],.int .i64 mode,.agg #[.int .i64 53,.int .i64 (-1074),.int .i64 1024]] w fun r w'=>r=.returned (.tuple #[.float .f64 K,.int .i64 0])∧Below w.heap.size w w':=by
 obtain ⟨W1,hW1⟩:∃ W,W=(w.alloc (.cells #[.bool n,.slice a l c,.int .i64 e] 67)).alloc (.cells #[.int .i64 53,.int .i64 (-1074),.int .i64 1024] 136):=⟨_,rfl⟩;obtain ⟨hB,hz1,DD,DW⟩:=round_begin w n (.slice a l c) e 53 (-1074) 1024 W1 hW1;have H1:=hid (HF.out W1 hB);have SB:=(qsd (ai hB (ai hz1 DW)));clear hB hz1 DD DW HF;go_enter Tryz.func95,Tryz.ntmps95
 go_wp2_with fail
 rw [←hW1];clear hW1;refine H1.out.mono ?_;rintro r u1 ⟨⟨v,rfl,hN⟩,hb⟩;obtain ⟨a1,c1,rfl,_⟩:=hN.arg (by omega)
 obtain ⟨hB,hz1,DW⟩:=SB.out;obtain ⟨W2,hW2⟩:∃ W,W=u1.alloc (.cells #[.bool false,.slice a1 (ws X).length c1,.int .i64 e1] 67):=⟨_,rfl⟩;have hbW:Below u1.heap.size u1 W2:=by rw [hW2];exact below_alloc u1 _
 have D2:Dk W2 u1.heap.size false (.slice a1 (ws X).length c1) e1:=by rw [hW2];exact Dk.new u1 _ _ _
 have V2:Wk W2 (w.heap.size+1) 53 (-1074) 1024:=(DW.below hb).below hbW;have hB2:Below w.heap.size w W2:=(hB.trans (hb.mono (by omega))).trans (hbW.mono (by have:=hb.size;omega))
 have H2:=hid (HP.out W2 a1 c1 ((hN.below hbW).arg' (by omega)).2)
 obtain ⟨x0,x1,x2,xf0,xf1,xf2⟩:=D2.facts;obtain ⟨y0,y1,y2⟩:=V2.facts;obtain ⟨t0,t1,t2⟩:=(DW.below hb).facts;have hzu:w.heap.size+1<u1.heap.size:=by have:=hb.size;omega
 have hzz:w.heap.size≤u1.heap.size:=by have:=hb.size;omega
 have hz4:u1.heap.size<W2.heap.size:=D2.lt;have S2:=(qsd (ai hB2 D2));clear hN hb H1 hB hz1 DW SB hbW D2 V2 hB2 HP
 go_wp2_with fail
 rw [←hW2];clear hW2;refine H2.out.mono ?_;rintro r u2 ⟨rfl,hb⟩;obtain ⟨W3,hW3⟩:∃ W,W=u2.alloc (.cells #[.int .u64 (F:Nat),.int .i64 ex,.bool false,.int .i64 mid] 169):=⟨_,rfl⟩;have hbW:Below u2.heap.size u2 W3:=by rw [hW3];exact below_alloc u2 _
 have P3:Pk W3 u2.heap.size (F:Nat) ex false mid:=by rw [hW3];exact heap_alloc_new _ _
 have D3:=(S2.out.2.below hb).below hbW;have hB3:Below w.heap.size w W3:=(S2.out.1.trans (hb.mono (by omega))).trans (hbW.mono (by have:=hb.size;omega))
 have hz6:u1.heap.size<u2.heap.size:=by have:=hb.size;omega
 obtain ⟨q0,q1,q2,q3,qf0,qf1,qf2,qf3⟩:=P3.facts;obtain ⟨d0,d1,d2,df0,df1,df2⟩:=D3.facts;have hz5:w.heap.size≤u2.heap.size:=by omega
 have hz7:u2.heap.size<W3.heap.size:=P3.lt;have S3:=(qsd (ai hB3 (ai P3 D3)));clear hb hbW P3 D3 hB3 S2 H2 x0 x1 x2 xf0 xf1 xf2 y0 y1 y2
 go_upto_region 7 with fail
 rw [←hW3];clear hW3
 go_wp2_with fail
 refine (Calls.mono (HG.out _)) ?_;rintro r u3 ⟨rfl,hb⟩;have P4:=S3.out.2.1.below hb;have D4:=S3.out.2.2.below hb;have hB4:Below w.heap.size w u3:=S3.out.1.trans (hb.mono (by omega))
 have hz8:w.heap.size≤u3.heap.size:=by have:=hb.size;omega
 obtain ⟨r0,r1,r2,r3,rf0,rf1,rf2,rf3⟩:=P4.facts;obtain ⟨s0,s1,s2,sf0,sf1,sf2⟩:=D4.facts;have S4:=qsd hB4;clear hb P4 D4 hB4 S3 HG q0 q1 q2 q3 qf0 qf1 qf2 qf3 d0 d1 d2 df0 df1 df2
 go_wp2_with fail
 try simp only [ecv]
 refine (Calls.mono (HD.out _)) ?_;rintro r ww ⟨rfl,hw⟩;rw [hw];clear hw ww HD;go_wp2
 go_ret2
 exact ⟨rfl,S4.out⟩
theorem round_fft {w:World}{a:Option Addr}{l c:Nat}(n:Bool) (e mode:Int) (X:Nat) (e1:Int) (lX:(ws X).length≤8192) (hX:((((ws X).length:Nat):Int)==0)=false) (hm0:0≤mode) (hm4:mode≤4)
 (F cw K K2:Nat) (ex mid:Int) (hF:F≤9007199254740991) (ecv:floatOfInt .f64 (F:Int)=cw)
 (HF:Hid (∀ u,Below w.heap.size w u→Calls Tryz.prog 123 #[.agg #[.bool n,.slice a l c,.int .i64 e]] u fun r w'=>(∃ v,r=.returned (.tuple #[.agg #[.bool true,v,.int .i64 e1],.int .i64 0])∧Nt u.heap.size w' v X)∧Below u.heap.size u w'))
 (HP:Hid (∀ (u:World) (p:Option Addr) (q:Nat),Arg u p (ws X).length q (ws X)→Calls Tryz.prog 124 #[.agg #[.bool true,.slice p (ws X).length q,.int .i64 e1],.agg #[.int .i64 53,.int .i64 (-1074),.int .i64 1024]] u fun r w'=>r=.returned (.agg #[.int .u64 (F:Nat),.int .i64 ex,.bool false,.int .i64 mid])∧Below u.heap.size u w'))
 (HG:Hid (∀ u,Calls Tryz.prog 125 #[.agg #[.int .u64 (F:Nat),.int .i64 ex,.bool false,.int .i64 mid],.int .i64 mode,.bool true] u fun r w'=>r=.returned (.bool false)∧Below u.heap.size u w'))
 (HD:Hid (∀ u,Calls Tryz.prog 126 #[.float .f64 cw,.int .i64 ex] u fun r w'=>r=.returned (.float .f64 K)∧w'=u))
 (HC:Hid (∀ u,Calls Tryz.prog 67 #[.float .f64 K,.float .f64 13830554455654793216] u fun r w'=>r=.returned (.float .f64 K2)∧w'=u)) :
 Calls Tryz.prog 95 #[.agg #[.bool n,.slice a l c,.int .i64 e],.int .i64 mode,.agg #[.int .i64 53,.int .i64 (-1074),.int .i64 1024]] w fun r w'=>r=.returned (.tuple #[.float .f64 K2,.int .i64 0])∧Below w.heap.size w w':=by
 obtain ⟨W1,hW1⟩:∃ W,W=(w.alloc (.cells #[.bool n,.slice a l c,.int .i64 e] 67)).alloc (.cells #[.int .i64 53,.int .i64 (-1074),.int .i64 1024] 136):=⟨_,rfl⟩;obtain ⟨hB,hz1,DD,DW⟩:=round_begin w n (.slice a l c) e 53 (-1074) 1024 W1 hW1;have H1:=hid (HF.out W1 hB);have SB:=(qsd (ai hB (ai hz1 DW)));clear hB hz1 DD DW HF;go_enter Tryz.func95,Tryz.ntmps95
 go_wp2_with fail
 rw [←hW1];clear hW1;refine H1.out.mono ?_;rintro r u1 ⟨⟨v,rfl,hN⟩,hb⟩;obtain ⟨a1,c1,rfl,_⟩:=hN.arg (by omega)
 obtain ⟨hB,hz1,DW⟩:=SB.out;obtain ⟨W2,hW2⟩:∃ W,W=u1.alloc (.cells #[.bool true,.slice a1 (ws X).length c1,.int .i64 e1] 67):=⟨_,rfl⟩;have hbW:Below u1.heap.size u1 W2:=by rw [hW2];exact below_alloc u1 _
 have D2:Dk W2 u1.heap.size true (.slice a1 (ws X).length c1) e1:=by rw [hW2];exact Dk.new u1 _ _ _
 have V2:Wk W2 (w.heap.size+1) 53 (-1074) 1024:=(DW.below hb).below hbW;have hB2:Below w.heap.size w W2:=(hB.trans (hb.mono (by omega))).trans (hbW.mono (by have:=hb.size;omega))
 have H2:=hid (HP.out W2 a1 c1 ((hN.below hbW).arg' (by omega)).2)
 obtain ⟨x0,x1,x2,xf0,xf1,xf2⟩:=D2.facts;obtain ⟨y0,y1,y2⟩:=V2.facts;obtain ⟨t0,t1,t2⟩:=(DW.below hb).facts;have hzu:w.heap.size+1<u1.heap.size:=by have:=hb.size;omega
 have hzz:w.heap.size≤u1.heap.size:=by have:=hb.size;omega
 have hz4:u1.heap.size<W2.heap.size:=D2.lt;have S2:=(qsd (ai hB2 D2));clear hN hb H1 hB hz1 DW SB hbW D2 V2 hB2 HP
 go_wp2_with fail
 rw [←hW2];clear hW2;refine H2.out.mono ?_;rintro r u2 ⟨rfl,hb⟩;obtain ⟨W3,hW3⟩:∃ W,W=u2.alloc (.cells #[.int .u64 (F:Nat),.int .i64 ex,.bool false,.int .i64 mid] 169):=⟨_,rfl⟩;have hbW:Below u2.heap.size u2 W3:=by rw [hW3];exact below_alloc u2 _
 have P3:Pk W3 u2.heap.size (F:Nat) ex false mid:=by rw [hW3];exact heap_alloc_new _ _
 have D3:=(S2.out.2.below hb).below hbW;have hB3:Below w.heap.size w W3:=(S2.out.1.trans (hb.mono (by omega))).trans (hbW.mono (by have:=hb.size;omega))
 have hz6:u1.heap.size<u2.heap.size:=by have:=hb.size;omega
 obtain ⟨q0,q1,q2,q3,qf0,qf1,qf2,qf3⟩:=P3.facts;obtain ⟨d0,d1,d2,df0,df1,df2⟩:=D3.facts;have hz5:w.heap.size≤u2.heap.size:=by omega
 have hz7:u2.heap.size<W3.heap.size:=P3.lt;have S3:=(qsd (ai hB3 (ai P3 D3)));clear hb hbW P3 D3 hB3 S2 H2 x0 x1 x2 xf0 xf1 xf2 y0 y1 y2
 go_upto_region 7 with fail
 rw [←hW3];clear hW3
 go_wp2_with fail
 refine (Calls.mono (HG.out _)) ?_;rintro r u3 ⟨rfl,hb⟩;have P4:=S3.out.2.1.below hb;have D4:=S3.out.2.2.below hb;have hB4:Below w.heap.size w u3:=S3.out.1.trans (hb.mono (by omega))
 have hz8:w.heap.size≤u3.heap.size:=by have:=hb.size;omega
 obtain ⟨r0,r1,r2,r3,rf0,rf1,rf2,rf3⟩:=P4.facts;obtain ⟨s0,s1,s2,sf0,sf1,sf2⟩:=D4.facts;have S4:=qsd hB4;clear hb P4 D4 hB4 S3 HG q0 q1 q2 q3 qf0 qf1 qf2 qf3 d0 d1 d2 df0 df1 df2
 go_wp2_with fail
 try simp only [ecv]
 refine (Calls.mono (HD.out _)) ?_;rintro r ww ⟨rfl,hw⟩;rw [hw];clear hw ww HD
 go_wp2_with fail
 refine (Calls.mono (HC.out _)) ?_;rintro r ww ⟨rfl,hw⟩;rw [hw];clear hw ww HC;go_wp2
 go_ret2
 exact ⟨rfl,S4.out⟩
theorem round_ftf {w:World}{a:Option Addr}{l c:Nat}(n:Bool) (e mode:Int) (X:Nat) (e1:Int) (lX:(ws X).length≤8192) (hX:((((ws X).length:Nat):Int)==0)=false) (hm0:0≤mode) (hm4:mode≤4)
 (F cw K K2:Nat) (ex mid:Int) (hF:F≤9007199254740991) (ecv:floatOfInt .f64 ((F:Int)+1)=cw)
 (HF:Hid (∀ u,Below w.heap.size w u→Calls Tryz.prog 123 #[.agg #[.bool n,.slice a l c,.int .i64 e]] u fun r w'=>(∃ v,r=.returned (.tuple #[.agg #[.bool false,v,.int .i64 e1],.int .i64 0])∧Nt u.heap.size w' v X)∧Below u.heap.size u w'))
 (HP:Hid (∀ (u:World) (p:Option Addr) (q:Nat),Arg u p (ws X).length q (ws X)→Calls Tryz.prog 124 #[.agg #[.bool false,.slice p (ws X).length q,.int .i64 e1],.agg #[.int .i64 53,.int .i64 (-1074),.int .i64 1024]] u fun r w'=>r=.returned (.agg #[.int .u64 (F:Nat),.int .i64 ex,.bool false,.int .i64 mid])∧Below u.heap.size u w'))
 (HG:Hid (∀ u,Calls Tryz.prog 125 #[.agg #[.int .u64 (F:Nat),.int .i64 ex,.bool false,.int .i64 mid],.int .i64 mode,.bool false] u fun r w'=>r=.returned (.bool true)∧Below u.heap.size u w'))
 (HD:Hid (∀ u,Calls Tryz.prog 126 #[.float .f64 cw,.int .i64 ex] u fun r w'=>r=.returned (.float .f64 K)∧w'=u)) :
 Calls Tryz.prog 95 #[.agg #[.bool n,.slice a l c,.int .i64 e],.int .i64 mode,.agg #[.int .i64 53,.int .i64 (-1074),.int .i64 1024]] w fun r w'=>r=.returned (.tuple #[.float .f64 K,.int .i64 0])∧Below w.heap.size w w':=by
 obtain ⟨W1,hW1⟩:∃ W,W=(w.alloc (.cells #[.bool n,.slice a l c,.int .i64 e] 67)).alloc (.cells #[.int .i64 53,.int .i64 (-1074),.int .i64 1024] 136):=⟨_,rfl⟩;obtain ⟨hB,hz1,DD,DW⟩:=round_begin w n (.slice a l c) e 53 (-1074) 1024 W1 hW1;have H1:=hid (HF.out W1 hB);have SB:=(qsd (ai hB (ai hz1 DW)));clear hB hz1 DD DW HF;go_enter Tryz.func95,Tryz.ntmps95
 go_wp2_with fail
 rw [←hW1];clear hW1;refine H1.out.mono ?_;rintro r u1 ⟨⟨v,rfl,hN⟩,hb⟩;obtain ⟨a1,c1,rfl,_⟩:=hN.arg (by omega)
 obtain ⟨hB,hz1,DW⟩:=SB.out;obtain ⟨W2,hW2⟩:∃ W,W=u1.alloc (.cells #[.bool false,.slice a1 (ws X).length c1,.int .i64 e1] 67):=⟨_,rfl⟩;have hbW:Below u1.heap.size u1 W2:=by rw [hW2];exact below_alloc u1 _
 have D2:Dk W2 u1.heap.size false (.slice a1 (ws X).length c1) e1:=by rw [hW2];exact Dk.new u1 _ _ _
 have V2:Wk W2 (w.heap.size+1) 53 (-1074) 1024:=(DW.below hb).below hbW;have hB2:Below w.heap.size w W2:=(hB.trans (hb.mono (by omega))).trans (hbW.mono (by have:=hb.size;omega))
 have H2:=hid (HP.out W2 a1 c1 ((hN.below hbW).arg' (by omega)).2)
 obtain ⟨x0,x1,x2,xf0,xf1,xf2⟩:=D2.facts;obtain ⟨y0,y1,y2⟩:=V2.facts;obtain ⟨t0,t1,t2⟩:=(DW.below hb).facts;have hzu:w.heap.size+1<u1.heap.size:=by have:=hb.size;omega
 have hzz:w.heap.size≤u1.heap.size:=by have:=hb.size;omega
 have hz4:u1.heap.size<W2.heap.size:=D2.lt;have S2:=(qsd (ai hB2 D2));clear hN hb H1 hB hz1 DW SB hbW D2 V2 hB2 HP
 go_wp2_with fail
 rw [←hW2];clear hW2;refine H2.out.mono ?_;rintro r u2 ⟨rfl,hb⟩;obtain ⟨W3,hW3⟩:∃ W,W=u2.alloc (.cells #[.int .u64 (F:Nat),.int .i64 ex,.bool false,.int .i64 mid] 169):=⟨_,rfl⟩;have hbW:Below u2.heap.size u2 W3:=by rw [hW3];exact below_alloc u2 _
 have P3:Pk W3 u2.heap.size (F:Nat) ex false mid:=by rw [hW3];exact heap_alloc_new _ _
 have D3:=(S2.out.2.below hb).below hbW;have hB3:Below w.heap.size w W3:=(S2.out.1.trans (hb.mono (by omega))).trans (hbW.mono (by have:=hb.size;omega))
 have hz6:u1.heap.size<u2.heap.size:=by have:=hb.size;omega
 obtain ⟨q0,q1,q2,q3,qf0,qf1,qf2,qf3⟩:=P3.facts;obtain ⟨d0,d1,d2,df0,df1,df2⟩:=D3.facts;have hz5:w.heap.size≤u2.heap.size:=by omega
 have hz7:u2.heap.size<W3.heap.size:=P3.lt;have S3:=(qsd (ai hB3 (ai P3 D3)));clear hb hbW P3 D3 hB3 S2 H2 x0 x1 x2 xf0 xf1 xf2 y0 y1 y2
 go_upto_region 7 with fail
 rw [←hW3];clear hW3
 go_wp2_with fail
 refine (Calls.mono (HG.out _)) ?_;rintro r u3 ⟨rfl,hb⟩;have P4:=S3.out.2.1.below hb;have D4:=S3.out.2.2.below hb;have hB4:Below w.heap.size w u3:=S3.out.1.trans (hb.mono (by omega))
 have hz8:w.heap.size≤u3.heap.size:=by have:=hb.size;omega
 obtain ⟨r0,r1,r2,r3,rf0,rf1,rf2,rf3⟩:=P4.facts;obtain ⟨s0,s1,s2,sf0,sf1,sf2⟩:=D4.facts;have S4:=qsd hB4;clear hb P4 D4 hB4 S3 HG q0 q1 q2 q3 qf0 qf1 qf2 qf3 d0 d1 d2 df0 df1 df2
 go_wp2_with fail
 try simp only [ecv]
 refine (Calls.mono (HD.out _)) ?_;rintro r ww ⟨rfl,hw⟩;rw [hw];clear hw ww HD;go_wp2
 go_ret2
 exact ⟨rfl,Below.setC S4.out _ _ _ hz5 hz8⟩
theorem round_ftt {w:World}{a:Option Addr}{l c:Nat}(n:Bool) (e mode:Int) (X:Nat) (e1:Int) (lX:(ws X).length≤8192) (hX:((((ws X).length:Nat):Int)==0)=false) (hm0:0≤mode) (hm4:mode≤4)
 (F cw K K2:Nat) (ex mid:Int) (hF:F≤9007199254740991) (ecv:floatOfInt .f64 ((F:Int)+1)=cw)
 (HF:Hid (∀ u,Below w.heap.size w u→Calls Tryz.prog 123 #[.agg #[.bool n,.slice a l c,.int .i64 e]] u fun r w'=>(∃ v,r=.returned (.tuple #[.agg #[.bool true,v,.int .i64 e1],.int .i64 0])∧Nt u.heap.size w' v X)∧Below u.heap.size u w'))
 (HP:Hid (∀ (u:World) (p:Option Addr) (q:Nat),Arg u p (ws X).length q (ws X)→Calls Tryz.prog 124 #[.agg #[.bool true,.slice p (ws X).length q,.int .i64 e1],.agg #[.int .i64 53,.int .i64 (-1074),.int .i64 1024]] u fun r w'=>r=.returned (.agg #[.int .u64 (F:Nat),.int .i64 ex,.bool false,.int .i64 mid])∧Below u.heap.size u w'))
 (HG:Hid (∀ u,Calls Tryz.prog 125 #[.agg #[.int .u64 (F:Nat),.int .i64 ex,.bool false,.int .i64 mid],.int .i64 mode,.bool true] u fun r w'=>r=.returned (.bool true)∧Below u.heap.size u w'))
 (HD:Hid (∀ u,Calls Tryz.prog 126 #[.float .f64 cw,.int .i64 ex] u fun r w'=>r=.returned (.float .f64 K)∧w'=u))
 (HC:Hid (∀ u,Calls Tryz.prog 67 #[.float .f64 K,.float .f64 13830554455654793216] u fun r w'=>r=.returned (.float .f64 K2)∧w'=u)) :
 Calls Tryz.prog 95 #[.agg #[.bool n,.slice a l c,.int .i64 e],.int .i64 mode,.agg #[.int .i64 53,.int .i64 (-1074),.int .i64 1024]] w fun r w'=>r=.returned (.tuple #[.float .f64 K2,.int .i64 0])∧Below w.heap.size w w':=by
 obtain ⟨W1,hW1⟩:∃ W,W=(w.alloc (.cells #[.bool n,.slice a l c,.int .i64 e] 67)).alloc (.cells #[.int .i64 53,.int .i64 (-1074),.int .i64 1024] 136):=⟨_,rfl⟩;obtain ⟨hB,hz1,DD,DW⟩:=round_begin w n (.slice a l c) e 53 (-1074) 1024 W1 hW1;have H1:=hid (HF.out W1 hB);have SB:=(qsd (ai hB (ai hz1 DW)));clear hB hz1 DD DW HF;go_enter Tryz.func95,Tryz.ntmps95
 go_wp2_with fail
 rw [←hW1];clear hW1;refine H1.out.mono ?_;rintro r u1 ⟨⟨v,rfl,hN⟩,hb⟩;obtain ⟨a1,c1,rfl,_⟩:=hN.arg (by omega)
 obtain ⟨hB,hz1,DW⟩:=SB.out;obtain ⟨W2,hW2⟩:∃ W,W=u1.alloc (.cells #[.bool true,.slice a1 (ws X).length c1,.int .i64 e1] 67):=⟨_,rfl⟩;have hbW:Below u1.heap.size u1 W2:=by rw [hW2];exact below_alloc u1 _
 have D2:Dk W2 u1.heap.size true (.slice a1 (ws X).length c1) e1:=by rw [hW2];exact Dk.new u1 _ _ _
 have V2:Wk W2 (w.heap.size+1) 53 (-1074) 1024:=(DW.below hb).below hbW;have hB2:Below w.heap.size w W2:=(hB.trans (hb.mono (by omega))).trans (hbW.mono (by have:=hb.size;omega))
 have H2:=hid (HP.out W2 a1 c1 ((hN.below hbW).arg' (by omega)).2)
 obtain ⟨x0,x1,x2,xf0,xf1,xf2⟩:=D2.facts;obtain ⟨y0,y1,y2⟩:=V2.facts;obtain ⟨t0,t1,t2⟩:=(DW.below hb).facts;have hzu:w.heap.size+1<u1.heap.size:=by have:=hb.size;omega
 have hzz:w.heap.size≤u1.heap.size:=by have:=hb.size;omega
 have hz4:u1.heap.size<W2.heap.size:=D2.lt;have S2:=(qsd (ai hB2 D2));clear hN hb H1 hB hz1 DW SB hbW D2 V2 hB2 HP
 go_wp2_with fail
 rw [←hW2];clear hW2;refine H2.out.mono ?_;rintro r u2 ⟨rfl,hb⟩;obtain ⟨W3,hW3⟩:∃ W,W=u2.alloc (.cells #[.int .u64 (F:Nat),.int .i64 ex,.bool false,.int .i64 mid] 169):=⟨_,rfl⟩;have hbW:Below u2.heap.size u2 W3:=by rw [hW3];exact below_alloc u2 _
 have P3:Pk W3 u2.heap.size (F:Nat) ex false mid:=by rw [hW3];exact heap_alloc_new _ _
 have D3:=(S2.out.2.below hb).below hbW;have hB3:Below w.heap.size w W3:=(S2.out.1.trans (hb.mono (by omega))).trans (hbW.mono (by have:=hb.size;omega))
 have hz6:u1.heap.size<u2.heap.size:=by have:=hb.size;omega
 obtain ⟨q0,q1,q2,q3,qf0,qf1,qf2,qf3⟩:=P3.facts;obtain ⟨d0,d1,d2,df0,df1,df2⟩:=D3.facts;have hz5:w.heap.size≤u2.heap.size:=by omega
 have hz7:u2.heap.size<W3.heap.size:=P3.lt;have S3:=(qsd (ai hB3 (ai P3 D3)));clear hb hbW P3 D3 hB3 S2 H2 x0 x1 x2 xf0 xf1 xf2 y0 y1 y2
 go_upto_region 7 with fail
 rw [←hW3];clear hW3
 go_wp2_with fail
 refine (Calls.mono (HG.out _)) ?_;rintro r u3 ⟨rfl,hb⟩;have P4:=S3.out.2.1.below hb;have D4:=S3.out.2.2.below hb;have hB4:Below w.heap.size w u3:=S3.out.1.trans (hb.mono (by omega))
 have hz8:w.heap.size≤u3.heap.size:=by have:=hb.size;omega
 obtain ⟨r0,r1,r2,r3,rf0,rf1,rf2,rf3⟩:=P4.facts;obtain ⟨s0,s1,s2,sf0,sf1,sf2⟩:=D4.facts;have S4:=qsd hB4;clear hb P4 D4 hB4 S3 HG q0 q1 q2 q3 qf0 qf1 qf2 qf3 d0 d1 d2 df0 df1 df2
 go_wp2_with fail
 try simp only [ecv]
 refine (Calls.mono (HD.out _)) ?_;rintro r ww ⟨rfl,hw⟩;rw [hw];clear hw ww HD
 go_wp2_with fail
 refine (Calls.mono (HC.out _)) ?_;rintro r ww ⟨rfl,hw⟩;rw [hw];clear hw ww HC;go_wp2
 go_ret2
 exact ⟨rfl,Below.setC S4.out _ _ _ hz5 hz8⟩
def rndK (mode:Int) (n:Bool) (X:Nat) (e:Int):Nat :=
 let p:=plc 53 (-1074) 1024 X e
 (p.2.1+1074).toNat*4503599627370496+(if p.2.2.1 then p.1 else if outS mode p.1 p.2.2.2 n then p.1+1 else p.1)
def rndS (o:Option (Bool×Nat×Int)) (mode:Int):Nat×Int :=
 if mode<0∨4<mode then (0,1)
 else match o with
  | none=>(0,2)
  | some (n,X,e)=>if X=0 then (0,0) else (rndK mode n X e+(if n then 9223372036854775808 else 0),0)
theorem plc_mid (X:Nat) (e:Int):(plc 53 (-1074) 1024 X e).2.2.2=-1∨(plc 53 (-1074) 1024 X e).2.2.2=0∨(plc 53 (-1074) 1024 X e).2.2.2=1:=by
 unfold plc
 split
 · simp
 · simp only
   split
   · simp
   · simp only
     split
     · simp
     · split <;> simp
theorem ldexp_word (F:Nat) (ex:Int) (hF:F≤9007199254740992) (h0:-1074≤ex) (h1:ex≤971) (hn:ex=-1074∨4503599627370496≤F) :
 ∃ cw,floatOfInt .f64 (F:Int)=cw∧∀ u,Calls Tryz.prog 126 #[.float .f64 cw,.int .i64 ex] u fun r w'=>r=.returned (.float .f64 ((ex+1074).toNat*4503599627370496+F))∧w'=u:=by
 by_cases hz:F=0
 · subst hz
   obtain rfl:ex=-1074:=by omega
   exact ⟨0,by decide,fun u=>B.Ldexp_nought _ u⟩
 · obtain ⟨e,g,hw⟩:=B.whole_of F (by omega) hF
   exact ⟨_,B.ofInt_whole F e g hw,fun u=>B.Ldexp_any F e g ex u hw (by omega) hF h0 h1 hn⟩
theorem copy_word (K:Nat) (hK:K≤9218868437227405312) (u:World):Calls Tryz.prog 67 #[.float .f64 K,.float .f64 13830554455654793216] u fun r w'=>r=.returned (.float .f64 (K+9223372036854775808))∧w'=u:=by
 have h:=B.copysign_neg (K/4503599627370496) (K%4503599627370496) (by omega) (by omega) u
 have e1:B.bw false (K/4503599627370496) (K%4503599627370496)=K:=by unfold B.bw;simp;omega
 have e2:B.bw true (K/4503599627370496) (K%4503599627370496)=K+9223372036854775808:=by unfold B.bw;simp;omega
 rw [e1,e2] at h;exact h
theorem round_any {w:World}{a:Option Addr}{l c:Nat}{xs:List Nat}(hA:Arg w a l c xs) (hT:Tab w) (n:Bool) (e mode:Int) (he0:-9223372036854775808≤e) (he1:e≤9223372036854775807) :
 Calls Tryz.prog 95 #[.agg #[.bool n,.slice a l c,.int .i64 e],.int .i64 mode,.agg #[.int .i64 53,.int .i64 (-1074),.int .i64 1024]] w fun r w'=>r=.returned (.tuple #[.float .f64 (rndS (mkS n (val xs) e) mode).1,.int .i64 (rndS (mkS n (val xs) e) mode).2])∧Below w.heap.size w w':=by
 unfold rndS
 by_cases hm:mode<0∨4<mode
 · rw [if_pos hm];exact round_mode n a l c e mode w hm
 · rw [if_neg hm]
   have HF:Hid (∀ u,Below w.heap.size w u→Calls Tryz.prog 123 #[.agg #[.bool n,.slice a l c,.int .i64 e]] u fun r w'=>DAns u.heap.size w' r (mkS n (val xs) e)∧Below u.heap.size u w'):=fun u hu=>form_any (hA.below hu) (hT.belows hu) n e he0 he1
   cases ho:mkS n (val xs) e with
   | none =>
     rw [ho] at HF;exact round_err n e mode false 0 0 2 (by rw [ws_zero];simp) (by omega) (by omega) rfl HF
   | some d =>
     obtain ⟨n1,X,e1⟩:=d;rw [ho] at HF;have FX:=mkS_frm ho;simp only
     by_cases hX:X=0
     · rw [if_pos hX]
       exact round_none n e mode n1 X e1 ((ws_len_zero X).2 hX) (by omega) (by omega) HF
     · rw [if_neg hX]
       have pf:=plc_facts X e1 hX FX.down FX.up;have pm:=plc_mid X e1;have HP:∀ (u:World) (p:Option Addr) (q:Nat),Arg u p (ws X).length q (ws X)→Calls Tryz.prog 124 #[.agg #[.bool n1,.slice p (ws X).length q,.int .i64 e1],.agg #[.int .i64 53,.int .i64 (-1074),.int .i64 1024]] u fun r w'=>r=.returned (.agg #[.int .u64 ((plc 53 (-1074) 1024 X e1).1:Nat),.int .i64 (plc 53 (-1074) 1024 X e1).2.1,.bool (plc 53 (-1074) 1024 X e1).2.2.1,.int .i64 (plc 53 (-1074) 1024 X e1).2.2.2])∧Below u.heap.size u w':=fun u p q hA=>placed_any hA n1 e1 FX.down FX.up hX FX.size
       unfold rndK;simp only;generalize plc 53 (-1074) 1024 X e1=P at pf pm HP ⊢;obtain ⟨F,ex,t,mid⟩:=P;simp only at pf pm HP ⊢;obtain ⟨p1,p2,p3,p4⟩:=pf;have HG:∀ u,Calls Tryz.prog 125 #[.agg #[.int .u64 (F:Nat),.int .i64 ex,.bool false,.int .i64 mid],.int .i64 mode,.bool n1] u fun r w'=>r=.returned (.bool (outS mode F mid n1))∧Below u.heap.size u w':=fun u=>goesOut_any F ex false mid mode n1 u (by omega) pm (by omega) (by omega)
       have lX:=frm_len FX
       cases t with
       | true =>
         simp only [if_true];obtain ⟨cw,ecv,HD⟩:=ldexp_word F ex (by omega) p2 p3 p4
         cases n1 with
         | false =>
           simp only [Bool.false_eq_true,if_false,Nat.add_zero];exact round_tf n e mode X e1 lX (len_ne hX) (by omega) (by omega) F cw _ 0 ex mid p1 ecv HF (hid HP) (hid HD)
         | true =>
           simp only [if_true];exact round_tt n e mode X e1 lX (len_ne hX) (by omega) (by omega) F cw _ _ ex mid p1 ecv HF (hid HP) (hid HD) (hid fun u=>copy_word _ (by omega) u)
       | false =>
         simp only [Bool.false_eq_true,if_false]
         cases hob:outS mode F mid n1 with
         | false =>
           rw [hob] at HG;simp only [Bool.false_eq_true,if_false];obtain ⟨cw,ecv,HD⟩:=ldexp_word F ex (by omega) p2 p3 p4
           cases n1 with
           | false =>
             simp only [Bool.false_eq_true,if_false,Nat.add_zero];exact round_fff n e mode X e1 lX (len_ne hX) (by omega) (by omega) F cw _ 0 ex mid p1 ecv HF (hid HP) (hid HG) (hid HD)
           | true =>
             simp only [if_true];exact round_fft n e mode X e1 lX (len_ne hX) (by omega) (by omega) F cw _ _ ex mid p1 ecv HF (hid HP) (hid HG) (hid HD) (hid fun u=>copy_word _ (by omega) u)
         | true =>
           rw [hob] at HG;simp only [if_true];obtain ⟨cw,ecv,HD⟩:=ldexp_word (F+1) ex (by omega) p2 p3 (by omega)
           cases n1 with
           | false =>
             simp only [Bool.false_eq_true,if_false,Nat.add_zero];exact round_ftf n e mode X e1 lX (len_ne hX) (by omega) (by omega) F cw _ 0 ex mid p1 (by simpa using ecv) HF (hid HP) (hid HG) (hid HD)
           | true =>
             simp only [if_true];exact round_ftt n e mode X e1 lX (len_ne hX) (by omega) (by omega) F cw _ _ ex mid p1 (by simpa using ecv) HF (hid HP) (hid HG) (hid HD) (hid fun u=>copy_word _ (by omega) u)
theorem Round_any {w:World}{a:Option Addr}{l c:Nat}{xs:List Nat}(hA:Arg w a l c xs) (hT:Tab w) (n:Bool) (e mode:Int) (he0:-9223372036854775808≤e) (he1:e≤9223372036854775807) :
 Calls Tryz.prog 60 #[.agg #[.bool n,.slice a l c,.int .i64 e],.int .i64 mode] w fun r w'=>r=.returned (.tuple #[.float .f64 (rndS (mkS n (val xs) e) mode).1,.int .i64 (rndS (mkS n (val xs) e) mode).2])∧Below w.heap.size w w':=by
 have hb0:=below_alloc w (.cells #[.bool n,.slice a l c,.int .i64 e] 67);have H:=hid (round_any (hA.below hb0) (hT.belows hb0) n e mode he0 he1);have S0:=qsd hb0;obtain ⟨⟨K,er⟩,hK⟩:∃ K,rndS (mkS n (val xs) e) mode=K:=⟨_,rfl⟩;rw [hK] at H ⊢;simp only at H ⊢;clear hA hT hb0 hK;go_enter Tryz.func60,Tryz.ntmps60
 go_wp2_with fail
 refine H.out.mono ?_;rintro r u1 ⟨rfl,hb⟩;have S1:=qsd hb;clear hb;go_wp2
 go_ret2
 exact ⟨rfl,S0.out.trans (S1.out.mono (by simp))⟩
def rd7 (V:Int) (s:Sp) (mode a b:Int):Nat×Int :=
 if (ahd V s mode a b).2.1 then ((ahd V s mode a b).1,0) else rndS (mkS (dN (exV V)) (dX (exV V)) (dE (exV V))) mode
theorem ahd_er (V:Int) (s:Sp) (mode a b:Int):(ahd V s mode a b).2.2=0:=by
 unfold ahd
 split
 · rfl
 · split <;> rfl
theorem dX_small {V:Int}(h0:-(HB:Int)<V) (h1:V<(HB:Int)):(ws (dX (exV V))).length≤133:=by
 refine (ws_len_le _ 133).2 ?_;have e:pw 133=PB:=by unfold PB;rfl
 rw [e];have hp:=PB_HB;have hq:=HB_pos;refine Nat.lt_of_le_of_lt (m:=V.natAbs) ?_ (by omega)
 unfold exV mkS dX
 split
 · exact Nat.zero_le _
 · split
   · exact Nat.zero_le _
   · exact Nat.div_le_self _ _
theorem dE_small (V:Int):-9223372036854775808≤dE (exV V)∧dE (exV V)≤9223372036854775807:=by
 unfold exV mkS dE
 split
 · simp
 · split
   · simp
   · next h=>simp only [Option.getD_some];omega
theorem Tryz.zero_acc:Tryz.zeroCells93=((List.replicate 133 0).map U++Sp.cells ⟨0,0,0,0,0,0⟩).toArray:=by kernel_rfl
theorem zero_acc7 {w:World}{g:Nat}(h:Bl w g 93 ((List.replicate 133 0).map U++Sp.cells ⟨0,0,0,0,0,0⟩)):Acc7 w g 0 ⟨0,0,0,0,0,0⟩ :=
 ⟨List.replicate 133 0,by simp,Wf.zeros 133,by rw [val_zeros];simp,by have:=HB_pos;omega,by have:=HB_pos;omega,h⟩
theorem New7 (w:World):Calls Tryz.prog 21 #[] w fun r w'=>r=.returned (.pointer (some ⟨w.heap.size,0,none⟩))∧Acc7 w' w.heap.size 0 ⟨0,0,0,0,0,0⟩∧Below w.heap.size w w':=by
 go_enter Tryz.func21,Tryz.ntmps21;go_wp2;go_ret;refine ⟨rfl,?_,bel_alloc _ _⟩;rw [Tryz.zero_acc];exact zero_acc7 (Bl.new _ _ _)
theorem Specials7 (g:Nat) (V:Int) (s:Sp) (w:World) (hA:Acc7 w g V s):Calls Tryz.prog 29 #[.pointer (some ⟨g,0,none⟩)] w fun r w'=>r=.returned s.agg∧Below w.heap.size w w':=by
 obtain ⟨L,a1,_,_,_,_,a6⟩:=hA;obtain ⟨sn,su,sd,sm,sp,sa⟩:=s;have hlt:=a6.lt;have hne:g≠w.heap.size:=Nat.ne_of_lt hlt;have c0:=a6.cell a1 0 _ rfl;have c1:=a6.cell a1 1 _ rfl;have c2:=a6.cell a1 2 _ rfl;have c3:=a6.cell a1 3 _ rfl;have c4:=a6.cell a1 4 _ rfl;have c5:=a6.cell a1 5 _ rfl;clear a1 a6;go_enter Tryz.func29,Tryz.ntmps29;go_wp2;exact bodyPost_ret (v:=Sp.agg ⟨sn,su,sd,sm,sp,sa⟩) (by simp [results,Tryz.results29,go_sem,Sp.agg]) rfl ⟨rfl,bel_alloc _ _⟩
def QB:Nat:=HB/4398046511104
theorem QB_HB:HB=4398046511104*QB:=by
 obtain ⟨k,hk⟩:∃ k,k=4238:=⟨_,rfl⟩;obtain ⟨j,hj⟩:∃ j,j=4196:=⟨_,rfl⟩;unfold QB;rw [HB_two k hk,show k=42+j by omega,Nat.pow_add]
 have e:(2:Nat)^42=4398046511104:=by decide
 rw [e,Nat.mul_div_cancel_left _ (by decide)]
theorem QB_pos:0<QB:=by have:=QB_HB;have:=HB_pos;omega
theorem pT_small (x y:Nat) (hx:x<18446744073709551616) (hy:y<18446744073709551616):-(QB:Int)≤pT x y∧pT x y≤(QB:Int):=by
 have hp:=QB_pos
 have e2:∃ j,j=4196∧QB=2^j:=by
  obtain ⟨k,hk⟩:∃ k,k=4238:=⟨_,rfl⟩;obtain ⟨j,hj⟩:∃ j,j=4196:=⟨_,rfl⟩;refine ⟨j,hj,?_⟩;unfold QB;rw [HB_two k hk,show k=42+j by omega,Nat.pow_add]
  have e:(2:Nat)^42=4398046511104:=by decide
  rw [e,Nat.mul_div_cancel_left _ (by decide)]
 obtain ⟨j,hj,hq⟩:=e2;unfold pT pv7
 split
 · have f1:=fr_bound (eW x) (fW x) (bw_parts x hx).2.2
   have f2:=fr_bound (eW y) (fW y) (bw_parts y hy).2.2;have x1:=xp_bound (eW x) (bw_parts x hx).2.1;have x2:=xp_bound (eW y) (bw_parts y hy).2.1
   have h1:frW x*frW y<2^106:=by
    have:frW x*frW y≤9007199254740991*9007199254740991:=Nat.mul_le_mul (by unfold frW;omega) (by unfold frW;omega)
    exact Nat.lt_of_le_of_lt this (by decide)
   have h3:frW x*frW y*2^(xpW x+xpW y+2148).toNat<QB:=by
    rw [hq];refine Nat.lt_of_lt_of_le (Nat.mul_lt_mul_of_pos_right h1 (Nat.two_pow_pos _)) ?_;rw [←Nat.pow_add];exact Nat.pow_le_pow_right (by decide) (by unfold xpW;omega)
   have:=sgn_bound (!ngW x==ngW y) _ _ h3;omega
 · constructor <;> omega
def Sp.pos (s:Sp):Prop:=0≤s.n∧0≤s.u∧0≤s.d∧0≤s.m∧0≤s.p∧s.n+s.u+s.d+s.m+s.p≤s.a
theorem Sp.pos.cnt {s:Sp}(h:s.pos) (k:Nat) (hk:k≤5):(s.cnt k 1).pos:=by
 obtain ⟨h0,h1,h2,h3,h4,h5⟩:=h;have hc:k=0∨k=1∨k=2∨k=3∨k=4∨k=5:=by omega
 rcases hc with rfl|rfl|rfl|rfl|rfl|rfl <;> (unfold Sp.pos Sp.cnt;simp;omega)
theorem Sp.pos.ok {s:Sp}(h:s.pos) (ha:s.a≤4398046511104):s.ok:=by
 obtain ⟨h0,h1,h2,h3,h4,h5⟩:=h;unfold Sp.ok;omega
theorem cnt_a (s:Sp) (k:Nat) (c:Int):(s.cnt k c).a=s.a+c:=rfl
theorem put_ok (V:Int) (s:Sp) (k:Nat) (T:Int) (h0:-(HB:Int)<V+T) (h1:V+T<(HB:Int)) (ha:s.a<1099511627776):putS V s k T=(0,V+T,s.cnt k 1):=by
 unfold putS step7;rw [if_neg (by omega),if_pos ⟨h0,h1⟩]
theorem cnt_comm (s:Sp) (k l:Nat):(s.cnt k 1).cnt l 1=(s.cnt l 1).cnt k 1:=by
 obtain ⟨n,u,d,m,p,a⟩:=s
 have h:∀ (c:Nat) (z:Int),(if l=c then (if k=c then z+1 else z)+1 else (if k=c then z+1 else z))=(if k=c then (if l=c then z+1 else z)+1 else if l=c then z+1 else z):=by
  intro c z
  by_cases h1:k=c <;> by_cases h2:l=c <;> simp [h1,h2]
 unfold Sp.cnt;simp only [Sp.mk.injEq];exact ⟨h 1 n,h 2 u,h 3 d,h 4 m,h 5 p,trivial⟩
def vS (l:List Nat):Int:=l.foldl (fun v x=>v+pT x 4607182418800017408) 0
def sS (l:List Nat):Sp:=l.foldl (fun s x=>s.cnt (pK x 4607182418800017408) 1) ⟨0,0,0,0,0,0⟩
theorem take_snoc10 (l:List Nat) (k:Nat) (h:k<l.length):l.take (k+1)=l.take k++[l.getD k 0]:=by
 rw [List.take_succ_eq_append_getElem h,List.getD_eq_getElem?_getD,List.getElem?_eq_getElem h];rfl
theorem vS_take (l:List Nat) (k:Nat) (h:k<l.length):vS (l.take (k+1))=vS (l.take k)+pT (l.getD k 0) 4607182418800017408:=by
 rw [take_snoc10 l k h];simp [vS,List.foldl_append]
theorem sS_take (l:List Nat) (k:Nat) (h:k<l.length):sS (l.take (k+1))=(sS (l.take k)).cnt (pK (l.getD k 0) 4607182418800017408) 1:=by
 rw [take_snoc10 l k h];simp [sS,List.foldl_append]
theorem vS_bound (l:List Nat) (hl:W64 l):∀ k,k≤l.length→-((k*QB:Nat):Int)≤vS (l.take k)∧vS (l.take k)≤((k*QB:Nat):Int)
 | 0,_=>by simp [vS]
 | k+1,h=>by
   obtain ⟨h1,h2⟩:=vS_bound l hl k (by omega)
   have h3:=pT_small (l.getD k 0) 4607182418800017408 (hl.get k) (by decide)
   rw [vS_take l k h];have e:((k+1)*QB:Nat)=k*QB+QB:=by rw [Nat.add_mul,Nat.one_mul]
   omega
theorem sS_pos (l:List Nat):∀ k,k≤l.length→(sS (l.take k)).pos∧(sS (l.take k)).a=k
 | 0,_=>⟨by rw [List.take_zero];unfold Sp.pos sS;decide,rfl⟩
 | k+1,h=>by
   obtain ⟨h1,h2⟩:=sS_pos l k (by omega)
   rw [sS_take l k h];refine ⟨h1.cnt _ (pk_le _ _ _),?_⟩;rw [cnt_a,h2];omega
theorem exact_core (xs:List Nat) (a:Option Addr) (n c:Nat) (mode pa pb:Int) (X:Nat) (er:Int) (w:World) (hn:n=xs.length) (hF:Fs w.heap.size w a xs) (hW:W64 xs) (hT:Tab w) (hm0:0≤mode) (hm1:mode≤4) (hab:may pa pb=true) (hl:n≤65536)
 (HR:Hid (∀ (g:Nat) (u:World),Acc7 u g (vS xs) (sS xs)→(sS xs).ok→Tab u→Calls Tryz.prog 28 #[.pointer (some ⟨g,0,none⟩),.int .i64 mode,.agg #[.int .i64 pa,.int .i64 pb]] u fun r w'=>r=.returned (.tuple #[.float .f64 X,.int .i64 er])∧Below u.heap.size u w')) :
 Calls Tryz.prog 11 #[.slice a n c,.int .i64 mode,.agg #[.int .i64 pa,.int .i64 pb]] w fun r w'=>r=.returned (.tuple #[.float .f64 X,.int .i64 er])∧Below w.heap.size w w':=by
 have HM:=hid (fun u:World=>May_any pa pb u)
 rw [hab] at HM;have HX:=qsd (ai hn (ai hF (ai hW (ai hT hl))));have b0:decide (mode<0)=false:=by simp;omega
 have b1:decide (4<mode)=false:=by simp;omega
 have b2:decide ((65536:Int)<(n:Int))=false:=by simp;omega
 have b3:decide (65536<n)=false:=by simp;omega
 clear hn hF hW hT hm0 hm1 hab hl;go_enter Tryz.func11,Tryz.ntmps11
 go_wp2_with fail
 refine (HM.out _).mono ?_;rintro r w1 ⟨rfl,hb1⟩
 have P1:Aside (Bl w1 w.heap.size 24 [.int .i64 pa,.int .i64 pb]∧Below w.heap.size w w1∧w.heap.size<w1.heap.size):=by
  have e0:=bel_alloc w (Obj.cells #[.int .i64 pa,.int .i64 pb] 24);exact ⟨(Bl.new w 24 [_,_]).below hb1 (by simp),e0.trans (hb1.mono (by simp)),by have:=hb1.size;simp at this;omega⟩
 clear hb1 HM
 go_wp2_with fail
 refine (New7 w1).mono ?_;rintro r w2 ⟨rfl,hA,hb2⟩;obtain ⟨g,hg⟩:∃ g,g=w1.heap.size:=⟨_,rfl⟩;rw [←hg] at hA ⊢
 have P2:Aside (Bl w2 w.heap.size 24 [.int .i64 pa,.int .i64 pb]∧Below w.heap.size w w2∧w.heap.size<g∧Acc7 w2 g 0 ⟨0,0,0,0,0,0⟩) :=
  ⟨P1.out.1.below hb2 P1.out.2.2,P1.out.2.1.trans (hb2.mono P1.out.2.1.size),by rw [hg];exact P1.out.2.2,hA⟩
 clear hb2 hA hg P1;go_wp2
 go_loopg [30] n (fun gk i wr=>∃ k:Nat,gk+k=n∧i=.int .i64 (k:Nat)∧Aside (Acc7 wr g (vS (xs.take k)) (sS (xs.take k))∧Bl wr w.heap.size 24 [.int .i64 pa,.int .i64 pb]∧Below w.heap.size w wr))
 case atStart=>exact ⟨0,by omega,by simp,by simpa [vS,sS] using P2.out.2.2.2,P2.out.1,P2.out.2.1⟩
 case round =>
  obtain ⟨k,hgk,rfl,HA⟩:=hrel
  by_cases hk:k<n
  · obtain ⟨b,off,rfl,hc⟩:=HX.out.2.1.at HA.out.2.2 k (by rw [←HX.out.1];exact hk)
    obtain ⟨x,hx⟩:∃ x,x=xs.getD k 0:=⟨_,rfl⟩;rw [←hx] at hc
    have C:Hid (Calls Tryz.prog 40 #[.pointer (some ⟨g,0,none⟩),.float .f64 x] wr (Did g wr (0,vS (xs.take (k+1)),sS (xs.take (k+1))))):=by
     have hk2:k<xs.length:=by rw [←HX.out.1];exact hk
     obtain ⟨p1,p2⟩:=sS_pos xs k (by omega)
     obtain ⟨v1,v2⟩:=vS_bound xs HX.out.2.2.1 k (by omega)
     have hx64:x<18446744073709551616:=by rw [hx];exact HX.out.2.2.1.get k
     have hsm:=pT_small x 4607182418800017408 hx64 (by decide)
     have hl:=HX.out.2.2.2.2;have hkq:k*QB≤65536*QB:=Nat.mul_le_mul_right _ (by omega)
     have hQ:=QB_HB;have hqp:=QB_pos;have C:=Add7 g (vS (xs.take k)) (sS (xs.take k)) x wr HA.out.1 (p1.ok (by omega)) hx64
     rw [put_ok _ _ _ _ (by omega) (by omega) (by omega)] at C
     rw [vS_take xs k hk2,sS_take xs k hk2,←hx];exact C
    have hkb:k<4611686018427387904:=by have:=HX.out.2.2.2.2;omega
    clear hx
    go_wp2_with fail
    refine (C.out).mono ?_;rintro r w3 ⟨rfl,hA3,hbut⟩;have H3:=qsd (ai hA3 (ai (HA.out.2.1.but hbut (by have:=P2.out.2.2.1;omega)) (But.below HA.out.2.2 hbut HA.out.2.2.size (by have:=P2.out.2.2.1;omega))))
    clear hA3 hbut C;go_wp2
    go_roundg (gk-1)
    case measure=>omega
    case rel=>exact ⟨k+1,by omega,by first | rfl | simp,H3.out⟩
  · have hd:decide ((k:Int)<n)=false:=by simp;omega
    have q0:=HA.out.2.1.cell 0 _ rfl;have q1:=HA.out.2.1.cell 1 _ rfl
    have C:Hid (Calls Tryz.prog 28 #[.pointer (some ⟨g,0,none⟩),.int .i64 mode,.agg #[.int .i64 pa,.int .i64 pb]] wr fun r w'=>r=.returned (.tuple #[.float .f64 X,.int .i64 er])∧Below wr.heap.size wr w'):=by
     have e:xs.take k=xs:=by rw [List.take_of_length_le];rw [←HX.out.1];omega
     have hA:=HA.out.1;obtain ⟨p1,p2⟩:=sS_pos xs k (by rw [←HX.out.1];omega)
     rw [e] at hA p1 p2;have hl:=HX.out.2.2.2.2;exact HR.out g wr hA (p1.ok (by omega)) (HX.out.2.2.2.1.belows HA.out.2.2)
    clear HR
    go_wp2_with fail
    refine (C.out).mono ?_;rintro r w3 ⟨rfl,hb3⟩;have B3:=qsd (HA.out.2.2.trans (hb3.mono HA.out.2.2.size));clear hb3 C;go_wp2
    go_ret2
    exact ⟨rfl,B3.out⟩
def vI (I:List (Nat×Int)):Int:=I.foldl (fun v p=>v+p.2) 0
def sI (I:List (Nat×Int)):Sp:=I.foldl (fun s p=>s.cnt p.1 1) ⟨0,0,0,0,0,0⟩
theorem vI_snoc (I:List (Nat×Int)) (p:Nat×Int):vI (I++[p])=vI I+p.2:=by simp [vI,List.foldl_append]
theorem sI_snoc (I:List (Nat×Int)) (p:Nat×Int):sI (I++[p])=(sI I).cnt p.1 1:=by simp [sI,List.foldl_append]
def Ip (p:Nat×Int):Prop:=p.1≤5∧-(QB:Int)≤p.2∧p.2≤(QB:Int)
theorem ip_prod {x y:Nat}(hx:x<18446744073709551616) (hy:y<18446744073709551616):Ip (pK x y,pT x y):=⟨pk_le _ _ _,(pT_small x y hx hy).1,(pT_small x y hx hy).2⟩
theorem vI_fold:∀ (I:List (Nat×Int)) (v:Int),(∀ p ∈ I,Ip p)→v-((I.length*QB:Nat):Int)≤I.foldl (fun v p=>v+p.2) v∧I.foldl (fun v p=>v+p.2) v≤v+((I.length*QB:Nat):Int)
 | [],v,_=>by simp
 | p::I,v,h=>by
   obtain ⟨h1,h2⟩:=vI_fold I (v+p.2) (fun q hq=>h q (List.mem_cons_of_mem _ hq))
   obtain ⟨_,h3,h4⟩:=h p List.mem_cons_self;rw [List.foldl_cons,List.length_cons,Nat.add_mul,Nat.one_mul];omega
theorem vI_bd (I:List (Nat×Int)) (h:∀ p ∈ I,Ip p):-((I.length*QB:Nat):Int)≤vI I∧vI I≤((I.length*QB:Nat):Int):=by
 have:=vI_fold I 0 h;unfold vI;omega
theorem sI_fold:∀ (I:List (Nat×Int)) (s:Sp),(∀ p ∈ I,Ip p)→s.pos→(I.foldl (fun s p=>s.cnt p.1 1) s).pos∧(I.foldl (fun s p=>s.cnt p.1 1) s).a=s.a+I.length
 | [],s,_,hs=>⟨hs,by simp⟩
 | p::I,s,h,hs=>by
   obtain ⟨h1,h2⟩:=sI_fold I (s.cnt p.1 1) (fun q hq=>h q (List.mem_cons_of_mem _ hq)) (hs.cnt _ (h p List.mem_cons_self).1)
   refine ⟨h1,?_⟩;rw [List.foldl_cons,h2,cnt_a,List.length_cons];omega
theorem sI_pos (I:List (Nat×Int)) (h:∀ p ∈ I,Ip p):(sI I).pos∧(sI I).a=I.length:=by
 have:=sI_fold I ⟨0,0,0,0,0,0⟩ h (by unfold Sp.pos;decide)
 unfold sI;refine ⟨this.1,?_⟩;rw [this.2];simp
def At12 (w:World) (g:Nat) (I:List (Nat×Int)):Prop:=Acc7 w g (vI I) (sI I)∧(∀ p ∈ I,Ip p)
theorem At12.lt {w:World}{g:Nat}{I:List (Nat×Int)}(h:At12 w g I):g<w.heap.size:=h.1.lt
theorem At12.bel {w w':World}{g:Nat}{I:List (Nat×Int)}(h:At12 w g I) (hb:Below w.heap.size w w'):At12 w' g I:=⟨h.1.bel hb,h.2⟩
theorem At12.ok {w:World}{g:Nat}{I:List (Nat×Int)}(h:At12 w g I) (hl:I.length≤1000000):(sI I).ok:=by
 obtain ⟨p1,p2⟩:=sI_pos I h.2;exact p1.ok (by rw [p2];omega)
theorem addP12 (g:Nat) (I:List (Nat×Int)) (x y:Nat) (w:World) (hA:At12 w g I) (hl:I.length<1000000) (hx:x<18446744073709551616) (hy:y<18446744073709551616) :
 Calls Tryz.prog 57 #[.pointer (some ⟨g,0,none⟩),.float .f64 x,.float .f64 y] w fun r w'=>r=.returned (.int .i64 0)∧At12 w' g (I++[(pK x y,pT x y)])∧But g w w':=by
 have C:=AddProduct7 g (vI I) (sI I) x y w hA.1 (hA.ok (by omega)) hx hy
 obtain ⟨p1,p2⟩:=sI_pos I hA.2;obtain ⟨v1,v2⟩:=vI_bd I hA.2;have hsm:=pT_small x y hx hy;have hkq:I.length*QB≤1000000*QB:=Nat.mul_le_mul_right _ (by omega)
 have hQ:=QB_HB;have hqp:=QB_pos;rw [put_ok _ _ _ _ (by omega) (by omega) (by omega)] at C
 refine C.mono ?_;rintro r w' ⟨rfl,h2,h3⟩;refine ⟨rfl,⟨?_,fun p hp=>?_⟩,h3⟩
 · rw [vI_snoc,sI_snoc];exact h2
 · rcases List.mem_append.1 hp with h | h
   · exact hA.2 p h
   · rw [List.mem_singleton] at h;subst h;exact ip_prod hx hy
attribute [local go_sem] B.f64bits B.f64frombits
theorem st_float {P:Program}{w:World}(a:Addr) (k:FloatKind) (n:Nat) (m:Mode):(store a (.float k n) m).run P w=stored P w a (.float k n) m:=run_store P w a _ m rfl
def nanW (z:Nat):Bool:=decide (9218868437227405312<z%9223372036854775808)
end
end Go.Proofs.YthejkolknalpaaaGreatDoor
