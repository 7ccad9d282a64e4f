import Derived.Test.YtblkpkgebigojaaGreatDoorD16x
import Derived.Deep.Cut
import Derived.Test.YtblkpkgebigojaaGreatDoorS10x
import Derived.Test.YtblkpkgebigojaaGreatDoorW50x
import Derived.Deep.RegionWith
import Derived.Test.YtblkpkgebigojaaGreatDoorM1x
import Ieee.Arith
import Derived.Test.YtblkpkgebigojaaGreatDoorBIeeex
set_option linter.unusedVariables false
set_option linter.unusedSimpArgs false
set_option maxHeartbeats 16000000
set_option maxRecDepth 20000
namespace Go.Proofs.YtblkpkgebigojaaGreatDoor
section
open Go.RowKit
def Pk (w:World) (g:Nat) (f:Int) (e:Int) (t:Bool) (m:Int):Prop:=w.heap[g]?=some (.cells #[.int .u64 f,.int .i64 e,.bool t,.int .i64 m] 182 (0,0))
theorem Pk.lt {w:World}{g:Nat}{f e:Int}{t:Bool}{m:Int}(h:Pk w g f e t m):g<w.heap.size:=(fJ.1 h).1
theorem Pk.below {w w':World}{g:Nat}{f e:Int}{t:Bool}{m:Int}(h:Pk w g f e t m) (hb:Below w.heap.size w w'):Pk w' g f e t m:=by
 unfold Pk;rw [hb.block g h.lt];exact h
theorem Pk.facts {w:World}{g:Nat}{f e:Int}{t:Bool}{m:Int}(h:Pk w g f e t m) :
 w.cell? ⟨g,0,none⟩=some (.int .u64 f)/\w.cell? ⟨g,1,none⟩=some (.int .i64 e)/\w.cell? ⟨g,2,none⟩=some (.bool t)/\w.cell? ⟨g,3,none⟩=some (.int .i64 m) /\
 w.frozen? ⟨g,0,none⟩=false/\w.frozen? ⟨g,1,none⟩=false/\w.frozen? ⟨g,2,none⟩=false/\w.frozen? ⟨g,3,none⟩=false:=by
 unfold Pk at h;simp [World.cell?,World.frozen?,h]
def Wk (w:World) (g:Nat) (a b c:Int):Prop:=w.heap[g]?=some (.cells #[.int .i64 a,.int .i64 b,.int .i64 c] 135 (0,0))
theorem Wk.facts {w:World}{g:Nat}{a b c:Int}(h:Wk w g a b c):w.cell? ⟨g,0,none⟩=some (.int .i64 a)/\w.cell? ⟨g,1,none⟩=some (.int .i64 b)/\w.cell? ⟨g,2,none⟩=some (.int .i64 c):=by
 unfold Wk at h;simp [World.cell?,h]
theorem jY (w:World) (n:Bool) (v:Value) (e a b c:Int) (W:World) (hW:W=((w.alloc (.cells #[.bool n,v,.int .i64 e] 62)).alloc (.cells #[.int .i64 a,.int .i64 b,.int .i64 c] 135)).alloc (.cells #[.int .u64 0,.int .i64 0,.bool false,.int .i64 0] 182)) :
 Below w.heap.size w W/\W.heap.size=w.heap.size+3/\Dk W w.heap.size n v e/\Wk W (w.heap.size+1) a b c/\Pk W (w.heap.size+1+1) 0 0 false 0:=by
 subst hW;refine ⟨((af w _).alloc aW _).alloc (by simp;omega) _,aW,((Dk.new w n v e).alloc _).alloc _,?_,?_⟩
 · unfold Wk;rw [Below.heap_alloc _ _ _ aW];have:=iJ (w.alloc (.cells #[.bool n,v,.int .i64 e] 62)) (.cells #[.int .i64 a,.int .i64 b,.int .i64 c] 135);simpa using this
 · have:=iJ ((w.alloc (.cells #[.bool n,v,.int .i64 e] 62)).alloc (.cells #[.int .i64 a,.int .i64 b,.int .i64 c] 135)) (.cells #[.int .u64 0,.int .i64 0,.bool false,.int .i64 0] 182);unfold Pk;simpa using this
def iV (dg:Nat) (least top:Int) (X:Nat) (e:Int):Nat×Int×Bool×Int :=
 if top<e+bl X then (2^dg-1,top-dg,false,1)
 else
  let ex:=max (e+bl X-dg) least
  let off:=ex-e
  if off<=0 then (X*2^(-off).toNat,ex,true,-1)
  else (X/2^off.toNat,ex,false,if off=1 then 0 else if X/2^(off-1).toNat%2=1 then 1 else -1)
abbrev st4 (w:World) (g:Nat) (x y z t:Value):World:=(((w.setCell ⟨g,0,none⟩ x).setCell ⟨g,1,none⟩ y).setCell ⟨g,2,none⟩ z).setCell ⟨g,3,none⟩ t
theorem Pk.set {w:World}{g:Nat}{f e:Int}{t:Bool}{m:Int}(h:Pk w g f e t m) (f' e':Int) (t':Bool) (m':Int):Pk (st4 w g (.int .u64 f') (.int .i64 e') (.bool t') (.int .i64 m')) g f' e' t' m':=by
 unfold Pk at h |-;simp [st4,World.setCell,jM,h]
theorem Pk.drew {w:World}{g:Nat}{f e:Int}{t:Bool}{m:Int}(h:Pk w g f e t m):Pk w.drew g f e t m:=h
theorem Pk.alloc {w:World}{g:Nat}{f e:Int}{t:Bool}{m:Int}(h:Pk w g f e t m) (o:Obj):Pk (w.alloc o) g f e t m:=h.below (af w o)
theorem mr (W:World) (g:Nat) (f e:Int) (t:Bool) (m:Int) (tmps:Array Value) (ht:tmps[4]?.getD undef=.pointer (some ⟨g,0,none⟩)) (D:Pk W g f e t m) :
 (results Tryz.f157 tmps).run Tryz.prog W=.ok (.agg #[.int .u64 f,.int .i64 e,.bool t,.int .i64 m]) W:=by
 obtain ⟨x0,x1,x2,x3,dA,dB,dC,xf3⟩:=D.facts;simp [results,Tryz.results157,ht,go_sem,x0,x1,x2,x3]
theorem zy {w:World}{a:Option Addr}{l c:Nat}(n:Bool) (X:Nat) (e:Int) (b:Nat) (he0:-1048576<=e) (he1:e<=1048576) (hb:b<=262144) (hfar:1024<e+(b:Int))
 (HL:Hid (∀ u,Below w.heap.size w u->Calls Tryz.prog 97 #[.slice a l c] u fun r w'=>r=.returned (.int .i64 (b:Nat))/\w'=u)) :
 Calls Tryz.prog 157 #[.agg #[.bool n,.slice a l c,.int .i64 e],.agg #[.int .i64 53,.int .i64 (-1074),.int .i64 1024]] w fun r w'=>r=.returned (.agg #[.int .u64 9007199254740991,.int .i64 971,.bool false,.int .i64 1])/\Below w.heap.size w w':=by
 obtain ⟨W1,hW1⟩:=ah (((w.alloc (.cells #[.bool n,.slice a l c,.int .i64 e] 62)).alloc (.cells #[.int .i64 53,.int .i64 (-1074),.int .i64 1024] 135)).alloc (.cells #[.int .u64 0,.int .i64 0,.bool false,.int .i64 0] 182));obtain ⟨hB,hz1,DD,DW,DP⟩:=jY w n (.slice a l c) e 53 (-1074) 1024 W1 hW1;have H1:=hid (HL.o W1 hB);obtain ⟨x0,x1,x2,dA,dB,dC⟩:=DD.facts;obtain ⟨y0,y1,y2⟩:=DW.facts;obtain ⟨p0,p1,p2,p3,Li,Lj,Ll,pf3⟩:=DP.facts;have F0:=ay (show Fin w.heap.size (w.heap.size+3) w W1 (.slice none 0 0) 0 from ⟨Nt.nil _ _,hB,ae⟩);have SB:=(fB hB hz1 DP);clear hB hz1 DD DW DP HL;go_enter Tryz.func157,Tryz.ntmps157;go_wp2_with fail;rw [<-hW1];clear hW1;refine H1.o.mono ?_;rintro r ww ⟨rfl,hw⟩;rw [hw];clear hw ww H1;go_wp2
 go_region
 all_goals (
  go_wp2;refine aI (mr _ (w.heap.size+1+1) 9007199254740991 971 false 1 _ rfl (by repeat (with_reducible first | exact SB.o.r2 | refine Pk.drew ?_ | refine Pk.set (f:=0) (e:=0) (t:=false) (m:=0) ?_ _ _ _ _))) rfl ⟨rfl,?_⟩;refine Fin.aF (m:=w.heap.size+3) (v:=.slice none 0 0) (X:=0) ?_
  repeat (with_reducible first | exact F0.o | refine Fin.drew ?_ | refine Fin.alloc ?_ _ | refine Fin.set ?_ _ _ _ ae ae))
theorem zz {w:World}{a:Option Addr}{l c:Nat}(n:Bool) (e ex off:Int) (b F:Nat) (he0:-1048576<=e) (he1:e<=1048576) (hb:b<=262144) (hF:F<18446744073709551616) (lF:(ws F).length<=100) (hnf:e+(b:Int)<=1024)
 (hmx:max (e+(b:Int)-53) (-1074)=ex) (eof:ex-e=off) (Xb:-2000<=ex) (Xc:ex<=2000) (Xd:-2000000<=off) (Xe:off<=2000000) (tt:Bool) (Gt:decide (off<=0)=tt) (ho:(off==1)=true)
 (HL:Hid (∀ u,Below w.heap.size w u->Calls Tryz.prog 97 #[.slice a l c] u fun r w'=>r=.returned (.int .i64 (b:Nat))/\w'=u))
 (HS:Hid (∀ u,Below w.heap.size w u->Calls Tryz.prog 129 #[.slice a l c,.int .i64 (-off)] u fun r w'=>∃ v,r=.returned (.tuple #[v,.int .i64 0])/\Nt u.heap.size w' v F/\Below u.heap.size u w'))
 (HM:Hid (∀ (u:World) (p:Option Addr) (q:Nat),Arg u p (ws F).length q (ws F)->Calls Tryz.prog 203 #[.slice p (ws F).length q] u fun r w'=>r=.returned (.tuple #[.int .u64 (F:Nat),.int .i64 0])/\w'=u)) :
 Calls Tryz.prog 157 #[.agg #[.bool n,.slice a l c,.int .i64 e],.agg #[.int .i64 53,.int .i64 (-1074),.int .i64 1024]] w fun r w'=>r=.returned (.agg #[.int .u64 (F:Nat),.int .i64 ex,.bool tt,.int .i64 0])/\Below w.heap.size w w':=by
 obtain ⟨W1,hW1⟩:=ah (((w.alloc (.cells #[.bool n,.slice a l c,.int .i64 e] 62)).alloc (.cells #[.int .i64 53,.int .i64 (-1074),.int .i64 1024] 135)).alloc (.cells #[.int .u64 0,.int .i64 0,.bool false,.int .i64 0] 182));obtain ⟨hB,hz1,DD,DW,DP⟩:=jY w n (.slice a l c) e 53 (-1074) 1024 W1 hW1;have H1:=hid (HL.o W1 hB);have H2:=hid (HS.o W1 hB);obtain ⟨x0,x1,x2,dA,dB,dC⟩:=DD.facts;obtain ⟨y0,y1,y2⟩:=DW.facts;have SB:=(jK hB hz1 DD DP);clear hB hz1 DD DW DP HL HS;go_enter Tryz.func157,Tryz.ntmps157;go_wp2_with fail;rw [<-hW1];clear hW1;refine H1.o.mono ?_;rintro r ww ⟨rfl,hw⟩;rw [hw];clear hw ww H1;go_wp2_with fail
 try simp only [hmx,eof]
 refine H2.o.mono ?_;rintro r u1 ⟨v,rfl,hN,hbb⟩;obtain ⟨a1,c1,rfl,A1⟩:=hN.arg ae;obtain ⟨hB,hz1,DD,DP⟩:=SB.o;have H3:=hid (HM.o u1 a1 c1 A1);obtain ⟨z0,z1,z2,vH,vJ,vL⟩:=(DD.below hbb).facts;have Ny:=DP.below hbb;obtain ⟨p0,p1,p2,p3,Li,Lj,Ll,pf3⟩:=Ny.facts;have F0:=ay (show Fin w.heap.size (w.heap.size+3) w u1 (.slice none 0 0) 0 from ⟨Nt.nil _ _,hB.trans (hbb.mono ae),by have:=hbb.size;omega⟩);have hz:w.heap.size+1+1<u1.heap.size:=by have:=hbb.size;omega
 have hz':w.heap.size<u1.heap.size:=ae
 have SP:=ay Ny;clear hN hbb A1 hB hz1 DD DP Ny H2 HM SB;go_wp2_with fail
 try simp only [hmx,eof]
 refine H3.o.mono ?_;rintro r ww ⟨rfl,hw⟩;rw [hw];clear hw ww H3;go_wp2;refine aI (mr _ (w.heap.size+1+1) (F:Nat) ex tt 0 _ rfl (by repeat (with_reducible first | exact SP.o | refine Pk.alloc ?_ _ | refine Pk.drew ?_ | refine Pk.set (f:=0) (e:=0) (t:=false) (m:=0) ?_ _ _ _ _))) rfl ⟨rfl,?_⟩;refine Fin.aF (m:=w.heap.size+3) (v:=.slice none 0 0) (X:=0) ?_
 repeat (with_reducible first | exact F0.o | refine Fin.drew ?_ | refine Fin.alloc ?_ _ | refine Fin.set ?_ _ _ _ ae ae)
theorem Cm {w:World}{a:Option Addr}{l c:Nat}(n:Bool) (e ex off:Int) (b F:Nat) (he0:-1048576<=e) (he1:e<=1048576) (hb:b<=262144) (hF:F<18446744073709551616) (lF:(ws F).length<=100) (hnf:e+(b:Int)<=1024)
 (hmx:max (e+(b:Int)-53) (-1074)=ex) (eof:ex-e=off) (Xb:-2000<=ex) (Xc:ex<=2000) (Xd:-2000000<=off) (Xe:off<=2000000) (tt:Bool) (Gt:decide (off<=0)=tt) (ho:(off==1)=false)
 (HL:Hid (∀ u,Below w.heap.size w u->Calls Tryz.prog 97 #[.slice a l c] u fun r w'=>r=.returned (.int .i64 (b:Nat))/\w'=u))
 (HS:Hid (∀ u,Below w.heap.size w u->Calls Tryz.prog 129 #[.slice a l c,.int .i64 (-off)] u fun r w'=>∃ v,r=.returned (.tuple #[v,.int .i64 0])/\Nt u.heap.size w' v F/\Below u.heap.size u w'))
 (HM:Hid (∀ (u:World) (p:Option Addr) (q:Nat),Arg u p (ws F).length q (ws F)->Calls Tryz.prog 203 #[.slice p (ws F).length q] u fun r w'=>r=.returned (.tuple #[.int .u64 (F:Nat),.int .i64 0])/\w'=u))
 (HB:Hid (∀ u,Below w.heap.size w u->Calls Tryz.prog 175 #[.slice a l c,.int .i64 (off-1)] u fun r w'=>r=.returned (.bool true)/\w'=u)) :
 Calls Tryz.prog 157 #[.agg #[.bool n,.slice a l c,.int .i64 e],.agg #[.int .i64 53,.int .i64 (-1074),.int .i64 1024]] w fun r w'=>r=.returned (.agg #[.int .u64 (F:Nat),.int .i64 ex,.bool tt,.int .i64 1])/\Below w.heap.size w w':=by
 obtain ⟨W1,hW1⟩:=ah (((w.alloc (.cells #[.bool n,.slice a l c,.int .i64 e] 62)).alloc (.cells #[.int .i64 53,.int .i64 (-1074),.int .i64 1024] 135)).alloc (.cells #[.int .u64 0,.int .i64 0,.bool false,.int .i64 0] 182));obtain ⟨hB,hz1,DD,DW,DP⟩:=jY w n (.slice a l c) e 53 (-1074) 1024 W1 hW1;have H1:=hid (HL.o W1 hB);have H2:=hid (HS.o W1 hB);obtain ⟨x0,x1,x2,dA,dB,dC⟩:=DD.facts;obtain ⟨y0,y1,y2⟩:=DW.facts;have SB:=(jK hB hz1 DD DP);clear hB hz1 DD DW DP HL HS;go_enter Tryz.func157,Tryz.ntmps157;go_wp2_with fail;rw [<-hW1];clear hW1;refine H1.o.mono ?_;rintro r ww ⟨rfl,hw⟩;rw [hw];clear hw ww H1;go_wp2_with fail
 try simp only [hmx,eof]
 refine H2.o.mono ?_;rintro r u1 ⟨v,rfl,hN,hbb⟩;obtain ⟨a1,c1,rfl,A1⟩:=hN.arg ae;obtain ⟨hB,hz1,DD,DP⟩:=SB.o;have H3:=hid (HM.o u1 a1 c1 A1);obtain ⟨z0,z1,z2,vH,vJ,vL⟩:=(DD.below hbb).facts;have Ny:=DP.below hbb;obtain ⟨p0,p1,p2,p3,Li,Lj,Ll,pf3⟩:=Ny.facts;have F0:=ay (show Fin w.heap.size (w.heap.size+3) w u1 (.slice none 0 0) 0 from ⟨Nt.nil _ _,hB.trans (hbb.mono ae),by have:=hbb.size;omega⟩);have hz:w.heap.size+1+1<u1.heap.size:=by have:=hbb.size;omega
 have hz':w.heap.size<u1.heap.size:=ae
 have SP:=ay Ny;clear hN hbb A1 hB hz1 DD DP Ny H2 HM SB;go_wp2_with fail
 try simp only [hmx,eof]
 refine H3.o.mono ?_;rintro r ww ⟨rfl,hw⟩;rw [hw];clear hw ww H3;have H4:=hid (HB.o (u1.alloc (.cells #[.int .u64 (F:Nat),.int .i64 ex,.bool tt,.int .i64 (-1)] 182)) (F0.o.aF.alloc F0.o.size _));clear HB;go_wp2_with fail
 try simp only [hmx,eof,Gt]
 refine H4.o.mono ?_;rintro r ww ⟨rfl,hw⟩;rw [hw];clear hw ww H4;go_wp2;refine aI (mr _ (w.heap.size+1+1) (F:Nat) ex tt 1 _ rfl (by repeat (with_reducible first | exact SP.o | refine Pk.alloc ?_ _ | refine Pk.drew ?_ | refine Pk.set (f:=0) (e:=0) (t:=false) (m:=0) ?_ _ _ _ _))) rfl ⟨rfl,?_⟩;refine Fin.aF (m:=w.heap.size+3) (v:=.slice none 0 0) (X:=0) ?_
 repeat (with_reducible first | exact F0.o | refine Fin.drew ?_ | refine Fin.alloc ?_ _ | refine Fin.set ?_ _ _ _ ae ae)
theorem tq {w:World}{a:Option Addr}{l c:Nat}(n:Bool) (e ex off:Int) (b F:Nat) (he0:-1048576<=e) (he1:e<=1048576) (hb:b<=262144) (hF:F<18446744073709551616) (lF:(ws F).length<=100) (hnf:e+(b:Int)<=1024)
 (hmx:max (e+(b:Int)-53) (-1074)=ex) (eof:ex-e=off) (Xb:-2000<=ex) (Xc:ex<=2000) (Xd:-2000000<=off) (Xe:off<=2000000) (tt:Bool) (Gt:decide (off<=0)=tt) (ho:(off==1)=false)
 (HL:Hid (∀ u,Below w.heap.size w u->Calls Tryz.prog 97 #[.slice a l c] u fun r w'=>r=.returned (.int .i64 (b:Nat))/\w'=u))
 (HS:Hid (∀ u,Below w.heap.size w u->Calls Tryz.prog 129 #[.slice a l c,.int .i64 (-off)] u fun r w'=>∃ v,r=.returned (.tuple #[v,.int .i64 0])/\Nt u.heap.size w' v F/\Below u.heap.size u w'))
 (HM:Hid (∀ (u:World) (p:Option Addr) (q:Nat),Arg u p (ws F).length q (ws F)->Calls Tryz.prog 203 #[.slice p (ws F).length q] u fun r w'=>r=.returned (.tuple #[.int .u64 (F:Nat),.int .i64 0])/\w'=u))
 (HB:Hid (∀ u,Below w.heap.size w u->Calls Tryz.prog 175 #[.slice a l c,.int .i64 (off-1)] u fun r w'=>r=.returned (.bool false)/\w'=u)) :
 Calls Tryz.prog 157 #[.agg #[.bool n,.slice a l c,.int .i64 e],.agg #[.int .i64 53,.int .i64 (-1074),.int .i64 1024]] w fun r w'=>r=.returned (.agg #[.int .u64 (F:Nat),.int .i64 ex,.bool tt,.int .i64 (-1)])/\Below w.heap.size w w':=by
 obtain ⟨W1,hW1⟩:=ah (((w.alloc (.cells #[.bool n,.slice a l c,.int .i64 e] 62)).alloc (.cells #[.int .i64 53,.int .i64 (-1074),.int .i64 1024] 135)).alloc (.cells #[.int .u64 0,.int .i64 0,.bool false,.int .i64 0] 182));obtain ⟨hB,hz1,DD,DW,DP⟩:=jY w n (.slice a l c) e 53 (-1074) 1024 W1 hW1;have H1:=hid (HL.o W1 hB);have H2:=hid (HS.o W1 hB);obtain ⟨x0,x1,x2,dA,dB,dC⟩:=DD.facts;obtain ⟨y0,y1,y2⟩:=DW.facts;have SB:=(jK hB hz1 DD DP);clear hB hz1 DD DW DP HL HS;go_enter Tryz.func157,Tryz.ntmps157;go_wp2_with fail;rw [<-hW1];clear hW1;refine H1.o.mono ?_;rintro r ww ⟨rfl,hw⟩;rw [hw];clear hw ww H1;go_wp2_with fail
 try simp only [hmx,eof]
 refine H2.o.mono ?_;rintro r u1 ⟨v,rfl,hN,hbb⟩;obtain ⟨a1,c1,rfl,A1⟩:=hN.arg ae;obtain ⟨hB,hz1,DD,DP⟩:=SB.o;have H3:=hid (HM.o u1 a1 c1 A1);obtain ⟨z0,z1,z2,vH,vJ,vL⟩:=(DD.below hbb).facts;have Ny:=DP.below hbb;obtain ⟨p0,p1,p2,p3,Li,Lj,Ll,pf3⟩:=Ny.facts;have F0:=ay (show Fin w.heap.size (w.heap.size+3) w u1 (.slice none 0 0) 0 from ⟨Nt.nil _ _,hB.trans (hbb.mono ae),by have:=hbb.size;omega⟩);have hz:w.heap.size+1+1<u1.heap.size:=by have:=hbb.size;omega
 have hz':w.heap.size<u1.heap.size:=ae
 have SP:=ay Ny;clear hN hbb A1 hB hz1 DD DP Ny H2 HM SB;go_wp2_with fail
 try simp only [hmx,eof]
 refine H3.o.mono ?_;rintro r ww ⟨rfl,hw⟩;rw [hw];clear hw ww H3;have H4:=hid (HB.o (u1.alloc (.cells #[.int .u64 (F:Nat),.int .i64 ex,.bool tt,.int .i64 (-1)] 182)) (F0.o.aF.alloc F0.o.size _));clear HB;go_wp2_with fail
 try simp only [hmx,eof,Gt]
 refine H4.o.mono ?_;rintro r ww ⟨rfl,hw⟩;rw [hw];clear hw ww H4;go_wp2;refine aI (mr _ (w.heap.size+1+1) (F:Nat) ex tt (-1) _ rfl (by repeat (with_reducible first | exact SP.o | refine Pk.alloc ?_ _ | refine Pk.drew ?_ | refine Pk.set (f:=0) (e:=0) (t:=false) (m:=0) ?_ _ _ _ _))) rfl ⟨rfl,?_⟩;refine Fin.aF (m:=w.heap.size+3) (v:=.slice none 0 0) (X:=0) ?_
 repeat (with_reducible first | exact F0.o | refine Fin.drew ?_ | refine Fin.alloc ?_ _ | refine Fin.set ?_ _ _ _ ae ae)
theorem Nz {w:World}{p:Option Addr}{q F:Nat}(hF:F<18446744073709551616) (hA:Arg w p (ws F).length q (ws F)) :
 Calls Tryz.prog 203 #[.slice p (ws F).length q] w fun r w'=>r=.returned (.tuple #[.int .u64 (F:Nat),.int .i64 0])/\w'=w:=by
 have:=Jj (ws F) p (ws F).length q w.heap.size w hA.len hA.cap (by have:=hA.big;omega) hA.wf hA.rd;rw [ax] at this;unfold El at this;rw [if_pos hF] at this;exact this
theorem rF (X:Nat) (e:Int) (hX:X≠0) (he0:-1048576<=e) (he1:e<=1048576) :
 (iV 53 (-1074) 1024 X e).1<=9007199254740991/\-1074<=(iV 53 (-1074) 1024 X e).2.1/\(iV 53 (-1074) 1024 X e).2.1<=971/\((iV 53 (-1074) 1024 X e).2.1=-1074\/4503599627370496<=(iV 53 (-1074) 1024 X e).1):=by
 have hb:=dL X hX;have h1:=iL X;have h2:=iG X hX;have e53:(2:Nat)^53=9007199254740992:=rfl;have e52:(2:Nat)^52=4503599627370496:=rfl;unfold iV
 by_cases hf:1024<e+(bl X:Int)
 · rw [if_pos hf];refine ⟨aW,aW,aW,.inr aW⟩
 · rw [if_neg hf];simp only;obtain ⟨ex,hex⟩:∃ ex,max (e+(bl X:Int)-((53:Nat):Int)) (-1074)=ex:=⟨_,rfl⟩;rw [hex]
   by_cases ho:ex-e<=0
   · rw [if_pos ho];obtain ⟨k,hk⟩:∃ k:Nat,(-(ex-e)).toNat=k:=⟨_,rfl⟩;rw [hk];have hub:X*2^k<2^(bl X+k):=by rw [aR];exact fM h1 (bK k)
     have hm:2^(bl X+k)<=2^53:=fE ae ae;refine ⟨by simp only;omega,by simp only;omega,by simp only;omega,?_⟩
     by_cases hl:ex=-1074
     · exact .inl hl
     · right
       have hlb:2^(bl X-1)*2^k<=X*2^k:=gF _ h2;rw [<-aR,show bl X-1+k=52 by omega] at hlb;simp only;omega
   · rw [if_neg ho];obtain ⟨k,hk⟩:∃ k:Nat,(ex-e).toNat=k:=⟨_,rfl⟩;rw [hk]
     have hub:X/2^k<2^53:=by
      rw [uC (bK k),<-aR];exact iF h1 (fE ae ae)
     refine ⟨by simp only;omega,by simp only;omega,by simp only;omega,?_⟩
     by_cases hl:ex=-1074
     · exact .inl hl
     · right
       have hlb:2^52<=X/2^k:=by
        rw [Ar (bK k),<-aR,show 52+k=bl X-1 by omega];exact h2
       simp only;omega
theorem EM (X:Nat) (k:Nat) (hX:X≠0) (hl:bl X<=262144) (h0:0<k):bF X (-(k:Int))=(X/2^k,0):=by
 unfold bF;rw [if_neg (kT hl),if_neg hX,if_pos ae,show (- -(k:Int)).toNat=k by omega]
theorem EN {w:World}{a:Option Addr}{l c:Nat}{X:Nat}(hA:Arg w a l c (ws X)) (n:Bool) (e:Int) (he0:-1048576<=e) (he1:e<=1048576) (hX:X≠0) (hl:bl X<=262144) :
 Calls Tryz.prog 157 #[.agg #[.bool n,.slice a l c,.int .i64 e],.agg #[.int .i64 53,.int .i64 (-1074),.int .i64 1024]] w fun r w' =>
  r=.returned (.agg #[.int .u64 ((iV 53 (-1074) 1024 X e).1:Nat),.int .i64 (iV 53 (-1074) 1024 X e).2.1,.bool (iV 53 (-1074) 1024 X e).2.2.1,.int .i64 (iV 53 (-1074) 1024 X e).2.2.2])/\Below w.heap.size w w':=by
 have pf:=rF X e hX he0 he1
 have HL:Hid (∀ u,Below w.heap.size w u->Calls Tryz.prog 97 #[.slice a l c] u fun r w'=>r=.returned (.int .i64 (bl X:Nat))/\w'=u):=by
  intro u hu;have A:=hA.below hu;have:=qg (ws X) a l c u.heap.size u A.len A.cap (by have:=A.big;omega) A.wf A.rd;rw [ax] at this;exact this
 have hb:=dL X hX
 by_cases hf:1024<e+(bl X:Int)
 · have hp:iV 53 (-1074) 1024 X e=(9007199254740991,971,false,1):=by unfold iV;rw [if_pos hf];rfl
   rw [hp];exact zy n X e (bl X) he0 he1 hl hf HL
 · obtain ⟨ex,hex⟩:∃ ex,max (e+(bl X:Int)-53) (-1074)=ex:=⟨_,rfl⟩;obtain ⟨off,hof⟩:∃ off,ex-e=off:=⟨_,rfl⟩;have Cn:-2000<=ex/\ex<=2000:=ae
   have hp:iV 53 (-1074) 1024 X e=if off<=0 then (X*2^(-off).toNat,ex,true,-1) else (X/2^off.toNat,ex,false,if off=1 then 0 else if X/2^(off-1).toNat%2=1 then 1 else -1):=by
    unfold iV;rw [if_neg hf];simp only;rw [show ((53:Nat):Int)=53 from rfl,hex,hof]
   obtain ⟨F,hFe⟩:∃ F,(iV 53 (-1074) 1024 X e).1=F:=⟨_,rfl⟩;have hF:F<=9007199254740991:=by rw [<-hFe];exact pf.1
   have lF:(ws F).length<=100:=by have:=gW F;have:=B.Nu F hF;omega
   have hsh:bF X (-off)=(F,0):=by
    rw [<-hFe,hp]
    by_cases ho:off<=0
    · rw [if_pos ho,vD X (-off) ae hX hl,if_neg ae]
    · obtain ⟨k,hk⟩:∃ k:Nat,off=(k:Int):=⟨off.toNat,ae⟩;rw [if_neg ho,hk,EM X k hX hl ae,oM]
   have HS:Hid (∀ u,Below w.heap.size w u->Calls Tryz.prog 129 #[.slice a l c,.int .i64 (-off)] u fun r w'=>∃ v,r=.returned (.tuple #[v,.int .i64 0])/\Nt u.heap.size w' v F/\Below u.heap.size u w'):=by
    intro u hu;have A:=hA.below hu;exact fO (-off) A (by rw [ax];exact hsh) ae ae
   have HM:Hid (∀ (u:World) (p:Option Addr) (q:Nat),Arg u p (ws F).length q (ws F)->Calls Tryz.prog 203 #[.slice p (ws F).length q] u fun r w'=>r=.returned (.tuple #[.int .u64 (F:Nat),.int .i64 0])/\w'=u):=fun u p q hA=>Nz ae hA
   have HB:∀ t:Bool,(if off-1<0 then false else decide (X/2^(off-1).toNat%2=1))=t->Hid (∀ u,Below w.heap.size w u->Calls Tryz.prog 175 #[.slice a l c,.int .i64 (off-1)] u fun r w'=>r=.returned (.bool t)/\w'=u):=by
    intro t ht u hu;have A:=hA.below hu
    by_cases h0:off-1<0
    · rw [if_pos h0] at ht;subst ht;exact P9 a l c (off-1) u h0
    · rw [if_neg h0] at ht;obtain ⟨k,hk⟩:∃ k:Nat,off-1=(k:Int):=⟨(off-1).toNat,ae⟩;have:=uo (ws X) a l c u.heap.size k u A.len A.wf A.rd ae;rw [ax] at this;rw [hk] at ht |-;rw [oM] at ht;rw [ht] at this;exact this
   rw [hFe]
   by_cases h1:off=1
   · have:=zz n e ex off (bl X) F he0 he1 hl ae lF ae hex hof Cn.1 Cn.2 ae ae false (decide_eq_false ae) (by simp [h1]) HL HS HM;rw [hp,if_neg ae];simp only [h1,if_true];exact this
   · have h1':(off==1)=false:=by simp [h1]
     by_cases ho:off<=0
     · have:=tq n e ex off (bl X) F he0 he1 hl ae lF ae hex hof Cn.1 Cn.2 ae ae true (decide_eq_true ho) h1' HL HS HM (HB false (by rw [if_pos ae]));rw [hp,if_pos ho];exact this
     · rw [hp,if_neg ho];simp only [if_neg h1]
       by_cases hbt:X/2^(off-1).toNat%2=1
       · have:=Cm n e ex off (bl X) F he0 he1 hl ae lF ae hex hof Cn.1 Cn.2 ae ae false (decide_eq_false ho) h1' HL HS HM (HB true (by rw [if_neg ae];exact decide_eq_true hbt));rw [if_pos hbt];exact this
       · have:=tq n e ex off (bl X) F he0 he1 hl ae lF ae hex hof Cn.1 Cn.2 ae ae false (decide_eq_false ho) h1' HL HS HM (HB false (by rw [if_neg ae];exact decide_eq_false hbt));rw [if_neg hbt];exact this
def kG (mode:Int) (F:Nat) (mid:Int) (n:Bool):Bool :=
 if mode=0 then decide (0<mid) || (decide (mid=0)&&decide (F%2=1)) else if mode=2 then !n else if mode=3 then n else if mode=4 then decide (0<=mid) else false
theorem JS (z:Nat) (h:z<18446744073709551616):bits BinOp.and IntKind.u64 (z:Int) 1=((z%2:Nat):Int):=by
 have h:=B.EL z h;exact h
theorem JU (F:Nat) (ex:Int) (t:Bool) (n:Bool) (w:World)  :
 Calls Tryz.prog 158 #[.agg #[.int .u64 (F:Nat),.int .i64 ex,.bool t,.int .i64 1],.int .i64 0,.bool n] w fun r w'=>r=.returned (.bool true)/\Below w.heap.size w w':=by
 have HB:=ay (show Below w.heap.size w (w.alloc (.cells #[.int .u64 (F:Nat),.int .i64 ex,.bool t,.int .i64 1] 182)) from af w _);go_enter Tryz.func158,Tryz.ntmps158;go_wp2
 all_goals go_ret
 all_goals exact ⟨rfl,HB.o⟩
theorem JV (F:Nat) (ex:Int) (t:Bool) (n:Bool) (w:World) (b:Bool) (hb:(bits BinOp.and IntKind.u64 (F:Int) 1==1)=b) :
 Calls Tryz.prog 158 #[.agg #[.int .u64 (F:Nat),.int .i64 ex,.bool t,.int .i64 0],.int .i64 0,.bool n] w fun r w'=>r=.returned (.bool b)/\Below w.heap.size w w':=by
 have HB:=ay (show Below w.heap.size w (w.alloc (.cells #[.int .u64 (F:Nat),.int .i64 ex,.bool t,.int .i64 0] 182)) from af w _);go_enter Tryz.func158,Tryz.ntmps158;go_wp2
 all_goals go_ret
 all_goals exact ⟨rfl,HB.o⟩
theorem JW (F:Nat) (ex:Int) (t:Bool) (n:Bool) (w:World)  :
 Calls Tryz.prog 158 #[.agg #[.int .u64 (F:Nat),.int .i64 ex,.bool t,.int .i64 (-1)],.int .i64 0,.bool n] w fun r w'=>r=.returned (.bool false)/\Below w.heap.size w w':=by
 have HB:=ay (show Below w.heap.size w (w.alloc (.cells #[.int .u64 (F:Nat),.int .i64 ex,.bool t,.int .i64 (-1)] 182)) from af w _);go_enter Tryz.func158,Tryz.ntmps158;go_wp2
 all_goals go_ret
 all_goals exact ⟨rfl,HB.o⟩
theorem NC (F:Nat) (ex:Int) (t:Bool) (mid:Int) (n:Bool) (w:World)  :
 Calls Tryz.prog 158 #[.agg #[.int .u64 (F:Nat),.int .i64 ex,.bool t,.int .i64 mid],.int .i64 1,.bool n] w fun r w'=>r=.returned (.bool false)/\Below w.heap.size w w':=by
 have HB:=ay (show Below w.heap.size w (w.alloc (.cells #[.int .u64 (F:Nat),.int .i64 ex,.bool t,.int .i64 mid] 182)) from af w _);go_enter Tryz.func158,Tryz.ntmps158;go_wp2
 all_goals go_ret
 all_goals exact ⟨rfl,HB.o⟩
theorem Uo (F:Nat) (ex:Int) (t:Bool) (mid:Int) (n:Bool) (w:World)  :
 Calls Tryz.prog 158 #[.agg #[.int .u64 (F:Nat),.int .i64 ex,.bool t,.int .i64 mid],.int .i64 2,.bool n] w fun r w'=>r=.returned (.bool (!n))/\Below w.heap.size w w':=by
 have HB:=ay (show Below w.heap.size w (w.alloc (.cells #[.int .u64 (F:Nat),.int .i64 ex,.bool t,.int .i64 mid] 182)) from af w _);go_enter Tryz.func158,Tryz.ntmps158;go_wp2
 all_goals go_ret
 all_goals exact ⟨rfl,HB.o⟩
theorem ND (F:Nat) (ex:Int) (t:Bool) (mid:Int) (n:Bool) (w:World)  :
 Calls Tryz.prog 158 #[.agg #[.int .u64 (F:Nat),.int .i64 ex,.bool t,.int .i64 mid],.int .i64 3,.bool n] w fun r w'=>r=.returned (.bool n)/\Below w.heap.size w w':=by
 have HB:=ay (show Below w.heap.size w (w.alloc (.cells #[.int .u64 (F:Nat),.int .i64 ex,.bool t,.int .i64 mid] 182)) from af w _);go_enter Tryz.func158,Tryz.ntmps158;go_wp2
 all_goals go_ret
 all_goals exact ⟨rfl,HB.o⟩
theorem NF (F:Nat) (ex:Int) (t:Bool) (mid:Int) (n:Bool) (w:World) (b:Bool) (hb:decide (0<=mid)=b) :
 Calls Tryz.prog 158 #[.agg #[.int .u64 (F:Nat),.int .i64 ex,.bool t,.int .i64 mid],.int .i64 4,.bool n] w fun r w'=>r=.returned (.bool b)/\Below w.heap.size w w':=by
 have HB:=ay (show Below w.heap.size w (w.alloc (.cells #[.int .u64 (F:Nat),.int .i64 ex,.bool t,.int .i64 mid] 182)) from af w _);go_enter Tryz.func158,Tryz.ntmps158;go_wp2
 all_goals go_ret
 all_goals exact ⟨rfl,HB.o⟩
theorem Co (F:Nat) (ex:Int) (t:Bool) (mid mode:Int) (n:Bool) (w:World) (hF:F<18446744073709551616) (hm:mid=-1\/mid=0\/mid=1) (h0:0<=mode) (h4:mode<=4) :
 Calls Tryz.prog 158 #[.agg #[.int .u64 (F:Nat),.int .i64 ex,.bool t,.int .i64 mid],.int .i64 mode,.bool n] w fun r w'=>r=.returned (.bool (kG mode F mid n))/\Below w.heap.size w w':=by
 have hc:mode=0\/mode=1\/mode=2\/mode=3\/mode=4:=ae
 rcases hc with rfl|rfl|rfl|rfl|rfl
 · rcases hm with rfl | rfl | rfl
   · exact JW F ex t n w
   · have e:(bits BinOp.and IntKind.u64 (F:Int) 1==1)=kG 0 F 0 n:=by
      rw [JS F hF];unfold kG;rcases DI F with h|h <;> simp [h]
     exact JV F ex t n w _ e
   · exact JU F ex t n w
 · exact NC F ex t mid n w
 · exact Uo F ex t mid n w
 · exact ND F ex t mid n w
 · exact NF F ex t mid n w _ rfl
theorem gB (w:World) (n:Bool) (v:Value) (e a b c:Int) (W:World) (hW:W=(w.alloc (.cells #[.bool n,v,.int .i64 e] 62)).alloc (.cells #[.int .i64 a,.int .i64 b,.int .i64 c] 135)) :
 Below w.heap.size w W/\W.heap.size=w.heap.size+2/\Dk W w.heap.size n v e/\Wk W (w.heap.size+1) a b c:=by
 subst hW;refine ⟨(af w _).alloc aW _,aW,(Dk.new w n v e).alloc _,?_⟩;unfold Wk;have:=iJ (w.alloc (.cells #[.bool n,v,.int .i64 e] 62)) (.cells #[.int .i64 a,.int .i64 b,.int .i64 c] 135);simpa using this
theorem Wk.below {w w':World}{g:Nat}{a b c:Int}(h:Wk w g a b c) (hb:Below w.heap.size w w'):Wk w' g a b c:=by
 unfold Wk;rw [hb.block g (fJ.1 h).1];exact h
theorem EO (n:Bool) (a:Option Addr) (l c:Nat) (e mode:Int) (w:World) (hm:mode<0\/4<mode) :
 Calls Tryz.prog 110 #[.agg #[.bool n,.slice a l c,.int .i64 e],.int .i64 mode,.agg #[.int .i64 53,.int .i64 (-1074),.int .i64 1024]] w fun r w'=>r=.returned (.tuple #[.float .f64 0,.int .i64 1])/\Below w.heap.size w w':=by
 have HB:=ay (show Below w.heap.size w ((w.alloc (.cells #[.bool n,.slice a l c,.int .i64 e] 62)).alloc (.cells #[.int .i64 53,.int .i64 (-1074),.int .i64 1024] 135)) from (af w _).alloc aW _);rcases hm with h|h
 · go_enter Tryz.func110,Tryz.ntmps110;go_wp2
   go_ret2
   exact ⟨rfl,HB.o⟩
 · have h':decide (mode<0)=false:=decide_eq_false ae;go_enter Tryz.func110,Tryz.ntmps110;go_wp2
   go_ret2
   exact ⟨rfl,HB.o⟩
theorem JX {w:World}{a:Option Addr}{l c:Nat}(n:Bool) (e mode:Int) (n1:Bool) (X:Nat) (e1 er:Int) (lX:(ws X).length<=8192) (hm0:0<=mode) (tV:mode<=4) (her:(er != 0)=true)
 (HF:Hid (∀ u,Below w.heap.size w u->Calls Tryz.prog 156 #[.agg #[.bool n,.slice a l c,.int .i64 e]] u fun r w'=>(∃ v,r=.returned (.tuple #[.agg #[.bool n1,v,.int .i64 e1],.int .i64 er])/\Nt u.heap.size w' v X)/\Below u.heap.size u w')) :
 Calls Tryz.prog 110 #[.agg #[.bool n,.slice a l c,.int .i64 e],.int .i64 mode,.agg #[.int .i64 53,.int .i64 (-1074),.int .i64 1024]] w fun r w'=>r=.returned (.tuple #[.float .f64 0,.int .i64 er])/\Below w.heap.size w w':=by
 obtain ⟨W1,hW1⟩:=ah ((w.alloc (.cells #[.bool n,.slice a l c,.int .i64 e] 62)).alloc (.cells #[.int .i64 53,.int .i64 (-1074),.int .i64 1024] 135));obtain ⟨hB,hz1,DD,DW⟩:=gB w n (.slice a l c) e 53 (-1074) 1024 W1 hW1;have H1:=hid (HF.o W1 hB);have SB:=(fB hB hz1 DW);clear hB hz1 DD DW HF;go_enter Tryz.func110,Tryz.ntmps110;go_wp2_with fail;rw [<-hW1];clear hW1;refine H1.o.mono ?_;rintro r u1 ⟨⟨v,rfl,hN⟩,hb⟩;obtain ⟨a1,c1,rfl,_⟩:=hN.arg ae;obtain ⟨hB,hz1,DW⟩:=SB.o;have SF:=ay (hB.trans (hb.mono ae));have hz:w.heap.size<=u1.heap.size:=by have:=hb.size;omega
 clear hN hb H1 hB hz1 DW SB;go_wp2
 go_ret2
 exact ⟨rfl,SF.o.alloc hz _⟩
theorem EP {w:World}{a:Option Addr}{l c:Nat}(n:Bool) (e mode:Int) (n1:Bool) (X:Nat) (e1:Int) (lX:(ws X).length=0) (hm0:0<=mode) (tV:mode<=4)
 (HF:Hid (∀ u,Below w.heap.size w u->Calls Tryz.prog 156 #[.agg #[.bool n,.slice a l c,.int .i64 e]] u fun r w'=>(∃ v,r=.returned (.tuple #[.agg #[.bool n1,v,.int .i64 e1],.int .i64 0])/\Nt u.heap.size w' v X)/\Below u.heap.size u w')) :
 Calls Tryz.prog 110 #[.agg #[.bool n,.slice a l c,.int .i64 e],.int .i64 mode,.agg #[.int .i64 53,.int .i64 (-1074),.int .i64 1024]] w fun r w'=>r=.returned (.tuple #[.float .f64 0,.int .i64 0])/\Below w.heap.size w w':=by
 obtain ⟨W1,hW1⟩:=ah ((w.alloc (.cells #[.bool n,.slice a l c,.int .i64 e] 62)).alloc (.cells #[.int .i64 53,.int .i64 (-1074),.int .i64 1024] 135));obtain ⟨hB,hz1,DD,DW⟩:=gB w n (.slice a l c) e 53 (-1074) 1024 W1 hW1;have H1:=hid (HF.o W1 hB);have SB:=(fB hB hz1 DW);clear hB hz1 DD DW HF;go_enter Tryz.func110,Tryz.ntmps110;go_wp2_with fail;rw [<-hW1];clear hW1;refine H1.o.mono ?_;rintro r u1 ⟨⟨v,rfl,hN⟩,hb⟩;obtain ⟨a1,c1,rfl,_⟩:=hN.arg ae;obtain ⟨hB,hz1,DW⟩:=SB.o;have SF:=ay (hB.trans (hb.mono ae));have hz:w.heap.size<=u1.heap.size:=by have:=hb.size;omega
 clear hN hb H1 hB hz1 DW SB;rw [lX];go_wp2
 go_ret2
 exact ⟨rfl,SF.o.alloc hz _⟩
theorem NI {w:World}{a:Option Addr}{l c:Nat}(n:Bool) (e mode:Int) (X:Nat) (e1:Int) (lX:(ws X).length<=8192) (hX:((((ws X).length:Nat):Int)==0)=false) (hm0:0<=mode) (tV:mode<=4)
 (F cw K K2:Nat) (ex mid:Int) (hF:F<=9007199254740991) (yc:floatOfInt .f64 (F:Int)=cw)
 (HF:Hid (∀ u,Below w.heap.size w u->Calls Tryz.prog 156 #[.agg #[.bool n,.slice a l c,.int .i64 e]] u fun r w'=>(∃ v,r=.returned (.tuple #[.agg #[.bool false,v,.int .i64 e1],.int .i64 0])/\Nt u.heap.size w' v X)/\Below u.heap.size u w'))
 (HP:Hid (∀ (u:World) (p:Option Addr) (q:Nat),Arg u p (ws X).length q (ws X)->Calls Tryz.prog 157 #[.agg #[.bool false,.slice p (ws X).length q,.int .i64 e1],.agg #[.int .i64 53,.int .i64 (-1074),.int .i64 1024]] u fun r w'=>r=.returned (.agg #[.int .u64 (F:Nat),.int .i64 ex,.bool true,.int .i64 mid])/\Below u.heap.size u w'))
 (HD:Hid (∀ u,Calls Tryz.prog 159 #[.float .f64 cw,.int .i64 ex] u fun r w'=>r=.returned (.float .f64 K)/\w'=u)) :
 Calls Tryz.prog 110 #[.agg #[.bool n,.slice a l c,.int .i64 e],.int .i64 mode,.agg #[.int .i64 53,.int .i64 (-1074),.int .i64 1024]] w fun r w'=>r=.returned (.tuple #[.float .f64 K,.int .i64 0])/\Below w.heap.size w w':=by
 obtain ⟨W1,hW1⟩:=ah ((w.alloc (.cells #[.bool n,.slice a l c,.int .i64 e] 62)).alloc (.cells #[.int .i64 53,.int .i64 (-1074),.int .i64 1024] 135));obtain ⟨hB,hz1,DD,DW⟩:=gB w n (.slice a l c) e 53 (-1074) 1024 W1 hW1;have H1:=hid (HF.o W1 hB);have SB:=(fB hB hz1 DW);clear hB hz1 DD DW HF;go_enter Tryz.func110,Tryz.ntmps110;go_wp2_with fail;rw [<-hW1];clear hW1;refine H1.o.mono ?_;rintro r u1 ⟨⟨v,rfl,hN⟩,hb⟩;obtain ⟨a1,c1,rfl,_⟩:=hN.arg ae;obtain ⟨hB,hz1,DW⟩:=SB.o;obtain ⟨W2,hW2⟩:=ah (u1.alloc (.cells #[.bool false,.slice a1 (ws X).length c1,.int .i64 e1] 62));have hbW:Below u1.heap.size u1 W2:=by rw [hW2];exact af u1 _
 have D2:Dk W2 u1.heap.size false (.slice a1 (ws X).length c1) e1:=by rw [hW2];exact Dk.new u1 _ _ _
 have V2:Wk W2 (w.heap.size+1) 53 (-1074) 1024:=(DW.below hb).below hbW;have hB2:Below w.heap.size w W2:=(hB.trans (hb.mono ae)).trans (hbW.mono (by have:=hb.size;omega));have H2:=hid (HP.o W2 a1 c1 ((hN.below hbW).bR ae).2);obtain ⟨x0,x1,x2,dA,dB,dC⟩:=D2.facts;obtain ⟨y0,y1,y2⟩:=V2.facts;obtain ⟨t0,t1,t2⟩:=(DW.below hb).facts;have hzu:w.heap.size+1<u1.heap.size:=by have:=hb.size;omega
 have hzz:w.heap.size<=u1.heap.size:=by have:=hb.size;omega
 have Jt:u1.heap.size<W2.heap.size:=D2.lt;have S2:=(bB hB2 D2);clear hN hb H1 hB hz1 DW SB hbW D2 V2 hB2 HP;go_wp2_with fail;rw [<-hW2];clear hW2;refine H2.o.mono ?_;rintro r u2 ⟨rfl,hb⟩;obtain ⟨W3,hW3⟩:=ah (u2.alloc (.cells #[.int .u64 (F:Nat),.int .i64 ex,.bool true,.int .i64 mid] 182));have hbW:Below u2.heap.size u2 W3:=by rw [hW3];exact af u2 _
 have P3:Pk W3 u2.heap.size (F:Nat) ex true mid:=by rw [hW3];exact iJ _ _
 have D3:=(S2.o.2.below hb).below hbW;have hB3:Below w.heap.size w W3:=(S2.o.1.trans (hb.mono ae)).trans (hbW.mono (by have:=hb.size;omega));have Uf:u1.heap.size<u2.heap.size:=by have:=hb.size;omega
 obtain ⟨q0,q1,q2,q3,Ab,Ad,Ae,Qx⟩:=P3.facts;obtain ⟨d0,d1,d2,wS,wT,df2⟩:=D3.facts;have Ju:w.heap.size<=u2.heap.size:=ae
 have Xf:u2.heap.size<W3.heap.size:=P3.lt;have S3:=(fB hB3 P3 D3);clear hb hbW P3 D3 hB3 S2 H2 x0 x1 x2 dA dB dC y0 y1 y2
 go_upto_region 7 with fail
 rw [<-hW3];clear hW3;go_wp2_with fail
 try simp only [yc]
 refine (dQ (HD.o _)) ?_;rintro r ww ⟨rfl,hw⟩;rw [hw];clear hw ww HD;go_wp2
 go_ret2
 exact ⟨rfl,S3.o.1⟩
theorem NJ {w:World}{a:Option Addr}{l c:Nat}(n:Bool) (e mode:Int) (X:Nat) (e1:Int) (lX:(ws X).length<=8192) (hX:((((ws X).length:Nat):Int)==0)=false) (hm0:0<=mode) (tV:mode<=4)
 (F cw K K2:Nat) (ex mid:Int) (hF:F<=9007199254740991) (yc:floatOfInt .f64 (F:Int)=cw)
 (HF:Hid (∀ u,Below w.heap.size w u->Calls Tryz.prog 156 #[.agg #[.bool n,.slice a l c,.int .i64 e]] u fun r w'=>(∃ v,r=.returned (.tuple #[.agg #[.bool true,v,.int .i64 e1],.int .i64 0])/\Nt u.heap.size w' v X)/\Below u.heap.size u w'))
 (HP:Hid (∀ (u:World) (p:Option Addr) (q:Nat),Arg u p (ws X).length q (ws X)->Calls Tryz.prog 157 #[.agg #[.bool true,.slice p (ws X).length q,.int .i64 e1],.agg #[.int .i64 53,.int .i64 (-1074),.int .i64 1024]] u fun r w'=>r=.returned (.agg #[.int .u64 (F:Nat),.int .i64 ex,.bool true,.int .i64 mid])/\Below u.heap.size u w'))
 (HD:Hid (∀ u,Calls Tryz.prog 159 #[.float .f64 cw,.int .i64 ex] u fun r w'=>r=.returned (.float .f64 K)/\w'=u))
 (HC:Hid (∀ u,Calls Tryz.prog 150 #[.float .f64 K,.float .f64 13830554455654793216] u fun r w'=>r=.returned (.float .f64 K2)/\w'=u)) :
 Calls Tryz.prog 110 #[.agg #[.bool n,.slice a l c,.int .i64 e],.int .i64 mode,.agg #[.int .i64 53,.int .i64 (-1074),.int .i64 1024]] w fun r w'=>r=.returned (.tuple #[.float .f64 K2,.int .i64 0])/\Below w.heap.size w w':=by
 obtain ⟨W1,hW1⟩:=ah ((w.alloc (.cells #[.bool n,.slice a l c,.int .i64 e] 62)).alloc (.cells #[.int .i64 53,.int .i64 (-1074),.int .i64 1024] 135));obtain ⟨hB,hz1,DD,DW⟩:=gB w n (.slice a l c) e 53 (-1074) 1024 W1 hW1;have H1:=hid (HF.o W1 hB);have SB:=(fB hB hz1 DW);clear hB hz1 DD DW HF;go_enter Tryz.func110,Tryz.ntmps110;go_wp2_with fail;rw [<-hW1];clear hW1;refine H1.o.mono ?_;rintro r u1 ⟨⟨v,rfl,hN⟩,hb⟩;obtain ⟨a1,c1,rfl,_⟩:=hN.arg ae;obtain ⟨hB,hz1,DW⟩:=SB.o;obtain ⟨W2,hW2⟩:=ah (u1.alloc (.cells #[.bool true,.slice a1 (ws X).length c1,.int .i64 e1] 62));have hbW:Below u1.heap.size u1 W2:=by rw [hW2];exact af u1 _
 have D2:Dk W2 u1.heap.size true (.slice a1 (ws X).length c1) e1:=by rw [hW2];exact Dk.new u1 _ _ _
 have V2:Wk W2 (w.heap.size+1) 53 (-1074) 1024:=(DW.below hb).below hbW;have hB2:Below w.heap.size w W2:=(hB.trans (hb.mono ae)).trans (hbW.mono (by have:=hb.size;omega));have H2:=hid (HP.o W2 a1 c1 ((hN.below hbW).bR ae).2);obtain ⟨x0,x1,x2,dA,dB,dC⟩:=D2.facts;obtain ⟨y0,y1,y2⟩:=V2.facts;obtain ⟨t0,t1,t2⟩:=(DW.below hb).facts;have hzu:w.heap.size+1<u1.heap.size:=by have:=hb.size;omega
 have hzz:w.heap.size<=u1.heap.size:=by have:=hb.size;omega
 have Jt:u1.heap.size<W2.heap.size:=D2.lt;have S2:=(bB hB2 D2);clear hN hb H1 hB hz1 DW SB hbW D2 V2 hB2 HP;go_wp2_with fail;rw [<-hW2];clear hW2;refine H2.o.mono ?_;rintro r u2 ⟨rfl,hb⟩;obtain ⟨W3,hW3⟩:=ah (u2.alloc (.cells #[.int .u64 (F:Nat),.int .i64 ex,.bool true,.int .i64 mid] 182));have hbW:Below u2.heap.size u2 W3:=by rw [hW3];exact af u2 _
 have P3:Pk W3 u2.heap.size (F:Nat) ex true mid:=by rw [hW3];exact iJ _ _
 have D3:=(S2.o.2.below hb).below hbW;have hB3:Below w.heap.size w W3:=(S2.o.1.trans (hb.mono ae)).trans (hbW.mono (by have:=hb.size;omega));have Uf:u1.heap.size<u2.heap.size:=by have:=hb.size;omega
 obtain ⟨q0,q1,q2,q3,Ab,Ad,Ae,Qx⟩:=P3.facts;obtain ⟨d0,d1,d2,wS,wT,df2⟩:=D3.facts;have Ju:w.heap.size<=u2.heap.size:=ae
 have Xf:u2.heap.size<W3.heap.size:=P3.lt;have S3:=(fB hB3 P3 D3);clear hb hbW P3 D3 hB3 S2 H2 x0 x1 x2 dA dB dC y0 y1 y2
 go_upto_region 7 with fail
 rw [<-hW3];clear hW3;go_wp2_with fail
 try simp only [yc]
 refine (dQ (HD.o _)) ?_;rintro r ww ⟨rfl,hw⟩;rw [hw];clear hw ww HD;go_wp2_with fail;refine (dQ (HC.o _)) ?_;rintro r ww ⟨rfl,hw⟩;rw [hw];clear hw ww HC;go_wp2
 go_ret2
 exact ⟨rfl,S3.o.1⟩
theorem JY {w:World}{a:Option Addr}{l c:Nat}(n:Bool) (e mode:Int) (X:Nat) (e1:Int) (lX:(ws X).length<=8192) (hX:((((ws X).length:Nat):Int)==0)=false) (hm0:0<=mode) (tV:mode<=4)
 (F cw K K2:Nat) (ex mid:Int) (hF:F<=9007199254740991) (yc:floatOfInt .f64 (F:Int)=cw)
 (HF:Hid (∀ u,Below w.heap.size w u->Calls Tryz.prog 156 #[.agg #[.bool n,.slice a l c,.int .i64 e]] u fun r w'=>(∃ v,r=.returned (.tuple #[.agg #[.bool false,v,.int .i64 e1],.int .i64 0])/\Nt u.heap.size w' v X)/\Below u.heap.size u w'))
 (HP:Hid (∀ (u:World) (p:Option Addr) (q:Nat),Arg u p (ws X).length q (ws X)->Calls Tryz.prog 157 #[.agg #[.bool false,.slice p (ws X).length q,.int .i64 e1],.agg #[.int .i64 53,.int .i64 (-1074),.int .i64 1024]] u fun r w'=>r=.returned (.agg #[.int .u64 (F:Nat),.int .i64 ex,.bool false,.int .i64 mid])/\Below u.heap.size u w'))
 (HG:Hid (∀ u,Calls Tryz.prog 158 #[.agg #[.int .u64 (F:Nat),.int .i64 ex,.bool false,.int .i64 mid],.int .i64 mode,.bool false] u fun r w'=>r=.returned (.bool false)/\Below u.heap.size u w'))
 (HD:Hid (∀ u,Calls Tryz.prog 159 #[.float .f64 cw,.int .i64 ex] u fun r w'=>r=.returned (.float .f64 K)/\w'=u)) :
 Calls Tryz.prog 110 #[.agg #[.bool n,.slice a l c,.int .i64 e],.int .i64 mode,.agg #[.int .i64 53,.int .i64 (-1074),.int .i64 1024]] w fun r w'=>r=.returned (.tuple #[.float .f64 K,.int .i64 0])/\Below w.heap.size w w':=by
 obtain ⟨W1,hW1⟩:=ah ((w.alloc (.cells #[.bool n,.slice a l c,.int .i64 e] 62)).alloc (.cells #[.int .i64 53,.int .i64 (-1074),.int .i64 1024] 135));obtain ⟨hB,hz1,DD,DW⟩:=gB w n (.slice a l c) e 53 (-1074) 1024 W1 hW1;have H1:=hid (HF.o W1 hB);have SB:=(fB hB hz1 DW);clear hB hz1 DD DW HF;go_enter Tryz.func110,Tryz.ntmps110;go_wp2_with fail;rw [<-hW1];clear hW1;refine H1.o.mono ?_;rintro r u1 ⟨⟨v,rfl,hN⟩,hb⟩;obtain ⟨a1,c1,rfl,_⟩:=hN.arg ae;obtain ⟨hB,hz1,DW⟩:=SB.o;obtain ⟨W2,hW2⟩:=ah (u1.alloc (.cells #[.bool false,.slice a1 (ws X).length c1,.int .i64 e1] 62));have hbW:Below u1.heap.size u1 W2:=by rw [hW2];exact af u1 _
 have D2:Dk W2 u1.heap.size false (.slice a1 (ws X).length c1) e1:=by rw [hW2];exact Dk.new u1 _ _ _
 have V2:Wk W2 (w.heap.size+1) 53 (-1074) 1024:=(DW.below hb).below hbW;have hB2:Below w.heap.size w W2:=(hB.trans (hb.mono ae)).trans (hbW.mono (by have:=hb.size;omega));have H2:=hid (HP.o W2 a1 c1 ((hN.below hbW).bR ae).2);obtain ⟨x0,x1,x2,dA,dB,dC⟩:=D2.facts;obtain ⟨y0,y1,y2⟩:=V2.facts;obtain ⟨t0,t1,t2⟩:=(DW.below hb).facts;have hzu:w.heap.size+1<u1.heap.size:=by have:=hb.size;omega
 have hzz:w.heap.size<=u1.heap.size:=by have:=hb.size;omega
 have Jt:u1.heap.size<W2.heap.size:=D2.lt;have S2:=(bB hB2 D2);clear hN hb H1 hB hz1 DW SB hbW D2 V2 hB2 HP;go_wp2_with fail;rw [<-hW2];clear hW2;refine H2.o.mono ?_;rintro r u2 ⟨rfl,hb⟩;obtain ⟨W3,hW3⟩:=ah (u2.alloc (.cells #[.int .u64 (F:Nat),.int .i64 ex,.bool false,.int .i64 mid] 182));have hbW:Below u2.heap.size u2 W3:=by rw [hW3];exact af u2 _
 have P3:Pk W3 u2.heap.size (F:Nat) ex false mid:=by rw [hW3];exact iJ _ _
 have D3:=(S2.o.2.below hb).below hbW;have hB3:Below w.heap.size w W3:=(S2.o.1.trans (hb.mono ae)).trans (hbW.mono (by have:=hb.size;omega));have Uf:u1.heap.size<u2.heap.size:=by have:=hb.size;omega
 obtain ⟨q0,q1,q2,q3,Ab,Ad,Ae,Qx⟩:=P3.facts;obtain ⟨d0,d1,d2,wS,wT,df2⟩:=D3.facts;have Ju:w.heap.size<=u2.heap.size:=ae
 have Xf:u2.heap.size<W3.heap.size:=P3.lt;have S3:=(fB hB3 P3 D3);clear hb hbW P3 D3 hB3 S2 H2 x0 x1 x2 dA dB dC y0 y1 y2
 go_upto_region 7 with fail
 rw [<-hW3];clear hW3;go_wp2_with fail;refine (dQ (HG.o _)) ?_;rintro r u3 ⟨rfl,hb⟩;have P4:=S3.o.2.1.below hb;have D4:=S3.o.r2.below hb;have hB4:Below w.heap.size w u3:=S3.o.1.trans (hb.mono ae);have Xg:w.heap.size<=u3.heap.size:=by have:=hb.size;omega
 obtain ⟨r0,r1,r2,r3,fZ,gp,gy,V7⟩:=P4.facts;obtain ⟨s0,s1,s2,wM,wN,wO⟩:=D4.facts;have S4:=ay hB4;clear hb P4 D4 hB4 S3 HG q0 q1 q2 q3 Ab Ad Ae Qx d0 d1 d2 wS wT df2;go_wp2_with fail
 try simp only [yc]
 refine (dQ (HD.o _)) ?_;rintro r ww ⟨rfl,hw⟩;rw [hw];clear hw ww HD;go_wp2
 go_ret2
 exact ⟨rfl,S4.o⟩
theorem JZ {w:World}{a:Option Addr}{l c:Nat}(n:Bool) (e mode:Int) (X:Nat) (e1:Int) (lX:(ws X).length<=8192) (hX:((((ws X).length:Nat):Int)==0)=false) (hm0:0<=mode) (tV:mode<=4)
 (F cw K K2:Nat) (ex mid:Int) (hF:F<=9007199254740991) (yc:floatOfInt .f64 (F:Int)=cw)
 (HF:Hid (∀ u,Below w.heap.size w u->Calls Tryz.prog 156 #[.agg #[.bool n,.slice a l c,.int .i64 e]] u fun r w'=>(∃ v,r=.returned (.tuple #[.agg #[.bool true,v,.int .i64 e1],.int .i64 0])/\Nt u.heap.size w' v X)/\Below u.heap.size u w'))
 (HP:Hid (∀ (u:World) (p:Option Addr) (q:Nat),Arg u p (ws X).length q (ws X)->Calls Tryz.prog 157 #[.agg #[.bool true,.slice p (ws X).length q,.int .i64 e1],.agg #[.int .i64 53,.int .i64 (-1074),.int .i64 1024]] u fun r w'=>r=.returned (.agg #[.int .u64 (F:Nat),.int .i64 ex,.bool false,.int .i64 mid])/\Below u.heap.size u w'))
 (HG:Hid (∀ u,Calls Tryz.prog 158 #[.agg #[.int .u64 (F:Nat),.int .i64 ex,.bool false,.int .i64 mid],.int .i64 mode,.bool true] u fun r w'=>r=.returned (.bool false)/\Below u.heap.size u w'))
 (HD:Hid (∀ u,Calls Tryz.prog 159 #[.float .f64 cw,.int .i64 ex] u fun r w'=>r=.returned (.float .f64 K)/\w'=u))
 (HC:Hid (∀ u,Calls Tryz.prog 150 #[.float .f64 K,.float .f64 13830554455654793216] u fun r w'=>r=.returned (.float .f64 K2)/\w'=u)) :
 Calls Tryz.prog 110 #[.agg #[.bool n,.slice a l c,.int .i64 e],.int .i64 mode,.agg #[.int .i64 53,.int .i64 (-1074),.int .i64 1024]] w fun r w'=>r=.returned (.tuple #[.float .f64 K2,.int .i64 0])/\Below w.heap.size w w':=by
 obtain ⟨W1,hW1⟩:=ah ((w.alloc (.cells #[.bool n,.slice a l c,.int .i64 e] 62)).alloc (.cells #[.int .i64 53,.int .i64 (-1074),.int .i64 1024] 135));obtain ⟨hB,hz1,DD,DW⟩:=gB w n (.slice a l c) e 53 (-1074) 1024 W1 hW1;have H1:=hid (HF.o W1 hB);have SB:=(fB hB hz1 DW);clear hB hz1 DD DW HF;go_enter Tryz.func110,Tryz.ntmps110;go_wp2_with fail;rw [<-hW1];clear hW1;refine H1.o.mono ?_;rintro r u1 ⟨⟨v,rfl,hN⟩,hb⟩;obtain ⟨a1,c1,rfl,_⟩:=hN.arg ae;obtain ⟨hB,hz1,DW⟩:=SB.o;obtain ⟨W2,hW2⟩:=ah (u1.alloc (.cells #[.bool true,.slice a1 (ws X).length c1,.int .i64 e1] 62));have hbW:Below u1.heap.size u1 W2:=by rw [hW2];exact af u1 _
 have D2:Dk W2 u1.heap.size true (.slice a1 (ws X).length c1) e1:=by rw [hW2];exact Dk.new u1 _ _ _
 have V2:Wk W2 (w.heap.size+1) 53 (-1074) 1024:=(DW.below hb).below hbW;have hB2:Below w.heap.size w W2:=(hB.trans (hb.mono ae)).trans (hbW.mono (by have:=hb.size;omega));have H2:=hid (HP.o W2 a1 c1 ((hN.below hbW).bR ae).2);obtain ⟨x0,x1,x2,dA,dB,dC⟩:=D2.facts;obtain ⟨y0,y1,y2⟩:=V2.facts;obtain ⟨t0,t1,t2⟩:=(DW.below hb).facts;have hzu:w.heap.size+1<u1.heap.size:=by have:=hb.size;omega
 have hzz:w.heap.size<=u1.heap.size:=by have:=hb.size;omega
 have Jt:u1.heap.size<W2.heap.size:=D2.lt;have S2:=(bB hB2 D2);clear hN hb H1 hB hz1 DW SB hbW D2 V2 hB2 HP;go_wp2_with fail;rw [<-hW2];clear hW2;refine H2.o.mono ?_;rintro r u2 ⟨rfl,hb⟩;obtain ⟨W3,hW3⟩:=ah (u2.alloc (.cells #[.int .u64 (F:Nat),.int .i64 ex,.bool false,.int .i64 mid] 182));have hbW:Below u2.heap.size u2 W3:=by rw [hW3];exact af u2 _
 have P3:Pk W3 u2.heap.size (F:Nat) ex false mid:=by rw [hW3];exact iJ _ _
 have D3:=(S2.o.2.below hb).below hbW;have hB3:Below w.heap.size w W3:=(S2.o.1.trans (hb.mono ae)).trans (hbW.mono (by have:=hb.size;omega));have Uf:u1.heap.size<u2.heap.size:=by have:=hb.size;omega
 obtain ⟨q0,q1,q2,q3,Ab,Ad,Ae,Qx⟩:=P3.facts;obtain ⟨d0,d1,d2,wS,wT,df2⟩:=D3.facts;have Ju:w.heap.size<=u2.heap.size:=ae
 have Xf:u2.heap.size<W3.heap.size:=P3.lt;have S3:=(fB hB3 P3 D3);clear hb hbW P3 D3 hB3 S2 H2 x0 x1 x2 dA dB dC y0 y1 y2
 go_upto_region 7 with fail
 rw [<-hW3];clear hW3;go_wp2_with fail;refine (dQ (HG.o _)) ?_;rintro r u3 ⟨rfl,hb⟩;have P4:=S3.o.2.1.below hb;have D4:=S3.o.r2.below hb;have hB4:Below w.heap.size w u3:=S3.o.1.trans (hb.mono ae);have Xg:w.heap.size<=u3.heap.size:=by have:=hb.size;omega
 obtain ⟨r0,r1,r2,r3,fZ,gp,gy,V7⟩:=P4.facts;obtain ⟨s0,s1,s2,wM,wN,wO⟩:=D4.facts;have S4:=ay hB4;clear hb P4 D4 hB4 S3 HG q0 q1 q2 q3 Ab Ad Ae Qx d0 d1 d2 wS wT df2;go_wp2_with fail
 try simp only [yc]
 refine (dQ (HD.o _)) ?_;rintro r ww ⟨rfl,hw⟩;rw [hw];clear hw ww HD;go_wp2_with fail;refine (dQ (HC.o _)) ?_;rintro r ww ⟨rfl,hw⟩;rw [hw];clear hw ww HC;go_wp2
 go_ret2
 exact ⟨rfl,S4.o⟩
theorem J4 {w:World}{a:Option Addr}{l c:Nat}(n:Bool) (e mode:Int) (X:Nat) (e1:Int) (lX:(ws X).length<=8192) (hX:((((ws X).length:Nat):Int)==0)=false) (hm0:0<=mode) (tV:mode<=4)
 (F cw K K2:Nat) (ex mid:Int) (hF:F<=9007199254740991) (yc:floatOfInt .f64 ((F:Int)+1)=cw)
 (HF:Hid (∀ u,Below w.heap.size w u->Calls Tryz.prog 156 #[.agg #[.bool n,.slice a l c,.int .i64 e]] u fun r w'=>(∃ v,r=.returned (.tuple #[.agg #[.bool false,v,.int .i64 e1],.int .i64 0])/\Nt u.heap.size w' v X)/\Below u.heap.size u w'))
 (HP:Hid (∀ (u:World) (p:Option Addr) (q:Nat),Arg u p (ws X).length q (ws X)->Calls Tryz.prog 157 #[.agg #[.bool false,.slice p (ws X).length q,.int .i64 e1],.agg #[.int .i64 53,.int .i64 (-1074),.int .i64 1024]] u fun r w'=>r=.returned (.agg #[.int .u64 (F:Nat),.int .i64 ex,.bool false,.int .i64 mid])/\Below u.heap.size u w'))
 (HG:Hid (∀ u,Calls Tryz.prog 158 #[.agg #[.int .u64 (F:Nat),.int .i64 ex,.bool false,.int .i64 mid],.int .i64 mode,.bool false] u fun r w'=>r=.returned (.bool true)/\Below u.heap.size u w'))
 (HD:Hid (∀ u,Calls Tryz.prog 159 #[.float .f64 cw,.int .i64 ex] u fun r w'=>r=.returned (.float .f64 K)/\w'=u)) :
 Calls Tryz.prog 110 #[.agg #[.bool n,.slice a l c,.int .i64 e],.int .i64 mode,.agg #[.int .i64 53,.int .i64 (-1074),.int .i64 1024]] w fun r w'=>r=.returned (.tuple #[.float .f64 K,.int .i64 0])/\Below w.heap.size w w':=by
 obtain ⟨W1,hW1⟩:=ah ((w.alloc (.cells #[.bool n,.slice a l c,.int .i64 e] 62)).alloc (.cells #[.int .i64 53,.int .i64 (-1074),.int .i64 1024] 135));obtain ⟨hB,hz1,DD,DW⟩:=gB w n (.slice a l c) e 53 (-1074) 1024 W1 hW1;have H1:=hid (HF.o W1 hB);have SB:=(fB hB hz1 DW);clear hB hz1 DD DW HF;go_enter Tryz.func110,Tryz.ntmps110;go_wp2_with fail;rw [<-hW1];clear hW1;refine H1.o.mono ?_;rintro r u1 ⟨⟨v,rfl,hN⟩,hb⟩;obtain ⟨a1,c1,rfl,_⟩:=hN.arg ae;obtain ⟨hB,hz1,DW⟩:=SB.o;obtain ⟨W2,hW2⟩:=ah (u1.alloc (.cells #[.bool false,.slice a1 (ws X).length c1,.int .i64 e1] 62));have hbW:Below u1.heap.size u1 W2:=by rw [hW2];exact af u1 _
 have D2:Dk W2 u1.heap.size false (.slice a1 (ws X).length c1) e1:=by rw [hW2];exact Dk.new u1 _ _ _
 have V2:Wk W2 (w.heap.size+1) 53 (-1074) 1024:=(DW.below hb).below hbW;have hB2:Below w.heap.size w W2:=(hB.trans (hb.mono ae)).trans (hbW.mono (by have:=hb.size;omega));have H2:=hid (HP.o W2 a1 c1 ((hN.below hbW).bR ae).2);obtain ⟨x0,x1,x2,dA,dB,dC⟩:=D2.facts;obtain ⟨y0,y1,y2⟩:=V2.facts;obtain ⟨t0,t1,t2⟩:=(DW.below hb).facts;have hzu:w.heap.size+1<u1.heap.size:=by have:=hb.size;omega
 have hzz:w.heap.size<=u1.heap.size:=by have:=hb.size;omega
 have Jt:u1.heap.size<W2.heap.size:=D2.lt;have S2:=(bB hB2 D2);clear hN hb H1 hB hz1 DW SB hbW D2 V2 hB2 HP;go_wp2_with fail;rw [<-hW2];clear hW2;refine H2.o.mono ?_;rintro r u2 ⟨rfl,hb⟩;obtain ⟨W3,hW3⟩:=ah (u2.alloc (.cells #[.int .u64 (F:Nat),.int .i64 ex,.bool false,.int .i64 mid] 182));have hbW:Below u2.heap.size u2 W3:=by rw [hW3];exact af u2 _
 have P3:Pk W3 u2.heap.size (F:Nat) ex false mid:=by rw [hW3];exact iJ _ _
 have D3:=(S2.o.2.below hb).below hbW;have hB3:Below w.heap.size w W3:=(S2.o.1.trans (hb.mono ae)).trans (hbW.mono (by have:=hb.size;omega));have Uf:u1.heap.size<u2.heap.size:=by have:=hb.size;omega
 obtain ⟨q0,q1,q2,q3,Ab,Ad,Ae,Qx⟩:=P3.facts;obtain ⟨d0,d1,d2,wS,wT,df2⟩:=D3.facts;have Ju:w.heap.size<=u2.heap.size:=ae
 have Xf:u2.heap.size<W3.heap.size:=P3.lt;have S3:=(fB hB3 P3 D3);clear hb hbW P3 D3 hB3 S2 H2 x0 x1 x2 dA dB dC y0 y1 y2
 go_upto_region 7 with fail
 rw [<-hW3];clear hW3;go_wp2_with fail;refine (dQ (HG.o _)) ?_;rintro r u3 ⟨rfl,hb⟩;have P4:=S3.o.2.1.below hb;have D4:=S3.o.r2.below hb;have hB4:Below w.heap.size w u3:=S3.o.1.trans (hb.mono ae);have Xg:w.heap.size<=u3.heap.size:=by have:=hb.size;omega
 obtain ⟨r0,r1,r2,r3,fZ,gp,gy,V7⟩:=P4.facts;obtain ⟨s0,s1,s2,wM,wN,wO⟩:=D4.facts;have S4:=ay hB4;clear hb P4 D4 hB4 S3 HG q0 q1 q2 q3 Ab Ad Ae Qx d0 d1 d2 wS wT df2;go_wp2_with fail
 try simp only [yc]
 refine (dQ (HD.o _)) ?_;rintro r ww ⟨rfl,hw⟩;rw [hw];clear hw ww HD;go_wp2
 go_ret2
 exact ⟨rfl,Below.nH S4.o _ _ _ Ju Xg⟩
theorem J5 {w:World}{a:Option Addr}{l c:Nat}(n:Bool) (e mode:Int) (X:Nat) (e1:Int) (lX:(ws X).length<=8192) (hX:((((ws X).length:Nat):Int)==0)=false) (hm0:0<=mode) (tV:mode<=4)
 (F cw K K2:Nat) (ex mid:Int) (hF:F<=9007199254740991) (yc:floatOfInt .f64 ((F:Int)+1)=cw)
 (HF:Hid (∀ u,Below w.heap.size w u->Calls Tryz.prog 156 #[.agg #[.bool n,.slice a l c,.int .i64 e]] u fun r w'=>(∃ v,r=.returned (.tuple #[.agg #[.bool true,v,.int .i64 e1],.int .i64 0])/\Nt u.heap.size w' v X)/\Below u.heap.size u w'))
 (HP:Hid (∀ (u:World) (p:Option Addr) (q:Nat),Arg u p (ws X).length q (ws X)->Calls Tryz.prog 157 #[.agg #[.bool true,.slice p (ws X).length q,.int .i64 e1],.agg #[.int .i64 53,.int .i64 (-1074),.int .i64 1024]] u fun r w'=>r=.returned (.agg #[.int .u64 (F:Nat),.int .i64 ex,.bool false,.int .i64 mid])/\Below u.heap.size u w'))
 (HG:Hid (∀ u,Calls Tryz.prog 158 #[.agg #[.int .u64 (F:Nat),.int .i64 ex,.bool false,.int .i64 mid],.int .i64 mode,.bool true] u fun r w'=>r=.returned (.bool true)/\Below u.heap.size u w'))
 (HD:Hid (∀ u,Calls Tryz.prog 159 #[.float .f64 cw,.int .i64 ex] u fun r w'=>r=.returned (.float .f64 K)/\w'=u))
 (HC:Hid (∀ u,Calls Tryz.prog 150 #[.float .f64 K,.float .f64 13830554455654793216] u fun r w'=>r=.returned (.float .f64 K2)/\w'=u)) :
 Calls Tryz.prog 110 #[.agg #[.bool n,.slice a l c,.int .i64 e],.int .i64 mode,.agg #[.int .i64 53,.int .i64 (-1074),.int .i64 1024]] w fun r w'=>r=.returned (.tuple #[.float .f64 K2,.int .i64 0])/\Below w.heap.size w w':=by
 obtain ⟨W1,hW1⟩:=ah ((w.alloc (.cells #[.bool n,.slice a l c,.int .i64 e] 62)).alloc (.cells #[.int .i64 53,.int .i64 (-1074),.int .i64 1024] 135));obtain ⟨hB,hz1,DD,DW⟩:=gB w n (.slice a l c) e 53 (-1074) 1024 W1 hW1;have H1:=hid (HF.o W1 hB);have SB:=(fB hB hz1 DW);clear hB hz1 DD DW HF;go_enter Tryz.func110,Tryz.ntmps110;go_wp2_with fail;rw [<-hW1];clear hW1;refine H1.o.mono ?_;rintro r u1 ⟨⟨v,rfl,hN⟩,hb⟩;obtain ⟨a1,c1,rfl,_⟩:=hN.arg ae;obtain ⟨hB,hz1,DW⟩:=SB.o;obtain ⟨W2,hW2⟩:=ah (u1.alloc (.cells #[.bool true,.slice a1 (ws X).length c1,.int .i64 e1] 62));have hbW:Below u1.heap.size u1 W2:=by rw [hW2];exact af u1 _
 have D2:Dk W2 u1.heap.size true (.slice a1 (ws X).length c1) e1:=by rw [hW2];exact Dk.new u1 _ _ _
 have V2:Wk W2 (w.heap.size+1) 53 (-1074) 1024:=(DW.below hb).below hbW;have hB2:Below w.heap.size w W2:=(hB.trans (hb.mono ae)).trans (hbW.mono (by have:=hb.size;omega));have H2:=hid (HP.o W2 a1 c1 ((hN.below hbW).bR ae).2);obtain ⟨x0,x1,x2,dA,dB,dC⟩:=D2.facts;obtain ⟨y0,y1,y2⟩:=V2.facts;obtain ⟨t0,t1,t2⟩:=(DW.below hb).facts;have hzu:w.heap.size+1<u1.heap.size:=by have:=hb.size;omega
 have hzz:w.heap.size<=u1.heap.size:=by have:=hb.size;omega
 have Jt:u1.heap.size<W2.heap.size:=D2.lt;have S2:=(bB hB2 D2);clear hN hb H1 hB hz1 DW SB hbW D2 V2 hB2 HP;go_wp2_with fail;rw [<-hW2];clear hW2;refine H2.o.mono ?_;rintro r u2 ⟨rfl,hb⟩;obtain ⟨W3,hW3⟩:=ah (u2.alloc (.cells #[.int .u64 (F:Nat),.int .i64 ex,.bool false,.int .i64 mid] 182));have hbW:Below u2.heap.size u2 W3:=by rw [hW3];exact af u2 _
 have P3:Pk W3 u2.heap.size (F:Nat) ex false mid:=by rw [hW3];exact iJ _ _
 have D3:=(S2.o.2.below hb).below hbW;have hB3:Below w.heap.size w W3:=(S2.o.1.trans (hb.mono ae)).trans (hbW.mono (by have:=hb.size;omega));have Uf:u1.heap.size<u2.heap.size:=by have:=hb.size;omega
 obtain ⟨q0,q1,q2,q3,Ab,Ad,Ae,Qx⟩:=P3.facts;obtain ⟨d0,d1,d2,wS,wT,df2⟩:=D3.facts;have Ju:w.heap.size<=u2.heap.size:=ae
 have Xf:u2.heap.size<W3.heap.size:=P3.lt;have S3:=(fB hB3 P3 D3);clear hb hbW P3 D3 hB3 S2 H2 x0 x1 x2 dA dB dC y0 y1 y2
 go_upto_region 7 with fail
 rw [<-hW3];clear hW3;go_wp2_with fail;refine (dQ (HG.o _)) ?_;rintro r u3 ⟨rfl,hb⟩;have P4:=S3.o.2.1.below hb;have D4:=S3.o.r2.below hb;have hB4:Below w.heap.size w u3:=S3.o.1.trans (hb.mono ae);have Xg:w.heap.size<=u3.heap.size:=by have:=hb.size;omega
 obtain ⟨r0,r1,r2,r3,fZ,gp,gy,V7⟩:=P4.facts;obtain ⟨s0,s1,s2,wM,wN,wO⟩:=D4.facts;have S4:=ay hB4;clear hb P4 D4 hB4 S3 HG q0 q1 q2 q3 Ab Ad Ae Qx d0 d1 d2 wS wT df2;go_wp2_with fail
 try simp only [yc]
 refine (dQ (HD.o _)) ?_;rintro r ww ⟨rfl,hw⟩;rw [hw];clear hw ww HD;go_wp2_with fail;refine (dQ (HC.o _)) ?_;rintro r ww ⟨rfl,hw⟩;rw [hw];clear hw ww HC;go_wp2
 go_ret2
 exact ⟨rfl,Below.nH S4.o _ _ _ Ju Xg⟩
def NK (mode:Int) (n:Bool) (X:Nat) (e:Int):Nat :=
 let p:=iV 53 (-1074) 1024 X e
 (p.2.1+1074).toNat*4503599627370496+(if p.2.2.1 then p.1 else if kG mode p.1 p.2.2.2 n then p.1+1 else p.1)
def jJ (o:Option (Bool×Nat×Int)) (mode:Int):Nat×Int :=
 if mode<0\/4<mode then (0,1)
 else match o with
  | none=>(0,2)
  | some (n,X,e)=>if X=0 then (0,0) else (NK mode n X e+(if n then 9223372036854775808 else 0),0)
theorem Qy (X:Nat) (e:Int):(iV 53 (-1074) 1024 X e).2.2.2=-1\/(iV 53 (-1074) 1024 X e).2.2.2=0\/(iV 53 (-1074) 1024 X e).2.2.2=1:=by
 unfold iV
 split
 · simp
 · simp only
   split
   · simp
   · simp only
     split
     · simp
     · split <;> simp
theorem pG (F:Nat) (ex:Int) (hF:F<=9007199254740992) (h0:-1074<=ex) (h1:ex<=971) (hn:ex=-1074\/4503599627370496<=F) :
 ∃ cw,floatOfInt .f64 (F:Int)=cw/\∀ u,Calls Tryz.prog 159 #[.float .f64 cw,.int .i64 ex] u fun r w'=>r=.returned (.float .f64 ((ex+1074).toNat*4503599627370496+F))/\w'=u:=by
 by_cases hz:F=0
 · subst hz;obtain rfl:ex=-1074:=ae
   exact ⟨0,aO,fun u=>B.zx _ u⟩
 · obtain ⟨e,g,hw⟩:=B.Nw F ae hF;exact ⟨_,B.Cj F e g hw,fun u=>B.JQ F e g ex u hw ae hF h0 h1 hn⟩
theorem rG (K:Nat) (hK:K<=9218868437227405312) (u:World):Calls Tryz.prog 150 #[.float .f64 K,.float .f64 13830554455654793216] u fun r w'=>r=.returned (.float .f64 (K+9223372036854775808))/\w'=u:=by
 have h:=B.zu (K/4503599627370496) (K%4503599627370496) ae ae u;have e1:B.bw false (K/4503599627370496) (K%4503599627370496)=K:=by unfold B.bw;simp;omega
 have e2:B.bw true (K/4503599627370496) (K%4503599627370496)=K+9223372036854775808:=by unfold B.bw;simp;omega
 rw [e1,e2] at h;exact h
theorem J6 {w:World}{a:Option Addr}{l c:Nat}{xs:List Nat}(hA:Arg w a l c xs) (hT:il w) (n:Bool) (e mode:Int) (he0:-9223372036854775808<=e) (he1:e<=9223372036854775807) :
 Calls Tryz.prog 110 #[.agg #[.bool n,.slice a l c,.int .i64 e],.int .i64 mode,.agg #[.int .i64 53,.int .i64 (-1074),.int .i64 1024]] w fun r w'=>r=.returned (.tuple #[.float .f64 (jJ (mkS n (val xs) e) mode).1,.int .i64 (jJ (mkS n (val xs) e) mode).2])/\Below w.heap.size w w':=by
 unfold jJ
 by_cases hm:mode<0\/4<mode
 · rw [if_pos hm];exact EO n a l c e mode w hm
 · rw [if_neg hm];have HF:Hid (∀ u,Below w.heap.size w u->Calls Tryz.prog 156 #[.agg #[.bool n,.slice a l c,.int .i64 e]] u fun r w'=>di u.heap.size w' r (mkS n (val xs) e)/\Below u.heap.size u w'):=fun u hu=>lG (hA.below hu) (hT.belows hu) n e he0 he1
   cases ho:mkS n (val xs) e with
   | none =>
     rw [ho] at HF;exact JX n e mode false 0 0 2 (by rw [bN];simp) ae ae rfl HF
   | some d =>
     obtain ⟨n1,X,e1⟩:=d;rw [ho] at HF;have FX:=cu ho;simp only
     by_cases hX:X=0
     · rw [if_pos hX];exact EP n e mode n1 X e1 ((bZ X).2 hX) ae ae HF
     · rw [if_neg hX];have pf:=rF X e1 hX FX.down FX.up;have pm:=Qy X e1;have HP:∀ (u:World) (p:Option Addr) (q:Nat),Arg u p (ws X).length q (ws X)->Calls Tryz.prog 157 #[.agg #[.bool n1,.slice p (ws X).length q,.int .i64 e1],.agg #[.int .i64 53,.int .i64 (-1074),.int .i64 1024]] u fun r w'=>r=.returned (.agg #[.int .u64 ((iV 53 (-1074) 1024 X e1).1:Nat),.int .i64 (iV 53 (-1074) 1024 X e1).2.1,.bool (iV 53 (-1074) 1024 X e1).2.2.1,.int .i64 (iV 53 (-1074) 1024 X e1).2.2.2])/\Below u.heap.size u w':=fun u p q hA=>EN hA n1 e1 FX.down FX.up hX FX.size;unfold NK;simp only;generalize iV 53 (-1074) 1024 X e1=P at pf pm HP |-;obtain ⟨F,ex,t,mid⟩:=P;simp only at pf pm HP |-;obtain ⟨p1,p2,p3,p4⟩:=pf;have HG:∀ u,Calls Tryz.prog 158 #[.agg #[.int .u64 (F:Nat),.int .i64 ex,.bool false,.int .i64 mid],.int .i64 mode,.bool n1] u fun r w'=>r=.returned (.bool (kG mode F mid n1))/\Below u.heap.size u w':=fun u=>Co F ex false mid mode n1 u ae pm ae ae;have lX:=dY FX
       cases t with
       | true =>
         simp only [if_true];obtain ⟨cw,yc,HD⟩:=pG F ex ae p2 p3 p4
         cases n1 with
         | false =>
           simp only [fw,if_false,iw];exact NI n e mode X e1 lX (dG hX) ae ae F cw _ 0 ex mid p1 yc HF (hid HP) (hid HD)
         | true =>
           simp only [if_true];exact NJ n e mode X e1 lX (dG hX) ae ae F cw _ _ ex mid p1 yc HF (hid HP) (hid HD) (hid fun u=>rG _ ae u)
       | false =>
         simp only [fw,if_false]
         cases Xh:kG mode F mid n1 with
         | false =>
           rw [Xh] at HG;simp only [fw,if_false];obtain ⟨cw,yc,HD⟩:=pG F ex ae p2 p3 p4
           cases n1 with
           | false =>
             simp only [fw,if_false,iw];exact JY n e mode X e1 lX (dG hX) ae ae F cw _ 0 ex mid p1 yc HF (hid HP) (hid HG) (hid HD)
           | true =>
             simp only [if_true];exact JZ n e mode X e1 lX (dG hX) ae ae F cw _ _ ex mid p1 yc HF (hid HP) (hid HG) (hid HD) (hid fun u=>rG _ ae u)
         | true =>
           rw [Xh] at HG;simp only [if_true];obtain ⟨cw,yc,HD⟩:=pG (F+1) ex ae p2 p3 ae
           cases n1 with
           | false =>
             simp only [fw,if_false,iw];exact J4 n e mode X e1 lX (dG hX) ae ae F cw _ 0 ex mid p1 (by simpa using yc) HF (hid HP) (hid HG) (hid HD)
           | true =>
             simp only [if_true];exact J5 n e mode X e1 lX (dG hX) ae ae F cw _ _ ex mid p1 (by simpa using yc) HF (hid HP) (hid HG) (hid HD) (hid fun u=>rG _ ae u)
theorem J7 {w:World}{a:Option Addr}{l c:Nat}{xs:List Nat}(hA:Arg w a l c xs) (hT:il w) (n:Bool) (e mode:Int) (he0:-9223372036854775808<=e) (he1:e<=9223372036854775807) :
 Calls Tryz.prog 70 #[.agg #[.bool n,.slice a l c,.int .i64 e],.int .i64 mode] w fun r w'=>r=.returned (.tuple #[.float .f64 (jJ (mkS n (val xs) e) mode).1,.int .i64 (jJ (mkS n (val xs) e) mode).2])/\Below w.heap.size w w':=by
 have hb0:=af w (.cells #[.bool n,.slice a l c,.int .i64 e] 62);have H:=hid (J6 (hA.below hb0) (hT.belows hb0) n e mode he0 he1);have S0:=ay hb0;obtain ⟨⟨K,er⟩,hK⟩:∃ K,jJ (mkS n (val xs) e) mode=K:=⟨_,rfl⟩;rw [hK] at H |-;simp only at H |-;clear hA hT hb0 hK;go_enter Tryz.func70,Tryz.ntmps70;go_wp2_with fail;refine H.o.mono ?_;rintro r u1 ⟨rfl,hb⟩;have S1:=ay hb;clear hb;go_wp2
 go_ret2
 exact ⟨rfl,S0.o.trans (S1.o.mono aW)⟩
theorem Tryz.NM:Tryz.zeroCells163=((List.replicate 133 0).map U++Sp.cells ⟨0,0,0,0,0,0⟩).toArray:=by kernel_rfl
theorem J8 {w:World}{g:Nat}(h:Bl w g 163 ((List.replicate 133 0).map U++Sp.cells ⟨0,0,0,0,0,0⟩)):mo w g 0 ⟨0,0,0,0,0,0⟩ :=
 ⟨List.replicate 133 0,aW,Wf.zeros 133,by rw [j5];simp,by have:=q9;omega,by have:=q9;omega,h⟩
theorem Xi (w:World):Calls Tryz.prog 94 #[] w fun r w'=>r=.returned (.pointer (some ⟨w.heap.size,0,none⟩))/\mo w' w.heap.size 0 ⟨0,0,0,0,0,0⟩/\Below w.heap.size w w':=by
 go_enter Tryz.func94,Tryz.ntmps94;go_wp2;go_ret;refine ⟨rfl,?_,au _ _⟩;rw [Tryz.NM];exact J8 (Bl.new _ _ _)
def QB:Nat:=HB/4398046511104
theorem G6:HB=4398046511104*QB:=by
 obtain ⟨k,hk⟩:∃ k,k=4238:=⟨_,rfl⟩;obtain ⟨j,hj⟩:∃ j,j=4196:=⟨_,rfl⟩;unfold QB;rw [zh k hk,show k=42+j by omega,aR];have e:(2:Nat)^42=4398046511104:=aO
 rw [e,sj _ aO]
theorem zA:0<QB:=by have:=G6;have:=q9;omega
theorem nI (x y:Nat) (hx:x<18446744073709551616) (hy:y<18446744073709551616):-(QB:Int)<=pT x y/\pT x y<=(QB:Int):=by
 have hp:=zA
 have e2:∃ j,j=4196/\QB=2^j:=by
  obtain ⟨k,hk⟩:∃ k,k=4238:=⟨_,rfl⟩;obtain ⟨j,hj⟩:∃ j,j=4196:=⟨_,rfl⟩;refine ⟨j,hj,?_⟩;unfold QB;rw [zh k hk,show k=42+j by omega,aR];have e:(2:Nat)^42=4398046511104:=aO
  rw [e,sj _ aO]
 obtain ⟨j,hj,hq⟩:=e2;unfold pT SQ
 split
 · have f1:=lC (eW x) (fW x) (iM x hx).2.2;have f2:=lC (eW y) (fW y) (iM y hy).2.2;have x1:=lq (eW x) (iM x hx).2.1;have x2:=lq (eW y) (iM y hy).2.1
   have h1:ve x*ve y<2^106:=by
    have:ve x*ve y<=9007199254740991*9007199254740991:=kM (by unfold ve;omega) (by unfold ve;omega);exact iy this aO
   have h3:ve x*ve y*2^(Dq x+Dq y+2148).toNat<QB:=by
    rw [hq];refine iF (fM h1 (bK _)) ?_;rw [<-aR];exact fE aO (by unfold Dq;omega)
   have:=xY (!SX x==SX y) _ _ h3;omega
 · constructor <;> omega
def Sp.pos (s:Sp):Prop:=0<=s.n/\0<=s.u/\0<=s.d/\0<=s.m/\0<=s.p/\s.n+s.u+s.d+s.m+s.p<=s.a
theorem Sp.pos.cnt {s:Sp}(h:s.pos) (k:Nat) (hk:k<=5):(s.cnt k 1).pos:=by
 obtain ⟨h0,h1,h2,h3,h4,h5⟩:=h;have hc:k=0\/k=1\/k=2\/k=3\/k=4\/k=5:=ae
 rcases hc with rfl|rfl|rfl|rfl|rfl|rfl <;> (unfold Sp.pos Sp.cnt;simp;omega)
theorem Sp.pos.ok {s:Sp}(h:s.pos) (ha:s.a<=4398046511104):s.ok:=by
 obtain ⟨h0,h1,h2,h3,h4,h5⟩:=h;unfold Sp.ok;omega
theorem Tf (s:Sp) (k:Nat) (c:Int):(s.cnt k c).a=s.a+c:=rfl
theorem NN (V:Int) (s:Sp) (k:Nat) (T:Int) (h0:-(HB:Int)<V+T) (h1:V+T<(HB:Int)) (ha:s.a<1099511627776):tT V s k T=(0,V+T,s.cnt k 1):=by
 unfold tT xX;rw [if_neg ae,if_pos ⟨h0,h1⟩]
def vS (l:List Nat):Int:=l.foldl (fun v x=>v+pT x 4607182418800017408) 0
def sS (l:List Nat):Sp:=l.foldl (fun s x=>s.cnt (pK x 4607182418800017408) 1) ⟨0,0,0,0,0,0⟩
theorem nJ (l:List Nat) (k:Nat) (h:k<l.length):l.take (k+1)=l.take k++[l.getD k 0]:=by
 rw [wZ h,eQ,fF h];rfl
theorem G7 (l:List Nat) (k:Nat) (h:k<l.length):vS (l.take (k+1))=vS (l.take k)+pT (l.getD k 0) 4607182418800017408:=by
 rw [nJ l k h];simp [vS,yM]
theorem G8 (l:List Nat) (k:Nat) (h:k<l.length):sS (l.take (k+1))=(sS (l.take k)).cnt (pK (l.getD k 0) 4607182418800017408) 1:=by
 rw [nJ l k h];simp [sS,yM]
theorem vM (l:List Nat) (hl:iZ l):∀ k,k<=l.length->-((k*QB:Nat):Int)<=vS (l.take k)/\vS (l.take k)<=((k*QB:Nat):Int)
 | 0,_=>by simp [vS]
 | k+1,h=>by
   obtain ⟨h1,h2⟩:=vM l hl k ae;have h3:=nI (l.getD k 0) 4607182418800017408 (hl.get k) aO;rw [G7 l k h];have e:((k+1)*QB:Nat)=k*QB+QB:=by rw [fU,iq]
   omega
theorem NP (l:List Nat):∀ k,k<=l.length->(sS (l.take k)).pos/\(sS (l.take k)).a=k
 | 0,_=>⟨by rw [List.take_zero];unfold Sp.pos sS;decide,rfl⟩
 | k+1,h=>by
   obtain ⟨h1,h2⟩:=NP l k ae;rw [G8 l k h];refine ⟨h1.cnt _ (GI _ _ _),?_⟩;rw [Tf,h2];omega
def vI (I:List (Nat×Int)):Int:=I.foldl (fun v p=>v+p.2) 0
def sI (I:List (Nat×Int)):Sp:=I.foldl (fun s p=>s.cnt p.1 1) ⟨0,0,0,0,0,0⟩
theorem Qz (I:List (Nat×Int)) (p:Nat×Int):vI (I++[p])=vI I+p.2:=by simp [vI,yM]
theorem QA (I:List (Nat×Int)) (p:Nat×Int):sI (I++[p])=(sI I).cnt p.1 1:=by simp [sI,yM]
def Ip (p:Nat×Int):Prop:=p.1<=5/\-(QB:Int)<=p.2/\p.2<=(QB:Int)
theorem QC {x y:Nat}(hx:x<18446744073709551616) (hy:y<18446744073709551616):Ip (pK x y,pT x y):=⟨GI _ _ _,(nI x y hx hy).1,(nI x y hx hy).2⟩
theorem G9:∀ (I:List (Nat×Int)) (v:Int),(∀ p ∈ I,Ip p)->v-((I.length*QB:Nat):Int)<=I.foldl (fun v p=>v+p.2) v/\I.foldl (fun v p=>v+p.2) v<=v+((I.length*QB:Nat):Int)
 | [],v,_=>by simp
 | p::I,v,h=>by
   obtain ⟨h1,h2⟩:=G9 I (v+p.2) (fun q hq=>h q (yN _ hq));obtain ⟨_,h3,h4⟩:=h p Aw;rw [List.foldl_cons,mR,fU,iq];omega
theorem Xj (I:List (Nat×Int)) (h:∀ p ∈ I,Ip p):-((I.length*QB:Nat):Int)<=vI I/\vI I<=((I.length*QB:Nat):Int):=by
 have:=G9 I 0 h;unfold vI;omega
theorem Ha:∀ (I:List (Nat×Int)) (s:Sp),(∀ p ∈ I,Ip p)->s.pos->(I.foldl (fun s p=>s.cnt p.1 1) s).pos/\(I.foldl (fun s p=>s.cnt p.1 1) s).a=s.a+I.length
 | [],s,_,hs=>⟨hs,aW⟩
 | p::I,s,h,hs=>by
   obtain ⟨h1,h2⟩:=Ha I (s.cnt p.1 1) (fun q hq=>h q (yN _ hq)) (hs.cnt _ (h p Aw).1);refine ⟨h1,?_⟩;rw [List.foldl_cons,h2,Tf,mR];omega
theorem N7 (I:List (Nat×Int)) (h:∀ p ∈ I,Ip p):(sI I).pos/\(sI I).a=I.length:=by
 have:=Ha I ⟨0,0,0,0,0,0⟩ h (by unfold Sp.pos;decide);unfold sI;refine ⟨this.1,?_⟩;rw [this.2];simp
def J9 (w:World) (g:Nat) (I:List (Nat×Int)):Prop:=mo w g (vI I) (sI I)/\(∀ p ∈ I,Ip p)
theorem J9.ok {w:World}{g:Nat}{I:List (Nat×Int)}(h:J9 w g I) (hl:I.length<=1000000):(sI I).ok:=by
 obtain ⟨p1,p2⟩:=N7 I h.2;exact p1.ok (by rw [p2];omega)
theorem Uq (g:Nat) (I:List (Nat×Int)) (x y:Nat) (w:World) (hA:J9 w g I) (hl:I.length<1000000) (hx:x<18446744073709551616) (hy:y<18446744073709551616) :
 Calls Tryz.prog 95 #[.pointer (some ⟨g,0,none⟩),.float .f64 x,.float .f64 y] w fun r w'=>r=.returned (.int .i64 0)/\J9 w' g (I++[(pK x y,pT x y)])/\But g w w':=by
 have C:=BZ g (vI I) (sI I) x y w hA.1 (hA.ok ae) hx hy;obtain ⟨p1,p2⟩:=N7 I hA.2;obtain ⟨v1,v2⟩:=Xj I hA.2;have hsm:=nI x y hx hy;have hkq:I.length*QB<=1000000*QB:=gF _ ae;have hQ:=G6;have hqp:=zA;rw [NN _ _ _ _ ae ae ae] at C;refine C.mono ?_;rintro r w' ⟨rfl,h2,h3⟩;refine ⟨rfl,⟨?_,fun p hp=>?_⟩,h3⟩
 · rw [Qz,QA];exact h2
 · rcases List.mem_append.1 hp with h | h
   · exact hA.2 p h
   · rw [yC] at h;subst h;exact QC hx hy
attribute [local go_sem] B.bO B.aJ
theorem qC {P:Program}{w:World}(a:Addr) (k:FloatKind) (n:Nat) (m:Mode):(store a (.float k n) m).run P w=stored P w a (.float k n) m:=run_store P w a _ m rfl
end
end Go.Proofs.YtblkpkgebigojaaGreatDoor
