import Derived.Test.YtfmfhehbdfhnbaaGreatDoorD16x
import Derived.Deep.Cut
set_option linter.unusedVariables false
set_option linter.unusedSimpArgs false
set_option maxHeartbeats 16000000
set_option maxRecDepth 20000
namespace Go.Proofs.YtfmfhehbdfhnbaaGreatDoor
section
open Go.RowKit
def Pk (w:World) (g:Nat) (f:Int) (e:Int) (t:Bool) (m:Int):Prop:=w.heap[g]?=some (.cells #[.int .u64 f,.int .i64 e,.bool t,.int .i64 m] 165 (0,0))
theorem Pk.lt {w:World}{g:Nat}{f e:Int}{t:Bool}{m:Int}(h:Pk w g f e t m):g<w.heap.size:=(gD.1 h).1
theorem Pk.below {w w':World}{g:Nat}{f e:Int}{t:Bool}{m:Int}(h:Pk w g f e t m) (hb:Below w.heap.size w w'):Pk w' g f e t m:=by
 unfold Pk;rw [hb.block g h.lt];exact h
theorem Pk.facts {w:World}{g:Nat}{f e:Int}{t:Bool}{m:Int}(h:Pk w g f e t m) :
 w.cell? ⟨g,0,none⟩=some (.int .u64 f)/\w.cell? ⟨g,1,none⟩=some (.int .i64 e)/\w.cell? ⟨g,2,none⟩=some (.bool t)/\w.cell? ⟨g,3,none⟩=some (.int .i64 m) /\
 w.frozen? ⟨g,0,none⟩=false/\w.frozen? ⟨g,1,none⟩=false/\w.frozen? ⟨g,2,none⟩=false/\w.frozen? ⟨g,3,none⟩=false:=by
 unfold Pk at h;simp [World.cell?,World.frozen?,h]
def Wk (w:World) (g:Nat) (a b c:Int):Prop:=w.heap[g]?=some (.cells #[.int .i64 a,.int .i64 b,.int .i64 c] 129 (0,0))
theorem Wk.facts {w:World}{g:Nat}{a b c:Int}(h:Wk w g a b c):w.cell? ⟨g,0,none⟩=some (.int .i64 a)/\w.cell? ⟨g,1,none⟩=some (.int .i64 b)/\w.cell? ⟨g,2,none⟩=some (.int .i64 c):=by
 unfold Wk at h;simp [World.cell?,h]
theorem j6 (w:World) (n:Bool) (v:Value) (e a b c:Int) (W:World) (hW:W=((w.alloc (.cells #[.bool n,v,.int .i64 e] 25)).alloc (.cells #[.int .i64 a,.int .i64 b,.int .i64 c] 129)).alloc (.cells #[.int .u64 0,.int .i64 0,.bool false,.int .i64 0] 165)) :
 Below w.heap.size w W/\W.heap.size=w.heap.size+3/\Dk W w.heap.size n v e/\Wk W (w.heap.size+1) a b c/\Pk W (w.heap.size+1+1) 0 0 false 0:=by
 subst hW;refine ⟨((ae w _).alloc aO _).alloc (by simp;omega) _,aO,((Dk.new w n v e).alloc _).alloc _,?_,?_⟩
 · unfold Wk;rw [Below.heap_alloc _ _ _ aO];have:=ib (w.alloc (.cells #[.bool n,v,.int .i64 e] 25)) (.cells #[.int .i64 a,.int .i64 b,.int .i64 c] 129);simpa using this
 · have:=ib ((w.alloc (.cells #[.bool n,v,.int .i64 e] 25)).alloc (.cells #[.int .i64 a,.int .i64 b,.int .i64 c] 129)) (.cells #[.int .u64 0,.int .i64 0,.bool false,.int .i64 0] 165);unfold Pk;simpa using this
def iP (dg:Nat) (least top:Int) (X:Nat) (e:Int):Nat×Int×Bool×Int :=
 if top<e+bl X then (2^dg-1,top-dg,false,1)
 else
  let ex:=max (e+bl X-dg) least
  let off:=ex-e
  if off<=0 then (X*2^(-off).toNat,ex,true,-1)
  else (X/2^off.toNat,ex,false,if off=1 then 0 else if X/2^(off-1).toNat%2=1 then 1 else -1)
abbrev st4 (w:World) (g:Nat) (x y z t:Value):World:=(((w.setCell ⟨g,0,none⟩ x).setCell ⟨g,1,none⟩ y).setCell ⟨g,2,none⟩ z).setCell ⟨g,3,none⟩ t
theorem Pk.set {w:World}{g:Nat}{f e:Int}{t:Bool}{m:Int}(h:Pk w g f e t m) (f' e':Int) (t':Bool) (m':Int):Pk (st4 w g (.int .u64 f') (.int .i64 e') (.bool t') (.int .i64 m')) g f' e' t' m':=by
 unfold Pk at h |-;simp [st4,World.setCell,lC,h]
theorem Pk.drew {w:World}{g:Nat}{f e:Int}{t:Bool}{m:Int}(h:Pk w g f e t m):Pk w.drew g f e t m:=h
theorem Pk.alloc {w:World}{g:Nat}{f e:Int}{t:Bool}{m:Int}(h:Pk w g f e t m) (o:Obj):Pk (w.alloc o) g f e t m:=h.below (ae w o)
theorem ni (W:World) (g:Nat) (f e:Int) (t:Bool) (m:Int) (tmps:Array Value) (ht:tmps[4]?.getD undef=.pointer (some ⟨g,0,none⟩)) (D:Pk W g f e t m) :
 (results Tryz.f145 tmps).run Tryz.prog W=.ok (.agg #[.int .u64 f,.int .i64 e,.bool t,.int .i64 m]) W:=by
 obtain ⟨x0,x1,x2,x3,bE,bF,bG,xf3⟩:=D.facts;simp [results,Tryz.results145,ht,go_sem,x0,x1,x2,x3]
theorem zY {w:World}{a:Option Addr}{l c:Nat}(n:Bool) (X:Nat) (e:Int) (b:Nat) (he0:-1048576<=e) (he1:e<=1048576) (hb:b<=262144) (hfar:1024<e+(b:Int))
 (HL:Hid (∀ u,Below w.heap.size w u->Calls Tryz.prog 93 #[.slice a l c] u fun r w'=>r=.returned (.int .i64 (b:Nat))/\w'=u)) :
 Calls Tryz.prog 145 #[.agg #[.bool n,.slice a l c,.int .i64 e],.agg #[.int .i64 53,.int .i64 (-1074),.int .i64 1024]] w fun r w'=>r=.returned (.agg #[.int .u64 9007199254740991,.int .i64 971,.bool false,.int .i64 1])/\Below w.heap.size w w':=by
 obtain ⟨W1,hW1⟩:=ah (((w.alloc (.cells #[.bool n,.slice a l c,.int .i64 e] 25)).alloc (.cells #[.int .i64 53,.int .i64 (-1074),.int .i64 1024] 129)).alloc (.cells #[.int .u64 0,.int .i64 0,.bool false,.int .i64 0] 165));obtain ⟨hB,hz1,DD,DW,DP⟩:=j6 w n (.slice a l c) e 53 (-1074) 1024 W1 hW1;have H1:=hid (HL.o W1 hB);obtain ⟨x0,x1,x2,bE,bF,bG⟩:=DD.facts;obtain ⟨y0,y1,y2⟩:=DW.facts;obtain ⟨p0,p1,p2,p3,GN,GQ,GU,Z5⟩:=DP.facts;have F0:=ak (show Fin w.heap.size (w.heap.size+3) w W1 (.slice none 0 0) 0 from ⟨Nt.nil _ _,hB,af⟩);have SB:=(aZ hB hz1 DP);clear hB hz1 DD DW DP HL;go_enter Tryz.func145,Tryz.ntmps145;go_wp2_with fail;rw [<-hW1];clear hW1;refine H1.o.mono ?_;rintro r ww ⟨rfl,hw⟩;rw [hw];clear hw ww H1;go_wp2
 go_region
 all_goals (
  go_wp2;refine aF (ni _ (w.heap.size+1+1) 9007199254740991 971 false 1 _ rfl (by repeat (with_reducible first | exact SB.o.r2 | refine Pk.drew ?_ | refine Pk.set (f:=0) (e:=0) (t:=false) (m:=0) ?_ _ _ _ _))) rfl ⟨rfl,?_⟩;refine Fin.aB (m:=w.heap.size+3) (v:=.slice none 0 0) (X:=0) ?_
  repeat (with_reducible first | exact F0.o | refine Fin.drew ?_ | refine Fin.alloc ?_ _ | refine Fin.set ?_ _ _ _ af af))
theorem zZ {w:World}{a:Option Addr}{l c:Nat}(n:Bool) (e ex off:Int) (b F:Nat) (he0:-1048576<=e) (he1:e<=1048576) (hb:b<=262144) (hF:F<18446744073709551616) (lF:(ws F).length<=100) (hnf:e+(b:Int)<=1024)
 (hmx:max (e+(b:Int)-53) (-1074)=ex) (eof:ex-e=off) (Xt:-2000<=ex) (Xu:ex<=2000) (Xv:-2000000<=off) (Xw:off<=2000000) (tt:Bool) (JJ:decide (off<=0)=tt) (ho:(off==1)=true)
 (HL:Hid (∀ u,Below w.heap.size w u->Calls Tryz.prog 93 #[.slice a l c] u fun r w'=>r=.returned (.int .i64 (b:Nat))/\w'=u))
 (HS:Hid (∀ u,Below w.heap.size w u->Calls Tryz.prog 137 #[.slice a l c,.int .i64 (-off)] u fun r w'=>∃ v,r=.returned (.tuple #[v,.int .i64 0])/\Nt u.heap.size w' v F/\Below u.heap.size u w'))
 (HM:Hid (∀ (u:World) (p:Option Addr) (q:Nat),Arg u p (ws F).length q (ws F)->Calls Tryz.prog 174 #[.slice p (ws F).length q] u fun r w'=>r=.returned (.tuple #[.int .u64 (F:Nat),.int .i64 0])/\w'=u)) :
 Calls Tryz.prog 145 #[.agg #[.bool n,.slice a l c,.int .i64 e],.agg #[.int .i64 53,.int .i64 (-1074),.int .i64 1024]] w fun r w'=>r=.returned (.agg #[.int .u64 (F:Nat),.int .i64 ex,.bool tt,.int .i64 0])/\Below w.heap.size w w':=by
 obtain ⟨W1,hW1⟩:=ah (((w.alloc (.cells #[.bool n,.slice a l c,.int .i64 e] 25)).alloc (.cells #[.int .i64 53,.int .i64 (-1074),.int .i64 1024] 129)).alloc (.cells #[.int .u64 0,.int .i64 0,.bool false,.int .i64 0] 165));obtain ⟨hB,hz1,DD,DW,DP⟩:=j6 w n (.slice a l c) e 53 (-1074) 1024 W1 hW1;have H1:=hid (HL.o W1 hB);have H2:=hid (HS.o W1 hB);obtain ⟨x0,x1,x2,bE,bF,bG⟩:=DD.facts;obtain ⟨y0,y1,y2⟩:=DW.facts;have SB:=(gK hB hz1 DD DP);clear hB hz1 DD DW DP HL HS;go_enter Tryz.func145,Tryz.ntmps145;go_wp2_with fail;rw [<-hW1];clear hW1;refine H1.o.mono ?_;rintro r ww ⟨rfl,hw⟩;rw [hw];clear hw ww H1;go_wp2_with fail
 try simp only [hmx,eof]
 refine H2.o.mono ?_;rintro r u1 ⟨v,rfl,hN,hbb⟩;obtain ⟨a1,c1,rfl,A1⟩:=hN.arg af;obtain ⟨hB,hz1,DD,DP⟩:=SB.o;have H3:=hid (HM.o u1 a1 c1 A1);obtain ⟨z0,z1,z2,eF,eG,eO⟩:=(DD.below hbb).facts;have Nn:=DP.below hbb;obtain ⟨p0,p1,p2,p3,GN,GQ,GU,Z5⟩:=Nn.facts;have F0:=ak (show Fin w.heap.size (w.heap.size+3) w u1 (.slice none 0 0) 0 from ⟨Nt.nil _ _,hB.trans (hbb.mono af),by have:=hbb.size;omega⟩);have hz:w.heap.size+1+1<u1.heap.size:=by have:=hbb.size;omega
 have hz':w.heap.size<u1.heap.size:=af
 have SP:=ak Nn;clear hN hbb A1 hB hz1 DD DP Nn H2 HM SB;go_wp2_with fail
 try simp only [hmx,eof]
 refine H3.o.mono ?_;rintro r ww ⟨rfl,hw⟩;rw [hw];clear hw ww H3;go_wp2;refine aF (ni _ (w.heap.size+1+1) (F:Nat) ex tt 0 _ rfl (by repeat (with_reducible first | exact SP.o | refine Pk.alloc ?_ _ | refine Pk.drew ?_ | refine Pk.set (f:=0) (e:=0) (t:=false) (m:=0) ?_ _ _ _ _))) rfl ⟨rfl,?_⟩;refine Fin.aB (m:=w.heap.size+3) (v:=.slice none 0 0) (X:=0) ?_
 repeat (with_reducible first | exact F0.o | refine Fin.drew ?_ | refine Fin.alloc ?_ _ | refine Fin.set ?_ _ _ _ af af)
theorem Ck {w:World}{a:Option Addr}{l c:Nat}(n:Bool) (e ex off:Int) (b F:Nat) (he0:-1048576<=e) (he1:e<=1048576) (hb:b<=262144) (hF:F<18446744073709551616) (lF:(ws F).length<=100) (hnf:e+(b:Int)<=1024)
 (hmx:max (e+(b:Int)-53) (-1074)=ex) (eof:ex-e=off) (Xt:-2000<=ex) (Xu:ex<=2000) (Xv:-2000000<=off) (Xw:off<=2000000) (tt:Bool) (JJ:decide (off<=0)=tt) (ho:(off==1)=false)
 (HL:Hid (∀ u,Below w.heap.size w u->Calls Tryz.prog 93 #[.slice a l c] u fun r w'=>r=.returned (.int .i64 (b:Nat))/\w'=u))
 (HS:Hid (∀ u,Below w.heap.size w u->Calls Tryz.prog 137 #[.slice a l c,.int .i64 (-off)] u fun r w'=>∃ v,r=.returned (.tuple #[v,.int .i64 0])/\Nt u.heap.size w' v F/\Below u.heap.size u w'))
 (HM:Hid (∀ (u:World) (p:Option Addr) (q:Nat),Arg u p (ws F).length q (ws F)->Calls Tryz.prog 174 #[.slice p (ws F).length q] u fun r w'=>r=.returned (.tuple #[.int .u64 (F:Nat),.int .i64 0])/\w'=u))
 (HB:Hid (∀ u,Below w.heap.size w u->Calls Tryz.prog 160 #[.slice a l c,.int .i64 (off-1)] u fun r w'=>r=.returned (.bool true)/\w'=u)) :
 Calls Tryz.prog 145 #[.agg #[.bool n,.slice a l c,.int .i64 e],.agg #[.int .i64 53,.int .i64 (-1074),.int .i64 1024]] w fun r w'=>r=.returned (.agg #[.int .u64 (F:Nat),.int .i64 ex,.bool tt,.int .i64 1])/\Below w.heap.size w w':=by
 obtain ⟨W1,hW1⟩:=ah (((w.alloc (.cells #[.bool n,.slice a l c,.int .i64 e] 25)).alloc (.cells #[.int .i64 53,.int .i64 (-1074),.int .i64 1024] 129)).alloc (.cells #[.int .u64 0,.int .i64 0,.bool false,.int .i64 0] 165));obtain ⟨hB,hz1,DD,DW,DP⟩:=j6 w n (.slice a l c) e 53 (-1074) 1024 W1 hW1;have H1:=hid (HL.o W1 hB);have H2:=hid (HS.o W1 hB);obtain ⟨x0,x1,x2,bE,bF,bG⟩:=DD.facts;obtain ⟨y0,y1,y2⟩:=DW.facts;have SB:=(gK hB hz1 DD DP);clear hB hz1 DD DW DP HL HS;go_enter Tryz.func145,Tryz.ntmps145;go_wp2_with fail;rw [<-hW1];clear hW1;refine H1.o.mono ?_;rintro r ww ⟨rfl,hw⟩;rw [hw];clear hw ww H1;go_wp2_with fail
 try simp only [hmx,eof]
 refine H2.o.mono ?_;rintro r u1 ⟨v,rfl,hN,hbb⟩;obtain ⟨a1,c1,rfl,A1⟩:=hN.arg af;obtain ⟨hB,hz1,DD,DP⟩:=SB.o;have H3:=hid (HM.o u1 a1 c1 A1);obtain ⟨z0,z1,z2,eF,eG,eO⟩:=(DD.below hbb).facts;have Nn:=DP.below hbb;obtain ⟨p0,p1,p2,p3,GN,GQ,GU,Z5⟩:=Nn.facts;have F0:=ak (show Fin w.heap.size (w.heap.size+3) w u1 (.slice none 0 0) 0 from ⟨Nt.nil _ _,hB.trans (hbb.mono af),by have:=hbb.size;omega⟩);have hz:w.heap.size+1+1<u1.heap.size:=by have:=hbb.size;omega
 have hz':w.heap.size<u1.heap.size:=af
 have SP:=ak Nn;clear hN hbb A1 hB hz1 DD DP Nn H2 HM SB;go_wp2_with fail
 try simp only [hmx,eof]
 refine H3.o.mono ?_;rintro r ww ⟨rfl,hw⟩;rw [hw];clear hw ww H3;have H4:=hid (HB.o (u1.alloc (.cells #[.int .u64 (F:Nat),.int .i64 ex,.bool tt,.int .i64 (-1)] 165)) (F0.o.aB.alloc F0.o.size _));clear HB;go_wp2_with fail
 try simp only [hmx,eof,JJ]
 refine H4.o.mono ?_;rintro r ww ⟨rfl,hw⟩;rw [hw];clear hw ww H4;go_wp2;refine aF (ni _ (w.heap.size+1+1) (F:Nat) ex tt 1 _ rfl (by repeat (with_reducible first | exact SP.o | refine Pk.alloc ?_ _ | refine Pk.drew ?_ | refine Pk.set (f:=0) (e:=0) (t:=false) (m:=0) ?_ _ _ _ _))) rfl ⟨rfl,?_⟩;refine Fin.aB (m:=w.heap.size+3) (v:=.slice none 0 0) (X:=0) ?_
 repeat (with_reducible first | exact F0.o | refine Fin.drew ?_ | refine Fin.alloc ?_ _ | refine Fin.set ?_ _ _ _ af af)
theorem uo {w:World}{a:Option Addr}{l c:Nat}(n:Bool) (e ex off:Int) (b F:Nat) (he0:-1048576<=e) (he1:e<=1048576) (hb:b<=262144) (hF:F<18446744073709551616) (lF:(ws F).length<=100) (hnf:e+(b:Int)<=1024)
 (hmx:max (e+(b:Int)-53) (-1074)=ex) (eof:ex-e=off) (Xt:-2000<=ex) (Xu:ex<=2000) (Xv:-2000000<=off) (Xw:off<=2000000) (tt:Bool) (JJ:decide (off<=0)=tt) (ho:(off==1)=false)
 (HL:Hid (∀ u,Below w.heap.size w u->Calls Tryz.prog 93 #[.slice a l c] u fun r w'=>r=.returned (.int .i64 (b:Nat))/\w'=u))
 (HS:Hid (∀ u,Below w.heap.size w u->Calls Tryz.prog 137 #[.slice a l c,.int .i64 (-off)] u fun r w'=>∃ v,r=.returned (.tuple #[v,.int .i64 0])/\Nt u.heap.size w' v F/\Below u.heap.size u w'))
 (HM:Hid (∀ (u:World) (p:Option Addr) (q:Nat),Arg u p (ws F).length q (ws F)->Calls Tryz.prog 174 #[.slice p (ws F).length q] u fun r w'=>r=.returned (.tuple #[.int .u64 (F:Nat),.int .i64 0])/\w'=u))
 (HB:Hid (∀ u,Below w.heap.size w u->Calls Tryz.prog 160 #[.slice a l c,.int .i64 (off-1)] u fun r w'=>r=.returned (.bool false)/\w'=u)) :
 Calls Tryz.prog 145 #[.agg #[.bool n,.slice a l c,.int .i64 e],.agg #[.int .i64 53,.int .i64 (-1074),.int .i64 1024]] w fun r w'=>r=.returned (.agg #[.int .u64 (F:Nat),.int .i64 ex,.bool tt,.int .i64 (-1)])/\Below w.heap.size w w':=by
 obtain ⟨W1,hW1⟩:=ah (((w.alloc (.cells #[.bool n,.slice a l c,.int .i64 e] 25)).alloc (.cells #[.int .i64 53,.int .i64 (-1074),.int .i64 1024] 129)).alloc (.cells #[.int .u64 0,.int .i64 0,.bool false,.int .i64 0] 165));obtain ⟨hB,hz1,DD,DW,DP⟩:=j6 w n (.slice a l c) e 53 (-1074) 1024 W1 hW1;have H1:=hid (HL.o W1 hB);have H2:=hid (HS.o W1 hB);obtain ⟨x0,x1,x2,bE,bF,bG⟩:=DD.facts;obtain ⟨y0,y1,y2⟩:=DW.facts;have SB:=(gK hB hz1 DD DP);clear hB hz1 DD DW DP HL HS;go_enter Tryz.func145,Tryz.ntmps145;go_wp2_with fail;rw [<-hW1];clear hW1;refine H1.o.mono ?_;rintro r ww ⟨rfl,hw⟩;rw [hw];clear hw ww H1;go_wp2_with fail
 try simp only [hmx,eof]
 refine H2.o.mono ?_;rintro r u1 ⟨v,rfl,hN,hbb⟩;obtain ⟨a1,c1,rfl,A1⟩:=hN.arg af;obtain ⟨hB,hz1,DD,DP⟩:=SB.o;have H3:=hid (HM.o u1 a1 c1 A1);obtain ⟨z0,z1,z2,eF,eG,eO⟩:=(DD.below hbb).facts;have Nn:=DP.below hbb;obtain ⟨p0,p1,p2,p3,GN,GQ,GU,Z5⟩:=Nn.facts;have F0:=ak (show Fin w.heap.size (w.heap.size+3) w u1 (.slice none 0 0) 0 from ⟨Nt.nil _ _,hB.trans (hbb.mono af),by have:=hbb.size;omega⟩);have hz:w.heap.size+1+1<u1.heap.size:=by have:=hbb.size;omega
 have hz':w.heap.size<u1.heap.size:=af
 have SP:=ak Nn;clear hN hbb A1 hB hz1 DD DP Nn H2 HM SB;go_wp2_with fail
 try simp only [hmx,eof]
 refine H3.o.mono ?_;rintro r ww ⟨rfl,hw⟩;rw [hw];clear hw ww H3;have H4:=hid (HB.o (u1.alloc (.cells #[.int .u64 (F:Nat),.int .i64 ex,.bool tt,.int .i64 (-1)] 165)) (F0.o.aB.alloc F0.o.size _));clear HB;go_wp2_with fail
 try simp only [hmx,eof,JJ]
 refine H4.o.mono ?_;rintro r ww ⟨rfl,hw⟩;rw [hw];clear hw ww H4;go_wp2;refine aF (ni _ (w.heap.size+1+1) (F:Nat) ex tt (-1) _ rfl (by repeat (with_reducible first | exact SP.o | refine Pk.alloc ?_ _ | refine Pk.drew ?_ | refine Pk.set (f:=0) (e:=0) (t:=false) (m:=0) ?_ _ _ _ _))) rfl ⟨rfl,?_⟩;refine Fin.aB (m:=w.heap.size+3) (v:=.slice none 0 0) (X:=0) ?_
 repeat (with_reducible first | exact F0.o | refine Fin.drew ?_ | refine Fin.alloc ?_ _ | refine Fin.set ?_ _ _ _ af af)
theorem Np {w:World}{p:Option Addr}{q F:Nat}(hF:F<18446744073709551616) (hA:Arg w p (ws F).length q (ws F)) :
 Calls Tryz.prog 174 #[.slice p (ws F).length q] w fun r w'=>r=.returned (.tuple #[.int .u64 (F:Nat),.int .i64 0])/\w'=w:=by
 have:=I9 (ws F) p (ws F).length q w.heap.size w hA.len hA.cap (by have:=hA.big;omega) hA.wf hA.rd;rw [aj] at this;unfold Es at this;rw [if_pos hF] at this;exact this
theorem sS (X:Nat) (e:Int) (hX:X≠0) (he0:-1048576<=e) (he1:e<=1048576) :
 (iP 53 (-1074) 1024 X e).1<=9007199254740991/\-1074<=(iP 53 (-1074) 1024 X e).2.1/\(iP 53 (-1074) 1024 X e).2.1<=971/\((iP 53 (-1074) 1024 X e).2.1=-1074\/4503599627370496<=(iP 53 (-1074) 1024 X e).1):=by
 have hb:=dI X hX;have h1:=il X;have h2:=gT X hX;have e53:(2:Nat)^53=9007199254740992:=rfl;have e52:(2:Nat)^52=4503599627370496:=rfl;unfold iP
 by_cases hf:1024<e+(bl X:Int)
 · rw [if_pos hf];refine ⟨aO,aO,aO,.inr aO⟩
 · rw [if_neg hf];simp only;obtain ⟨ex,hex⟩:∃ ex,max (e+(bl X:Int)-((53:Nat):Int)) (-1074)=ex:=⟨_,rfl⟩;rw [hex]
   by_cases ho:ex-e<=0
   · rw [if_pos ho];obtain ⟨k,hk⟩:∃ k:Nat,(-(ex-e)).toNat=k:=⟨_,rfl⟩;rw [hk];have hub:X*2^k<2^(bl X+k):=by rw [aL];exact fD h1 (bu k)
     have hm:2^(bl X+k)<=2^53:=fB af af;refine ⟨by simp only;omega,by simp only;omega,by simp only;omega,?_⟩
     by_cases hl:ex=-1074
     · exact .inl hl
     · right
       have hlb:2^(bl X-1)*2^k<=X*2^k:=fO _ h2;rw [<-aL,show bl X-1+k=52 by omega] at hlb;simp only;omega
   · rw [if_neg ho];obtain ⟨k,hk⟩:∃ k:Nat,(ex-e).toNat=k:=⟨_,rfl⟩;rw [hk]
     have hub:X/2^k<2^53:=by
      rw [qE (bu k),<-aL];exact iC h1 (fB af af)
     refine ⟨by simp only;omega,by simp only;omega,by simp only;omega,?_⟩
     by_cases hl:ex=-1074
     · exact .inl hl
     · right
       have hlb:2^52<=X/2^k:=by
        rw [qH (bu k),<-aL,show 52+k=bl X-1 by omega];exact h2
       simp only;omega
theorem EG (X:Nat) (k:Nat) (hX:X≠0) (hl:bl X<=262144) (h0:0<k):aW X (-(k:Int))=(X/2^k,0):=by
 unfold aW;rw [if_neg (lJ hl),if_neg hX,if_pos af,show (- -(k:Int)).toNat=k by omega]
theorem EH {w:World}{a:Option Addr}{l c:Nat}{X:Nat}(hA:Arg w a l c (ws X)) (n:Bool) (e:Int) (he0:-1048576<=e) (he1:e<=1048576) (hX:X≠0) (hl:bl X<=262144) :
 Calls Tryz.prog 145 #[.agg #[.bool n,.slice a l c,.int .i64 e],.agg #[.int .i64 53,.int .i64 (-1074),.int .i64 1024]] w fun r w' =>
  r=.returned (.agg #[.int .u64 ((iP 53 (-1074) 1024 X e).1:Nat),.int .i64 (iP 53 (-1074) 1024 X e).2.1,.bool (iP 53 (-1074) 1024 X e).2.2.1,.int .i64 (iP 53 (-1074) 1024 X e).2.2.2])/\Below w.heap.size w w':=by
 have pf:=sS X e hX he0 he1
 have HL:Hid (∀ u,Below w.heap.size w u->Calls Tryz.prog 93 #[.slice a l c] u fun r w'=>r=.returned (.int .i64 (bl X:Nat))/\w'=u):=by
  intro u hu;have A:=hA.below hu;have:=oG (ws X) a l c u.heap.size u A.len A.cap (by have:=A.big;omega) A.wf A.rd;rw [aj] at this;exact this
 have hb:=dI X hX
 by_cases hf:1024<e+(bl X:Int)
 · have hp:iP 53 (-1074) 1024 X e=(9007199254740991,971,false,1):=by unfold iP;rw [if_pos hf];rfl
   rw [hp];exact zY n X e (bl X) he0 he1 hl hf HL
 · obtain ⟨ex,hex⟩:∃ ex,max (e+(bl X:Int)-53) (-1074)=ex:=⟨_,rfl⟩;obtain ⟨off,hof⟩:∃ off,ex-e=off:=⟨_,rfl⟩;have Cm:-2000<=ex/\ex<=2000:=af
   have hp:iP 53 (-1074) 1024 X e=if off<=0 then (X*2^(-off).toNat,ex,true,-1) else (X/2^off.toNat,ex,false,if off=1 then 0 else if X/2^(off-1).toNat%2=1 then 1 else -1):=by
    unfold iP;rw [if_neg hf];simp only;rw [show ((53:Nat):Int)=53 from rfl,hex,hof]
   obtain ⟨F,Z6⟩:∃ F,(iP 53 (-1074) 1024 X e).1=F:=⟨_,rfl⟩;have hF:F<=9007199254740991:=by rw [<-Z6];exact pf.1
   have lF:(ws F).length<=100:=by have:=iB F;have:=B.Nj F hF;omega
   have hsh:aW X (-off)=(F,0):=by
    rw [<-Z6,hp]
    by_cases ho:off<=0
    · rw [if_pos ho,wC X (-off) af hX hl,if_neg af]
    · obtain ⟨k,hk⟩:∃ k:Nat,off=(k:Int):=⟨off.toNat,af⟩;rw [if_neg ho,hk,EG X k hX hl af,ma]
   have HS:Hid (∀ u,Below w.heap.size w u->Calls Tryz.prog 137 #[.slice a l c,.int .i64 (-off)] u fun r w'=>∃ v,r=.returned (.tuple #[v,.int .i64 0])/\Nt u.heap.size w' v F/\Below u.heap.size u w'):=by
    intro u hu;have A:=hA.below hu;exact fA (-off) A (by rw [aj];exact hsh) af af
   have HM:Hid (∀ (u:World) (p:Option Addr) (q:Nat),Arg u p (ws F).length q (ws F)->Calls Tryz.prog 174 #[.slice p (ws F).length q] u fun r w'=>r=.returned (.tuple #[.int .u64 (F:Nat),.int .i64 0])/\w'=u):=fun u p q hA=>Np af hA
   have HB:∀ t:Bool,(if off-1<0 then false else decide (X/2^(off-1).toNat%2=1))=t->Hid (∀ u,Below w.heap.size w u->Calls Tryz.prog 160 #[.slice a l c,.int .i64 (off-1)] u fun r w'=>r=.returned (.bool t)/\w'=u):=by
    intro t ht u hu;have A:=hA.below hu
    by_cases h0:off-1<0
    · rw [if_pos h0] at ht;subst ht;exact Qv a l c (off-1) u h0
    · rw [if_neg h0] at ht;obtain ⟨k,hk⟩:∃ k:Nat,off-1=(k:Int):=⟨(off-1).toNat,af⟩;have:=qU (ws X) a l c u.heap.size k u A.len A.wf A.rd af;rw [aj] at this;rw [hk] at ht |-;rw [ma] at ht;rw [ht] at this;exact this
   rw [Z6]
   by_cases h1:off=1
   · have:=zZ n e ex off (bl X) F he0 he1 hl af lF af hex hof Cm.1 Cm.2 af af false (decide_eq_false af) (by simp [h1]) HL HS HM;rw [hp,if_neg af];simp only [h1,if_true];exact this
   · have h1':(off==1)=false:=by simp [h1]
     by_cases ho:off<=0
     · have:=uo n e ex off (bl X) F he0 he1 hl af lF af hex hof Cm.1 Cm.2 af af true (decide_eq_true ho) h1' HL HS HM (HB false (by rw [if_pos af]));rw [hp,if_pos ho];exact this
     · rw [hp,if_neg ho];simp only [if_neg h1]
       by_cases hbt:X/2^(off-1).toNat%2=1
       · have:=Ck n e ex off (bl X) F he0 he1 hl af lF af hex hof Cm.1 Cm.2 af af false (decide_eq_false ho) h1' HL HS HM (HB true (by rw [if_neg af];exact decide_eq_true hbt));rw [if_pos hbt];exact this
       · have:=uo n e ex off (bl X) F he0 he1 hl af lF af hex hof Cm.1 Cm.2 af af false (decide_eq_false ho) h1' HL HS HM (HB false (by rw [if_neg af];exact decide_eq_false hbt));rw [if_neg hbt];exact this
def kW (mode:Int) (F:Nat) (mid:Int) (n:Bool):Bool :=
 if mode=0 then decide (0<mid) || (decide (mid=0)&&decide (F%2=1)) else if mode=2 then !n else if mode=3 then n else if mode=4 then decide (0<=mid) else false
theorem JK (z:Nat) (h:z<18446744073709551616):bits BinOp.and IntKind.u64 (z:Int) 1=((z%2:Nat):Int):=by
 have h:=B.EF z h;exact h
theorem JL (F:Nat) (ex:Int) (t:Bool) (n:Bool) (w:World)  :
 Calls Tryz.prog 146 #[.agg #[.int .u64 (F:Nat),.int .i64 ex,.bool t,.int .i64 1],.int .i64 0,.bool n] w fun r w'=>r=.returned (.bool true)/\Below w.heap.size w w':=by
 have HB:=ak (show Below w.heap.size w (w.alloc (.cells #[.int .u64 (F:Nat),.int .i64 ex,.bool t,.int .i64 1] 165)) from ae w _);go_enter Tryz.func146,Tryz.ntmps146;go_wp2
 all_goals go_ret
 all_goals exact ⟨rfl,HB.o⟩
theorem JM (F:Nat) (ex:Int) (t:Bool) (n:Bool) (w:World) (b:Bool) (hb:(bits BinOp.and IntKind.u64 (F:Int) 1==1)=b) :
 Calls Tryz.prog 146 #[.agg #[.int .u64 (F:Nat),.int .i64 ex,.bool t,.int .i64 0],.int .i64 0,.bool n] w fun r w'=>r=.returned (.bool b)/\Below w.heap.size w w':=by
 have HB:=ak (show Below w.heap.size w (w.alloc (.cells #[.int .u64 (F:Nat),.int .i64 ex,.bool t,.int .i64 0] 165)) from ae w _);go_enter Tryz.func146,Tryz.ntmps146;go_wp2
 all_goals go_ret
 all_goals exact ⟨rfl,HB.o⟩
theorem JN (F:Nat) (ex:Int) (t:Bool) (n:Bool) (w:World)  :
 Calls Tryz.prog 146 #[.agg #[.int .u64 (F:Nat),.int .i64 ex,.bool t,.int .i64 (-1)],.int .i64 0,.bool n] w fun r w'=>r=.returned (.bool false)/\Below w.heap.size w w':=by
 have HB:=ak (show Below w.heap.size w (w.alloc (.cells #[.int .u64 (F:Nat),.int .i64 ex,.bool t,.int .i64 (-1)] 165)) from ae w _);go_enter Tryz.func146,Tryz.ntmps146;go_wp2
 all_goals go_ret
 all_goals exact ⟨rfl,HB.o⟩
theorem Nq (F:Nat) (ex:Int) (t:Bool) (mid:Int) (n:Bool) (w:World)  :
 Calls Tryz.prog 146 #[.agg #[.int .u64 (F:Nat),.int .i64 ex,.bool t,.int .i64 mid],.int .i64 1,.bool n] w fun r w'=>r=.returned (.bool false)/\Below w.heap.size w w':=by
 have HB:=ak (show Below w.heap.size w (w.alloc (.cells #[.int .u64 (F:Nat),.int .i64 ex,.bool t,.int .i64 mid] 165)) from ae w _);go_enter Tryz.func146,Tryz.ntmps146;go_wp2
 all_goals go_ret
 all_goals exact ⟨rfl,HB.o⟩
theorem Vo (F:Nat) (ex:Int) (t:Bool) (mid:Int) (n:Bool) (w:World)  :
 Calls Tryz.prog 146 #[.agg #[.int .u64 (F:Nat),.int .i64 ex,.bool t,.int .i64 mid],.int .i64 2,.bool n] w fun r w'=>r=.returned (.bool (!n))/\Below w.heap.size w w':=by
 have HB:=ak (show Below w.heap.size w (w.alloc (.cells #[.int .u64 (F:Nat),.int .i64 ex,.bool t,.int .i64 mid] 165)) from ae w _);go_enter Tryz.func146,Tryz.ntmps146;go_wp2
 all_goals go_ret
 all_goals exact ⟨rfl,HB.o⟩
theorem Nr (F:Nat) (ex:Int) (t:Bool) (mid:Int) (n:Bool) (w:World)  :
 Calls Tryz.prog 146 #[.agg #[.int .u64 (F:Nat),.int .i64 ex,.bool t,.int .i64 mid],.int .i64 3,.bool n] w fun r w'=>r=.returned (.bool n)/\Below w.heap.size w w':=by
 have HB:=ak (show Below w.heap.size w (w.alloc (.cells #[.int .u64 (F:Nat),.int .i64 ex,.bool t,.int .i64 mid] 165)) from ae w _);go_enter Tryz.func146,Tryz.ntmps146;go_wp2
 all_goals go_ret
 all_goals exact ⟨rfl,HB.o⟩
theorem Ns (F:Nat) (ex:Int) (t:Bool) (mid:Int) (n:Bool) (w:World) (b:Bool) (hb:decide (0<=mid)=b) :
 Calls Tryz.prog 146 #[.agg #[.int .u64 (F:Nat),.int .i64 ex,.bool t,.int .i64 mid],.int .i64 4,.bool n] w fun r w'=>r=.returned (.bool b)/\Below w.heap.size w w':=by
 have HB:=ak (show Below w.heap.size w (w.alloc (.cells #[.int .u64 (F:Nat),.int .i64 ex,.bool t,.int .i64 mid] 165)) from ae w _);go_enter Tryz.func146,Tryz.ntmps146;go_wp2
 all_goals go_ret
 all_goals exact ⟨rfl,HB.o⟩
theorem Cn (F:Nat) (ex:Int) (t:Bool) (mid mode:Int) (n:Bool) (w:World) (hF:F<18446744073709551616) (hm:mid=-1\/mid=0\/mid=1) (h0:0<=mode) (h4:mode<=4) :
 Calls Tryz.prog 146 #[.agg #[.int .u64 (F:Nat),.int .i64 ex,.bool t,.int .i64 mid],.int .i64 mode,.bool n] w fun r w'=>r=.returned (.bool (kW mode F mid n))/\Below w.heap.size w w':=by
 have hc:mode=0\/mode=1\/mode=2\/mode=3\/mode=4:=af
 rcases hc with rfl|rfl|rfl|rfl|rfl
 · rcases hm with rfl | rfl | rfl
   · exact JN F ex t n w
   · have e:(bits BinOp.and IntKind.u64 (F:Int) 1==1)=kW 0 F 0 n:=by
      rw [JK F hF];unfold kW;rcases DV F with h|h <;> simp [h]
     exact JM F ex t n w _ e
   · exact JL F ex t n w
 · exact Nq F ex t mid n w
 · exact Vo F ex t mid n w
 · exact Nr F ex t mid n w
 · exact Ns F ex t mid n w _ rfl
theorem gJ (w:World) (n:Bool) (v:Value) (e a b c:Int) (W:World) (hW:W=(w.alloc (.cells #[.bool n,v,.int .i64 e] 25)).alloc (.cells #[.int .i64 a,.int .i64 b,.int .i64 c] 129)) :
 Below w.heap.size w W/\W.heap.size=w.heap.size+2/\Dk W w.heap.size n v e/\Wk W (w.heap.size+1) a b c:=by
 subst hW;refine ⟨(ae w _).alloc aO _,aO,(Dk.new w n v e).alloc _,?_⟩;unfold Wk;have:=ib (w.alloc (.cells #[.bool n,v,.int .i64 e] 25)) (.cells #[.int .i64 a,.int .i64 b,.int .i64 c] 129);simpa using this
theorem Wk.below {w w':World}{g:Nat}{a b c:Int}(h:Wk w g a b c) (hb:Below w.heap.size w w'):Wk w' g a b c:=by
 unfold Wk;rw [hb.block g (gD.1 h).1];exact h
theorem EI (n:Bool) (a:Option Addr) (l c:Nat) (e mode:Int) (w:World) (hm:mode<0\/4<mode) :
 Calls Tryz.prog 105 #[.agg #[.bool n,.slice a l c,.int .i64 e],.int .i64 mode,.agg #[.int .i64 53,.int .i64 (-1074),.int .i64 1024]] w fun r w'=>r=.returned (.tuple #[.float .f64 0,.int .i64 1])/\Below w.heap.size w w':=by
 have HB:=ak (show Below w.heap.size w ((w.alloc (.cells #[.bool n,.slice a l c,.int .i64 e] 25)).alloc (.cells #[.int .i64 53,.int .i64 (-1074),.int .i64 1024] 129)) from (ae w _).alloc aO _);rcases hm with h|h
 · go_enter Tryz.func105,Tryz.ntmps105;go_wp2
   go_ret2
   exact ⟨rfl,HB.o⟩
 · have h':decide (mode<0)=false:=decide_eq_false af;go_enter Tryz.func105,Tryz.ntmps105;go_wp2
   go_ret2
   exact ⟨rfl,HB.o⟩
theorem JO {w:World}{a:Option Addr}{l c:Nat}(n:Bool) (e mode:Int) (n1:Bool) (X:Nat) (e1 er:Int) (lX:(ws X).length<=8192) (hm0:0<=mode) (o9:mode<=4) (her:(er != 0)=true)
 (HF:Hid (∀ u,Below w.heap.size w u->Calls Tryz.prog 125 #[.agg #[.bool n,.slice a l c,.int .i64 e]] u fun r w'=>(∃ v,r=.returned (.tuple #[.agg #[.bool n1,v,.int .i64 e1],.int .i64 er])/\Nt u.heap.size w' v X)/\Below u.heap.size u w')) :
 Calls Tryz.prog 105 #[.agg #[.bool n,.slice a l c,.int .i64 e],.int .i64 mode,.agg #[.int .i64 53,.int .i64 (-1074),.int .i64 1024]] w fun r w'=>r=.returned (.tuple #[.float .f64 0,.int .i64 er])/\Below w.heap.size w w':=by
 obtain ⟨W1,hW1⟩:=ah ((w.alloc (.cells #[.bool n,.slice a l c,.int .i64 e] 25)).alloc (.cells #[.int .i64 53,.int .i64 (-1074),.int .i64 1024] 129));obtain ⟨hB,hz1,DD,DW⟩:=gJ w n (.slice a l c) e 53 (-1074) 1024 W1 hW1;have H1:=hid (HF.o W1 hB);have SB:=(aZ hB hz1 DW);clear hB hz1 DD DW HF;go_enter Tryz.func105,Tryz.ntmps105;go_wp2_with fail;rw [<-hW1];clear hW1;refine H1.o.mono ?_;rintro r u1 ⟨⟨v,rfl,hN⟩,hb⟩;obtain ⟨a1,c1,rfl,_⟩:=hN.arg af;obtain ⟨hB,hz1,DW⟩:=SB.o;have SF:=ak (hB.trans (hb.mono af));have hz:w.heap.size<=u1.heap.size:=by have:=hb.size;omega
 clear hN hb H1 hB hz1 DW SB;go_wp2
 go_ret2
 exact ⟨rfl,SF.o.alloc hz _⟩
theorem EJ {w:World}{a:Option Addr}{l c:Nat}(n:Bool) (e mode:Int) (n1:Bool) (X:Nat) (e1:Int) (lX:(ws X).length=0) (hm0:0<=mode) (o9:mode<=4)
 (HF:Hid (∀ u,Below w.heap.size w u->Calls Tryz.prog 125 #[.agg #[.bool n,.slice a l c,.int .i64 e]] u fun r w'=>(∃ v,r=.returned (.tuple #[.agg #[.bool n1,v,.int .i64 e1],.int .i64 0])/\Nt u.heap.size w' v X)/\Below u.heap.size u w')) :
 Calls Tryz.prog 105 #[.agg #[.bool n,.slice a l c,.int .i64 e],.int .i64 mode,.agg #[.int .i64 53,.int .i64 (-1074),.int .i64 1024]] w fun r w'=>r=.returned (.tuple #[.float .f64 0,.int .i64 0])/\Below w.heap.size w w':=by
 obtain ⟨W1,hW1⟩:=ah ((w.alloc (.cells #[.bool n,.slice a l c,.int .i64 e] 25)).alloc (.cells #[.int .i64 53,.int .i64 (-1074),.int .i64 1024] 129));obtain ⟨hB,hz1,DD,DW⟩:=gJ w n (.slice a l c) e 53 (-1074) 1024 W1 hW1;have H1:=hid (HF.o W1 hB);have SB:=(aZ hB hz1 DW);clear hB hz1 DD DW HF;go_enter Tryz.func105,Tryz.ntmps105;go_wp2_with fail;rw [<-hW1];clear hW1;refine H1.o.mono ?_;rintro r u1 ⟨⟨v,rfl,hN⟩,hb⟩;obtain ⟨a1,c1,rfl,_⟩:=hN.arg af;obtain ⟨hB,hz1,DW⟩:=SB.o;have SF:=ak (hB.trans (hb.mono af));have hz:w.heap.size<=u1.heap.size:=by have:=hb.size;omega
 clear hN hb H1 hB hz1 DW SB;rw [lX];go_wp2
 go_ret2
 exact ⟨rfl,SF.o.alloc hz _⟩
theorem Nu {w:World}{a:Option Addr}{l c:Nat}(n:Bool) (e mode:Int) (X:Nat) (e1:Int) (lX:(ws X).length<=8192) (hX:((((ws X).length:Nat):Int)==0)=false) (hm0:0<=mode) (o9:mode<=4)
 (F cw K K2:Nat) (ex mid:Int) (hF:F<=9007199254740991) (yM:floatOfInt .f64 (F:Int)=cw)
 (HF:Hid (∀ u,Below w.heap.size w u->Calls Tryz.prog 125 #[.agg #[.bool n,.slice a l c,.int .i64 e]] u fun r w'=>(∃ v,r=.returned (.tuple #[.agg #[.bool false,v,.int .i64 e1],.int .i64 0])/\Nt u.heap.size w' v X)/\Below u.heap.size u w'))
 (HP:Hid (∀ (u:World) (p:Option Addr) (q:Nat),Arg u p (ws X).length q (ws X)->Calls Tryz.prog 145 #[.agg #[.bool false,.slice p (ws X).length q,.int .i64 e1],.agg #[.int .i64 53,.int .i64 (-1074),.int .i64 1024]] u fun r w'=>r=.returned (.agg #[.int .u64 (F:Nat),.int .i64 ex,.bool true,.int .i64 mid])/\Below u.heap.size u w'))
 (HD:Hid (∀ u,Calls Tryz.prog 147 #[.float .f64 cw,.int .i64 ex] u fun r w'=>r=.returned (.float .f64 K)/\w'=u)) :
 Calls Tryz.prog 105 #[.agg #[.bool n,.slice a l c,.int .i64 e],.int .i64 mode,.agg #[.int .i64 53,.int .i64 (-1074),.int .i64 1024]] w fun r w'=>r=.returned (.tuple #[.float .f64 K,.int .i64 0])/\Below w.heap.size w w':=by
 obtain ⟨W1,hW1⟩:=ah ((w.alloc (.cells #[.bool n,.slice a l c,.int .i64 e] 25)).alloc (.cells #[.int .i64 53,.int .i64 (-1074),.int .i64 1024] 129));obtain ⟨hB,hz1,DD,DW⟩:=gJ w n (.slice a l c) e 53 (-1074) 1024 W1 hW1;have H1:=hid (HF.o W1 hB);have SB:=(aZ hB hz1 DW);clear hB hz1 DD DW HF;go_enter Tryz.func105,Tryz.ntmps105;go_wp2_with fail;rw [<-hW1];clear hW1;refine H1.o.mono ?_;rintro r u1 ⟨⟨v,rfl,hN⟩,hb⟩;obtain ⟨a1,c1,rfl,_⟩:=hN.arg af;obtain ⟨hB,hz1,DW⟩:=SB.o;obtain ⟨W2,hW2⟩:=ah (u1.alloc (.cells #[.bool false,.slice a1 (ws X).length c1,.int .i64 e1] 25));have hbW:Below u1.heap.size u1 W2:=by rw [hW2];exact ae u1 _
 have D2:Dk W2 u1.heap.size false (.slice a1 (ws X).length c1) e1:=by rw [hW2];exact Dk.new u1 _ _ _
 have V2:Wk W2 (w.heap.size+1) 53 (-1074) 1024:=(DW.below hb).below hbW;have hB2:Below w.heap.size w W2:=(hB.trans (hb.mono af)).trans (hbW.mono (by have:=hb.size;omega));have H2:=hid (HP.o W2 a1 c1 ((hN.below hbW).aU af).2);obtain ⟨x0,x1,x2,bE,bF,bG⟩:=D2.facts;obtain ⟨y0,y1,y2⟩:=V2.facts;obtain ⟨t0,t1,t2⟩:=(DW.below hb).facts;have hzu:w.heap.size+1<u1.heap.size:=by have:=hb.size;omega
 have hzz:w.heap.size<=u1.heap.size:=by have:=hb.size;omega
 have Jk:u1.heap.size<W2.heap.size:=D2.lt;have S2:=(aJ hB2 D2);clear hN hb H1 hB hz1 DW SB hbW D2 V2 hB2 HP;go_wp2_with fail;rw [<-hW2];clear hW2;refine H2.o.mono ?_;rintro r u2 ⟨rfl,hb⟩;obtain ⟨W3,hW3⟩:=ah (u2.alloc (.cells #[.int .u64 (F:Nat),.int .i64 ex,.bool true,.int .i64 mid] 165));have hbW:Below u2.heap.size u2 W3:=by rw [hW3];exact ae u2 _
 have P3:Pk W3 u2.heap.size (F:Nat) ex true mid:=by rw [hW3];exact ib _ _
 have D3:=(S2.o.2.below hb).below hbW;have hB3:Below w.heap.size w W3:=(S2.o.1.trans (hb.mono af)).trans (hbW.mono (by have:=hb.size;omega));have Vj:u1.heap.size<u2.heap.size:=by have:=hb.size;omega
 obtain ⟨q0,q1,q2,q3,yI,yJ,yK,QX⟩:=P3.facts;obtain ⟨d0,d1,d2,QY,QZ,df2⟩:=D3.facts;have Jl:w.heap.size<=u2.heap.size:=af
 have Xx:u2.heap.size<W3.heap.size:=P3.lt;have S3:=(aZ hB3 P3 D3);clear hb hbW P3 D3 hB3 S2 H2 x0 x1 x2 bE bF bG y0 y1 y2
 go_upto_region 7 with fail
 rw [<-hW3];clear hW3;go_wp2_with fail
 try simp only [yM]
 refine (fP (HD.o _)) ?_;rintro r ww ⟨rfl,hw⟩;rw [hw];clear hw ww HD;go_wp2
 go_ret2
 exact ⟨rfl,S3.o.1⟩
theorem Nv {w:World}{a:Option Addr}{l c:Nat}(n:Bool) (e mode:Int) (X:Nat) (e1:Int) (lX:(ws X).length<=8192) (hX:((((ws X).length:Nat):Int)==0)=false) (hm0:0<=mode) (o9:mode<=4)
 (F cw K K2:Nat) (ex mid:Int) (hF:F<=9007199254740991) (yM:floatOfInt .f64 (F:Int)=cw)
 (HF:Hid (∀ u,Below w.heap.size w u->Calls Tryz.prog 125 #[.agg #[.bool n,.slice a l c,.int .i64 e]] u fun r w'=>(∃ v,r=.returned (.tuple #[.agg #[.bool true,v,.int .i64 e1],.int .i64 0])/\Nt u.heap.size w' v X)/\Below u.heap.size u w'))
 (HP:Hid (∀ (u:World) (p:Option Addr) (q:Nat),Arg u p (ws X).length q (ws X)->Calls Tryz.prog 145 #[.agg #[.bool true,.slice p (ws X).length q,.int .i64 e1],.agg #[.int .i64 53,.int .i64 (-1074),.int .i64 1024]] u fun r w'=>r=.returned (.agg #[.int .u64 (F:Nat),.int .i64 ex,.bool true,.int .i64 mid])/\Below u.heap.size u w'))
 (HD:Hid (∀ u,Calls Tryz.prog 147 #[.float .f64 cw,.int .i64 ex] u fun r w'=>r=.returned (.float .f64 K)/\w'=u))
 (HC:Hid (∀ u,Calls Tryz.prog 148 #[.float .f64 K,.float .f64 13830554455654793216] u fun r w'=>r=.returned (.float .f64 K2)/\w'=u)) :
 Calls Tryz.prog 105 #[.agg #[.bool n,.slice a l c,.int .i64 e],.int .i64 mode,.agg #[.int .i64 53,.int .i64 (-1074),.int .i64 1024]] w fun r w'=>r=.returned (.tuple #[.float .f64 K2,.int .i64 0])/\Below w.heap.size w w':=by
 obtain ⟨W1,hW1⟩:=ah ((w.alloc (.cells #[.bool n,.slice a l c,.int .i64 e] 25)).alloc (.cells #[.int .i64 53,.int .i64 (-1074),.int .i64 1024] 129));obtain ⟨hB,hz1,DD,DW⟩:=gJ w n (.slice a l c) e 53 (-1074) 1024 W1 hW1;have H1:=hid (HF.o W1 hB);have SB:=(aZ hB hz1 DW);clear hB hz1 DD DW HF;go_enter Tryz.func105,Tryz.ntmps105;go_wp2_with fail;rw [<-hW1];clear hW1;refine H1.o.mono ?_;rintro r u1 ⟨⟨v,rfl,hN⟩,hb⟩;obtain ⟨a1,c1,rfl,_⟩:=hN.arg af;obtain ⟨hB,hz1,DW⟩:=SB.o;obtain ⟨W2,hW2⟩:=ah (u1.alloc (.cells #[.bool true,.slice a1 (ws X).length c1,.int .i64 e1] 25));have hbW:Below u1.heap.size u1 W2:=by rw [hW2];exact ae u1 _
 have D2:Dk W2 u1.heap.size true (.slice a1 (ws X).length c1) e1:=by rw [hW2];exact Dk.new u1 _ _ _
 have V2:Wk W2 (w.heap.size+1) 53 (-1074) 1024:=(DW.below hb).below hbW;have hB2:Below w.heap.size w W2:=(hB.trans (hb.mono af)).trans (hbW.mono (by have:=hb.size;omega));have H2:=hid (HP.o W2 a1 c1 ((hN.below hbW).aU af).2);obtain ⟨x0,x1,x2,bE,bF,bG⟩:=D2.facts;obtain ⟨y0,y1,y2⟩:=V2.facts;obtain ⟨t0,t1,t2⟩:=(DW.below hb).facts;have hzu:w.heap.size+1<u1.heap.size:=by have:=hb.size;omega
 have hzz:w.heap.size<=u1.heap.size:=by have:=hb.size;omega
 have Jk:u1.heap.size<W2.heap.size:=D2.lt;have S2:=(aJ hB2 D2);clear hN hb H1 hB hz1 DW SB hbW D2 V2 hB2 HP;go_wp2_with fail;rw [<-hW2];clear hW2;refine H2.o.mono ?_;rintro r u2 ⟨rfl,hb⟩;obtain ⟨W3,hW3⟩:=ah (u2.alloc (.cells #[.int .u64 (F:Nat),.int .i64 ex,.bool true,.int .i64 mid] 165));have hbW:Below u2.heap.size u2 W3:=by rw [hW3];exact ae u2 _
 have P3:Pk W3 u2.heap.size (F:Nat) ex true mid:=by rw [hW3];exact ib _ _
 have D3:=(S2.o.2.below hb).below hbW;have hB3:Below w.heap.size w W3:=(S2.o.1.trans (hb.mono af)).trans (hbW.mono (by have:=hb.size;omega));have Vj:u1.heap.size<u2.heap.size:=by have:=hb.size;omega
 obtain ⟨q0,q1,q2,q3,yI,yJ,yK,QX⟩:=P3.facts;obtain ⟨d0,d1,d2,QY,QZ,df2⟩:=D3.facts;have Jl:w.heap.size<=u2.heap.size:=af
 have Xx:u2.heap.size<W3.heap.size:=P3.lt;have S3:=(aZ hB3 P3 D3);clear hb hbW P3 D3 hB3 S2 H2 x0 x1 x2 bE bF bG y0 y1 y2
 go_upto_region 7 with fail
 rw [<-hW3];clear hW3;go_wp2_with fail
 try simp only [yM]
 refine (fP (HD.o _)) ?_;rintro r ww ⟨rfl,hw⟩;rw [hw];clear hw ww HD;go_wp2_with fail;refine (fP (HC.o _)) ?_;rintro r ww ⟨rfl,hw⟩;rw [hw];clear hw ww HC;go_wp2
 go_ret2
 exact ⟨rfl,S3.o.1⟩
theorem JP {w:World}{a:Option Addr}{l c:Nat}(n:Bool) (e mode:Int) (X:Nat) (e1:Int) (lX:(ws X).length<=8192) (hX:((((ws X).length:Nat):Int)==0)=false) (hm0:0<=mode) (o9:mode<=4)
 (F cw K K2:Nat) (ex mid:Int) (hF:F<=9007199254740991) (yM:floatOfInt .f64 (F:Int)=cw)
 (HF:Hid (∀ u,Below w.heap.size w u->Calls Tryz.prog 125 #[.agg #[.bool n,.slice a l c,.int .i64 e]] u fun r w'=>(∃ v,r=.returned (.tuple #[.agg #[.bool false,v,.int .i64 e1],.int .i64 0])/\Nt u.heap.size w' v X)/\Below u.heap.size u w'))
 (HP:Hid (∀ (u:World) (p:Option Addr) (q:Nat),Arg u p (ws X).length q (ws X)->Calls Tryz.prog 145 #[.agg #[.bool false,.slice p (ws X).length q,.int .i64 e1],.agg #[.int .i64 53,.int .i64 (-1074),.int .i64 1024]] u fun r w'=>r=.returned (.agg #[.int .u64 (F:Nat),.int .i64 ex,.bool false,.int .i64 mid])/\Below u.heap.size u w'))
 (HG:Hid (∀ u,Calls Tryz.prog 146 #[.agg #[.int .u64 (F:Nat),.int .i64 ex,.bool false,.int .i64 mid],.int .i64 mode,.bool false] u fun r w'=>r=.returned (.bool false)/\Below u.heap.size u w'))
 (HD:Hid (∀ u,Calls Tryz.prog 147 #[.float .f64 cw,.int .i64 ex] u fun r w'=>r=.returned (.float .f64 K)/\w'=u)) :
 Calls Tryz.prog 105 #[.agg #[.bool n,.slice a l c,.int .i64 e],.int .i64 mode,.agg #[.int .i64 53,.int .i64 (-1074),.int .i64 1024]] w fun r w'=>r=.returned (.tuple #[.float .f64 K,.int .i64 0])/\Below w.heap.size w w':=by
 obtain ⟨W1,hW1⟩:=ah ((w.alloc (.cells #[.bool n,.slice a l c,.int .i64 e] 25)).alloc (.cells #[.int .i64 53,.int .i64 (-1074),.int .i64 1024] 129));obtain ⟨hB,hz1,DD,DW⟩:=gJ w n (.slice a l c) e 53 (-1074) 1024 W1 hW1;have H1:=hid (HF.o W1 hB);have SB:=(aZ hB hz1 DW);clear hB hz1 DD DW HF;go_enter Tryz.func105,Tryz.ntmps105;go_wp2_with fail;rw [<-hW1];clear hW1;refine H1.o.mono ?_;rintro r u1 ⟨⟨v,rfl,hN⟩,hb⟩;obtain ⟨a1,c1,rfl,_⟩:=hN.arg af;obtain ⟨hB,hz1,DW⟩:=SB.o;obtain ⟨W2,hW2⟩:=ah (u1.alloc (.cells #[.bool false,.slice a1 (ws X).length c1,.int .i64 e1] 25));have hbW:Below u1.heap.size u1 W2:=by rw [hW2];exact ae u1 _
 have D2:Dk W2 u1.heap.size false (.slice a1 (ws X).length c1) e1:=by rw [hW2];exact Dk.new u1 _ _ _
 have V2:Wk W2 (w.heap.size+1) 53 (-1074) 1024:=(DW.below hb).below hbW;have hB2:Below w.heap.size w W2:=(hB.trans (hb.mono af)).trans (hbW.mono (by have:=hb.size;omega));have H2:=hid (HP.o W2 a1 c1 ((hN.below hbW).aU af).2);obtain ⟨x0,x1,x2,bE,bF,bG⟩:=D2.facts;obtain ⟨y0,y1,y2⟩:=V2.facts;obtain ⟨t0,t1,t2⟩:=(DW.below hb).facts;have hzu:w.heap.size+1<u1.heap.size:=by have:=hb.size;omega
 have hzz:w.heap.size<=u1.heap.size:=by have:=hb.size;omega
 have Jk:u1.heap.size<W2.heap.size:=D2.lt;have S2:=(aJ hB2 D2);clear hN hb H1 hB hz1 DW SB hbW D2 V2 hB2 HP;go_wp2_with fail;rw [<-hW2];clear hW2;refine H2.o.mono ?_;rintro r u2 ⟨rfl,hb⟩;obtain ⟨W3,hW3⟩:=ah (u2.alloc (.cells #[.int .u64 (F:Nat),.int .i64 ex,.bool false,.int .i64 mid] 165));have hbW:Below u2.heap.size u2 W3:=by rw [hW3];exact ae u2 _
 have P3:Pk W3 u2.heap.size (F:Nat) ex false mid:=by rw [hW3];exact ib _ _
 have D3:=(S2.o.2.below hb).below hbW;have hB3:Below w.heap.size w W3:=(S2.o.1.trans (hb.mono af)).trans (hbW.mono (by have:=hb.size;omega));have Vj:u1.heap.size<u2.heap.size:=by have:=hb.size;omega
 obtain ⟨q0,q1,q2,q3,yI,yJ,yK,QX⟩:=P3.facts;obtain ⟨d0,d1,d2,QY,QZ,df2⟩:=D3.facts;have Jl:w.heap.size<=u2.heap.size:=af
 have Xx:u2.heap.size<W3.heap.size:=P3.lt;have S3:=(aZ hB3 P3 D3);clear hb hbW P3 D3 hB3 S2 H2 x0 x1 x2 bE bF bG y0 y1 y2
 go_upto_region 7 with fail
 rw [<-hW3];clear hW3;go_wp2_with fail;refine (fP (HG.o _)) ?_;rintro r u3 ⟨rfl,hb⟩;have P4:=S3.o.2.1.below hb;have D4:=S3.o.r2.below hb;have hB4:Below w.heap.size w u3:=S3.o.1.trans (hb.mono af);have Xy:w.heap.size<=u3.heap.size:=by have:=hb.size;omega
 obtain ⟨r0,r1,r2,r3,gG,gH,gI,Wu⟩:=P4.facts;obtain ⟨s0,s1,s2,rX,rY,rZ⟩:=D4.facts;have S4:=ak hB4;clear hb P4 D4 hB4 S3 HG q0 q1 q2 q3 yI yJ yK QX d0 d1 d2 QY QZ df2;go_wp2_with fail
 try simp only [yM]
 refine (fP (HD.o _)) ?_;rintro r ww ⟨rfl,hw⟩;rw [hw];clear hw ww HD;go_wp2
 go_ret2
 exact ⟨rfl,S4.o⟩
theorem JQ {w:World}{a:Option Addr}{l c:Nat}(n:Bool) (e mode:Int) (X:Nat) (e1:Int) (lX:(ws X).length<=8192) (hX:((((ws X).length:Nat):Int)==0)=false) (hm0:0<=mode) (o9:mode<=4)
 (F cw K K2:Nat) (ex mid:Int) (hF:F<=9007199254740991) (yM:floatOfInt .f64 (F:Int)=cw)
 (HF:Hid (∀ u,Below w.heap.size w u->Calls Tryz.prog 125 #[.agg #[.bool n,.slice a l c,.int .i64 e]] u fun r w'=>(∃ v,r=.returned (.tuple #[.agg #[.bool true,v,.int .i64 e1],.int .i64 0])/\Nt u.heap.size w' v X)/\Below u.heap.size u w'))
 (HP:Hid (∀ (u:World) (p:Option Addr) (q:Nat),Arg u p (ws X).length q (ws X)->Calls Tryz.prog 145 #[.agg #[.bool true,.slice p (ws X).length q,.int .i64 e1],.agg #[.int .i64 53,.int .i64 (-1074),.int .i64 1024]] u fun r w'=>r=.returned (.agg #[.int .u64 (F:Nat),.int .i64 ex,.bool false,.int .i64 mid])/\Below u.heap.size u w'))
 (HG:Hid (∀ u,Calls Tryz.prog 146 #[.agg #[.int .u64 (F:Nat),.int .i64 ex,.bool false,.int .i64 mid],.int .i64 mode,.bool true] u fun r w'=>r=.returned (.bool false)/\Below u.heap.size u w'))
 (HD:Hid (∀ u,Calls Tryz.prog 147 #[.float .f64 cw,.int .i64 ex] u fun r w'=>r=.returned (.float .f64 K)/\w'=u))
 (HC:Hid (∀ u,Calls Tryz.prog 148 #[.float .f64 K,.float .f64 13830554455654793216] u fun r w'=>r=.returned (.float .f64 K2)/\w'=u)) :
 Calls Tryz.prog 105 #[.agg #[.bool n,.slice a l c,.int .i64 e],.int .i64 mode,.agg #[.int .i64 53,.int .i64 (-1074),.int .i64 1024]] w fun r w'=>r=.returned (.tuple #[.float .f64 K2,.int .i64 0])/\Below w.heap.size w w':=by
 obtain ⟨W1,hW1⟩:=ah ((w.alloc (.cells #[.bool n,.slice a l c,.int .i64 e] 25)).alloc (.cells #[.int .i64 53,.int .i64 (-1074),.int .i64 1024] 129));obtain ⟨hB,hz1,DD,DW⟩:=gJ w n (.slice a l c) e 53 (-1074) 1024 W1 hW1;have H1:=hid (HF.o W1 hB);have SB:=(aZ hB hz1 DW);clear hB hz1 DD DW HF;go_enter Tryz.func105,Tryz.ntmps105;go_wp2_with fail;rw [<-hW1];clear hW1;refine H1.o.mono ?_;rintro r u1 ⟨⟨v,rfl,hN⟩,hb⟩;obtain ⟨a1,c1,rfl,_⟩:=hN.arg af;obtain ⟨hB,hz1,DW⟩:=SB.o;obtain ⟨W2,hW2⟩:=ah (u1.alloc (.cells #[.bool true,.slice a1 (ws X).length c1,.int .i64 e1] 25));have hbW:Below u1.heap.size u1 W2:=by rw [hW2];exact ae u1 _
 have D2:Dk W2 u1.heap.size true (.slice a1 (ws X).length c1) e1:=by rw [hW2];exact Dk.new u1 _ _ _
 have V2:Wk W2 (w.heap.size+1) 53 (-1074) 1024:=(DW.below hb).below hbW;have hB2:Below w.heap.size w W2:=(hB.trans (hb.mono af)).trans (hbW.mono (by have:=hb.size;omega));have H2:=hid (HP.o W2 a1 c1 ((hN.below hbW).aU af).2);obtain ⟨x0,x1,x2,bE,bF,bG⟩:=D2.facts;obtain ⟨y0,y1,y2⟩:=V2.facts;obtain ⟨t0,t1,t2⟩:=(DW.below hb).facts;have hzu:w.heap.size+1<u1.heap.size:=by have:=hb.size;omega
 have hzz:w.heap.size<=u1.heap.size:=by have:=hb.size;omega
 have Jk:u1.heap.size<W2.heap.size:=D2.lt;have S2:=(aJ hB2 D2);clear hN hb H1 hB hz1 DW SB hbW D2 V2 hB2 HP;go_wp2_with fail;rw [<-hW2];clear hW2;refine H2.o.mono ?_;rintro r u2 ⟨rfl,hb⟩;obtain ⟨W3,hW3⟩:=ah (u2.alloc (.cells #[.int .u64 (F:Nat),.int .i64 ex,.bool false,.int .i64 mid] 165));have hbW:Below u2.heap.size u2 W3:=by rw [hW3];exact ae u2 _
 have P3:Pk W3 u2.heap.size (F:Nat) ex false mid:=by rw [hW3];exact ib _ _
 have D3:=(S2.o.2.below hb).below hbW;have hB3:Below w.heap.size w W3:=(S2.o.1.trans (hb.mono af)).trans (hbW.mono (by have:=hb.size;omega));have Vj:u1.heap.size<u2.heap.size:=by have:=hb.size;omega
 obtain ⟨q0,q1,q2,q3,yI,yJ,yK,QX⟩:=P3.facts;obtain ⟨d0,d1,d2,QY,QZ,df2⟩:=D3.facts;have Jl:w.heap.size<=u2.heap.size:=af
 have Xx:u2.heap.size<W3.heap.size:=P3.lt;have S3:=(aZ hB3 P3 D3);clear hb hbW P3 D3 hB3 S2 H2 x0 x1 x2 bE bF bG y0 y1 y2
 go_upto_region 7 with fail
 rw [<-hW3];clear hW3;go_wp2_with fail;refine (fP (HG.o _)) ?_;rintro r u3 ⟨rfl,hb⟩;have P4:=S3.o.2.1.below hb;have D4:=S3.o.r2.below hb;have hB4:Below w.heap.size w u3:=S3.o.1.trans (hb.mono af);have Xy:w.heap.size<=u3.heap.size:=by have:=hb.size;omega
 obtain ⟨r0,r1,r2,r3,gG,gH,gI,Wu⟩:=P4.facts;obtain ⟨s0,s1,s2,rX,rY,rZ⟩:=D4.facts;have S4:=ak hB4;clear hb P4 D4 hB4 S3 HG q0 q1 q2 q3 yI yJ yK QX d0 d1 d2 QY QZ df2;go_wp2_with fail
 try simp only [yM]
 refine (fP (HD.o _)) ?_;rintro r ww ⟨rfl,hw⟩;rw [hw];clear hw ww HD;go_wp2_with fail;refine (fP (HC.o _)) ?_;rintro r ww ⟨rfl,hw⟩;rw [hw];clear hw ww HC;go_wp2
 go_ret2
 exact ⟨rfl,S4.o⟩
theorem JS {w:World}{a:Option Addr}{l c:Nat}(n:Bool) (e mode:Int) (X:Nat) (e1:Int) (lX:(ws X).length<=8192) (hX:((((ws X).length:Nat):Int)==0)=false) (hm0:0<=mode) (o9:mode<=4)
 (F cw K K2:Nat) (ex mid:Int) (hF:F<=9007199254740991) (yM:floatOfInt .f64 ((F:Int)+1)=cw)
 (HF:Hid (∀ u,Below w.heap.size w u->Calls Tryz.prog 125 #[.agg #[.bool n,.slice a l c,.int .i64 e]] u fun r w'=>(∃ v,r=.returned (.tuple #[.agg #[.bool false,v,.int .i64 e1],.int .i64 0])/\Nt u.heap.size w' v X)/\Below u.heap.size u w'))
 (HP:Hid (∀ (u:World) (p:Option Addr) (q:Nat),Arg u p (ws X).length q (ws X)->Calls Tryz.prog 145 #[.agg #[.bool false,.slice p (ws X).length q,.int .i64 e1],.agg #[.int .i64 53,.int .i64 (-1074),.int .i64 1024]] u fun r w'=>r=.returned (.agg #[.int .u64 (F:Nat),.int .i64 ex,.bool false,.int .i64 mid])/\Below u.heap.size u w'))
 (HG:Hid (∀ u,Calls Tryz.prog 146 #[.agg #[.int .u64 (F:Nat),.int .i64 ex,.bool false,.int .i64 mid],.int .i64 mode,.bool false] u fun r w'=>r=.returned (.bool true)/\Below u.heap.size u w'))
 (HD:Hid (∀ u,Calls Tryz.prog 147 #[.float .f64 cw,.int .i64 ex] u fun r w'=>r=.returned (.float .f64 K)/\w'=u)) :
 Calls Tryz.prog 105 #[.agg #[.bool n,.slice a l c,.int .i64 e],.int .i64 mode,.agg #[.int .i64 53,.int .i64 (-1074),.int .i64 1024]] w fun r w'=>r=.returned (.tuple #[.float .f64 K,.int .i64 0])/\Below w.heap.size w w':=by
 obtain ⟨W1,hW1⟩:=ah ((w.alloc (.cells #[.bool n,.slice a l c,.int .i64 e] 25)).alloc (.cells #[.int .i64 53,.int .i64 (-1074),.int .i64 1024] 129));obtain ⟨hB,hz1,DD,DW⟩:=gJ w n (.slice a l c) e 53 (-1074) 1024 W1 hW1;have H1:=hid (HF.o W1 hB);have SB:=(aZ hB hz1 DW);clear hB hz1 DD DW HF;go_enter Tryz.func105,Tryz.ntmps105;go_wp2_with fail;rw [<-hW1];clear hW1;refine H1.o.mono ?_;rintro r u1 ⟨⟨v,rfl,hN⟩,hb⟩;obtain ⟨a1,c1,rfl,_⟩:=hN.arg af;obtain ⟨hB,hz1,DW⟩:=SB.o;obtain ⟨W2,hW2⟩:=ah (u1.alloc (.cells #[.bool false,.slice a1 (ws X).length c1,.int .i64 e1] 25));have hbW:Below u1.heap.size u1 W2:=by rw [hW2];exact ae u1 _
 have D2:Dk W2 u1.heap.size false (.slice a1 (ws X).length c1) e1:=by rw [hW2];exact Dk.new u1 _ _ _
 have V2:Wk W2 (w.heap.size+1) 53 (-1074) 1024:=(DW.below hb).below hbW;have hB2:Below w.heap.size w W2:=(hB.trans (hb.mono af)).trans (hbW.mono (by have:=hb.size;omega));have H2:=hid (HP.o W2 a1 c1 ((hN.below hbW).aU af).2);obtain ⟨x0,x1,x2,bE,bF,bG⟩:=D2.facts;obtain ⟨y0,y1,y2⟩:=V2.facts;obtain ⟨t0,t1,t2⟩:=(DW.below hb).facts;have hzu:w.heap.size+1<u1.heap.size:=by have:=hb.size;omega
 have hzz:w.heap.size<=u1.heap.size:=by have:=hb.size;omega
 have Jk:u1.heap.size<W2.heap.size:=D2.lt;have S2:=(aJ hB2 D2);clear hN hb H1 hB hz1 DW SB hbW D2 V2 hB2 HP;go_wp2_with fail;rw [<-hW2];clear hW2;refine H2.o.mono ?_;rintro r u2 ⟨rfl,hb⟩;obtain ⟨W3,hW3⟩:=ah (u2.alloc (.cells #[.int .u64 (F:Nat),.int .i64 ex,.bool false,.int .i64 mid] 165));have hbW:Below u2.heap.size u2 W3:=by rw [hW3];exact ae u2 _
 have P3:Pk W3 u2.heap.size (F:Nat) ex false mid:=by rw [hW3];exact ib _ _
 have D3:=(S2.o.2.below hb).below hbW;have hB3:Below w.heap.size w W3:=(S2.o.1.trans (hb.mono af)).trans (hbW.mono (by have:=hb.size;omega));have Vj:u1.heap.size<u2.heap.size:=by have:=hb.size;omega
 obtain ⟨q0,q1,q2,q3,yI,yJ,yK,QX⟩:=P3.facts;obtain ⟨d0,d1,d2,QY,QZ,df2⟩:=D3.facts;have Jl:w.heap.size<=u2.heap.size:=af
 have Xx:u2.heap.size<W3.heap.size:=P3.lt;have S3:=(aZ hB3 P3 D3);clear hb hbW P3 D3 hB3 S2 H2 x0 x1 x2 bE bF bG y0 y1 y2
 go_upto_region 7 with fail
 rw [<-hW3];clear hW3;go_wp2_with fail;refine (fP (HG.o _)) ?_;rintro r u3 ⟨rfl,hb⟩;have P4:=S3.o.2.1.below hb;have D4:=S3.o.r2.below hb;have hB4:Below w.heap.size w u3:=S3.o.1.trans (hb.mono af);have Xy:w.heap.size<=u3.heap.size:=by have:=hb.size;omega
 obtain ⟨r0,r1,r2,r3,gG,gH,gI,Wu⟩:=P4.facts;obtain ⟨s0,s1,s2,rX,rY,rZ⟩:=D4.facts;have S4:=ak hB4;clear hb P4 D4 hB4 S3 HG q0 q1 q2 q3 yI yJ yK QX d0 d1 d2 QY QZ df2;go_wp2_with fail
 try simp only [yM]
 refine (fP (HD.o _)) ?_;rintro r ww ⟨rfl,hw⟩;rw [hw];clear hw ww HD;go_wp2
 go_ret2
 exact ⟨rfl,Below.oh S4.o _ _ _ Jl Xy⟩
theorem JU {w:World}{a:Option Addr}{l c:Nat}(n:Bool) (e mode:Int) (X:Nat) (e1:Int) (lX:(ws X).length<=8192) (hX:((((ws X).length:Nat):Int)==0)=false) (hm0:0<=mode) (o9:mode<=4)
 (F cw K K2:Nat) (ex mid:Int) (hF:F<=9007199254740991) (yM:floatOfInt .f64 ((F:Int)+1)=cw)
 (HF:Hid (∀ u,Below w.heap.size w u->Calls Tryz.prog 125 #[.agg #[.bool n,.slice a l c,.int .i64 e]] u fun r w'=>(∃ v,r=.returned (.tuple #[.agg #[.bool true,v,.int .i64 e1],.int .i64 0])/\Nt u.heap.size w' v X)/\Below u.heap.size u w'))
 (HP:Hid (∀ (u:World) (p:Option Addr) (q:Nat),Arg u p (ws X).length q (ws X)->Calls Tryz.prog 145 #[.agg #[.bool true,.slice p (ws X).length q,.int .i64 e1],.agg #[.int .i64 53,.int .i64 (-1074),.int .i64 1024]] u fun r w'=>r=.returned (.agg #[.int .u64 (F:Nat),.int .i64 ex,.bool false,.int .i64 mid])/\Below u.heap.size u w'))
 (HG:Hid (∀ u,Calls Tryz.prog 146 #[.agg #[.int .u64 (F:Nat),.int .i64 ex,.bool false,.int .i64 mid],.int .i64 mode,.bool true] u fun r w'=>r=.returned (.bool true)/\Below u.heap.size u w'))
 (HD:Hid (∀ u,Calls Tryz.prog 147 #[.float .f64 cw,.int .i64 ex] u fun r w'=>r=.returned (.float .f64 K)/\w'=u))
 (HC:Hid (∀ u,Calls Tryz.prog 148 #[.float .f64 K,.float .f64 13830554455654793216] u fun r w'=>r=.returned (.float .f64 K2)/\w'=u)) :
 Calls Tryz.prog 105 #[.agg #[.bool n,.slice a l c,.int .i64 e],.int .i64 mode,.agg #[.int .i64 53,.int .i64 (-1074),.int .i64 1024]] w fun r w'=>r=.returned (.tuple #[.float .f64 K2,.int .i64 0])/\Below w.heap.size w w':=by
 obtain ⟨W1,hW1⟩:=ah ((w.alloc (.cells #[.bool n,.slice a l c,.int .i64 e] 25)).alloc (.cells #[.int .i64 53,.int .i64 (-1074),.int .i64 1024] 129));obtain ⟨hB,hz1,DD,DW⟩:=gJ w n (.slice a l c) e 53 (-1074) 1024 W1 hW1;have H1:=hid (HF.o W1 hB);have SB:=(aZ hB hz1 DW);clear hB hz1 DD DW HF;go_enter Tryz.func105,Tryz.ntmps105;go_wp2_with fail;rw [<-hW1];clear hW1;refine H1.o.mono ?_;rintro r u1 ⟨⟨v,rfl,hN⟩,hb⟩;obtain ⟨a1,c1,rfl,_⟩:=hN.arg af;obtain ⟨hB,hz1,DW⟩:=SB.o;obtain ⟨W2,hW2⟩:=ah (u1.alloc (.cells #[.bool true,.slice a1 (ws X).length c1,.int .i64 e1] 25));have hbW:Below u1.heap.size u1 W2:=by rw [hW2];exact ae u1 _
 have D2:Dk W2 u1.heap.size true (.slice a1 (ws X).length c1) e1:=by rw [hW2];exact Dk.new u1 _ _ _
 have V2:Wk W2 (w.heap.size+1) 53 (-1074) 1024:=(DW.below hb).below hbW;have hB2:Below w.heap.size w W2:=(hB.trans (hb.mono af)).trans (hbW.mono (by have:=hb.size;omega));have H2:=hid (HP.o W2 a1 c1 ((hN.below hbW).aU af).2);obtain ⟨x0,x1,x2,bE,bF,bG⟩:=D2.facts;obtain ⟨y0,y1,y2⟩:=V2.facts;obtain ⟨t0,t1,t2⟩:=(DW.below hb).facts;have hzu:w.heap.size+1<u1.heap.size:=by have:=hb.size;omega
 have hzz:w.heap.size<=u1.heap.size:=by have:=hb.size;omega
 have Jk:u1.heap.size<W2.heap.size:=D2.lt;have S2:=(aJ hB2 D2);clear hN hb H1 hB hz1 DW SB hbW D2 V2 hB2 HP;go_wp2_with fail;rw [<-hW2];clear hW2;refine H2.o.mono ?_;rintro r u2 ⟨rfl,hb⟩;obtain ⟨W3,hW3⟩:=ah (u2.alloc (.cells #[.int .u64 (F:Nat),.int .i64 ex,.bool false,.int .i64 mid] 165));have hbW:Below u2.heap.size u2 W3:=by rw [hW3];exact ae u2 _
 have P3:Pk W3 u2.heap.size (F:Nat) ex false mid:=by rw [hW3];exact ib _ _
 have D3:=(S2.o.2.below hb).below hbW;have hB3:Below w.heap.size w W3:=(S2.o.1.trans (hb.mono af)).trans (hbW.mono (by have:=hb.size;omega));have Vj:u1.heap.size<u2.heap.size:=by have:=hb.size;omega
 obtain ⟨q0,q1,q2,q3,yI,yJ,yK,QX⟩:=P3.facts;obtain ⟨d0,d1,d2,QY,QZ,df2⟩:=D3.facts;have Jl:w.heap.size<=u2.heap.size:=af
 have Xx:u2.heap.size<W3.heap.size:=P3.lt;have S3:=(aZ hB3 P3 D3);clear hb hbW P3 D3 hB3 S2 H2 x0 x1 x2 bE bF bG y0 y1 y2
 go_upto_region 7 with fail
 rw [<-hW3];clear hW3;go_wp2_with fail;refine (fP (HG.o _)) ?_;rintro r u3 ⟨rfl,hb⟩;have P4:=S3.o.2.1.below hb;have D4:=S3.o.r2.below hb;have hB4:Below w.heap.size w u3:=S3.o.1.trans (hb.mono af);have Xy:w.heap.size<=u3.heap.size:=by have:=hb.size;omega
 obtain ⟨r0,r1,r2,r3,gG,gH,gI,Wu⟩:=P4.facts;obtain ⟨s0,s1,s2,rX,rY,rZ⟩:=D4.facts;have S4:=ak hB4;clear hb P4 D4 hB4 S3 HG q0 q1 q2 q3 yI yJ yK QX d0 d1 d2 QY QZ df2;go_wp2_with fail
 try simp only [yM]
 refine (fP (HD.o _)) ?_;rintro r ww ⟨rfl,hw⟩;rw [hw];clear hw ww HD;go_wp2_with fail;refine (fP (HC.o _)) ?_;rintro r ww ⟨rfl,hw⟩;rw [hw];clear hw ww HC;go_wp2
 go_ret2
 exact ⟨rfl,Below.oh S4.o _ _ _ Jl Xy⟩
def Nw (mode:Int) (n:Bool) (X:Nat) (e:Int):Nat :=
 let p:=iP 53 (-1074) 1024 X e
 (p.2.1+1074).toNat*4503599627370496+(if p.2.2.1 then p.1 else if kW mode p.1 p.2.2.2 n then p.1+1 else p.1)
def gW (o:Option (Bool×Nat×Int)) (mode:Int):Nat×Int :=
 if mode<0\/4<mode then (0,1)
 else match o with
  | none=>(0,2)
  | some (n,X,e)=>if X=0 then (0,0) else (Nw mode n X e+(if n then 9223372036854775808 else 0),0)
theorem Q0 (X:Nat) (e:Int):(iP 53 (-1074) 1024 X e).2.2.2=-1\/(iP 53 (-1074) 1024 X e).2.2.2=0\/(iP 53 (-1074) 1024 X e).2.2.2=1:=by
 unfold iP
 split
 · simp
 · simp only
   split
   · simp
   · simp only
     split
     · simp
     · split <;> simp
theorem ql (F:Nat) (ex:Int) (hF:F<=9007199254740992) (h0:-1074<=ex) (h1:ex<=971) (hn:ex=-1074\/4503599627370496<=F) :
 ∃ cw,floatOfInt .f64 (F:Int)=cw/\∀ u,Calls Tryz.prog 147 #[.float .f64 cw,.int .i64 ex] u fun r w'=>r=.returned (.float .f64 ((ex+1074).toNat*4503599627370496+F))/\w'=u:=by
 by_cases hz:F=0
 · subst hz;obtain rfl:ex=-1074:=af
   exact ⟨0,au,fun u=>B.zX _ u⟩
 · obtain ⟨e,g,hw⟩:=B.Nl F af hF;exact ⟨_,B.Ci F e g hw,fun u=>B.JI F e g ex u hw af hF h0 h1 hn⟩
theorem sU (K:Nat) (hK:K<=9218868437227405312) (u:World):Calls Tryz.prog 148 #[.float .f64 K,.float .f64 13830554455654793216] u fun r w'=>r=.returned (.float .f64 (K+9223372036854775808))/\w'=u:=by
 have h:=B.zV (K/4503599627370496) (K%4503599627370496) af af u;have e1:B.bw false (K/4503599627370496) (K%4503599627370496)=K:=by unfold B.bw;simp;omega
 have e2:B.bw true (K/4503599627370496) (K%4503599627370496)=K+9223372036854775808:=by unfold B.bw;simp;omega
 rw [e1,e2] at h;exact h
theorem JV {w:World}{a:Option Addr}{l c:Nat}{xs:List Nat}(hA:Arg w a l c xs) (hT:dJ w) (n:Bool) (e mode:Int) (he0:-9223372036854775808<=e) (he1:e<=9223372036854775807) :
 Calls Tryz.prog 105 #[.agg #[.bool n,.slice a l c,.int .i64 e],.int .i64 mode,.agg #[.int .i64 53,.int .i64 (-1074),.int .i64 1024]] w fun r w'=>r=.returned (.tuple #[.float .f64 (gW (mkS n (val xs) e) mode).1,.int .i64 (gW (mkS n (val xs) e) mode).2])/\Below w.heap.size w w':=by
 unfold gW
 by_cases hm:mode<0\/4<mode
 · rw [if_pos hm];exact EI n a l c e mode w hm
 · rw [if_neg hm];have HF:Hid (∀ u,Below w.heap.size w u->Calls Tryz.prog 125 #[.agg #[.bool n,.slice a l c,.int .i64 e]] u fun r w'=>cK u.heap.size w' r (mkS n (val xs) e)/\Below u.heap.size u w'):=fun u hu=>kU (hA.below hu) (hT.belows hu) n e he0 he1
   cases ho:mkS n (val xs) e with
   | none =>
     rw [ho] at HF;exact JO n e mode false 0 0 2 (by rw [bI];simp) af af rfl HF
   | some d =>
     obtain ⟨n1,X,e1⟩:=d;rw [ho] at HF;have FX:=bM ho;simp only
     by_cases hX:X=0
     · rw [if_pos hX];exact EJ n e mode n1 X e1 ((bz X).2 hX) af af HF
     · rw [if_neg hX];have pf:=sS X e1 hX FX.down FX.up;have pm:=Q0 X e1;have HP:∀ (u:World) (p:Option Addr) (q:Nat),Arg u p (ws X).length q (ws X)->Calls Tryz.prog 145 #[.agg #[.bool n1,.slice p (ws X).length q,.int .i64 e1],.agg #[.int .i64 53,.int .i64 (-1074),.int .i64 1024]] u fun r w'=>r=.returned (.agg #[.int .u64 ((iP 53 (-1074) 1024 X e1).1:Nat),.int .i64 (iP 53 (-1074) 1024 X e1).2.1,.bool (iP 53 (-1074) 1024 X e1).2.2.1,.int .i64 (iP 53 (-1074) 1024 X e1).2.2.2])/\Below u.heap.size u w':=fun u p q hA=>EH hA n1 e1 FX.down FX.up hX FX.size;unfold Nw;simp only;generalize iP 53 (-1074) 1024 X e1=P at pf pm HP |-;obtain ⟨F,ex,t,mid⟩:=P;simp only at pf pm HP |-;obtain ⟨p1,p2,p3,p4⟩:=pf;have HG:∀ u,Calls Tryz.prog 146 #[.agg #[.int .u64 (F:Nat),.int .i64 ex,.bool false,.int .i64 mid],.int .i64 mode,.bool n1] u fun r w'=>r=.returned (.bool (kW mode F mid n1))/\Below u.heap.size u w':=fun u=>Cn F ex false mid mode n1 u af pm af af;have lX:=dH FX
       cases t with
       | true =>
         simp only [if_true];obtain ⟨cw,yM,HD⟩:=ql F ex af p2 p3 p4
         cases n1 with
         | false =>
           simp only [fq,if_false,gM];exact Nu n e mode X e1 lX (dD hX) af af F cw _ 0 ex mid p1 yM HF (hid HP) (hid HD)
         | true =>
           simp only [if_true];exact Nv n e mode X e1 lX (dD hX) af af F cw _ _ ex mid p1 yM HF (hid HP) (hid HD) (hid fun u=>sU _ af u)
       | false =>
         simp only [fq,if_false]
         cases Wv:kW mode F mid n1 with
         | false =>
           rw [Wv] at HG;simp only [fq,if_false];obtain ⟨cw,yM,HD⟩:=ql F ex af p2 p3 p4
           cases n1 with
           | false =>
             simp only [fq,if_false,gM];exact JP n e mode X e1 lX (dD hX) af af F cw _ 0 ex mid p1 yM HF (hid HP) (hid HG) (hid HD)
           | true =>
             simp only [if_true];exact JQ n e mode X e1 lX (dD hX) af af F cw _ _ ex mid p1 yM HF (hid HP) (hid HG) (hid HD) (hid fun u=>sU _ af u)
         | true =>
           rw [Wv] at HG;simp only [if_true];obtain ⟨cw,yM,HD⟩:=ql (F+1) ex af p2 p3 af
           cases n1 with
           | false =>
             simp only [fq,if_false,gM];exact JS n e mode X e1 lX (dD hX) af af F cw _ 0 ex mid p1 (by simpa using yM) HF (hid HP) (hid HG) (hid HD)
           | true =>
             simp only [if_true];exact JU n e mode X e1 lX (dD hX) af af F cw _ _ ex mid p1 (by simpa using yM) HF (hid HP) (hid HG) (hid HD) (hid fun u=>sU _ af u)
theorem yN {w:World}{a:Option Addr}{l c:Nat}{xs:List Nat}(hA:Arg w a l c xs) (hT:dJ w) (n:Bool) (e mode:Int) (he0:-9223372036854775808<=e) (he1:e<=9223372036854775807) :
 Calls Tryz.prog 60 #[.agg #[.bool n,.slice a l c,.int .i64 e],.int .i64 mode] w fun r w'=>r=.returned (.tuple #[.float .f64 (gW (mkS n (val xs) e) mode).1,.int .i64 (gW (mkS n (val xs) e) mode).2])/\Below w.heap.size w w':=by
 have hb0:=ae w (.cells #[.bool n,.slice a l c,.int .i64 e] 25);have H:=hid (JV (hA.below hb0) (hT.belows hb0) n e mode he0 he1);have S0:=ak hb0;obtain ⟨⟨K,er⟩,hK⟩:∃ K,gW (mkS n (val xs) e) mode=K:=⟨_,rfl⟩;rw [hK] at H |-;simp only at H |-;clear hA hT hb0 hK;go_enter Tryz.func60,Tryz.ntmps60;go_wp2_with fail;refine H.o.mono ?_;rintro r u1 ⟨rfl,hb⟩;have S1:=ak hb;clear hb;go_wp2
 go_ret2
 exact ⟨rfl,S0.o.trans (S1.o.mono aO)⟩
theorem z8 (W:World) (g:Nat) (n:Bool) (v:Value) (e k:Int) (tmps:Array Value) (ht:tmps[4]?.getD undef=.pointer (some ⟨g,0,none⟩)) (hk:tmps[5]?.getD undef=.int .i64 k) (D:Dk W g n v e) :
 (results Tryz.f56 tmps).run Tryz.prog W=.ok (.tuple #[.agg #[.bool n,v,.int .i64 e],.int .i64 k]) W:=by
 obtain ⟨x0,x1,x2,bE,bF,bG⟩:=D.facts;simp [results,Tryz.results56,ht,hk,go_sem,x0,x1,x2]
theorem G6 {w:World}{a b:Option Addr}{l c k d:Nat}(n m:Bool) (e f:Int) (kV:Hid (∀ u,Below w.heap.size w u->Calls Tryz.prog 98 #[.agg #[.bool n,.slice a l c,.int .i64 e],.agg #[.bool m,.slice b k d,.int .i64 f]] u fun r w'=>r=.returned (.tuple #[.agg #[.bool false,.slice none 0 0,.int .i64 0],.agg #[.bool false,.slice none 0 0,.int .i64 0],.int .i64 2])/\Below u.heap.size u w')):Calls Tryz.prog 56 #[.agg #[.bool n,.slice a l c,.int .i64 e],.agg #[.bool m,.slice b k d,.int .i64 f]] w fun r w'=>r=.returned (.tuple #[.agg #[.bool false,.slice none 0 0,.int .i64 0],.int .i64 2])/\Below w.heap.size w w':=by
 obtain ⟨W1,hW1⟩:=ah (((w.alloc (.cells #[.bool n,.slice a l c,.int .i64 e] 25)).alloc (.cells #[.bool m,.slice b k d,.int .i64 f] 25)).alloc (.cells #[.bool false,.slice none 0 0,.int .i64 0] 25));obtain ⟨hB,hz1,DA,DB,DR⟩:=aV w n m (.slice a l c) (.slice b k d) e f W1 hW1;have H1:=hid (kV.o W1 hB);have SB:=(eu hB hz1 DA DB DR);clear hB hz1 DA DB DR kV;go_enter Tryz.func56,Tryz.ntmps56;go_wp2_with fail;rw [<-hW1];clear hW1;refine H1.o.mono ?_;rintro r u1 ⟨rfl,hb⟩;obtain ⟨hB,hz1,DA,DB,DR⟩:=SB.o;have EA:=DA.below hb;have EB:=DB.below hb;have ER:=DR.below hb;obtain ⟨x0,x1,x2,bE,bF,bG⟩:=EA.facts;obtain ⟨y0,y1,y2,bN,bO,bU⟩:=EB.facts;obtain ⟨r0,r1,r2,gG,gH,gI⟩:=ER.facts;have F1:=ak (show Fin w.heap.size (w.heap.size+3) w u1 (.slice none 0 0) 0 from ⟨Nt.nil _ _,hB.trans (hb.mono af),by have:=hb.size;omega⟩);have SE:=ak ER;clear hb H1 hB hz1 DA DB DR EA EB ER SB;go_wp2;refine aF (z8 _ (w.heap.size+1+1) false (.slice none 0 0) 0 2 _ rfl rfl (((SE.o.other _ af _ _ _).other _ af _ _ _).set _ _ _)) rfl ⟨rfl,?_⟩;refine Fin.aB (m:=w.heap.size+3) (v:=.slice none 0 0) (X:=0) ?_
 repeat (with_reducible first | exact F1.o | refine Fin.drew ?_ | refine Fin.alloc ?_ _ | refine Fin.set ?_ _ _ _ af af)
theorem Ny {w:World}{a b:Option Addr}{l c k d:Nat}(n m:Bool) (e f:Int) (n1 m1:Bool) (X Y:Nat) (e1 f1:Int) (lX:(ws X).length<=8192) (lY:(ws Y).length<=8192) (Jt:-1048576<=e1) (Ju:e1<=1048576) (Jv:-1048576<=f1) (Jw:f1<=1048576)
 (kV:Hid (∀ u,Below w.heap.size w u->Calls Tryz.prog 98 #[.agg #[.bool n,.slice a l c,.int .i64 e],.agg #[.bool m,.slice b k d,.int .i64 f]] u fun r w'=>∃ v v',r=.returned (.tuple #[.agg #[.bool n1,v,.int .i64 e1],.agg #[.bool m1,v',.int .i64 f1],.int .i64 0])/\Nt u.heap.size w' v X/\Nt u.heap.size w' v' Y/\Below u.heap.size u w'))
 (qj:Hid (∀ (u:World) (p:Option Addr) (q:Nat) (p2:Option Addr) (q2:Nat),Below w.heap.size w u->Arg u p (ws X).length q (ws X)->Arg u p2 (ws Y).length q2 (ws Y)->Calls Tryz.prog 99 #[.slice p (ws X).length q,.slice p2 (ws Y).length q2] u fun r w'=>∃ v,r=.returned (.tuple #[v,.int .i64 2])/\Nt u.heap.size w' v 0/\Below u.heap.size u w')):Calls Tryz.prog 56 #[.agg #[.bool n,.slice a l c,.int .i64 e],.agg #[.bool m,.slice b k d,.int .i64 f]] w fun r w'=>r=.returned (.tuple #[.agg #[.bool false,.slice none 0 0,.int .i64 0],.int .i64 2])/\Below w.heap.size w w':=by
 have l0:(ws 0).length=0:=by rw [bI];rfl
 obtain ⟨W1,hW1⟩:=ah (((w.alloc (.cells #[.bool n,.slice a l c,.int .i64 e] 25)).alloc (.cells #[.bool m,.slice b k d,.int .i64 f] 25)).alloc (.cells #[.bool false,.slice none 0 0,.int .i64 0] 25));obtain ⟨hB,hz1,DA,DB,DR⟩:=aV w n m (.slice a l c) (.slice b k d) e f W1 hW1;have H1:=hid (kV.o W1 hB);have SB:=(eu hB hz1 DA DB DR);clear hB hz1 DA DB DR kV;go_enter Tryz.func56,Tryz.ntmps56;go_wp2_with fail;rw [<-hW1];clear hW1;refine H1.o.mono ?_;rintro r u1 ⟨v,v',rfl,hN,hM,hb⟩;obtain ⟨a1,c1,rfl,_⟩:=hN.arg af;obtain ⟨a2,c2,rfl,_⟩:=hM.arg af;obtain ⟨hB,hz1,DA,DB,DR⟩:=SB.o;have EA:=DA.below hb;have EB:=DB.below hb;have ER:=DR.below hb;obtain ⟨x0,x1,x2,bE,bF,bG⟩:=EA.facts;obtain ⟨y0,y1,y2,bN,bO,bU⟩:=EB.facts;obtain ⟨r0,r1,r2,gG,gH,gI⟩:=ER.facts;have FX:=ak (show Fin w.heap.size (w.heap.size+3) w u1 (.slice a1 (ws X).length c1) X from ⟨by rw [<-hz1];exact hN,hB.trans (hb.mono af),by have:=hb.size;omega⟩);have FY:=ak (show Fin w.heap.size (w.heap.size+3) w u1 (.slice a2 (ws Y).length c2) Y from ⟨by rw [<-hz1];exact hM,hB.trans (hb.mono af),by have:=hb.size;omega⟩);have SE:=(aZ EA EB ER);clear hN hM hb H1 hB hz1 DA DB DR EA EB ER SB;obtain ⟨EA,EB,ER⟩:=SE.o;obtain ⟨U1,aS⟩:=ah (cZ (cZ u1 w.heap.size (.bool n1) (.slice a1 (ws X).length c1) (.int .i64 e1)) (w.heap.size+1) (.bool m1) (.slice a2 (ws Y).length c2) (.int .i64 f1));have IA:Dk U1 w.heap.size n1 (.slice a1 (ws X).length c1) e1:=by rw [aS];exact ((EA.set _ _ _).other _ af _ _ _)
 have IB:Dk U1 (w.heap.size+1) m1 (.slice a2 (ws Y).length c2) f1:=by rw [aS];exact ((EB.other _ af _ _ _).set _ _ _)
 have IR:Dk U1 (w.heap.size+1+1) false (.slice none 0 0) 0:=by rw [aS];exact ((ER.other _ af _ _ _).other _ af _ _ _)
 have GX:Fin w.heap.size (w.heap.size+3) w U1 (.slice a1 (ws X).length c1) X:=by rw [aS];exact (Fin.cZ (Fin.cZ FX.o _ _ _ _ af af) _ _ _ _ af af)
 have GY:Fin w.heap.size (w.heap.size+3) w U1 (.slice a2 (ws Y).length c2) Y:=by rw [aS];exact (Fin.cZ (Fin.cZ FY.o _ _ _ _ af af) _ _ _ _ af af)
 have H2:=hid (qj.o U1 a1 c1 a2 c2 GX.aB (GX.nt.aU af).2 (GY.nt.aU af).2);have S1:=(eu IA IB IR GX GY);have Vk:w.heap.size+3<=U1.heap.size:=by have:=IR.lt;omega
 clear EA EB ER IA IB IR GX GY SE qj;unfold cZ at aS;go_wp2_with fail;rw [<-aS];clear aS x0 x1 x2 bE bF bG y0 y1 y2 bN bO bU r0 r1 r2 gG gH gI;refine H2.o.mono ?_;rintro r u2 ⟨v,rfl,hN,hb⟩;obtain ⟨a3,c3,rfl,_⟩:=hN.arg af;obtain ⟨IA,IB,IR,GX,GY⟩:=S1.o;obtain ⟨x0,x1,x2,bE,bF,bG⟩:=(IA.below hb).facts;obtain ⟨y0,y1,y2,bN,bO,bU⟩:=(IB.below hb).facts;obtain ⟨r0,r1,r2,gG,gH,gI⟩:=(IR.below hb).facts;have S2:=(aJ (IR.below hb) ((GX.below hb)));clear hN hb H2 S1 IA IB IR GX GY;go_wp2;refine aF (z8 _ (w.heap.size+1+1) false (.slice none 0 0) 0 2 _ rfl rfl (S2.o.1.set _ _ _)) rfl ⟨rfl,?_⟩;refine Fin.aB (m:=w.heap.size+3) (v:=.slice a1 (ws X).length c1) (X:=X) ?_
 repeat (with_reducible first | exact S2.o.2 | refine Fin.drew ?_ | refine Fin.alloc ?_ _ | refine Fin.set ?_ _ _ _ af af)
theorem Vp {w:World}{a b:Option Addr}{l c k d:Nat}(n m:Bool) (e f:Int) (n1 m1:Bool) (X Y:Nat) (e1 f1:Int) (lX:(ws X).length<=8192) (lY:(ws Y).length<=8192) (Jt:-1048576<=e1) (Ju:e1<=1048576) (Jv:-1048576<=f1) (Jw:f1<=1048576)
 (kV:Hid (∀ u,Below w.heap.size w u->Calls Tryz.prog 98 #[.agg #[.bool n,.slice a l c,.int .i64 e],.agg #[.bool m,.slice b k d,.int .i64 f]] u fun r w'=>∃ v v',r=.returned (.tuple #[.agg #[.bool n1,v,.int .i64 e1],.agg #[.bool m1,v',.int .i64 f1],.int .i64 0])/\Nt u.heap.size w' v X/\Nt u.heap.size w' v' Y/\Below u.heap.size u w')) (L:Nat) (lL:(ws L).length<=8192) (dn:Bool) (V:Nat) (de er:Int) (lV:(ws V).length<=8192)
 (qj:Hid (∀ (u:World) (p:Option Addr) (q:Nat) (p2:Option Addr) (q2:Nat),Below w.heap.size w u->Arg u p (ws X).length q (ws X)->Arg u p2 (ws Y).length q2 (ws Y)->Calls Tryz.prog 99 #[.slice p (ws X).length q,.slice p2 (ws Y).length q2] u fun r w'=>∃ v,r=.returned (.tuple #[v,.int .i64 0])/\Nt u.heap.size w' v L/\Below u.heap.size u w'))
 (HT:Hid (∀ (u:World) (p:Option Addr) (s:Nat),Below w.heap.size w u->Arg u p (ws L).length s (ws L)->Calls Tryz.prog 90 #[.bool (n1 != m1),.slice p (ws L).length s,.int .i64 (e1+f1)] u fun r w'=>(∃ v,r=.returned (.tuple #[.agg #[.bool dn,v,.int .i64 de],.int .i64 er])/\Nt u.heap.size w' v V)/\Below u.heap.size u w')):Calls Tryz.prog 56 #[.agg #[.bool n,.slice a l c,.int .i64 e],.agg #[.bool m,.slice b k d,.int .i64 f]] w fun r w'=>(∃ v,r=.returned (.tuple #[.agg #[.bool dn,v,.int .i64 de],.int .i64 er])/\Nt w.heap.size w' v V)/\Below w.heap.size w w':=by
 obtain ⟨W1,hW1⟩:=ah (((w.alloc (.cells #[.bool n,.slice a l c,.int .i64 e] 25)).alloc (.cells #[.bool m,.slice b k d,.int .i64 f] 25)).alloc (.cells #[.bool false,.slice none 0 0,.int .i64 0] 25));obtain ⟨hB,hz1,DA,DB,DR⟩:=aV w n m (.slice a l c) (.slice b k d) e f W1 hW1;have H1:=hid (kV.o W1 hB);have SB:=(eu hB hz1 DA DB DR);clear hB hz1 DA DB DR kV;go_enter Tryz.func56,Tryz.ntmps56;go_wp2_with fail;rw [<-hW1];clear hW1;refine H1.o.mono ?_;rintro r u1 ⟨v,v',rfl,hN,hM,hb⟩;obtain ⟨a1,c1,rfl,_⟩:=hN.arg af;obtain ⟨a2,c2,rfl,_⟩:=hM.arg af;obtain ⟨hB,hz1,DA,DB,DR⟩:=SB.o;have EA:=DA.below hb;have EB:=DB.below hb;have ER:=DR.below hb;obtain ⟨x0,x1,x2,bE,bF,bG⟩:=EA.facts;obtain ⟨y0,y1,y2,bN,bO,bU⟩:=EB.facts;obtain ⟨r0,r1,r2,gG,gH,gI⟩:=ER.facts;have FX:=ak (show Fin w.heap.size (w.heap.size+3) w u1 (.slice a1 (ws X).length c1) X from ⟨by rw [<-hz1];exact hN,hB.trans (hb.mono af),by have:=hb.size;omega⟩);have FY:=ak (show Fin w.heap.size (w.heap.size+3) w u1 (.slice a2 (ws Y).length c2) Y from ⟨by rw [<-hz1];exact hM,hB.trans (hb.mono af),by have:=hb.size;omega⟩);have SE:=(aZ EA EB ER);clear hN hM hb H1 hB hz1 DA DB DR EA EB ER SB;obtain ⟨EA,EB,ER⟩:=SE.o;obtain ⟨U1,aS⟩:=ah (cZ (cZ u1 w.heap.size (.bool n1) (.slice a1 (ws X).length c1) (.int .i64 e1)) (w.heap.size+1) (.bool m1) (.slice a2 (ws Y).length c2) (.int .i64 f1));have IA:Dk U1 w.heap.size n1 (.slice a1 (ws X).length c1) e1:=by rw [aS];exact ((EA.set _ _ _).other _ af _ _ _)
 have IB:Dk U1 (w.heap.size+1) m1 (.slice a2 (ws Y).length c2) f1:=by rw [aS];exact ((EB.other _ af _ _ _).set _ _ _)
 have IR:Dk U1 (w.heap.size+1+1) false (.slice none 0 0) 0:=by rw [aS];exact ((ER.other _ af _ _ _).other _ af _ _ _)
 have GX:Fin w.heap.size (w.heap.size+3) w U1 (.slice a1 (ws X).length c1) X:=by rw [aS];exact (Fin.cZ (Fin.cZ FX.o _ _ _ _ af af) _ _ _ _ af af)
 have GY:Fin w.heap.size (w.heap.size+3) w U1 (.slice a2 (ws Y).length c2) Y:=by rw [aS];exact (Fin.cZ (Fin.cZ FY.o _ _ _ _ af af) _ _ _ _ af af)
 have H2:=hid (qj.o U1 a1 c1 a2 c2 GX.aB (GX.nt.aU af).2 (GY.nt.aU af).2);have S1:=(eu IA IB IR GX GY);have Vk:w.heap.size+3<=U1.heap.size:=by have:=IR.lt;omega
 clear EA EB ER IA IB IR GX GY SE qj;unfold cZ at aS;go_wp2_with fail;rw [<-aS];clear aS x0 x1 x2 bE bF bG y0 y1 y2 bN bO bU r0 r1 r2 gG gH gI;refine H2.o.mono ?_;rintro r u2 ⟨v,rfl,hN,hb⟩;obtain ⟨a3,c3,rfl,_⟩:=hN.arg af;obtain ⟨IA,IB,IR,GX,GY⟩:=S1.o;obtain ⟨x0,x1,x2,bE,bF,bG⟩:=(IA.below hb).facts;obtain ⟨y0,y1,y2,bN,bO,bU⟩:=(IB.below hb).facts;obtain ⟨r0,r1,r2,gG,gH,gI⟩:=(IR.below hb).facts;have H3:=hid (HT.o u2 a3 c3 (GX.below hb).aB (hN.aU af).2);have S2:=(aJ (IR.below hb) ((GX.below hb)));have hz2:w.heap.size+3<=u2.heap.size:=by have:=hb.size;omega
 clear hN hb H2 S1 IA IB IR GX GY HT;go_wp2_with fail;refine H3.o.mono ?_;rintro r u3 ⟨⟨v,rfl,hN⟩,hb⟩;obtain ⟨a4,c4,rfl,_⟩:=hN.arg af;have IR:=S2.o.1.below hb;obtain ⟨s0,s1,s2,rX,rY,rZ⟩:=IR.facts;have FV:=ak (show Fin w.heap.size (w.heap.size+3) w u3 (.slice a4 (ws V).length c4) V from ⟨hN.mono hz2,(S2.o.2.below hb).aB,by have:=hb.size;omega⟩);have S3:=ak IR;clear hN hb IR H3 S2;go_wp2;refine aF (z8 _ (w.heap.size+1+1) dn (.slice a4 (ws V).length c4) de er _ rfl rfl (S3.o.set _ _ _)) rfl ?_;refine Fin.jT (m:=w.heap.size+3) ?_ af
 repeat (with_reducible first | exact FV.o | refine Fin.drew ?_ | refine Fin.alloc ?_ _ | refine Fin.set ?_ _ _ _ af af)
def Q3 (x y:Bool×Nat×Int):Option (Bool×Nat×Int):=mkS (x.1 != y.1) (x.2.1*y.2.1) (x.2.2+y.2.2)
def dK (o p:Option (Bool×Nat×Int)):Option (Bool×Nat×Int) :=
 match o,p with
 | some x,some y=>Q3 x y
 | _,_=>none
theorem G7 {w:World}{p q:Option Addr}{s t X Y:Nat}(L:Nat) (er:Int) (hA:Arg w p (ws X).length s (ws X)) (hB:Arg w q (ws Y).length t (ws Y)) (h:jR X Y=(L,er)) :
 Calls Tryz.prog 99 #[.slice p (ws X).length s,.slice q (ws Y).length t] w fun r w'=>∃ v,r=.returned (.tuple #[v,.int .i64 er])/\Nt w.heap.size w' v L/\Below w.heap.size w w':=by
 have:=Gx (ws X) (ws Y) p q (ws X).length s (ws Y).length t w.heap.size w hA.len hB.len hA.cap hB.cap (by have:=hA.big;omega) (by have:=hB.big;omega) hA.wf hB.wf hA.rd hB.rd (aC _);rw [aj,aj,h] at this;exact this.mono fun r w' ⟨⟨v,h1,h2⟩,h3⟩=>⟨v,h1,h2,h3⟩
theorem G8 {X:Nat}(h:X%2=1):lo X=0:=by
 have:=Gq 0 (X/2);rw [show 2^0*(2*(X/2)+1)=X by omega] at this;exact this
theorem wG {w:World}{a b:Option Addr}{l c k d:Nat}{xs ys:List Nat}(h1:Arg w a l c xs) (h2:Arg w b k d ys) (hT:dJ w) (n m:Bool) (e f:Int) (he0:-9223372036854775808<=e) (he1:e<=9223372036854775807) (hf0:-9223372036854775808<=f) (hf1:f<=9223372036854775807) :
 Calls Tryz.prog 56 #[.agg #[.bool n,.slice a l c,.int .i64 e],.agg #[.bool m,.slice b k d,.int .i64 f]] w fun r w'=>cK w.heap.size w' r (dK (mkS n (val xs) e) (mkS m (val ys) f))/\Below w.heap.size w w':=by
 have zero:∀ {r:Ending} {w':World},(r=.returned (.tuple #[.agg #[.bool false,.slice none 0 0,.int .i64 0],.int .i64 2])/\Below w.heap.size w w')->cK w.heap.size w' r none/\Below w.heap.size w w':=fun ⟨h1,h2⟩=>⟨⟨_,h1,Nt.nil _ _⟩,h2⟩
 cases hx:mkS n (val xs) e with
 | none =>
   exact (G6 n m e f (hid fun u hu=>wz (h1.below hu) (h2.below hu) (hT.belows hu) n m e f he0 he1 hf0 hf1 hx)).mono fun r w' h=>zero h
 | some x =>
   obtain ⟨n1,X,e1⟩:=x
   cases hy:mkS m (val ys) f with
   | none =>
     exact (G6 n m e f (hid fun u hu=>wB (h1.below hu) (h2.below hu) (hT.belows hu) n m e f he0 he1 hf0 hf1 n1 X e1 hx hy)).mono fun r w' h=>zero h
   | some y =>
     obtain ⟨m1,Y,f1⟩:=y;have kV:=hid fun u (hu:Below w.heap.size w u)=>Cf (h1.below hu) (h2.below hu) (hT.belows hu) n m e f he0 he1 hf0 hf1 n1 m1 X Y e1 f1 hx hy;have FX:=bM hx;have FY:=bM hy;have lX:=dH FX;have lY:=dH FY;have:=FX.up;have:=FX.down;have:=FY.up;have:=FY.down;show Calls _ _ _ _ fun r w'=>cK w.heap.size w' r (mkS (n1 != m1) (X*Y) (e1+f1))/\_
     by_cases hL:LG (X*Y)
     · have hs:jR X Y=(0,2):=by unfold jR;rw [if_neg (by intro h;rcases h with h | h;exact lJ FX.size h;exact lJ FY.size h),if_pos hL]
       have hno:mkS (n1 != m1) (X*Y) (e1+f1)=none:=by
        have hb:=(uk _).1 hL;have h0:X*Y≠0:=by intro h;rw [h,dG] at hb;omega
        have oX:X%2=1:=by rcases FX.odd with h | h;exact h;rw [h.1,eQ] at h0;exact absurd rfl h0
        have oY:Y%2=1:=by rcases FY.odd with h | h;exact h;rw [h.1,nG] at h0;exact absurd rfl h0
        have hlo:lo (X*Y)=0:=G8 (by rw [Nat.mul_mod,oX,oY]);unfold mkS;rw [if_neg h0,if_pos (.inl (by rw [hlo];omega))]
       rw [hno];exact (Ny n m e f n1 m1 X Y e1 f1 lX lY af af af af kV (hid fun u p q p2 q2 hu hA hB=>G7 0 2 hA hB hs)).mono fun r w' h=>zero h
     · have hs:jR X Y=(X*Y,0):=by unfold jR;rw [if_neg (by intro h;rcases h with h | h;exact lJ FX.size h;exact lJ FY.size h),if_neg hL]
       obtain ⟨L,TY⟩:∃ L,X*Y=L:=⟨_,rfl⟩;rw [TY] at hs hL |-;have lL:(ws L).length<=8192:=by unfold LG at hL;omega
       exact Vp n m e f n1 m1 X Y e1 f1 lX lY af af af af kV L lL _ _ _ _ (aM (n1 != m1) L (e1+f1)) (hid fun u p q p2 q2 hu hA hB=>G7 L 0 hA hB hs)
        (hid fun u p s hu hA=>by have:=gU hA (hT.belows hu) (n1 != m1) (e1+f1) af af;rw [aj] at this;exact this)
end
end Go.Proofs.YtfmfhehbdfhnbaaGreatDoor
