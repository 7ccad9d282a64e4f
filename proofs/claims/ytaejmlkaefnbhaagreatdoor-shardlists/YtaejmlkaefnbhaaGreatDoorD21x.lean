import Derived.Test.YtaejmlkaefnbhaaGreatDoorD16x
import Derived.Deep.Cut
import Derived.Test.YtaejmlkaefnbhaaGreatDoorS11ax
import Derived.Test.YtaejmlkaefnbhaaGreatDoorBIeeex
import Derived.Test.YtaejmlkaefnbhaaGreatDoorM1x
import Ieee.Arith
set_option linter.unusedVariables false
set_option linter.unusedSimpArgs false
set_option maxHeartbeats 16000000
set_option maxRecDepth 20000
namespace Go.Proofs.YtaejmlkaefnbhaaGreatDoor
section
open Go.RowKit
def Pk(w:World)(g:Nat)(f:Int)(e:Int)(t:Bool)(m:Int):Prop:=w.heap[g]?=some (.cells #[.int .u64 f,.int .i64 e,.bool t,.int .i64 m] 212 (0,0))
theorem Pk.lt{w:World}{g:Nat}{f e:Int}{t:Bool}{m:Int}(h:Pk w g f e t m):g<w.heap.size:=(fG.1 h).1
theorem Pk.below{w w':World}{g:Nat}{f e:Int}{t:Bool}{m:Int}(h:Pk w g f e t m)(hb:Below w.heap.size w w'):Pk w' g f e t m:=by
 unfold Pk;rw[hb.block g h.lt];exact h
theorem Pk.facts{w:World}{g:Nat}{f e:Int}{t:Bool}{m:Int}(h:Pk w g f e t m) :
 w.cell? ⟨g,0,none⟩=some (.int .u64 f)/\w.cell? ⟨g,1,none⟩=some (.int .i64 e)/\w.cell? ⟨g,2,none⟩=some (.bool t)/\w.cell? ⟨g,3,none⟩=some (.int .i64 m) /\
 w.frozen? ⟨g,0,none⟩=false/\w.frozen? ⟨g,1,none⟩=false/\w.frozen? ⟨g,2,none⟩=false/\w.frozen? ⟨g,3,none⟩=false:=by
 unfold Pk at h;simp[World.cell?,World.frozen?,h]
def Wk(w:World)(g:Nat)(a b c:Int):Prop:=w.heap[g]?=some (.cells #[.int .i64 a,.int .i64 b,.int .i64 c] 145 (0,0))
theorem Wk.facts{w:World}{g:Nat}{a b c:Int}(h:Wk w g a b c):w.cell? ⟨g,0,none⟩=some (.int .i64 a)/\w.cell? ⟨g,1,none⟩=some (.int .i64 b)/\w.cell? ⟨g,2,none⟩=some (.int .i64 c):=by
 unfold Wk at h;simp[World.cell?,h]
theorem kI(w:World)(n:Bool)(v:Value)(e a b c:Int)(W:World)(hW:W=((w.alloc (.cells #[.bool n,v,.int .i64 e] 77)).alloc (.cells #[.int .i64 a,.int .i64 b,.int .i64 c] 145)).alloc (.cells #[.int .u64 0,.int .i64 0,.bool false,.int .i64 0] 212)) :
 Below w.heap.size w W/\W.heap.size=w.heap.size+3/\Dk W w.heap.size n v e/\Wk W (w.heap.size+1) a b c/\Pk W (w.heap.size+1+1) 0 0 false 0:=by
 subst hW;refine⟨((ag w _).alloc aL _).alloc (by simp;omega) _,aL,((Dk.new w n v e).alloc _).alloc _,?_,?_⟩
 · unfold Wk;rw[Below.heap_alloc _ _ _ aL];have:=jC (w.alloc (.cells #[.bool n,v,.int .i64 e] 77)) (.cells #[.int .i64 a,.int .i64 b,.int .i64 c] 145);simpa using this
 · have:=jC ((w.alloc (.cells #[.bool n,v,.int .i64 e] 77)).alloc (.cells #[.int .i64 a,.int .i64 b,.int .i64 c] 145)) (.cells #[.int .u64 0,.int .i64 0,.bool false,.int .i64 0] 212);unfold Pk;simpa using this
def wC(dg:Nat)(least top:Int)(X:Nat)(e:Int):Nat×Int×Bool×Int :=
 if top<e+bl X then(2^dg-1,top-dg,false,1)
 else
  let ex:=max (e+bl X-dg) least
  let off:=ex-e
  if off<=0 then(X*2^(-off).toNat,ex,true,-1)
  else(X/2^off.toNat,ex,false,if off=1 then 0 else if X/2^(off-1).toNat%2=1 then 1 else -1)
abbrev st4(w:World)(g:Nat)(x y z t:Value):World:=(((w.setCell ⟨g,0,none⟩ x).setCell ⟨g,1,none⟩ y).setCell ⟨g,2,none⟩ z).setCell ⟨g,3,none⟩ t
theorem Pk.set{w:World}{g:Nat}{f e:Int}{t:Bool}{m:Int}(h:Pk w g f e t m)(f' e':Int)(t':Bool)(m':Int):Pk (st4 w g (.int .u64 f') (.int .i64 e') (.bool t') (.int .i64 m')) g f' e' t' m':=by
 unfold Pk at h |-;simp[st4,World.setCell,iA,h]
theorem Pk.drew{w:World}{g:Nat}{f e:Int}{t:Bool}{m:Int}(h:Pk w g f e t m):Pk w.drew g f e t m:=h
theorem Pk.alloc{w:World}{g:Nat}{f e:Int}{t:Bool}{m:Int}(h:Pk w g f e t m)(o:Obj):Pk (w.alloc o) g f e t m:=h.below (ag w o)
theorem nA(W:World)(g:Nat)(f e:Int)(t:Bool)(m:Int)(tmps:Array Value)(ht:tmps[4]?.getD undef=.pointer (some ⟨g,0,none⟩))(D:Pk W g f e t m) :
 (results Tryz.f189 tmps).run Tryz.prog W=.ok (.agg #[.int .u64 f,.int .i64 e,.bool t,.int .i64 m]) W:=by
 obtain⟨x0,x1,x2,x3,dB,dC,dD,xf3⟩:=D.facts;simp[results,Tryz.results189,ht,go_sem,x0,x1,x2,x3]
theorem Dn {w:World}{a:Option Addr}{l c:Nat}(n:Bool) (X:Nat) (e:Int) (b:Nat) (he0:-1048576<=e) (he1:e<=1048576) (hb:b<=262144) (hfar:1024<e+(b:Int))
 (HL:Hid (∀ u,Below w.heap.size w u->Calls Tryz.prog 108 #[.slice a l c] u fun r w'=>r=.returned (.int .i64 (b:Nat))/\w'=u)) :
 Calls Tryz.prog 189 #[.agg #[.bool n,.slice a l c,.int .i64 e],.agg #[.int .i64 53,.int .i64 (-1074),.int .i64 1024]] w fun r w'=>r=.returned (.agg #[.int .u64 9007199254740991,.int .i64 971,.bool false,.int .i64 1])/\Below w.heap.size w w':=by
 obtain⟨W1,hW1⟩:=ah (((w.alloc (.cells #[.bool n,.slice a l c,.int .i64 e] 77)).alloc (.cells #[.int .i64 53,.int .i64 (-1074),.int .i64 1024] 145)).alloc (.cells #[.int .u64 0,.int .i64 0,.bool false,.int .i64 0] 212));obtain⟨hB,hz1,DD,DW,DP⟩:=kI w n (.slice a l c) e 53 (-1074) 1024 W1 hW1;have H1:=hid (HL.o W1 hB);obtain⟨x0,x1,x2,dB,dC,dD⟩:=DD.facts;obtain⟨y0,y1,y2⟩:=DW.facts;obtain⟨p0,p1,p2,p3,ZE,ZF,ZG,pf3⟩:=DP.facts;have F0:=au (show Fin w.heap.size (w.heap.size+3) w W1 (.slice none 0 0) 0 from⟨Nt.nil _ _,hB,af⟩);have SB:=(bM hB hz1 DP);clear hB hz1 DD DW DP HL;go_enter Tryz.func189,Tryz.ntmps189;go_wp2_with fail;rw[<-hW1];clear hW1;refine H1.o.mono ?_;rintro r ww ⟨rfl,hw⟩;rw[hw];clear hw ww H1;go_wp2
 go_region
 all_goals (
  go_wp2;refine aJ (nA _ (w.heap.size+1+1) 9007199254740991 971 false 1 _ rfl (by repeat (with_reducible first | exact SB.o.r2 | refine Pk.drew ?_ | refine Pk.set (f:=0) (e:=0) (t:=false) (m:=0) ?_ _ _ _ _))) rfl ⟨rfl,?_⟩;refine Fin.aD (m:=w.heap.size+3) (v:=.slice none 0 0) (X:=0) ?_
  repeat (with_reducible first | exact F0.o | refine Fin.drew ?_ | refine Fin.alloc ?_ _ | refine Fin.set ?_ _ _ _ af af))
theorem Dp {w:World}{a:Option Addr}{l c:Nat}(n:Bool) (e ex off:Int) (b F:Nat) (he0:-1048576<=e) (he1:e<=1048576) (hb:b<=262144) (hF:F<18446744073709551616) (lF:(ws F).length<=100) (hnf:e+(b:Int)<=1024)
 (hmx:max (e+(b:Int)-53) (-1074)=ex) (eof:ex-e=off) (hex0:-2000<=ex) (hex1:ex<=2000) (hof0:-2000000<=off) (hof1:off<=2000000) (tt:Bool) (Lu:decide (off<=0)=tt) (ho:(off==1)=true)
 (HL:Hid (∀ u,Below w.heap.size w u->Calls Tryz.prog 108 #[.slice a l c] u fun r w'=>r=.returned (.int .i64 (b:Nat))/\w'=u))
 (HS:Hid (∀ u,Below w.heap.size w u->Calls Tryz.prog 172 #[.slice a l c,.int .i64 (-off)] u fun r w'=>∃ v,r=.returned (.tuple #[v,.int .i64 0])/\Nt u.heap.size w' v F/\Below u.heap.size u w'))
 (HM:Hid (∀ (u:World) (p:Option Addr) (q:Nat),Arg u p (ws F).length q (ws F)->Calls Tryz.prog 239 #[.slice p (ws F).length q] u fun r w'=>r=.returned (.tuple #[.int .u64 (F:Nat),.int .i64 0])/\w'=u)) :
 Calls Tryz.prog 189 #[.agg #[.bool n,.slice a l c,.int .i64 e],.agg #[.int .i64 53,.int .i64 (-1074),.int .i64 1024]] w fun r w'=>r=.returned (.agg #[.int .u64 (F:Nat),.int .i64 ex,.bool tt,.int .i64 0])/\Below w.heap.size w w':=by
 obtain⟨W1,hW1⟩:=ah (((w.alloc (.cells #[.bool n,.slice a l c,.int .i64 e] 77)).alloc (.cells #[.int .i64 53,.int .i64 (-1074),.int .i64 1024] 145)).alloc (.cells #[.int .u64 0,.int .i64 0,.bool false,.int .i64 0] 212));obtain⟨hB,hz1,DD,DW,DP⟩:=kI w n (.slice a l c) e 53 (-1074) 1024 W1 hW1;have H1:=hid (HL.o W1 hB);have H2:=hid (HS.o W1 hB);obtain⟨x0,x1,x2,dB,dC,dD⟩:=DD.facts;obtain⟨y0,y1,y2⟩:=DW.facts;have SB:=(mh hB hz1 DD DP);clear hB hz1 DD DW DP HL HS;go_enter Tryz.func189,Tryz.ntmps189;go_wp2_with fail;rw[<-hW1];clear hW1;refine H1.o.mono ?_;rintro r ww ⟨rfl,hw⟩;rw[hw];clear hw ww H1;go_wp2_with fail
 try simp only[hmx,eof]
 refine H2.o.mono ?_;rintro r u1 ⟨v,rfl,hN,hbb⟩;obtain⟨a1,c1,rfl,A1⟩:=hN.arg af;obtain⟨hB,hz1,DD,DP⟩:=SB.o;have H3:=hid (HM.o u1 a1 c1 A1);obtain⟨z0,z1,z2,OL,OM,OO⟩:=(DD.below hbb).facts;have Sd:=DP.below hbb;obtain⟨p0,p1,p2,p3,ZE,ZF,ZG,pf3⟩:=Sd.facts;have F0:=au (show Fin w.heap.size (w.heap.size+3) w u1 (.slice none 0 0) 0 from⟨Nt.nil _ _,hB.trans (hbb.mono af),by have:=hbb.size;omega⟩);have hz:w.heap.size+1+1<u1.heap.size:=by have:=hbb.size;omega
 have hz':w.heap.size<u1.heap.size:=af
 have SP:=au Sd;clear hN hbb A1 hB hz1 DD DP Sd H2 HM SB;go_wp2_with fail
 try simp only[hmx,eof]
 refine H3.o.mono ?_;rintro r ww ⟨rfl,hw⟩;rw[hw];clear hw ww H3;go_wp2;refine aJ (nA _ (w.heap.size+1+1) (F:Nat) ex tt 0 _ rfl (by repeat (with_reducible first | exact SP.o | refine Pk.alloc ?_ _ | refine Pk.drew ?_ | refine Pk.set (f:=0) (e:=0) (t:=false) (m:=0) ?_ _ _ _ _))) rfl ⟨rfl,?_⟩;refine Fin.aD (m:=w.heap.size+3) (v:=.slice none 0 0) (X:=0) ?_
 repeat (with_reducible first | exact F0.o | refine Fin.drew ?_ | refine Fin.alloc ?_ _ | refine Fin.set ?_ _ _ _ af af)
theorem Gb {w:World}{a:Option Addr}{l c:Nat}(n:Bool) (e ex off:Int) (b F:Nat) (he0:-1048576<=e) (he1:e<=1048576) (hb:b<=262144) (hF:F<18446744073709551616) (lF:(ws F).length<=100) (hnf:e+(b:Int)<=1024)
 (hmx:max (e+(b:Int)-53) (-1074)=ex) (eof:ex-e=off) (hex0:-2000<=ex) (hex1:ex<=2000) (hof0:-2000000<=off) (hof1:off<=2000000) (tt:Bool) (Lu:decide (off<=0)=tt) (ho:(off==1)=false)
 (HL:Hid (∀ u,Below w.heap.size w u->Calls Tryz.prog 108 #[.slice a l c] u fun r w'=>r=.returned (.int .i64 (b:Nat))/\w'=u))
 (HS:Hid (∀ u,Below w.heap.size w u->Calls Tryz.prog 172 #[.slice a l c,.int .i64 (-off)] u fun r w'=>∃ v,r=.returned (.tuple #[v,.int .i64 0])/\Nt u.heap.size w' v F/\Below u.heap.size u w'))
 (HM:Hid (∀ (u:World) (p:Option Addr) (q:Nat),Arg u p (ws F).length q (ws F)->Calls Tryz.prog 239 #[.slice p (ws F).length q] u fun r w'=>r=.returned (.tuple #[.int .u64 (F:Nat),.int .i64 0])/\w'=u))
 (HB:Hid (∀ u,Below w.heap.size w u->Calls Tryz.prog 231 #[.slice a l c,.int .i64 (off-1)] u fun r w'=>r=.returned (.bool true)/\w'=u)) :
 Calls Tryz.prog 189 #[.agg #[.bool n,.slice a l c,.int .i64 e],.agg #[.int .i64 53,.int .i64 (-1074),.int .i64 1024]] w fun r w'=>r=.returned (.agg #[.int .u64 (F:Nat),.int .i64 ex,.bool tt,.int .i64 1])/\Below w.heap.size w w':=by
 obtain⟨W1,hW1⟩:=ah (((w.alloc (.cells #[.bool n,.slice a l c,.int .i64 e] 77)).alloc (.cells #[.int .i64 53,.int .i64 (-1074),.int .i64 1024] 145)).alloc (.cells #[.int .u64 0,.int .i64 0,.bool false,.int .i64 0] 212));obtain⟨hB,hz1,DD,DW,DP⟩:=kI w n (.slice a l c) e 53 (-1074) 1024 W1 hW1;have H1:=hid (HL.o W1 hB);have H2:=hid (HS.o W1 hB);obtain⟨x0,x1,x2,dB,dC,dD⟩:=DD.facts;obtain⟨y0,y1,y2⟩:=DW.facts;have SB:=(mh hB hz1 DD DP);clear hB hz1 DD DW DP HL HS;go_enter Tryz.func189,Tryz.ntmps189;go_wp2_with fail;rw[<-hW1];clear hW1;refine H1.o.mono ?_;rintro r ww ⟨rfl,hw⟩;rw[hw];clear hw ww H1;go_wp2_with fail
 try simp only[hmx,eof]
 refine H2.o.mono ?_;rintro r u1 ⟨v,rfl,hN,hbb⟩;obtain⟨a1,c1,rfl,A1⟩:=hN.arg af;obtain⟨hB,hz1,DD,DP⟩:=SB.o;have H3:=hid (HM.o u1 a1 c1 A1);obtain⟨z0,z1,z2,OL,OM,OO⟩:=(DD.below hbb).facts;have Sd:=DP.below hbb;obtain⟨p0,p1,p2,p3,ZE,ZF,ZG,pf3⟩:=Sd.facts;have F0:=au (show Fin w.heap.size (w.heap.size+3) w u1 (.slice none 0 0) 0 from⟨Nt.nil _ _,hB.trans (hbb.mono af),by have:=hbb.size;omega⟩);have hz:w.heap.size+1+1<u1.heap.size:=by have:=hbb.size;omega
 have hz':w.heap.size<u1.heap.size:=af
 have SP:=au Sd;clear hN hbb A1 hB hz1 DD DP Sd H2 HM SB;go_wp2_with fail
 try simp only[hmx,eof]
 refine H3.o.mono ?_;rintro r ww ⟨rfl,hw⟩;rw[hw];clear hw ww H3;have H4:=hid (HB.o (u1.alloc (.cells #[.int .u64 (F:Nat),.int .i64 ex,.bool tt,.int .i64 (-1)] 212)) (F0.o.aD.alloc F0.o.size _));clear HB;go_wp2_with fail
 try simp only[hmx,eof,Lu]
 refine H4.o.mono ?_;rintro r ww ⟨rfl,hw⟩;rw[hw];clear hw ww H4;go_wp2;refine aJ (nA _ (w.heap.size+1+1) (F:Nat) ex tt 1 _ rfl (by repeat (with_reducible first | exact SP.o | refine Pk.alloc ?_ _ | refine Pk.drew ?_ | refine Pk.set (f:=0) (e:=0) (t:=false) (m:=0) ?_ _ _ _ _))) rfl ⟨rfl,?_⟩;refine Fin.aD (m:=w.heap.size+3) (v:=.slice none 0 0) (X:=0) ?_
 repeat (with_reducible first | exact F0.o | refine Fin.drew ?_ | refine Fin.alloc ?_ _ | refine Fin.set ?_ _ _ _ af af)
theorem vL {w:World}{a:Option Addr}{l c:Nat}(n:Bool) (e ex off:Int) (b F:Nat) (he0:-1048576<=e) (he1:e<=1048576) (hb:b<=262144) (hF:F<18446744073709551616) (lF:(ws F).length<=100) (hnf:e+(b:Int)<=1024)
 (hmx:max (e+(b:Int)-53) (-1074)=ex) (eof:ex-e=off) (hex0:-2000<=ex) (hex1:ex<=2000) (hof0:-2000000<=off) (hof1:off<=2000000) (tt:Bool) (Lu:decide (off<=0)=tt) (ho:(off==1)=false)
 (HL:Hid (∀ u,Below w.heap.size w u->Calls Tryz.prog 108 #[.slice a l c] u fun r w'=>r=.returned (.int .i64 (b:Nat))/\w'=u))
 (HS:Hid (∀ u,Below w.heap.size w u->Calls Tryz.prog 172 #[.slice a l c,.int .i64 (-off)] u fun r w'=>∃ v,r=.returned (.tuple #[v,.int .i64 0])/\Nt u.heap.size w' v F/\Below u.heap.size u w'))
 (HM:Hid (∀ (u:World) (p:Option Addr) (q:Nat),Arg u p (ws F).length q (ws F)->Calls Tryz.prog 239 #[.slice p (ws F).length q] u fun r w'=>r=.returned (.tuple #[.int .u64 (F:Nat),.int .i64 0])/\w'=u))
 (HB:Hid (∀ u,Below w.heap.size w u->Calls Tryz.prog 231 #[.slice a l c,.int .i64 (off-1)] u fun r w'=>r=.returned (.bool false)/\w'=u)) :
 Calls Tryz.prog 189 #[.agg #[.bool n,.slice a l c,.int .i64 e],.agg #[.int .i64 53,.int .i64 (-1074),.int .i64 1024]] w fun r w'=>r=.returned (.agg #[.int .u64 (F:Nat),.int .i64 ex,.bool tt,.int .i64 (-1)])/\Below w.heap.size w w':=by
 obtain⟨W1,hW1⟩:=ah (((w.alloc (.cells #[.bool n,.slice a l c,.int .i64 e] 77)).alloc (.cells #[.int .i64 53,.int .i64 (-1074),.int .i64 1024] 145)).alloc (.cells #[.int .u64 0,.int .i64 0,.bool false,.int .i64 0] 212));obtain⟨hB,hz1,DD,DW,DP⟩:=kI w n (.slice a l c) e 53 (-1074) 1024 W1 hW1;have H1:=hid (HL.o W1 hB);have H2:=hid (HS.o W1 hB);obtain⟨x0,x1,x2,dB,dC,dD⟩:=DD.facts;obtain⟨y0,y1,y2⟩:=DW.facts;have SB:=(mh hB hz1 DD DP);clear hB hz1 DD DW DP HL HS;go_enter Tryz.func189,Tryz.ntmps189;go_wp2_with fail;rw[<-hW1];clear hW1;refine H1.o.mono ?_;rintro r ww ⟨rfl,hw⟩;rw[hw];clear hw ww H1;go_wp2_with fail
 try simp only[hmx,eof]
 refine H2.o.mono ?_;rintro r u1 ⟨v,rfl,hN,hbb⟩;obtain⟨a1,c1,rfl,A1⟩:=hN.arg af;obtain⟨hB,hz1,DD,DP⟩:=SB.o;have H3:=hid (HM.o u1 a1 c1 A1);obtain⟨z0,z1,z2,OL,OM,OO⟩:=(DD.below hbb).facts;have Sd:=DP.below hbb;obtain⟨p0,p1,p2,p3,ZE,ZF,ZG,pf3⟩:=Sd.facts;have F0:=au (show Fin w.heap.size (w.heap.size+3) w u1 (.slice none 0 0) 0 from⟨Nt.nil _ _,hB.trans (hbb.mono af),by have:=hbb.size;omega⟩);have hz:w.heap.size+1+1<u1.heap.size:=by have:=hbb.size;omega
 have hz':w.heap.size<u1.heap.size:=af
 have SP:=au Sd;clear hN hbb A1 hB hz1 DD DP Sd H2 HM SB;go_wp2_with fail
 try simp only[hmx,eof]
 refine H3.o.mono ?_;rintro r ww ⟨rfl,hw⟩;rw[hw];clear hw ww H3;have H4:=hid (HB.o (u1.alloc (.cells #[.int .u64 (F:Nat),.int .i64 ex,.bool tt,.int .i64 (-1)] 212)) (F0.o.aD.alloc F0.o.size _));clear HB;go_wp2_with fail
 try simp only[hmx,eof,Lu]
 refine H4.o.mono ?_;rintro r ww ⟨rfl,hw⟩;rw[hw];clear hw ww H4;go_wp2;refine aJ (nA _ (w.heap.size+1+1) (F:Nat) ex tt (-1) _ rfl (by repeat (with_reducible first | exact SP.o | refine Pk.alloc ?_ _ | refine Pk.drew ?_ | refine Pk.set (f:=0) (e:=0) (t:=false) (m:=0) ?_ _ _ _ _))) rfl ⟨rfl,?_⟩;refine Fin.aD (m:=w.heap.size+3) (v:=.slice none 0 0) (X:=0) ?_
 repeat (with_reducible first | exact F0.o | refine Fin.drew ?_ | refine Fin.alloc ?_ _ | refine Fin.set ?_ _ _ _ af af)
theorem Sg{w:World}{p:Option Addr}{q F:Nat}(hF:F<18446744073709551616)(hA:Arg w p (ws F).length q (ws F)) :
 Calls Tryz.prog 239 #[.slice p (ws F).length q] w fun r w'=>r=.returned (.tuple #[.int .u64 (F:Nat),.int .i64 0])/\w'=w:=by
 have:=Oh (ws F) p (ws F).length q w.heap.size w hA.len hA.cap (by have:=hA.big;omega) hA.wf hA.rd;rw[aC] at this;unfold Js at this;rw[if_pos hF] at this;exact this
theorem Ba(X:Nat)(e:Int)(hX:X≠0)(he0:-1048576<=e)(he1:e<=1048576) :
 (wC 53 (-1074) 1024 X e).1<=9007199254740991/\-1074<=(wC 53 (-1074) 1024 X e).2.1/\(wC 53 (-1074) 1024 X e).2.1<=971/\((wC 53 (-1074) 1024 X e).2.1=-1074\/4503599627370496<=(wC 53 (-1074) 1024 X e).1):=by
 have hb:=fH X hX;have h1:=iF X;have h2:=iM X hX;have e53:(2:Nat)^53=9007199254740992:=rfl;have e52:(2:Nat)^52=4503599627370496:=rfl;unfold wC
 by_cases hf:1024<e+(bl X:Int)
 · rw[if_pos hf];refine⟨aL,aL,aL,.inr aL⟩
 · rw[if_neg hf];simp only;obtain⟨ex,hex⟩:∃ ex,max (e+(bl X:Int)-((53:Nat):Int)) (-1074)=ex:=⟨_,rfl⟩;rw[hex]
   by_cases ho:ex-e<=0
   · rw[if_pos ho];obtain⟨k,hk⟩:∃ k:Nat,(-(ex-e)).toNat=k:=⟨_,rfl⟩;rw[hk];have hub:X*2^k<2^(bl X+k):=by rw[aW];exact jV h1 (bK k)
     have hm:2^(bl X+k)<=2^53:=gF af af;refine⟨by simp only;omega,by simp only;omega,by simp only;omega,?_⟩
     by_cases hl:ex=-1074
     · exact .inl hl
     · right
       have hlb:2^(bl X-1)*2^k<=X*2^k:=dF _ h2;rw[<-aW,show bl X-1+k=52 by omega] at hlb;simp only;omega
   · rw[if_neg ho];obtain⟨k,hk⟩:∃ k:Nat,(ex-e).toNat=k:=⟨_,rfl⟩;rw[hk]
     have hub:X/2^k<2^53:=by
      rw[uR (bK k),<-aW];exact gG h1 (gF af af)
     refine⟨by simp only;omega,by simp only;omega,by simp only;omega,?_⟩
     by_cases hl:ex=-1074
     · exact .inl hl
     · right
       have hlb:2^52<=X/2^k:=by
        rw[xH (bK k),<-aW,show 52+k=bl X-1 by omega];exact h2
       simp only;omega
theorem JF(X:Nat)(k:Nat)(hX:X≠0)(hl:bl X<=262144)(h0:0<k):aX X (-(k:Int))=(X/2^k,0):=by
 unfold aX;rw[if_neg (lU hl),if_neg hX,if_pos af,show(- -(k:Int)).toNat=k by omega]
theorem JG{w:World}{a:Option Addr}{l c:Nat}{X:Nat}(hA:Arg w a l c (ws X))(n:Bool)(e:Int)(he0:-1048576<=e)(he1:e<=1048576)(hX:X≠0)(hl:bl X<=262144) :
 Calls Tryz.prog 189 #[.agg #[.bool n,.slice a l c,.int .i64 e],.agg #[.int .i64 53,.int .i64 (-1074),.int .i64 1024]] w fun r w' =>
  r=.returned (.agg #[.int .u64 ((wC 53 (-1074) 1024 X e).1:Nat),.int .i64 (wC 53 (-1074) 1024 X e).2.1,.bool (wC 53 (-1074) 1024 X e).2.2.1,.int .i64 (wC 53 (-1074) 1024 X e).2.2.2])/\Below w.heap.size w w':=by
 have pf:=Ba X e hX he0 he1
 have HL:Hid (∀ u,Below w.heap.size w u->Calls Tryz.prog 108 #[.slice a l c] u fun r w'=>r=.returned (.int .i64 (bl X:Nat))/\w'=u):=by
  intro u hu;have A:=hA.below hu;have:=kE (ws X) a l c u.heap.size u A.len A.cap (by have:=A.big;omega) A.wf A.rd;exact xr
 have hb:=fH X hX
 by_cases hf:1024<e+(bl X:Int)
 · have hp:wC 53 (-1074) 1024 X e=(9007199254740991,971,false,1):=by unfold wC;rw[if_pos hf];rfl
   rw[hp];exact Dn n X e (bl X) he0 he1 hl hf HL
 · obtain⟨ex,hex⟩:∃ ex,max (e+(bl X:Int)-53) (-1074)=ex:=⟨_,rfl⟩;obtain⟨off,hof⟩:∃ off,ex-e=off:=⟨_,rfl⟩;have Gc:-2000<=ex/\ex<=2000:=af
   have hp:wC 53 (-1074) 1024 X e=if off<=0 then(X*2^(-off).toNat,ex,true,-1) else(X/2^off.toNat,ex,false,if off=1 then 0 else if X/2^(off-1).toNat%2=1 then 1 else -1):=by
    unfold wC;rw[if_neg hf];simp only;rw[show((53:Nat):Int)=53 from rfl,hex,hof]
   obtain⟨F,hFe⟩:∃ F,(wC 53 (-1074) 1024 X e).1=F:=⟨_,rfl⟩;have hF:F<=9007199254740991:=by rw[<-hFe];exact pf.1
   have lF:(ws F).length<=100:=by have:=qd F;have:=B.Sa F hF;omega
   have hsh:aX X (-off)=(F,0):=by
    rw[<-hFe,hp]
    by_cases ho:off<=0
    · rw[if_pos ho,yj X (-off) af hX hl,if_neg af]
    · obtain⟨k,hk⟩:∃ k:Nat,off=(k:Int):=⟨off.toNat,af⟩;rw[if_neg ho,hk,JF X k hX hl af,kV]
   have HS:Hid (∀ u,Below w.heap.size w u->Calls Tryz.prog 172 #[.slice a l c,.int .i64 (-off)] u fun r w'=>∃ v,r=.returned (.tuple #[v,.int .i64 0])/\Nt u.heap.size w' v F/\Below u.heap.size u w'):=by
    intro u hu;have A:=hA.below hu;exact fI (-off) A (by rw[aC];exact hsh) af af
   have HM:Hid (∀ (u:World) (p:Option Addr) (q:Nat),Arg u p (ws F).length q (ws F)->Calls Tryz.prog 239 #[.slice p (ws F).length q] u fun r w'=>r=.returned (.tuple #[.int .u64 (F:Nat),.int .i64 0])/\w'=u):=fun u p q hA=>Sg af hA
   have HB:∀ t:Bool,(if off-1<0 then false else decide (X/2^(off-1).toNat%2=1))=t->Hid (∀ u,Below w.heap.size w u->Calls Tryz.prog 231 #[.slice a l c,.int .i64 (off-1)] u fun r w'=>r=.returned (.bool t)/\w'=u):=by
    intro t ht u hu;have A:=hA.below hu
    by_cases h0:off-1<0
    · rw[if_pos h0] at ht;subst ht;exact VH a l c (off-1) u h0
    · rw[if_neg h0] at ht;obtain⟨k,hk⟩:∃ k:Nat,off-1=(k:Int):=⟨(off-1).toNat,af⟩;have:=wN (ws X) a l c u.heap.size k u A.len A.wf A.rd af;rw[aC] at this;rw[hk] at ht |-;rw[kV] at ht;rw[ht] at this;exact this
   rw[hFe]
   by_cases h1:off=1
   · have:=Dp n e ex off (bl X) F he0 he1 hl af lF af hex hof Gc.1 Gc.2 af af false (decide_eq_false af) (by simp[h1]) HL HS HM;rw[hp,if_neg af];simp only[h1,if_true];exact this
   · have h1':(off==1)=false:=by simp[h1]
     by_cases ho:off<=0
     · have:=vL n e ex off (bl X) F he0 he1 hl af lF af hex hof Gc.1 Gc.2 af af true (decide_eq_true ho) h1' HL HS HM (HB false (by rw[if_pos af]));rw[hp,if_pos ho];exact this
     · rw[hp,if_neg ho];simp only[if_neg h1]
       by_cases hbt:X/2^(off-1).toNat%2=1
       · have:=Gb n e ex off (bl X) F he0 he1 hl af lF af hex hof Gc.1 Gc.2 af af false (decide_eq_false ho) h1' HL HS HM (HB true (by rw[if_neg af];exact decide_eq_true hbt));rw[if_pos hbt];exact this
       · have:=vL n e ex off (bl X) F he0 he1 hl af lF af hex hof Gc.1 Gc.2 af af false (decide_eq_false ho) h1' HL HS HM (HB false (by rw[if_neg af];exact decide_eq_false hbt));rw[if_neg hbt];exact this
def OP(mode:Int)(F:Nat)(mid:Int)(n:Bool):Bool :=
 if mode=0 then decide (0<mid) || (decide (mid=0)&&decide (F%2=1)) else if mode=2 then !n else if mode=3 then n else if mode=4 then decide (0<=mid) else false
theorem OQ(z:Nat)(h:z<18446744073709551616):bits BinOp.and IntKind.u64 (z:Int) 1=((z%2:Nat):Int):=by
 have h:=B.JE z h;exact h
theorem OT(F:Nat)(ex:Int)(t:Bool)(n:Bool)(w:World)  :
 Calls Tryz.prog 190 #[.agg #[.int .u64 (F:Nat),.int .i64 ex,.bool t,.int .i64 1],.int .i64 0,.bool n] w fun r w'=>r=.returned (.bool true)/\Below w.heap.size w w':=by
 have HB:=au (show Below w.heap.size w (w.alloc (.cells #[.int .u64 (F:Nat),.int .i64 ex,.bool t,.int .i64 1] 212)) from ag w _);go_enter Tryz.func190,Tryz.ntmps190;go_wp2
 all_goals go_ret
 all_goals exact⟨rfl,HB.o⟩
theorem OU(F:Nat)(ex:Int)(t:Bool)(n:Bool)(w:World)(b:Bool)(hb:(bits BinOp.and IntKind.u64 (F:Int) 1==1)=b) :
 Calls Tryz.prog 190 #[.agg #[.int .u64 (F:Nat),.int .i64 ex,.bool t,.int .i64 0],.int .i64 0,.bool n] w fun r w'=>r=.returned (.bool b)/\Below w.heap.size w w':=by
 have HB:=au (show Below w.heap.size w (w.alloc (.cells #[.int .u64 (F:Nat),.int .i64 ex,.bool t,.int .i64 0] 212)) from ag w _);go_enter Tryz.func190,Tryz.ntmps190;go_wp2
 all_goals go_ret
 all_goals exact⟨rfl,HB.o⟩
theorem OV(F:Nat)(ex:Int)(t:Bool)(n:Bool)(w:World)  :
 Calls Tryz.prog 190 #[.agg #[.int .u64 (F:Nat),.int .i64 ex,.bool t,.int .i64 (-1)],.int .i64 0,.bool n] w fun r w'=>r=.returned (.bool false)/\Below w.heap.size w w':=by
 have HB:=au (show Below w.heap.size w (w.alloc (.cells #[.int .u64 (F:Nat),.int .i64 ex,.bool t,.int .i64 (-1)] 212)) from ag w _);go_enter Tryz.func190,Tryz.ntmps190;go_wp2
 all_goals go_ret
 all_goals exact⟨rfl,HB.o⟩
theorem Si(F:Nat)(ex:Int)(t:Bool)(mid:Int)(n:Bool)(w:World)  :
 Calls Tryz.prog 190 #[.agg #[.int .u64 (F:Nat),.int .i64 ex,.bool t,.int .i64 mid],.int .i64 1,.bool n] w fun r w'=>r=.returned (.bool false)/\Below w.heap.size w w':=by
 have HB:=au (show Below w.heap.size w (w.alloc (.cells #[.int .u64 (F:Nat),.int .i64 ex,.bool t,.int .i64 mid] 212)) from ag w _);go_enter Tryz.func190,Tryz.ntmps190;go_wp2
 all_goals go_ret
 all_goals exact⟨rfl,HB.o⟩
theorem ZP(F:Nat)(ex:Int)(t:Bool)(mid:Int)(n:Bool)(w:World)  :
 Calls Tryz.prog 190 #[.agg #[.int .u64 (F:Nat),.int .i64 ex,.bool t,.int .i64 mid],.int .i64 2,.bool n] w fun r w'=>r=.returned (.bool (!n))/\Below w.heap.size w w':=by
 have HB:=au (show Below w.heap.size w (w.alloc (.cells #[.int .u64 (F:Nat),.int .i64 ex,.bool t,.int .i64 mid] 212)) from ag w _);go_enter Tryz.func190,Tryz.ntmps190;go_wp2
 all_goals go_ret
 all_goals exact⟨rfl,HB.o⟩
theorem Sj(F:Nat)(ex:Int)(t:Bool)(mid:Int)(n:Bool)(w:World)  :
 Calls Tryz.prog 190 #[.agg #[.int .u64 (F:Nat),.int .i64 ex,.bool t,.int .i64 mid],.int .i64 3,.bool n] w fun r w'=>r=.returned (.bool n)/\Below w.heap.size w w':=by
 have HB:=au (show Below w.heap.size w (w.alloc (.cells #[.int .u64 (F:Nat),.int .i64 ex,.bool t,.int .i64 mid] 212)) from ag w _);go_enter Tryz.func190,Tryz.ntmps190;go_wp2
 all_goals go_ret
 all_goals exact⟨rfl,HB.o⟩
theorem Sk(F:Nat)(ex:Int)(t:Bool)(mid:Int)(n:Bool)(w:World)(b:Bool)(hb:decide (0<=mid)=b) :
 Calls Tryz.prog 190 #[.agg #[.int .u64 (F:Nat),.int .i64 ex,.bool t,.int .i64 mid],.int .i64 4,.bool n] w fun r w'=>r=.returned (.bool b)/\Below w.heap.size w w':=by
 have HB:=au (show Below w.heap.size w (w.alloc (.cells #[.int .u64 (F:Nat),.int .i64 ex,.bool t,.int .i64 mid] 212)) from ag w _);go_enter Tryz.func190,Tryz.ntmps190;go_wp2
 all_goals go_ret
 all_goals exact⟨rfl,HB.o⟩
theorem Gd(F:Nat)(ex:Int)(t:Bool)(mid mode:Int)(n:Bool)(w:World)(hF:F<18446744073709551616)(hm:mid=-1\/mid=0\/mid=1)(h0:0<=mode)(h4:mode<=4) :
 Calls Tryz.prog 190 #[.agg #[.int .u64 (F:Nat),.int .i64 ex,.bool t,.int .i64 mid],.int .i64 mode,.bool n] w fun r w'=>r=.returned (.bool (OP mode F mid n))/\Below w.heap.size w w':=by
 have hc:mode=0\/mode=1\/mode=2\/mode=3\/mode=4:=af
 rcases hc with rfl|rfl|rfl|rfl|rfl
 · rcases hm with rfl | rfl | rfl
   · exact OV F ex t n w
   · have e:(bits BinOp.and IntKind.u64 (F:Int) 1==1)=OP 0 F 0 n:=by
      rw[OQ F hF];unfold OP;rcases IX F with h|h <;> simp[h]
     exact OU F ex t n w _ e
   · exact OT F ex t n w
 · exact Si F ex t mid n w
 · exact ZP F ex t mid n w
 · exact Sj F ex t mid n w
 · exact Sk F ex t mid n w _ rfl
theorem fQ(w:World)(n:Bool)(v:Value)(e a b c:Int)(W:World)(hW:W=(w.alloc (.cells #[.bool n,v,.int .i64 e] 77)).alloc (.cells #[.int .i64 a,.int .i64 b,.int .i64 c] 145)) :
 Below w.heap.size w W/\W.heap.size=w.heap.size+2/\Dk W w.heap.size n v e/\Wk W (w.heap.size+1) a b c:=by
 subst hW;refine⟨(ag w _).alloc aL _,aL,(Dk.new w n v e).alloc _,?_⟩;unfold Wk;have:=jC (w.alloc (.cells #[.bool n,v,.int .i64 e] 77)) (.cells #[.int .i64 a,.int .i64 b,.int .i64 c] 145);simpa using this
theorem Wk.below{w w':World}{g:Nat}{a b c:Int}(h:Wk w g a b c)(hb:Below w.heap.size w w'):Wk w' g a b c:=by
 unfold Wk;rw[hb.block g (fG.1 h).1];exact h
theorem JH(n:Bool)(a:Option Addr)(l c:Nat)(e mode:Int)(w:World)(hm:mode<0\/4<mode) :
 Calls Tryz.prog 111 #[.agg #[.bool n,.slice a l c,.int .i64 e],.int .i64 mode,.agg #[.int .i64 53,.int .i64 (-1074),.int .i64 1024]] w fun r w'=>r=.returned (.tuple #[.float .f64 0,.int .i64 1])/\Below w.heap.size w w':=by
 have HB:=au (show Below w.heap.size w ((w.alloc (.cells #[.bool n,.slice a l c,.int .i64 e] 77)).alloc (.cells #[.int .i64 53,.int .i64 (-1074),.int .i64 1024] 145)) from(ag w _).alloc aL _);rcases hm with h|h
 · go_enter Tryz.func111,Tryz.ntmps111;go_wp2
   go_ret2
   exact⟨rfl,HB.o⟩
 · have h':decide (mode<0)=false:=decide_eq_false af;go_enter Tryz.func111,Tryz.ntmps111;go_wp2
   go_ret2
   exact⟨rfl,HB.o⟩
theorem OW {w:World}{a:Option Addr}{l c:Nat}(n:Bool) (e mode:Int) (n1:Bool) (X:Nat) (e1 er:Int) (lX:(ws X).length<=8192) (hm0:0<=mode) (OX:mode<=4) (her:(er != 0)=true)
 (HF:Hid (∀ u,Below w.heap.size w u->Calls Tryz.prog 188 #[.agg #[.bool n,.slice a l c,.int .i64 e]] u fun r w'=>(∃ v,r=.returned (.tuple #[.agg #[.bool n1,v,.int .i64 e1],.int .i64 er])/\Nt u.heap.size w' v X)/\Below u.heap.size u w')) :
 Calls Tryz.prog 111 #[.agg #[.bool n,.slice a l c,.int .i64 e],.int .i64 mode,.agg #[.int .i64 53,.int .i64 (-1074),.int .i64 1024]] w fun r w'=>r=.returned (.tuple #[.float .f64 0,.int .i64 er])/\Below w.heap.size w w':=by
 obtain⟨W1,hW1⟩:=ah ((w.alloc (.cells #[.bool n,.slice a l c,.int .i64 e] 77)).alloc (.cells #[.int .i64 53,.int .i64 (-1074),.int .i64 1024] 145));obtain⟨hB,hz1,DD,DW⟩:=fQ w n (.slice a l c) e 53 (-1074) 1024 W1 hW1;have H1:=hid (HF.o W1 hB);have SB:=(bM hB hz1 DW);clear hB hz1 DD DW HF;go_enter Tryz.func111,Tryz.ntmps111;go_wp2_with fail;rw[<-hW1];clear hW1;refine H1.o.mono ?_;rintro r u1 ⟨⟨v,rfl,hN⟩,hb⟩;obtain⟨a1,c1,rfl,_⟩:=hN.arg af;obtain⟨hB,hz1,DW⟩:=SB.o;have SF:=au (hB.trans (hb.mono af));have hz:w.heap.size<=u1.heap.size:=by have:=hb.size;omega
 clear hN hb H1 hB hz1 DW SB;go_wp2
 go_ret2
 exact⟨rfl,SF.o.alloc hz _⟩
theorem JI {w:World}{a:Option Addr}{l c:Nat}(n:Bool) (e mode:Int) (n1:Bool) (X:Nat) (e1:Int) (lX:(ws X).length=0) (hm0:0<=mode) (OX:mode<=4)
 (HF:Hid (∀ u,Below w.heap.size w u->Calls Tryz.prog 188 #[.agg #[.bool n,.slice a l c,.int .i64 e]] u fun r w'=>(∃ v,r=.returned (.tuple #[.agg #[.bool n1,v,.int .i64 e1],.int .i64 0])/\Nt u.heap.size w' v X)/\Below u.heap.size u w')) :
 Calls Tryz.prog 111 #[.agg #[.bool n,.slice a l c,.int .i64 e],.int .i64 mode,.agg #[.int .i64 53,.int .i64 (-1074),.int .i64 1024]] w fun r w'=>r=.returned (.tuple #[.float .f64 0,.int .i64 0])/\Below w.heap.size w w':=by
 obtain⟨W1,hW1⟩:=ah ((w.alloc (.cells #[.bool n,.slice a l c,.int .i64 e] 77)).alloc (.cells #[.int .i64 53,.int .i64 (-1074),.int .i64 1024] 145));obtain⟨hB,hz1,DD,DW⟩:=fQ w n (.slice a l c) e 53 (-1074) 1024 W1 hW1;have H1:=hid (HF.o W1 hB);have SB:=(bM hB hz1 DW);clear hB hz1 DD DW HF;go_enter Tryz.func111,Tryz.ntmps111;go_wp2_with fail;rw[<-hW1];clear hW1;refine H1.o.mono ?_;rintro r u1 ⟨⟨v,rfl,hN⟩,hb⟩;obtain⟨a1,c1,rfl,_⟩:=hN.arg af;obtain⟨hB,hz1,DW⟩:=SB.o;have SF:=au (hB.trans (hb.mono af));have hz:w.heap.size<=u1.heap.size:=by have:=hb.size;omega
 clear hN hb H1 hB hz1 DW SB;rw[lX];go_wp2
 go_ret2
 exact⟨rfl,SF.o.alloc hz _⟩
theorem Sl {w:World}{a:Option Addr}{l c:Nat}(n:Bool) (e mode:Int) (X:Nat) (e1:Int) (lX:(ws X).length<=8192) (hX:((((ws X).length:Nat):Int)==0)=false) (hm0:0<=mode) (OX:mode<=4)
 (F cw K K2:Nat) (ex mid:Int) (hF:F<=9007199254740991) (Bb:floatOfInt .f64 (F:Int)=cw)
 (HF:Hid (∀ u,Below w.heap.size w u->Calls Tryz.prog 188 #[.agg #[.bool n,.slice a l c,.int .i64 e]] u fun r w'=>(∃ v,r=.returned (.tuple #[.agg #[.bool false,v,.int .i64 e1],.int .i64 0])/\Nt u.heap.size w' v X)/\Below u.heap.size u w'))
 (HP:Hid (∀ (u:World) (p:Option Addr) (q:Nat),Arg u p (ws X).length q (ws X)->Calls Tryz.prog 189 #[.agg #[.bool false,.slice p (ws X).length q,.int .i64 e1],.agg #[.int .i64 53,.int .i64 (-1074),.int .i64 1024]] u fun r w'=>r=.returned (.agg #[.int .u64 (F:Nat),.int .i64 ex,.bool true,.int .i64 mid])/\Below u.heap.size u w'))
 (HD:Hid (∀ u,Calls Tryz.prog 191 #[.float .f64 cw,.int .i64 ex] u fun r w'=>r=.returned (.float .f64 K)/\w'=u)) :
 Calls Tryz.prog 111 #[.agg #[.bool n,.slice a l c,.int .i64 e],.int .i64 mode,.agg #[.int .i64 53,.int .i64 (-1074),.int .i64 1024]] w fun r w'=>r=.returned (.tuple #[.float .f64 K,.int .i64 0])/\Below w.heap.size w w':=by
 obtain⟨W1,hW1⟩:=ah ((w.alloc (.cells #[.bool n,.slice a l c,.int .i64 e] 77)).alloc (.cells #[.int .i64 53,.int .i64 (-1074),.int .i64 1024] 145));obtain⟨hB,hz1,DD,DW⟩:=fQ w n (.slice a l c) e 53 (-1074) 1024 W1 hW1;have H1:=hid (HF.o W1 hB);have SB:=(bM hB hz1 DW);clear hB hz1 DD DW HF;go_enter Tryz.func111,Tryz.ntmps111;go_wp2_with fail;rw[<-hW1];clear hW1;refine H1.o.mono ?_;rintro r u1 ⟨⟨v,rfl,hN⟩,hb⟩;obtain⟨a1,c1,rfl,_⟩:=hN.arg af;obtain⟨hB,hz1,DW⟩:=SB.o;obtain⟨W2,hW2⟩:=ah (u1.alloc (.cells #[.bool false,.slice a1 (ws X).length c1,.int .i64 e1] 77));have hbW:Below u1.heap.size u1 W2:=by rw[hW2];exact ag u1 _
 have D2:Dk W2 u1.heap.size false (.slice a1 (ws X).length c1) e1:=by rw[hW2];exact Dk.new u1 _ _ _
 have V2:Wk W2 (w.heap.size+1) 53 (-1074) 1024:=(DW.below hb).below hbW;have hB2:Below w.heap.size w W2:=(hB.trans (hb.mono af)).trans (hbW.mono (by have:=hb.size;omega));have H2:=hid (HP.o W2 a1 c1 ((hN.below hbW).cB af).2);obtain⟨x0,x1,x2,dB,dC,dD⟩:=D2.facts;obtain⟨y0,y1,y2⟩:=V2.facts;obtain⟨t0,t1,t2⟩:=(DW.below hb).facts;have hzu:w.heap.size+1<u1.heap.size:=by have:=hb.size;omega
 have hzz:w.heap.size<=u1.heap.size:=by have:=hb.size;omega
 have Ol:u1.heap.size<W2.heap.size:=D2.lt;have S2:=(aT hB2 D2);clear hN hb H1 hB hz1 DW SB hbW D2 V2 hB2 HP;go_wp2_with fail;rw[<-hW2];clear hW2;refine H2.o.mono ?_;rintro r u2 ⟨rfl,hb⟩;obtain⟨W3,hW3⟩:=ah (u2.alloc (.cells #[.int .u64 (F:Nat),.int .i64 ex,.bool true,.int .i64 mid] 212));have hbW:Below u2.heap.size u2 W3:=by rw[hW3];exact ag u2 _
 have P3:Pk W3 u2.heap.size (F:Nat) ex true mid:=by rw[hW3];exact jC _ _
 have D3:=(S2.o.2.below hb).below hbW;have hB3:Below w.heap.size w W3:=(S2.o.1.trans (hb.mono af)).trans (hbW.mono (by have:=hb.size;omega));have ZA:u1.heap.size<u2.heap.size:=by have:=hb.size;omega
 obtain⟨q0,q1,q2,q3,Ov,Ow,Ox,V6⟩:=P3.facts;obtain⟨d0,d1,d2,V7,V8,df2⟩:=D3.facts;have Om:w.heap.size<=u2.heap.size:=af
 have hz7:u2.heap.size<W3.heap.size:=P3.lt;have S3:=(bM hB3 P3 D3);clear hb hbW P3 D3 hB3 S2 H2 x0 x1 x2 dB dC dD y0 y1 y2
 go_upto_region 7 with fail
 rw[<-hW3];clear hW3;go_wp2_with fail
 try simp only[Bb]
 refine(dI (HD.o _)) ?_;rintro r ww ⟨rfl,hw⟩;rw[hw];clear hw ww HD;go_wp2
 go_ret2
 exact⟨rfl,S3.o.1⟩
theorem Sm {w:World}{a:Option Addr}{l c:Nat}(n:Bool) (e mode:Int) (X:Nat) (e1:Int) (lX:(ws X).length<=8192) (hX:((((ws X).length:Nat):Int)==0)=false) (hm0:0<=mode) (OX:mode<=4)
 (F cw K K2:Nat) (ex mid:Int) (hF:F<=9007199254740991) (Bb:floatOfInt .f64 (F:Int)=cw)
 (HF:Hid (∀ u,Below w.heap.size w u->Calls Tryz.prog 188 #[.agg #[.bool n,.slice a l c,.int .i64 e]] u fun r w'=>(∃ v,r=.returned (.tuple #[.agg #[.bool true,v,.int .i64 e1],.int .i64 0])/\Nt u.heap.size w' v X)/\Below u.heap.size u w'))
 (HP:Hid (∀ (u:World) (p:Option Addr) (q:Nat),Arg u p (ws X).length q (ws X)->Calls Tryz.prog 189 #[.agg #[.bool true,.slice p (ws X).length q,.int .i64 e1],.agg #[.int .i64 53,.int .i64 (-1074),.int .i64 1024]] u fun r w'=>r=.returned (.agg #[.int .u64 (F:Nat),.int .i64 ex,.bool true,.int .i64 mid])/\Below u.heap.size u w'))
 (HD:Hid (∀ u,Calls Tryz.prog 191 #[.float .f64 cw,.int .i64 ex] u fun r w'=>r=.returned (.float .f64 K)/\w'=u))
 (HC:Hid (∀ u,Calls Tryz.prog 110 #[.float .f64 K,.float .f64 13830554455654793216] u fun r w'=>r=.returned (.float .f64 K2)/\w'=u)) :
 Calls Tryz.prog 111 #[.agg #[.bool n,.slice a l c,.int .i64 e],.int .i64 mode,.agg #[.int .i64 53,.int .i64 (-1074),.int .i64 1024]] w fun r w'=>r=.returned (.tuple #[.float .f64 K2,.int .i64 0])/\Below w.heap.size w w':=by
 obtain⟨W1,hW1⟩:=ah ((w.alloc (.cells #[.bool n,.slice a l c,.int .i64 e] 77)).alloc (.cells #[.int .i64 53,.int .i64 (-1074),.int .i64 1024] 145));obtain⟨hB,hz1,DD,DW⟩:=fQ w n (.slice a l c) e 53 (-1074) 1024 W1 hW1;have H1:=hid (HF.o W1 hB);have SB:=(bM hB hz1 DW);clear hB hz1 DD DW HF;go_enter Tryz.func111,Tryz.ntmps111;go_wp2_with fail;rw[<-hW1];clear hW1;refine H1.o.mono ?_;rintro r u1 ⟨⟨v,rfl,hN⟩,hb⟩;obtain⟨a1,c1,rfl,_⟩:=hN.arg af;obtain⟨hB,hz1,DW⟩:=SB.o;obtain⟨W2,hW2⟩:=ah (u1.alloc (.cells #[.bool true,.slice a1 (ws X).length c1,.int .i64 e1] 77));have hbW:Below u1.heap.size u1 W2:=by rw[hW2];exact ag u1 _
 have D2:Dk W2 u1.heap.size true (.slice a1 (ws X).length c1) e1:=by rw[hW2];exact Dk.new u1 _ _ _
 have V2:Wk W2 (w.heap.size+1) 53 (-1074) 1024:=(DW.below hb).below hbW;have hB2:Below w.heap.size w W2:=(hB.trans (hb.mono af)).trans (hbW.mono (by have:=hb.size;omega));have H2:=hid (HP.o W2 a1 c1 ((hN.below hbW).cB af).2);obtain⟨x0,x1,x2,dB,dC,dD⟩:=D2.facts;obtain⟨y0,y1,y2⟩:=V2.facts;obtain⟨t0,t1,t2⟩:=(DW.below hb).facts;have hzu:w.heap.size+1<u1.heap.size:=by have:=hb.size;omega
 have hzz:w.heap.size<=u1.heap.size:=by have:=hb.size;omega
 have Ol:u1.heap.size<W2.heap.size:=D2.lt;have S2:=(aT hB2 D2);clear hN hb H1 hB hz1 DW SB hbW D2 V2 hB2 HP;go_wp2_with fail;rw[<-hW2];clear hW2;refine H2.o.mono ?_;rintro r u2 ⟨rfl,hb⟩;obtain⟨W3,hW3⟩:=ah (u2.alloc (.cells #[.int .u64 (F:Nat),.int .i64 ex,.bool true,.int .i64 mid] 212));have hbW:Below u2.heap.size u2 W3:=by rw[hW3];exact ag u2 _
 have P3:Pk W3 u2.heap.size (F:Nat) ex true mid:=by rw[hW3];exact jC _ _
 have D3:=(S2.o.2.below hb).below hbW;have hB3:Below w.heap.size w W3:=(S2.o.1.trans (hb.mono af)).trans (hbW.mono (by have:=hb.size;omega));have ZA:u1.heap.size<u2.heap.size:=by have:=hb.size;omega
 obtain⟨q0,q1,q2,q3,Ov,Ow,Ox,V6⟩:=P3.facts;obtain⟨d0,d1,d2,V7,V8,df2⟩:=D3.facts;have Om:w.heap.size<=u2.heap.size:=af
 have hz7:u2.heap.size<W3.heap.size:=P3.lt;have S3:=(bM hB3 P3 D3);clear hb hbW P3 D3 hB3 S2 H2 x0 x1 x2 dB dC dD y0 y1 y2
 go_upto_region 7 with fail
 rw[<-hW3];clear hW3;go_wp2_with fail
 try simp only[Bb]
 refine(dI (HD.o _)) ?_;rintro r ww ⟨rfl,hw⟩;rw[hw];clear hw ww HD;go_wp2_with fail;refine(dI (HC.o _)) ?_;rintro r ww ⟨rfl,hw⟩;rw[hw];clear hw ww HC;go_wp2
 go_ret2
 exact⟨rfl,S3.o.1⟩
theorem OY {w:World}{a:Option Addr}{l c:Nat}(n:Bool) (e mode:Int) (X:Nat) (e1:Int) (lX:(ws X).length<=8192) (hX:((((ws X).length:Nat):Int)==0)=false) (hm0:0<=mode) (OX:mode<=4)
 (F cw K K2:Nat) (ex mid:Int) (hF:F<=9007199254740991) (Bb:floatOfInt .f64 (F:Int)=cw)
 (HF:Hid (∀ u,Below w.heap.size w u->Calls Tryz.prog 188 #[.agg #[.bool n,.slice a l c,.int .i64 e]] u fun r w'=>(∃ v,r=.returned (.tuple #[.agg #[.bool false,v,.int .i64 e1],.int .i64 0])/\Nt u.heap.size w' v X)/\Below u.heap.size u w'))
 (HP:Hid (∀ (u:World) (p:Option Addr) (q:Nat),Arg u p (ws X).length q (ws X)->Calls Tryz.prog 189 #[.agg #[.bool false,.slice p (ws X).length q,.int .i64 e1],.agg #[.int .i64 53,.int .i64 (-1074),.int .i64 1024]] u fun r w'=>r=.returned (.agg #[.int .u64 (F:Nat),.int .i64 ex,.bool false,.int .i64 mid])/\Below u.heap.size u w'))
 (HG:Hid (∀ u,Calls Tryz.prog 190 #[.agg #[.int .u64 (F:Nat),.int .i64 ex,.bool false,.int .i64 mid],.int .i64 mode,.bool false] u fun r w'=>r=.returned (.bool false)/\Below u.heap.size u w'))
 (HD:Hid (∀ u,Calls Tryz.prog 191 #[.float .f64 cw,.int .i64 ex] u fun r w'=>r=.returned (.float .f64 K)/\w'=u)) :
 Calls Tryz.prog 111 #[.agg #[.bool n,.slice a l c,.int .i64 e],.int .i64 mode,.agg #[.int .i64 53,.int .i64 (-1074),.int .i64 1024]] w fun r w'=>r=.returned (.tuple #[.float .f64 K,.int .i64 0])/\Below w.heap.size w w':=by
 obtain⟨W1,hW1⟩:=ah ((w.alloc (.cells #[.bool n,.slice a l c,.int .i64 e] 77)).alloc (.cells #[.int .i64 53,.int .i64 (-1074),.int .i64 1024] 145));obtain⟨hB,hz1,DD,DW⟩:=fQ w n (.slice a l c) e 53 (-1074) 1024 W1 hW1;have H1:=hid (HF.o W1 hB);have SB:=(bM hB hz1 DW);clear hB hz1 DD DW HF;go_enter Tryz.func111,Tryz.ntmps111;go_wp2_with fail;rw[<-hW1];clear hW1;refine H1.o.mono ?_;rintro r u1 ⟨⟨v,rfl,hN⟩,hb⟩;obtain⟨a1,c1,rfl,_⟩:=hN.arg af;obtain⟨hB,hz1,DW⟩:=SB.o;obtain⟨W2,hW2⟩:=ah (u1.alloc (.cells #[.bool false,.slice a1 (ws X).length c1,.int .i64 e1] 77));have hbW:Below u1.heap.size u1 W2:=by rw[hW2];exact ag u1 _
 have D2:Dk W2 u1.heap.size false (.slice a1 (ws X).length c1) e1:=by rw[hW2];exact Dk.new u1 _ _ _
 have V2:Wk W2 (w.heap.size+1) 53 (-1074) 1024:=(DW.below hb).below hbW;have hB2:Below w.heap.size w W2:=(hB.trans (hb.mono af)).trans (hbW.mono (by have:=hb.size;omega));have H2:=hid (HP.o W2 a1 c1 ((hN.below hbW).cB af).2);obtain⟨x0,x1,x2,dB,dC,dD⟩:=D2.facts;obtain⟨y0,y1,y2⟩:=V2.facts;obtain⟨t0,t1,t2⟩:=(DW.below hb).facts;have hzu:w.heap.size+1<u1.heap.size:=by have:=hb.size;omega
 have hzz:w.heap.size<=u1.heap.size:=by have:=hb.size;omega
 have Ol:u1.heap.size<W2.heap.size:=D2.lt;have S2:=(aT hB2 D2);clear hN hb H1 hB hz1 DW SB hbW D2 V2 hB2 HP;go_wp2_with fail;rw[<-hW2];clear hW2;refine H2.o.mono ?_;rintro r u2 ⟨rfl,hb⟩;obtain⟨W3,hW3⟩:=ah (u2.alloc (.cells #[.int .u64 (F:Nat),.int .i64 ex,.bool false,.int .i64 mid] 212));have hbW:Below u2.heap.size u2 W3:=by rw[hW3];exact ag u2 _
 have P3:Pk W3 u2.heap.size (F:Nat) ex false mid:=by rw[hW3];exact jC _ _
 have D3:=(S2.o.2.below hb).below hbW;have hB3:Below w.heap.size w W3:=(S2.o.1.trans (hb.mono af)).trans (hbW.mono (by have:=hb.size;omega));have ZA:u1.heap.size<u2.heap.size:=by have:=hb.size;omega
 obtain⟨q0,q1,q2,q3,Ov,Ow,Ox,V6⟩:=P3.facts;obtain⟨d0,d1,d2,V7,V8,df2⟩:=D3.facts;have Om:w.heap.size<=u2.heap.size:=af
 have hz7:u2.heap.size<W3.heap.size:=P3.lt;have S3:=(bM hB3 P3 D3);clear hb hbW P3 D3 hB3 S2 H2 x0 x1 x2 dB dC dD y0 y1 y2
 go_upto_region 7 with fail
 rw[<-hW3];clear hW3;go_wp2_with fail;refine(dI (HG.o _)) ?_;rintro r u3 ⟨rfl,hb⟩;have P4:=S3.o.2.1.below hb;have D4:=S3.o.r2.below hb;have hB4:Below w.heap.size w u3:=S3.o.1.trans (hb.mono af);have hz8:w.heap.size<=u3.heap.size:=by have:=hb.size;omega
 obtain⟨r0,r1,r2,r3,mJ,mK,mM,rf3⟩:=P4.facts;obtain⟨s0,s1,s2,IG,II,IJ⟩:=D4.facts;have S4:=au hB4;clear hb P4 D4 hB4 S3 HG q0 q1 q2 q3 Ov Ow Ox V6 d0 d1 d2 V7 V8 df2;go_wp2_with fail
 try simp only[Bb]
 refine(dI (HD.o _)) ?_;rintro r ww ⟨rfl,hw⟩;rw[hw];clear hw ww HD;go_wp2
 go_ret2
 exact⟨rfl,S4.o⟩
theorem OZ {w:World}{a:Option Addr}{l c:Nat}(n:Bool) (e mode:Int) (X:Nat) (e1:Int) (lX:(ws X).length<=8192) (hX:((((ws X).length:Nat):Int)==0)=false) (hm0:0<=mode) (OX:mode<=4)
 (F cw K K2:Nat) (ex mid:Int) (hF:F<=9007199254740991) (Bb:floatOfInt .f64 (F:Int)=cw)
 (HF:Hid (∀ u,Below w.heap.size w u->Calls Tryz.prog 188 #[.agg #[.bool n,.slice a l c,.int .i64 e]] u fun r w'=>(∃ v,r=.returned (.tuple #[.agg #[.bool true,v,.int .i64 e1],.int .i64 0])/\Nt u.heap.size w' v X)/\Below u.heap.size u w'))
 (HP:Hid (∀ (u:World) (p:Option Addr) (q:Nat),Arg u p (ws X).length q (ws X)->Calls Tryz.prog 189 #[.agg #[.bool true,.slice p (ws X).length q,.int .i64 e1],.agg #[.int .i64 53,.int .i64 (-1074),.int .i64 1024]] u fun r w'=>r=.returned (.agg #[.int .u64 (F:Nat),.int .i64 ex,.bool false,.int .i64 mid])/\Below u.heap.size u w'))
 (HG:Hid (∀ u,Calls Tryz.prog 190 #[.agg #[.int .u64 (F:Nat),.int .i64 ex,.bool false,.int .i64 mid],.int .i64 mode,.bool true] u fun r w'=>r=.returned (.bool false)/\Below u.heap.size u w'))
 (HD:Hid (∀ u,Calls Tryz.prog 191 #[.float .f64 cw,.int .i64 ex] u fun r w'=>r=.returned (.float .f64 K)/\w'=u))
 (HC:Hid (∀ u,Calls Tryz.prog 110 #[.float .f64 K,.float .f64 13830554455654793216] u fun r w'=>r=.returned (.float .f64 K2)/\w'=u)) :
 Calls Tryz.prog 111 #[.agg #[.bool n,.slice a l c,.int .i64 e],.int .i64 mode,.agg #[.int .i64 53,.int .i64 (-1074),.int .i64 1024]] w fun r w'=>r=.returned (.tuple #[.float .f64 K2,.int .i64 0])/\Below w.heap.size w w':=by
 obtain⟨W1,hW1⟩:=ah ((w.alloc (.cells #[.bool n,.slice a l c,.int .i64 e] 77)).alloc (.cells #[.int .i64 53,.int .i64 (-1074),.int .i64 1024] 145));obtain⟨hB,hz1,DD,DW⟩:=fQ w n (.slice a l c) e 53 (-1074) 1024 W1 hW1;have H1:=hid (HF.o W1 hB);have SB:=(bM hB hz1 DW);clear hB hz1 DD DW HF;go_enter Tryz.func111,Tryz.ntmps111;go_wp2_with fail;rw[<-hW1];clear hW1;refine H1.o.mono ?_;rintro r u1 ⟨⟨v,rfl,hN⟩,hb⟩;obtain⟨a1,c1,rfl,_⟩:=hN.arg af;obtain⟨hB,hz1,DW⟩:=SB.o;obtain⟨W2,hW2⟩:=ah (u1.alloc (.cells #[.bool true,.slice a1 (ws X).length c1,.int .i64 e1] 77));have hbW:Below u1.heap.size u1 W2:=by rw[hW2];exact ag u1 _
 have D2:Dk W2 u1.heap.size true (.slice a1 (ws X).length c1) e1:=by rw[hW2];exact Dk.new u1 _ _ _
 have V2:Wk W2 (w.heap.size+1) 53 (-1074) 1024:=(DW.below hb).below hbW;have hB2:Below w.heap.size w W2:=(hB.trans (hb.mono af)).trans (hbW.mono (by have:=hb.size;omega));have H2:=hid (HP.o W2 a1 c1 ((hN.below hbW).cB af).2);obtain⟨x0,x1,x2,dB,dC,dD⟩:=D2.facts;obtain⟨y0,y1,y2⟩:=V2.facts;obtain⟨t0,t1,t2⟩:=(DW.below hb).facts;have hzu:w.heap.size+1<u1.heap.size:=by have:=hb.size;omega
 have hzz:w.heap.size<=u1.heap.size:=by have:=hb.size;omega
 have Ol:u1.heap.size<W2.heap.size:=D2.lt;have S2:=(aT hB2 D2);clear hN hb H1 hB hz1 DW SB hbW D2 V2 hB2 HP;go_wp2_with fail;rw[<-hW2];clear hW2;refine H2.o.mono ?_;rintro r u2 ⟨rfl,hb⟩;obtain⟨W3,hW3⟩:=ah (u2.alloc (.cells #[.int .u64 (F:Nat),.int .i64 ex,.bool false,.int .i64 mid] 212));have hbW:Below u2.heap.size u2 W3:=by rw[hW3];exact ag u2 _
 have P3:Pk W3 u2.heap.size (F:Nat) ex false mid:=by rw[hW3];exact jC _ _
 have D3:=(S2.o.2.below hb).below hbW;have hB3:Below w.heap.size w W3:=(S2.o.1.trans (hb.mono af)).trans (hbW.mono (by have:=hb.size;omega));have ZA:u1.heap.size<u2.heap.size:=by have:=hb.size;omega
 obtain⟨q0,q1,q2,q3,Ov,Ow,Ox,V6⟩:=P3.facts;obtain⟨d0,d1,d2,V7,V8,df2⟩:=D3.facts;have Om:w.heap.size<=u2.heap.size:=af
 have hz7:u2.heap.size<W3.heap.size:=P3.lt;have S3:=(bM hB3 P3 D3);clear hb hbW P3 D3 hB3 S2 H2 x0 x1 x2 dB dC dD y0 y1 y2
 go_upto_region 7 with fail
 rw[<-hW3];clear hW3;go_wp2_with fail;refine(dI (HG.o _)) ?_;rintro r u3 ⟨rfl,hb⟩;have P4:=S3.o.2.1.below hb;have D4:=S3.o.r2.below hb;have hB4:Below w.heap.size w u3:=S3.o.1.trans (hb.mono af);have hz8:w.heap.size<=u3.heap.size:=by have:=hb.size;omega
 obtain⟨r0,r1,r2,r3,mJ,mK,mM,rf3⟩:=P4.facts;obtain⟨s0,s1,s2,IG,II,IJ⟩:=D4.facts;have S4:=au hB4;clear hb P4 D4 hB4 S3 HG q0 q1 q2 q3 Ov Ow Ox V6 d0 d1 d2 V7 V8 df2;go_wp2_with fail
 try simp only[Bb]
 refine(dI (HD.o _)) ?_;rintro r ww ⟨rfl,hw⟩;rw[hw];clear hw ww HD;go_wp2_with fail;refine(dI (HC.o _)) ?_;rintro r ww ⟨rfl,hw⟩;rw[hw];clear hw ww HC;go_wp2
 go_ret2
 exact⟨rfl,S4.o⟩
theorem O0 {w:World}{a:Option Addr}{l c:Nat}(n:Bool) (e mode:Int) (X:Nat) (e1:Int) (lX:(ws X).length<=8192) (hX:((((ws X).length:Nat):Int)==0)=false) (hm0:0<=mode) (OX:mode<=4)
 (F cw K K2:Nat) (ex mid:Int) (hF:F<=9007199254740991) (Bb:floatOfInt .f64 ((F:Int)+1)=cw)
 (HF:Hid (∀ u,Below w.heap.size w u->Calls Tryz.prog 188 #[.agg #[.bool n,.slice a l c,.int .i64 e]] u fun r w'=>(∃ v,r=.returned (.tuple #[.agg #[.bool false,v,.int .i64 e1],.int .i64 0])/\Nt u.heap.size w' v X)/\Below u.heap.size u w'))
 (HP:Hid (∀ (u:World) (p:Option Addr) (q:Nat),Arg u p (ws X).length q (ws X)->Calls Tryz.prog 189 #[.agg #[.bool false,.slice p (ws X).length q,.int .i64 e1],.agg #[.int .i64 53,.int .i64 (-1074),.int .i64 1024]] u fun r w'=>r=.returned (.agg #[.int .u64 (F:Nat),.int .i64 ex,.bool false,.int .i64 mid])/\Below u.heap.size u w'))
 (HG:Hid (∀ u,Calls Tryz.prog 190 #[.agg #[.int .u64 (F:Nat),.int .i64 ex,.bool false,.int .i64 mid],.int .i64 mode,.bool false] u fun r w'=>r=.returned (.bool true)/\Below u.heap.size u w'))
 (HD:Hid (∀ u,Calls Tryz.prog 191 #[.float .f64 cw,.int .i64 ex] u fun r w'=>r=.returned (.float .f64 K)/\w'=u)) :
 Calls Tryz.prog 111 #[.agg #[.bool n,.slice a l c,.int .i64 e],.int .i64 mode,.agg #[.int .i64 53,.int .i64 (-1074),.int .i64 1024]] w fun r w'=>r=.returned (.tuple #[.float .f64 K,.int .i64 0])/\Below w.heap.size w w':=by
 obtain⟨W1,hW1⟩:=ah ((w.alloc (.cells #[.bool n,.slice a l c,.int .i64 e] 77)).alloc (.cells #[.int .i64 53,.int .i64 (-1074),.int .i64 1024] 145));obtain⟨hB,hz1,DD,DW⟩:=fQ w n (.slice a l c) e 53 (-1074) 1024 W1 hW1;have H1:=hid (HF.o W1 hB);have SB:=(bM hB hz1 DW);clear hB hz1 DD DW HF;go_enter Tryz.func111,Tryz.ntmps111;go_wp2_with fail;rw[<-hW1];clear hW1;refine H1.o.mono ?_;rintro r u1 ⟨⟨v,rfl,hN⟩,hb⟩;obtain⟨a1,c1,rfl,_⟩:=hN.arg af;obtain⟨hB,hz1,DW⟩:=SB.o;obtain⟨W2,hW2⟩:=ah (u1.alloc (.cells #[.bool false,.slice a1 (ws X).length c1,.int .i64 e1] 77));have hbW:Below u1.heap.size u1 W2:=by rw[hW2];exact ag u1 _
 have D2:Dk W2 u1.heap.size false (.slice a1 (ws X).length c1) e1:=by rw[hW2];exact Dk.new u1 _ _ _
 have V2:Wk W2 (w.heap.size+1) 53 (-1074) 1024:=(DW.below hb).below hbW;have hB2:Below w.heap.size w W2:=(hB.trans (hb.mono af)).trans (hbW.mono (by have:=hb.size;omega));have H2:=hid (HP.o W2 a1 c1 ((hN.below hbW).cB af).2);obtain⟨x0,x1,x2,dB,dC,dD⟩:=D2.facts;obtain⟨y0,y1,y2⟩:=V2.facts;obtain⟨t0,t1,t2⟩:=(DW.below hb).facts;have hzu:w.heap.size+1<u1.heap.size:=by have:=hb.size;omega
 have hzz:w.heap.size<=u1.heap.size:=by have:=hb.size;omega
 have Ol:u1.heap.size<W2.heap.size:=D2.lt;have S2:=(aT hB2 D2);clear hN hb H1 hB hz1 DW SB hbW D2 V2 hB2 HP;go_wp2_with fail;rw[<-hW2];clear hW2;refine H2.o.mono ?_;rintro r u2 ⟨rfl,hb⟩;obtain⟨W3,hW3⟩:=ah (u2.alloc (.cells #[.int .u64 (F:Nat),.int .i64 ex,.bool false,.int .i64 mid] 212));have hbW:Below u2.heap.size u2 W3:=by rw[hW3];exact ag u2 _
 have P3:Pk W3 u2.heap.size (F:Nat) ex false mid:=by rw[hW3];exact jC _ _
 have D3:=(S2.o.2.below hb).below hbW;have hB3:Below w.heap.size w W3:=(S2.o.1.trans (hb.mono af)).trans (hbW.mono (by have:=hb.size;omega));have ZA:u1.heap.size<u2.heap.size:=by have:=hb.size;omega
 obtain⟨q0,q1,q2,q3,Ov,Ow,Ox,V6⟩:=P3.facts;obtain⟨d0,d1,d2,V7,V8,df2⟩:=D3.facts;have Om:w.heap.size<=u2.heap.size:=af
 have hz7:u2.heap.size<W3.heap.size:=P3.lt;have S3:=(bM hB3 P3 D3);clear hb hbW P3 D3 hB3 S2 H2 x0 x1 x2 dB dC dD y0 y1 y2
 go_upto_region 7 with fail
 rw[<-hW3];clear hW3;go_wp2_with fail;refine(dI (HG.o _)) ?_;rintro r u3 ⟨rfl,hb⟩;have P4:=S3.o.2.1.below hb;have D4:=S3.o.r2.below hb;have hB4:Below w.heap.size w u3:=S3.o.1.trans (hb.mono af);have hz8:w.heap.size<=u3.heap.size:=by have:=hb.size;omega
 obtain⟨r0,r1,r2,r3,mJ,mK,mM,rf3⟩:=P4.facts;obtain⟨s0,s1,s2,IG,II,IJ⟩:=D4.facts;have S4:=au hB4;clear hb P4 D4 hB4 S3 HG q0 q1 q2 q3 Ov Ow Ox V6 d0 d1 d2 V7 V8 df2;go_wp2_with fail
 try simp only[Bb]
 refine(dI (HD.o _)) ?_;rintro r ww ⟨rfl,hw⟩;rw[hw];clear hw ww HD;go_wp2
 go_ret2
 exact⟨rfl,Below.qR S4.o _ _ _ Om hz8⟩
theorem O3 {w:World}{a:Option Addr}{l c:Nat}(n:Bool) (e mode:Int) (X:Nat) (e1:Int) (lX:(ws X).length<=8192) (hX:((((ws X).length:Nat):Int)==0)=false) (hm0:0<=mode) (OX:mode<=4)
 (F cw K K2:Nat) (ex mid:Int) (hF:F<=9007199254740991) (Bb:floatOfInt .f64 ((F:Int)+1)=cw)
 (HF:Hid (∀ u,Below w.heap.size w u->Calls Tryz.prog 188 #[.agg #[.bool n,.slice a l c,.int .i64 e]] u fun r w'=>(∃ v,r=.returned (.tuple #[.agg #[.bool true,v,.int .i64 e1],.int .i64 0])/\Nt u.heap.size w' v X)/\Below u.heap.size u w'))
 (HP:Hid (∀ (u:World) (p:Option Addr) (q:Nat),Arg u p (ws X).length q (ws X)->Calls Tryz.prog 189 #[.agg #[.bool true,.slice p (ws X).length q,.int .i64 e1],.agg #[.int .i64 53,.int .i64 (-1074),.int .i64 1024]] u fun r w'=>r=.returned (.agg #[.int .u64 (F:Nat),.int .i64 ex,.bool false,.int .i64 mid])/\Below u.heap.size u w'))
 (HG:Hid (∀ u,Calls Tryz.prog 190 #[.agg #[.int .u64 (F:Nat),.int .i64 ex,.bool false,.int .i64 mid],.int .i64 mode,.bool true] u fun r w'=>r=.returned (.bool true)/\Below u.heap.size u w'))
 (HD:Hid (∀ u,Calls Tryz.prog 191 #[.float .f64 cw,.int .i64 ex] u fun r w'=>r=.returned (.float .f64 K)/\w'=u))
 (HC:Hid (∀ u,Calls Tryz.prog 110 #[.float .f64 K,.float .f64 13830554455654793216] u fun r w'=>r=.returned (.float .f64 K2)/\w'=u)) :
 Calls Tryz.prog 111 #[.agg #[.bool n,.slice a l c,.int .i64 e],.int .i64 mode,.agg #[.int .i64 53,.int .i64 (-1074),.int .i64 1024]] w fun r w'=>r=.returned (.tuple #[.float .f64 K2,.int .i64 0])/\Below w.heap.size w w':=by
 obtain⟨W1,hW1⟩:=ah ((w.alloc (.cells #[.bool n,.slice a l c,.int .i64 e] 77)).alloc (.cells #[.int .i64 53,.int .i64 (-1074),.int .i64 1024] 145));obtain⟨hB,hz1,DD,DW⟩:=fQ w n (.slice a l c) e 53 (-1074) 1024 W1 hW1;have H1:=hid (HF.o W1 hB);have SB:=(bM hB hz1 DW);clear hB hz1 DD DW HF;go_enter Tryz.func111,Tryz.ntmps111;go_wp2_with fail;rw[<-hW1];clear hW1;refine H1.o.mono ?_;rintro r u1 ⟨⟨v,rfl,hN⟩,hb⟩;obtain⟨a1,c1,rfl,_⟩:=hN.arg af;obtain⟨hB,hz1,DW⟩:=SB.o;obtain⟨W2,hW2⟩:=ah (u1.alloc (.cells #[.bool true,.slice a1 (ws X).length c1,.int .i64 e1] 77));have hbW:Below u1.heap.size u1 W2:=by rw[hW2];exact ag u1 _
 have D2:Dk W2 u1.heap.size true (.slice a1 (ws X).length c1) e1:=by rw[hW2];exact Dk.new u1 _ _ _
 have V2:Wk W2 (w.heap.size+1) 53 (-1074) 1024:=(DW.below hb).below hbW;have hB2:Below w.heap.size w W2:=(hB.trans (hb.mono af)).trans (hbW.mono (by have:=hb.size;omega));have H2:=hid (HP.o W2 a1 c1 ((hN.below hbW).cB af).2);obtain⟨x0,x1,x2,dB,dC,dD⟩:=D2.facts;obtain⟨y0,y1,y2⟩:=V2.facts;obtain⟨t0,t1,t2⟩:=(DW.below hb).facts;have hzu:w.heap.size+1<u1.heap.size:=by have:=hb.size;omega
 have hzz:w.heap.size<=u1.heap.size:=by have:=hb.size;omega
 have Ol:u1.heap.size<W2.heap.size:=D2.lt;have S2:=(aT hB2 D2);clear hN hb H1 hB hz1 DW SB hbW D2 V2 hB2 HP;go_wp2_with fail;rw[<-hW2];clear hW2;refine H2.o.mono ?_;rintro r u2 ⟨rfl,hb⟩;obtain⟨W3,hW3⟩:=ah (u2.alloc (.cells #[.int .u64 (F:Nat),.int .i64 ex,.bool false,.int .i64 mid] 212));have hbW:Below u2.heap.size u2 W3:=by rw[hW3];exact ag u2 _
 have P3:Pk W3 u2.heap.size (F:Nat) ex false mid:=by rw[hW3];exact jC _ _
 have D3:=(S2.o.2.below hb).below hbW;have hB3:Below w.heap.size w W3:=(S2.o.1.trans (hb.mono af)).trans (hbW.mono (by have:=hb.size;omega));have ZA:u1.heap.size<u2.heap.size:=by have:=hb.size;omega
 obtain⟨q0,q1,q2,q3,Ov,Ow,Ox,V6⟩:=P3.facts;obtain⟨d0,d1,d2,V7,V8,df2⟩:=D3.facts;have Om:w.heap.size<=u2.heap.size:=af
 have hz7:u2.heap.size<W3.heap.size:=P3.lt;have S3:=(bM hB3 P3 D3);clear hb hbW P3 D3 hB3 S2 H2 x0 x1 x2 dB dC dD y0 y1 y2
 go_upto_region 7 with fail
 rw[<-hW3];clear hW3;go_wp2_with fail;refine(dI (HG.o _)) ?_;rintro r u3 ⟨rfl,hb⟩;have P4:=S3.o.2.1.below hb;have D4:=S3.o.r2.below hb;have hB4:Below w.heap.size w u3:=S3.o.1.trans (hb.mono af);have hz8:w.heap.size<=u3.heap.size:=by have:=hb.size;omega
 obtain⟨r0,r1,r2,r3,mJ,mK,mM,rf3⟩:=P4.facts;obtain⟨s0,s1,s2,IG,II,IJ⟩:=D4.facts;have S4:=au hB4;clear hb P4 D4 hB4 S3 HG q0 q1 q2 q3 Ov Ow Ox V6 d0 d1 d2 V7 V8 df2;go_wp2_with fail
 try simp only[Bb]
 refine(dI (HD.o _)) ?_;rintro r ww ⟨rfl,hw⟩;rw[hw];clear hw ww HD;go_wp2_with fail;refine(dI (HC.o _)) ?_;rintro r ww ⟨rfl,hw⟩;rw[hw];clear hw ww HC;go_wp2
 go_ret2
 exact⟨rfl,Below.qR S4.o _ _ _ Om hz8⟩
def rndK(mode:Int)(n:Bool)(X:Nat)(e:Int):Nat :=
 let p:=wC 53 (-1074) 1024 X e
 (p.2.1+1074).toNat*4503599627370496+(if p.2.2.1 then p.1 else if OP mode p.1 p.2.2.2 n then p.1+1 else p.1)
def nC(o:Option (Bool×Nat×Int))(mode:Int):Nat×Int :=
 if mode<0\/4<mode then(0,1)
 else match o with
  | none=>(0,2)
  | some (n,X,e)=>if X=0 then(0,0) else(rndK mode n X e+(if n then 9223372036854775808 else 0),0)
theorem V9(X:Nat)(e:Int):(wC 53 (-1074) 1024 X e).2.2.2=-1\/(wC 53 (-1074) 1024 X e).2.2.2=0\/(wC 53 (-1074) 1024 X e).2.2.2=1:=by
 unfold wC
 split
 · simp
 · simp only
   split
   · simp
   · simp only
     split
     · simp
     · split <;> simp
theorem qV(F:Nat)(ex:Int)(hF:F<=9007199254740992)(h0:-1074<=ex)(h1:ex<=971)(hn:ex=-1074\/4503599627370496<=F) :
 ∃ cw,floatOfInt .f64 (F:Int)=cw/\∀ u,Calls Tryz.prog 191 #[.float .f64 cw,.int .i64 ex] u fun r w'=>r=.returned (.float .f64 ((ex+1074).toNat*4503599627370496+F))/\w'=u:=by
 by_cases hz:F=0
 · subst hz;obtain rfl:ex=-1074:=af
   exact⟨0,aA,fun u=>B.Dm _ u⟩
 · obtain⟨e,g,hw⟩:=B.Sc F af hF;exact⟨_,B.F9 F e g hw,fun u=>B.OJ F e g ex u hw af hF h0 h1 hn⟩
theorem um(K:Nat)(hK:K<=9218868437227405312)(u:World):Calls Tryz.prog 110 #[.float .f64 K,.float .f64 13830554455654793216] u fun r w'=>r=.returned (.float .f64 (K+9223372036854775808))/\w'=u:=by
 have h:=B.Dj (K/4503599627370496) (K%4503599627370496) af af u;have e1:B.bw false (K/4503599627370496) (K%4503599627370496)=K:=by unfold B.bw;simp;omega
 have e2:B.bw true (K/4503599627370496) (K%4503599627370496)=K+9223372036854775808:=by unfold B.bw;simp;omega
 rw[e1,e2] at h;exact h
theorem O4{w:World}{a:Option Addr}{l c:Nat}{xs:List Nat}(hA:Arg w a l c xs)(hT:bO w)(n:Bool)(e mode:Int)(he0:-9223372036854775808<=e)(he1:e<=9223372036854775807) :
 Calls Tryz.prog 111 #[.agg #[.bool n,.slice a l c,.int .i64 e],.int .i64 mode,.agg #[.int .i64 53,.int .i64 (-1074),.int .i64 1024]] w fun r w'=>r=.returned (.tuple #[.float .f64 (nC (mkS n (val xs) e) mode).1,.int .i64 (nC (mkS n (val xs) e) mode).2])/\Below w.heap.size w w':=by
 unfold nC
 by_cases hm:mode<0\/4<mode
 · rw[if_pos hm];exact JH n a l c e mode w hm
 · rw[if_neg hm];have HF:Hid (∀ u,Below w.heap.size w u->Calls Tryz.prog 188 #[.agg #[.bool n,.slice a l c,.int .i64 e]] u fun r w'=>dh u.heap.size w' r (mkS n (val xs) e)/\Below u.heap.size u w'):=fun u hu=>mI (hA.below hu) (hT.belows hu) n e he0 he1
   cases ho:mkS n (val xs) e with
   | none =>
     rw[ho] at HF;exact OW n e mode false 0 0 2 (by rw[bB];simp) af af rfl HF
   | some d =>
     obtain⟨n1,X,e1⟩:=d;rw[ho] at HF;have FX:=di ho;simp only
     by_cases hX:X=0
     · rw[if_pos hX];exact JI n e mode n1 X e1 ((dA X).2 hX) af af HF
     · rw[if_neg hX];have pf:=Ba X e1 hX FX.down FX.up;have pm:=V9 X e1;have HP:∀ (u:World) (p:Option Addr) (q:Nat),Arg u p (ws X).length q (ws X)->Calls Tryz.prog 189 #[.agg #[.bool n1,.slice p (ws X).length q,.int .i64 e1],.agg #[.int .i64 53,.int .i64 (-1074),.int .i64 1024]] u fun r w'=>r=.returned (.agg #[.int .u64 ((wC 53 (-1074) 1024 X e1).1:Nat),.int .i64 (wC 53 (-1074) 1024 X e1).2.1,.bool (wC 53 (-1074) 1024 X e1).2.2.1,.int .i64 (wC 53 (-1074) 1024 X e1).2.2.2])/\Below u.heap.size u w':=fun u p q hA=>JG hA n1 e1 FX.down FX.up hX FX.size;unfold rndK;simp only;generalize wC 53 (-1074) 1024 X e1=P at pf pm HP |-;obtain⟨F,ex,t,mid⟩:=P;simp only at pf pm HP |-;obtain⟨p1,p2,p3,p4⟩:=pf;have HG:∀ u,Calls Tryz.prog 190 #[.agg #[.int .u64 (F:Nat),.int .i64 ex,.bool false,.int .i64 mid],.int .i64 mode,.bool n1] u fun r w'=>r=.returned (.bool (OP mode F mid n1))/\Below u.heap.size u w':=fun u=>Gd F ex false mid mode n1 u af pm af af;have lX:=iT FX
       cases t with
       | true =>
         simp only[if_true];obtain⟨cw,Bb,HD⟩:=qV F ex af p2 p3 p4
         cases n1 with
         | false =>
           simp only[dY,if_false,gU];exact Sl n e mode X e1 lX (fU hX) af af F cw _ 0 ex mid p1 Bb HF (hid HP) (hid HD)
         | true =>
           simp only[if_true];exact Sm n e mode X e1 lX (fU hX) af af F cw _ _ ex mid p1 Bb HF (hid HP) (hid HD) (hid fun u=>um _ af u)
       | false =>
         simp only[dY,if_false]
         cases hob:OP mode F mid n1 with
         | false =>
           rw[hob] at HG;simp only[dY,if_false];obtain⟨cw,Bb,HD⟩:=qV F ex af p2 p3 p4
           cases n1 with
           | false =>
             simp only[dY,if_false,gU];exact OY n e mode X e1 lX (fU hX) af af F cw _ 0 ex mid p1 Bb HF (hid HP) (hid HG) (hid HD)
           | true =>
             simp only[if_true];exact OZ n e mode X e1 lX (fU hX) af af F cw _ _ ex mid p1 Bb HF (hid HP) (hid HG) (hid HD) (hid fun u=>um _ af u)
         | true =>
           rw[hob] at HG;simp only[if_true];obtain⟨cw,Bb,HD⟩:=qV (F+1) ex af p2 p3 af
           cases n1 with
           | false =>
             simp only[dY,if_false,gU];exact O0 n e mode X e1 lX (fU hX) af af F cw _ 0 ex mid p1 (by simpa using Bb) HF (hid HP) (hid HG) (hid HD)
           | true =>
             simp only[if_true];exact O3 n e mode X e1 lX (fU hX) af af F cw _ _ ex mid p1 (by simpa using Bb) HF (hid HP) (hid HG) (hid HD) (hid fun u=>um _ af u)
theorem uo{w:World}{a:Option Addr}{l c:Nat}{xs:List Nat}(hA:Arg w a l c xs)(hT:bO w)(n:Bool)(e mode:Int)(he0:-9223372036854775808<=e)(he1:e<=9223372036854775807) :
 Calls Tryz.prog 54 #[.agg #[.bool n,.slice a l c,.int .i64 e],.int .i64 mode] w fun r w'=>r=.returned (.tuple #[.float .f64 (nC (mkS n (val xs) e) mode).1,.int .i64 (nC (mkS n (val xs) e) mode).2])/\Below w.heap.size w w':=by
 have hb0:=ag w (.cells #[.bool n,.slice a l c,.int .i64 e] 77);have H:=hid (O4 (hA.below hb0) (hT.belows hb0) n e mode he0 he1);have S0:=au hb0;obtain⟨⟨K,er⟩,hK⟩:∃ K,nC (mkS n (val xs) e) mode=K:=⟨_,rfl⟩;rw[hK] at H |-;simp only at H |-;clear hA hT hb0 hK;go_enter Tryz.func54,Tryz.ntmps54;go_wp2_with fail;refine H.o.mono ?_;rintro r u1 ⟨rfl,hb⟩;have S1:=au hb;clear hb;go_wp2
 go_ret2
 exact⟨rfl,S0.o.trans (S1.o.mono aL)⟩
def rd7(V:Int)(s:Sp)(mode a b:Int):Nat×Int :=
 if (RU V s mode a b).2.1 then((RU V s mode a b).1,0) else nC (mkS (dN (mi V)) (dX (mi V)) (dE (mi V))) mode
theorem ZQ(V:Int)(s:Sp)(mode a b:Int):(RU V s mode a b).2.2=0:=by
 unfold RU
 split
 · rfl
 · split <;> rfl
theorem Sn{V:Int}(h0:-(HB:Int)<V)(h1:V<(HB:Int)):(ws (dX (mi V))).length<=133:=by
 refine(cO _ 133).2 ?_;have e:pw 133=PB:=by unfold PB;rfl
 rw[e];have hp:=LU;have hq:=oJ;refine iC (m:=V.natAbs) ?_ af;unfold mi mkS dX
 split
 · exact jd _
 · split
   · exact jd _
   · exact uU _ _
theorem Gf(V:Int):-9223372036854775808<=dE (mi V)/\dE (mi V)<=9223372036854775807:=by
 unfold mi mkS dE
 split
 · simp
 · split
   · simp
   · next h=>simp only[Cf];omega
theorem Tryz.Sq:Tryz.zeroCells152=((List.replicate 133 0).map U++Sp.cells ⟨0,0,0,0,0,0⟩).toArray:=by kernel_rfl
theorem O5{w:World}{g:Nat}(h:Bl w g 152 ((List.replicate 133 0).map U++Sp.cells ⟨0,0,0,0,0,0⟩)):kG w g 0 ⟨0,0,0,0,0,0⟩ :=
 ⟨List.replicate 133 0,aL,Wf.zeros 133,by rw[kK];simp,by have:=oJ;omega,by have:=oJ;omega,h⟩
theorem New7(w:World):Calls Tryz.prog 60 #[] w fun r w'=>r=.returned (.pointer (some ⟨w.heap.size,0,none⟩))/\kG w' w.heap.size 0 ⟨0,0,0,0,0,0⟩/\Below w.heap.size w w':=by
 go_enter Tryz.func60,Tryz.ntmps60;go_wp2;go_ret;refine⟨rfl,?_,ak _ _⟩;rw[Tryz.Sq];exact O5 (Bl.new _ _ _)
def QB:Nat:=HB/4398046511104
theorem Qbc{P:Prop}(h:P:=by
 unfold QB;rw[CY k hk,show k=42+j by omega,aW];have e:(2:Nat)^42=4398046511104:=aA
 rw[e,zZ _ aA]):P:=h
theorem Me:HB=4398046511104*QB:=by
 obtain⟨k,hk⟩:∃ k,k=4238:=⟨_,rfl⟩;obtain⟨j,hj⟩:∃ j,j=4196:=⟨_,rfl⟩;exact Qbc
theorem Dq:0<QB:=by have:=Me;have:=oJ;omega
theorem yo(x y:Nat)(hx:x<18446744073709551616)(hy:y<18446744073709551616):-(QB:Int)<=pT x y/\pT x y<=(QB:Int):=by
 have hp:=Dq
 have e2:∃ j,j=4196/\QB=2^j:=by
  obtain⟨k,hk⟩:∃ k,k=4238:=⟨_,rfl⟩;obtain⟨j,hj⟩:∃ j,j=4196:=⟨_,rfl⟩;refine⟨j,hj,?_⟩;exact Qbc
 obtain⟨j,hj,hq⟩:=e2;unfold pT Yx
 split
 · have f1:=mH (eW x) (fW x) (iN x hx).2.2;have f2:=mH (eW y) (fW y) (iN y hy).2.2;have x1:=mG (eW x) (iN x hx).2.1;have x2:=mG (eW y) (iN y hy).2.1
   have h1:wm x*wm y<2^106:=by
    exact Qau
   have h3:wm x*wm y*2^(FN x+FN y+2148).toNat<QB:=by
    rw[hq];exact Qbq
   have:=AO (!RD x==RD y) _ _ h3;omega
 · constructor <;> omega
def Sp.pos(s:Sp):Prop:=0<=s.n/\0<=s.u/\0<=s.d/\0<=s.m/\0<=s.p/\s.n+s.u+s.d+s.m+s.p<=s.a
theorem Sp.pos.cnt{s:Sp}(h:s.pos)(k:Nat)(hk:k<=5):(s.cnt k 1).pos:=by
 obtain⟨h0,h1,h2,h3,h4,h5⟩:=h;have hc:k=0\/k=1\/k=2\/k=3\/k=4\/k=5:=af
 rcases hc with rfl|rfl|rfl|rfl|rfl|rfl <;> (unfold Sp.pos Sp.cnt;simp;omega)
theorem Sp.pos.ok{s:Sp}(h:s.pos)(ha:s.a<=4398046511104):s.ok:=by
 obtain⟨h0,h1,h2,h3,h4,h5⟩:=h;unfold Sp.ok;omega
theorem cnt_a(s:Sp)(k:Nat)(c:Int):(s.cnt k c).a=s.a+c:=rfl
theorem Sr(V:Int)(s:Sp)(k:Nat)(T:Int)(h0:-(HB:Int)<V+T)(h1:V+T<(HB:Int))(ha:s.a<1099511627776):zO V s k T=(0,V+T,s.cnt k 1):=by
 unfold zO AJ;rw[if_neg af,if_pos ⟨h0,h1⟩]
def vS(l:List Nat):Int:=l.foldl (fun v x=>v+pT x 4607182418800017408) 0
def sS(l:List Nat):Sp:=l.foldl (fun s x=>s.cnt (pK x 4607182418800017408) 1) ⟨0,0,0,0,0,0⟩
theorem oO(l:List Nat)(k:Nat)(h:k<l.length):l.take (k+1)=l.take k++[l.getD k 0]:=by
 rw[xm h,aS,aY h];rfl
theorem Dt(l:List Nat)(k:Nat)(h:k<l.length):vS (l.take (k+1))=vS (l.take k)+pT (l.getD k 0) 4607182418800017408:=by
 rw[oO l k h];simp[vS,List.foldl_append]
theorem Du(l:List Nat)(k:Nat)(h:k<l.length):sS (l.take (k+1))=(sS (l.take k)).cnt (pK (l.getD k 0) 4607182418800017408) 1:=by
 rw[oO l k h];simp[sS,List.foldl_append]
theorem sj(l:List Nat)(hl:eD l):∀ k,k<=l.length->-((k*QB:Nat):Int)<=vS (l.take k)/\vS (l.take k)<=((k*QB:Nat):Int)
 | 0,_=>by simp[vS]
 | k+1,h=>by
   obtain⟨h1,h2⟩:=sj l hl k af;have h3:=yo (l.getD k 0) 4607182418800017408 (hl.get k) aA;rw[Dt l k h];have e:((k+1)*QB:Nat)=k*QB+QB:=by rw[dV,jF]
   omega
theorem Dv(l:List Nat):∀ k,k<=l.length->(sS (l.take k)).pos/\(sS (l.take k)).a=k
 | 0,_=>⟨by rw[List.take_zero];unfold Sp.pos sS;decide,rfl⟩
 | k+1,h=>by
   obtain⟨h1,h2⟩:=Dv l k af;rw[Du l k h];refine⟨h1.cnt _ (Yy _ _ _),?_⟩;rw[cnt_a,h2];omega
theorem qs{P:Prop}(h:P:=by
 obtain⟨b,off,rfl,hc⟩:=HX.o.2.1.at HA.o.r2 k (by rw[<-HX.o.1];exact hk);obtain⟨x,hx⟩:=ah (xs.getD k 0);rw[<-hx] at hc
 have C:Hid (Calls Tryz.prog 61 #[.pointer (some ⟨g,0,none⟩),.float .f64 x] wr (Did g wr (0,vS (xs.take (k+1)),sS (xs.take (k+1))))):=by
  have hk2:k<xs.length:=by rw[<-HX.o.1];exact hk
  obtain⟨p1,p2⟩:=Dv xs k af;obtain⟨v1,v2⟩:=sj xs HX.o.r2.1 k af;have yt:x<18446744073709551616:=by rw[hx];exact HX.o.r2.1.get k
  have hsm:=yo x 4607182418800017408 yt aA;have hl:=HX.o.r4;have hkq:k*QB<=65536*QB:=dF _ af;have hQ:=Me;have hqp:=Dq;have C:=Add7 g (vS (xs.take k)) (sS (xs.take k)) x wr HA.o.1 (p1.ok af) yt;rw[Sr _ _ _ _ af af af] at C;rw[Dt xs k hk2,Du xs k hk2,<-hx];exact C
 have hkb:k<4611686018427387904:=by have:=HX.o.r4;omega
 clear hx;go_wp2_with fail;refine(C.o).mono ?_;rintro r w3 ⟨rfl,hA3,aF⟩;have H3:=bM hA3 (HA.o.2.1.but aF (by have:=P2.o.r2.1;omega)) (But.below HA.o.r2 aF HA.o.r2.size (by have:=P2.o.r2.1;omega));clear hA3 aF C;go_wp2;go_roundg (gk-1)
 case measure=>omega
 case rel=>exact⟨k+1,af,by first | rfl | simp,H3.o⟩):P:=h
theorem JJ (xs:List Nat) (a:Option Addr) (n c:Nat) (mode pa pb:Int) (X:Nat) (er:Int) (w:World) (hn:n=xs.length) (hF:Fs w.heap.size w a xs) (hW:eD xs) (hT:bO w) (hm0:0<=mode) (hm1:mode<=4) (hab:may pa pb=true) (hl:n<=65536)
 (HR:Hid (∀ (g:Nat) (u:World),kG u g (vS xs) (sS xs)->(sS xs).ok->bO u->Calls Tryz.prog 62 #[.pointer (some ⟨g,0,none⟩),.int .i64 mode,.agg #[.int .i64 pa,.int .i64 pb]] u fun r w'=>r=.returned (.tuple #[.float .f64 X,.int .i64 er])/\Below u.heap.size u w')) :
 Calls Tryz.prog 17 #[.slice a n c,.int .i64 mode,.agg #[.int .i64 pa,.int .i64 pb]] w fun r w'=>r=.returned (.tuple #[.float .f64 X,.int .i64 er])/\Below w.heap.size w w':=by
 have HM:=hid (fun u:World=>jR pa pb u);rw[hab] at HM;have HX:=iq hn hF hW hT hl;have b0:decide (mode<0)=false:=by simp;omega
 have b1:decide (4<mode)=false:=by simp;omega
 have b2:decide ((65536:Int)<(n:Int))=false:=by simp;omega
 have b3:decide (65536<n)=false:=by simp;omega
 clear hn hF hW hT hm0 hm1 hab hl;go_enter Tryz.func17,Tryz.ntmps17;go_wp2_with fail;refine(HM.o _).mono ?_;rintro r w1 ⟨rfl,hb1⟩
 have P1:Aside (Bl w1 w.heap.size 34 [.int .i64 pa,.int .i64 pb]/\Below w.heap.size w w1/\w.heap.size<w1.heap.size):=by
  have e0:=ak w (Obj.cells #[.int .i64 pa,.int .i64 pb] 34);exact⟨(Bl.new w 34 [_,_]).below hb1 aL,e0.trans (hb1.mono aL),by have:=hb1.size;simp at this;omega⟩
 clear hb1 HM;go_wp2_with fail;refine(New7 w1).mono ?_;rintro r w2 ⟨rfl,hA,hb2⟩;obtain⟨g,hg⟩:=ah (w1.heap.size);rw[<-hg] at hA |-
 have P2:Aside (Bl w2 w.heap.size 34 [.int .i64 pa,.int .i64 pb]/\Below w.heap.size w w2/\w.heap.size<g/\kG w2 g 0 ⟨0,0,0,0,0,0⟩) :=
  ⟨P1.o.1.below hb2 P1.o.r2,P1.o.2.1.trans (hb2.mono P1.o.2.1.size),by rw[hg];exact P1.o.r2,hA⟩
 clear hb2 hA hg P1;go_wp2
 go_loopg [30] n (fun gk i wr=>∃ k:Nat,gk+k=n/\i=.int .i64 (k:Nat)/\Aside (kG wr g (vS (xs.take k)) (sS (xs.take k))/\Bl wr w.heap.size 34 [.int .i64 pa,.int .i64 pb]/\Below w.heap.size w wr))
 case atStart=>exact⟨0,af,aL,by simpa [vS,sS] using P2.o.r3,P2.o.1,P2.o.2.1⟩
 case round =>
  obtain⟨k,iL,rfl,HA⟩:=hrel
  by_cases hk:k<n
  · exact qs
  · have hd:decide ((k:Int)<n)=false:=by simp;omega
    have q0:=HA.o.2.1.cell 0 _ rfl;have q1:=HA.o.2.1.cell 1 _ rfl
    have C:Hid (Calls Tryz.prog 62 #[.pointer (some ⟨g,0,none⟩),.int .i64 mode,.agg #[.int .i64 pa,.int .i64 pb]] wr fun r w'=>r=.returned (.tuple #[.float .f64 X,.int .i64 er])/\Below wr.heap.size wr w'):=by
     have e:xs.take k=xs:=by rw[jc];rw[<-HX.o.1];omega
     have hA:=HA.o.1;obtain⟨p1,p2⟩:=Dv xs k (by rw[<-HX.o.1];omega);rw[e] at hA p1 p2;have hl:=HX.o.r4;exact HR.o g wr hA (p1.ok af) (HX.o.r3.1.belows HA.o.r2)
    clear HR;go_wp2_with fail;refine(C.o).mono ?_;rintro r w3 ⟨rfl,hb3⟩;have B3:=au (HA.o.r2.trans (hb3.mono HA.o.r2.size));clear hb3 C;go_wp2
    go_ret2
    exact⟨rfl,B3.o⟩
attribute [local go_sem] B.bu B.aM
theorem gZ{P:Program}{w:World}(a:Addr)(k:FloatKind)(n:Nat)(m:Mode):(store a (.float k n) m).run P w=stored P w a (.float k n) m:=run_store P w a _ m rfl
def oddW:Nat:=9221120237041090560
def bN(z:Nat):Bool:=decide (9218868437227405312<z%9223372036854775808)
theorem bwz(z:Nat)(h:z<18446744073709551616):∃ s e f,e<2048/\f<4503599627370496/\z=B.bw s e f/\B.odd e f=bN z:=by
 refine⟨decide (9223372036854775808<=z),z%9223372036854775808/4503599627370496,z%4503599627370496,af,af,?_,?_⟩
 · unfold B.bw
   by_cases h1:9223372036854775808<=z
   · simp only[h1,decide_true,iD];omega
   · simp only[h1,decide_false,iE];omega
 · unfold B.odd bN;rw[xG];simp only[xD,beq_iff_eq,bne_iff_ne,ne_eq,decide_eq_true_eq];omega
end
end Go.Proofs.YtaejmlkaefnbhaaGreatDoor
