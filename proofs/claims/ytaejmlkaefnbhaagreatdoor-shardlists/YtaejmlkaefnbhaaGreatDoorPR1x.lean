import Derived.Test.YtaejmlkaefnbhaaGreatDoorS11ax
import Derived.Deep.RegionWith
import Derived.Test.YtaejmlkaefnbhaaGreatDoorZ7x
import Derived.RangeFuncNested
import Derived.RangeFuncBound
import Derived.RangeFuncCalls
import Derived.RangeFuncLeaves
import Derived.RangeFuncBox
import Derived.Shelf.Abstract
import Derived.Shelf.RegionOpen
import Derived.WalkKit
import Derived.OwnWalkIn
import Derived.TacticsInMore
import Derived.LoopNIn
import Derived.LoopIn
import Derived.Test.YtaejmlkaefnbhaaGreatDoorD21x
import Derived.Test.YtaejmlkaefnbhaaGreatDoorD16x
import Derived.Test.YtaejmlkaefnbhaaGreatDoorX2x
import Derived.Test.YtaejmlkaefnbhaaGreatDoorD30x
import Derived.Deep.RegionHeld3
import Derived.Test.YtaejmlkaefnbhaaGreatDoorW24x
import Derived.Deep.CutRange
import Derived.Test.YtaejmlkaefnbhaaGreatDoorBW6x
import Derived.BigQuiet
import Derived.Deep.Cut
import Derived.Test.YtaejmlkaefnbhaaGreatDoorBIeeex
import Derived.Deep.RegionHeld
import Derived.Laws.CopyOwn
import Derived.Laws.Bits64b
import Derived.Test.YtaejmlkaefnbhaaGreatDoorW14x
import Derived.Maps.AppendAt
import Derived.Laws.OwnMore
set_option linter.unusedVariables false
set_option linter.unusedSimpArgs false
set_option maxHeartbeats 16000000
set_option maxRecDepth 20000
namespace Go.Proofs.YtaejmlkaefnbhaaGreatDoor
namespace J
end J
section
open Go.RowKit
open Go.Proofs.YtaejmlkaefnbhaaGreatDoor.B (bu aM bw)
attribute [local go_sem] bu aM
def kd(b:Nat):Nat :=
 if 9218868437227405312<b%9223372036854775808 then 5
 else if b%9223372036854775808=9218868437227405312 then(if b/9223372036854775808=1 then 4 else 3)
 else if b%9223372036854775808=0 then(if b/9223372036854775808=1 then 1 else 2)
 else 0
def kp(k:Nat):Nat:=if k=5 then 0 else if k=3 then 1 else if k=4 then 2 else if k=1 then 3 else if k=2 then 4 else 5
theorem kd_bw(s:Bool)(e f:Nat)(he:e<2048)(hf:f<4503599627370496):kd (bw s e f)=if e=2047 then(if f=0 then(if s then 4 else 3) else 5) else if e=0/\f=0 then(if s then 1 else 2) else 0:=by
 unfold kd bw;have h1:(s.toNat*9223372036854775808+e*4503599627370496+f)%9223372036854775808=e*4503599627370496+f:=by cases s <;> simp only[iD,iE] <;> omega
 have h2:(s.toNat*9223372036854775808+e*4503599627370496+f)/9223372036854775808=s.toNat:=by cases s <;> simp only[iD,iE] <;> omega
 rw[h1,h2]
 by_cases he2:e=2047
 · subst he2;rw[if_pos rfl]
   by_cases hf0:f=0
   · subst hf0;cases s <;> simp
   · rw[if_pos af,if_neg hf0]
 · rw[if_neg he2,if_neg af,if_neg af]
   by_cases h0:e=0/\f=0
   · obtain⟨rfl,rfl⟩:=h0;cases s <;> simp
   · rw[if_neg af,if_neg h0]
theorem yK(neg:Bool)(a b:Int)(w:World):Calls Tryz.prog 204 #[.bool neg,.int .i64 a,.int .i64 b] w fun r w'=>r=.returned (.int .i64 (if neg then a else b))/\w'=w:=by
 cases neg <;>
 · go_enter Tryz.func204,Tryz.ntmps204;go_wp2;exact Ks
theorem xF{P:Prop}(h:P:=by
 go_enter Tryz.func124,Tryz.ntmps124;go_wp2_with fail;refine(H.o _).mono ?_;rintro r w1 ⟨rfl,hb1⟩;have HB:=au hb1;have hz:=hb1.size;clear hb1;go_wp2;go_ret;exact⟨rfl,(HB.o.alloc hz _)⟩):P:=h
theorem jt{P:Prop}(h:P:=by
 rw[hk];clear hc hg hx hk;go_enter Tryz.func124,Tryz.ntmps124;go_wp2_with fail;refine(H.o _).mono ?_;rintro r w1 ⟨rfl,hb1⟩;have HB:=au hb1;have hz:=hb1.size;clear hb1;go_wp2_with fail;refine(HS.o _).mono ?_;rintro r w2 ⟨rfl,rfl⟩;go_wp2;go_ret;exact⟨rfl,(HB.o.alloc hz _)⟩):P:=h
theorem Tv(b:Nat)(hb:b<18446744073709551616)(w:World):Calls Tryz.prog 124 #[.float .f64 b] w fun r w'=>r=.returned (.int .i64 (kp (kd b):Nat))/\Below w.heap.size w w':=by
 obtain⟨s,e,f,he,hf,rfl⟩:=B.bw_of b hb;rw[kd_bw s e f he hf];have H:=hid (B.mE s e f he hf);obtain⟨x1,hx1⟩:∃ x,B.xp e=x:=⟨_,rfl⟩;obtain⟨x2,hx2⟩:∃ x,B.fr e f=x:=⟨_,rfl⟩;rw[hx1,hx2] at H;clear hx1 hx2 hb
 by_cases he2:e=2047
 · subst he2
   by_cases hf0:f=0
   · subst hf0;have hc:B.cls 2047 0=3:=by unfold B.cls;rw[if_pos rfl,if_pos rfl]
     have hg:B.ng s 2047 0=s:=by unfold B.ng;rw[if_neg aL]
     rw[hc,hg] at H;rw[if_pos rfl,if_pos rfl];have HS:=hid (yK s 2 1);obtain⟨x,hx⟩:∃ x:Int,(if s then 2 else 1)=x:=⟨_,rfl⟩;rw[hx] at HS;have hk:((kp (if s then 4 else 3):Nat):Int)=x:=by cases s <;> (subst hx;rfl)
     exact jt
   · have hc:B.cls 2047 f=4:=by unfold B.cls;rw[if_pos rfl,if_neg hf0]
     rw[hc] at H;rw[if_pos rfl,if_neg hf0];obtain⟨x3,hx3⟩:∃ x,B.ng s 2047 f=x:=⟨_,rfl⟩;rw[hx3] at H;clear hc hx3;exact xF
 · rw[if_neg he2];have hg:B.ng s e f=s:=by unfold B.ng;rw[if_neg (fun h=>he2 h.1)]
   rw[hg] at H
   by_cases h0:e=0/\f=0
   · obtain⟨rfl,rfl⟩:=h0;have hc:B.cls 0 0=0:=by unfold B.cls;rw[if_neg af,if_pos rfl,if_pos rfl]
     rw[hc] at H;rw[if_pos ⟨rfl,rfl⟩];have HS:=hid (yK s 3 4);obtain⟨x,hx⟩:∃ x:Int,(if s then 3 else 4)=x:=⟨_,rfl⟩;rw[hx] at HS;have hk:((kp (if s then 1 else 2):Nat):Int)=x:=by cases s <;> (subst hx;rfl)
     exact jt
   · rw[if_neg h0]
     obtain⟨c,hc,h1,h2,h3⟩:∃ c:Int,B.cls e f=c/\(c==4)=false/\(c==3)=false/\(c==0)=false:=by
      unfold B.cls;rw[if_neg he2]
      by_cases he0:e=0
      · rw[if_pos he0,if_neg (fun h=>h0 ⟨he0,h⟩)];exact⟨_,rfl,aA,aA,aA⟩
      · rw[if_neg he0];exact⟨_,rfl,aA,aA,aA⟩
     rw[hc] at H;clear hc hg;exact xF
end
section
open Go Go.RowKit J
theorem jM{B g:Nat}{a w:World}(h:Below B a w)(hB:B<=w.heap.size)(hg:B<=g)(x y z:Value):Below B a (dx w g x y z):=But.below h (uD g w x y z) hB hg
theorem row14d:∃ d:TypeDesc,Tryz.prog.underlying 77=some d/\d.isRow=true:=by
 have h:(Tryz.prog.underlying 77).any (·.isRow)=true:=by kernel_rfl
 cases hd:Tryz.prog.underlying 77 with
 | none=>rw[hd] at h;cases h
 | some d=>rw[hd] at h;exact⟨d,rfl,h⟩
theorem WT:(Tryz.prog.info? 77).map (·.size)=some 3:=by kernel_rfl
theorem sJ{fn:Func}{p:Tmp}(h:fn.results=#[.cell p 77])(tmps:Array Value)(W:World)(g:Nat)(n:Bool)(v:Value)(e:Int)(hp:tmps.getD p undef=.pointer (some ⟨g,0,none⟩))(hD:Dk W g n v e) :
 (results fn tmps).run Tryz.prog W=.ok (.agg #[.bool n,v,.int .i64 e]) W:=by
 obtain⟨d,h1,h2⟩:=row14d
 cases d <;> first
  | exact results_cell_row (P:=Tryz.prog) h tmps W g 77 _ _ _ hp hD h1 rfl (by rw[WT];rfl)
  | exact absurd h2 (by simp[TypeDesc.isRow])
theorem qI {fn:Func}{p:Tmp}(hfn:fn.results=#[.cell p 77]) {w base:World}{tmps:Array Value}{o q:Option (Bool×Nat×Int)}{a:Option Addr}{c g:Nat}(h2:tmps.getD p undef=.pointer (some ⟨g,0,none⟩))
 (hL:Lo base g q) (hbw:Below w.heap.size w base) (hg:w.heap.size<=g) (hN:Nt 0 base (.slice a (ws (dX o)).length c) (dX o)) :
 bodyPost Tryz.prog fn (fun r w'=>fD 0 w' r o/\Below w.heap.size w w') .ret ⟨tmps,[]⟩
  (((base.setCell ⟨g,0,none⟩ (.bool (dN o))).setCell ⟨g,1,none⟩ (.slice a (ws (dX o)).length c)).setCell ⟨g,2,none⟩ (.int .i64 (dE o))):=by
 obtain⟨a0,c0,hD,hM⟩:=hL;exact aJ (v:=.agg #[.bool (dN o),.slice a (ws (dX o)).length c,.int .i64 (dE o)]) (sJ hfn _ _ g _ _ _ h2 (hD.set _ _ _)) rfl ⟨⟨_,rfl,hN.Mm hD _ _ _⟩,jM hbw hbw.size hg _ _ _⟩
theorem zd{P:Prop}(h:P:=by
 rw[hU];have b0:=H0.o.r3;exact⟨(H0.o.r2.1.below hb).below (ag _ _),Dk.new _ _ _ _,hN0.below (ag _ _),(b0.trans (hb.mono b0.size)).trans ((ag _ _).mono (aV b0.size hb.size))⟩):P:=h
theorem UP{P:Prop}(h:P:=by
 subst hW;have z1:=Dk.new (w.alloc (Obj.cells #[.bool (dN o),.slice a (ws (dX o)).length ca,.int .i64 (dE o)] 77)) (dN p) (.slice b (ws (dX p)).length cb) (dE p);have z2:=Lo.zero ((w.alloc (Obj.cells #[.bool (dN o),.slice a (ws (dX o)).length ca,.int .i64 (dE o)] 77)).alloc (Obj.cells #[.bool (dN p),.slice b (ws (dX p)).length cb,.int .i64 (dE p)] 77));rw[dL] at z1;rw[dL,dL] at z2;exact⟨((Dk.new _ _ _ _).below (ag _ _)).below (ag _ _),z1.below (ag _ _),z2,((ag _ _).trans ((ag _ _).mono aL)).trans ((ag _ _).mono (by simp;omega))⟩):P:=h
theorem DU (w:World) (a b:Option Addr) (ca cb:Nat) (o p q:Option (Bool×Nat×Int)) (F:Fm q)
 (HC:Hid (∀ u:World,Below w.heap.size w u->Calls Tryz.prog 194 #[.agg #[.bool (dN o),.slice a (ws (dX o)).length ca,.int .i64 (dE o)],.agg #[.bool (dN p),.slice b (ws (dX p)).length cb,.int .i64 (dE p)]] u fun r w'=>(∃ v,r=.returned (.tuple #[.agg #[.bool (dN q),v,.int .i64 (dE q)],.int .i64 0])/\Nt u.heap.size w' v (dX q))/\Below u.heap.size u w')) :
 Calls Tryz.prog 196 #[.agg #[.bool (dN o),.slice a (ws (dX o)).length ca,.int .i64 (dE o)],.agg #[.bool (dN p),.slice b (ws (dX p)).length cb,.int .i64 (dE p)]] w fun r w'=>fD 0 w' r q/\Below w.heap.size w w':=by
 obtain⟨W,hW⟩:=ah (((w.alloc (Obj.cells #[.bool (dN o),.slice a (ws (dX o)).length ca,.int .i64 (dE o)] 77)).alloc (Obj.cells #[.bool (dN p),.slice b (ws (dX p)).length cb,.int .i64 (dE p)] 77)).alloc (Obj.cells #[.bool false,.slice none 0 0,.int .i64 0] 77))
 have H0:Aside (Dk W w.heap.size (dN o) (.slice a (ws (dX o)).length ca) (dE o)/\Dk W (w.heap.size+1) (dN p) (.slice b (ws (dX p)).length cb) (dE p)/\Lo W (w.heap.size+2) dz/\Below w.heap.size w W):=by
  exact UP
 have HW:=au hW;have Mr:=hid (HC.o W H0.o.r3);have FF:=au F;clear hW HC F;go_enter Tryz.func196,Tryz.ntmps196
 go_upto_region 1 with fail
 rw[<-HW.o];clear HW;obtain⟨x0,x1,x2,dB,dC,dD⟩:=H0.o.1.facts;obtain⟨y0,y1,y2,eF,eG,eO⟩:=H0.o.2.1.facts;go_wp2_with fail;refine Mr.o.mono ?_;rintro r u ⟨⟨v,rfl,hN⟩,hb⟩;obtain⟨a1,c1,rfl,hN0⟩:=Lo.shape FF.o hN;obtain⟨U,hU⟩:=ah (u.alloc (Obj.cells #[.bool (dN q),.slice a1 (ws (dX q)).length c1,.int .i64 (dE q)] 77))
 have H1:Aside (Lo U (w.heap.size+2) dz/\Dk U u.heap.size (dN q) (.slice a1 (ws (dX q)).length c1) (dE q)/\Nt 0 U (.slice a1 (ws (dX q)).length c1) (dX q)/\Below w.heap.size w U):=by
  exact zd
 obtain⟨gq,vD⟩:=ah (u.heap.size);rw[<-vD] at H1;have HU:=(aT hU vD);clear hU hN hN0 hb Mr H0 x0 x1 x2 dB dC dD y0 y1 y2 eF eG eO vD
 go_upto_region 2 with fail
 rw[<-HU.o.1,<-HU.o.2];clear HU;obtain⟨x0,x1,x2,dB,dC,dD⟩:=H1.o.2.1.facts;obtain⟨p4,q4,D4,M4⟩:=H1.o.1;obtain⟨y0,y1,y2,eF,eG,eO⟩:=D4.facts;clear D4 M4;go_wp2;exact qI Tryz.results196 rfl H1.o.1 H1.o.r3 af H1.o.r2.1
theorem GD (w:World) (a b:Option Addr) (ca cb:Nat) (o p q:Option (Bool×Nat×Int)) (F:Fm q)
 (HC:Hid (∀ u:World,Below w.heap.size w u->Calls Tryz.prog 101 #[.agg #[.bool (dN o),.slice a (ws (dX o)).length ca,.int .i64 (dE o)],.agg #[.bool (dN p),.slice b (ws (dX p)).length cb,.int .i64 (dE p)]] u fun r w'=>(∃ v,r=.returned (.tuple #[.agg #[.bool (dN q),v,.int .i64 (dE q)],.int .i64 0])/\Nt u.heap.size w' v (dX q))/\Below u.heap.size u w')) :
 Calls Tryz.prog 253 #[.agg #[.bool (dN o),.slice a (ws (dX o)).length ca,.int .i64 (dE o)],.agg #[.bool (dN p),.slice b (ws (dX p)).length cb,.int .i64 (dE p)]] w fun r w'=>fD 0 w' r q/\Below w.heap.size w w':=by
 obtain⟨W,hW⟩:=ah (((w.alloc (Obj.cells #[.bool (dN o),.slice a (ws (dX o)).length ca,.int .i64 (dE o)] 77)).alloc (Obj.cells #[.bool (dN p),.slice b (ws (dX p)).length cb,.int .i64 (dE p)] 77)).alloc (Obj.cells #[.bool false,.slice none 0 0,.int .i64 0] 77))
 have H0:Aside (Dk W w.heap.size (dN o) (.slice a (ws (dX o)).length ca) (dE o)/\Dk W (w.heap.size+1) (dN p) (.slice b (ws (dX p)).length cb) (dE p)/\Lo W (w.heap.size+2) dz/\Below w.heap.size w W):=by
  exact UP
 have HW:=au hW;have Mr:=hid (HC.o W H0.o.r3);have FF:=au F;clear hW HC F;go_enter Tryz.func253,Tryz.ntmps253
 go_upto_region 1 with fail
 rw[<-HW.o];clear HW;obtain⟨x0,x1,x2,dB,dC,dD⟩:=H0.o.1.facts;obtain⟨y0,y1,y2,eF,eG,eO⟩:=H0.o.2.1.facts;go_wp2_with fail;refine Mr.o.mono ?_;rintro r u ⟨⟨v,rfl,hN⟩,hb⟩;obtain⟨a1,c1,rfl,hN0⟩:=Lo.shape FF.o hN;obtain⟨U,hU⟩:=ah (u.alloc (Obj.cells #[.bool (dN q),.slice a1 (ws (dX q)).length c1,.int .i64 (dE q)] 77))
 have H1:Aside (Lo U (w.heap.size+2) dz/\Dk U u.heap.size (dN q) (.slice a1 (ws (dX q)).length c1) (dE q)/\Nt 0 U (.slice a1 (ws (dX q)).length c1) (dX q)/\Below w.heap.size w U):=by
  exact zd
 obtain⟨gq,vD⟩:=ah (u.heap.size);rw[<-vD] at H1;have HU:=(aT hU vD);clear hU hN hN0 hb Mr H0 x0 x1 x2 dB dC dD y0 y1 y2 eF eG eO vD
 go_upto_region 2 with fail
 rw[<-HU.o.1,<-HU.o.2];clear HU;obtain⟨x0,x1,x2,dB,dC,dD⟩:=H1.o.2.1.facts;obtain⟨p4,q4,D4,M4⟩:=H1.o.1;obtain⟨y0,y1,y2,eF,eG,eO⟩:=D4.facts;clear D4 M4;go_wp2;exact qI Tryz.results253 rfl H1.o.1 H1.o.r3 af H1.o.r2.1
theorem Ms{w:World}{a b:Option Addr}{ca cb:Nat}{o p q:Option (Bool×Nat×Int)}(F:Fm o)(G:Fm p)(H:Fm q)(N1:Nt 0 w (.slice a (ws (dX o)).length ca) (dX o))(N2:Nt 0 w (.slice b (ws (dX p)).length cb) (dX p))(hT:bO w)(h:dM o p=q) :
 Calls Tryz.prog 196 #[.agg #[.bool (dN o),.slice a (ws (dX o)).length ca,.int .i64 (dE o)],.agg #[.bool (dN p),.slice b (ws (dX p)).length cb,.int .i64 (dE p)]] w fun r w'=>fD 0 w' r q/\Below w.heap.size w w' :=
 DU w a b ca cb o p q H (hid fun u hu=>Tu F G (N1.below hu) (N2.below hu) (hT.belows hu) h H)
theorem Tw{w:World}{a b:Option Addr}{ca cb:Nat}{o p q:Option (Bool×Nat×Int)}(F:Fm o)(G:Fm p)(H:Fm q)(N1:Nt 0 w (.slice a (ws (dX o)).length ca) (dX o))(N2:Nt 0 w (.slice b (ws (dX p)).length cb) (dX p))(hT:bO w)(h:iO o p=q) :
 Calls Tryz.prog 253 #[.agg #[.bool (dN o),.slice a (ws (dX o)).length ca,.int .i64 (dE o)],.agg #[.bool (dN p),.slice b (ws (dX p)).length cb,.int .i64 (dE p)]] w fun r w'=>fD 0 w' r q/\Below w.heap.size w w' :=
 GD w a b ca cb o p q H (hid fun u hu=>Mo F G (N1.below hu) (N2.below hu) (hT.belows hu) h H)
theorem DV (w:World) (a b:Option Addr) (ca cb:Nat) (o p q:Option (Bool×Nat×Int)) (F:Fm q)
 (HC:Hid (∀ u:World,Below w.heap.size w u->Calls Tryz.prog 194 #[.agg #[.bool (dN o),.slice a (ws (dX o)).length ca,.int .i64 (dE o)],.agg #[.bool (dN p),.slice b (ws (dX p)).length cb,.int .i64 (dE p)]] u fun r w'=>(∃ v,r=.returned (.tuple #[.agg #[.bool (dN q),v,.int .i64 (dE q)],.int .i64 0])/\Nt u.heap.size w' v (dX q))/\Below u.heap.size u w')) :
 Calls Tryz.prog 138 #[.agg #[.bool (dN o),.slice a (ws (dX o)).length ca,.int .i64 (dE o)],.agg #[.bool (dN p),.slice b (ws (dX p)).length cb,.int .i64 (dE p)]] w fun r w'=>fD 0 w' r q/\Below w.heap.size w w':=by
 obtain⟨W,hW⟩:=ah (((w.alloc (Obj.cells #[.bool (dN o),.slice a (ws (dX o)).length ca,.int .i64 (dE o)] 77)).alloc (Obj.cells #[.bool (dN p),.slice b (ws (dX p)).length cb,.int .i64 (dE p)] 77)).alloc (Obj.cells #[.bool false,.slice none 0 0,.int .i64 0] 77))
 have H0:Aside (Dk W w.heap.size (dN o) (.slice a (ws (dX o)).length ca) (dE o)/\Dk W (w.heap.size+1) (dN p) (.slice b (ws (dX p)).length cb) (dE p)/\Lo W (w.heap.size+2) dz/\Below w.heap.size w W):=by
  exact UP
 have HW:=au hW;have Mr:=hid (HC.o W H0.o.r3);have FF:=au F;clear hW HC F;go_enter Tryz.func138,Tryz.ntmps138
 go_upto_region 1 with fail
 rw[<-HW.o];clear HW;obtain⟨x0,x1,x2,dB,dC,dD⟩:=H0.o.1.facts;obtain⟨y0,y1,y2,eF,eG,eO⟩:=H0.o.2.1.facts;go_wp2_with fail;refine Mr.o.mono ?_;rintro r u ⟨⟨v,rfl,hN⟩,hb⟩;obtain⟨a1,c1,rfl,hN0⟩:=Lo.shape FF.o hN;obtain⟨U,hU⟩:=ah (u.alloc (Obj.cells #[.bool (dN q),.slice a1 (ws (dX q)).length c1,.int .i64 (dE q)] 77))
 have H1:Aside (Lo U (w.heap.size+2) dz/\Dk U u.heap.size (dN q) (.slice a1 (ws (dX q)).length c1) (dE q)/\Nt 0 U (.slice a1 (ws (dX q)).length c1) (dX q)/\Below w.heap.size w U):=by
  exact zd
 obtain⟨gq,vD⟩:=ah (u.heap.size);rw[<-vD] at H1;have HU:=(aT hU vD);clear hU hN hN0 hb Mr H0 x0 x1 x2 dB dC dD y0 y1 y2 eF eG eO vD
 go_upto_region 2 with fail
 rw[<-HU.o.1,<-HU.o.2];clear HU;obtain⟨x0,x1,x2,dB,dC,dD⟩:=H1.o.2.1.facts;obtain⟨p4,q4,D4,M4⟩:=H1.o.1;obtain⟨y0,y1,y2,eF,eG,eO⟩:=D4.facts;clear D4 M4;go_wp2;exact qI Tryz.results138 rfl H1.o.1 H1.o.r3 af H1.o.r2.1
theorem GG (w:World) (a b:Option Addr) (ca cb:Nat) (o p q:Option (Bool×Nat×Int)) (F:Fm q)
 (HC:Hid (∀ u:World,Below w.heap.size w u->Calls Tryz.prog 101 #[.agg #[.bool (dN o),.slice a (ws (dX o)).length ca,.int .i64 (dE o)],.agg #[.bool (dN p),.slice b (ws (dX p)).length cb,.int .i64 (dE p)]] u fun r w'=>(∃ v,r=.returned (.tuple #[.agg #[.bool (dN q),v,.int .i64 (dE q)],.int .i64 0])/\Nt u.heap.size w' v (dX q))/\Below u.heap.size u w')) :
 Calls Tryz.prog 48 #[.agg #[.bool (dN o),.slice a (ws (dX o)).length ca,.int .i64 (dE o)],.agg #[.bool (dN p),.slice b (ws (dX p)).length cb,.int .i64 (dE p)]] w fun r w'=>fD 0 w' r q/\Below w.heap.size w w':=by
 obtain⟨W,hW⟩:=ah (((w.alloc (Obj.cells #[.bool (dN o),.slice a (ws (dX o)).length ca,.int .i64 (dE o)] 77)).alloc (Obj.cells #[.bool (dN p),.slice b (ws (dX p)).length cb,.int .i64 (dE p)] 77)).alloc (Obj.cells #[.bool false,.slice none 0 0,.int .i64 0] 77))
 have H0:Aside (Dk W w.heap.size (dN o) (.slice a (ws (dX o)).length ca) (dE o)/\Dk W (w.heap.size+1) (dN p) (.slice b (ws (dX p)).length cb) (dE p)/\Lo W (w.heap.size+2) dz/\Below w.heap.size w W):=by
  exact UP
 have HW:=au hW;have Mr:=hid (HC.o W H0.o.r3);have FF:=au F;clear hW HC F;go_enter Tryz.func48,Tryz.ntmps48
 go_upto_region 1 with fail
 rw[<-HW.o];clear HW;obtain⟨x0,x1,x2,dB,dC,dD⟩:=H0.o.1.facts;obtain⟨y0,y1,y2,eF,eG,eO⟩:=H0.o.2.1.facts;go_wp2_with fail;refine Mr.o.mono ?_;rintro r u ⟨⟨v,rfl,hN⟩,hb⟩;obtain⟨a1,c1,rfl,hN0⟩:=Lo.shape FF.o hN;obtain⟨U,hU⟩:=ah (u.alloc (Obj.cells #[.bool (dN q),.slice a1 (ws (dX q)).length c1,.int .i64 (dE q)] 77))
 have H1:Aside (Lo U (w.heap.size+2) dz/\Dk U u.heap.size (dN q) (.slice a1 (ws (dX q)).length c1) (dE q)/\Nt 0 U (.slice a1 (ws (dX q)).length c1) (dX q)/\Below w.heap.size w U):=by
  exact zd
 obtain⟨gq,vD⟩:=ah (u.heap.size);rw[<-vD] at H1;have HU:=(aT hU vD);clear hU hN hN0 hb Mr H0 x0 x1 x2 dB dC dD y0 y1 y2 eF eG eO vD
 go_upto_region 2 with fail
 rw[<-HU.o.1,<-HU.o.2];clear HU;obtain⟨x0,x1,x2,dB,dC,dD⟩:=H1.o.2.1.facts;obtain⟨p4,q4,D4,M4⟩:=H1.o.1;obtain⟨y0,y1,y2,eF,eG,eO⟩:=D4.facts;clear D4 M4;go_wp2;exact qI Tryz.results48 rfl H1.o.1 H1.o.r3 af H1.o.r2.1
theorem DX{w:World}{a b:Option Addr}{ca cb:Nat}{o p q:Option (Bool×Nat×Int)}(F:Fm o)(G:Fm p)(H:Fm q)(N1:Nt 0 w (.slice a (ws (dX o)).length ca) (dX o))(N2:Nt 0 w (.slice b (ws (dX p)).length cb) (dX p))(hT:bO w)(h:dM o p=q) :
 Calls Tryz.prog 138 #[.agg #[.bool (dN o),.slice a (ws (dX o)).length ca,.int .i64 (dE o)],.agg #[.bool (dN p),.slice b (ws (dX p)).length cb,.int .i64 (dE p)]] w fun r w'=>fD 0 w' r q/\Below w.heap.size w w' :=
 DV w a b ca cb o p q H (hid fun u hu=>Tu F G (N1.below hu) (N2.below hu) (hT.belows hu) h H)
theorem Tx{w:World}{a b:Option Addr}{ca cb:Nat}{o p q:Option (Bool×Nat×Int)}(F:Fm o)(G:Fm p)(H:Fm q)(N1:Nt 0 w (.slice a (ws (dX o)).length ca) (dX o))(N2:Nt 0 w (.slice b (ws (dX p)).length cb) (dX p))(hT:bO w)(h:iO o p=q) :
 Calls Tryz.prog 48 #[.agg #[.bool (dN o),.slice a (ws (dX o)).length ca,.int .i64 (dE o)],.agg #[.bool (dN p),.slice b (ws (dX p)).length cb,.int .i64 (dE p)]] w fun r w'=>fD 0 w' r q/\Below w.heap.size w w' :=
 GG w a b ca cb o p q H (hid fun u hu=>Mo F G (N1.below hu) (N2.below hu) (hT.belows hu) h H)
theorem ib{B:Nat}{a w:World}(h:Below B a w)(n:Nat):Below B a (w.drewN n):=⟨h.os,h.tape,h.output,h.size,h.block⟩
abbrev uE(s:Sp)(o q:Option (Bool×Nat×Int))(a1:Option Addr)(c1:Nat)(a2:Option Addr)(c2 lo hi:Nat):List Value :=
 [.int .i64 s.n,.int .i64 s.u,.int .i64 s.d,.int .i64 s.m,.int .i64 s.p,.int .i64 s.a,.bool (dN o),.slice a1 (ws (dX o)).length c1,.int .i64 (dE o),.bool (dN q),.slice a2 (ws (dX q)).length c2,.int .i64 (dE q),.float .f64 lo,.float .f64 hi]
def fe(w:World)(g:Nat)(s:Sp)(o q:Option (Bool×Nat×Int))(lo hi:Nat):Prop :=
 ∃ a1 c1 a2 c2,Bl w g 79 (uE s o q a1 c1 a2 c2 lo hi)/\Nt 0 w (.slice a1 (ws (dX o)).length c1) (dX o)/\Nt 0 w (.slice a2 (ws (dX q)).length c2) (dX q)
theorem fe.lt{w:World}{g:Nat}{s:Sp}{o q:Option (Bool×Nat×Int)}{lo hi:Nat}(h:fe w g s o q lo hi):g<w.heap.size:=by
 obtain⟨a1,c1,a2,c2,h,_⟩:=h;exact h.lt
theorem fe.aD{w w':World}{g:Nat}{s:Sp}{o q:Option (Bool×Nat×Int)}{lo hi:Nat}(h:fe w g s o q lo hi)(hb:Below w.heap.size w w'):fe w' g s o q lo hi:=by
 obtain⟨a1,c1,a2,c2,h1,h2,h3⟩:=h;exact⟨a1,c1,a2,c2,h1.below hb h1.lt,h2.below hb,h3.below hb⟩
theorem WU{lo g T:Nat}{w:World}{v:Value}{X:Nat}{C:List Value}(h:Nt lo w v X)(hB:Bl w g T C)(hT:T≠138):v.ownBlock≠some g:=by
 rcases h.2 with ⟨rfl,_⟩|⟨g',cap,cur,rfl,_,hg,_⟩
 · simp[Value.ownBlock]
 · intro e';obtain rfl:g'=g:=by simpa [Value.ownBlock] using e'
   rw[show w.heap[g']?=_ from hB] at hg;simp at hg;exact hT hg.2
theorem bZ{lo g T:Nat}{w w':World}{v:Value}{X:Nat}{C:List Value}(h:Nt lo w v X)(hB:Bl w g T C)(hT:T≠138)(hb:But g w w'):Nt lo w' v X:=h.off hb (WU h hB hT)
theorem fe.but{w w':World}{g g' T:Nat}{C:List Value}{s:Sp}{o q:Option (Bool×Nat×Int)}{lo hi:Nat}(h:fe w g s o q lo hi)(hB:Bl w g' T C)(hT:T≠138)(hb:But g' w w')(hg:g≠g'):fe w' g s o q lo hi:=by
 obtain⟨a1,c1,a2,c2,h1,h2,h3⟩:=h;exact⟨a1,c1,a2,c2,h1.but hb hg,bZ h2 hB hT hb,bZ h3 hB hT hb⟩
abbrev sp0:Sp:=⟨0,0,0,0,0,0⟩
theorem Ty(w:World):Calls Tryz.prog 26 #[] w fun r w'=>r=.returned (.pointer (some ⟨w.heap.size,0,none⟩))/\fe w' w.heap.size sp0 dz dz 0 0/\Below w.heap.size w w':=by
 go_enter Tryz.func26,Tryz.ntmps26;go_wp2;refine aJ (v:=.pointer (some ⟨w.heap.size,0,none⟩)) (by simp[results,Tryz.results26,go_sem]) rfl ?_;refine⟨rfl,⟨none,0,none,0,?_,?_,?_⟩,ak _ _⟩
 · rw[show uE sp0 dz dz none 0 none 0 0 0=[.int .i64 0,.int .i64 0,.int .i64 0,.int .i64 0,.int .i64 0,.int .i64 0,.bool false,.slice none 0 0,.int .i64 0,.bool false,.slice none 0 0,.int .i64 0,.float .f64 0,.float .f64 0] from by unfold uE;rw[Bt];rfl];exact Bl.new _ _ [_,_,_,_,_,_,_,_,_,_,_,_,_,_]
 · rw[Bt];exact Nt.nil _ _
 · rw[Bt];exact Nt.nil _ _
theorem ll{w:World}{g:Nat}{s:Sp}{o q:Option (Bool×Nat×Int)}{lo hi:Nat}(h:fe w g s o q lo hi) :
 Calls Tryz.prog 43 #[.pointer (some ⟨g,0,none⟩)] w fun r w'=>r=.returned (.bool (decide (s.n<s.a)))/\Below w.heap.size w w':=by
 obtain⟨a1,c1,a2,c2,h1,h2,h3⟩:=h;obtain⟨n,u,d,m,p,a⟩:=s;have x0:w.cell? ⟨g,0,none⟩=some (.int .i64 n):=h1.cell 0 _ rfl;have x5:w.cell? ⟨g,5,none⟩=some (.int .i64 a):=h1.cell 5 _ rfl;clear h1 h2 h3;go_enter Tryz.func43,Tryz.ntmps43;go_wp2_with fail
 go_quiet (fail)
 go_wp2;go_ret;exact⟨rfl,ib (aG _ _) _⟩
theorem WV{w:World}{g:Nat}{s:Sp}{o q:Option (Bool×Nat×Int)}{lo hi:Nat}(h:fe w g s o q lo hi) :
 Calls Tryz.prog 21 #[.pointer (some ⟨g,0,none⟩)] w fun r w'=>r=.returned (.int .i64 s.a)/\w'=w:=by
 obtain⟨a1,c1,a2,c2,h1,h2,h3⟩:=h;have x5:w.cell? ⟨g,5,none⟩=some (.int .i64 s.a):=h1.cell 5 _ rfl;clear h1 h2 h3;go_enter Tryz.func21,Tryz.ntmps21;go_wp2;go_ret;exact⟨rfl,rfl⟩
def Sp.pl(s t:Sp):Sp:=⟨s.n+t.n,s.u+t.u,s.d+t.d,s.m+t.m,s.p+t.p,s.a+t.a⟩
structure Sp.sm (s:Sp):Prop where
 n0:0<=s.n
 u0:0<=s.u
 d0:0<=s.d
 m0:0<=s.m
 p0:0<=s.p
 al:s.n+s.u+s.d+s.m+s.p<=s.a
 le:s.a<=1099511627776
theorem GH{x y:Int}(hx:0<=x/\x<=1099511627776)(hy:0<=y/\y<=1099511627776):IntKind.i64.wrap (x+y)=x+y:=by simp[IntKind.wrap,IntKind.bits,IntKind.signed];omega
theorem Tz{x y:Int}(hx:-4398046511104<=x/\x<=1099511627776)(hy:0<=y/\y<=1099511627776):IntKind.i64.wrap (x-y)=x-y:=by simp[IntKind.wrap,IntKind.bits,IntKind.signed];omega
theorem Tryz.yL:∃ d:TypeDesc,Tryz.prog.underlying 73=some d/\d.isRow=true:=by
 have h:(Tryz.prog.underlying 73).any (·.isRow)=true:=by kernel_rfl
 exact Qbr
theorem J5(s t:Sp)(hs:s.sm)(ht:t.sm)(w:World) :
 Calls Tryz.prog 47 #[s.agg,t.agg] w fun r w'=>r=.returned (s.pl t).agg/\Below w.heap.size w w':=by
 obtain⟨n,u,d,m,p,a⟩:=s;obtain⟨n',u',d',m',p',a'⟩:=t;obtain⟨i1,i2,i3,i4,i5,i6,i7⟩:=hs;obtain⟨j1,j2,j3,j4,j5,j6,j7⟩:=ht;simp only at i1 i2 i3 i4 i5 i6 i7 j1 j2 j3 j4 j5 j6 j7;have w1:=GH (x:=n) (y:=n') af af;have w2:=GH (x:=u) (y:=u') af af;have w3:=GH (x:=d) (y:=d') af af;have w4:=GH (x:=m) (y:=m') af af;have w5:=GH (x:=p) (y:=p') af af;have w6:=GH (x:=a) (y:=a') af af;unfold Sp.agg Sp.pl;simp only;clear i1 i2 i3 i4 i5 i6 i7 j1 j2 j3 j4 j5 j6 j7;obtain⟨W,nS⟩:=ah (((w.alloc (Obj.cells #[.int .i64 n,.int .i64 u,.int .i64 d,.int .i64 m,.int .i64 p,.int .i64 a] 73)).alloc (Obj.cells #[.int .i64 n',.int .i64 u',.int .i64 d',.int .i64 m',.int .i64 p',.int .i64 a'] 73)).alloc (Obj.cells #[.int .i64 0,.int .i64 0,.int .i64 0,.int .i64 0,.int .i64 0,.int .i64 0] 73))
 have H0:Aside (Bl W w.heap.size 73 [.int .i64 n,.int .i64 u,.int .i64 d,.int .i64 m,.int .i64 p,.int .i64 a]/\Bl W (w.heap.size+1) 73 [.int .i64 n',.int .i64 u',.int .i64 d',.int .i64 m',.int .i64 p',.int .i64 a']/\Bl W (w.heap.size+2) 73 [.int .i64 0,.int .i64 0,.int .i64 0,.int .i64 0,.int .i64 0,.int .i64 0]/\Below w.heap.size w W):=by
  rw[nS];exact⟨((Bl.new w _ [_,_,_,_,_,_]).alloc _).alloc _,(Bl.new' (w.alloc _) _ _ [_,_,_,_,_,_] aL).alloc _,Bl.new' _ _ _ [_,_,_,_,_,_] aL,((ak w _).trans ((ak _ _).mono aL)).trans ((ak _ _).mono (by simp;omega))⟩
 have HW:=au nS;clear nS;go_enter Tryz.func47,Tryz.ntmps47
 go_upto_region 1 with fail
 rw[<-HW.o];clear HW;obtain⟨x1,x2,x3,x4⟩:=H0.o;have c0:=x1.cell 0 _ rfl;have c1:=x1.cell 1 _ rfl;have c2:=x1.cell 2 _ rfl;have c3:=x1.cell 3 _ rfl;have c4:=x1.cell 4 _ rfl;have c5:=x1.cell 5 _ rfl;have d0:=x2.cell 0 _ rfl;have d1:=x2.cell 1 _ rfl;have d2:=x2.cell 2 _ rfl;have d3:=x2.cell 3 _ rfl;have d4:=x2.cell 4 _ rfl;have d5:=x2.cell 5 _ rfl;have e0:=x3.cell 0 _ rfl;have e1:=x3.cell 1 _ rfl;have e2:=x3.cell 2 _ rfl;have e3:=x3.cell 3 _ rfl;have e4:=x3.cell 4 _ rfl;have e5:=x3.cell 5 _ rfl;have f0:=x3.frozen 0;have f1:=x3.frozen 1;have f2:=x3.frozen 2;have f3:=x3.frozen 3;have f4:=x3.frozen 4;have f5:=x3.frozen 5;clear x1 x2 x3 x4;go_wp2;refine aJ (v:=.agg #[.int .i64 (n+n'),.int .i64 (u+u'),.int .i64 (d+d'),.int .i64 (m+m'),.int .i64 (p+p'),.int .i64 (a+a')]) (jK Tryz.results47 _ _ (w.heap.size+2) [.int .i64 (n+n'),.int .i64 (u+u'),.int .i64 (d+d'),.int .i64 (m+m'),.int .i64 (p+p'),.int .i64 (a+a')] aL ((((((H0.o.r2.1.set 0 _).set 1 _).set 2 _).set 3 _).set 4 _).set 5 _) Tryz.yL gD) rfl ?_;exact⟨rfl,But.below H0.o.r3 (((((((But.refl _ _).set 0 _).set 1 _).set 2 _).set 3 _).set 4 _).set 5 _) H0.o.r3.size af⟩
theorem mQ(s:Sp)(hs:s.sm)(w:World) :
 Calls Tryz.prog 55 #[s.agg] w fun r w'=>r=.returned (.int .i64 (s.a-s.n-s.u-s.d))/\Below w.heap.size w w':=by
 obtain⟨n,u,d,m,p,l⟩:=s;obtain⟨i1,i2,i3,i4,i5,i6,i7⟩:=hs;simp only at i1 i2 i3 i4 i5 i6 i7;unfold Sp.agg;simp only;have w1:=Tz (x:=l) (y:=n) af af;have w2:=Tz (x:=l-n) (y:=u) af af;have w3:=Tz (x:=l-n-u) (y:=d) af af;clear i1 i2 i3 i4 i5 i6 i7;go_enter Tryz.func55,Tryz.ntmps55;go_wp2;go_ret;exact⟨rfl,ak _ _⟩
abbrev Ub(b:Nat):Value:=.int .u8 (b:Int)
def aR(x n:Nat):List Nat:=(List.range n).map fun i=>x/2^(8*i)%256
theorem aN(x n:Nat):(aR x n).length=n:=by simp[aR]
theorem gM{x n b:Nat}(h:b ∈ aR x n):b<256:=by
 obtain⟨i,_,rfl⟩:=kW.1 h;exact iB _ aA
theorem Tryz.vO:Tryz.prog.underlying 35=some (.slice 5):=by kernel_rfl
theorem Tryz.WW:(Tryz.prog.info? 5).map (fun i=>(i.zero,i.size,i.bytes))=some (some (.int .u8 0),1,1):=by kernel_rfl
theorem yM(z:Int)(n:Nat)(hz:z=(n:Int))(hn:n<=140737488355328)(w:World) :
 (Instr.makeSlice 35 (.int .i64 z) (.int .i64 z)).run Tryz.prog w=.ok (.slice (some ⟨w.heap.size,0,none⟩) n n) (w.alloc (.cells (madeCells #[.int .u8 0] n) 5)):=by
 subst hz;exact run_make_row' 35 5 (.int .u8 0) 1 Tryz.vO Tryz.WW rfl .i64 .i64 n af af w
theorem yN(w:World)(n:Nat):Bl (w.alloc (.cells (madeCells #[.int .u8 0] n) 5)) w.heap.size 5 ((List.replicate n 0).map Ub):=by
 unfold Bl;rw[jC w (.cells (madeCells #[.int .u8 0] n) 5)];congr 2;apply BX.1;rw[toList_madeCells_one];simp[Ub]
def lq(x n k:Nat):List Nat:=(aR x n).take k++List.replicate (n-k) 0
theorem GI{x n k:Nat}(h:k<n):(lq x n k).set k (x/2^(8*k)%256)=lq x n (k+1):=by
 unfold lq;have hl:=aN x n;have e:n-k=(n-(k+1))+1:=af
 have hk:(aR x n)[k]?=some (x/2^(8*k)%256):=by simp[aR,h]
 rw[Ci _ _ (by simp;omega),e,EL];rw[show k-((aR x n).take k).length=0 by simp;omega,Cj,vo,hk];simp
theorem J6(x n:Nat):lq x n n=aR x n:=by
 unfold lq;rw[jc (by rw[aN];exact aB _),wZ];simp
theorem J7(x n k:Nat)(h:k<=n):(lq x n k).length=n:=by
 unfold lq;have hl:=aN x n;simp;omega
theorem WZ{w:World}{g:Nat}{L:List Nat}(h:Bl w g 5 (L.map Ub))(i b:Nat):Bl (w.setCell ⟨g,i,none⟩ (Ub b)) g 5 ((L.set i b).map Ub):=by
 have:=h.set i (Ub b);rwa [<-wX] at this
theorem Mt(x n:Nat)(hx:x<18446744073709551616)(hn:n<=8)(w:World) :
 Calls Tryz.prog 41 #[.int .u64 (x:Nat),.int .i64 (n:Nat)] w fun r w'=>r=.returned (.slice (some ⟨w.heap.size,0,none⟩) n n)/\Bl w' w.heap.size 5 ((aR x n).map Ub)/\Below w.heap.size w w':=by
 have hmk:=yM ((n:Nat):Int) n rfl af w;obtain⟨V,hV⟩:=ah (w.alloc (.cells (madeCells #[.int .u8 0] n) 5));rw[<-hV] at hmk
 have H0:Aside (Bl V w.heap.size 5 ((lq x n 0).map Ub)/\Below w.heap.size w V):=by
  rw[hV];exact⟨by unfold lq;simpa using yN w n,ak _ _⟩
 obtain⟨g,hg⟩:=ah (w.heap.size);have HG:=au hg;rw[<-hg] at hmk |-;rw[show w.heap.size=g from hg.symm] at H0;clear hV hg;go_enter Tryz.func41,Tryz.ntmps41;go_wp2
 go_loopg [11] n (fun gk iv wr=>∃ k:Nat,gk+k=n/\iv=.int .i64 (k:Nat)/\Aside (Bl wr g 5 ((lq x n k).map Ub)/\Below g w wr))
 case atStart=>exact⟨0,af,aL,H0.o⟩
 case round =>
  obtain⟨k,iL,rfl,HA⟩:=hrel
  by_cases hk:k<n
  · have hd:decide ((k:Int)<n)=true:=by simp;omega
    have hf:=HA.o.1.frozen k;obtain⟨c0,hc0⟩:∃ v,wr.cell? ⟨g,k,none⟩=some v:=⟨_,HA.o.1.cell k (Ub ((lq x n k).getD k 0)) (by simp[aS,J7 x n k af,hk])⟩;have e:((x:Int)/2^(8*k)%256)=((x/2^(8*k)%256:Nat):Int):=by push_cast;rfl
    have HE:=au e;clear e;go_wp2;rw[HE.o];go_roundg (gk-1)
    case measure=>omega
    case rel =>
     refine⟨k+1,af,aL,?_⟩;refine au ⟨?_,?_⟩
     · rw[<-GI hk];exact WZ HA.o.1 k _
     · exact But.below HA.o.2 ((But.refl g wr).set k _) (by have:=HA.o.2.size;have:=HA.o.1.lt;omega) (aB _)
  · obtain rfl:n=k:=af
    have hd:decide ((n:Int)<n)=false:=by simp
    clear iL hk;go_wp2;go_ret;have:=HA.o.1;rw[J6] at this;exact⟨rfl,this,HA.o.2⟩
abbrev By(w:World)(g:Nat)(L:List Nat):Prop:=Bl w g 5 (L.map Ub)
def Pts(w:World)(a:Option Addr)(LL:List (List Nat)):Prop:=∀ i,i<LL.length->∃ b off g,a=some ⟨b,off,none⟩/\w.cell? ⟨b,off+i,none⟩=some (.slice (some ⟨g,0,none⟩) (LL.getD i []).length (LL.getD i []).length)/\By w g (LL.getD i [])
def pf(LL:List (List Nat))(k:Nat):Nat:=((LL.take k).flatten).length
theorem DY{LL:List (List Nat)}{k:Nat}(hk:k<LL.length):pf LL (k+1)=pf LL k+(LL.getD k []).length:=by
 unfold pf;rw[vo,aY hk,aS,aY hk,Ck,kv];simp only[Option.toList_some,List.flatten_cons,List.flatten_nil,qB,Cf]
theorem TA(LL:List (List Nat)):pf LL LL.length=LL.flatten.length:=by unfold pf;rw[Ab]
theorem TB{LL:List (List Nat)}(k:Nat):pf LL k<=LL.flatten.length:=by
 unfold pf;have h:LL.flatten=(LL.take k).flatten++(LL.drop k).flatten:=by rw[<-Ck,List.take_append_drop]
 rw[h,kv];omega
def js(LL:List (List Nat))(N k:Nat):List Nat:=(LL.take k).flatten++List.replicate (N-pf LL k) 0
theorem Xa{LL:List (List Nat)}{N k:Nat}(hk:k<LL.length)(hN:N=LL.flatten.length):splice ((js LL N k).map Ub) (pf LL k) ((LL.getD k []).map Ub)=(js LL N (k+1)).map Ub:=by
 have h1:=DY hk;have h2:=TB (LL:=LL) (k+1);have e:LL.take (k+1)=LL.take k++[LL.getD k []]:=by rw[vo,aY hk,aS,aY hk];rfl
 unfold splice js;rw[uV,rQ (by rw[qC];rfl),List.drop_append,xz (by rw[qC,qC];show pf LL k<=_;omega),e,Ck];simp only[uV,List.map_replicate,xn,qC,List.nil_append,List.flatten_cons,List.flatten_nil,qB,nX];rw[h1];congr 3;show N-pf LL k-(pf LL k+(LL.getD k []).length-((LL.take k).flatten).length)=_;rw[show((LL.take k).flatten).length=pf LL k from rfl];omega
theorem J8(w:World)(g off dLen dCap gp sCap:Nat)(ty:TypeId)(L P:List Nat)(hO:By w g L)(hP:By w gp P)(hle:P.length<=dLen)(hfit:off+P.length<=L.length) :
 ∃ w',(Builtin.copy_ #[35,35] ty #[.slice (some ⟨g,off,none⟩) dLen dCap,.slice (some ⟨gp,0,none⟩) P.length sCap]).run Tryz.prog w=.ok (.int .i64 (P.length:Int)) w'/\Bl w' g 5 (splice (L.map Ub) off (P.map Ub))/\But g w w':=by
 have hmin:Nat.min P.length dLen=P.length:=iy hle;have hadd:∀ j,(⟨gp,0,none⟩:Addr).add j=⟨gp,0+j,none⟩:=by intro j;unfold Addr.add;split <;> simp_all
 have hrun:=run_copy_row (P:=Tryz.prog) w 35 35 ty 5 g off dLen dCap ⟨gp,0,none⟩ P.length sCap (L.map Ub).toArray 5 (P.map Ub) Tryz.vO gD hO (by rw[hmin];simp) (by
  intro j v hv;rw[hadd,dm]
  exact hP.cell j v hv) (by simp;omega) (by
  intro v hv;obtain⟨n,_,rfl⟩:=kW.1 hv
  rfl)
 refine⟨w.setRow g (splice (L.map Ub) off (P.map Ub)).toArray,?_,setRow_heap w g _ _ 5 _ hO,⟨rfl,rfl,rfl,by simp[World.setRow],fun k _ hk=>setRow_other w g k _ hk⟩⟩;unfold splice;simpa [goInt] using hrun
theorem sM(LL:List (List Nat))(a:Option Addr)(n c N:Nat)(w:World)(hn:n=LL.length)(hP:Pts w a LL)(hne:∀ k,k<LL.length->0<(LL.getD k []).length)(hN:N=LL.flatten.length)(hb:N<=1099511627776)(hn2:n<=1099511627776) :
 Calls Tryz.prog 45 #[.slice a n c] w fun r w'=>r=.returned (.slice (some ⟨w.heap.size,0,none⟩) N N)/\By w' w.heap.size LL.flatten/\Below w.heap.size w w':=by
 have hmk:=yM ((N:Nat):Int) N rfl af w;obtain⟨V,hV⟩:=ah (w.alloc (.cells (madeCells #[.int .u8 0] N) 5));rw[<-hV] at hmk
 have H0:Aside (By V w.heap.size (js LL N 0)/\Below w.heap.size w V):=by
  rw[hV];exact⟨by rw[show js LL N 0=List.replicate N 0 from by unfold js pf;simp];exact yN w N,ak _ _⟩
 obtain⟨g,hg⟩:=ah (w.heap.size);have HG:=au hg;rw[<-hg] at hmk |-;rw[show w.heap.size=g from hg.symm] at H0;have HX:=(iq hn hP hne hN hb);have hz:pf LL 0=0:=by unfold pf;simp
 clear hV hg hn hP hne hN hb hz;go_enter Tryz.func45,Tryz.ntmps45;go_wp2
 go_loopg [3,12] n (fun gk sv iv wr=>∃ k s:Nat,gk+k=n/\sv=.int .i64 (s:Nat)/\iv=.int .i64 (k:Nat)/\Aside (s=pf LL k/\wr=w))
 case atStart=>exact⟨0,0,af,aL,aL,by unfold pf;simp,rfl⟩
 case round =>
  obtain⟨k,s,iL,rfl,rfl,HA⟩:=hrel;rw[HA.o.2]
  by_cases hk:k<n
  · have hd:decide ((k:Int)<n)=true:=by simp;omega
    have hkx:k<LL.length:=by have:=HX.o.1;omega
    obtain⟨b,off,gp,rfl,hc,_⟩:=HX.o.2.1 k hkx;have hs:=DY hkx;have hle:=TB (LL:=LL) (k+1);obtain⟨m,hm⟩:=ah ((LL.getD k []).length);rw[<-hm] at hc hs;have hsb:s+m<=1099511627776:=by have:=HA.o.1;have:=HX.o.r3.1;have:=HX.o.r4;omega
    have HS:=au (show s+m=pf LL (k+1) by have:=HA.o.1;omega);clear hm hs hle hkx;go_wp2;go_roundg (gk-1)
    case measure=>omega
    case rel=>exact⟨k+1,s+m,af,aL,aL,HS.o,rfl⟩
  · obtain rfl:n=k:=af
    have hd:decide ((n:Int)<n)=false:=by simp
    have hsN:s=N:=by have:=HA.o.1;have:=HX.o.1;have:=TA LL;have:=HX.o.r3.1;subst_vars;simp_all
    subst hsN;clear iL hk HA;go_wp2
    go_loopg [7,25] n (fun gk sv iv wr=>∃ k s':Nat,gk+k=n/\sv=.int .i64 (s':Nat)/\iv=.int .i64 (k:Nat)/\Aside (s'=pf LL k/\By wr g (js LL s k)/\Below g w wr))
    case atStart=>exact⟨0,0,af,aL,aL,by unfold pf;simp,H0.o.1,H0.o.2⟩
    case round =>
     obtain⟨k,s',iL,rfl,rfl,HA⟩:=hrel
     by_cases hk:k<n
     · have hd2:decide ((k:Int)<n)=true:=by simp;omega
       have hkx:k<LL.length:=by have:=HX.o.1;omega
       obtain⟨b,off,gp,rfl,hc,hB⟩:=HX.o.2.1 k hkx;have hbg:b<g:=by have:=iH w _ hc;have:=HG.o;simp at *;omega
       have hc':=(HA.o.r2.cell (p:=⟨b,off+k,none⟩) hbg).trans hc;have hB':=hB.below HA.o.r2 (by have:=hB.lt;have:=HG.o;omega);have hs:=DY hkx;have hle:=TB (LL:=LL) (k+1);have hpos:=HX.o.r2.1 k hkx;have hjs:=Xa hkx HX.o.r3.1;obtain⟨P,hPP⟩:=ah (LL.getD k []);rw[<-hPP] at hc' hB' hs hpos hjs;obtain⟨m,hm⟩:=ah (P.length);rw[<-hm] at hc' hs hpos;have hsb:s'+m<=s:=by have:=HA.o.1;have:=HX.o.r3.1;omega
       have hse:s<=1099511627776:=HX.o.r4;have HS:=au (show s'+m=pf LL (k+1) by have:=HA.o.1;omega);have HJ:=bM hjs hB' hm;have ne:¬ (s=s'):=af
       clear hm hs hle hkx hc hB hPP hjs hB' hbg;obtain⟨w',hcp,hb1,hb2⟩:=J8 wr g s' (s-s') (s-s') gp m 3 (js LL s k) P HA.o.2.1 HJ.o.2.1 (by rw[<-HJ.o.r2];omega) (by rw[<-HJ.o.r2];have:=HS.o;unfold js;simp only[kv,Cb];have:=HA.o.1;unfold pf at *;omega);rw[<-HJ.o.r2] at hcp;rw[HA.o.1,HJ.o.1] at hb1;have HW':=(aT hb1 (But.below HA.o.r2 hb2 (by have:=HA.o.r2.size;have:=HA.o.2.1.lt;omega) (aB _)));clear hb1 hb2;go_wp2;go_roundg (gk-1)
       case measure=>omega
       case rel=>exact⟨k+1,s'+m,af,aL,aL,HS.o,HW'.o.1,HW'.o.2⟩
     · obtain rfl:n=k:=af
       have hd2:decide ((n:Int)<n)=false:=by simp
       have hfin:By wr g LL.flatten:=by
        have h1:=HA.o.2.1;rw[HX.o.1] at h1;have e:js LL s LL.length=LL.flatten:=by unfold js;rw[TA,HX.o.r3.1,Ab,wZ];simp
        rwa [e] at h1
       have HF:=(aT hfin HA.o.r2);clear iL hk HA hfin;go_wp2;go_ret;exact⟨rfl,HF.o.1,HF.o.2⟩
def dO(B:Nat)(w:World)(ao:Option Addr)(L:List Nat):Prop :=
 L≠[]->∃ b off,b<B/\ao=some ⟨b,off,none⟩/\∀ i,i<L.length->w.cell? ⟨b,off+i,none⟩=some (Ub (L.getD i 0))
theorem dO.below{B:Nat}{w w':World}{ao:Option Addr}{L:List Nat}(h:dO B w ao L)(hb:Below B w w'):dO B w' ao L:=by
 exact Qam
theorem dO.but{B g:Nat}{w w':World}{ao:Option Addr}{L:List Nat}(h:dO B w ao L)(hb:But g w w')(hB:B<=w.heap.size)(hg:B<=g):dO B w' ao L:=by
 intro hne;obtain⟨b,off,h1,h2,h3⟩:=h hne;exact⟨b,off,h1,h2,fun i hi=>(rR (a:=⟨b,off+i,none⟩) (hb.block b af af)).trans (h3 i hi)⟩
theorem dO.nil(B:Nat)(w:World)(ao:Option Addr):dO B w ao []:=fun h=>absurd rfl h
theorem GJ(L:List Nat)(n i:Nat):(L.drop n).getD i 0=L.getD (n+i) 0:=by simp[aS,List.getElem?_drop]
theorem GK{L:List Nat}{n i:Nat}(h:i<n):(L.take n).getD i 0=L.getD i 0:=by simp[aS,List.getElem?_take,h]
theorem dO.drop{B:Nat}{w:World}{b off:Nat}{L:List Nat}(h:dO B w (some ⟨b,off,none⟩) L)(n:Nat):dO B w (some ⟨b,off+n,none⟩) (L.drop n):=by
 intro hne;obtain⟨b',off',h1,h2,h3⟩:=h (by rintro rfl;simp at hne);injection h2 with h2
 injection h2 with e1 e2
 subst e1 e2;refine⟨_,_,h1,rfl,fun i hi=>?_⟩;rw[GJ,nK];exact h3 (n+i) (by simp at hi;omega)
theorem dO.take{B:Nat}{w:World}{ao:Option Addr}{L:List Nat}(h:dO B w ao L)(n:Nat):dO B w ao (L.take n):=by
 intro hne;obtain⟨b',off',h1,h2,h3⟩:=h (by rintro rfl;simp at hne);refine⟨_,_,h1,h2,fun i hi=>?_⟩;have:i<n:=by simp at hi;omega
 rw[GK this];exact h3 i (by simp at hi;omega)
def gQ(w:World)(g:Nat)(ao:Option Addr)(L:List Nat)(c:Nat)(am:Bool):Prop:=Bl w g 91 [.slice ao L.length c,.bool am]/\L.length<=c
theorem YL(w:World)(g B:Nat)(ao:Option Addr)(L:List Nat)(c n:Nat)(am:Bool)(h:gQ w g ao L c am)(hF:dO B w ao L)(hn:n<=L.length)(hL:0<n) :
 Calls Tryz.prog 178 #[.pointer (some ⟨g,0,none⟩),.int .i64 (n:Nat)] w fun r w'=>(∃ jq ,r=.returned (.slice ao n n)/\gQ w' g jq (L.drop n) (c-n) am/\(B<=g->B<=w.heap.size->dO B w' jq (L.drop n)/\dO B w' ao (L.take n)))/\But g w w':=by
 obtain⟨h1,h2⟩:=h;have hne:L≠[]:=by rintro rfl;simp at hn;omega
 obtain⟨b,off,hb,rfl,hc⟩:=hF hne;obtain⟨l,hl⟩:=ah (L.length);rw[<-hl] at h1 hn h2;have HX:=(mh h1 hF hl h2);have c0:=h1.cell 0 _ rfl;have f0:=h1.frozen 0;have d1:decide ((l:Int)<n)=false:=by simp;omega
 have n1:¬ (l<n):=af
 have n2:n<=c:=af
 have n3:n<=l:=hn;clear hc h1 hl hF hne hb
 by_cases hcn:c=n
 · have hln:l=n:=af
   go_enter Tryz.func178,Tryz.ntmps178;go_wp2;refine aJ (v:=.slice (some ⟨b,off,none⟩) n n) (by simp[results,Tryz.results178,go_sem]) rfl ?_;obtain⟨h1,hF,hl,h2⟩:=HX.o;have e0:L.drop n=[]:=xz af;have hb:=((But.refl g w).set 0 (.slice (some ⟨b,off,none⟩) 0 0));refine⟨⟨some ⟨b,off,none⟩,rfl,⟨?_,by rw[e0];simp⟩,fun hg hB=>⟨by rw[e0];exact dO.nil _ _ _,(hF.take n).but hb hB hg⟩⟩,hb⟩;rw[e0,show c-n=0 by omega];exact h1.set 0 _
 · go_enter Tryz.func178,Tryz.ntmps178;go_wp2;refine aJ (v:=.slice (some ⟨b,off,none⟩) n n) (by simp[results,Tryz.results178,go_sem]) rfl ?_;obtain⟨h1,hF,hl,h2⟩:=HX.o;have hb:=((But.refl g w).set 0 (.slice (some ⟨b,off+n,none⟩) (l-n) (c-n)));refine⟨⟨some ⟨b,off+n,none⟩,rfl,⟨?_,by rw[jE];omega⟩,fun hg hB=>⟨(hF.drop n).but hb hB hg,(hF.take n).but hb hB hg⟩⟩,hb⟩;rw[jE,<-hl];exact h1.set 0 _
def leB:List Nat->Nat
 | []=>0
 | b::L=>b+256*leB L
theorem J9:∀ {L:List Nat},(∀ b ∈ L,b<256)->leB L<256^L.length
 | [],_=>by simp[leB]
 | b::L,h=>by
   have h1:=J9 (L:=L) (fun x hx=>h x (nY _ hx));have h2:=h b (qD ..);rw[leB,kU,fw];omega
theorem yO:∀ (L:List Nat) (b:Nat),leB (L++[b])=leB L+b*256^L.length
 | [],b=>by simp[leB]
 | a::L,b=>by
   rw[List.cons_append,leB,yO L b,leB,kU,fw,rJ,nK,<-dH,bR 256 b,dH,bR 256 (256^_)]
theorem vP(L:List Nat)(k:Nat)(h:k<L.length):L.take (k+1)=L.take k++[L.getD k 0]:=by
 rw[vo,aY h,aS,aY h];rfl
theorem or21(s y k:Nat)(hs:s<256^k)(hy:y<256)(hk:k<8):bits .or .u64 (s:Int) (IntKind.u64.wrap ((y:Int)*2^(8*k)))=((s+y*256^k:Nat):Int):=by
 have e:(256:Nat)^k=2^(8*k):=by rw[rM]
 rw[e] at hs |-
 have h1:2^(8*k)*256<=18446744073709551616:=by
  rw[show(18446744073709551616:Nat)=2^56*256 by decide];exact dF _ (gF aA af)
 obtain⟨z,hz⟩:=ah (2^(8*k))
 have h2:y*z<18446744073709551616:=by
  rw[<-hz] at h1;have:y*z<=255*z:=dF _ af;have:0<z:=by rw[hz];exact bK _
  omega
 have h3:IntKind.u64.wrap ((y:Int)*2^(8*k))=((y*z:Nat):Int):=by
  have e2:((y:Int)*2^(8*k))=((y*z:Nat):Int):=by rw[hz];push_cast;rfl
  rw[e2];generalize y*z=q at h2;simp[IntKind.wrap,IntKind.bits,IntKind.signed];omega
 rw[h3,bits_or_u64_nat _ _ (by rw[<-hz] at hs;rw[<-hz] at h1;omega) h2];congr 1;have:=BV hs y;rw[<-hz] at this |-;rw[Nat.or_comm,bR y z,<-this,lK]
theorem o9(w:World)(g B:Nat)(ao:Option Addr)(L:List Nat)(c n:Nat)(am:Bool)(h:gQ w g ao L c am)(hF:dO B w ao L)(hn:n<=L.length)(hL:0<n)(h8:n<=8)(hg:B<=g)(hB:B<=w.heap.size)(hby:∀ b ∈ L,b<256) :
 Calls Tryz.prog 176 #[.pointer (some ⟨g,0,none⟩),.int .i64 (n:Nat)] w fun r w'=>r=.returned (.int .u64 (leB (L.take n):Nat))/\(∃ jq ,gQ w' g jq (L.drop n) (c-n) am/\dO B w' jq (L.drop n))/\But g w w':=by
 have HC:=hid (YL w g B ao L c n am h hF hn hL);have HX:=(iq hn h8 hg hB hby);obtain⟨P,hP⟩:=ah (L.take n);have hPl:P.length=n:=by rw[hP,gm];omega
 have hPb:∀ b ∈ P,b<256:=fun b hb=>hby b (BS (by rw[<-hP];exact hb));rw[<-hP] at HC |-;have HP:=(aT hPl hPb);clear h hF hn h8 hg hB hby hP hPl hPb;go_enter Tryz.func176,Tryz.ntmps176;go_wp2_with fail;refine HC.o.mono ?_;rintro r v ⟨⟨jq,rfl,h1,h2⟩,hb⟩;have HV:=(mh h1 ((h2 HX.o.r2.1 HX.o.r3.1).1) ((h2 HX.o.r2.1 HX.o.r3.1).2) hb);clear h1 h2 hb HC;go_wp2
 go_loopg [5,12] n (fun gk sv iv wr=>∃ (k s:Nat),gk+k=n/\sv=.int .u64 (s:Nat)/\iv=.int .i64 (k:Nat)/\Aside (s=leB (P.take k)/\wr=v))
 case atStart=>exact⟨0,0,af,aL,aL,by simp[leB],rfl⟩
 case round =>
  obtain⟨k,s,iL,rfl,rfl,HA⟩:=hrel;rw[HA.o.2]
  by_cases hk:k<n
  · have hd:decide ((k:Int)<n)=true:=by simp;omega
    have hkx:k<P.length:=by rw[HP.o.1];exact hk
    obtain⟨b,off,_,rfl,hc⟩:=HV.o.r2.1 (by rintro rfl;simp at hkx);have hcx:=hc k hkx
    have hyb:P.getD k 0<256:=by
     rw[aS,aY hkx];exact HP.o.2 _ (iw hkx)
    have hsn:=vP P k hkx
    have hsl:leB (P.take k)<256^k:=by
     have:=J9 (L:=P.take k) (fun x hx=>HP.o.2 x (BS hx));rwa [gm,iy (nV hkx)] at this
    obtain⟨y,hy⟩:=ah (P.getD k 0);rw[<-hy] at hcx hyb hsn;have HS:=(mh hsn hsl hyb HX.o.2.1);have hk7:k<8:=by have:=HX.o.2.1;omega
    have wy:IntKind.u64.wrap (y:Int)=(y:Int):=by simp[IntKind.wrap,IntKind.bits,IntKind.signed];omega
    clear hc hsn hsl hy hkx hyb;have hor:=or21 s y k (by rw[HA.o.1];exact HS.o.2.1) HS.o.r2.1 hk7;have HO:=au hor;clear hor;go_wp2;rw[HO.o];go_roundg (gk-1)
    case measure=>omega
    case rel =>
     refine⟨k+1,s+y*256^k,af,aL,aL,?_,rfl⟩;rw[HS.o.1,yO,HA.o.1,gm,iy (by have:=HP.o.1;omega)]
  · obtain rfl:n=k:=af
    have hd:decide ((n:Int)<n)=false:=by simp
    have hsP:s=leB P:=by rw[HA.o.1,jc (by rw[HP.o.1];exact aB _)]
    have Xb:=au hsP;clear iL hk HA hsP;go_wp2;go_ret;exact⟨by rw[Xb.o];rfl,⟨_,HV.o.1,HV.o.2.1⟩,HV.o.r3⟩
attribute [local go_sem] B.aM
theorem lC:∀ (n x:Nat),x<256^n->leB (aR x n)=x:=by
 intro n
 induction n with
 | zero=>intro x hx;simp at hx;subst hx;rfl
 | succ n ih =>
   intro x hx
   have e:aR x (n+1)=aR (x%256^n) n++[x/256^n%256]:=by
    unfold aR;rw[List.range_succ,uV];congr 1
    · refine List.map_congr_left fun i hi=>?_;have hi:=kX.1 hi;obtain⟨d,rfl⟩:∃ d,n=i+1+d:=⟨n-(i+1),af⟩;rw[show(2:Nat)^(8*i)=256^i by rw[rM],show 256^(i+1+d)=256^i*(256*256^d) by rw[aW,fw,dH],Nat.mod_mul_right_div_self,Nat.mod_mul_right_mod]
    · simp only[List.map_cons,List.map_nil];rw[show(2:Nat)^(8*n)=256^n by rw[rM]]
   rw[e,yO,ih _ (iB _ (Nat.pow_pos aA)),aN]
   have h1:x/256^n<256:=by
    rw[uR (Nat.pow_pos aA),bR];rwa [fw] at hx
   rw[ja h1,bR];exact xu x (256^n)
theorem TC(w:World)(g B:Nat)(ao:Option Addr)(L:List Nat)(c n most x:Nat)(am:Bool)(h:gQ w g ao L c am)(hF:dO B w ao L)(hn:n<=L.length)(hL:0<n)(h8:n<=8)(hg:B<=g)(hB:B<=w.heap.size)(hby:∀ b ∈ L,b<256)(hx:leB (L.take n)=x)(hm:x<=most)(hx2:x<9223372036854775808) :
 Calls Tryz.prog 175 #[.pointer (some ⟨g,0,none⟩),.int .u64 (most:Nat),.int .i64 (n:Nat)] w fun r w'=>r=.returned (.int .i64 (x:Nat))/\(∃ jq ,gQ w' g jq (L.drop n) (c-n) am/\dO B w' jq (L.drop n))/\But g w w':=by
 have HC:=hid (o9 w g B ao L c n am h hF hn hL h8 hg hB hby);rw[hx] at HC;have d1:decide ((most:Int)<x)=false:=by simp;omega
 have n1:¬ most<x:=af
 have w1:IntKind.i64.wrap (x:Int)=(x:Int):=by simp[IntKind.wrap,IntKind.bits,IntKind.signed];omega
 clear h hF hn hL h8 hg hB hby hx hm hx2;go_enter Tryz.func175,Tryz.ntmps175;go_wp2_with fail;refine HC.o.mono ?_;rintro r v ⟨rfl,h1,hb⟩;have HV:=(aT h1 hb);clear h1 hb HC;go_wp2;go_ret;exact⟨rfl,HV.o.1,HV.o.2⟩
theorem Mv(w:World)(g B:Nat)(ao:Option Addr)(L:List Nat)(c x:Nat)(am:Bool)(h:gQ w g ao L c am)(hF:dO B w ao L)(hn:8<=L.length)(hg:B<=g)(hB:B<=w.heap.size)(hby:∀ b ∈ L,b<256)(hx:leB (L.take 8)=x) :
 Calls Tryz.prog 104 #[.pointer (some ⟨g,0,none⟩)] w fun r w'=>r=.returned (.float .f64 x)/\(∃ jq ,gQ w' g jq (L.drop 8) (c-8) am/\dO B w' jq (L.drop 8))/\But g w w':=by
 have HC:=hid (show Calls Tryz.prog 176 #[.pointer (some ⟨g,0,none⟩),.int .i64 8] w _ from o9 w g B ao L c 8 am h hF hn aA aA hg hB hby);rw[hx] at HC;clear h hF hn hg hB hby hx;go_enter Tryz.func104,Tryz.ntmps104
 go_wp2_with (go_at_call 176;refine HC.o.mono ?_;rintro r v ⟨rfl,h1,hb⟩;have HV:=(aT h1 hb);clear h1 hb HC)
 go_ret;exact⟨rfl,HV.o.1,HV.o.2⟩
theorem Mw(w:World)(g:Nat)(ao:Option Addr)(L:List Nat)(c:Nat)(am:Bool)(h:gQ w g ao L c am) :
 Calls Tryz.prog 178 #[.pointer (some ⟨g,0,none⟩),.int .i64 0] w fun r w'=>r=.returned (.slice ao 0 0)/\gQ w' g ao L c am/\But g w w':=by
 obtain⟨h1,h2⟩:=h;obtain⟨l,hl⟩:=ah (L.length);rw[<-hl] at h1 h2;have HX:=(bM h1 hl h2);have c0:=h1.cell 0 _ rfl;have f0:=h1.frozen 0;have d1:decide ((l:Int)<0)=false:=by simp
 clear h1 hl;rcases ao with _|⟨b,off,sp⟩
 · go_enter Tryz.func178,Tryz.ntmps178;go_wp2;refine aJ (v:=.slice none 0 0) (by simp[results,Tryz.results178,go_sem]) rfl ?_;obtain⟨h1,hl,h2⟩:=HX.o;exact⟨rfl,⟨by rw[<-hl];exact h1.set 0 _,af⟩,(But.refl g w).set 0 _⟩
 · go_enter Tryz.func178,Tryz.ntmps178;go_wp2;refine aJ (v:=.slice (some ⟨b,off,sp⟩) 0 0) (by simp[results,Tryz.results178,go_sem]) rfl ?_;obtain⟨h1,hl,h2⟩:=HX.o;exact⟨rfl,⟨by rw[<-hl];exact h1.set 0 _,af⟩,(But.refl g w).set 0 _⟩
def wB:Nat->List Nat->List Nat
 | 0,_=>[]
 | m+1,L=>leB (L.take 4)::wB m (L.drop 4)
theorem yP:∀ (m:Nat) (L:List Nat),(wB m L).length=m
 | 0,_=>rfl
 | m+1,L=>by rw[wB,kU,yP m]
theorem Ka:∀ (m k:Nat) (L:List Nat),k<m->(wB m L).getD k 0=leB ((L.drop (4*k)).take 4)
 | m+1,0,L,_=>by simp[wB]
 | m+1,k+1,L,h=>by
   rw[wB,List.getD_cons_succ,Ka m k _ af,List.drop_drop,show 4+4*k=4*(k+1) by omega]
theorem Mx:∀ (xs rest:List Nat),(∀ x ∈ xs,x<4294967296)->wB xs.length ((xs.map fun y=>aR y 4).flatten++rest)=xs
 | [],_,_=>rfl
 | x::xs,rest,h=>by
   have h0:=h x (qD ..);rw[kU,wB];have e:((List.map (fun y=>aR y 4) (x::xs)).flatten++rest)=aR x 4++((List.map (fun y=>aR y 4) xs).flatten++rest):=by simp
   rw[e,rQ (aN x 4),rP (aN x 4),lC 4 x h0,Mx xs rest (fun y hy=>h y (nY _ hy))]
end
section
open Go Go.RowKit J
theorem PI{w w':World}{g g':Nat}{L:List Nat}(h:Own w g L)(hb:But g' w w')(hg:g≠g'):Own w' g L:=by
 show w'.heap[g]?=_;rw[hb.block g h.lt hg];exact h
def rq(L:List Nat)(k:Nat):List Nat:=L.take k++List.replicate (L.length-k) 0
theorem Bu{L:List Nat}{k:Nat}(h:k<L.length):(rq L k).set k (L.getD k 0)=rq L (k+1):=by
 unfold rq;rw[Ci _ _ (by simp;omega),show L.length-k=(L.length-(k+1))+1 by omega,EL,show k-(L.take k).length=0 by simp;omega,Cj,vP L k h];simp
theorem TE(L:List Nat):rq L L.length=L:=by unfold rq;simp
theorem Qaf{P:Prop}(h:P:=by
 go_wp2;go_roundg (gk-1)
 case measure=>omega
 case rel=>exact⟨k+1,af,aL,HV.o⟩):P:=h
theorem YM(w:World)(B:Nat)(ao:Option Addr)(P:List Nat)(c m:Nat)(hF:dO B w ao P)(hB:B<=w.heap.size)(hP:P.length=4*m)(hc:4*m<=c)(hm:m<=65535)(hby:∀ b ∈ P,b<256) :
 Calls Tryz.prog 177 #[.slice ao (4*m) c] w fun r w'=>r=.returned (.slice (some ⟨w.heap.size,0,none⟩) m m)/\Own w' w.heap.size (wB m P)/\Below w.heap.size w w':=by
 have hmk:=dW ((m:Nat):Int) m rfl af w;obtain⟨V,hV⟩:=ah (w.alloc (.cells (madeCells #[.int .u32 0] m) 138));rw[<-hV] at hmk;obtain⟨U,hU⟩:=ah (V.alloc (Obj.cells #[.slice ao (4*m) c,.bool false] 91));obtain⟨g,hg⟩:=ah (w.heap.size);have sV:V.heap.size=g+1:=by rw[hV,hg];simp
 have zT:Below g w V:=by rw[hV,hg];exact ak _ _
 have rE:Below g w U:=by rw[hU];exact zT.trans ((ak V _).mono af)
 have H0:Aside (Own U g (rq (wB m P) 0)/\Below g w U/\(∃ jq c',gQ U (g+1) jq (P.drop (4*0)) c' false/\dO B U jq (P.drop (4*0)))):=by
  refine au ⟨?_,rE,ao,c,⟨?_,by simp;omega⟩,?_⟩
  · have h1:=Own.made w m;rw[<-hV,<-hg] at h1;rw[hU];rw[show rq (wB m P) 0=List.replicate m 0 by unfold rq;rw[yP];simp];exact h1.alloc _
  · rw[hU,<-sV];have:=Bl.new V 91 [.slice ao (4*m) c,.bool false];rw[nL,List.drop_zero,hP];exact this
  · rw[nL,List.drop_zero];exact hF.below (rE.mono af)
 have HX:=(iq hB hP hby hm hc);have HG:=au hg;have w1:IntKind.i64.wrap (4*(m:Int))=4*m:=by simp[IntKind.wrap,IntKind.bits,IntKind.signed];omega
 have hq:((4*m:Nat):Int).tdiv 4=(m:Int):=by
  rw[Int.tdiv_eq_ediv_of_nonneg af];omega
 have HU:=(aT hU sV);rw[<-hg] at hmk |-;clear hV hF hB hP hby zT rE hU hg sV;go_enter Tryz.func177,Tryz.ntmps177
 go_upto_region 3 with fail
 rw[<-HU.o.1,HU.o.2];clear HU hmk hq w1;go_wp2
 go_loopg [14] m (fun gk iv wr=>∃ k:Nat,gk+k=m/\iv=.int .i64 (k:Nat)/\Aside (Own wr g (rq (wB m P) k)/\Below g w wr/\(∃ jq c',gQ wr (g+1) jq (P.drop (4*k)) c' false/\dO B wr jq (P.drop (4*k)))))
 case atStart=>exact⟨0,af,aL,H0.o⟩
 case round =>
  obtain⟨k,iL,rfl,HA⟩:=hrel
  by_cases hk:k<m
  · have hd:decide ((k:Int)<m)=true:=by simp;omega
    obtain⟨jq,c',hr1,hr2⟩:=HA.o.r2;have hPB:∀ b ∈ P.drop (4*k),b<256:=fun b hb=>HX.o.r2.1 b (List.mem_of_mem_drop hb);have hlen:4<=(P.drop (4*k)).length:=by rw[jE];have:=HX.o.2.1;omega
    have hBg:B<=g+1:=by have:=HX.o.1;have:=HG.o;omega
    have hBw:B<=wr.heap.size:=by have:=HX.o.1;have:=HG.o;have:=HA.o.2.1.size;omega
    have HC:=hid (show Calls Tryz.prog 176 #[.pointer (some ⟨g+1,0,none⟩),.int .i64 4] wr _ from o9 wr (g+1) B jq (P.drop (4*k)) c' 4 false hr1 hr2 hlen aA aA hBg hBw hPB);rw[<-Ka m k P hk] at HC;have hwl:=Bu (L:=wB m P) (k:=k) (by rw[yP];exact hk)
    have hyb:(wB m P).getD k 0<4294967296:=by
     rw[Ka m k P hk];have:=J9 (L:=(P.drop (4*k)).take 4) (fun b hb=>hPB b (BS hb));rw[gm,iy hlen] at this;exact this
    obtain⟨y,hy⟩:=ah ((wB m P).getD k 0);rw[<-hy] at HC hwl hyb;have wy:IntKind.u32.wrap (y:Int)=(y:Int):=by simp[IntKind.wrap,IntKind.bits,IntKind.signed];omega
    have HS:=au hwl;clear hr1 hr2 hPB hlen hBg hBw hwl hyb hy;go_wp2_with fail;refine HC.o.mono ?_;rintro r v ⟨rfl,⟨ao2,q1,q2⟩,hb⟩;have hO:Own v g (rq (wB m P) k):=PI HA.o.1 hb af;have hbb:Below g w v:=But.below HA.o.2.1 hb (by have:=HA.o.2.1.size;have:=HA.o.1.lt;omega) af;have hbs:But g v (v.setCell ⟨g,k,none⟩ (.int .u32 (y:Int))):=(But.refl g v).set k _;have hO2:=hO.set k y;rw[HS.o] at hO2
    have HV:Aside (Own (v.setCell ⟨g,k,none⟩ (.int .u32 (y:Int))) g (rq (wB m P) (k+1))/\Below g w (v.setCell ⟨g,k,none⟩ (.int .u32 (y:Int)))/\(∃ jq c',gQ (v.setCell ⟨g,k,none⟩ (.int .u32 (y:Int))) (g+1) jq (P.drop (4*(k+1))) c' false/\dO B (v.setCell ⟨g,k,none⟩ (.int .u32 (y:Int))) jq (P.drop (4*(k+1))))):=by
     rw[List.drop_drop,show 4*k+4=4*(k+1) by omega] at q1 q2;exact au ⟨hO2,But.below hbb hbs (by have:=hbb.size;have:=hO.lt;omega) (aB _),ao2,c'-4,⟨q1.1.but hbs af,q1.2⟩,q2.but hbs (by have:=HX.o.1;have:=HG.o;have:=hbb.size;omega) (by have:=HX.o.1;have:=HG.o;omega)⟩
    have f0:=hO.frozen k;obtain⟨c0,z0⟩:∃ c0,v.cell? ⟨g,k,none⟩=some c0:=⟨_,hO.cell k (by unfold rq;simp[yP];omega)⟩;clear q1 q2 hb hO hbb hbs hO2 HC;exact Qaf
  · obtain rfl:m=k:=af
    have hd:decide ((m:Int)<m)=false:=by simp
    have HF:Aside (Own wr g (wB m P)/\Below g w wr):=by
     have:=HA.o.1;rw[show rq (wB m P) m=wB m P by have h:=TE (wB m P);rw[yP] at h;exact h] at this;exact au ⟨this,HA.o.2.1⟩
    clear iL hk HA;go_wp2;go_ret;exact⟨rfl,HF.o.1,HF.o.2⟩
theorem xi{P:Prop}(h:P:=by
 go_enter Tryz.func179,Tryz.ntmps179
 go_upto_region 1 with fail
 rw[<-HW.o];go_wp2;go_ret;exact⟨rfl,HB.o⟩):P:=h
theorem TF(w:World)(n:Bool)(X:Nat)(e:Int)(a:Option Addr)(c l:Nat)(hN:Nt 0 w (.slice a l c) X)(hl:l=(ws X).length)(hlb:l<=65535)(hf:(X=0/\n=false/\e=0)\/X%2=1) :
 Calls Tryz.prog 179 #[.agg #[.bool n,.slice a l c,.int .i64 e]] w fun r w'=>r=.returned (.bool true)/\Below w.heap.size w w':=by
 obtain⟨W,hW⟩:=ah (w.alloc (Obj.cells #[.bool n,.slice a l c,.int .i64 e] 77));have hb0:Below w.heap.size w W:=by rw[hW];exact ak _ _
 have hBl:Bl W w.heap.size 77 [.bool n,.slice a l c,.int .i64 e]:=by rw[hW];exact Bl.new _ _ [_,_,_]
 have c0:=hBl.cell 0 _ rfl;have c1:=hBl.cell 1 _ rfl;have c2:=hBl.cell 2 _ rfl;have HW:=au hW;have HB:=au hb0;rcases hf with ⟨rfl,rfl,rfl⟩|hX
 · have hl0:l=0:=by rw[hl,bB];rfl
   subst hl0;clear hW hb0 hBl hN hl hlb;exact xi
 · have hX0:X≠0:=by rintro rfl;simp at hX
   have hw:=mX X hX0;have hlp:0<l:=by rw[hl,hw];simp
   obtain⟨a',c',hsl,_,_,hR⟩:=(hN.below hb0).shape;injection hsl with hs1 hs2 hs3
   subst hs1;obtain⟨b,off,_,rfl,hc⟩:=hR (by rw[hw];simp);have e0:=hc 0 af;have e1:=hc (l-1) af;rw[gU] at e0;have hh:(ws X).getD 0 0=X%4294967296:=by rw[hw];rfl
   have hlast:(ws X).getD (l-1) 0≠0:=by
    have:=Cu (ws X) (by rw[xL];omega);rw[xL,<-hl] at this;exact this
   rw[hh] at e0;obtain⟨y,hy⟩:=ah ((ws X).getD (l-1) 0);rw[<-hy] at e1 hlast;obtain⟨x0,hx0⟩:=ah (X%4294967296);rw[<-hx0] at e0;have hodd:x0%2=1:=af
   have t0:((x0:Int)%2==1)=true:=by simp;omega
   have t0':((x0:Int).tmod 2==1)=true:=by rw[I4 af];simp;omega
   have t1:((y:Int) != 0)=true:=by simp;exact hlast
   have t2:((l:Int)==0)=false:=by simp;omega
   have t2':(l==0)=false:=by simp;omega
   have t3:((y:Int)==0)=false:=by simp;exact hlast
   have w1:IntKind.i64.wrap ((l:Int)-1)=((l-1:Nat):Int):=by simp[IntKind.wrap,IntKind.bits,IntKind.signed];omega
   have hlen:l≠0:=af
   clear hW hb0 hBl hN hl hR hc hh hX hX0 hw hy hx0 hs2 hs3;exact xi
theorem Tryz.D8:Tryz.prog.underlying 26=some (.slice 35):=by kernel_rfl
theorem Tryz.D9:(Tryz.prog.info? 35).map (fun i=>(i.zero,i.size,i.bytes))=some (some (.slice none 0 0),1,24):=by kernel_rfl
theorem cZ {w:World}{ops:Array Oper}{rest:List Oper}{o:Oper}{a:Act}{Q:Exit->Act->World->Prop}(hgd:o.guard=none) (s x:Operand)
 (ho:o.op=.call { callee:=.builtin .append,args:=#[s,x],argTypes:=#[26,26] }) (v u:Value) (hs:a.eval s=v) (hx:a.eval x=u) (v':Value) (w':World)
 (hrun:(Builtin.append_ #[26,26] o.type #[v,u]).run Tryz.prog w=.ok v' w') (h:wpList Tryz.prog ops Q rest (a.put o.dst v') w'):wpList Tryz.prog ops Q (o::rest) a w:=by
 refine wpList_plain hgd fun K hK=>?_;unfold Oper.wp;simp[execOp,ho,resolve,invoke,builtin,hs,hx,hrun,Result.andThen];exact hK _ _ h
def ru(lo:Nat)(w:World)(v:Value)(R:List Value):Prop:=w.ownsRow lo 35 1 v R.length R
theorem ru.nil(lo:Nat)(w:World):ru lo w (.slice none 0 0) []:=QM w lo 35 1
theorem Kb(lo:Nat)(v:Value)(K news:List Value)(gw cnt:Nat)(W:World)(hb:ru lo W v K)(hB:Bl W gw 35 news)(hc:cnt=news.length)(h0:0<news.length)(h1:∀ u ∈ news,u.oneCell'=true)(hlo:lo<=W.heap.size)(hk:K.length+news.length<=10000000) :
 ∃ v' w',(Builtin.append_ #[26,26] 26 #[v,.slice (some ⟨gw,0,none⟩) cnt cnt]).run Tryz.prog W=.ok v' w'/\ru lo w' v' (K++news)/\W.grownBy w' v.ownBlock:=by
 obtain⟨i0,hi,hz0,hz1,hz2⟩:=info_parts Tryz.D9;have hb':W.ownsRow lo 35 1 v K.length K:=hb;subst hc
 obtain⟨v',w',r1,r2,r3,_,r5⟩:=run_append_own_at (P:=Tryz.prog) W lo 26 26 35 i0 (.slice none 0 0) 1 24 Tryz.D8 hi hz0 hz1 hz2 rfl aA v K.length K hb' ⟨gw,0,none⟩ news.length news.length news aL (by
  intro j u hj;have:=hB.cell j u hj;have e:(⟨gw,0,none⟩:Addr).add j=⟨gw,j,none⟩:=by unfold Addr.add;split <;> simp_all
  rw[e];exact this) h1 (by unfold maxLen;omega) af af
 refine⟨v',w',r1,?_,r3⟩;unfold ru;rw[kv];exact r2
def gB(lo:Nat)(w:World)(v:Value)(LL:List (List Nat)):Prop:=∃ R,ru lo w v R/\R.length=LL.length/\∀ i,i<LL.length->∃ g,R[i]?=some (.slice (some ⟨g,0,none⟩) (LL.getD i []).length (LL.getD i []).length)/\By w g (LL.getD i [])
theorem ru.own{lo g:Nat}{w:World}{v:Value}{R:List Value}{L:List Nat}(h:ru lo w v R)(hB:By w g L):v.ownBlock≠some g:=by
 have h':w.ownsRow lo 35 1 v R.length R:=h;rcases h'.2 with ⟨rfl,_⟩|⟨g',cap,cur,rfl,_,hg,_⟩
 · simp[Value.ownBlock]
 · intro e';obtain rfl:g'=g:=by simpa [Value.ownBlock] using e'
   rw[show w.heap[g']?=_ from hB] at hg;simp at hg
theorem TG{lo g:Nat}{w w':World}{v:Value}{R:List Value}{L:List Nat}(h:ru lo w v R)(hB:By w g L)(hg:w.grownBy w' v.ownBlock):By w' g L:=by
 have h1:=h.own hB;have:=hg.block g hB.lt (fun e=>h1 e.symm);show w'.heap[g]?=_;rw[this];exact hB
theorem ru.lt{lo:Nat}{w:World}{v:Value}{R:List Value}(h:ru lo w v R):∀ k,v.ownBlock=some k->lo<=k/\k<w.heap.size:=by
 intro k hk;exact World.ownsRow.lt (show w.ownsRow lo 35 1 v R.length R from h) k hk
theorem ru.below{lo:Nat}{w w':World}{v:Value}{R:List Value}(h:ru lo w v R)(hb:Below w.heap.size w w'):ru lo w' v R:=by
 have h':w.ownsRow lo 35 1 v R.length R:=h;refine⟨h'.1,?_⟩;rcases h'.2 with ⟨rfl,h2⟩|⟨g',cap,cur,rfl,h2,hg,h3⟩
 · exact .inl ⟨rfl,h2⟩
 · exact .inr ⟨g',cap,cur,rfl,h2,by rw[hb.block g' (fG.1 hg).1];exact hg,h3⟩
theorem gB.below{lo:Nat}{w w':World}{v:Value}{LL:List (List Nat)}(h:gB lo w v LL)(hb:Below w.heap.size w w'):gB lo w' v LL:=by
 obtain⟨R,h1,h2,h3⟩:=h;refine⟨R,h1.below hb,h2,fun i hi=>?_⟩;obtain⟨g,q1,q2⟩:=h3 i hi;exact⟨g,q1,q2.below hb q2.lt⟩
theorem gB.nil(lo:Nat)(w:World):gB lo w (.slice none 0 0) []:=⟨[],ru.nil lo w,rfl,fun i hi=>by simp at hi⟩
theorem gB.more {lo gw cnt:Nat}{W:World}{v:Value}{LL NN:List (List Nat)}{news:List Value}(h:gB lo W v LL) (hB:Bl W gw 35 news) (hc:cnt=news.length) (hl:news.length=NN.length) (h0:0<news.length) (hlo:lo<=W.heap.size) (hk:LL.length+NN.length<=10000000)
 (hN:∀ i,i<NN.length->∃ g,news[i]?=some (.slice (some ⟨g,0,none⟩) (NN.getD i []).length (NN.getD i []).length)/\By W g (NN.getD i [])) :
 ∃ v' w',(Builtin.append_ #[26,26] 26 #[v,.slice (some ⟨gw,0,none⟩) cnt cnt]).run Tryz.prog W=.ok v' w'/\gB lo w' v' (LL++NN)/\Below lo W w'/\W.grownBy w' v.ownBlock/\(∀ (g:Nat) (L:List Nat),By W g L->By w' g L):=by
 obtain⟨R,h1,h2,h3⟩:=h
 obtain⟨v',w',r1,r2,r3⟩:=Kb lo v R news gw cnt W h1 hB hc h0 (fun u hu=>by
  obtain⟨i,hi,rfl⟩:=xe.1 hu;obtain⟨g,q,_⟩:=hN i af;rw[aY hi] at q
  rw[Option.some.inj q];rfl) hlo af
 have hby:∀ (g:Nat) (L:List Nat),By W g L->By w' g L:=fun g L hg=>TG h1 hg r3;refine⟨v',w',r1,⟨R++news,r2,by simp;omega,fun i hi=>?_⟩,Below.grown (aG _ _) r3 hlo (fun k hk=>(h1.lt k hk).1),r3,hby⟩;rw[kv] at hi
 by_cases q:i<LL.length
 · obtain⟨g,q1,q2⟩:=h3 i q;have e:(LL++NN).getD i []=LL.getD i []:=by simp[aS,mq q]
   rw[e];exact⟨g,by rw[mq af];exact q1,hby g _ q2⟩
 · obtain⟨g,q1,q2⟩:=hN (i-LL.length) af;have e:(LL++NN).getD i []=NN.getD (i-LL.length) []:=by simp[aS,mr (lM q)]
   rw[e];exact⟨g,by rw[mr af,h2];exact q1,hby g _ q2⟩
theorem gB.built {lo gw:Nat}{W:World}{NN:List (List Nat)}{news:List Value}(hB:Bl W gw 35 news) (hlo:lo<=gw) (hl:news.length=NN.length) (hm:news.length<=1000)
 (hN:∀ i,i<NN.length->∃ g,news[i]?=some (.slice (some ⟨g,0,none⟩) (NN.getD i []).length (NN.getD i []).length)/\By W g (NN.getD i [])):gB lo W (.slice (some ⟨gw,0,none⟩) news.length news.length) NN:=by
 refine⟨news,⟨aL,.inr ⟨gw,news.length,news.toArray,rfl,hlo,hB,aB _,by unfold maxLen;omega,aL,aL⟩⟩,hl,hN⟩
theorem gB.pts{lo:Nat}{w:World}{v:Value}{LL:List (List Nat)}(h:gB lo w v LL):∃ a c,v=.slice a LL.length c/\Pts w a LL:=by
 obtain⟨R,h1,h2,h3⟩:=h;have h':w.ownsRow lo 35 1 v R.length R:=h1;rcases h'.2 with ⟨rfl,hn⟩|⟨g,cap,cur,rfl,hb,hg,hn,hm,hs,ht⟩
 · refine⟨none,0,by rw[<-h2,hn],fun i hi=>?_⟩;omega
 · refine⟨some ⟨g,0,none⟩,cap,by rw[h2],fun i hi=>?_⟩;obtain⟨gi,q1,q2⟩:=h3 i hi;refine⟨g,0,gi,rfl,?_,q2⟩;rw[dm,World.ownsRow.cellAt h' i af];exact q1
end
end Go.Proofs.YtaejmlkaefnbhaaGreatDoor
