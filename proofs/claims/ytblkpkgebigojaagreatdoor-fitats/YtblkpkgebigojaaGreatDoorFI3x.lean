import Derived.Test.YtblkpkgebigojaaGreatDoorZ26x
import Derived.Test.YtblkpkgebigojaaGreatDoorD32cx
import Derived.Test.YtblkpkgebigojaaGreatDoorS9x
import Derived.Test.YtblkpkgebigojaaGreatDoorZ5x
import Derived.Test.YtblkpkgebigojaaGreatDoorM1x
import Derived.Laws.CopyOwn
import Derived.Deep.OwnRows
import Derived.Laws.MakeOwn
import Derived.ArgAppend
import Derived.Maps.AppendAt
import Derived.WalkMore
set_option linter.unusedVariables false
set_option linter.unusedSimpArgs false
set_option maxHeartbeats 16000000
set_option maxRecDepth 20000
namespace Go.Proofs.YtblkpkgebigojaaGreatDoor
namespace J
end J
section
open Go Go.RowKit J
theorem Nt.shp14 {w:World}{v:Value}{X:Nat}(h:Nt 0 w v X):∃ a c,v=.slice a (ws X).length c∧Nt 0 w (.slice a (ws X).length c) X:=by
 obtain ⟨a,c,rfl,-⟩:=h.shape;exact ⟨a,c,rfl,h⟩
theorem DVal.shp14 {lo:Nat}{w:World}{r:Ending}{o:Option (Bool×Nat×Int)}(h:DVal lo w r o):∃ a c,r=.returned (.agg #[.bool (dN o),.slice a (ws (dX o)).length c,.int .i64 (dE o)])∧Nt 0 w (.slice a (ws (dX o)).length c) (dX o):=by
 obtain ⟨v,rfl,hN⟩:=h.mono14;obtain ⟨a,c,rfl,hN⟩:=hN.shp14;exact ⟨a,c,rfl,hN⟩
theorem Za3 {w w':World}{p:Addr}{v:Value}(h:w.cell? p=some v) (hb:Below w.heap.size w w'):w'.cell? p=some v:=(hb.cell (p:=p) (World.block_lt_of_cell? w p h)).trans h
theorem ck {w u:World}(hb:Below w.heap.size w u){a b c d:Addr}{p q r s:Value}{R R':Prop}(h:w.cell? a=some p∧w.cell? b=some q∧w.cell? c=some r∧w.cell? d=some s∧R)(f:R→R'):u.cell? a=some p∧u.cell? b=some q∧u.cell? c=some r∧u.cell? d=some s∧R':=⟨Za3 h.1 hb,Za3 h.2.1 hb,Za3 h.2.2.1 hb,Za3 h.2.2.2.1 hb,f h.2.2.2.2⟩
theorem ck1 {w u:World}(hb:Below w.heap.size w u){a:Addr}{p:Value}(h:w.cell? a=some p):u.cell? a=some p:=Za3 h hb
theorem ck2 {w u:World}(hb:Below w.heap.size w u){a b:Addr}{p q:Value}(h:w.cell? a=some p∧w.cell? b=some q):u.cell? a=some p∧u.cell? b=some q:=⟨Za3 h.1 hb,Za3 h.2 hb⟩
theorem ck3 {w u:World}(hb:Below w.heap.size w u){a b c:Addr}{p q r:Value}(h:w.cell? a=some p∧w.cell? b=some q∧w.cell? c=some r):u.cell? a=some p∧u.cell? b=some q∧u.cell? c=some r:=⟨Za3 h.1 hb,Za3 h.2.1 hb,Za3 h.2.2 hb⟩
theorem ck4 {w u:World}(hb:Below w.heap.size w u){a b c d:Addr}{p q r s:Value}(h:w.cell? a=some p∧w.cell? b=some q∧w.cell? c=some r∧w.cell? d=some s):u.cell? a=some p∧u.cell? b=some q∧u.cell? c=some r∧u.cell? d=some s:=⟨Za3 h.1 hb,Za3 h.2.1 hb,Za3 h.2.2.1 hb,Za3 h.2.2.2 hb⟩
theorem nk {w u:World}(hb:Below w.heap.size w u){l:Nat}{a b c d:Value}{p q r s:Nat}{R R':Prop}(h:Nt l w a p∧Nt l w b q∧Nt l w c r∧Nt l w d s∧R)(f:R'):Nt l u a p∧Nt l u b q∧Nt l u c r∧Nt l u d s∧R':=⟨h.1.below hb,h.2.1.below hb,h.2.2.1.below hb,h.2.2.2.1.below hb,f⟩
noncomputable def Qp (V D:Option (Bool×Nat×Int)) (mode:Int):Nat×Int:=quoR rndS ⟨dN V,.bool false,dX V,dE V,dN D,.bool false,dX D,dE D⟩ mode
theorem Zst {u:World}{a b:Option Addr}{ca cb:Nat}{V D:Option (Bool×Nat×Int)}(mode:Int) (FV:Fm V) (FD:Fm D) (n1:Nt 0 u (.slice a (ws (dX V)).length ca) (dX V)) (n2:Nt 0 u (.slice b (ws (dX D)).length cb) (dX D)) (hT:Tab u) :
 Calls Tryz.prog 77 #[.agg #[.bool (dN V),.slice a (ws (dX V)).length ca,.int .i64 (dE V),.bool (dN D),.slice b (ws (dX D)).length cb,.int .i64 (dE D)],.int .i64 mode] u fun r w'=>r=.returned (.tuple #[.float .f64 (Qp V D mode).1,.int .i64 (Qp V D mode).2])∧Below u.heap.size u w' :=
 Zty (w:=u) (n:=dN V) (m:=dN D) (X:=dX V) (Y:=dX D) (e:=dE V) (f:=dE D) mode ⟨n1.av (Nat.le_trans FV.len (by decide)),n2.av (Nat.le_trans FD.len (by decide)),FV.rng,FD.rng⟩ hT
theorem Zbf {w:World}{a b:Option Addr}{ca cb:Nat}{V D:Option (Bool×Nat×Int)}(mode:Int) (FV:Fm V) (FD:Fm D) (N1:Nt 0 w (.slice a (ws (dX V)).length ca) (dX V)) (N2:Nt 0 w (.slice b (ws (dX D)).length cb) (dX D)) (hT:Tab w) :
 Calls Tryz.prog 37 #[.agg #[.bool (dN V),.slice a (ws (dX V)).length ca,.int .i64 (dE V)],.agg #[.bool (dN D),.slice b (ws (dX D)).length cb,.int .i64 (dE D)],.int .i64 mode] w fun r w'=>r=.returned (.float .f64 (Qp V D mode).1)∧Below w.heap.size w w':=by
 obtain ⟨W,hW⟩:∃ W,W=(w.alloc (Obj.cells #[.bool (dN V),.slice a (ws (dX V)).length ca,.int .i64 (dE V)] 62)).alloc (Obj.cells #[.bool (dN D),.slice b (ws (dX D)).length cb,.int .i64 (dE D)] 62):=⟨_,rfl⟩
 have H0:Aside (Dk W w.heap.size (dN V) (.slice a (ws (dX V)).length ca) (dE V)∧Dk W (w.heap.size+1) (dN D) (.slice b (ws (dX D)).length cb) (dE D)∧Below w.heap.size w W):=by
  subst hW;have z1:=Dk.new (w.alloc (Obj.cells #[.bool (dN V),.slice a (ws (dX V)).length ca,.int .i64 (dE V)] 62)) (dN D) (.slice b (ws (dX D)).length cb) (dE D);rw [World.size_alloc] at z1;exact ⟨(Dk.new _ _ _ _).below (Za _ _),z1,(Za _ _).trans ((Za _ _).mono (by simp))⟩
 have HC:=hid (Zst mode FV FD (N1.below H0.out.2.2) (N2.below H0.out.2.2) (hT.belows H0.out.2.2));have HW:=qsd hW;obtain ⟨Q,hQ⟩:∃ Q,Q=Qp V D mode:=⟨_,rfl⟩;rw [←hQ] at HC ⊢;clear hW hQ FV FD N1 N2 hT;go_enter Tryz.func37,Tryz.ntmps37
 go_upto_region 1 with fail
 rw [←HW.out];clear HW;obtain ⟨x0,x1,x2,xf0,xf1,xf2⟩:=H0.out.1.facts;obtain ⟨y0,y1,y2,yf0,yf1,yf2⟩:=H0.out.2.1.facts
 go_wp2_with fail
 refine HC.out.mono ?_;rintro r u ⟨rfl,hb⟩;have BE:=qsd (H0.out.2.2.trans (hb.mono H0.out.2.2.size));clear hb HC H0 x0 x1 x2 xf0 xf1 xf2 y0 y1 y2 yf0 yf1 yf2;go_wp2;exact bodyPost_ret (v:=.float .f64 Q.1) (by simp [results,Tryz.results37,go_sem]) rfl ⟨rfl,BE.out⟩
theorem Tryz.row_line:∃ d:TypeDesc,Tryz.prog.underlying 64=some d∧d.isRow=true:=by
 have h:(Tryz.prog.underlying 64).any (·.isRow)=true:=by kernel_rfl
 cases hd:Tryz.prog.underlying 64 with
 | none=>rw [hd] at h;cases h
 | some d=>rw [hd] at h;exact ⟨d,rfl,h⟩
theorem Tryz.size_line:(Tryz.prog.info? 64).map (·.size)=some 15:=by kernel_rfl
def Zfd (w:World) (v:Value) (o0 o1 o2 o3 o4:Option (Bool×Nat×Int)):Prop:=∃ a0 c0 a1 c1 a2 c2 a3 c3 a4 c4,v=.agg #[.bool (dN o0),.slice a0 (ws (dX o0)).length c0,.int .i64 (dE o0),.bool (dN o1),.slice a1 (ws (dX o1)).length c1,.int .i64 (dE o1),.bool (dN o2),.slice a2 (ws (dX o2)).length c2,.int .i64 (dE o2),.bool (dN o3),.slice a3 (ws (dX o3)).length c3,.int .i64 (dE o3),.bool (dN o4),.slice a4 (ws (dX o4)).length c4,.int .i64 (dE o4)]∧Nt 0 w (.slice a0 (ws (dX o0)).length c0) (dX o0)∧Nt 0 w (.slice a1 (ws (dX o1)).length c1) (dX o1)∧Nt 0 w (.slice a2 (ws (dX o2)).length c2) (dX o2)∧Nt 0 w (.slice a3 (ws (dX o3)).length c3) (dX o3)∧Nt 0 w (.slice a4 (ws (dX o4)).length c4) (dX o4)
theorem Zfm (w:World) (a b:Option Addr) (n c d:Nat) (hn:n≤65536) (oN oX oY oXX oXY oYY p1 p2 p3 p4 p5 p6 p7 p8 oD oC oT oK:Option (Bool×Nat×Int))
 (FF:Aside (Fm oN∧Fm oX∧Fm oY∧Fm oXX∧Fm oXY∧Fm oYY∧Fm p1∧Fm p2∧Fm p3∧Fm p4∧Fm p5∧Fm p6∧Fm p7∧Fm p8∧Fm oD∧Fm oC∧Fm oT∧Fm oK)) (EE:Aside (mulD oN oXX=p1∧mulD oX oX=p2∧mulD oN oXY=p3∧mulD oX oY=p4∧mulD oN oYY=p5∧mulD oY oY=p6∧mulD oXX oY=p7∧mulD oX oXY=p8∧addD p1 (mkS (!dN p2) (dX p2) (dE p2))=oD∧addD p3 (mkS (!dN p4) (dX p4) (dE p4))=oC∧addD p5 (mkS (!dN p6) (dX p6) (dE p6))=oT∧addD p7 (mkS (!dN p8) (dX p8) (dE p8))=oK))
 (HI:Hid (∀ u:World,Below w.heap.size w u→Calls Tryz.prog 74 #[.int .i64 (n:Nat)] u fun r w'=>DVal 0 w' r oN∧Below u.heap.size u w'))
 (HX:Hid (∀ u:World,Below w.heap.size w u→Calls Tryz.prog 75 #[.slice a n c] u fun r w'=>DVal 0 w' r oX∧Below u.heap.size u w'))
 (HY:Hid (∀ u:World,Below w.heap.size w u→Calls Tryz.prog 75 #[.slice b n d] u fun r w'=>DVal 0 w' r oY∧Below u.heap.size u w'))
 (HXX:Hid (∀ u:World,Below w.heap.size w u→Calls Tryz.prog 57 #[.slice a n c,.slice a n c] u fun r w'=>DVal 0 w' r oXX∧Below u.heap.size u w'))
 (HXY:Hid (∀ u:World,Below w.heap.size w u→Calls Tryz.prog 57 #[.slice a n c,.slice b n d] u fun r w'=>DVal 0 w' r oXY∧Below u.heap.size u w'))
 (HYY:Hid (∀ u:World,Below w.heap.size w u→Calls Tryz.prog 57 #[.slice b n d,.slice b n d] u fun r w'=>DVal 0 w' r oYY∧Below u.heap.size u w')) (HT:Aside (∀ u:World,Below w.heap.size w u→Tab u)) :
 Calls Tryz.prog 35 #[.slice a n c,.slice b n d] w fun r w'=>(∃ v,r=.returned v∧Zfd w' v oN oD oC oT oK)∧Below w.heap.size w w':=by
 obtain ⟨W0,hW0⟩:∃ W,W=w.alloc (Obj.cells #[.bool false,.slice none 0 0,.int .i64 0,.bool false,.slice none 0 0,.int .i64 0,.bool false,.slice none 0 0,.int .i64 0,.bool false,.slice none 0 0,.int .i64 0,.bool false,.slice none 0 0,.int .i64 0] 64):=⟨_,rfl⟩
 have B0:Aside (Bl W0 w.heap.size 64 [.bool false,.slice none 0 0,.int .i64 0,.bool false,.slice none 0 0,.int .i64 0,.bool false,.slice none 0 0,.int .i64 0,.bool false,.slice none 0 0,.int .i64 0,.bool false,.slice none 0 0,.int .i64 0]∧Below w.heap.size w W0):=by
  rw [hW0];exact ⟨Bl.new _ 64 [.bool false,.slice none 0 0,.int .i64 0,.bool false,.slice none 0 0,.int .i64 0,.bool false,.slice none 0 0,.int .i64 0,.bool false,.slice none 0 0,.int .i64 0,.bool false,.slice none 0 0,.int .i64 0],Zd _ _⟩
 have HW:=qsd hW0;have C:=hid (HI.out W0 B0.out.2);clear hW0 HI;go_enter Tryz.func35,Tryz.ntmps35
 go_upto_region 1 with fail
 rw [←HW.out];clear HW
 go_wp2_with fail
 refine C.out.mono ?_;clear C;rintro r u1 ⟨hd,hb⟩;obtain ⟨aN,cN,rfl,hN⟩:=hd.shp14;clear hd;obtain ⟨U,hU⟩:∃ U,U=u1.alloc (Obj.cells #[.bool (dN oN),.slice aN (ws (dX oN)).length cN,.int .i64 (dE oN)] 62):=⟨_,rfl⟩;obtain ⟨gN,hgN⟩:∃ g,g=u1.heap.size:=⟨_,rfl⟩
 have B1:Aside (Bl U w.heap.size 64 [.bool false,.slice none 0 0,.int .i64 0,.bool false,.slice none 0 0,.int .i64 0,.bool false,.slice none 0 0,.int .i64 0,.bool false,.slice none 0 0,.int .i64 0,.bool false,.slice none 0 0,.int .i64 0]∧Dk U gN (dN oN) (.slice aN (ws (dX oN)).length cN) (dE oN)∧Nt 0 U (.slice aN (ws (dX oN)).length cN) (dX oN)∧Below w.heap.size w U):=by
  rw [hU,hgN];exact ⟨(B0.out.1.below hb B0.out.1.lt).alloc _,Dk.new _ _ _ _,hN.below (Za _ _),(B0.out.2.trans (hb.mono B0.out.2.size)).trans ((Za _ _).mono (Nat.le_trans B0.out.2.size hb.size))⟩
 have HU:=(qsd (ai hU hgN));clear hU hgN hN hb B0;have C:=hid (HX.out U B1.out.2.2.2)
 go_upto_region 2 with fail
 rw [←HU.out.1,←HU.out.2];clear HU HX
 go_wp2_with fail
 refine C.out.mono ?_;clear C;rintro r u2 ⟨hd,hb⟩;obtain ⟨aX,cX,rfl,hN⟩:=hd.shp14;clear hd
 have B2:Aside (Bl u2 w.heap.size 64 [.bool false,.slice none 0 0,.int .i64 0,.bool false,.slice none 0 0,.int .i64 0,.bool false,.slice none 0 0,.int .i64 0,.bool false,.slice none 0 0,.int .i64 0,.bool false,.slice none 0 0,.int .i64 0]∧Dk u2 gN (dN oN) (.slice aN (ws (dX oN)).length cN) (dE oN)∧Nt 0 u2 (.slice aN (ws (dX oN)).length cN) (dX oN)∧Nt 0 u2 (.slice aX (ws (dX oX)).length cX) (dX oX)∧Below w.heap.size w u2) :=
  ⟨B1.out.1.below hb B1.out.1.lt,B1.out.2.1.below hb,B1.out.2.2.1.below hb,hN,B1.out.2.2.2.trans (hb.mono B1.out.2.2.2.size)⟩
 clear hN hb B1;have C:=hid (HY.out u2 B2.out.2.2.2.2);clear HY
 go_wp2_with fail
 refine C.out.mono ?_;clear C;rintro r u3 ⟨hd,hb⟩;obtain ⟨aY,cY,rfl,hN⟩:=hd.shp14;clear hd;obtain ⟨U,hU⟩:∃ U,U=(u3.alloc (Obj.cells #[.bool (dN oX),.slice aX (ws (dX oX)).length cX,.int .i64 (dE oX)] 62)).alloc (Obj.cells #[.bool (dN oY),.slice aY (ws (dX oY)).length cY,.int .i64 (dE oY)] 62):=⟨_,rfl⟩;obtain ⟨gX,hgX⟩:∃ g,g=u3.heap.size:=⟨_,rfl⟩;obtain ⟨gY,hgY⟩:∃ g,g=u3.heap.size+1:=⟨_,rfl⟩;have hbU:Below u3.heap.size u3 U:=by rw [hU];exact (Za _ _).trans ((Za _ _).mono (by simp))
 have B3:Aside (Bl U w.heap.size 64 [.bool false,.slice none 0 0,.int .i64 0,.bool false,.slice none 0 0,.int .i64 0,.bool false,.slice none 0 0,.int .i64 0,.bool false,.slice none 0 0,.int .i64 0,.bool false,.slice none 0 0,.int .i64 0]∧Dk U gN (dN oN) (.slice aN (ws (dX oN)).length cN) (dE oN)∧Dk U gX (dN oX) (.slice aX (ws (dX oX)).length cX) (dE oX)∧Dk U gY (dN oY) (.slice aY (ws (dX oY)).length cY) (dE oY)∧Nt 0 U (.slice aN (ws (dX oN)).length cN) (dX oN)∧Nt 0 U (.slice aX (ws (dX oX)).length cX) (dX oX)∧Nt 0 U (.slice aY (ws (dX oY)).length cY) (dX oY)∧Below w.heap.size w U):=by
  refine ⟨(B2.out.1.below hb B2.out.1.lt).below hbU (B2.out.1.below hb B2.out.1.lt).lt,(B2.out.2.1.below hb).below hbU,?_,?_,(B2.out.2.2.1.below hb).below hbU,(B2.out.2.2.2.1.below hb).below hbU,hN.below hbU,(B2.out.2.2.2.2.trans (hb.mono B2.out.2.2.2.2.size)).trans (hbU.mono (Nat.le_trans B2.out.2.2.2.2.size hb.size))⟩
  · rw [hU,hgX];exact (Dk.new _ _ _ _).below (Za _ _)
  · have z:=Dk.new (u3.alloc (Obj.cells #[.bool (dN oX),.slice aX (ws (dX oX)).length cX,.int .i64 (dE oX)] 62)) (dN oY) (.slice aY (ws (dX oY)).length cY) (dE oY)
    rw [World.size_alloc] at z;rw [hU,hgY];exact z
 have HU:=(qsd (ai hU (ai hgX hgY)));clear hU hgX hgY hN hb B2 hbU;have C:=hid (HXX.out U B3.out.2.2.2.2.2.2.2)
 go_upto_region 3 with fail
 rw [←HU.out.1]
 try rw [←HU.out.2.2]
 rw [←HU.out.2.1];clear HU HXX
 go_wp2_with fail
 refine C.out.mono ?_;clear C;rintro r u4 ⟨hd,hb⟩;obtain ⟨aXX,cXX,rfl,hN⟩:=hd.shp14;clear hd;have B4:=qsd (ai (B3.out.1.below hb B3.out.1.lt) (ai (B3.out.2.1.below hb) (ai (B3.out.2.2.1.below hb) (ai (B3.out.2.2.2.1.below hb) (ai (B3.out.2.2.2.2.1.below hb) (ai (B3.out.2.2.2.2.2.1.below hb) (ai (B3.out.2.2.2.2.2.2.1.below hb) (ai hN (B3.out.2.2.2.2.2.2.2.trans (hb.mono B3.out.2.2.2.2.2.2.2.size))))))))));clear hN hb B3;have C:=hid (HXY.out u4 B4.out.2.2.2.2.2.2.2.2);clear HXY
 go_wp2_with fail
 refine C.out.mono ?_;clear C;rintro r u5 ⟨hd,hb⟩;obtain ⟨aXY,cXY,rfl,hN⟩:=hd.shp14;clear hd;have B5:=qsd (ai (B4.out.1.below hb B4.out.1.lt) (ai (B4.out.2.1.below hb) (ai (B4.out.2.2.1.below hb) (ai (B4.out.2.2.2.1.below hb) (ai (B4.out.2.2.2.2.1.below hb) (ai (B4.out.2.2.2.2.2.1.below hb) (ai (B4.out.2.2.2.2.2.2.1.below hb) (ai (B4.out.2.2.2.2.2.2.2.1.below hb) (ai hN (B4.out.2.2.2.2.2.2.2.2.trans (hb.mono B4.out.2.2.2.2.2.2.2.2.size)))))))))));clear hN hb B4;have C:=hid (HYY.out u5 B5.out.2.2.2.2.2.2.2.2.2);clear HYY
 go_wp2_with fail
 refine C.out.mono ?_;clear C;rintro r u6 ⟨hd,hb⟩;obtain ⟨aYY,cYY,rfl,hN⟩:=hd.shp14;clear hd;obtain ⟨U,hU⟩:∃ U,U=((u6.alloc (Obj.cells #[.bool (dN oXX),.slice aXX (ws (dX oXX)).length cXX,.int .i64 (dE oXX)] 62)).alloc (Obj.cells #[.bool (dN oXY),.slice aXY (ws (dX oXY)).length cXY,.int .i64 (dE oXY)] 62)).alloc (Obj.cells #[.bool (dN oYY),.slice aYY (ws (dX oYY)).length cYY,.int .i64 (dE oYY)] 62):=⟨_,rfl⟩;obtain ⟨gXX,hgXX⟩:∃ g,g=u6.heap.size:=⟨_,rfl⟩;obtain ⟨gXY,hgXY⟩:∃ g,g=u6.heap.size+1:=⟨_,rfl⟩;obtain ⟨gYY,hgYY⟩:∃ g,g=u6.heap.size+2:=⟨_,rfl⟩;have hbU:Below u6.heap.size u6 U.drew:=by rw [hU];exact (((Za _ _).trans ((Za _ _).mono (by simp))).trans ((Za _ _).mono (by simp;omega))).drew
 have BD:Aside (Bl U.drew w.heap.size 64 [.bool false,.slice none 0 0,.int .i64 0,.bool false,.slice none 0 0,.int .i64 0,.bool false,.slice none 0 0,.int .i64 0,.bool false,.slice none 0 0,.int .i64 0,.bool false,.slice none 0 0,.int .i64 0]∧Dk U.drew gN (dN oN) (.slice aN (ws (dX oN)).length cN) (dE oN)∧Dk U.drew gX (dN oX) (.slice aX (ws (dX oX)).length cX) (dE oX)∧Dk U.drew gY (dN oY) (.slice aY (ws (dX oY)).length cY) (dE oY)∧Dk U.drew gXX (dN oXX) (.slice aXX (ws (dX oXX)).length cXX) (dE oXX)∧Dk U.drew gXY (dN oXY) (.slice aXY (ws (dX oXY)).length cXY) (dE oXY)∧Dk U.drew gYY (dN oYY) (.slice aYY (ws (dX oYY)).length cYY) (dE oYY)∧Nt 0 U.drew (.slice aN (ws (dX oN)).length cN) (dX oN)∧Nt 0 U.drew (.slice aX (ws (dX oX)).length cX) (dX oX)∧Nt 0 U.drew (.slice aY (ws (dX oY)).length cY) (dX oY)∧Nt 0 U.drew (.slice aXX (ws (dX oXX)).length cXX) (dX oXX)∧Nt 0 U.drew (.slice aXY (ws (dX oXY)).length cXY) (dX oXY)∧Nt 0 U.drew (.slice aYY (ws (dX oYY)).length cYY) (dX oYY)∧Below w.heap.size w U.drew):=by
  refine ⟨(B5.out.1.below hb B5.out.1.lt).below hbU (B5.out.1.below hb B5.out.1.lt).lt,(B5.out.2.1.below hb).below hbU,(B5.out.2.2.1.below hb).below hbU,(B5.out.2.2.2.1.below hb).below hbU,?_,?_,?_,(B5.out.2.2.2.2.1.below hb).below hbU,(B5.out.2.2.2.2.2.1.below hb).below hbU,(B5.out.2.2.2.2.2.2.1.below hb).below hbU,(B5.out.2.2.2.2.2.2.2.1.below hb).below hbU,(B5.out.2.2.2.2.2.2.2.2.1.below hb).below hbU,hN.below hbU,(B5.out.2.2.2.2.2.2.2.2.2.trans (hb.mono B5.out.2.2.2.2.2.2.2.2.2.size)).trans (hbU.mono (Nat.le_trans B5.out.2.2.2.2.2.2.2.2.2.size hb.size))⟩
  · rw [hU,hgXX];exact (((Dk.new _ _ _ _).below (Za _ _)).below (Za _ _)).below (Below.refl _ _).drew
  · have z:=Dk.new (u6.alloc (Obj.cells #[.bool (dN oXX),.slice aXX (ws (dX oXX)).length cXX,.int .i64 (dE oXX)] 62)) (dN oXY) (.slice aXY (ws (dX oXY)).length cXY) (dE oXY)
    rw [World.size_alloc] at z;rw [hU,hgXY];exact (z.below (Za _ _)).below (Below.refl _ _).drew
  · have z:=Dk.new ((u6.alloc (Obj.cells #[.bool (dN oXX),.slice aXX (ws (dX oXX)).length cXX,.int .i64 (dE oXX)] 62)).alloc (Obj.cells #[.bool (dN oXY),.slice aXY (ws (dX oXY)).length cXY,.int .i64 (dE oXY)] 62)) (dN oYY) (.slice aYY (ws (dX oYY)).length cYY) (dE oYY)
    rw [World.size_alloc,World.size_alloc] at z;rw [hU,hgYY];exact z.below (Below.refl _ _).drew
 have HU:=(qsd (ai hU (ai hgXX (ai hgXY hgYY))));clear hU hgXX hgXY hgYY hN hb B5 hbU
 go_upto_region 4 with fail
 rw [←HU.out.1]
 try rw [←HU.out.2.2.2]
 try rw [←HU.out.2.2.1]
 try rw [←HU.out.2.1]
 clear HU;have DoN_:=BD.out.2.1.facts;have DoX_:=BD.out.2.2.1.facts;have DoY_:=BD.out.2.2.2.1.facts;have DoXX_:=BD.out.2.2.2.2.1.facts;have DoXY_:=BD.out.2.2.2.2.2.1.facts;have DoYY_:=BD.out.2.2.2.2.2.2.1.facts;have kS:Aside (U.drew.cell? ⟨gN,0,none⟩=some (.bool (dN oN))∧U.drew.cell? ⟨gN,1,none⟩=some (.slice aN (ws (dX oN)).length cN)∧U.drew.cell? ⟨gN,2,none⟩=some (.int .i64 (dE oN))∧U.drew.cell? ⟨gX,0,none⟩=some (.bool (dN oX))∧U.drew.cell? ⟨gX,1,none⟩=some (.slice aX (ws (dX oX)).length cX)∧U.drew.cell? ⟨gX,2,none⟩=some (.int .i64 (dE oX))∧U.drew.cell? ⟨gY,0,none⟩=some (.bool (dN oY))∧U.drew.cell? ⟨gY,1,none⟩=some (.slice aY (ws (dX oY)).length cY)∧U.drew.cell? ⟨gY,2,none⟩=some (.int .i64 (dE oY))∧U.drew.cell? ⟨gXX,0,none⟩=some (.bool (dN oXX))∧U.drew.cell? ⟨gXX,1,none⟩=some (.slice aXX (ws (dX oXX)).length cXX)∧U.drew.cell? ⟨gXX,2,none⟩=some (.int .i64 (dE oXX))∧U.drew.cell? ⟨gXY,0,none⟩=some (.bool (dN oXY))∧U.drew.cell? ⟨gXY,1,none⟩=some (.slice aXY (ws (dX oXY)).length cXY)∧U.drew.cell? ⟨gXY,2,none⟩=some (.int .i64 (dE oXY))∧U.drew.cell? ⟨gYY,0,none⟩=some (.bool (dN oYY))∧U.drew.cell? ⟨gYY,1,none⟩=some (.slice aYY (ws (dX oYY)).length cYY)∧U.drew.cell? ⟨gYY,2,none⟩=some (.int .i64 (dE oYY))):=(ai DoN_.1 (ai DoN_.2.1 (ai DoN_.2.2.1 (ai DoX_.1 (ai DoX_.2.1 (ai DoX_.2.2.1 (ai DoY_.1 (ai DoY_.2.1 (ai DoY_.2.2.1 (ai DoXX_.1 (ai DoXX_.2.1 (ai DoXX_.2.2.1 (ai DoXY_.1 (ai DoXY_.2.1 (ai DoXY_.2.2.1 (ai DoYY_.1 (ai DoYY_.2.1 DoYY_.2.2.1)))))))))))))))));clear DoN_ DoX_ DoY_ DoXX_ DoXY_ DoYY_;refine Zn (fun w'=>w'.cell? ⟨gN,0,none⟩=some (.bool (dN oN))∧w'.cell? ⟨gN,1,none⟩=some (.slice aN (ws (dX oN)).length cN)∧w'.cell? ⟨gN,2,none⟩=some (.int .i64 (dE oN))∧w'.cell? ⟨gX,0,none⟩=some (.bool (dN oX))∧w'.cell? ⟨gX,1,none⟩=some (.slice aX (ws (dX oX)).length cX)∧w'.cell? ⟨gX,2,none⟩=some (.int .i64 (dE oX))∧w'.cell? ⟨gY,0,none⟩=some (.bool (dN oY))∧w'.cell? ⟨gY,1,none⟩=some (.slice aY (ws (dX oY)).length cY)∧w'.cell? ⟨gY,2,none⟩=some (.int .i64 (dE oY))∧w'.cell? ⟨gXX,0,none⟩=some (.bool (dN oXX))∧w'.cell? ⟨gXX,1,none⟩=some (.slice aXX (ws (dX oXX)).length cXX)∧w'.cell? ⟨gXX,2,none⟩=some (.int .i64 (dE oXX))∧w'.cell? ⟨gXY,0,none⟩=some (.bool (dN oXY))∧w'.cell? ⟨gXY,1,none⟩=some (.slice aXY (ws (dX oXY)).length cXY)∧w'.cell? ⟨gXY,2,none⟩=some (.int .i64 (dE oXY))∧w'.cell? ⟨gYY,0,none⟩=some (.bool (dN oYY))∧w'.cell? ⟨gYY,1,none⟩=some (.slice aYY (ws (dX oYY)).length cYY)∧w'.cell? ⟨gYY,2,none⟩=some (.int .i64 (dE oYY))) 30 (by kernel_rfl) ?_
 obtain ⟨Wd,hWd⟩:∃ Vq,Vq=U.drew:=⟨_,rfl⟩;rw [←hWd] at BD kS ⊢;clear hWd
 refine tk 0 [29] rfl kS.out ?_;try simp only [Act.put,sa,sb,sc]
 refine tk 1 [3,6,7,10,13,14,17,20,21,24,27,28,29] rfl kS.out ?_;try simp only [Act.put,sa,sb,sc]
 refine tk 2 [3,6,7,10,13,14,17,20,21,24,27,28,29] rfl kS.out ?_;try simp only [Act.put,sa,sb,sc]
 refine tk 4 [6,7,10,13,14,17,20,21,24,27,28,29] rfl kS.out ?_;try simp only [Act.put,sa,sb,sc]
 refine tk 5 [6,7,10,13,14,17,20,21,24,27,28,29] rfl kS.out ?_;try simp only [Act.put,sa,sb,sc]
 refine tk 8 [10,13,14,17,20,21,24,27,28,29] rfl kS.out ?_;try simp only [Act.put,sa,sb,sc]
 refine tk 9 [10,13,14,17,20,21,24,27,28,29] rfl kS.out ?_;try simp only [Act.put,sa,sb,sc]
 refine tk 11 [13,14,17,20,21,24,27,28,29] rfl kS.out ?_;try simp only [Act.put,sa,sb,sc]
 refine tk 12 [13,14,17,20,21,24,27,28,29] rfl kS.out ?_;try simp only [Act.put,sa,sb,sc]
 refine tk 15 [17,20,21,24,27,28,29] rfl kS.out ?_;try simp only [Act.put,sa,sb,sc]
 refine tk 16 [17,20,21,24,27,28,29] rfl kS.out ?_;try simp only [Act.put,sa,sb,sc]
 refine tk 18 [20,21,24,27,28,29] rfl kS.out ?_;try simp only [Act.put,sa,sb,sc]
 refine tk 19 [20,21,24,27,28,29] rfl kS.out ?_;try simp only [Act.put,sa,sb,sc]
 refine tk 22 [24,27,28,29] rfl kS.out ?_;try simp only [Act.put,sa,sb,sc]
 refine tk 23 [24,27,28,29] rfl kS.out ?_;try simp only [Act.put,sa,sb,sc]
 refine tk 25 [27,28,29] rfl kS.out ?_;try simp only [Act.put,sa,sb,sc]
 refine tk 26 [27,28,29] rfl kS.out ?_;try simp only [Act.put,sa,sb,sc]
 refine Zb (i:=3) (by kernel_rfl) rfl (fun K' hK=>?_)
 have C:=hid (Qe FF.out.1 FF.out.2.2.2.1 FF.out.2.2.2.2.2.2.1 BD.out.2.2.2.2.2.2.2.1 BD.out.2.2.2.2.2.2.2.2.2.2.1 (HT.out _ BD.out.2.2.2.2.2.2.2.2.2.2.2.2.2) EE.out.1)
 go_simp
 refine C.out.mono ?_;rintro r u1_ ⟨hd,hb⟩;obtain ⟨p1a,p1c,rfl,hN⟩:=hd.shp14;clear hd;have BD2:=qsd (ai (BD.out.1.below hb BD.out.1.lt) (ai (BD.out.2.1.below hb) (ai (BD.out.2.2.1.below hb) (ai (BD.out.2.2.2.1.below hb) (ai (BD.out.2.2.2.2.1.below hb) (ai (BD.out.2.2.2.2.2.1.below hb) (ai (BD.out.2.2.2.2.2.2.1.below hb) (nk hb BD.out.2.2.2.2.2.2.2 (ai (BD.out.2.2.2.2.2.2.2.2.2.2.2.1.below hb) (ai (BD.out.2.2.2.2.2.2.2.2.2.2.2.2.1.below hb) (ai (BD.out.2.2.2.2.2.2.2.2.2.2.2.2.2.trans (hb.mono BD.out.2.2.2.2.2.2.2.2.2.2.2.2.2.size)) hN)))))))))));have kS2:=qsd (ck hb kS.out fun h=>ck hb h fun h=>ck hb h fun h=>ck hb h fun h=>ck2 hb h);clear hb hN C BD kS;have BD:=BD2;have kS:=kS2;clear BD2 kS2
 try dsimp only
 refine hK.out _ _ (fun _=>kS.out) ?_
 clear hK K'
 try simp only [Act.put,sa,sb,sc]
 refine Zb (i:=6) (by kernel_rfl) rfl (fun K' hK=>?_)
 have C:=hid (Qe FF.out.2.1 FF.out.2.1 FF.out.2.2.2.2.2.2.2.1 BD.out.2.2.2.2.2.2.2.2.1 BD.out.2.2.2.2.2.2.2.2.1 (HT.out _ BD.out.2.2.2.2.2.2.2.2.2.2.2.2.2.1) EE.out.2.1)
 go_simp
 refine C.out.mono ?_;rintro r u2_ ⟨hd,hb⟩;obtain ⟨p2a,p2c,rfl,hN⟩:=hd.shp14;clear hd;have BD2:=qsd (ai (BD.out.1.below hb BD.out.1.lt) (ai (BD.out.2.1.below hb) (ai (BD.out.2.2.1.below hb) (ai (BD.out.2.2.2.1.below hb) (ai (BD.out.2.2.2.2.1.below hb) (ai (BD.out.2.2.2.2.2.1.below hb) (ai (BD.out.2.2.2.2.2.2.1.below hb) (nk hb BD.out.2.2.2.2.2.2.2 (ai (BD.out.2.2.2.2.2.2.2.2.2.2.2.1.below hb) (ai (BD.out.2.2.2.2.2.2.2.2.2.2.2.2.1.below hb) (ai (BD.out.2.2.2.2.2.2.2.2.2.2.2.2.2.1.trans (hb.mono BD.out.2.2.2.2.2.2.2.2.2.2.2.2.2.1.size)) (ai (BD.out.2.2.2.2.2.2.2.2.2.2.2.2.2.2.below hb) hN))))))))))));have kS2:=qsd (ck hb kS.out fun h=>ck hb h fun h=>ck hb h fun h=>ck hb h fun h=>ck2 hb h);clear hb hN C BD kS;have BD:=BD2;have kS:=kS2;clear BD2 kS2
 try dsimp only
 refine hK.out _ _ (fun _=>kS.out) ?_
 clear hK K'
 try simp only [Act.put,sa,sb,sc]
 refine Zb (i:=7) (by kernel_rfl) rfl (fun K' hK=>?_)
 have C:=hid (Zc8 FF.out.2.2.2.2.2.2.1 FF.out.2.2.2.2.2.2.2.1 FF.out.2.2.2.2.2.2.2.2.2.2.2.2.2.2.1 BD.out.2.2.2.2.2.2.2.2.2.2.2.2.2.2.1 BD.out.2.2.2.2.2.2.2.2.2.2.2.2.2.2.2 (HT.out _ BD.out.2.2.2.2.2.2.2.2.2.2.2.2.2.1) EE.out.2.2.2.2.2.2.2.2.1)
 go_simp
 refine C.out.mono ?_;rintro r u3_ ⟨hd,hb⟩;obtain ⟨oDa,oDc,rfl,hN⟩:=hd.shp14;clear hd;have BD2:=qsd (ai (BD.out.1.below hb BD.out.1.lt) (ai (BD.out.2.1.below hb) (ai (BD.out.2.2.1.below hb) (ai (BD.out.2.2.2.1.below hb) (ai (BD.out.2.2.2.2.1.below hb) (ai (BD.out.2.2.2.2.2.1.below hb) (ai (BD.out.2.2.2.2.2.2.1.below hb) (nk hb BD.out.2.2.2.2.2.2.2 (ai (BD.out.2.2.2.2.2.2.2.2.2.2.2.1.below hb) (ai (BD.out.2.2.2.2.2.2.2.2.2.2.2.2.1.below hb) (ai (BD.out.2.2.2.2.2.2.2.2.2.2.2.2.2.1.trans (hb.mono BD.out.2.2.2.2.2.2.2.2.2.2.2.2.2.1.size)) (ai (BD.out.2.2.2.2.2.2.2.2.2.2.2.2.2.2.1.below hb) (ai (BD.out.2.2.2.2.2.2.2.2.2.2.2.2.2.2.2.below hb) hN)))))))))))));have kS2:=qsd (ck hb kS.out fun h=>ck hb h fun h=>ck hb h fun h=>ck hb h fun h=>ck2 hb h);clear hb hN C BD kS;have BD:=BD2;have kS:=kS2;clear BD2 kS2
 try dsimp only
 refine hK.out _ _ (fun _=>kS.out) ?_
 clear hK K'
 try simp only [Act.put,sa,sb,sc]
 refine Zb (i:=10) (by kernel_rfl) rfl (fun K' hK=>?_)
 have C:=hid (Qe FF.out.1 FF.out.2.2.2.2.1 FF.out.2.2.2.2.2.2.2.2.1 BD.out.2.2.2.2.2.2.2.1 BD.out.2.2.2.2.2.2.2.2.2.2.2.1 (HT.out _ BD.out.2.2.2.2.2.2.2.2.2.2.2.2.2.1) EE.out.2.2.1)
 go_simp
 refine C.out.mono ?_;rintro r u4_ ⟨hd,hb⟩;obtain ⟨p3a,p3c,rfl,hN⟩:=hd.shp14;clear hd;have BD2:=qsd (ai (BD.out.1.below hb BD.out.1.lt) (ai (BD.out.2.1.below hb) (ai (BD.out.2.2.1.below hb) (ai (BD.out.2.2.2.1.below hb) (ai (BD.out.2.2.2.2.1.below hb) (ai (BD.out.2.2.2.2.2.1.below hb) (ai (BD.out.2.2.2.2.2.2.1.below hb) (nk hb BD.out.2.2.2.2.2.2.2 (ai (BD.out.2.2.2.2.2.2.2.2.2.2.2.1.below hb) (ai (BD.out.2.2.2.2.2.2.2.2.2.2.2.2.1.below hb) (ai (BD.out.2.2.2.2.2.2.2.2.2.2.2.2.2.1.trans (hb.mono BD.out.2.2.2.2.2.2.2.2.2.2.2.2.2.1.size)) (ai (BD.out.2.2.2.2.2.2.2.2.2.2.2.2.2.2.1.below hb) (ai (BD.out.2.2.2.2.2.2.2.2.2.2.2.2.2.2.2.1.below hb) (ai (BD.out.2.2.2.2.2.2.2.2.2.2.2.2.2.2.2.2.below hb) hN))))))))))))));have kS2:=qsd (ck hb kS.out fun h=>ck hb h fun h=>ck hb h fun h=>ck hb h fun h=>ck2 hb h);clear hb hN C BD kS;have BD:=BD2;have kS:=kS2;clear BD2 kS2
 try dsimp only
 refine hK.out _ _ (fun _=>kS.out) ?_
 clear hK K'
 try simp only [Act.put,sa,sb,sc]
 refine Zb (i:=13) (by kernel_rfl) rfl (fun K' hK=>?_)
 have C:=hid (Qe FF.out.2.1 FF.out.2.2.1 FF.out.2.2.2.2.2.2.2.2.2.1 BD.out.2.2.2.2.2.2.2.2.1 BD.out.2.2.2.2.2.2.2.2.2.1 (HT.out _ BD.out.2.2.2.2.2.2.2.2.2.2.2.2.2.1) EE.out.2.2.2.1)
 go_simp
 refine C.out.mono ?_;rintro r u5_ ⟨hd,hb⟩;obtain ⟨p4a,p4c,rfl,hN⟩:=hd.shp14;clear hd;have BD2:=qsd (ai (BD.out.1.below hb BD.out.1.lt) (ai (BD.out.2.1.below hb) (ai (BD.out.2.2.1.below hb) (ai (BD.out.2.2.2.1.below hb) (ai (BD.out.2.2.2.2.1.below hb) (ai (BD.out.2.2.2.2.2.1.below hb) (ai (BD.out.2.2.2.2.2.2.1.below hb) (nk hb BD.out.2.2.2.2.2.2.2 (ai (BD.out.2.2.2.2.2.2.2.2.2.2.2.1.below hb) (ai (BD.out.2.2.2.2.2.2.2.2.2.2.2.2.1.below hb) (ai (BD.out.2.2.2.2.2.2.2.2.2.2.2.2.2.1.trans (hb.mono BD.out.2.2.2.2.2.2.2.2.2.2.2.2.2.1.size)) (ai (BD.out.2.2.2.2.2.2.2.2.2.2.2.2.2.2.1.below hb) (ai (BD.out.2.2.2.2.2.2.2.2.2.2.2.2.2.2.2.1.below hb) (ai (BD.out.2.2.2.2.2.2.2.2.2.2.2.2.2.2.2.2.1.below hb) (ai (BD.out.2.2.2.2.2.2.2.2.2.2.2.2.2.2.2.2.2.below hb) hN)))))))))))))));have kS2:=qsd (ck hb kS.out fun h=>ck hb h fun h=>ck hb h fun h=>ck hb h fun h=>ck2 hb h);clear hb hN C BD kS;have BD:=BD2;have kS:=kS2;clear BD2 kS2
 try dsimp only
 refine hK.out _ _ (fun _=>kS.out) ?_
 clear hK K'
 try simp only [Act.put,sa,sb,sc]
 refine Zb (i:=14) (by kernel_rfl) rfl (fun K' hK=>?_)
 have C:=hid (Zc8 FF.out.2.2.2.2.2.2.2.2.1 FF.out.2.2.2.2.2.2.2.2.2.1 FF.out.2.2.2.2.2.2.2.2.2.2.2.2.2.2.2.1 BD.out.2.2.2.2.2.2.2.2.2.2.2.2.2.2.2.2.2.1 BD.out.2.2.2.2.2.2.2.2.2.2.2.2.2.2.2.2.2.2 (HT.out _ BD.out.2.2.2.2.2.2.2.2.2.2.2.2.2.1) EE.out.2.2.2.2.2.2.2.2.2.1)
 go_simp
 refine C.out.mono ?_;rintro r u6_ ⟨hd,hb⟩;obtain ⟨oCa,oCc,rfl,hN⟩:=hd.shp14;clear hd;have BD2:=qsd (ai (BD.out.1.below hb BD.out.1.lt) (ai (BD.out.2.1.below hb) (ai (BD.out.2.2.1.below hb) (ai (BD.out.2.2.2.1.below hb) (ai (BD.out.2.2.2.2.1.below hb) (ai (BD.out.2.2.2.2.2.1.below hb) (ai (BD.out.2.2.2.2.2.2.1.below hb) (nk hb BD.out.2.2.2.2.2.2.2 (ai (BD.out.2.2.2.2.2.2.2.2.2.2.2.1.below hb) (ai (BD.out.2.2.2.2.2.2.2.2.2.2.2.2.1.below hb) (ai (BD.out.2.2.2.2.2.2.2.2.2.2.2.2.2.1.trans (hb.mono BD.out.2.2.2.2.2.2.2.2.2.2.2.2.2.1.size)) (nk hb BD.out.2.2.2.2.2.2.2.2.2.2.2.2.2.2 (ai (BD.out.2.2.2.2.2.2.2.2.2.2.2.2.2.2.2.2.2.2.below hb) hN)))))))))))));have kS2:=qsd (ck hb kS.out fun h=>ck hb h fun h=>ck hb h fun h=>ck hb h fun h=>ck2 hb h);clear hb hN C BD kS;have BD:=BD2;have kS:=kS2;clear BD2 kS2
 try dsimp only
 refine hK.out _ _ (fun _=>kS.out) ?_
 clear hK K'
 try simp only [Act.put,sa,sb,sc]
 refine Zb (i:=17) (by kernel_rfl) rfl (fun K' hK=>?_)
 have C:=hid (Qe FF.out.1 FF.out.2.2.2.2.2.1 FF.out.2.2.2.2.2.2.2.2.2.2.1 BD.out.2.2.2.2.2.2.2.1 BD.out.2.2.2.2.2.2.2.2.2.2.2.2.1 (HT.out _ BD.out.2.2.2.2.2.2.2.2.2.2.2.2.2.1) EE.out.2.2.2.2.1)
 go_simp
 refine C.out.mono ?_;rintro r u7_ ⟨hd,hb⟩;obtain ⟨p5a,p5c,rfl,hN⟩:=hd.shp14;clear hd;have BD2:=qsd (ai (BD.out.1.below hb BD.out.1.lt) (ai (BD.out.2.1.below hb) (ai (BD.out.2.2.1.below hb) (ai (BD.out.2.2.2.1.below hb) (ai (BD.out.2.2.2.2.1.below hb) (ai (BD.out.2.2.2.2.2.1.below hb) (ai (BD.out.2.2.2.2.2.2.1.below hb) (nk hb BD.out.2.2.2.2.2.2.2 (ai (BD.out.2.2.2.2.2.2.2.2.2.2.2.1.below hb) (ai (BD.out.2.2.2.2.2.2.2.2.2.2.2.2.1.below hb) (ai (BD.out.2.2.2.2.2.2.2.2.2.2.2.2.2.1.trans (hb.mono BD.out.2.2.2.2.2.2.2.2.2.2.2.2.2.1.size)) (nk hb BD.out.2.2.2.2.2.2.2.2.2.2.2.2.2.2 (ai (BD.out.2.2.2.2.2.2.2.2.2.2.2.2.2.2.2.2.2.2.1.below hb) (ai (BD.out.2.2.2.2.2.2.2.2.2.2.2.2.2.2.2.2.2.2.2.below hb) hN))))))))))))));have kS2:=qsd (ck hb kS.out fun h=>ck hb h fun h=>ck hb h fun h=>ck hb h fun h=>ck2 hb h);clear hb hN C BD kS;have BD:=BD2;have kS:=kS2;clear BD2 kS2
 try dsimp only
 refine hK.out _ _ (fun _=>kS.out) ?_
 clear hK K'
 try simp only [Act.put,sa,sb,sc]
 refine Zb (i:=20) (by kernel_rfl) rfl (fun K' hK=>?_)
 have C:=hid (Qe FF.out.2.2.1 FF.out.2.2.1 FF.out.2.2.2.2.2.2.2.2.2.2.2.1 BD.out.2.2.2.2.2.2.2.2.2.1 BD.out.2.2.2.2.2.2.2.2.2.1 (HT.out _ BD.out.2.2.2.2.2.2.2.2.2.2.2.2.2.1) EE.out.2.2.2.2.2.1)
 go_simp
 refine C.out.mono ?_;rintro r u8_ ⟨hd,hb⟩;obtain ⟨p6a,p6c,rfl,hN⟩:=hd.shp14;clear hd;have BD2:=qsd (ai (BD.out.1.below hb BD.out.1.lt) (ai (BD.out.2.1.below hb) (ai (BD.out.2.2.1.below hb) (ai (BD.out.2.2.2.1.below hb) (ai (BD.out.2.2.2.2.1.below hb) (ai (BD.out.2.2.2.2.2.1.below hb) (ai (BD.out.2.2.2.2.2.2.1.below hb) (nk hb BD.out.2.2.2.2.2.2.2 (ai (BD.out.2.2.2.2.2.2.2.2.2.2.2.1.below hb) (ai (BD.out.2.2.2.2.2.2.2.2.2.2.2.2.1.below hb) (ai (BD.out.2.2.2.2.2.2.2.2.2.2.2.2.2.1.trans (hb.mono BD.out.2.2.2.2.2.2.2.2.2.2.2.2.2.1.size)) (nk hb BD.out.2.2.2.2.2.2.2.2.2.2.2.2.2.2 (ai (BD.out.2.2.2.2.2.2.2.2.2.2.2.2.2.2.2.2.2.2.1.below hb) (ai (BD.out.2.2.2.2.2.2.2.2.2.2.2.2.2.2.2.2.2.2.2.1.below hb) (ai (BD.out.2.2.2.2.2.2.2.2.2.2.2.2.2.2.2.2.2.2.2.2.below hb) hN)))))))))))))));have kS2:=qsd (ck hb kS.out fun h=>ck hb h fun h=>ck hb h fun h=>ck hb h fun h=>ck2 hb h);clear hb hN C BD kS;have BD:=BD2;have kS:=kS2;clear BD2 kS2
 try dsimp only
 refine hK.out _ _ (fun _=>kS.out) ?_
 clear hK K'
 try simp only [Act.put,sa,sb,sc]
 refine Zb (i:=21) (by kernel_rfl) rfl (fun K' hK=>?_)
 have C:=hid (Zc8 FF.out.2.2.2.2.2.2.2.2.2.2.1 FF.out.2.2.2.2.2.2.2.2.2.2.2.1 FF.out.2.2.2.2.2.2.2.2.2.2.2.2.2.2.2.2.1 BD.out.2.2.2.2.2.2.2.2.2.2.2.2.2.2.2.2.2.2.2.2.1 BD.out.2.2.2.2.2.2.2.2.2.2.2.2.2.2.2.2.2.2.2.2.2 (HT.out _ BD.out.2.2.2.2.2.2.2.2.2.2.2.2.2.1) EE.out.2.2.2.2.2.2.2.2.2.2.1)
 go_simp
 refine C.out.mono ?_;rintro r u9_ ⟨hd,hb⟩;obtain ⟨oTa,oTc,rfl,hN⟩:=hd.shp14;clear hd;have BD2:=qsd (ai (BD.out.1.below hb BD.out.1.lt) (ai (BD.out.2.1.below hb) (ai (BD.out.2.2.1.below hb) (ai (BD.out.2.2.2.1.below hb) (ai (BD.out.2.2.2.2.1.below hb) (ai (BD.out.2.2.2.2.2.1.below hb) (ai (BD.out.2.2.2.2.2.2.1.below hb) (nk hb BD.out.2.2.2.2.2.2.2 (ai (BD.out.2.2.2.2.2.2.2.2.2.2.2.1.below hb) (ai (BD.out.2.2.2.2.2.2.2.2.2.2.2.2.1.below hb) (ai (BD.out.2.2.2.2.2.2.2.2.2.2.2.2.2.1.trans (hb.mono BD.out.2.2.2.2.2.2.2.2.2.2.2.2.2.1.size)) (nk hb BD.out.2.2.2.2.2.2.2.2.2.2.2.2.2.2 (ai (BD.out.2.2.2.2.2.2.2.2.2.2.2.2.2.2.2.2.2.2.1.below hb) (ai (BD.out.2.2.2.2.2.2.2.2.2.2.2.2.2.2.2.2.2.2.2.1.below hb) (ai (BD.out.2.2.2.2.2.2.2.2.2.2.2.2.2.2.2.2.2.2.2.2.1.below hb) (ai (BD.out.2.2.2.2.2.2.2.2.2.2.2.2.2.2.2.2.2.2.2.2.2.below hb) hN))))))))))))))));have kS2:=qsd (ck hb kS.out fun h=>ck hb h fun h=>ck hb h fun h=>ck hb h fun h=>ck2 hb h);clear hb hN C BD kS;have BD:=BD2;have kS:=kS2;clear BD2 kS2
 try dsimp only
 refine hK.out _ _ (fun _=>kS.out) ?_
 clear hK K'
 try simp only [Act.put,sa,sb,sc]
 refine Zb (i:=24) (by kernel_rfl) rfl (fun K' hK=>?_)
 have C:=hid (Qe FF.out.2.2.2.1 FF.out.2.2.1 FF.out.2.2.2.2.2.2.2.2.2.2.2.2.1 BD.out.2.2.2.2.2.2.2.2.2.2.1 BD.out.2.2.2.2.2.2.2.2.2.1 (HT.out _ BD.out.2.2.2.2.2.2.2.2.2.2.2.2.2.1) EE.out.2.2.2.2.2.2.1)
 go_simp
 refine C.out.mono ?_;rintro r u10_ ⟨hd,hb⟩;obtain ⟨p7a,p7c,rfl,hN⟩:=hd.shp14;clear hd;have BD2:=qsd (ai (BD.out.1.below hb BD.out.1.lt) (ai (BD.out.2.1.below hb) (ai (BD.out.2.2.1.below hb) (ai (BD.out.2.2.2.1.below hb) (ai (BD.out.2.2.2.2.1.below hb) (ai (BD.out.2.2.2.2.2.1.below hb) (ai (BD.out.2.2.2.2.2.2.1.below hb) (nk hb BD.out.2.2.2.2.2.2.2 (ai (BD.out.2.2.2.2.2.2.2.2.2.2.2.1.below hb) (ai (BD.out.2.2.2.2.2.2.2.2.2.2.2.2.1.below hb) (ai (BD.out.2.2.2.2.2.2.2.2.2.2.2.2.2.1.trans (hb.mono BD.out.2.2.2.2.2.2.2.2.2.2.2.2.2.1.size)) (nk hb BD.out.2.2.2.2.2.2.2.2.2.2.2.2.2.2 (nk hb BD.out.2.2.2.2.2.2.2.2.2.2.2.2.2.2.2.2.2.2 (ai (BD.out.2.2.2.2.2.2.2.2.2.2.2.2.2.2.2.2.2.2.2.2.2.2.below hb) hN))))))))))))));have kS2:=qsd (ck hb kS.out fun h=>ck hb h fun h=>ck hb h fun h=>ck hb h fun h=>ck2 hb h);clear hb hN C BD kS;have BD:=BD2;have kS:=kS2;clear BD2 kS2
 try dsimp only
 refine hK.out _ _ (fun _=>kS.out) ?_
 clear hK K'
 try simp only [Act.put,sa,sb,sc]
 refine Zb (i:=27) (by kernel_rfl) rfl (fun K' hK=>?_)
 have C:=hid (Qe FF.out.2.1 FF.out.2.2.2.2.1 FF.out.2.2.2.2.2.2.2.2.2.2.2.2.2.1 BD.out.2.2.2.2.2.2.2.2.1 BD.out.2.2.2.2.2.2.2.2.2.2.2.1 (HT.out _ BD.out.2.2.2.2.2.2.2.2.2.2.2.2.2.1) EE.out.2.2.2.2.2.2.2.1)
 go_simp
 refine C.out.mono ?_;rintro r u11_ ⟨hd,hb⟩;obtain ⟨p8a,p8c,rfl,hN⟩:=hd.shp14;clear hd;have BD2:=qsd (ai (BD.out.1.below hb BD.out.1.lt) (ai (BD.out.2.1.below hb) (ai (BD.out.2.2.1.below hb) (ai (BD.out.2.2.2.1.below hb) (ai (BD.out.2.2.2.2.1.below hb) (ai (BD.out.2.2.2.2.2.1.below hb) (ai (BD.out.2.2.2.2.2.2.1.below hb) (nk hb BD.out.2.2.2.2.2.2.2 (ai (BD.out.2.2.2.2.2.2.2.2.2.2.2.1.below hb) (ai (BD.out.2.2.2.2.2.2.2.2.2.2.2.2.1.below hb) (ai (BD.out.2.2.2.2.2.2.2.2.2.2.2.2.2.1.trans (hb.mono BD.out.2.2.2.2.2.2.2.2.2.2.2.2.2.1.size)) (nk hb BD.out.2.2.2.2.2.2.2.2.2.2.2.2.2.2 (nk hb BD.out.2.2.2.2.2.2.2.2.2.2.2.2.2.2.2.2.2.2 (ai (BD.out.2.2.2.2.2.2.2.2.2.2.2.2.2.2.2.2.2.2.2.2.2.2.1.below hb) (ai (BD.out.2.2.2.2.2.2.2.2.2.2.2.2.2.2.2.2.2.2.2.2.2.2.2.below hb) hN)))))))))))))));have kS2:=qsd (ck hb kS.out fun h=>ck hb h fun h=>ck hb h fun h=>ck hb h fun h=>ck2 hb h);clear hb hN C BD kS;have BD:=BD2;have kS:=kS2;clear BD2 kS2
 try dsimp only
 refine hK.out _ _ (fun _=>kS.out) ?_
 clear hK K'
 try simp only [Act.put,sa,sb,sc]
 refine Zb (i:=28) (by kernel_rfl) rfl (fun K' hK=>?_)
 have C:=hid (Zc8 FF.out.2.2.2.2.2.2.2.2.2.2.2.2.1 FF.out.2.2.2.2.2.2.2.2.2.2.2.2.2.1 FF.out.2.2.2.2.2.2.2.2.2.2.2.2.2.2.2.2.2 BD.out.2.2.2.2.2.2.2.2.2.2.2.2.2.2.2.2.2.2.2.2.2.2.2.1 BD.out.2.2.2.2.2.2.2.2.2.2.2.2.2.2.2.2.2.2.2.2.2.2.2.2 (HT.out _ BD.out.2.2.2.2.2.2.2.2.2.2.2.2.2.1) EE.out.2.2.2.2.2.2.2.2.2.2.2)
 go_simp
 refine C.out.mono ?_;rintro r u12_ ⟨hd,hb⟩;obtain ⟨oKa,oKc,rfl,hN⟩:=hd.shp14;clear hd;have BD2:=qsd (ai (BD.out.1.below hb BD.out.1.lt) (ai (BD.out.2.1.below hb) (ai (BD.out.2.2.1.below hb) (ai (BD.out.2.2.2.1.below hb) (ai (BD.out.2.2.2.2.1.below hb) (ai (BD.out.2.2.2.2.2.1.below hb) (ai (BD.out.2.2.2.2.2.2.1.below hb) (nk hb BD.out.2.2.2.2.2.2.2 (ai (BD.out.2.2.2.2.2.2.2.2.2.2.2.1.below hb) (ai (BD.out.2.2.2.2.2.2.2.2.2.2.2.2.1.below hb) (ai (BD.out.2.2.2.2.2.2.2.2.2.2.2.2.2.1.trans (hb.mono BD.out.2.2.2.2.2.2.2.2.2.2.2.2.2.1.size)) (nk hb BD.out.2.2.2.2.2.2.2.2.2.2.2.2.2.2 (nk hb BD.out.2.2.2.2.2.2.2.2.2.2.2.2.2.2.2.2.2.2 (ai (BD.out.2.2.2.2.2.2.2.2.2.2.2.2.2.2.2.2.2.2.2.2.2.2.1.below hb) (ai (BD.out.2.2.2.2.2.2.2.2.2.2.2.2.2.2.2.2.2.2.2.2.2.2.2.1.below hb) (ai (BD.out.2.2.2.2.2.2.2.2.2.2.2.2.2.2.2.2.2.2.2.2.2.2.2.2.below hb) hN))))))))))))))));have kS2:=qsd (ck hb kS.out fun h=>ck hb h fun h=>ck hb h fun h=>ck hb h fun h=>ck2 hb h);clear hb hN C BD kS;have BD:=BD2;have kS:=kS2;clear BD2 kS2
 try dsimp only
 refine hK.out _ _ (fun _=>kS.out) ?_
 clear hK K'
 try simp only [Act.put,sa,sb,sc]
 refine Zb (i:=29) (by kernel_rfl) rfl (fun K' hK=>?_)
 go_simp
 refine hK.out _ _ (fun _=>kS.out) ?_
 clear hK K'
 try simp only [Act.put,sa,sb,sc]
 have z0:=BD.out.1.cell 0 _ rfl;have zf0:=BD.out.1.frozen 0;have z1:=BD.out.1.cell 1 _ rfl;have zf1:=BD.out.1.frozen 1;have z2:=BD.out.1.cell 2 _ rfl;have zf2:=BD.out.1.frozen 2;have z3:=BD.out.1.cell 3 _ rfl;have zf3:=BD.out.1.frozen 3;have z4:=BD.out.1.cell 4 _ rfl;have zf4:=BD.out.1.frozen 4;have z5:=BD.out.1.cell 5 _ rfl;have zf5:=BD.out.1.frozen 5;have z6:=BD.out.1.cell 6 _ rfl;have zf6:=BD.out.1.frozen 6;have z7:=BD.out.1.cell 7 _ rfl;have zf7:=BD.out.1.frozen 7;have z8:=BD.out.1.cell 8 _ rfl;have zf8:=BD.out.1.frozen 8;have z9:=BD.out.1.cell 9 _ rfl;have zf9:=BD.out.1.frozen 9;have z10:=BD.out.1.cell 10 _ rfl;have zf10:=BD.out.1.frozen 10;have z11:=BD.out.1.cell 11 _ rfl;have zf11:=BD.out.1.frozen 11;have z12:=BD.out.1.cell 12 _ rfl;have zf12:=BD.out.1.frozen 12;have z13:=BD.out.1.cell 13 _ rfl;have zf13:=BD.out.1.frozen 13;have z14:=BD.out.1.cell 14 _ rfl;have zf14:=BD.out.1.frozen 14;have hbt:But w.heap.size u12_ _:=((((((((((((((((But.refl w.heap.size u12_).set 0 (.bool (dN oN))).set 1 (.slice aN (ws (dX oN)).length cN)).set 2 (.int .i64 (dE oN))).set 3 (.bool (dN oD))).set 4 (.slice oDa (ws (dX oD)).length oDc)).set 5 (.int .i64 (dE oD))).set 6 (.bool (dN oC))).set 7 (.slice oCa (ws (dX oC)).length oCc)).set 8 (.int .i64 (dE oC))).set 9 (.bool (dN oT))).set 10 (.slice oTa (ws (dX oT)).length oTc)).set 11 (.int .i64 (dE oT))).set 12 (.bool (dN oK))).set 13 (.slice oKa (ws (dX oK)).length oKc)).set 14 (.int .i64 (dE oK)));have BE:=qsd (ai (((((((((((((((BD.out.1.set 0 (.bool (dN oN))).set 1 (.slice aN (ws (dX oN)).length cN)).set 2 (.int .i64 (dE oN))).set 3 (.bool (dN oD))).set 4 (.slice oDa (ws (dX oD)).length oDc)).set 5 (.int .i64 (dE oD))).set 6 (.bool (dN oC))).set 7 (.slice oCa (ws (dX oC)).length oCc)).set 8 (.int .i64 (dE oC))).set 9 (.bool (dN oT))).set 10 (.slice oTa (ws (dX oT)).length oTc)).set 11 (.int .i64 (dE oT))).set 12 (.bool (dN oK))).set 13 (.slice oKa (ws (dX oK)).length oKc)).set 14 (.int .i64 (dE oK))) (ai (But.below BD.out.2.2.2.2.2.2.2.2.2.2.2.2.2.1 hbt BD.out.2.2.2.2.2.2.2.2.2.2.2.2.2.1.size (Nat.le_refl _)) (ai (BD.out.2.2.2.2.2.2.2.1.off hbt (BD.out.2.2.2.2.2.2.2.1.notin (by decide) BD.out.1)) (ai (BD.out.2.2.2.2.2.2.2.2.2.2.2.2.2.2.2.2.1.off hbt (BD.out.2.2.2.2.2.2.2.2.2.2.2.2.2.2.2.2.1.notin (by decide) BD.out.1)) (ai (BD.out.2.2.2.2.2.2.2.2.2.2.2.2.2.2.2.2.2.2.2.1.off hbt (BD.out.2.2.2.2.2.2.2.2.2.2.2.2.2.2.2.2.2.2.2.1.notin (by decide) BD.out.1)) (ai (BD.out.2.2.2.2.2.2.2.2.2.2.2.2.2.2.2.2.2.2.2.2.2.2.1.off hbt (BD.out.2.2.2.2.2.2.2.2.2.2.2.2.2.2.2.2.2.2.2.2.2.2.1.notin (by decide) BD.out.1)) (BD.out.2.2.2.2.2.2.2.2.2.2.2.2.2.2.2.2.2.2.2.2.2.2.2.2.2.off hbt (BD.out.2.2.2.2.2.2.2.2.2.2.2.2.2.2.2.2.2.2.2.2.2.2.2.2.2.notin (by decide) BD.out.1))))))))
 clear hbt;refine Zb (i:=30) (by kernel_rfl) rfl (fun K' hK=>?_)
 go_simp
 refine hK.out _ _ (fun h=>absurd h (by decide)) ?_
 clear hK K' z0 zf0 z1 zf1 z2 zf2 z3 zf3 z4 zf4 z5 zf5 z6 zf6 z7 zf7 z8 zf8 z9 zf9 z10 zf10 z11 zf11 z12 zf12 z13 zf13 z14 zf14 kS BD;refine Zs (by kernel_rfl) ?_ _
 go_wp2;refine bodyPost_ret (v:=.agg #[.bool (dN oN),.slice aN (ws (dX oN)).length cN,.int .i64 (dE oN),.bool (dN oD),.slice oDa (ws (dX oD)).length oDc,.int .i64 (dE oD),.bool (dN oC),.slice oCa (ws (dX oC)).length oCc,.int .i64 (dE oC),.bool (dN oT),.slice oTa (ws (dX oT)).length oTc,.int .i64 (dE oT),.bool (dN oK),.slice oKa (ws (dX oK)).length oKc,.int .i64 (dE oK)]) (Qw Tryz.results35 _ _ w.heap.size [.bool (dN oN),.slice aN (ws (dX oN)).length cN,.int .i64 (dE oN),.bool (dN oD),.slice oDa (ws (dX oD)).length oDc,.int .i64 (dE oD),.bool (dN oC),.slice oCa (ws (dX oC)).length oCc,.int .i64 (dE oC),.bool (dN oT),.slice oTa (ws (dX oT)).length oTc,.int .i64 (dE oT),.bool (dN oK),.slice oKa (ws (dX oK)).length oKc,.int .i64 (dE oK)] ?_ BE.out.1 Tryz.row_line (by rw [Tryz.size_line];rfl)) rfl ⟨⟨_,rfl,aN,cN,oDa,oDc,oCa,oCc,oTa,oTc,oKa,oKc,rfl,BE.out.2.2⟩,BE.out.2.1⟩
 rfl
end
namespace Ps
open Go.RowKit
theorem st_floatP {P:Program}{w:World}(a:Addr) (k:FloatKind) (n:Nat) (m:Mode):(store a (.float k n) m).run P w=stored P w a (.float k n) m:=run_store P w a _ m rfl
open Go.RowKit
def Wf (xs:List Nat):Prop:=∀ x ∈ xs,x<18446744073709551616
theorem Wf.get {xs:List Nat}(h:Wf xs) (k:Nat):xs.getD k 0<18446744073709551616:=by
 by_cases hk:k<xs.length
 · rw [List.getD_eq_getElem?_getD,List.getElem?_eq_getElem hk];exact h _ (List.getElem_mem hk)
 · rw [List.getD_eq_getElem?_getD,List.getElem?_eq_none (by omega)];decide
def U (n:Nat):Value:=.float .f64 n
def Rd (B:Nat) (w:World) (ao:Option Addr) (xs:List Nat):Prop :=
 xs≠[]→∃ b off,b<B∧ao=some ⟨b,off,none⟩∧∀ i,i<xs.length→w.cell? ⟨b,off+i,none⟩=some (.float .f64 (xs.getD i 0))
theorem Rd.below {B:Nat}{w w':World}{ao:Option Addr}{xs:List Nat}(h:Rd B w ao xs) (hb:Below B w w'):Rd B w' ao xs:=by
 intro hx;obtain ⟨b,off,hlt,rfl,hc⟩:=h hx;exact ⟨b,off,hlt,rfl,fun i hi=>(hb.cell (p:=⟨b,off+i,none⟩) hlt).trans (hc i hi)⟩
theorem Rd.mono {B B':Nat}{w:World}{ao:Option Addr}{xs:List Nat}(h:Rd B w ao xs) (hB:B≤B'):Rd B' w ao xs:=by
 intro hx;obtain ⟨b,off,hlt,rfl,hc⟩:=h hx;exact ⟨b,off,by omega,rfl,hc⟩
def Lt (lo:Nat) (w:World) (v:Value) (xs:List Nat):Prop:=w.ownsRow lo 26 1 v xs.length (xs.map U)
theorem Lt.nil (lo:Nat) (w:World):Lt lo w (.slice none 0 0) []:=World.ownsRow_nil _ _ _ _
theorem Tryz.info26:(Tryz.prog.info? 26).map (fun i=>(i.zero,i.size,i.bytes))=some (some (.float .f64 0),1,8):=by kernel_rfl
open Go.RowKit
abbrev Rw (lo:Nat) (w:World) (v:Value) (n:Nat) (ys:List Value):Prop:=w.ownsRow lo 26 1 v n ys
def Keep (w w':World):Prop:=∀ (g:Nat) (cur:Array Value) (e:TypeId),e≠22→e≠127→w.heap[g]?=some (.cells cur e (0,0))→w'.heap[g]?=some (.cells cur e (0,0))
theorem Keep.row {w w':World}{lo:Nat}{v:Value}{n:Nat}{ys:List Value}(h:Rw lo w v n ys) (k:Keep w w'):Rw lo w' v n ys:=by
 refine ⟨h.1,?_⟩
 rcases h.2 with hn|⟨g,cap,cur,rfl,hlo,hg,rest⟩
 · exact .inl hn
 · exact .inr ⟨g,cap,cur,rfl,hlo,k _ _ _ (by decide) (by decide) hg,rest⟩
theorem Keep.below {w w':World}(h:Below w.heap.size w w'):Keep w w':=fun g cur _ _ _ e=>by rw [h.block g (Array.getElem?_eq_some_iff.1 e).1];exact e
theorem row_other {w w':World}{lo e s:Nat}{v:Value}{n:Nat}{ys:List Value}(h:w.ownsRow lo e s v n ys) (hb:∀ g,v.ownBlock=some g→w'.heap[g]?=w.heap[g]?):w'.ownsRow lo e s v n ys:=by
 refine ⟨h.1,?_⟩
 rcases h.2 with hn|⟨g,cap,cur,rfl,hlo,hg,rest⟩
 · exact .inl hn
 · refine .inr ⟨g,cap,cur,rfl,hlo,?_,rest⟩
   rw [hb g rfl];exact hg
theorem append_word (w:World) (lo:Nat) (v:Value) (n:Nat) (ys:List Value) (x:Value) (s:Nat) (ty:TypeId) (hown:Rw lo w v n ys) (hx:w.cell? ⟨s,0,none⟩=some x) (h1:x.oneCell'=true)
 (hbig:n+1≤17592186044416) (hlo:lo≤w.heap.size) :
 ∃ v' w',(Builtin.append_ #[22,22] ty #[v,.slice (some ⟨s,0,none⟩) 1 1]).run Tryz.prog w=.ok v' w'∧Rw lo w' v' (n+1) (ys++[x])∧w.grownBy w' v.ownBlock ∧
   (v'.ownBlock=v.ownBlock∨∃ g,v'.ownBlock=some g∧w.heap.size≤g)∧(∀ (u:Value) (k:Nat) (zs:List Value),Rw lo w u k zs→(u.ownBlock=v.ownBlock→k≤n)→Rw lo w' u k zs):=by
 obtain ⟨i0,hi,hz0,hz1,hz2⟩:=info_parts Tryz.info26
 have hnews:∀ j u,[x][j]?=some u→w.cell? ((⟨s,0,none⟩:Addr).add j)=some u:=by
  intro j u hj
  match j,hj with
  | 0,hj=>simp at hj;subst hj;simpa [Addr.add] using hx
 have h1':∀ u ∈ [x],u.oneCell'=true:=by intro u hu;simp at hu;subst hu;exact h1
 have keep:∀ w',w.grownBy w' none→∀ (u:Value) (k:Nat) (zs:List Value),Rw lo w u k zs→Rw lo w' u k zs:=by
  intro w' hg u k zs hr
  rcases hr.2 with hn|⟨g,cap,cur,rfl,hl,hgb,rest⟩
  · exact ⟨hr.1,.inl hn⟩
  · refine ⟨hr.1,.inr ⟨g,cap,cur,rfl,hl,?_,rest⟩⟩
    rw [hg.block g (Array.getElem?_eq_some_iff.1 hgb).1 (by simp)];exact hgb
 have newb:∀ (v':Value) (w':World) (m:Nat) (zs:List Value),w'.ownsRow w.heap.size 26 1 v' (m+1) zs→∃ g,v'.ownBlock=some g∧w.heap.size≤g:=by
  intro v' w' m zs h
  rcases h.2 with ⟨_,h0⟩|⟨g,cap,cur,rfl,hl,_⟩
  · omega
  · exact ⟨g,rfl,hl⟩
 have mono:∀ (v':Value) (w':World) (m:Nat) (zs:List Value),w'.ownsRow w.heap.size 26 1 v' m zs→Rw lo w' v' m zs:=by
  intro v' w' m zs h;refine ⟨h.1,?_⟩
  rcases h.2 with hn|⟨g,cap,cur,rfl,hl,rest⟩
  · exact .inl hn
  · exact .inr ⟨g,cap,cur,rfl,by omega,rest⟩
 rcases hown.2 with ⟨rfl,rfl⟩|⟨g,cap,cur,rfl,hlg,hg,hnc,hm,hs,ht⟩
 · obtain ⟨v',w',r1,r2,r3,_,_⟩:=run_append_own_at (P:=Tryz.prog) w w.heap.size 22 ty 26 i0 (.float .f64 0) 1 8 Tryz.underlying22 hi hz0 hz1 hz2 rfl (by decide) (.slice none 0 0) 0 [] (World.ownsRow_nil _ _ _ _) ⟨s,0,none⟩ 1 1 [x] rfl hnews h1' (by unfold maxLen;omega) (by omega) (Nat.le_refl _)
   have hy:ys=[]:=List.eq_nil_of_length_eq_zero (by simpa using hown.1)
   subst hy;exact ⟨v',w',r1,mono _ _ _ _ (by simpa using r2),r3,.inr (newb _ _ 0 _ (by simpa using r2)),fun u k zs hr _=>keep _ r3 u k zs hr⟩
 · by_cases hroom:n+1≤cap
   · have hr:=run_append_room (P:=Tryz.prog) w 22 ty 26 i0 Tryz.underlying22 hi g n cap cur hg ⟨s,0,none⟩ 1 1 [x] (by rw [hz1];rfl) hnews h1' hroom (by rw [hz1,hs];simp;omega)
     rw [hz1] at hr;refine ⟨_,_,hr,⟨by simpa using hown.1,.inr ⟨g,cap,_,rfl,hlg,setRow_heap w g cur _ 26 _ hg,hroom,hm,?_,?_⟩⟩,⟨rfl,rfl,rfl,by simp,fun k _ hk=>setRow_other w g k _ (fun e=>hk (by simp [Value.ownBlock,e]))⟩,.inl rfl,?_⟩
     · simp only [List.size_toArray,List.length_append,List.length_take,List.length_drop,Array.length_toList,List.length_cons,List.length_nil]
       omega
     · rw [ht]
       have hyl:ys.length=n:=by simpa using hown.1
       simp only [Nat.mul_one,List.append_assoc];rw [←List.append_assoc];rw [List.take_append_of_le_length (by simp [hyl])]
       rw [List.take_of_length_le (by simp [hyl])]
     · intro u k zs hr2 hle
       rcases hr2.2 with hn|⟨g2,cap2,cur2,rfl,hl2,hg2,hnc2,hm2,hs2,ht2⟩
       · exact ⟨hr2.1,.inl hn⟩
       · by_cases he:g2=g
         · subst he
           rw [hg] at hg2
           cases hg2
           have hk:=hle rfl;refine ⟨hr2.1,.inr ⟨g2,cap2,_,rfl,hl2,setRow_heap w g2 cur _ 26 _ hg,hnc2,hm2,?_,?_⟩⟩
           · simp only [List.size_toArray,List.length_append,List.length_take,List.length_drop,Array.length_toList,List.length_cons,List.length_nil]
             omega
           · have hcl:cur.toList.length=cap2:=by simpa using hs2
             rw [←ht2];simp only [Nat.mul_one,List.append_assoc];rw [List.take_append_of_le_length (by rw [List.length_take];omega),List.take_take,Nat.min_eq_left hk]
         · refine ⟨hr2.1,.inr ⟨g2,cap2,cur2,rfl,hl2,?_,hnc2,hm2,hs2,ht2⟩⟩
           rw [setRow_other w g g2 _ he];exact hg2
   · obtain ⟨v',w',r1,r2,r3⟩:=run_append_arg_grows (P:=Tryz.prog) w 22 ty 26 i0 (.float .f64 0) 1 8 Tryz.underlying22 hi hz0 hz1 hz2 rfl (by decide) ⟨g,0,none⟩ n cap ys (by simpa using hown.1) (fun j u hj=>hown.cells (g:=g) (by simp [Value.ownBlock]) j u hj) ⟨s,0,none⟩ 1 1 [x] rfl hnews (by omega) (by unfold maxLen;omega) (by omega)
     exact ⟨v',w',r1,mono _ _ _ _ r2,⟨r3.os,r3.tape,r3.output,r3.size,fun k hk _=>r3.block k hk (by simp)⟩,.inr (newb _ _ n _ r2),fun u k zs hr _=>keep _ r3 u k zs hr⟩
theorem wpList_append_run2 {w:World}{ops:Array Oper}{rest:List Oper}{o:Oper}{a:Act}{Q:Exit→Act→World→Prop}(hgd:o.guard=none) (s x:Operand) (t:TypeId)
 (ho:o.op=.call { callee:=.builtin .append,args:=#[s,x],argTypes:=#[t,t] }) (v u:Value) (hs:a.eval s=v) (hx:a.eval x=u) (v':Value) (w':World)
 (hrun:(Builtin.append_ #[t,t] o.type #[v,u]).run Tryz.prog w=.ok v' w') (h:wpList Tryz.prog ops Q rest (a.put o.dst v') w'):wpList Tryz.prog ops Q (o::rest) a w:=by
 refine wpList_plain hgd fun K hK=>?_
 unfold Oper.wp;simp [execOp,ho,resolve,invoke,builtin,hs,hx,hrun,Result.andThen];exact hK _ _ h
end Ps
end Go.Proofs.YtblkpkgebigojaaGreatDoor
