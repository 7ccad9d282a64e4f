import Derived.Test.YtblkpkgebigojaaGreatDoorZ26x
import Derived.Test.YtblkpkgebigojaaGreatDoorD32cx
import Derived.Test.YtblkpkgebigojaaGreatDoorS10x
import Derived.Test.YtblkpkgebigojaaGreatDoorZ5x
import Derived.Test.YtblkpkgebigojaaGreatDoorM1x
import Derived.Laws.CopyOwn
import Derived.Deep.OwnRows
import Derived.Laws.MakeOwn
import Derived.ArgAppend
import Derived.Maps.AppendAt
import Derived.WalkMore
set_option linter.unusedVariables false
set_option linter.unusedSimpArgs false
set_option maxHeartbeats 16000000
set_option maxRecDepth 20000
namespace Go.Proofs.YtblkpkgebigojaaGreatDoor
namespace J
end J
section
open Go Go.RowKit J
theorem Nt.aZ {w:World}{v:Value}{X:Nat}(h:Nt 0 w v X):∃ a c,v=.slice a (ws X).length c/\Nt 0 w (.slice a (ws X).length c) X:=by
 obtain ⟨a,c,rfl,-⟩:=h.shape;exact ⟨a,c,rfl,h⟩
theorem dP.aZ {lo:Nat}{w:World}{r:Ending}{o:Option (Bool×Nat×Int)}(h:dP lo w r o):∃ a c,r=.returned (.agg #[.bool (dN o),.slice a (ws (dX o)).length c,.int .i64 (dE o)])/\Nt 0 w (.slice a (ws (dX o)).length c) (dX o):=by
 obtain ⟨v,rfl,hN⟩:=h.Fw;obtain ⟨a,c,rfl,hN⟩:=hN.aZ;exact ⟨a,c,rfl,hN⟩
theorem qI {w w':World}{p:Addr}{v:Value}(h:w.cell? p=some v) (hb:Below w.heap.size w w'):w'.cell? p=some v:=(hb.cell (p:=p) (mM w p h)).trans h
theorem ck {w u:World}(hb:Below w.heap.size w u){a b c d:Addr}{p q r s:Value}{R R':Prop}(h:w.cell? a=some p/\w.cell? b=some q/\w.cell? c=some r/\w.cell? d=some s/\R)(f:R->R'):u.cell? a=some p/\u.cell? b=some q/\u.cell? c=some r/\u.cell? d=some s/\R':=⟨qI h.1 hb,qI h.2.1 hb,qI h.2.2.1 hb,qI h.2.2.2.1 hb,f h.2.2.2.2⟩
theorem ck1 {w u:World}(hb:Below w.heap.size w u){a:Addr}{p:Value}(h:w.cell? a=some p):u.cell? a=some p:=qI h hb
theorem ck2 {w u:World}(hb:Below w.heap.size w u){a b:Addr}{p q:Value}(h:w.cell? a=some p/\w.cell? b=some q):u.cell? a=some p/\u.cell? b=some q:=⟨qI h.1 hb,qI h.2 hb⟩
theorem H8 {w u:World}(hb:Below w.heap.size w u){a b c:Addr}{p q r:Value}(h:w.cell? a=some p/\w.cell? b=some q/\w.cell? c=some r):u.cell? a=some p/\u.cell? b=some q/\u.cell? c=some r:=⟨qI h.1 hb,qI h.2.1 hb,qI h.2.2 hb⟩
theorem Fx {w u:World}(hb:Below w.heap.size w u){a b c d:Addr}{p q r s:Value}(h:w.cell? a=some p/\w.cell? b=some q/\w.cell? c=some r/\w.cell? d=some s):u.cell? a=some p/\u.cell? b=some q/\u.cell? c=some r/\u.cell? d=some s:=⟨qI h.1 hb,qI h.2.1 hb,qI h.2.2.1 hb,qI h.2.2.2 hb⟩
noncomputable def iC (V D:Option (Bool×Nat×Int)) (mode:Int):Nat×Int:=oH jJ ⟨dN V,.bool false,dX V,dE V,dN D,.bool false,dX D,dE D⟩ mode
theorem UY {u:World}{a b:Option Addr}{ca cb:Nat}{V D:Option (Bool×Nat×Int)}(mode:Int) (FV:Fm V) (FD:Fm D) (n1:Nt 0 u (.slice a (ws (dX V)).length ca) (dX V)) (n2:Nt 0 u (.slice b (ws (dX D)).length cb) (dX D)) (hT:il u) :
 Calls Tryz.prog 77 #[.agg #[.bool (dN V),.slice a (ws (dX V)).length ca,.int .i64 (dE V),.bool (dN D),.slice b (ws (dX D)).length cb,.int .i64 (dE D)],.int .i64 mode] u fun r w'=>r=.returned (.tuple #[.float .f64 (iC V D mode).1,.int .i64 (iC V D mode).2])/\Below u.heap.size u w' :=
 UF (w:=u) (n:=dN V) (m:=dN D) (X:=dX V) (Y:=dX D) (e:=dE V) (f:=dE D) mode ⟨n1.av (dD FV.len aO),n2.av (dD FD.len aO),FV.pM,FD.pM⟩ hT
theorem rT {w:World}{a b:Option Addr}{ca cb:Nat}{V D:Option (Bool×Nat×Int)}(mode:Int) (FV:Fm V) (FD:Fm D) (N1:Nt 0 w (.slice a (ws (dX V)).length ca) (dX V)) (N2:Nt 0 w (.slice b (ws (dX D)).length cb) (dX D)) (hT:il w) :
 Calls Tryz.prog 37 #[.agg #[.bool (dN V),.slice a (ws (dX V)).length ca,.int .i64 (dE V)],.agg #[.bool (dN D),.slice b (ws (dX D)).length cb,.int .i64 (dE D)],.int .i64 mode] w fun r w'=>r=.returned (.float .f64 (iC V D mode).1)/\Below w.heap.size w w':=by
 obtain ⟨W,hW⟩:=ah ((w.alloc (Obj.cells #[.bool (dN V),.slice a (ws (dX V)).length ca,.int .i64 (dE V)] 62)).alloc (Obj.cells #[.bool (dN D),.slice b (ws (dX D)).length cb,.int .i64 (dE D)] 62))
 have H0:Aside (Dk W w.heap.size (dN V) (.slice a (ws (dX V)).length ca) (dE V)/\Dk W (w.heap.size+1) (dN D) (.slice b (ws (dX D)).length cb) (dE D)/\Below w.heap.size w W):=by
  subst hW;have z1:=Dk.new (w.alloc (Obj.cells #[.bool (dN V),.slice a (ws (dX V)).length ca,.int .i64 (dE V)] 62)) (dN D) (.slice b (ws (dX D)).length cb) (dE D);rw [iH] at z1;exact ⟨(Dk.new _ _ _ _).below (af _ _),z1,(af _ _).trans ((af _ _).mono aW)⟩
 have HC:=hid (UY mode FV FD (N1.below H0.o.r2) (N2.below H0.o.r2) (hT.belows H0.o.r2));have HW:=ay hW;obtain ⟨Q,hQ⟩:=ah (iC V D mode);rw [<-hQ] at HC |-;clear hW hQ FV FD N1 N2 hT;go_enter Tryz.func37,Tryz.ntmps37
 go_upto_region 1 with fail
 rw [<-HW.o];clear HW;obtain ⟨x0,x1,x2,dA,dB,dC⟩:=H0.o.1.facts;obtain ⟨y0,y1,y2,dw,cZ,df⟩:=H0.o.2.1.facts;go_wp2_with fail;refine HC.o.mono ?_;rintro r u ⟨rfl,hb⟩;have BE:=ay (H0.o.r2.trans (hb.mono H0.o.r2.size));clear hb HC H0 x0 x1 x2 dA dB dC y0 y1 y2 dw cZ df;go_wp2;exact aI (v:=.float .f64 Q.1) (by simp [results,Tryz.results37,go_sem]) rfl ⟨rfl,BE.o⟩
theorem Tryz.O0:∃ d:TypeDesc,Tryz.prog.underlying 64=some d/\d.isRow=true:=by
 have h:(Tryz.prog.underlying 64).any (·.isRow)=true:=by kernel_rfl
 cases hd:Tryz.prog.underlying 64 with
 | none=>rw [hd] at h;cases h
 | some d=>rw [hd] at h;exact ⟨d,rfl,h⟩
theorem Tryz.KM:(Tryz.prog.info? 64).map (·.size)=some 15:=by kernel_rfl
def zN (w:World) (v:Value) (o0 o1 o2 o3 o4:Option (Bool×Nat×Int)):Prop:=∃ a0 c0 a1 c1 a2 c2 a3 c3 a4 c4,v=.agg #[.bool (dN o0),.slice a0 (ws (dX o0)).length c0,.int .i64 (dE o0),.bool (dN o1),.slice a1 (ws (dX o1)).length c1,.int .i64 (dE o1),.bool (dN o2),.slice a2 (ws (dX o2)).length c2,.int .i64 (dE o2),.bool (dN o3),.slice a3 (ws (dX o3)).length c3,.int .i64 (dE o3),.bool (dN o4),.slice a4 (ws (dX o4)).length c4,.int .i64 (dE o4)]/\Nt 0 w (.slice a0 (ws (dX o0)).length c0) (dX o0)/\Nt 0 w (.slice a1 (ws (dX o1)).length c1) (dX o1)/\Nt 0 w (.slice a2 (ws (dX o2)).length c2) (dX o2)/\Nt 0 w (.slice a3 (ws (dX o3)).length c3) (dX o3)/\Nt 0 w (.slice a4 (ws (dX o4)).length c4) (dX o4)
theorem CO (w:World) (a b:Option Addr) (n c d:Nat) (hn:n<=65536) (oN oX oY aL aK aM p1 p2 p3 p4 p5 p6 p7 p8 oD oC oT oK:Option (Bool×Nat×Int))
 (FF:Aside (Fm oN/\Fm oX/\Fm oY/\Fm aL/\Fm aK/\Fm aM/\Fm p1/\Fm p2/\Fm p3/\Fm p4/\Fm p5/\Fm p6/\Fm p7/\Fm p8/\Fm oD/\Fm oC/\Fm oT/\Fm oK)) (EE:Aside (eY oN aL=p1/\eY oX oX=p2/\eY oN aK=p3/\eY oX oY=p4/\eY oN aM=p5/\eY oY oY=p6/\eY aL oY=p7/\eY oX aK=p8/\fQ p1 (mkS (!dN p2) (dX p2) (dE p2))=oD/\fQ p3 (mkS (!dN p4) (dX p4) (dE p4))=oC/\fQ p5 (mkS (!dN p6) (dX p6) (dE p6))=oT/\fQ p7 (mkS (!dN p8) (dX p8) (dE p8))=oK))
 (HI:Hid (∀ u:World,Below w.heap.size w u->Calls Tryz.prog 74 #[.int .i64 (n:Nat)] u fun r w'=>dP 0 w' r oN/\Below u.heap.size u w'))
 (HX:Hid (∀ u:World,Below w.heap.size w u->Calls Tryz.prog 75 #[.slice a n c] u fun r w'=>dP 0 w' r oX/\Below u.heap.size u w'))
 (HY:Hid (∀ u:World,Below w.heap.size w u->Calls Tryz.prog 75 #[.slice b n d] u fun r w'=>dP 0 w' r oY/\Below u.heap.size u w'))
 (HXX:Hid (∀ u:World,Below w.heap.size w u->Calls Tryz.prog 57 #[.slice a n c,.slice a n c] u fun r w'=>dP 0 w' r aL/\Below u.heap.size u w'))
 (HXY:Hid (∀ u:World,Below w.heap.size w u->Calls Tryz.prog 57 #[.slice a n c,.slice b n d] u fun r w'=>dP 0 w' r aK/\Below u.heap.size u w'))
 (HYY:Hid (∀ u:World,Below w.heap.size w u->Calls Tryz.prog 57 #[.slice b n d,.slice b n d] u fun r w'=>dP 0 w' r aM/\Below u.heap.size u w')) (HT:Aside (∀ u:World,Below w.heap.size w u->il u)) :
 Calls Tryz.prog 35 #[.slice a n c,.slice b n d] w fun r w'=>(∃ v,r=.returned v/\zN w' v oN oD oC oT oK)/\Below w.heap.size w w':=by
 obtain ⟨W0,hW0⟩:=ah (w.alloc (Obj.cells #[.bool false,.slice none 0 0,.int .i64 0,.bool false,.slice none 0 0,.int .i64 0,.bool false,.slice none 0 0,.int .i64 0,.bool false,.slice none 0 0,.int .i64 0,.bool false,.slice none 0 0,.int .i64 0] 64))
 have B0:Aside (Bl W0 w.heap.size 64 [.bool false,.slice none 0 0,.int .i64 0,.bool false,.slice none 0 0,.int .i64 0,.bool false,.slice none 0 0,.int .i64 0,.bool false,.slice none 0 0,.int .i64 0,.bool false,.slice none 0 0,.int .i64 0]/\Below w.heap.size w W0):=by
  rw [hW0];exact ⟨Bl.new _ 64 [.bool false,.slice none 0 0,.int .i64 0,.bool false,.slice none 0 0,.int .i64 0,.bool false,.slice none 0 0,.int .i64 0,.bool false,.slice none 0 0,.int .i64 0,.bool false,.slice none 0 0,.int .i64 0],au _ _⟩
 have HW:=ay hW0;have C:=hid (HI.o W0 B0.o.2);clear hW0 HI;go_enter Tryz.func35,Tryz.ntmps35
 go_upto_region 1 with fail
 rw [<-HW.o];clear HW;go_wp2_with fail;refine C.o.mono ?_;clear C;rintro r u1 ⟨hd,hb⟩;obtain ⟨aN,cN,rfl,hN⟩:=hd.aZ;clear hd;obtain ⟨U,hU⟩:=ah (u1.alloc (Obj.cells #[.bool (dN oN),.slice aN (ws (dX oN)).length cN,.int .i64 (dE oN)] 62));obtain ⟨gN,hgN⟩:=ah (u1.heap.size)
 have B1:Aside (Bl U w.heap.size 64 [.bool false,.slice none 0 0,.int .i64 0,.bool false,.slice none 0 0,.int .i64 0,.bool false,.slice none 0 0,.int .i64 0,.bool false,.slice none 0 0,.int .i64 0,.bool false,.slice none 0 0,.int .i64 0]/\Dk U gN (dN oN) (.slice aN (ws (dX oN)).length cN) (dE oN)/\Nt 0 U (.slice aN (ws (dX oN)).length cN) (dX oN)/\Below w.heap.size w U):=by
  rw [hU,hgN];exact ⟨(B0.o.1.below hb B0.o.1.lt).alloc _,Dk.new _ _ _ _,hN.below (af _ _),(B0.o.2.trans (hb.mono B0.o.2.size)).trans ((af _ _).mono (dD B0.o.2.size hb.size))⟩
 have HU:=(bB hU hgN);clear hU hgN hN hb B0;have C:=hid (HX.o U B1.o.r3)
 go_upto_region 2 with fail
 rw [<-HU.o.1,<-HU.o.2];clear HU HX;go_wp2_with fail;refine C.o.mono ?_;clear C;rintro r u2 ⟨hd,hb⟩;obtain ⟨aX,cX,rfl,hN⟩:=hd.aZ;clear hd
 have B2:Aside (Bl u2 w.heap.size 64 [.bool false,.slice none 0 0,.int .i64 0,.bool false,.slice none 0 0,.int .i64 0,.bool false,.slice none 0 0,.int .i64 0,.bool false,.slice none 0 0,.int .i64 0,.bool false,.slice none 0 0,.int .i64 0]/\Dk u2 gN (dN oN) (.slice aN (ws (dX oN)).length cN) (dE oN)/\Nt 0 u2 (.slice aN (ws (dX oN)).length cN) (dX oN)/\Nt 0 u2 (.slice aX (ws (dX oX)).length cX) (dX oX)/\Below w.heap.size w u2) :=
  ⟨B1.o.1.below hb B1.o.1.lt,B1.o.2.1.below hb,B1.o.r2.1.below hb,hN,B1.o.r3.trans (hb.mono B1.o.r3.size)⟩
 clear hN hb B1;have C:=hid (HY.o u2 B2.o.r4);clear HY;go_wp2_with fail;refine C.o.mono ?_;clear C;rintro r u3 ⟨hd,hb⟩;obtain ⟨aY,cY,rfl,hN⟩:=hd.aZ;clear hd;obtain ⟨U,hU⟩:=ah ((u3.alloc (Obj.cells #[.bool (dN oX),.slice aX (ws (dX oX)).length cX,.int .i64 (dE oX)] 62)).alloc (Obj.cells #[.bool (dN oY),.slice aY (ws (dX oY)).length cY,.int .i64 (dE oY)] 62));obtain ⟨gX,hgX⟩:=ah (u3.heap.size);obtain ⟨gY,hgY⟩:=ah (u3.heap.size+1);have jS:Below u3.heap.size u3 U:=by rw [hU];exact (af _ _).trans ((af _ _).mono aW)
 have B3:Aside (Bl U w.heap.size 64 [.bool false,.slice none 0 0,.int .i64 0,.bool false,.slice none 0 0,.int .i64 0,.bool false,.slice none 0 0,.int .i64 0,.bool false,.slice none 0 0,.int .i64 0,.bool false,.slice none 0 0,.int .i64 0]/\Dk U gN (dN oN) (.slice aN (ws (dX oN)).length cN) (dE oN)/\Dk U gX (dN oX) (.slice aX (ws (dX oX)).length cX) (dE oX)/\Dk U gY (dN oY) (.slice aY (ws (dX oY)).length cY) (dE oY)/\Nt 0 U (.slice aN (ws (dX oN)).length cN) (dX oN)/\Nt 0 U (.slice aX (ws (dX oX)).length cX) (dX oX)/\Nt 0 U (.slice aY (ws (dX oY)).length cY) (dX oY)/\Below w.heap.size w U):=by
  refine ⟨(B2.o.1.below hb B2.o.1.lt).below jS (B2.o.1.below hb B2.o.1.lt).lt,(B2.o.2.1.below hb).below jS,?_,?_,(B2.o.r2.1.below hb).below jS,(B2.o.r3.1.below hb).below jS,hN.below jS,(B2.o.r4.trans (hb.mono B2.o.r4.size)).trans (jS.mono (dD B2.o.r4.size hb.size))⟩
  · rw [hU,hgX];exact (Dk.new _ _ _ _).below (af _ _)
  · have z:=Dk.new (u3.alloc (Obj.cells #[.bool (dN oX),.slice aX (ws (dX oX)).length cX,.int .i64 (dE oX)] 62)) (dN oY) (.slice aY (ws (dX oY)).length cY) (dE oY);rw [iH] at z;rw [hU,hgY];exact z
 have HU:=(fB hU hgX hgY);clear hU hgX hgY hN hb B2 jS;have C:=hid (HXX.o U B3.o.r7)
 go_upto_region 3 with fail
 rw [<-HU.o.1]
 try rw [<-HU.o.r2]
 rw [<-HU.o.2.1];clear HU HXX;go_wp2_with fail;refine C.o.mono ?_;clear C;rintro r u4 ⟨hd,hb⟩;obtain ⟨UZ,U5,rfl,hN⟩:=hd.aZ;clear hd;have B4:=Af (B3.o.1.below hb B3.o.1.lt) (B3.o.2.1.below hb) (B3.o.r2.1.below hb) (B3.o.r3.1.below hb) (B3.o.r4.1.below hb) (B3.o.r5.1.below hb) (B3.o.r6.1.below hb) hN (B3.o.r7.trans (hb.mono B3.o.r7.size));clear hN hb B3;have C:=hid (HXY.o u4 B4.o.r8);clear HXY;go_wp2_with fail;refine C.o.mono ?_;clear C;rintro r u5 ⟨hd,hb⟩;obtain ⟨U6,U8,rfl,hN⟩:=hd.aZ;clear hd;have B5:=ow (B4.o.1.below hb B4.o.1.lt) (B4.o.2.1.below hb) (B4.o.r2.1.below hb) (B4.o.r3.1.below hb) (B4.o.r4.1.below hb) (B4.o.r5.1.below hb) (B4.o.r6.1.below hb) (B4.o.r7.1.below hb) hN (B4.o.r8.trans (hb.mono B4.o.r8.size));clear hN hb B4;have C:=hid (HYY.o u5 B5.o.2.2.2.2.2.2.2.2.2);clear HYY;go_wp2_with fail;refine C.o.mono ?_;clear C;rintro r u6 ⟨hd,hb⟩;obtain ⟨Wl,Wm,rfl,hN⟩:=hd.aZ;clear hd;obtain ⟨U,hU⟩:=ah (((u6.alloc (Obj.cells #[.bool (dN aL),.slice UZ (ws (dX aL)).length U5,.int .i64 (dE aL)] 62)).alloc (Obj.cells #[.bool (dN aK),.slice U6 (ws (dX aK)).length U8,.int .i64 (dE aK)] 62)).alloc (Obj.cells #[.bool (dN aM),.slice Wl (ws (dX aM)).length Wm,.int .i64 (dE aM)] 62));obtain ⟨U9,Va⟩:=ah (u6.heap.size);obtain ⟨Vb,Vd⟩:=ah (u6.heap.size+1);obtain ⟨Ve,Vf⟩:=ah (u6.heap.size+2);have jS:Below u6.heap.size u6 U.drew:=by rw [hU];exact (((af _ _).trans ((af _ _).mono aW)).trans ((af _ _).mono (by simp;omega))).drew
 have BD:Aside (Bl U.drew w.heap.size 64 [.bool false,.slice none 0 0,.int .i64 0,.bool false,.slice none 0 0,.int .i64 0,.bool false,.slice none 0 0,.int .i64 0,.bool false,.slice none 0 0,.int .i64 0,.bool false,.slice none 0 0,.int .i64 0]/\Dk U.drew gN (dN oN) (.slice aN (ws (dX oN)).length cN) (dE oN)/\Dk U.drew gX (dN oX) (.slice aX (ws (dX oX)).length cX) (dE oX)/\Dk U.drew gY (dN oY) (.slice aY (ws (dX oY)).length cY) (dE oY)/\Dk U.drew U9 (dN aL) (.slice UZ (ws (dX aL)).length U5) (dE aL)/\Dk U.drew Vb (dN aK) (.slice U6 (ws (dX aK)).length U8) (dE aK)/\Dk U.drew Ve (dN aM) (.slice Wl (ws (dX aM)).length Wm) (dE aM)/\Nt 0 U.drew (.slice aN (ws (dX oN)).length cN) (dX oN)/\Nt 0 U.drew (.slice aX (ws (dX oX)).length cX) (dX oX)/\Nt 0 U.drew (.slice aY (ws (dX oY)).length cY) (dX oY)/\Nt 0 U.drew (.slice UZ (ws (dX aL)).length U5) (dX aL)/\Nt 0 U.drew (.slice U6 (ws (dX aK)).length U8) (dX aK)/\Nt 0 U.drew (.slice Wl (ws (dX aM)).length Wm) (dX aM)/\Below w.heap.size w U.drew):=by
  refine ⟨(B5.o.1.below hb B5.o.1.lt).below jS (B5.o.1.below hb B5.o.1.lt).lt,(B5.o.2.1.below hb).below jS,(B5.o.r2.1.below hb).below jS,(B5.o.r3.1.below hb).below jS,?_,?_,?_,(B5.o.r4.1.below hb).below jS,(B5.o.r5.1.below hb).below jS,(B5.o.r6.1.below hb).below jS,(B5.o.r7.1.below hb).below jS,(B5.o.r8.1.below hb).below jS,hN.below jS,(B5.o.2.2.2.2.2.2.2.2.2.trans (hb.mono B5.o.2.2.2.2.2.2.2.2.2.size)).trans (jS.mono (dD B5.o.2.2.2.2.2.2.2.2.2.size hb.size))⟩
  · rw [hU,Va];exact (((Dk.new _ _ _ _).below (af _ _)).below (af _ _)).below (ak _ _).drew
  · have z:=Dk.new (u6.alloc (Obj.cells #[.bool (dN aL),.slice UZ (ws (dX aL)).length U5,.int .i64 (dE aL)] 62)) (dN aK) (.slice U6 (ws (dX aK)).length U8) (dE aK);rw [iH] at z;rw [hU,Vd];exact (z.below (af _ _)).below (ak _ _).drew
  · have z:=Dk.new ((u6.alloc (Obj.cells #[.bool (dN aL),.slice UZ (ws (dX aL)).length U5,.int .i64 (dE aL)] 62)).alloc (Obj.cells #[.bool (dN aK),.slice U6 (ws (dX aK)).length U8,.int .i64 (dE aK)] 62)) (dN aM) (.slice Wl (ws (dX aM)).length Wm) (dE aM);rw [iH,iH] at z;rw [hU,Vf];exact z.below (ak _ _).drew
 have HU:=(jK hU Va Vd Vf);clear hU Va Vd Vf hN hb B5 jS
 go_upto_region 4 with fail
 rw [<-HU.o.1]
 try rw [<-HU.o.r3]
 try rw [<-HU.o.r2.1]
 try rw [<-HU.o.2.1]
 clear HU;have Ry:=BD.o.2.1.facts;have Rz:=BD.o.r2.1.facts;have RA:=BD.o.r3.1.facts;have H9:=BD.o.r4.1.facts;have Ia:=BD.o.r5.1.facts;have Ib:=BD.o.r6.1.facts;have kS:Aside (U.drew.cell? ⟨gN,0,none⟩=some (.bool (dN oN))/\U.drew.cell? ⟨gN,1,none⟩=some (.slice aN (ws (dX oN)).length cN)/\U.drew.cell? ⟨gN,2,none⟩=some (.int .i64 (dE oN))/\U.drew.cell? ⟨gX,0,none⟩=some (.bool (dN oX))/\U.drew.cell? ⟨gX,1,none⟩=some (.slice aX (ws (dX oX)).length cX)/\U.drew.cell? ⟨gX,2,none⟩=some (.int .i64 (dE oX))/\U.drew.cell? ⟨gY,0,none⟩=some (.bool (dN oY))/\U.drew.cell? ⟨gY,1,none⟩=some (.slice aY (ws (dX oY)).length cY)/\U.drew.cell? ⟨gY,2,none⟩=some (.int .i64 (dE oY))/\U.drew.cell? ⟨U9,0,none⟩=some (.bool (dN aL))/\U.drew.cell? ⟨U9,1,none⟩=some (.slice UZ (ws (dX aL)).length U5)/\U.drew.cell? ⟨U9,2,none⟩=some (.int .i64 (dE aL))/\U.drew.cell? ⟨Vb,0,none⟩=some (.bool (dN aK))/\U.drew.cell? ⟨Vb,1,none⟩=some (.slice U6 (ws (dX aK)).length U8)/\U.drew.cell? ⟨Vb,2,none⟩=some (.int .i64 (dE aK))/\U.drew.cell? ⟨Ve,0,none⟩=some (.bool (dN aM))/\U.drew.cell? ⟨Ve,1,none⟩=some (.slice Wl (ws (dX aM)).length Wm)/\U.drew.cell? ⟨Ve,2,none⟩=some (.int .i64 (dE aM))):=(ai Ry.1 (ai Ry.2.1 (ai Ry.2.2.1 (ai Rz.1 (ai Rz.2.1 (ai Rz.2.2.1 (ai RA.1 (ai RA.2.1 (ai RA.2.2.1 (ai H9.1 (ai H9.2.1 (ai H9.2.2.1 (ai Ia.1 (ai Ia.2.1 (ai Ia.2.2.1 (ai Ib.1 (ai Ib.2.1 Ib.2.2.1)))))))))))))))));clear Ry Rz RA H9 Ia Ib;refine bA (fun w'=>w'.cell? ⟨gN,0,none⟩=some (.bool (dN oN))/\w'.cell? ⟨gN,1,none⟩=some (.slice aN (ws (dX oN)).length cN)/\w'.cell? ⟨gN,2,none⟩=some (.int .i64 (dE oN))/\w'.cell? ⟨gX,0,none⟩=some (.bool (dN oX))/\w'.cell? ⟨gX,1,none⟩=some (.slice aX (ws (dX oX)).length cX)/\w'.cell? ⟨gX,2,none⟩=some (.int .i64 (dE oX))/\w'.cell? ⟨gY,0,none⟩=some (.bool (dN oY))/\w'.cell? ⟨gY,1,none⟩=some (.slice aY (ws (dX oY)).length cY)/\w'.cell? ⟨gY,2,none⟩=some (.int .i64 (dE oY))/\w'.cell? ⟨U9,0,none⟩=some (.bool (dN aL))/\w'.cell? ⟨U9,1,none⟩=some (.slice UZ (ws (dX aL)).length U5)/\w'.cell? ⟨U9,2,none⟩=some (.int .i64 (dE aL))/\w'.cell? ⟨Vb,0,none⟩=some (.bool (dN aK))/\w'.cell? ⟨Vb,1,none⟩=some (.slice U6 (ws (dX aK)).length U8)/\w'.cell? ⟨Vb,2,none⟩=some (.int .i64 (dE aK))/\w'.cell? ⟨Ve,0,none⟩=some (.bool (dN aM))/\w'.cell? ⟨Ve,1,none⟩=some (.slice Wl (ws (dX aM)).length Wm)/\w'.cell? ⟨Ve,2,none⟩=some (.int .i64 (dE aM))) 30 bS ?_;obtain ⟨Wd,hWd⟩:=ah (U.drew);rw [<-hWd] at BD kS |-;clear hWd
 refine tk 0 [29] rfl kS.o ?_;try simp only [Act.put,sa,sb,sc]
 refine tk 1 [3,6,7,10,13,14,17,20,21,24,27,28,29] rfl kS.o ?_;try simp only [Act.put,sa,sb,sc]
 refine tk 2 [3,6,7,10,13,14,17,20,21,24,27,28,29] rfl kS.o ?_;try simp only [Act.put,sa,sb,sc]
 refine tk 4 [6,7,10,13,14,17,20,21,24,27,28,29] rfl kS.o ?_;try simp only [Act.put,sa,sb,sc]
 refine tk 5 [6,7,10,13,14,17,20,21,24,27,28,29] rfl kS.o ?_;try simp only [Act.put,sa,sb,sc]
 refine tk 8 [10,13,14,17,20,21,24,27,28,29] rfl kS.o ?_;try simp only [Act.put,sa,sb,sc]
 refine tk 9 [10,13,14,17,20,21,24,27,28,29] rfl kS.o ?_;try simp only [Act.put,sa,sb,sc]
 refine tk 11 [13,14,17,20,21,24,27,28,29] rfl kS.o ?_;try simp only [Act.put,sa,sb,sc]
 refine tk 12 [13,14,17,20,21,24,27,28,29] rfl kS.o ?_;try simp only [Act.put,sa,sb,sc]
 refine tk 15 [17,20,21,24,27,28,29] rfl kS.o ?_;try simp only [Act.put,sa,sb,sc]
 refine tk 16 [17,20,21,24,27,28,29] rfl kS.o ?_;try simp only [Act.put,sa,sb,sc]
 refine tk 18 [20,21,24,27,28,29] rfl kS.o ?_;try simp only [Act.put,sa,sb,sc]
 refine tk 19 [20,21,24,27,28,29] rfl kS.o ?_;try simp only [Act.put,sa,sb,sc]
 refine tk 22 [24,27,28,29] rfl kS.o ?_;try simp only [Act.put,sa,sb,sc]
 refine tk 23 [24,27,28,29] rfl kS.o ?_;try simp only [Act.put,sa,sb,sc]
 refine tk 25 [27,28,29] rfl kS.o ?_;try simp only [Act.put,sa,sb,sc]
 refine tk 26 [27,28,29] rfl kS.o ?_;try simp only [Act.put,sa,sb,sc]
 refine aj (i:=3) bS rfl (fun K' hK=>?_);have C:=hid (ik FF.o.1 FF.o.r3.1 FF.o.r6.1 BD.o.r7.1 BD.o.2.2.2.2.2.2.2.2.2.2.1 (HT.o _ BD.o.2.2.2.2.2.2.2.2.2.2.2.2.2) EE.o.1);go_simp;refine C.o.mono ?_;rintro r Dr ⟨hd,hb⟩;obtain ⟨Yg,Yh,rfl,hN⟩:=hd.aZ;clear hd;have bM:=ay (ai (BD.o.1.below hb BD.o.1.lt) (ai (BD.o.2.1.below hb) (ai (BD.o.r2.1.below hb) (ai (BD.o.r3.1.below hb) (ai (BD.o.r4.1.below hb) (ai (BD.o.r5.1.below hb) (ai (BD.o.r6.1.below hb) (ai (BD.o.r7.1.below hb) (ai (BD.o.r8.1.below hb) (ai (BD.o.2.2.2.2.2.2.2.2.2.1.below hb) (ai (BD.o.2.2.2.2.2.2.2.2.2.2.1.below hb) (ai (BD.o.2.2.2.2.2.2.2.2.2.2.2.1.below hb) (ai (BD.o.2.2.2.2.2.2.2.2.2.2.2.2.1.below hb) (ai (BD.o.2.2.2.2.2.2.2.2.2.2.2.2.2.trans (hb.mono BD.o.2.2.2.2.2.2.2.2.2.2.2.2.2.size)) hN))))))))))))));have bC:=ay (ck hb kS.o fun h=>ck hb h fun h=>ck hb h fun h=>ck hb h fun h=>ck2 hb h);clear hb hN C BD kS;have BD:=bM;have kS:=bC;clear bM bC
 try dsimp only
 refine hK.out _ _ (fun _=>kS.o) ?_;clear hK K'
 try simp only [Act.put,sa,sb,sc]
 refine aj (i:=6) bS rfl (fun K' hK=>?_);have C:=hid (ik FF.o.2.1 FF.o.2.1 FF.o.r7.1 BD.o.r8.1 BD.o.r8.1 (HT.o _ BD.o.2.2.2.2.2.2.2.2.2.2.2.2.2.1) EE.o.2.1);go_simp;refine C.o.mono ?_;rintro r CQ ⟨hd,hb⟩;obtain ⟨Yi,Yj,rfl,hN⟩:=hd.aZ;clear hd;have bM:=ay (ai (BD.o.1.below hb BD.o.1.lt) (ai (BD.o.2.1.below hb) (ai (BD.o.r2.1.below hb) (ai (BD.o.r3.1.below hb) (ai (BD.o.r4.1.below hb) (ai (BD.o.r5.1.below hb) (ai (BD.o.r6.1.below hb) (ai (BD.o.r7.1.below hb) (ai (BD.o.r8.1.below hb) (ai (BD.o.2.2.2.2.2.2.2.2.2.1.below hb) (ai (BD.o.2.2.2.2.2.2.2.2.2.2.1.below hb) (ai (BD.o.2.2.2.2.2.2.2.2.2.2.2.1.below hb) (ai (BD.o.2.2.2.2.2.2.2.2.2.2.2.2.1.below hb) (ai (BD.o.2.2.2.2.2.2.2.2.2.2.2.2.2.1.trans (hb.mono BD.o.2.2.2.2.2.2.2.2.2.2.2.2.2.1.size)) (ai (BD.o.2.2.2.2.2.2.2.2.2.2.2.2.2.2.below hb) hN)))))))))))))));have bC:=ay (ck hb kS.o fun h=>ck hb h fun h=>ck hb h fun h=>ck hb h fun h=>ck2 hb h);clear hb hN C BD kS;have BD:=bM;have kS:=bC;clear bM bC
 try dsimp only
 refine hK.out _ _ (fun _=>kS.o) ?_;clear hK K'
 try simp only [Act.put,sa,sb,sc]
 refine aj (i:=7) bS rfl (fun K' hK=>?_);have C:=hid (vZ FF.o.r6.1 FF.o.r7.1 FF.o.2.2.2.2.2.2.2.2.2.2.2.2.2.2.1 BD.o.2.2.2.2.2.2.2.2.2.2.2.2.2.2.1 BD.o.2.2.2.2.2.2.2.2.2.2.2.2.2.2.2 (HT.o _ BD.o.2.2.2.2.2.2.2.2.2.2.2.2.2.1) EE.o.r8.1);go_simp;refine C.o.mono ?_;rintro r Lp ⟨hd,hb⟩;obtain ⟨RB,RD,rfl,hN⟩:=hd.aZ;clear hd;have bM:=ay (ai (BD.o.1.below hb BD.o.1.lt) (ai (BD.o.2.1.below hb) (ai (BD.o.r2.1.below hb) (ai (BD.o.r3.1.below hb) (ai (BD.o.r4.1.below hb) (ai (BD.o.r5.1.below hb) (ai (BD.o.r6.1.below hb) (ai (BD.o.r7.1.below hb) (ai (BD.o.r8.1.below hb) (ai (BD.o.2.2.2.2.2.2.2.2.2.1.below hb) (ai (BD.o.2.2.2.2.2.2.2.2.2.2.1.below hb) (ai (BD.o.2.2.2.2.2.2.2.2.2.2.2.1.below hb) (ai (BD.o.2.2.2.2.2.2.2.2.2.2.2.2.1.below hb) (ai (BD.o.2.2.2.2.2.2.2.2.2.2.2.2.2.1.trans (hb.mono BD.o.2.2.2.2.2.2.2.2.2.2.2.2.2.1.size)) (ai (BD.o.2.2.2.2.2.2.2.2.2.2.2.2.2.2.1.below hb) (ai (BD.o.2.2.2.2.2.2.2.2.2.2.2.2.2.2.2.below hb) hN))))))))))))))));have bC:=ay (ck hb kS.o fun h=>ck hb h fun h=>ck hb h fun h=>ck hb h fun h=>ck2 hb h);clear hb hN C BD kS;have BD:=bM;have kS:=bC;clear bM bC
 try dsimp only
 refine hK.out _ _ (fun _=>kS.o) ?_;clear hK K'
 try simp only [Act.put,sa,sb,sc]
 refine aj (i:=10) bS rfl (fun K' hK=>?_);have C:=hid (ik FF.o.1 FF.o.r4.1 FF.o.r8.1 BD.o.r7.1 BD.o.2.2.2.2.2.2.2.2.2.2.2.1 (HT.o _ BD.o.2.2.2.2.2.2.2.2.2.2.2.2.2.1) EE.o.r2.1);go_simp;refine C.o.mono ?_;rintro r Fy ⟨hd,hb⟩;obtain ⟨p3a,p3c,rfl,hN⟩:=hd.aZ;clear hd;have bM:=ay (ai (BD.o.1.below hb BD.o.1.lt) (ai (BD.o.2.1.below hb) (ai (BD.o.r2.1.below hb) (ai (BD.o.r3.1.below hb) (ai (BD.o.r4.1.below hb) (ai (BD.o.r5.1.below hb) (ai (BD.o.r6.1.below hb) (ai (BD.o.r7.1.below hb) (ai (BD.o.r8.1.below hb) (ai (BD.o.2.2.2.2.2.2.2.2.2.1.below hb) (ai (BD.o.2.2.2.2.2.2.2.2.2.2.1.below hb) (ai (BD.o.2.2.2.2.2.2.2.2.2.2.2.1.below hb) (ai (BD.o.2.2.2.2.2.2.2.2.2.2.2.2.1.below hb) (ai (BD.o.2.2.2.2.2.2.2.2.2.2.2.2.2.1.trans (hb.mono BD.o.2.2.2.2.2.2.2.2.2.2.2.2.2.1.size)) (ai (BD.o.2.2.2.2.2.2.2.2.2.2.2.2.2.2.1.below hb) (ai (BD.o.2.2.2.2.2.2.2.2.2.2.2.2.2.2.2.1.below hb) (ai (BD.o.2.2.2.2.2.2.2.2.2.2.2.2.2.2.2.2.below hb) hN)))))))))))))))));have bC:=ay (ck hb kS.o fun h=>ck hb h fun h=>ck hb h fun h=>ck hb h fun h=>ck2 hb h);clear hb hN C BD kS;have BD:=bM;have kS:=bC;clear bM bC
 try dsimp only
 refine hK.out _ _ (fun _=>kS.o) ?_;clear hK K'
 try simp only [Act.put,sa,sb,sc]
 refine aj (i:=13) bS rfl (fun K' hK=>?_);have C:=hid (ik FF.o.2.1 FF.o.r2.1 FF.o.2.2.2.2.2.2.2.2.2.1 BD.o.r8.1 BD.o.2.2.2.2.2.2.2.2.2.1 (HT.o _ BD.o.2.2.2.2.2.2.2.2.2.2.2.2.2.1) EE.o.r3.1);go_simp;refine C.o.mono ?_;rintro r u5_ ⟨hd,hb⟩;obtain ⟨p4a,p4c,rfl,hN⟩:=hd.aZ;clear hd;have bM:=ay (ai (BD.o.1.below hb BD.o.1.lt) (ai (BD.o.2.1.below hb) (ai (BD.o.r2.1.below hb) (ai (BD.o.r3.1.below hb) (ai (BD.o.r4.1.below hb) (ai (BD.o.r5.1.below hb) (ai (BD.o.r6.1.below hb) (ai (BD.o.r7.1.below hb) (ai (BD.o.r8.1.below hb) (ai (BD.o.2.2.2.2.2.2.2.2.2.1.below hb) (ai (BD.o.2.2.2.2.2.2.2.2.2.2.1.below hb) (ai (BD.o.2.2.2.2.2.2.2.2.2.2.2.1.below hb) (ai (BD.o.2.2.2.2.2.2.2.2.2.2.2.2.1.below hb) (ai (BD.o.2.2.2.2.2.2.2.2.2.2.2.2.2.1.trans (hb.mono BD.o.2.2.2.2.2.2.2.2.2.2.2.2.2.1.size)) (ai (BD.o.2.2.2.2.2.2.2.2.2.2.2.2.2.2.1.below hb) (ai (BD.o.2.2.2.2.2.2.2.2.2.2.2.2.2.2.2.1.below hb) (ai (BD.o.2.2.2.2.2.2.2.2.2.2.2.2.2.2.2.2.1.below hb) (ai (BD.o.2.2.2.2.2.2.2.2.2.2.2.2.2.2.2.2.2.below hb) hN))))))))))))))))));have bC:=ay (ck hb kS.o fun h=>ck hb h fun h=>ck hb h fun h=>ck hb h fun h=>ck2 hb h);clear hb hN C BD kS;have BD:=bM;have kS:=bC;clear bM bC
 try dsimp only
 refine hK.out _ _ (fun _=>kS.o) ?_;clear hK K'
 try simp only [Act.put,sa,sb,sc]
 refine aj (i:=14) bS rfl (fun K' hK=>?_);have C:=hid (vZ FF.o.r8.1 FF.o.2.2.2.2.2.2.2.2.2.1 FF.o.2.2.2.2.2.2.2.2.2.2.2.2.2.2.2.1 BD.o.2.2.2.2.2.2.2.2.2.2.2.2.2.2.2.2.2.1 BD.o.2.2.2.2.2.2.2.2.2.2.2.2.2.2.2.2.2.2 (HT.o _ BD.o.2.2.2.2.2.2.2.2.2.2.2.2.2.1) EE.o.2.2.2.2.2.2.2.2.2.1);go_simp;refine C.o.mono ?_;rintro r u6_ ⟨hd,hb⟩;obtain ⟨Yk,Yl,rfl,hN⟩:=hd.aZ;clear hd;have bM:=ay (ai (BD.o.1.below hb BD.o.1.lt) (ai (BD.o.2.1.below hb) (ai (BD.o.r2.1.below hb) (ai (BD.o.r3.1.below hb) (ai (BD.o.r4.1.below hb) (ai (BD.o.r5.1.below hb) (ai (BD.o.r6.1.below hb) (ai (BD.o.r7.1.below hb) (ai (BD.o.r8.1.below hb) (ai (BD.o.2.2.2.2.2.2.2.2.2.1.below hb) (ai (BD.o.2.2.2.2.2.2.2.2.2.2.1.below hb) (ai (BD.o.2.2.2.2.2.2.2.2.2.2.2.1.below hb) (ai (BD.o.2.2.2.2.2.2.2.2.2.2.2.2.1.below hb) (ai (BD.o.2.2.2.2.2.2.2.2.2.2.2.2.2.1.trans (hb.mono BD.o.2.2.2.2.2.2.2.2.2.2.2.2.2.1.size)) (ai (BD.o.2.2.2.2.2.2.2.2.2.2.2.2.2.2.1.below hb) (ai (BD.o.2.2.2.2.2.2.2.2.2.2.2.2.2.2.2.1.below hb) (ai (BD.o.2.2.2.2.2.2.2.2.2.2.2.2.2.2.2.2.1.below hb) (ai (BD.o.2.2.2.2.2.2.2.2.2.2.2.2.2.2.2.2.2.1.below hb) (ai (BD.o.2.2.2.2.2.2.2.2.2.2.2.2.2.2.2.2.2.2.below hb) hN)))))))))))))))))));have bC:=ay (ck hb kS.o fun h=>ck hb h fun h=>ck hb h fun h=>ck hb h fun h=>ck2 hb h);clear hb hN C BD kS;have BD:=bM;have kS:=bC;clear bM bC
 try dsimp only
 refine hK.out _ _ (fun _=>kS.o) ?_;clear hK K'
 try simp only [Act.put,sa,sb,sc]
 refine aj (i:=17) bS rfl (fun K' hK=>?_);have C:=hid (ik FF.o.1 FF.o.r5.1 FF.o.2.2.2.2.2.2.2.2.2.2.1 BD.o.r7.1 BD.o.2.2.2.2.2.2.2.2.2.2.2.2.1 (HT.o _ BD.o.2.2.2.2.2.2.2.2.2.2.2.2.2.1) EE.o.r4.1);go_simp;refine C.o.mono ?_;rintro r u7_ ⟨hd,hb⟩;obtain ⟨p5a,p5c,rfl,hN⟩:=hd.aZ;clear hd;have bM:=ay (ai (BD.o.1.below hb BD.o.1.lt) (ai (BD.o.2.1.below hb) (ai (BD.o.r2.1.below hb) (ai (BD.o.r3.1.below hb) (ai (BD.o.r4.1.below hb) (ai (BD.o.r5.1.below hb) (ai (BD.o.r6.1.below hb) (ai (BD.o.r7.1.below hb) (ai (BD.o.r8.1.below hb) (ai (BD.o.2.2.2.2.2.2.2.2.2.1.below hb) (ai (BD.o.2.2.2.2.2.2.2.2.2.2.1.below hb) (ai (BD.o.2.2.2.2.2.2.2.2.2.2.2.1.below hb) (ai (BD.o.2.2.2.2.2.2.2.2.2.2.2.2.1.below hb) (ai (BD.o.2.2.2.2.2.2.2.2.2.2.2.2.2.1.trans (hb.mono BD.o.2.2.2.2.2.2.2.2.2.2.2.2.2.1.size)) (ai (BD.o.2.2.2.2.2.2.2.2.2.2.2.2.2.2.1.below hb) (ai (BD.o.2.2.2.2.2.2.2.2.2.2.2.2.2.2.2.1.below hb) (ai (BD.o.2.2.2.2.2.2.2.2.2.2.2.2.2.2.2.2.1.below hb) (ai (BD.o.2.2.2.2.2.2.2.2.2.2.2.2.2.2.2.2.2.1.below hb) (ai (BD.o.2.2.2.2.2.2.2.2.2.2.2.2.2.2.2.2.2.2.1.below hb) (ai (BD.o.2.2.2.2.2.2.2.2.2.2.2.2.2.2.2.2.2.2.2.below hb) hN))))))))))))))))))));have bC:=ay (ck hb kS.o fun h=>ck hb h fun h=>ck hb h fun h=>ck hb h fun h=>ck2 hb h);clear hb hN C BD kS;have BD:=bM;have kS:=bC;clear bM bC
 try dsimp only
 refine hK.out _ _ (fun _=>kS.o) ?_;clear hK K'
 try simp only [Act.put,sa,sb,sc]
 refine aj (i:=20) bS rfl (fun K' hK=>?_);have C:=hid (ik FF.o.r2.1 FF.o.r2.1 FF.o.2.2.2.2.2.2.2.2.2.2.2.1 BD.o.2.2.2.2.2.2.2.2.2.1 BD.o.2.2.2.2.2.2.2.2.2.1 (HT.o _ BD.o.2.2.2.2.2.2.2.2.2.2.2.2.2.1) EE.o.r5.1);go_simp;refine C.o.mono ?_;rintro r u8_ ⟨hd,hb⟩;obtain ⟨p6a,p6c,rfl,hN⟩:=hd.aZ;clear hd;have bM:=ay (ai (BD.o.1.below hb BD.o.1.lt) (ai (BD.o.2.1.below hb) (ai (BD.o.r2.1.below hb) (ai (BD.o.r3.1.below hb) (ai (BD.o.r4.1.below hb) (ai (BD.o.r5.1.below hb) (ai (BD.o.r6.1.below hb) (ai (BD.o.r7.1.below hb) (ai (BD.o.r8.1.below hb) (ai (BD.o.2.2.2.2.2.2.2.2.2.1.below hb) (ai (BD.o.2.2.2.2.2.2.2.2.2.2.1.below hb) (ai (BD.o.2.2.2.2.2.2.2.2.2.2.2.1.below hb) (ai (BD.o.2.2.2.2.2.2.2.2.2.2.2.2.1.below hb) (ai (BD.o.2.2.2.2.2.2.2.2.2.2.2.2.2.1.trans (hb.mono BD.o.2.2.2.2.2.2.2.2.2.2.2.2.2.1.size)) (ai (BD.o.2.2.2.2.2.2.2.2.2.2.2.2.2.2.1.below hb) (ai (BD.o.2.2.2.2.2.2.2.2.2.2.2.2.2.2.2.1.below hb) (ai (BD.o.2.2.2.2.2.2.2.2.2.2.2.2.2.2.2.2.1.below hb) (ai (BD.o.2.2.2.2.2.2.2.2.2.2.2.2.2.2.2.2.2.1.below hb) (ai (BD.o.2.2.2.2.2.2.2.2.2.2.2.2.2.2.2.2.2.2.1.below hb) (ai (BD.o.2.2.2.2.2.2.2.2.2.2.2.2.2.2.2.2.2.2.2.1.below hb) (ai (BD.o.2.2.2.2.2.2.2.2.2.2.2.2.2.2.2.2.2.2.2.2.below hb) hN)))))))))))))))))))));have bC:=ay (ck hb kS.o fun h=>ck hb h fun h=>ck hb h fun h=>ck hb h fun h=>ck2 hb h);clear hb hN C BD kS;have BD:=bM;have kS:=bC;clear bM bC
 try dsimp only
 refine hK.out _ _ (fun _=>kS.o) ?_;clear hK K'
 try simp only [Act.put,sa,sb,sc]
 refine aj (i:=21) bS rfl (fun K' hK=>?_);have C:=hid (vZ FF.o.2.2.2.2.2.2.2.2.2.2.1 FF.o.2.2.2.2.2.2.2.2.2.2.2.1 FF.o.2.2.2.2.2.2.2.2.2.2.2.2.2.2.2.2.1 BD.o.2.2.2.2.2.2.2.2.2.2.2.2.2.2.2.2.2.2.2.2.1 BD.o.2.2.2.2.2.2.2.2.2.2.2.2.2.2.2.2.2.2.2.2.2 (HT.o _ BD.o.2.2.2.2.2.2.2.2.2.2.2.2.2.1) EE.o.2.2.2.2.2.2.2.2.2.2.1);go_simp;refine C.o.mono ?_;rintro r u9_ ⟨hd,hb⟩;obtain ⟨Ym,Yn,rfl,hN⟩:=hd.aZ;clear hd;have bM:=ay (ai (BD.o.1.below hb BD.o.1.lt) (ai (BD.o.2.1.below hb) (ai (BD.o.r2.1.below hb) (ai (BD.o.r3.1.below hb) (ai (BD.o.r4.1.below hb) (ai (BD.o.r5.1.below hb) (ai (BD.o.r6.1.below hb) (ai (BD.o.r7.1.below hb) (ai (BD.o.r8.1.below hb) (ai (BD.o.2.2.2.2.2.2.2.2.2.1.below hb) (ai (BD.o.2.2.2.2.2.2.2.2.2.2.1.below hb) (ai (BD.o.2.2.2.2.2.2.2.2.2.2.2.1.below hb) (ai (BD.o.2.2.2.2.2.2.2.2.2.2.2.2.1.below hb) (ai (BD.o.2.2.2.2.2.2.2.2.2.2.2.2.2.1.trans (hb.mono BD.o.2.2.2.2.2.2.2.2.2.2.2.2.2.1.size)) (ai (BD.o.2.2.2.2.2.2.2.2.2.2.2.2.2.2.1.below hb) (ai (BD.o.2.2.2.2.2.2.2.2.2.2.2.2.2.2.2.1.below hb) (ai (BD.o.2.2.2.2.2.2.2.2.2.2.2.2.2.2.2.2.1.below hb) (ai (BD.o.2.2.2.2.2.2.2.2.2.2.2.2.2.2.2.2.2.1.below hb) (ai (BD.o.2.2.2.2.2.2.2.2.2.2.2.2.2.2.2.2.2.2.1.below hb) (ai (BD.o.2.2.2.2.2.2.2.2.2.2.2.2.2.2.2.2.2.2.2.1.below hb) (ai (BD.o.2.2.2.2.2.2.2.2.2.2.2.2.2.2.2.2.2.2.2.2.1.below hb) (ai (BD.o.2.2.2.2.2.2.2.2.2.2.2.2.2.2.2.2.2.2.2.2.2.below hb) hN))))))))))))))))))))));have bC:=ay (ck hb kS.o fun h=>ck hb h fun h=>ck hb h fun h=>ck hb h fun h=>ck2 hb h);clear hb hN C BD kS;have BD:=bM;have kS:=bC;clear bM bC
 try dsimp only
 refine hK.out _ _ (fun _=>kS.o) ?_;clear hK K'
 try simp only [Act.put,sa,sb,sc]
 refine aj (i:=24) bS rfl (fun K' hK=>?_);have C:=hid (ik FF.o.r3.1 FF.o.r2.1 FF.o.2.2.2.2.2.2.2.2.2.2.2.2.1 BD.o.2.2.2.2.2.2.2.2.2.2.1 BD.o.2.2.2.2.2.2.2.2.2.1 (HT.o _ BD.o.2.2.2.2.2.2.2.2.2.2.2.2.2.1) EE.o.r6.1);go_simp;refine C.o.mono ?_;rintro r u10_ ⟨hd,hb⟩;obtain ⟨p7a,p7c,rfl,hN⟩:=hd.aZ;clear hd;have bM:=ay (ai (BD.o.1.below hb BD.o.1.lt) (ai (BD.o.2.1.below hb) (ai (BD.o.r2.1.below hb) (ai (BD.o.r3.1.below hb) (ai (BD.o.r4.1.below hb) (ai (BD.o.r5.1.below hb) (ai (BD.o.r6.1.below hb) (ai (BD.o.r7.1.below hb) (ai (BD.o.r8.1.below hb) (ai (BD.o.2.2.2.2.2.2.2.2.2.1.below hb) (ai (BD.o.2.2.2.2.2.2.2.2.2.2.1.below hb) (ai (BD.o.2.2.2.2.2.2.2.2.2.2.2.1.below hb) (ai (BD.o.2.2.2.2.2.2.2.2.2.2.2.2.1.below hb) (ai (BD.o.2.2.2.2.2.2.2.2.2.2.2.2.2.1.trans (hb.mono BD.o.2.2.2.2.2.2.2.2.2.2.2.2.2.1.size)) (ai (BD.o.2.2.2.2.2.2.2.2.2.2.2.2.2.2.1.below hb) (ai (BD.o.2.2.2.2.2.2.2.2.2.2.2.2.2.2.2.1.below hb) (ai (BD.o.2.2.2.2.2.2.2.2.2.2.2.2.2.2.2.2.1.below hb) (ai (BD.o.2.2.2.2.2.2.2.2.2.2.2.2.2.2.2.2.2.1.below hb) (ai (BD.o.2.2.2.2.2.2.2.2.2.2.2.2.2.2.2.2.2.2.1.below hb) (ai (BD.o.2.2.2.2.2.2.2.2.2.2.2.2.2.2.2.2.2.2.2.1.below hb) (ai (BD.o.2.2.2.2.2.2.2.2.2.2.2.2.2.2.2.2.2.2.2.2.1.below hb) (ai (BD.o.2.2.2.2.2.2.2.2.2.2.2.2.2.2.2.2.2.2.2.2.2.1.below hb) (ai (BD.o.2.2.2.2.2.2.2.2.2.2.2.2.2.2.2.2.2.2.2.2.2.2.below hb) hN)))))))))))))))))))))));have bC:=ay (ck hb kS.o fun h=>ck hb h fun h=>ck hb h fun h=>ck hb h fun h=>ck2 hb h);clear hb hN C BD kS;have BD:=bM;have kS:=bC;clear bM bC
 try dsimp only
 refine hK.out _ _ (fun _=>kS.o) ?_;clear hK K'
 try simp only [Act.put,sa,sb,sc]
 refine aj (i:=27) bS rfl (fun K' hK=>?_);have C:=hid (ik FF.o.2.1 FF.o.r4.1 FF.o.2.2.2.2.2.2.2.2.2.2.2.2.2.1 BD.o.r8.1 BD.o.2.2.2.2.2.2.2.2.2.2.2.1 (HT.o _ BD.o.2.2.2.2.2.2.2.2.2.2.2.2.2.1) EE.o.r7.1);go_simp;refine C.o.mono ?_;rintro r u11_ ⟨hd,hb⟩;obtain ⟨p8a,p8c,rfl,hN⟩:=hd.aZ;clear hd;have bM:=ay (ai (BD.o.1.below hb BD.o.1.lt) (ai (BD.o.2.1.below hb) (ai (BD.o.r2.1.below hb) (ai (BD.o.r3.1.below hb) (ai (BD.o.r4.1.below hb) (ai (BD.o.r5.1.below hb) (ai (BD.o.r6.1.below hb) (ai (BD.o.r7.1.below hb) (ai (BD.o.r8.1.below hb) (ai (BD.o.2.2.2.2.2.2.2.2.2.1.below hb) (ai (BD.o.2.2.2.2.2.2.2.2.2.2.1.below hb) (ai (BD.o.2.2.2.2.2.2.2.2.2.2.2.1.below hb) (ai (BD.o.2.2.2.2.2.2.2.2.2.2.2.2.1.below hb) (ai (BD.o.2.2.2.2.2.2.2.2.2.2.2.2.2.1.trans (hb.mono BD.o.2.2.2.2.2.2.2.2.2.2.2.2.2.1.size)) (ai (BD.o.2.2.2.2.2.2.2.2.2.2.2.2.2.2.1.below hb) (ai (BD.o.2.2.2.2.2.2.2.2.2.2.2.2.2.2.2.1.below hb) (ai (BD.o.2.2.2.2.2.2.2.2.2.2.2.2.2.2.2.2.1.below hb) (ai (BD.o.2.2.2.2.2.2.2.2.2.2.2.2.2.2.2.2.2.1.below hb) (ai (BD.o.2.2.2.2.2.2.2.2.2.2.2.2.2.2.2.2.2.2.1.below hb) (ai (BD.o.2.2.2.2.2.2.2.2.2.2.2.2.2.2.2.2.2.2.2.1.below hb) (ai (BD.o.2.2.2.2.2.2.2.2.2.2.2.2.2.2.2.2.2.2.2.2.1.below hb) (ai (BD.o.2.2.2.2.2.2.2.2.2.2.2.2.2.2.2.2.2.2.2.2.2.1.below hb) (ai (BD.o.2.2.2.2.2.2.2.2.2.2.2.2.2.2.2.2.2.2.2.2.2.2.1.below hb) (ai (BD.o.2.2.2.2.2.2.2.2.2.2.2.2.2.2.2.2.2.2.2.2.2.2.2.below hb) hN))))))))))))))))))))))));have bC:=ay (ck hb kS.o fun h=>ck hb h fun h=>ck hb h fun h=>ck hb h fun h=>ck2 hb h);clear hb hN C BD kS;have BD:=bM;have kS:=bC;clear bM bC
 try dsimp only
 refine hK.out _ _ (fun _=>kS.o) ?_;clear hK K'
 try simp only [Act.put,sa,sb,sc]
 refine aj (i:=28) bS rfl (fun K' hK=>?_);have C:=hid (vZ FF.o.2.2.2.2.2.2.2.2.2.2.2.2.1 FF.o.2.2.2.2.2.2.2.2.2.2.2.2.2.1 FF.o.2.2.2.2.2.2.2.2.2.2.2.2.2.2.2.2.2 BD.o.2.2.2.2.2.2.2.2.2.2.2.2.2.2.2.2.2.2.2.2.2.2.2.1 BD.o.2.2.2.2.2.2.2.2.2.2.2.2.2.2.2.2.2.2.2.2.2.2.2.2 (HT.o _ BD.o.2.2.2.2.2.2.2.2.2.2.2.2.2.1) EE.o.2.2.2.2.2.2.2.2.2.2.2);go_simp;refine C.o.mono ?_;rintro r Yo ⟨hd,hb⟩;obtain ⟨Yp,Yq,rfl,hN⟩:=hd.aZ;clear hd;have bM:=ay (ai (BD.o.1.below hb BD.o.1.lt) (ai (BD.o.2.1.below hb) (ai (BD.o.r2.1.below hb) (ai (BD.o.r3.1.below hb) (ai (BD.o.r4.1.below hb) (ai (BD.o.r5.1.below hb) (ai (BD.o.r6.1.below hb) (ai (BD.o.r7.1.below hb) (ai (BD.o.r8.1.below hb) (ai (BD.o.2.2.2.2.2.2.2.2.2.1.below hb) (ai (BD.o.2.2.2.2.2.2.2.2.2.2.1.below hb) (ai (BD.o.2.2.2.2.2.2.2.2.2.2.2.1.below hb) (ai (BD.o.2.2.2.2.2.2.2.2.2.2.2.2.1.below hb) (ai (BD.o.2.2.2.2.2.2.2.2.2.2.2.2.2.1.trans (hb.mono BD.o.2.2.2.2.2.2.2.2.2.2.2.2.2.1.size)) (ai (BD.o.2.2.2.2.2.2.2.2.2.2.2.2.2.2.1.below hb) (ai (BD.o.2.2.2.2.2.2.2.2.2.2.2.2.2.2.2.1.below hb) (ai (BD.o.2.2.2.2.2.2.2.2.2.2.2.2.2.2.2.2.1.below hb) (ai (BD.o.2.2.2.2.2.2.2.2.2.2.2.2.2.2.2.2.2.1.below hb) (ai (BD.o.2.2.2.2.2.2.2.2.2.2.2.2.2.2.2.2.2.2.1.below hb) (ai (BD.o.2.2.2.2.2.2.2.2.2.2.2.2.2.2.2.2.2.2.2.1.below hb) (ai (BD.o.2.2.2.2.2.2.2.2.2.2.2.2.2.2.2.2.2.2.2.2.1.below hb) (ai (BD.o.2.2.2.2.2.2.2.2.2.2.2.2.2.2.2.2.2.2.2.2.2.1.below hb) (ai (BD.o.2.2.2.2.2.2.2.2.2.2.2.2.2.2.2.2.2.2.2.2.2.2.1.below hb) (ai (BD.o.2.2.2.2.2.2.2.2.2.2.2.2.2.2.2.2.2.2.2.2.2.2.2.1.below hb) (ai (BD.o.2.2.2.2.2.2.2.2.2.2.2.2.2.2.2.2.2.2.2.2.2.2.2.2.below hb) hN)))))))))))))))))))))))));have bC:=ay (ck hb kS.o fun h=>ck hb h fun h=>ck hb h fun h=>ck hb h fun h=>ck2 hb h);clear hb hN C BD kS;have BD:=bM;have kS:=bC;clear bM bC
 try dsimp only
 refine hK.out _ _ (fun _=>kS.o) ?_;clear hK K'
 try simp only [Act.put,sa,sb,sc]
 refine aj (i:=29) bS rfl (fun K' hK=>?_);go_simp;refine hK.out _ _ (fun _=>kS.o) ?_;clear hK K'
 try simp only [Act.put,sa,sb,sc]
 have z0:=BD.o.1.cell 0 _ rfl;have vH:=BD.o.1.frozen 0;have z1:=BD.o.1.cell 1 _ rfl;have vJ:=BD.o.1.frozen 1;have z2:=BD.o.1.cell 2 _ rfl;have vL:=BD.o.1.frozen 2;have z3:=BD.o.1.cell 3 _ rfl;have wE:=BD.o.1.frozen 3;have z4:=BD.o.1.cell 4 _ rfl;have uz:=BD.o.1.frozen 4;have z5:=BD.o.1.cell 5 _ rfl;have zf5:=BD.o.1.frozen 5;have z6:=BD.o.1.cell 6 _ rfl;have zf6:=BD.o.1.frozen 6;have z7:=BD.o.1.cell 7 _ rfl;have zf7:=BD.o.1.frozen 7;have z8:=BD.o.1.cell 8 _ rfl;have zf8:=BD.o.1.frozen 8;have z9:=BD.o.1.cell 9 _ rfl;have zf9:=BD.o.1.frozen 9;have Wn:=BD.o.1.cell 10 _ rfl;have Yr:=BD.o.1.frozen 10;have Wo:=BD.o.1.cell 11 _ rfl;have Yt:=BD.o.1.frozen 11;have z12:=BD.o.1.cell 12 _ rfl;have Yu:=BD.o.1.frozen 12;have z13:=BD.o.1.cell 13 _ rfl;have Yv:=BD.o.1.frozen 13;have z14:=BD.o.1.cell 14 _ rfl;have Yw:=BD.o.1.frozen 14;have hbt:But w.heap.size Yo _:=((((((((((((((((But.refl w.heap.size Yo).set 0 (.bool (dN oN))).set 1 (.slice aN (ws (dX oN)).length cN)).set 2 (.int .i64 (dE oN))).set 3 (.bool (dN oD))).set 4 (.slice RB (ws (dX oD)).length RD)).set 5 (.int .i64 (dE oD))).set 6 (.bool (dN oC))).set 7 (.slice Yk (ws (dX oC)).length Yl)).set 8 (.int .i64 (dE oC))).set 9 (.bool (dN oT))).set 10 (.slice Ym (ws (dX oT)).length Yn)).set 11 (.int .i64 (dE oT))).set 12 (.bool (dN oK))).set 13 (.slice Yp (ws (dX oK)).length Yq)).set 14 (.int .i64 (dE oK)));have BE:=rZ (((((((((((((((BD.o.1.set 0 (.bool (dN oN))).set 1 (.slice aN (ws (dX oN)).length cN)).set 2 (.int .i64 (dE oN))).set 3 (.bool (dN oD))).set 4 (.slice RB (ws (dX oD)).length RD)).set 5 (.int .i64 (dE oD))).set 6 (.bool (dN oC))).set 7 (.slice Yk (ws (dX oC)).length Yl)).set 8 (.int .i64 (dE oC))).set 9 (.bool (dN oT))).set 10 (.slice Ym (ws (dX oT)).length Yn)).set 11 (.int .i64 (dE oT))).set 12 (.bool (dN oK))).set 13 (.slice Yp (ws (dX oK)).length Yq)).set 14 (.int .i64 (dE oK))) (But.below BD.o.2.2.2.2.2.2.2.2.2.2.2.2.2.1 hbt BD.o.2.2.2.2.2.2.2.2.2.2.2.2.2.1.size (aH _)) (BD.o.r7.1.off hbt (BD.o.r7.1.bU aO BD.o.1)) (BD.o.2.2.2.2.2.2.2.2.2.2.2.2.2.2.2.2.1.off hbt (BD.o.2.2.2.2.2.2.2.2.2.2.2.2.2.2.2.2.1.bU aO BD.o.1)) (BD.o.2.2.2.2.2.2.2.2.2.2.2.2.2.2.2.2.2.2.2.1.off hbt (BD.o.2.2.2.2.2.2.2.2.2.2.2.2.2.2.2.2.2.2.2.1.bU aO BD.o.1)) (BD.o.2.2.2.2.2.2.2.2.2.2.2.2.2.2.2.2.2.2.2.2.2.2.1.off hbt (BD.o.2.2.2.2.2.2.2.2.2.2.2.2.2.2.2.2.2.2.2.2.2.2.1.bU aO BD.o.1)) (BD.o.2.2.2.2.2.2.2.2.2.2.2.2.2.2.2.2.2.2.2.2.2.2.2.2.2.off hbt (BD.o.2.2.2.2.2.2.2.2.2.2.2.2.2.2.2.2.2.2.2.2.2.2.2.2.2.bU aO BD.o.1));clear hbt;refine aj (i:=30) bS rfl (fun K' hK=>?_);go_simp;refine hK.out _ _ (fun h=>absurd h aO) ?_;clear hK K' z0 vH z1 vJ z2 vL z3 wE z4 uz z5 zf5 z6 zf6 z7 zf7 z8 zf8 z9 zf9 Wn Yr Wo Yt z12 Yu z13 Yv z14 Yw kS BD;refine bG bS ?_ _;go_wp2;refine aI (v:=.agg #[.bool (dN oN),.slice aN (ws (dX oN)).length cN,.int .i64 (dE oN),.bool (dN oD),.slice RB (ws (dX oD)).length RD,.int .i64 (dE oD),.bool (dN oC),.slice Yk (ws (dX oC)).length Yl,.int .i64 (dE oC),.bool (dN oT),.slice Ym (ws (dX oT)).length Yn,.int .i64 (dE oT),.bool (dN oK),.slice Yp (ws (dX oK)).length Yq,.int .i64 (dE oK)]) (jB Tryz.results35 _ _ w.heap.size [.bool (dN oN),.slice aN (ws (dX oN)).length cN,.int .i64 (dE oN),.bool (dN oD),.slice RB (ws (dX oD)).length RD,.int .i64 (dE oD),.bool (dN oC),.slice Yk (ws (dX oC)).length Yl,.int .i64 (dE oC),.bool (dN oT),.slice Ym (ws (dX oT)).length Yn,.int .i64 (dE oT),.bool (dN oK),.slice Yp (ws (dX oK)).length Yq,.int .i64 (dE oK)] ?_ BE.o.1 Tryz.O0 (by rw [Tryz.KM];rfl)) rfl ⟨⟨_,rfl,aN,cN,RB,RD,Yk,Yl,Ym,Yn,Yp,Yq,rfl,BE.o.r2⟩,BE.o.2.1⟩;rfl
end
namespace Ps
open Go.RowKit
theorem eD {P:Program}{w:World}(a:Addr) (k:FloatKind) (n:Nat) (m:Mode):(store a (.float k n) m).run P w=stored P w a (.float k n) m:=run_store P w a _ m rfl
open Go.RowKit
def Wf (xs:List Nat):Prop:=∀ x ∈ xs,x<18446744073709551616
theorem Wf.get {xs:List Nat}(h:Wf xs) (k:Nat):xs.getD k 0<18446744073709551616:=by
 by_cases hk:k<xs.length
 · rw [eQ,fF hk];exact h _ (mP hk)
 · rw [eQ,mQ ae];decide
def U (n:Nat):Value:=.float .f64 n
def Rd (B:Nat) (w:World) (ao:Option Addr) (xs:List Nat):Prop :=
 xs≠[]->∃ b off,b<B/\ao=some ⟨b,off,none⟩/\∀ i,i<xs.length->w.cell? ⟨b,off+i,none⟩=some (.float .f64 (xs.getD i 0))
theorem Rd.below {B:Nat}{w w':World}{ao:Option Addr}{xs:List Nat}(h:Rd B w ao xs) (hb:Below B w w'):Rd B w' ao xs:=by
 intro hx;obtain ⟨b,off,hlt,rfl,hc⟩:=h hx;exact ⟨b,off,hlt,rfl,fun i hi=>(hb.cell (p:=⟨b,off+i,none⟩) hlt).trans (hc i hi)⟩
theorem Rd.mono {B B':Nat}{w:World}{ao:Option Addr}{xs:List Nat}(h:Rd B w ao xs) (hB:B<=B'):Rd B' w ao xs:=by
 intro hx;obtain ⟨b,off,hlt,rfl,hc⟩:=h hx;exact ⟨b,off,ae,rfl,hc⟩
def Lt (lo:Nat) (w:World) (v:Value) (xs:List Nat):Prop:=w.ownsRow lo 26 1 v xs.length (xs.map U)
theorem Lt.nil (lo:Nat) (w:World):Lt lo w (.slice none 0 0) []:=Ay _ _ _ _
theorem Tryz.O3:(Tryz.prog.info? 26).map (fun i=>(i.zero,i.size,i.bytes))=some (some (.float .f64 0),1,8):=by kernel_rfl
open Go.RowKit
abbrev Rw (lo:Nat) (w:World) (v:Value) (n:Nat) (ys:List Value):Prop:=w.ownsRow lo 26 1 v n ys
def KN (w w':World):Prop:=∀ (g:Nat) (cur:Array Value) (e:TypeId),e≠22->e≠127->w.heap[g]?=some (.cells cur e (0,0))->w'.heap[g]?=some (.cells cur e (0,0))
theorem KN.row {w w':World}{lo:Nat}{v:Value}{n:Nat}{ys:List Value}(h:Rw lo w v n ys) (k:KN w w'):Rw lo w' v n ys:=by
 refine ⟨h.1,?_⟩;rcases h.2 with hn|⟨g,cap,cur,rfl,hlo,hg,rest⟩
 · exact .inl hn
 · exact .inr ⟨g,cap,cur,rfl,hlo,k _ _ _ aO aO hg,rest⟩
theorem KN.below {w w':World}(h:Below w.heap.size w w'):KN w w':=fun g cur _ _ _ e=>by rw [h.block g (fJ.1 e).1];exact e
theorem rz {w w':World}{lo e s:Nat}{v:Value}{n:Nat}{ys:List Value}(h:w.ownsRow lo e s v n ys) (hb:∀ g,v.ownBlock=some g->w'.heap[g]?=w.heap[g]?):w'.ownsRow lo e s v n ys:=by
 refine ⟨h.1,?_⟩;rcases h.2 with hn|⟨g,cap,cur,rfl,hlo,hg,rest⟩
 · exact .inl hn
 · refine .inr ⟨g,cap,cur,rfl,hlo,?_,rest⟩;rw [hb g rfl];exact hg
theorem kR (w:World) (lo:Nat) (v:Value) (n:Nat) (ys:List Value) (x:Value) (s:Nat) (ty:TypeId) (hown:Rw lo w v n ys) (hx:w.cell? ⟨s,0,none⟩=some x) (h1:x.oneCell'=true)
 (hbig:n+1<=17592186044416) (hlo:lo<=w.heap.size) :
 ∃ v' w',(Builtin.append_ #[22,22] ty #[v,.slice (some ⟨s,0,none⟩) 1 1]).run Tryz.prog w=.ok v' w'/\Rw lo w' v' (n+1) (ys++[x])/\w.grownBy w' v.ownBlock /\
   (v'.ownBlock=v.ownBlock\/∃ g,v'.ownBlock=some g/\w.heap.size<=g)/\(∀ (u:Value) (k:Nat) (zs:List Value),Rw lo w u k zs->(u.ownBlock=v.ownBlock->k<=n)->Rw lo w' u k zs):=by
 obtain ⟨i0,hi,hz0,hz1,hz2⟩:=info_parts Tryz.O3
 have hnews:∀ j u,[x][j]?=some u->w.cell? ((⟨s,0,none⟩:Addr).add j)=some u:=by
  intro j u hj
  match j,hj with
  | 0,hj=>simp at hj;subst hj;simpa [Addr.add] using hx
 have h1':∀ u ∈ [x],u.oneCell'=true:=by intro u hu;simp at hu;subst hu;exact h1
 have keep:∀ w',w.grownBy w' none->∀ (u:Value) (k:Nat) (zs:List Value),Rw lo w u k zs->Rw lo w' u k zs:=by
  intro w' hg u k zs hr;rcases hr.2 with hn|⟨g,cap,cur,rfl,hl,hgb,rest⟩
  · exact ⟨hr.1,.inl hn⟩
  · refine ⟨hr.1,.inr ⟨g,cap,cur,rfl,hl,?_,rest⟩⟩;rw [hg.block g (fJ.1 hgb).1 aW];exact hgb
 have Mx:∀ (v':Value) (w':World) (m:Nat) (zs:List Value),w'.ownsRow w.heap.size 26 1 v' (m+1) zs->∃ g,v'.ownBlock=some g/\w.heap.size<=g:=by
  intro v' w' m zs h;rcases h.2 with ⟨_,h0⟩|⟨g,cap,cur,rfl,hl,_⟩
  · omega
  · exact ⟨g,rfl,hl⟩
 have mono:∀ (v':Value) (w':World) (m:Nat) (zs:List Value),w'.ownsRow w.heap.size 26 1 v' m zs->Rw lo w' v' m zs:=by
  intro v' w' m zs h;refine ⟨h.1,?_⟩;rcases h.2 with hn|⟨g,cap,cur,rfl,hl,rest⟩
  · exact .inl hn
  · exact .inr ⟨g,cap,cur,rfl,ae,rest⟩
 rcases hown.2 with ⟨rfl,rfl⟩|⟨g,cap,cur,rfl,ZW,hg,hnc,hm,hs,ht⟩
 · obtain ⟨v',w',r1,r2,r3,_,_⟩:=run_append_own_at (P:=Tryz.prog) w w.heap.size 22 ty 26 i0 (.float .f64 0) 1 8 Tryz.underlying22 hi hz0 hz1 hz2 rfl aO (.slice none 0 0) 0 [] (Ay _ _ _ _) ⟨s,0,none⟩ 1 1 [x] rfl hnews h1' (by unfold maxLen;omega) ae (aH _);have hy:ys=[]:=Ao (by simpa using hown.1);subst hy;exact ⟨v',w',r1,mono _ _ _ _ (by simpa using r2),r3,.inr (Mx _ _ 0 _ (by simpa using r2)),fun u k zs hr _=>keep _ r3 u k zs hr⟩
 · by_cases hroom:n+1<=cap
   · have hr:=run_append_room (P:=Tryz.prog) w 22 ty 26 i0 Tryz.underlying22 hi g n cap cur hg ⟨s,0,none⟩ 1 1 [x] (by rw [hz1];rfl) hnews h1' hroom (by rw [hz1,hs];simp;omega);rw [hz1] at hr;refine ⟨_,_,hr,⟨by simpa using hown.1,.inr ⟨g,cap,_,rfl,ZW,setRow_heap w g cur _ 26 _ hg,hroom,hm,?_,?_⟩⟩,⟨rfl,rfl,rfl,aW,fun k _ hk=>setRow_other w g k _ (fun e=>hk (by simp [Value.ownBlock,e]))⟩,.inl rfl,?_⟩
     · simp only [yI,Aj,eZ,pW,yJ,mR,yK];omega
     · rw [ht];have hyl:ys.length=n:=by simpa using hown.1
       simp only [dU,xq];rw [<-xq];rw [yL (by simp [hyl])];rw [eF (by simp [hyl])]
     · intro u k zs hr2 hle;rcases hr2.2 with hn|⟨g2,cap2,TT,rfl,hl2,hg2,MB,hm2,hs2,ht2⟩
       · exact ⟨hr2.1,.inl hn⟩
       · by_cases he:g2=g
         · subst he;rw [hg] at hg2
           cases hg2
           have hk:=hle rfl;refine ⟨hr2.1,.inr ⟨g2,cap2,_,rfl,hl2,setRow_heap w g2 cur _ 26 _ hg,MB,hm2,?_,?_⟩⟩
           · simp only [yI,Aj,eZ,pW,yJ,mR,yK];omega
           · have hcl:cur.toList.length=cap2:=by simpa using hs2
             rw [<-ht2];simp only [dU,xq];rw [yL (by rw [eZ];omega),List.take_take,iX hk]
         · refine ⟨hr2.1,.inr ⟨g2,cap2,TT,rfl,hl2,?_,MB,hm2,hs2,ht2⟩⟩;rw [setRow_other w g g2 _ he];exact hg2
   · obtain ⟨v',w',r1,r2,r3⟩:=run_append_arg_grows (P:=Tryz.prog) w 22 ty 26 i0 (.float .f64 0) 1 8 Tryz.underlying22 hi hz0 hz1 hz2 rfl aO ⟨g,0,none⟩ n cap ys (by simpa using hown.1) (fun j u hj=>hown.cells (g:=g) (by simp [Value.ownBlock]) j u hj) ⟨s,0,none⟩ 1 1 [x] rfl hnews ae (by unfold maxLen;omega) ae;exact ⟨v',w',r1,mono _ _ _ _ r2,⟨r3.os,r3.tape,r3.output,r3.size,fun k hk _=>r3.block k hk aW⟩,.inr (Mx _ _ n _ r2),fun u k zs hr _=>keep _ r3 u k zs hr⟩
theorem dF {w:World}{ops:Array Oper}{rest:List Oper}{o:Oper}{a:Act}{Q:Exit->Act->World->Prop}(hgd:o.guard=none) (s x:Operand) (t:TypeId)
 (ho:o.op=.call { callee:=.builtin .append,args:=#[s,x],argTypes:=#[t,t] }) (v u:Value) (hs:a.eval s=v) (hx:a.eval x=u) (v':Value) (w':World)
 (hrun:(Builtin.append_ #[t,t] o.type #[v,u]).run Tryz.prog w=.ok v' w') (h:wpList Tryz.prog ops Q rest (a.put o.dst v') w'):wpList Tryz.prog ops Q (o::rest) a w:=by
 refine wpList_plain hgd fun K hK=>?_;unfold Oper.wp;simp [execOp,ho,resolve,invoke,builtin,hs,hx,hrun,Result.andThen];exact hK _ _ h
end Ps
end Go.Proofs.YtblkpkgebigojaaGreatDoor
