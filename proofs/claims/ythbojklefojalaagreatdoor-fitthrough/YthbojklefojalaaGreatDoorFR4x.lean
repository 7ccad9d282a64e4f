import Derived.Test.YthbojklefojalaaGreatDoorZ46x
import Derived.Test.YthbojklefojalaaGreatDoorFI8x
import Derived.Test.YthbojklefojalaaGreatDoorM1x
import Derived.ProofKit
import Derived.OpenShut
import Derived.ChangeOld
import Derived.ChangeArms
import Derived.SizedLaws
import Derived.Laws.Cover2
set_option linter.unusedVariables false
set_option linter.unusedSimpArgs false
set_option maxHeartbeats 16000000
set_option maxRecDepth 20000
namespace Go.Proofs.YthbojklefojalaaGreatDoor
namespace J
end J
section
open Go Go.RowKit J
theorem zS_takeR {α:Type}(f:α→Int) (P:List α) (k:Nat) (hk:k<P.length):zS f (P.take (k+1))=zS f (P.take k)+f P[k]:=by
 rw [List.take_succ_eq_append_getElem hk];generalize P.take k=L
 induction L with
 | nil=>show f P[k]+0=0+f P[k];omega
 | cons x L ih=>show f x+zS f (L++[P[k]])=f x+zS f L+f P[k];rw [ih];omega
theorem getD_at (xs:List Nat) (k:Nat) (hk:k<xs.length):xs[k]=xs.getD k 0:=by rw [List.getD_eq_getElem?_getD,List.getElem?_eq_getElem hk];rfl
theorem row_sums19:∃ d:TypeDesc,Tryz.prog.underlying 60=some d∧d.isRow=true:=by
 have h:(Tryz.prog.underlying 60).any (·.isRow)=true:=by kernel_rfl
 cases hd:Tryz.prog.underlying 60 with
 | none=>rw [hd] at h;cases h
 | some d=>rw [hd] at h;exact ⟨d,rfl,h⟩
theorem size_sums19:(Tryz.prog.info? 60).map (·.size)=some 16:=by kernel_rfl
def Sv19 (w:World) (v:Value) (n:Nat) (oX oY oXX oXY oYY:Option (Bool×Nat×Int)):Prop:=∃ a1 c1 a2 c2 a3 c3 a4 c4 a5 c5,v=.agg #[.int .i64 (n:Nat),.bool (dN oX),.slice a1 (ws (dX oX)).length c1,.int .i64 (dE oX),.bool (dN oY),.slice a2 (ws (dX oY)).length c2,.int .i64 (dE oY),.bool (dN oXX),.slice a3 (ws (dX oXX)).length c3,.int .i64 (dE oXX),.bool (dN oXY),.slice a4 (ws (dX oXY)).length c4,.int .i64 (dE oXY),.bool (dN oYY),.slice a5 (ws (dX oYY)).length c5,.int .i64 (dE oYY)]∧Nt 0 w (.slice a1 (ws (dX oX)).length c1) (dX oX)∧Nt 0 w (.slice a2 (ws (dX oY)).length c2) (dX oY)∧Nt 0 w (.slice a3 (ws (dX oXX)).length c3) (dX oXX)∧Nt 0 w (.slice a4 (ws (dX oXY)).length c4) (dX oXY)∧Nt 0 w (.slice a5 (ws (dX oYY)).length c5) (dX oYY)
structure Fk (n:Nat) (xs ys:List Nat) (X Y XX XY YY:Nat→Option (Bool×Nat×Int)) (A B AA AB BB:Nat→Option (Bool×Nat×Int)):Prop where
 f:∀ k,k≤n→Fm (X k)∧Fm (Y k)∧Fm (XX k)∧Fm (XY k)∧Fm (YY k)
 g:∀ k,k<n→Fm (A k)∧Fm (B k)∧Fm (AA k)∧Fm (AB k)∧Fm (BB k)
 m:∀ k,k<n→mulD (A k) (A k)=AA k∧mulD (A k) (B k)=AB k∧mulD (B k) (B k)=BB k
 s:∀ k,k<n→addD (X k) (A k)=X (k+1)∧addD (Y k) (B k)=Y (k+1)∧addD (XX k) (AA k)=XX (k+1)∧addD (XY k) (AB k)=XY (k+1)∧addD (YY k) (BB k)=YY (k+1)
 z:X 0=o00∧Y 0=o00∧XX 0=o00∧XY 0=o00∧YY 0=o00
 o:∀ k,k<n→∀ u:World,(Calls Tryz.prog 45 #[.float .f64 (xs.getD k 0)] u fun r w'=>(∃ v,r=.returned (.tuple #[.agg #[.bool (dN (A k)),v,.int .i64 (dE (A k))],.int .i64 0])∧Nt u.heap.size w' v (dX (A k)))∧Below u.heap.size u w') ∧
   (Calls Tryz.prog 45 #[.float .f64 (ys.getD k 0)] u fun r w'=>(∃ v,r=.returned (.tuple #[.agg #[.bool (dN (B k)),v,.int .i64 (dE (B k))],.int .i64 0])∧Nt u.heap.size w' v (dX (B k)))∧Below u.heap.size u w')
theorem rOf19_core (xs ys:List Nat) (X Y XX XY YY A B AA AB BB:Nat→Option (Bool×Nat×Int)) (a b:Option Addr) (n c d:Nat) (w:World) (hn:n=xs.length) (hm:n=ys.length) (hl:n≤65536) (hF:Fs w.heap.size w a xs) (hG:Fs w.heap.size w b ys) (H:Fk n xs ys X Y XX XY YY A B AA AB BB) :
 Calls Tryz.prog 32 #[.slice a n c,.slice b n d] w fun r w'=>(∃ v,r=.returned v∧Sv19 w' v n (X n) (Y n) (XX n) (XY n) (YY n))∧Below w.heap.size w w':=by
 obtain ⟨W,hW⟩:∃ W,W=(w.alloc (Obj.cells #[.int .i64 0,.bool false,.slice none 0 0,.int .i64 0,.bool false,.slice none 0 0,.int .i64 0,.bool false,.slice none 0 0,.int .i64 0,.bool false,.slice none 0 0,.int .i64 0,.bool false,.slice none 0 0,.int .i64 0] 60)).alloc (Obj.cells #[.int .i64 (n:Nat),.bool false,.slice none 0 0,.int .i64 0,.bool false,.slice none 0 0,.int .i64 0,.bool false,.slice none 0 0,.int .i64 0,.bool false,.slice none 0 0,.int .i64 0,.bool false,.slice none 0 0,.int .i64 0] 60):=⟨_,rfl⟩;obtain ⟨g4,hg4⟩:∃ g,g=w.heap.size:=⟨_,rfl⟩;obtain ⟨gS,hgS⟩:∃ g,g=w.heap.size+1:=⟨_,rfl⟩
 have B0:Aside (P19 w W g4 gS n (X 0) (Y 0) (XX 0) (XY 0) (YY 0)):=by
  rw [H.z.1,H.z.2.1,H.z.2.2.1,H.z.2.2.2.1,H.z.2.2.2.2];have z2:=Bl.new (w.alloc (Obj.cells #[.int .i64 0,.bool false,.slice none 0 0,.int .i64 0,.bool false,.slice none 0 0,.int .i64 0,.bool false,.slice none 0 0,.int .i64 0,.bool false,.slice none 0 0,.int .i64 0,.bool false,.slice none 0 0,.int .i64 0] 60)) 60 [.int .i64 (n:Nat),.bool false,.slice none 0 0,.int .i64 0,.bool false,.slice none 0 0,.int .i64 0,.bool false,.slice none 0 0,.int .i64 0,.bool false,.slice none 0 0,.int .i64 0,.bool false,.slice none 0 0,.int .i64 0];rw [World.size_alloc] at z2;refine ⟨⟨none,0,none,0,none,0,none,0,none,0,?_,?_,?_,?_,?_,?_⟩,?_,?_,?_⟩
  · rw [len00,hW,hgS];exact z2
  · rw [len00];exact Nt.nil _ _
  · rw [len00];exact Nt.nil _ _
  · rw [len00];exact Nt.nil _ _
  · rw [len00];exact Nt.nil _ _
  · rw [len00];exact Nt.nil _ _
  · rw [hW,hg4];exact (Bl.new _ 60 [.int .i64 0,.bool false,.slice none 0 0,.int .i64 0,.bool false,.slice none 0 0,.int .i64 0,.bool false,.slice none 0 0,.int .i64 0,.bool false,.slice none 0 0,.int .i64 0,.bool false,.slice none 0 0,.int .i64 0]).alloc _
  · rw [hW];exact (bel_alloc _ _).trans ((bel_alloc _ _).mono (by simp))
  · rw [hg4,hgS];omega
 have HW:=(qsd (ai hW (ai hg4 hgS)));have HX:=(qsd (ai hn (ai hm (ai hF hG))));have HH:=qsd H;clear hW hg4 hgS hn hm hF hG H;go_enter Tryz.func32,Tryz.ntmps32
 go_upto_region 2 with fail
 rw [←HW.out.1]
 try rw [←HW.out.2.2]
 try rw [←HW.out.2.1]
 clear HW;go_wp2
 go_loopg [6] n (fun gk iv wr=>∃ k:Nat,gk+k=n∧iv=.int .i64 (k:Nat)∧Aside (P19 w wr g4 gS n (X k) (Y k) (XX k) (XY k) (YY k)))
 case atStart=>exact ⟨0,by omega,by simp,B0.out⟩
 case round =>
  clear B0;obtain ⟨k,hgk,rfl,HA⟩:=hrel
  by_cases hk:k<n
  · obtain ⟨b1,off1,rfl,hc1⟩:=HX.out.2.2.1.at HA.out.bel k (by have:=HX.out.1;omega)
    obtain ⟨fx,fy,fxx,fxy,fyy⟩:=HH.out.f (k+1) (by omega)
    obtain ⟨ex,ey,exx,exy,eyy⟩:=HH.out.f k (by omega)
    obtain ⟨fa,fb,faa,fab,fbb⟩:=HH.out.g k hk;obtain ⟨maa,mab,mbb⟩:=HH.out.m k hk;obtain ⟨sx,sy,sxx,sxy,syy⟩:=HH.out.s k hk;have OC:Hid (∀ u:World,_∧_):=HH.out.o k hk;obtain ⟨z1,hz1⟩:∃ z,z=xs.getD k 0:=⟨_,rfl⟩;obtain ⟨z2,hz2⟩:∃ z,z=ys.getD k 0:=⟨_,rfl⟩;rw [←hz1] at hc1 OC;rw [←hz2] at OC;have HN1:Aside (∃ k':Nat,k'=k+1):=⟨_,rfl⟩;obtain ⟨oX,hoX⟩:∃ o,o=X k:=⟨_,rfl⟩;obtain ⟨oY,hoY⟩:∃ o,o=Y k:=⟨_,rfl⟩;obtain ⟨oXX,hoXX⟩:∃ o,o=XX k:=⟨_,rfl⟩;obtain ⟨oXY,hoXY⟩:∃ o,o=XY k:=⟨_,rfl⟩;obtain ⟨oYY,hoYY⟩:∃ o,o=YY k:=⟨_,rfl⟩;obtain ⟨pX,hpX⟩:∃ o,o=X (k+1):=⟨_,rfl⟩;obtain ⟨pY,hpY⟩:∃ o,o=Y (k+1):=⟨_,rfl⟩;obtain ⟨pXX,hpXX⟩:∃ o,o=XX (k+1):=⟨_,rfl⟩;obtain ⟨pXY,hpXY⟩:∃ o,o=XY (k+1):=⟨_,rfl⟩;obtain ⟨pYY,hpYY⟩:∃ o,o=YY (k+1):=⟨_,rfl⟩;obtain ⟨oa,hoa⟩:∃ o,o=A k:=⟨_,rfl⟩;obtain ⟨ob,hob⟩:∃ o,o=B k:=⟨_,rfl⟩;obtain ⟨oaa,hoaa⟩:∃ o,o=AA k:=⟨_,rfl⟩;obtain ⟨oab,hoab⟩:∃ o,o=AB k:=⟨_,rfl⟩;obtain ⟨obb,hobb⟩:∃ o,o=BB k:=⟨_,rfl⟩;rw [←hpX] at fx sx;rw [←hpY] at fy sy;rw [←hpXX] at fxx sxx;rw [←hpXY] at fxy sxy;rw [←hpYY] at fyy syy;rw [←hoX] at ex sx;rw [←hoY] at ey sy;rw [←hoXX] at exx sxx;rw [←hoXY] at exy sxy;rw [←hoYY] at eyy syy;rw [←hoa] at fa maa mab sx OC;rw [←hob] at fb mab mbb sy OC;rw [←hoaa] at faa maa sxx;rw [←hoab] at fab mab sxy;rw [←hobb] at fbb mbb syy;have HB:=HA;rw [←hoX,←hoY,←hoXX,←hoXY,←hoYY] at HB;have HP:=(qsd (ai hpX (ai hpY (ai hpXX (ai hpXY hpYY)))));have FF:=(qsd (ai ex (ai ey (ai exx (ai exy (ai eyy (ai fx (ai fy (ai fxx (ai fxy (ai fyy (ai fa (ai fb (ai faa (ai fab fbb)))))))))))))));have EE:=(qsd (ai maa (ai mab (ai mbb (ai sx (ai sy (ai sxx (ai sxy syy))))))));have HZ2:=(qsd (ai hz2 HX.out.2.2.2));clear HA hoX hoY hoXX hoXY hoYY hpX hpY hpXX hpXY hpYY hoa hob hoaa hoab hobb ex ey exx exy eyy fx fy fxx fxy fyy fa fb faa fab fbb maa mab mbb sx sy sxx sxy syy hz1 hz2 HN1;have C:=hid (OC.out wr).1
    go_wp2_with fail
    refine C.out.mono ?_;clear C hc1;rintro r u4 ⟨⟨v,rfl,hv⟩,hb⟩;obtain ⟨aP,cP,rfl,hN⟩:=Lo.shape FF.out.2.2.2.2.2.2.2.2.2.2.1 hv;obtain ⟨V1,hV1⟩:∃ U,U=u4.alloc (Obj.cells #[.bool (dN oa),.slice aP (ws (dX oa)).length cP,.int .i64 (dE oa)] 51):=⟨_,rfl⟩;obtain ⟨g7,hg7⟩:∃ g,g=u4.heap.size:=⟨_,rfl⟩
    have D1:Aside (P19 w V1 g4 gS n oX oY oXX oXY oYY∧Lo V1 g7 oa∧gS<g7):=by
     have hb2:Below wr.heap.size wr V1:=by rw [hV1];exact hb.trans ((bel_alloc _ _).mono hb.size)
     refine ⟨HB.out.below hb2,?_,by rw [hg7];have:=HB.out.m.lt;have:=hb.size;omega⟩
     rw [hV1,hg7];exact Lo.new hN
    have HV1:=(qsd (ai hV1 hg7));clear hV1 hg7 hb hN hv HB;obtain ⟨b2,off2,rfl,hc2⟩:=HZ2.out.2.at D1.out.1.bel k (by have:=HX.out.2.1;omega)
    rw [←HZ2.out.1] at hc2;have C:=hid (OC.out V1).2;clear OC
    go_upto_region 6 with fail
    rw [←HV1.out.1,←HV1.out.2];clear HV1
    go_wp2_with fail
    refine C.out.mono ?_;clear C hc2;rintro r u5 ⟨⟨v,rfl,hv⟩,hb⟩;obtain ⟨aQ,cQ,rfl,hN⟩:=Lo.shape FF.out.2.2.2.2.2.2.2.2.2.2.2.1 hv;obtain ⟨V2,hV2⟩:∃ U,U=u5.alloc (Obj.cells #[.bool (dN ob),.slice aQ (ws (dX ob)).length cQ,.int .i64 (dE ob)] 51):=⟨_,rfl⟩;obtain ⟨g9,hg9⟩:∃ g,g=u5.heap.size:=⟨_,rfl⟩
    have S0:Aside (Q19 w V2 g4 gS g7 g9 n oX oY oXX oXY oYY oa ob):=by
     have hb2:Below V1.heap.size V1 V2:=by rw [hV2];exact hb.trans ((bel_alloc _ _).mono hb.size)
     have h3:=D1.out.1.below hb2;refine ⟨h3.m,D1.out.2.1.below hb2,?_,h3.z,h3.bel,h3.ord.1,h3.ord.2,D1.out.2.2,by rw [hg9];have:=D1.out.2.1.lt;have:=hb.size;omega⟩
     rw [hV2,hg9];exact Lo.new hN
    have HV2:=(qsd (ai hV2 hg9));clear hV2 hg9 hb hN hv D1
    go_upto_region 7 with fail
    rw [←HV2.out.1,←HV2.out.2];clear HV2;obtain ⟨a1,c1,a2,c2,a3,c3,a4,c4,a5,c5,BL,n1,n2,n3,n4,n5⟩:=S0.out.m;obtain ⟨aA,cA,DA,NA⟩:=S0.out.a;obtain ⟨x0,x1,x2,xf0,xf1,xf2⟩:=DA.facts;have y1:=BL.cell 1 _ rfl;have y2:=BL.cell 2 _ rfl;have y3:=BL.cell 3 _ rfl;have C:=hid (rplus19 FF.out.1 FF.out.2.2.2.2.2.2.2.2.2.2.1 FF.out.2.2.2.2.2.1 n1 NA EE.out.2.2.2.1);clear BL DA NA n1 n2 n3 n4 n5
    go_wp2_with fail
    refine C.out.mono ?_;clear C x0 x1 x2 xf0 xf1 xf2 y1 y2 y3;rintro r t0 ⟨hd,hb⟩;obtain ⟨a0,c0,rfl,hN⟩:=hd.shp14;have T0:=qsd (S0.out.below hb);clear hd hb S0;obtain ⟨a1,c1,a2,c2,a3,c3,a4,c4,a5,c5,BL,_⟩:=T0.out.m;have y1:=BL.cell 1 _ rfl;have y2:=BL.cell 2 _ rfl;have y3:=BL.cell 3 _ rfl;have yf1:=BL.frozen 1;have yf2:=BL.frozen 2;have yf3:=BL.frozen 3;obtain ⟨Y0,hY⟩:∃ U,U=((t0.setCell ⟨gS,1,none⟩ (.bool (dN pX))).setCell ⟨gS,2,none⟩ (.slice a0 (ws (dX pX)).length c0)).setCell ⟨gS,3,none⟩ (.int .i64 (dE pX)):=⟨_,rfl⟩;have S1:Aside (Q19 w Y0 g4 gS g7 g9 n pX oY oXX oXY oYY oa ob):=by rw [hY];exact T0.out.set0 hN
    have HY:=qsd hY;clear hN hY BL T0
    go_upto_region 8 with fail
    rw [←HY.out];clear HY y1 y2 y3 yf1 yf2 yf3;obtain ⟨a1,c1,a2,c2,a3,c3,a4,c4,a5,c5,BL,n1,n2,n3,n4,n5⟩:=S1.out.m;obtain ⟨aA,cA,DA,NA⟩:=S1.out.b;obtain ⟨x0,x1,x2,xf0,xf1,xf2⟩:=DA.facts;have y1:=BL.cell 4 _ rfl;have y2:=BL.cell 5 _ rfl;have y3:=BL.cell 6 _ rfl;have C:=hid (rplus19 FF.out.2.1 FF.out.2.2.2.2.2.2.2.2.2.2.2.1 FF.out.2.2.2.2.2.2.1 n2 NA EE.out.2.2.2.2.1);clear BL DA NA n1 n2 n3 n4 n5
    go_wp2_with fail
    refine C.out.mono ?_;clear C x0 x1 x2 xf0 xf1 xf2 y1 y2 y3;rintro r t1 ⟨hd,hb⟩;obtain ⟨a0,c0,rfl,hN⟩:=hd.shp14;have T1:=qsd (S1.out.below hb);clear hd hb S1;obtain ⟨a1,c1,a2,c2,a3,c3,a4,c4,a5,c5,BL,_⟩:=T1.out.m;have y1:=BL.cell 4 _ rfl;have y2:=BL.cell 5 _ rfl;have y3:=BL.cell 6 _ rfl;have yf1:=BL.frozen 4;have yf2:=BL.frozen 5;have yf3:=BL.frozen 6;obtain ⟨Y1,hY⟩:∃ U,U=((t1.setCell ⟨gS,4,none⟩ (.bool (dN pY))).setCell ⟨gS,5,none⟩ (.slice a0 (ws (dX pY)).length c0)).setCell ⟨gS,6,none⟩ (.int .i64 (dE pY)):=⟨_,rfl⟩;have S2:Aside (Q19 w Y1 g4 gS g7 g9 n pX pY oXX oXY oYY oa ob):=by rw [hY];exact T1.out.set1 hN
    have HY:=qsd hY;clear hN hY BL T1
    go_upto_region 9 with fail
    rw [←HY.out];clear HY y1 y2 y3 yf1 yf2 yf3;obtain ⟨a1,c1,a2,c2,a3,c3,a4,c4,a5,c5,BL,n1,n2,n3,n4,n5⟩:=S2.out.m;obtain ⟨aA,cA,Da,Na⟩:=S2.out.a;have BD:Aside (Q19 w Y1.drew g4 gS g7 g9 n pX pY oXX oXY oYY oa ob∧Nt 0 Y1.drew (.slice a3 (ws (dX oXX)).length c3) (dX oXX)∧Nt 0 Y1.drew (.slice aA (ws (dX oa)).length cA) (dX oa)):=⟨S2.out.below (Below.refl _ _).drew,n3.below (Below.refl _ _).drew,Na.below (Below.refl _ _).drew⟩;have kS:Aside (Y1.drew.cell? ⟨gS,7,none⟩=some (.bool (dN oXX))∧Y1.drew.cell? ⟨gS,8,none⟩=some (.slice a3 (ws (dX oXX)).length c3)∧Y1.drew.cell? ⟨gS,9,none⟩=some (.int .i64 (dE oXX))∧Y1.drew.cell? ⟨g7,0,none⟩=some (.bool (dN oa))∧Y1.drew.cell? ⟨g7,1,none⟩=some (.slice aA (ws (dX oa)).length cA)∧Y1.drew.cell? ⟨g7,2,none⟩=some (.int .i64 (dE oa))):=⟨(BL.below (Below.refl _ _).drew BL.lt).cell 7 _ rfl,(BL.below (Below.refl _ _).drew BL.lt).cell 8 _ rfl,(BL.below (Below.refl _ _).drew BL.lt).cell 9 _ rfl,(Da.below (Below.refl _ _).drew).facts.1,(Da.below (Below.refl _ _).drew).facts.2.1,(Da.below (Below.refl _ _).drew).facts.2.2.1⟩;clear BL n1 n2 n3 n4 n5 S2 Da Na;refine until_region (fun w'=>w'.cell? ⟨gS,7,none⟩=some (.bool (dN oXX))∧w'.cell? ⟨gS,8,none⟩=some (.slice a3 (ws (dX oXX)).length c3)∧w'.cell? ⟨gS,9,none⟩=some (.int .i64 (dE oXX))∧w'.cell? ⟨g7,0,none⟩=some (.bool (dN oa))∧w'.cell? ⟨g7,1,none⟩=some (.slice aA (ws (dX oa)).length cA)∧w'.cell? ⟨g7,2,none⟩=some (.int .i64 (dE oa))) 7 (by kernel_rfl) ?_
    obtain ⟨Wd,hWd⟩:∃ Vq,Vq=Y1.drew:=⟨_,rfl⟩;rw [←hWd] at BD kS ⊢;clear hWd;refine until_take (i:=0) [1,5] (v:=?_) rfl (by kernel_rfl) (by kernel_rfl) (by kernel_rfl) (by kernel_rfl) (by kernel_rfl) (fun _ _ _ h=>h) (Or.inl ⟨by rfl,?_⟩) kS.out ?_
    rotate_left
    · intro u hSu
      try dsimp only at hSu
      first | (go_simp;done) | (go_simp;with_reducible rfl)
    try simp only [Act.put,List.setIfInBounds_toArray,List.set_cons_zero,List.set_cons_succ]
    refine until_take (i:=1) [5] (v:=?_) rfl (by kernel_rfl) (by kernel_rfl) (by kernel_rfl) (by kernel_rfl) (by kernel_rfl) (fun _ _ _ h=>h) (Or.inl ⟨by rfl,?_⟩) kS.out ?_
    rotate_left
    · intro u hSu
      try dsimp only at hSu
      first | (go_simp;done) | (go_simp;with_reducible rfl)
    try simp only [Act.put,List.setIfInBounds_toArray,List.set_cons_zero,List.set_cons_succ]
    refine until_take (i:=2) [4,5] (v:=?_) rfl (by kernel_rfl) (by kernel_rfl) (by kernel_rfl) (by kernel_rfl) (by kernel_rfl) (fun _ _ _ h=>h) (Or.inl ⟨by rfl,?_⟩) kS.out ?_
    rotate_left
    · intro u hSu
      try dsimp only at hSu
      first | (go_simp;done) | (go_simp;with_reducible rfl)
    try simp only [Act.put,List.setIfInBounds_toArray,List.set_cons_zero,List.set_cons_succ]
    refine until_take (i:=3) [4,5] (v:=?_) rfl (by kernel_rfl) (by kernel_rfl) (by kernel_rfl) (by kernel_rfl) (by kernel_rfl) (fun _ _ _ h=>h) (Or.inl ⟨by rfl,?_⟩) kS.out ?_
    rotate_left
    · intro u hSu
      try dsimp only at hSu
      first | (go_simp;done) | (go_simp;with_reducible rfl)
    try simp only [Act.put,List.setIfInBounds_toArray,List.set_cons_zero,List.set_cons_succ]
    refine until_one (i:=4) (by kernel_rfl) rfl (fun K' hK=>?_)
    have C:=hid (rtimes19 FF.out.2.2.2.2.2.2.2.2.2.2.1 FF.out.2.2.2.2.2.2.2.2.2.2.1 FF.out.2.2.2.2.2.2.2.2.2.2.2.2.1 BD.out.2.2 BD.out.2.2 EE.out.1)
    go_simp
    refine C.out.mono ?_;rintro r u1_ ⟨hd,hb⟩;obtain ⟨ma,mc,rfl,hN⟩:=hd.shp14;clear hd;have BD2:=qsd (ai (BD.out.1.below hb) (ai (BD.out.2.1.below hb) (ai (BD.out.2.2.below hb) hN)));have kS2:=qsd (ai (cb14 kS.out.1 hb) (ai (cb14 kS.out.2.1 hb) (ai (cb14 kS.out.2.2.1 hb) (ai (cb14 kS.out.2.2.2.1 hb) (ai (cb14 kS.out.2.2.2.2.1 hb) (cb14 kS.out.2.2.2.2.2 hb))))));clear hb hN C BD kS;have BD:=BD2;have kS:=kS2;clear BD2 kS2
    try dsimp only
    refine hK.out _ _ (fun _=>kS.out) ?_
    clear hK K'
    try simp only [Act.put,List.setIfInBounds_toArray,List.set_cons_zero,List.set_cons_succ]
    refine until_one (i:=5) (by kernel_rfl) rfl (fun K' hK=>?_)
    have C:=hid (rplus19 FF.out.2.2.1 FF.out.2.2.2.2.2.2.2.2.2.2.2.2.1 FF.out.2.2.2.2.2.2.2.1 BD.out.2.1 BD.out.2.2.2 EE.out.2.2.2.2.2.1)
    go_simp
    refine C.out.mono ?_;rintro r u2_ ⟨hd,hb⟩;obtain ⟨pa,pc,rfl,hN⟩:=hd.shp14;clear hd;have BD2:=qsd (ai (BD.out.1.below hb) (ai (BD.out.2.1.below hb) (ai (BD.out.2.2.1.below hb) (ai (BD.out.2.2.2.below hb) hN))));have kS2:=qsd (ai (cb14 kS.out.1 hb) (ai (cb14 kS.out.2.1 hb) (ai (cb14 kS.out.2.2.1 hb) (ai (cb14 kS.out.2.2.2.1 hb) (ai (cb14 kS.out.2.2.2.2.1 hb) (cb14 kS.out.2.2.2.2.2 hb))))));clear hb hN C BD kS;have BD:=BD2;have kS:=kS2;clear BD2 kS2
    try dsimp only
    refine hK.out _ _ (fun _=>kS.out) ?_
    clear hK K'
    try simp only [Act.put,List.setIfInBounds_toArray,List.set_cons_zero,List.set_cons_succ]
    refine until_one (i:=6) (by kernel_rfl) rfl (fun K' hK=>?_)
    go_simp
    refine hK.out _ _ (fun _=>kS.out) ?_
    clear hK K'
    try simp only [Act.put,List.setIfInBounds_toArray,List.set_cons_zero,List.set_cons_succ]
    obtain ⟨e1,f1,e2,f2,e3,f3,e4,f4,e5,f5,BL,_⟩:=BD.out.1.m;have y1:=BL.cell 7 _ rfl;have yf1:=BL.frozen 7;have y2:=BL.cell 8 _ rfl;have yf2:=BL.frozen 8;have y3:=BL.cell 9 _ rfl;have yf3:=BL.frozen 9;obtain ⟨Y2,hY⟩:∃ U,U=((u2_.setCell ⟨gS,7,none⟩ (.bool (dN pXX))).setCell ⟨gS,8,none⟩ (.slice pa (ws (dX pXX)).length pc)).setCell ⟨gS,9,none⟩ (.int .i64 (dE pXX)):=⟨_,rfl⟩;have S3:Aside (Q19 w Y2 g4 gS g7 g9 n pX pY pXX oXY oYY oa ob):=by rw [hY];exact BD.out.1.set2 BD.out.2.2.2.2
    have HY:=qsd hY;clear hY BL;refine until_one (i:=7) (by kernel_rfl) rfl (fun K' hK=>?_)
    go_simp
    refine hK.out _ _ (fun h=>absurd h (by decide)) ?_
    clear hK K' y1 y2 y3 yf1 yf2 yf3 kS BD;refine until_done (by kernel_rfl) ?_ _
    go_upto_region 10 with fail
    rw [←HY.out];clear HY;obtain ⟨a1,c1,a2,c2,a3,c3,a4,c4,a5,c5,BL,n1,n2,n3,n4,n5⟩:=S3.out.m;obtain ⟨aA,cA,Da,Na⟩:=S3.out.a;obtain ⟨aB,cB,Db,Nb⟩:=S3.out.b;have BD:Aside (Q19 w Y2.drew g4 gS g7 g9 n pX pY pXX oXY oYY oa ob∧Nt 0 Y2.drew (.slice a4 (ws (dX oXY)).length c4) (dX oXY)∧Nt 0 Y2.drew (.slice aA (ws (dX oa)).length cA) (dX oa)∧Nt 0 Y2.drew (.slice aB (ws (dX ob)).length cB) (dX ob)):=⟨S3.out.below (Below.refl _ _).drew,n4.below (Below.refl _ _).drew,Na.below (Below.refl _ _).drew,Nb.below (Below.refl _ _).drew⟩;have kS:Aside (Y2.drew.cell? ⟨gS,10,none⟩=some (.bool (dN oXY))∧Y2.drew.cell? ⟨gS,11,none⟩=some (.slice a4 (ws (dX oXY)).length c4)∧Y2.drew.cell? ⟨gS,12,none⟩=some (.int .i64 (dE oXY))∧Y2.drew.cell? ⟨g7,0,none⟩=some (.bool (dN oa))∧Y2.drew.cell? ⟨g7,1,none⟩=some (.slice aA (ws (dX oa)).length cA)∧Y2.drew.cell? ⟨g7,2,none⟩=some (.int .i64 (dE oa))∧Y2.drew.cell? ⟨g9,0,none⟩=some (.bool (dN ob))∧Y2.drew.cell? ⟨g9,1,none⟩=some (.slice aB (ws (dX ob)).length cB)∧Y2.drew.cell? ⟨g9,2,none⟩=some (.int .i64 (dE ob))):=⟨(BL.below (Below.refl _ _).drew BL.lt).cell 10 _ rfl,(BL.below (Below.refl _ _).drew BL.lt).cell 11 _ rfl,(BL.below (Below.refl _ _).drew BL.lt).cell 12 _ rfl,(Da.below (Below.refl _ _).drew).facts.1,(Da.below (Below.refl _ _).drew).facts.2.1,(Da.below (Below.refl _ _).drew).facts.2.2.1,(Db.below (Below.refl _ _).drew).facts.1,(Db.below (Below.refl _ _).drew).facts.2.1,(Db.below (Below.refl _ _).drew).facts.2.2.1⟩;clear BL n1 n2 n3 n4 n5 S3 Da Na Db Nb;refine until_region (fun w'=>w'.cell? ⟨gS,10,none⟩=some (.bool (dN oXY))∧w'.cell? ⟨gS,11,none⟩=some (.slice a4 (ws (dX oXY)).length c4)∧w'.cell? ⟨gS,12,none⟩=some (.int .i64 (dE oXY))∧w'.cell? ⟨g7,0,none⟩=some (.bool (dN oa))∧w'.cell? ⟨g7,1,none⟩=some (.slice aA (ws (dX oa)).length cA)∧w'.cell? ⟨g7,2,none⟩=some (.int .i64 (dE oa))∧w'.cell? ⟨g9,0,none⟩=some (.bool (dN ob))∧w'.cell? ⟨g9,1,none⟩=some (.slice aB (ws (dX ob)).length cB)∧w'.cell? ⟨g9,2,none⟩=some (.int .i64 (dE ob))) 7 (by kernel_rfl) ?_
    obtain ⟨Wd,hWd⟩:∃ Vq,Vq=Y2.drew:=⟨_,rfl⟩;rw [←hWd] at BD kS ⊢;clear hWd;refine until_take (i:=0) [1,5] (v:=?_) rfl (by kernel_rfl) (by kernel_rfl) (by kernel_rfl) (by kernel_rfl) (by kernel_rfl) (fun _ _ _ h=>h) (Or.inl ⟨by rfl,?_⟩) kS.out ?_
    rotate_left
    · intro u hSu
      try dsimp only at hSu
      first | (go_simp;done) | (go_simp;with_reducible rfl)
    try simp only [Act.put,List.setIfInBounds_toArray,List.set_cons_zero,List.set_cons_succ]
    refine until_take (i:=1) [5] (v:=?_) rfl (by kernel_rfl) (by kernel_rfl) (by kernel_rfl) (by kernel_rfl) (by kernel_rfl) (fun _ _ _ h=>h) (Or.inl ⟨by rfl,?_⟩) kS.out ?_
    rotate_left
    · intro u hSu
      try dsimp only at hSu
      first | (go_simp;done) | (go_simp;with_reducible rfl)
    try simp only [Act.put,List.setIfInBounds_toArray,List.set_cons_zero,List.set_cons_succ]
    refine until_take (i:=2) [4,5] (v:=?_) rfl (by kernel_rfl) (by kernel_rfl) (by kernel_rfl) (by kernel_rfl) (by kernel_rfl) (fun _ _ _ h=>h) (Or.inl ⟨by rfl,?_⟩) kS.out ?_
    rotate_left
    · intro u hSu
      try dsimp only at hSu
      first | (go_simp;done) | (go_simp;with_reducible rfl)
    try simp only [Act.put,List.setIfInBounds_toArray,List.set_cons_zero,List.set_cons_succ]
    refine until_take (i:=3) [4,5] (v:=?_) rfl (by kernel_rfl) (by kernel_rfl) (by kernel_rfl) (by kernel_rfl) (by kernel_rfl) (fun _ _ _ h=>h) (Or.inl ⟨by rfl,?_⟩) kS.out ?_
    rotate_left
    · intro u hSu
      try dsimp only at hSu
      first | (go_simp;done) | (go_simp;with_reducible rfl)
    try simp only [Act.put,List.setIfInBounds_toArray,List.set_cons_zero,List.set_cons_succ]
    refine until_one (i:=4) (by kernel_rfl) rfl (fun K' hK=>?_)
    have C:=hid (rtimes19 FF.out.2.2.2.2.2.2.2.2.2.2.1 FF.out.2.2.2.2.2.2.2.2.2.2.2.1 FF.out.2.2.2.2.2.2.2.2.2.2.2.2.2.1 BD.out.2.2.1 BD.out.2.2.2 EE.out.2.1)
    go_simp
    refine C.out.mono ?_;rintro r u1_ ⟨hd,hb⟩;obtain ⟨ma,mc,rfl,hN⟩:=hd.shp14;clear hd;have BD2:=qsd (ai (BD.out.1.below hb) (ai (BD.out.2.1.below hb) (ai (BD.out.2.2.1.below hb) (ai (BD.out.2.2.2.below hb) hN))));have kS2:=qsd (ai (cb14 kS.out.1 hb) (ai (cb14 kS.out.2.1 hb) (ai (cb14 kS.out.2.2.1 hb) (ai (cb14 kS.out.2.2.2.1 hb) (ai (cb14 kS.out.2.2.2.2.1 hb) (ai (cb14 kS.out.2.2.2.2.2.1 hb) (ai (cb14 kS.out.2.2.2.2.2.2.1 hb) (ai (cb14 kS.out.2.2.2.2.2.2.2.1 hb) (cb14 kS.out.2.2.2.2.2.2.2.2 hb)))))))));clear hb hN C BD kS;have BD:=BD2;have kS:=kS2;clear BD2 kS2
    try dsimp only
    refine hK.out _ _ (fun _=>kS.out) ?_
    clear hK K'
    try simp only [Act.put,List.setIfInBounds_toArray,List.set_cons_zero,List.set_cons_succ]
    refine until_one (i:=5) (by kernel_rfl) rfl (fun K' hK=>?_)
    have C:=hid (rplus19 FF.out.2.2.2.1 FF.out.2.2.2.2.2.2.2.2.2.2.2.2.2.1 FF.out.2.2.2.2.2.2.2.2.1 BD.out.2.1 BD.out.2.2.2.2 EE.out.2.2.2.2.2.2.1)
    go_simp
    refine C.out.mono ?_;rintro r u2_ ⟨hd,hb⟩;obtain ⟨pa,pc,rfl,hN⟩:=hd.shp14;clear hd;have BD2:=qsd (ai (BD.out.1.below hb) (ai (BD.out.2.1.below hb) (ai (BD.out.2.2.1.below hb) (ai (BD.out.2.2.2.1.below hb) (ai (BD.out.2.2.2.2.below hb) hN)))));have kS2:=qsd (ai (cb14 kS.out.1 hb) (ai (cb14 kS.out.2.1 hb) (ai (cb14 kS.out.2.2.1 hb) (ai (cb14 kS.out.2.2.2.1 hb) (ai (cb14 kS.out.2.2.2.2.1 hb) (ai (cb14 kS.out.2.2.2.2.2.1 hb) (ai (cb14 kS.out.2.2.2.2.2.2.1 hb) (ai (cb14 kS.out.2.2.2.2.2.2.2.1 hb) (cb14 kS.out.2.2.2.2.2.2.2.2 hb)))))))));clear hb hN C BD kS;have BD:=BD2;have kS:=kS2;clear BD2 kS2
    try dsimp only
    refine hK.out _ _ (fun _=>kS.out) ?_
    clear hK K'
    try simp only [Act.put,List.setIfInBounds_toArray,List.set_cons_zero,List.set_cons_succ]
    refine until_one (i:=6) (by kernel_rfl) rfl (fun K' hK=>?_)
    go_simp
    refine hK.out _ _ (fun _=>kS.out) ?_
    clear hK K'
    try simp only [Act.put,List.setIfInBounds_toArray,List.set_cons_zero,List.set_cons_succ]
    obtain ⟨e1,f1,e2,f2,e3,f3,e4,f4,e5,f5,BL,_⟩:=BD.out.1.m;have y1:=BL.cell 10 _ rfl;have yf1:=BL.frozen 10;have y2:=BL.cell 11 _ rfl;have yf2:=BL.frozen 11;have y3:=BL.cell 12 _ rfl;have yf3:=BL.frozen 12;obtain ⟨Y3,hY⟩:∃ U,U=((u2_.setCell ⟨gS,10,none⟩ (.bool (dN pXY))).setCell ⟨gS,11,none⟩ (.slice pa (ws (dX pXY)).length pc)).setCell ⟨gS,12,none⟩ (.int .i64 (dE pXY)):=⟨_,rfl⟩;have S4:Aside (Q19 w Y3 g4 gS g7 g9 n pX pY pXX pXY oYY oa ob):=by rw [hY];exact BD.out.1.set3 BD.out.2.2.2.2.2
    have HY:=qsd hY;clear hY BL;refine until_one (i:=7) (by kernel_rfl) rfl (fun K' hK=>?_)
    go_simp
    refine hK.out _ _ (fun h=>absurd h (by decide)) ?_
    clear hK K' y1 y2 y3 yf1 yf2 yf3 kS BD;refine until_done (by kernel_rfl) ?_ _
    go_upto_region 11 with fail
    rw [←HY.out];clear HY;obtain ⟨a1,c1,a2,c2,a3,c3,a4,c4,a5,c5,BL,n1,n2,n3,n4,n5⟩:=S4.out.m;obtain ⟨aB,cB,Db,Nb⟩:=S4.out.b;have BD:Aside (Q19 w Y3.drew g4 gS g7 g9 n pX pY pXX pXY oYY oa ob∧Nt 0 Y3.drew (.slice a5 (ws (dX oYY)).length c5) (dX oYY)∧Nt 0 Y3.drew (.slice aB (ws (dX ob)).length cB) (dX ob)):=⟨S4.out.below (Below.refl _ _).drew,n5.below (Below.refl _ _).drew,Nb.below (Below.refl _ _).drew⟩;have kS:Aside (Y3.drew.cell? ⟨gS,13,none⟩=some (.bool (dN oYY))∧Y3.drew.cell? ⟨gS,14,none⟩=some (.slice a5 (ws (dX oYY)).length c5)∧Y3.drew.cell? ⟨gS,15,none⟩=some (.int .i64 (dE oYY))∧Y3.drew.cell? ⟨g9,0,none⟩=some (.bool (dN ob))∧Y3.drew.cell? ⟨g9,1,none⟩=some (.slice aB (ws (dX ob)).length cB)∧Y3.drew.cell? ⟨g9,2,none⟩=some (.int .i64 (dE ob))):=⟨(BL.below (Below.refl _ _).drew BL.lt).cell 13 _ rfl,(BL.below (Below.refl _ _).drew BL.lt).cell 14 _ rfl,(BL.below (Below.refl _ _).drew BL.lt).cell 15 _ rfl,(Db.below (Below.refl _ _).drew).facts.1,(Db.below (Below.refl _ _).drew).facts.2.1,(Db.below (Below.refl _ _).drew).facts.2.2.1⟩;clear BL n1 n2 n3 n4 n5 S4 Db Nb;refine until_region (fun w'=>w'.cell? ⟨gS,13,none⟩=some (.bool (dN oYY))∧w'.cell? ⟨gS,14,none⟩=some (.slice a5 (ws (dX oYY)).length c5)∧w'.cell? ⟨gS,15,none⟩=some (.int .i64 (dE oYY))∧w'.cell? ⟨g9,0,none⟩=some (.bool (dN ob))∧w'.cell? ⟨g9,1,none⟩=some (.slice aB (ws (dX ob)).length cB)∧w'.cell? ⟨g9,2,none⟩=some (.int .i64 (dE ob))) 7 (by kernel_rfl) ?_
    obtain ⟨Wd,hWd⟩:∃ Vq,Vq=Y3.drew:=⟨_,rfl⟩;rw [←hWd] at BD kS ⊢;clear hWd;refine until_take (i:=0) [1,5] (v:=?_) rfl (by kernel_rfl) (by kernel_rfl) (by kernel_rfl) (by kernel_rfl) (by kernel_rfl) (fun _ _ _ h=>h) (Or.inl ⟨by rfl,?_⟩) kS.out ?_
    rotate_left
    · intro u hSu
      try dsimp only at hSu
      first | (go_simp;done) | (go_simp;with_reducible rfl)
    try simp only [Act.put,List.setIfInBounds_toArray,List.set_cons_zero,List.set_cons_succ]
    refine until_take (i:=1) [5] (v:=?_) rfl (by kernel_rfl) (by kernel_rfl) (by kernel_rfl) (by kernel_rfl) (by kernel_rfl) (fun _ _ _ h=>h) (Or.inl ⟨by rfl,?_⟩) kS.out ?_
    rotate_left
    · intro u hSu
      try dsimp only at hSu
      first | (go_simp;done) | (go_simp;with_reducible rfl)
    try simp only [Act.put,List.setIfInBounds_toArray,List.set_cons_zero,List.set_cons_succ]
    refine until_take (i:=2) [4,5] (v:=?_) rfl (by kernel_rfl) (by kernel_rfl) (by kernel_rfl) (by kernel_rfl) (by kernel_rfl) (fun _ _ _ h=>h) (Or.inl ⟨by rfl,?_⟩) kS.out ?_
    rotate_left
    · intro u hSu
      try dsimp only at hSu
      first | (go_simp;done) | (go_simp;with_reducible rfl)
    try simp only [Act.put,List.setIfInBounds_toArray,List.set_cons_zero,List.set_cons_succ]
    refine until_take (i:=3) [4,5] (v:=?_) rfl (by kernel_rfl) (by kernel_rfl) (by kernel_rfl) (by kernel_rfl) (by kernel_rfl) (fun _ _ _ h=>h) (Or.inl ⟨by rfl,?_⟩) kS.out ?_
    rotate_left
    · intro u hSu
      try dsimp only at hSu
      first | (go_simp;done) | (go_simp;with_reducible rfl)
    try simp only [Act.put,List.setIfInBounds_toArray,List.set_cons_zero,List.set_cons_succ]
    refine until_one (i:=4) (by kernel_rfl) rfl (fun K' hK=>?_)
    have C:=hid (rtimes19 FF.out.2.2.2.2.2.2.2.2.2.2.2.1 FF.out.2.2.2.2.2.2.2.2.2.2.2.1 FF.out.2.2.2.2.2.2.2.2.2.2.2.2.2.2 BD.out.2.2 BD.out.2.2 EE.out.2.2.1)
    go_simp
    refine C.out.mono ?_;rintro r u1_ ⟨hd,hb⟩;obtain ⟨ma,mc,rfl,hN⟩:=hd.shp14;clear hd;have BD2:=qsd (ai (BD.out.1.below hb) (ai (BD.out.2.1.below hb) (ai (BD.out.2.2.below hb) hN)));have kS2:=qsd (ai (cb14 kS.out.1 hb) (ai (cb14 kS.out.2.1 hb) (ai (cb14 kS.out.2.2.1 hb) (ai (cb14 kS.out.2.2.2.1 hb) (ai (cb14 kS.out.2.2.2.2.1 hb) (cb14 kS.out.2.2.2.2.2 hb))))));clear hb hN C BD kS;have BD:=BD2;have kS:=kS2;clear BD2 kS2
    try dsimp only
    refine hK.out _ _ (fun _=>kS.out) ?_
    clear hK K'
    try simp only [Act.put,List.setIfInBounds_toArray,List.set_cons_zero,List.set_cons_succ]
    refine until_one (i:=5) (by kernel_rfl) rfl (fun K' hK=>?_)
    have C:=hid (rplus19 FF.out.2.2.2.2.1 FF.out.2.2.2.2.2.2.2.2.2.2.2.2.2.2 FF.out.2.2.2.2.2.2.2.2.2.1 BD.out.2.1 BD.out.2.2.2 EE.out.2.2.2.2.2.2.2)
    go_simp
    refine C.out.mono ?_;rintro r u2_ ⟨hd,hb⟩;obtain ⟨pa,pc,rfl,hN⟩:=hd.shp14;clear hd;have BD2:=qsd (ai (BD.out.1.below hb) (ai (BD.out.2.1.below hb) (ai (BD.out.2.2.1.below hb) (ai (BD.out.2.2.2.below hb) hN))));have kS2:=qsd (ai (cb14 kS.out.1 hb) (ai (cb14 kS.out.2.1 hb) (ai (cb14 kS.out.2.2.1 hb) (ai (cb14 kS.out.2.2.2.1 hb) (ai (cb14 kS.out.2.2.2.2.1 hb) (cb14 kS.out.2.2.2.2.2 hb))))));clear hb hN C BD kS;have BD:=BD2;have kS:=kS2;clear BD2 kS2
    try dsimp only
    refine hK.out _ _ (fun _=>kS.out) ?_
    clear hK K'
    try simp only [Act.put,List.setIfInBounds_toArray,List.set_cons_zero,List.set_cons_succ]
    refine until_one (i:=6) (by kernel_rfl) rfl (fun K' hK=>?_)
    go_simp
    refine hK.out _ _ (fun _=>kS.out) ?_
    clear hK K'
    try simp only [Act.put,List.setIfInBounds_toArray,List.set_cons_zero,List.set_cons_succ]
    obtain ⟨e1,f1,e2,f2,e3,f3,e4,f4,e5,f5,BL,_⟩:=BD.out.1.m;have y1:=BL.cell 13 _ rfl;have yf1:=BL.frozen 13;have y2:=BL.cell 14 _ rfl;have yf2:=BL.frozen 14;have y3:=BL.cell 15 _ rfl;have yf3:=BL.frozen 15;obtain ⟨Y4,hY⟩:∃ U,U=((u2_.setCell ⟨gS,13,none⟩ (.bool (dN pYY))).setCell ⟨gS,14,none⟩ (.slice pa (ws (dX pYY)).length pc)).setCell ⟨gS,15,none⟩ (.int .i64 (dE pYY)):=⟨_,rfl⟩;have S5:Aside (Q19 w Y4 g4 gS g7 g9 n pX pY pXX pXY pYY oa ob):=by rw [hY];exact BD.out.1.set4 BD.out.2.2.2.2
    have HY:=qsd hY;clear hY BL;refine until_one (i:=7) (by kernel_rfl) rfl (fun K' hK=>?_)
    go_simp
    refine hK.out _ _ (fun h=>absurd h (by decide)) ?_
    clear hK K' y1 y2 y3 yf1 yf2 yf3 kS BD;refine until_done (by kernel_rfl) ?_ _
    go_upto_region 4 with fail
    rw [←HY.out];clear HY;have hkb:k<4611686018427387904:=by omega
    have HS:Aside (P19 w Y4 g4 gS n pX pY pXX pXY pYY):=⟨S5.out.m,S5.out.z,S5.out.bel,S5.out.ord.1,S5.out.ord.2.1⟩;clear S5;go_wp2
    go_roundg (gk-1)
    case measure=>omega
    case rel=>exact ⟨k+1,by omega,by first | rfl | simp,by rw [←HP.out.1,←HP.out.2.1,←HP.out.2.2.1,←HP.out.2.2.2.1,←HP.out.2.2.2.2];exact HS.out⟩
  · obtain rfl:k=n:=by omega
    have hd:¬ k<k:=by omega
    obtain ⟨a1,c1,a2,c2,a3,c3,a4,c4,a5,c5,BL,n1,n2,n3,n4,n5⟩:=HA.out.m;have y0:=BL.cell 0 _ rfl;have y1:=BL.cell 1 _ rfl;have y2:=BL.cell 2 _ rfl;have y3:=BL.cell 3 _ rfl;have y4:=BL.cell 4 _ rfl;have y5:=BL.cell 5 _ rfl;have y6:=BL.cell 6 _ rfl;have y7:=BL.cell 7 _ rfl;have y8:=BL.cell 8 _ rfl;have y9:=BL.cell 9 _ rfl;have y10:=BL.cell 10 _ rfl;have y11:=BL.cell 11 _ rfl;have y12:=BL.cell 12 _ rfl;have y13:=BL.cell 13 _ rfl;have y14:=BL.cell 14 _ rfl;have y15:=BL.cell 15 _ rfl;have z0:=HA.out.z.cell 0 _ rfl;have zf0:=HA.out.z.frozen 0;have z1:=HA.out.z.cell 1 _ rfl;have zf1:=HA.out.z.frozen 1;have z2:=HA.out.z.cell 2 _ rfl;have zf2:=HA.out.z.frozen 2;have z3:=HA.out.z.cell 3 _ rfl;have zf3:=HA.out.z.frozen 3;have z4:=HA.out.z.cell 4 _ rfl;have zf4:=HA.out.z.frozen 4;have z5:=HA.out.z.cell 5 _ rfl;have zf5:=HA.out.z.frozen 5;have z6:=HA.out.z.cell 6 _ rfl;have zf6:=HA.out.z.frozen 6;have z7:=HA.out.z.cell 7 _ rfl;have zf7:=HA.out.z.frozen 7;have z8:=HA.out.z.cell 8 _ rfl;have zf8:=HA.out.z.frozen 8;have z9:=HA.out.z.cell 9 _ rfl;have zf9:=HA.out.z.frozen 9;have z10:=HA.out.z.cell 10 _ rfl;have zf10:=HA.out.z.frozen 10;have z11:=HA.out.z.cell 11 _ rfl;have zf11:=HA.out.z.frozen 11;have z12:=HA.out.z.cell 12 _ rfl;have zf12:=HA.out.z.frozen 12;have z13:=HA.out.z.cell 13 _ rfl;have zf13:=HA.out.z.frozen 13;have z14:=HA.out.z.cell 14 _ rfl;have zf14:=HA.out.z.frozen 14;have z15:=HA.out.z.cell 15 _ rfl;have zf15:=HA.out.z.frozen 15;have hbt:But g4 wr _:=(((((((((((((((((But.refl g4 wr).set 0 (.int .i64 (k:Nat))).set 1 (.bool (dN (X k)))).set 2 (.slice a1 (ws (dX (X k))).length c1)).set 3 (.int .i64 (dE (X k)))).set 4 (.bool (dN (Y k)))).set 5 (.slice a2 (ws (dX (Y k))).length c2)).set 6 (.int .i64 (dE (Y k)))).set 7 (.bool (dN (XX k)))).set 8 (.slice a3 (ws (dX (XX k))).length c3)).set 9 (.int .i64 (dE (XX k)))).set 10 (.bool (dN (XY k)))).set 11 (.slice a4 (ws (dX (XY k))).length c4)).set 12 (.int .i64 (dE (XY k)))).set 13 (.bool (dN (YY k)))).set 14 (.slice a5 (ws (dX (YY k))).length c5)).set 15 (.int .i64 (dE (YY k))));have BE:=qsd (ai ((((((((((((((((HA.out.z.set 0 (.int .i64 (k:Nat))).set 1 (.bool (dN (X k)))).set 2 (.slice a1 (ws (dX (X k))).length c1)).set 3 (.int .i64 (dE (X k)))).set 4 (.bool (dN (Y k)))).set 5 (.slice a2 (ws (dX (Y k))).length c2)).set 6 (.int .i64 (dE (Y k)))).set 7 (.bool (dN (XX k)))).set 8 (.slice a3 (ws (dX (XX k))).length c3)).set 9 (.int .i64 (dE (XX k)))).set 10 (.bool (dN (XY k)))).set 11 (.slice a4 (ws (dX (XY k))).length c4)).set 12 (.int .i64 (dE (XY k)))).set 13 (.bool (dN (YY k)))).set 14 (.slice a5 (ws (dX (YY k))).length c5)).set 15 (.int .i64 (dE (YY k)))) (ai (But.below HA.out.bel hbt HA.out.bel.size HA.out.ord.1) (ai (n1.off hbt (n1.notin (by decide) HA.out.z)) (ai (n2.off hbt (n2.notin (by decide) HA.out.z)) (ai (n3.off hbt (n3.notin (by decide) HA.out.z)) (ai (n4.off hbt (n4.notin (by decide) HA.out.z)) (n5.off hbt (n5.notin (by decide) HA.out.z))))))))
    clear hbt BL n1 n2 n3 n4 n5 HA;go_wp2;refine bodyPost_ret (v:=.agg #[.int .i64 (k:Nat),.bool (dN (X k)),.slice a1 (ws (dX (X k))).length c1,.int .i64 (dE (X k)),.bool (dN (Y k)),.slice a2 (ws (dX (Y k))).length c2,.int .i64 (dE (Y k)),.bool (dN (XX k)),.slice a3 (ws (dX (XX k))).length c3,.int .i64 (dE (XX k)),.bool (dN (XY k)),.slice a4 (ws (dX (XY k))).length c4,.int .i64 (dE (XY k)),.bool (dN (YY k)),.slice a5 (ws (dX (YY k))).length c5,.int .i64 (dE (YY k))]) (row_result Tryz.results32 _ _ g4 [.int .i64 (k:Nat),.bool (dN (X k)),.slice a1 (ws (dX (X k))).length c1,.int .i64 (dE (X k)),.bool (dN (Y k)),.slice a2 (ws (dX (Y k))).length c2,.int .i64 (dE (Y k)),.bool (dN (XX k)),.slice a3 (ws (dX (XX k))).length c3,.int .i64 (dE (XX k)),.bool (dN (XY k)),.slice a4 (ws (dX (XY k))).length c4,.int .i64 (dE (XY k)),.bool (dN (YY k)),.slice a5 (ws (dX (YY k))).length c5,.int .i64 (dE (YY k))] ?_ BE.out.1 row_sums19 (by rw [size_sums19];rfl)) rfl ⟨⟨_,rfl,a1,c1,a2,c2,a3,c3,a4,c4,a5,c5,rfl,BE.out.2.2⟩,BE.out.2.1⟩
    rfl
end
section
open Go Go.RowKit J
theorem rOf19 {xs ys:List Nat}(G:Gd xs ys) (a b:Option Addr) (n c d:Nat) (w:World) (hn:n=xs.length) (hF:Fs w.heap.size w a xs) (hG:Fs w.heap.size w b ys) :
 Calls Tryz.prog 32 #[.slice a n c,.slice b n d] w fun r w'=>(∃ v,r=.returned v∧Sv19 w' v n (gV 1074 (zS fvW xs)) (gV 1074 (zS fvW ys)) (gV 2148 (pS xs xs)) (gV 2148 (pS xs ys)) (gV 2148 (pS ys ys)))∧Below w.heap.size w w':=by
 have hm:n=ys.length:=by rw [hn];exact G.len
 have hle:=G.le;have bx:∀ k,Bd 2114 (zS fvW (xs.take k)):=fun k=>fS_bd19 (fun x hx=>G.x64 x (List.mem_of_mem_take hx)) (fun x hx=>G.xf x (List.mem_of_mem_take hx)) (by rw [List.length_take];omega)
 have bY:∀ k,Bd 2114 (zS fvW (ys.take k)):=fun k=>fS_bd19 (fun x hx=>G.y64 x (List.mem_of_mem_take hx)) (fun x hx=>G.yf x (List.mem_of_mem_take hx)) (by rw [List.length_take];omega)
 have fx:∀ k,k<n→Bd 2098 (fvW (xs.getD k 0)):=fun k hk=>by
  have h:k<xs.length:=by omega
  rw [←getD_at xs k h];exact fv_bd (G.x64 _ (List.getElem_mem h)) (G.xf _ (List.getElem_mem h))
 have fy:∀ k,k<n→Bd 2098 (fvW (ys.getD k 0)):=fun k hk=>by
  have h:k<ys.length:=by omega
  rw [←getD_at ys k h];exact fv_bd (G.y64 _ (List.getElem_mem h)) (G.yf _ (List.getElem_mem h))
 have bxx:∀ k,Bd 4212 (zS (fun x=>fvW x*fvW x) (xs.take k)):=fun k=>zS_bd (m:=4196) (fun x hx=>(fv_bd (G.x64 x (List.mem_of_mem_take hx)) (G.xf x (List.mem_of_mem_take hx))).mul (fv_bd (G.x64 x (List.mem_of_mem_take hx)) (G.xf x (List.mem_of_mem_take hx)))) (by rw [List.length_take];omega)
 have byy:∀ k,Bd 4212 (zS (fun x=>fvW x*fvW x) (ys.take k)):=fun k=>zS_bd (m:=4196) (fun x hx=>(fv_bd (G.y64 x (List.mem_of_mem_take hx)) (G.yf x (List.mem_of_mem_take hx))).mul (fv_bd (G.y64 x (List.mem_of_mem_take hx)) (G.yf x (List.mem_of_mem_take hx)))) (by rw [List.length_take];omega)
 have bxy:∀ k,Bd 4212 (zS (fun p:Nat×Nat=>fvW p.1*fvW p.2) ((xs.zip ys).take k)):=fun k=>zS_bd (m:=4196) (fun p hp=>by
  have hp:=List.of_mem_zip (List.mem_of_mem_take hp);exact (fv_bd (G.x64 _ hp.1) (G.xf _ hp.1)).mul (fv_bd (G.y64 _ hp.2) (G.yf _ hp.2))) (by rw [List.length_take,List.length_zip];omega)
 have C:=rOf19_core xs ys (fun k=>gV 1074 (zS fvW (xs.take k))) (fun k=>gV 1074 (zS fvW (ys.take k))) (fun k=>gV 2148 (zS (fun x=>fvW x*fvW x) (xs.take k))) (fun k=>gV 2148 (zS (fun p:Nat×Nat=>fvW p.1*fvW p.2) ((xs.zip ys).take k))) (fun k=>gV 2148 (zS (fun x=>fvW x*fvW x) (ys.take k)))
  (fun k=>gV 1074 (fvW (xs.getD k 0))) (fun k=>gV 1074 (fvW (ys.getD k 0))) (fun k=>gV 2148 (fvW (xs.getD k 0)*fvW (xs.getD k 0))) (fun k=>gV 2148 (fvW (xs.getD k 0)*fvW (ys.getD k 0))) (fun k=>gV 2148 (fvW (ys.getD k 0)*fvW (ys.getD k 0))) a b n c d w hn hm (by omega) hF hG
  ⟨fun k _=>⟨gf (bx k),gf (bY k),gf (bxx k),gf (bxy k),gf (byy k)⟩,fun k hk=>⟨gf (fx k hk),gf (fy k hk),gf ((fx k hk).mul (fx k hk)),gf ((fx k hk).mul (fy k hk)),gf ((fy k hk).mul (fy k hk))⟩,fun k hk=>⟨gm (fx k hk) (fx k hk),gm (fx k hk) (fy k hk),gm (fy k hk) (fy k hk)⟩,fun k hk=>?_,⟨g_zero _,g_zero _,g_zero _,g_zero _,g_zero _⟩,fun k hk u=>?_⟩
 · have e1:xs.take n=xs:=List.take_of_length_le (by omega)
   have e2:ys.take n=ys:=List.take_of_length_le (by omega)
   have e3:(xs.zip ys).take n=xs.zip ys:=List.take_of_length_le (by rw [List.length_zip];omega)
   simp only [e1,e2,e3] at C;rw [pS_self,pS_self];exact C
 · have h1:k<xs.length:=by omega
   have h2:k<ys.length:=by omega
   have h3:k<(xs.zip ys).length:=by rw [List.length_zip];omega
   have z3:(xs.zip ys)[k]=(xs.getD k 0,ys.getD k 0):=by rw [List.getElem_zip,getD_at xs k h1,getD_at ys k h2]
   try simp only
   rw [zS_takeR fvW xs k h1,zS_takeR fvW ys k h2,zS_takeR _ xs k h1,zS_takeR _ ys k h2,zS_takeR _ (xs.zip ys) k h3,z3,getD_at xs k h1,getD_at ys k h2];exact ⟨ga (m:=2114) (bx k) ((fx k hk).mono (by omega)),ga (m:=2114) (bY k) ((fy k hk).mono (by omega)),ga (m:=4212) (bxx k) (((fx k hk).mul (fx k hk)).mono (by omega)),ga (m:=4212) (bxy k) (((fx k hk).mul (fy k hk)).mono (by omega)),ga (m:=4212) (byy k) (((fy k hk).mul (fy k hk)).mono (by omega))⟩
 · have h1:k<xs.length:=by omega
   have h2:k<ys.length:=by omega
   refine ⟨?_,?_⟩
   · exact rof12 (x:=xs.getD k 0) (by rw [←getD_at xs k h1];exact G.x64 _ (List.getElem_mem h1)) (by rw [←getD_at xs k h1];exact G.xf _ (List.getElem_mem h1)) u
   · exact rof12 (x:=ys.getD k 0) (by rw [←getD_at ys k h2];exact G.y64 _ (List.getElem_mem h2)) (by rw [←getD_at ys k h2];exact G.yf _ (List.getElem_mem h2)) u
end
section
open Go Go.RowKit J
theorem len_zero19 {o:Option (Bool×Nat×Int)}:((ws (dX o)).length==0)=decide (dX o=0):=by
 by_cases h:dX o=0
 · rw [h,ws_zero];simp
 · have:(ws (dX o)).length≠0:=fun q=>h (by have:=val_ws (dX o);rw [List.eq_nil_of_length_eq_zero q] at this;simpa [val] using this.symm)
   simp [h,this]
theorem rThrough_no {w:World}{a b:Option Addr}{n m c d:Nat}(mode E:Int) (hE:E≠0) (HA:Hid (∀ u:World,Below w.heap.size w u→Calls Tryz.prog 31 #[.slice a n c,.slice b m d,.int .i64 mode,.int .i64 1] u fun r w'=>r=.returned (.int .i64 E)∧Below u.heap.size u w')) :
 Calls Tryz.prog 18 #[.slice a n c,.slice b m d,.int .i64 mode] w fun r w'=>r=.returned (.tuple #[.float .f64 0,.int .i64 E])∧Below w.heap.size w w':=by
 have hE2:(E==0)=false:=by simp [hE]
 clear hE;have C:=hid (HA.out w (Below.refl _ _));clear HA;go_enter Tryz.func18,Tryz.ntmps18
 go_wp2_with fail
 refine C.out.mono ?_;clear C;rintro r u ⟨rfl,hb⟩;have B1:=qsd hb;clear hb;have C:=hid (rOf10z u)
 go_wp2_with fail
 refine C.out.mono ?_;clear C;rintro r v ⟨rfl,hv⟩;rw [hv];clear hv;go_wp2;exact bodyPost_ret (v:=.tuple #[.float .f64 0,.int .i64 E]) (by simp [results,Tryz.results18,go_sem]) rfl ⟨rfl,B1.out⟩
theorem rThrough_flat {w:World}{a b:Option Addr}{n m c d:Nat}{oX oY oXX oXY oYY:Option (Bool×Nat×Int)}(mode:Int) (hD:dX oXX=0) (HA:Hid (∀ u:World,Below w.heap.size w u→Calls Tryz.prog 31 #[.slice a n c,.slice b m d,.int .i64 mode,.int .i64 1] u fun r w'=>r=.returned (.int .i64 0)∧Below u.heap.size u w')) (HS:Hid (∀ u:World,Below w.heap.size w u→Calls Tryz.prog 32 #[.slice a n c,.slice b m d] u fun r w'=>(∃ v,r=.returned v∧Sv19 w' v n oX oY oXX oXY oYY)∧Below u.heap.size u w')) :
 Calls Tryz.prog 18 #[.slice a n c,.slice b m d,.int .i64 mode] w fun r w'=>r=.returned (.tuple #[.float .f64 0,.int .i64 190])∧Below w.heap.size w w':=by
 have hl:=len_zero19 (o:=oXX);rw [decide_eq_true hD] at hl;clear hD;have C:=hid (HA.out w (Below.refl _ _));clear HA;go_enter Tryz.func18,Tryz.ntmps18
 go_wp2_with fail
 refine C.out.mono ?_;clear C;rintro r u ⟨rfl,hb⟩;have B1:=qsd hb;clear hb;have C:=hid (HS.out u B1.out);clear HS
 go_wp2_with fail
 refine C.out.mono ?_;clear C;rintro r u2 ⟨⟨v,rfl,hv⟩,hb⟩;obtain ⟨a1,c1,a2,c2,a3,c3,a4,c4,a5,c5,rfl,n1,n2,n3,n4,n5⟩:=hv;obtain ⟨U,hU⟩:∃ U,U=u2.alloc (Obj.cells #[.int .i64 (n:Nat),.bool (dN oX),.slice a1 (ws (dX oX)).length c1,.int .i64 (dE oX),.bool (dN oY),.slice a2 (ws (dX oY)).length c2,.int .i64 (dE oY),.bool (dN oXX),.slice a3 (ws (dX oXX)).length c3,.int .i64 (dE oXX),.bool (dN oXY),.slice a4 (ws (dX oXY)).length c4,.int .i64 (dE oXY),.bool (dN oYY),.slice a5 (ws (dX oYY)).length c5,.int .i64 (dE oYY)] 60):=⟨_,rfl⟩;obtain ⟨g,hg⟩:∃ g,g=u2.heap.size:=⟨_,rfl⟩
 have B2:Aside (Bl U g 60 [.int .i64 (n:Nat),.bool (dN oX),.slice a1 (ws (dX oX)).length c1,.int .i64 (dE oX),.bool (dN oY),.slice a2 (ws (dX oY)).length c2,.int .i64 (dE oY),.bool (dN oXX),.slice a3 (ws (dX oXX)).length c3,.int .i64 (dE oXX),.bool (dN oXY),.slice a4 (ws (dX oXY)).length c4,.int .i64 (dE oXY),.bool (dN oYY),.slice a5 (ws (dX oYY)).length c5,.int .i64 (dE oYY)]∧Below w.heap.size w U∧Nt 0 U (.slice a1 (ws (dX oX)).length c1) (dX oX)∧Nt 0 U (.slice a2 (ws (dX oY)).length c2) (dX oY)∧Nt 0 U (.slice a3 (ws (dX oXX)).length c3) (dX oXX)∧Nt 0 U (.slice a4 (ws (dX oXY)).length c4) (dX oXY)∧Nt 0 U (.slice a5 (ws (dX oYY)).length c5) (dX oYY)):=by
  rw [hU,hg];exact ⟨Bl.new _ 60 [.int .i64 (n:Nat),.bool (dN oX),.slice a1 (ws (dX oX)).length c1,.int .i64 (dE oX),.bool (dN oY),.slice a2 (ws (dX oY)).length c2,.int .i64 (dE oY),.bool (dN oXX),.slice a3 (ws (dX oXX)).length c3,.int .i64 (dE oXX),.bool (dN oXY),.slice a4 (ws (dX oXY)).length c4,.int .i64 (dE oXY),.bool (dN oYY),.slice a5 (ws (dX oYY)).length c5,.int .i64 (dE oYY)],(B1.out.trans (hb.mono B1.out.size)).trans ((bel_alloc _ _).mono (Nat.le_trans B1.out.size hb.size)),n1.below (below_alloc _ _),n2.below (below_alloc _ _),n3.below (below_alloc _ _),n4.below (below_alloc _ _),n5.below (below_alloc _ _)⟩
 have HU:=(qsd (ai hU hg));clear hU hg hb B1 n1 n2 n3 n4 n5
 go_upto_region 5 with fail
 rw [←HU.out.1,←HU.out.2];clear HU;have hl2:(ws (dX oXX)).length=0:=by simpa using hl
 have HL:=qsd hl2;obtain ⟨ll,hll⟩:∃ l,l=(ws (dX oXX)).length:=⟨_,rfl⟩;have y7:=B2.out.1.cell 7 _ rfl;have y8:=B2.out.1.cell 8 _ rfl;have y9:=B2.out.1.cell 9 _ rfl;have C:=hid (rOf10z U)
 go_wp2_with fail
 refine C.out.mono ?_;clear C;rintro r v ⟨rfl,hv⟩;rw [hv];clear hv;go_wp2;exact bodyPost_ret (v:=.tuple #[.float .f64 0,.int .i64 190]) (by simp [results,Tryz.results18,go_sem]) rfl ⟨rfl,B2.out.2.1⟩
theorem rThrough_ok {w:World}{a b:Option Addr}{n m c d:Nat}{oX oY oXX oXY oYY:Option (Bool×Nat×Int)}(mode:Int) (hD:dX oXX≠0) (FF:Aside (Fm oXX∧Fm oXY)) (HA:Hid (∀ u:World,Below w.heap.size w u→Calls Tryz.prog 31 #[.slice a n c,.slice b m d,.int .i64 mode,.int .i64 1] u fun r w'=>r=.returned (.int .i64 0)∧Below u.heap.size u w')) (HS:Hid (∀ u:World,Below w.heap.size w u→Calls Tryz.prog 32 #[.slice a n c,.slice b m d] u fun r w'=>(∃ v,r=.returned v∧Sv19 w' v n oX oY oXX oXY oYY)∧Below u.heap.size u w')) :
 Calls Tryz.prog 18 #[.slice a n c,.slice b m d,.int .i64 mode] w fun r w'=>r=.returned (.tuple #[.float .f64 (qR19 oXY oXX mode).1,.int .i64 0])∧Below w.heap.size w w':=by
 have hl:=len_zero19 (o:=oXX);rw [decide_eq_false hD] at hl;clear hD;have C:=hid (HA.out w (Below.refl _ _));clear HA;go_enter Tryz.func18,Tryz.ntmps18
 go_wp2_with fail
 refine C.out.mono ?_;clear C;rintro r u ⟨rfl,hb⟩;have B1:=qsd hb;clear hb;have C:=hid (HS.out u B1.out);clear HS
 go_wp2_with fail
 refine C.out.mono ?_;clear C;rintro r u2 ⟨⟨v,rfl,hv⟩,hb⟩;obtain ⟨a1,c1,a2,c2,a3,c3,a4,c4,a5,c5,rfl,n1,n2,n3,n4,n5⟩:=hv;obtain ⟨U,hU⟩:∃ U,U=u2.alloc (Obj.cells #[.int .i64 (n:Nat),.bool (dN oX),.slice a1 (ws (dX oX)).length c1,.int .i64 (dE oX),.bool (dN oY),.slice a2 (ws (dX oY)).length c2,.int .i64 (dE oY),.bool (dN oXX),.slice a3 (ws (dX oXX)).length c3,.int .i64 (dE oXX),.bool (dN oXY),.slice a4 (ws (dX oXY)).length c4,.int .i64 (dE oXY),.bool (dN oYY),.slice a5 (ws (dX oYY)).length c5,.int .i64 (dE oYY)] 60):=⟨_,rfl⟩;obtain ⟨g,hg⟩:∃ g,g=u2.heap.size:=⟨_,rfl⟩
 have B2:Aside (Bl U g 60 [.int .i64 (n:Nat),.bool (dN oX),.slice a1 (ws (dX oX)).length c1,.int .i64 (dE oX),.bool (dN oY),.slice a2 (ws (dX oY)).length c2,.int .i64 (dE oY),.bool (dN oXX),.slice a3 (ws (dX oXX)).length c3,.int .i64 (dE oXX),.bool (dN oXY),.slice a4 (ws (dX oXY)).length c4,.int .i64 (dE oXY),.bool (dN oYY),.slice a5 (ws (dX oYY)).length c5,.int .i64 (dE oYY)]∧Below w.heap.size w U∧Nt 0 U (.slice a1 (ws (dX oX)).length c1) (dX oX)∧Nt 0 U (.slice a2 (ws (dX oY)).length c2) (dX oY)∧Nt 0 U (.slice a3 (ws (dX oXX)).length c3) (dX oXX)∧Nt 0 U (.slice a4 (ws (dX oXY)).length c4) (dX oXY)∧Nt 0 U (.slice a5 (ws (dX oYY)).length c5) (dX oYY)):=by
  rw [hU,hg];exact ⟨Bl.new _ 60 [.int .i64 (n:Nat),.bool (dN oX),.slice a1 (ws (dX oX)).length c1,.int .i64 (dE oX),.bool (dN oY),.slice a2 (ws (dX oY)).length c2,.int .i64 (dE oY),.bool (dN oXX),.slice a3 (ws (dX oXX)).length c3,.int .i64 (dE oXX),.bool (dN oXY),.slice a4 (ws (dX oXY)).length c4,.int .i64 (dE oXY),.bool (dN oYY),.slice a5 (ws (dX oYY)).length c5,.int .i64 (dE oYY)],(B1.out.trans (hb.mono B1.out.size)).trans ((bel_alloc _ _).mono (Nat.le_trans B1.out.size hb.size)),n1.below (below_alloc _ _),n2.below (below_alloc _ _),n3.below (below_alloc _ _),n4.below (below_alloc _ _),n5.below (below_alloc _ _)⟩
 have HU:=(qsd (ai hU hg));clear hU hg hb B1 n1 n2 n3 n4 n5
 go_upto_region 5 with fail
 rw [←HU.out.1,←HU.out.2];clear HU;have hl2:¬ (ws (dX oXX)).length=0:=by simpa using hl
 have y7:=B2.out.1.cell 7 _ rfl;have y8:=B2.out.1.cell 8 _ rfl;have y9:=B2.out.1.cell 9 _ rfl;have y10:=B2.out.1.cell 10 _ rfl;have y11:=B2.out.1.cell 11 _ rfl;have y12:=B2.out.1.cell 12 _ rfl;have C:=hid (rby19 mode FF.out.2 FF.out.1 B2.out.2.2.2.2.2.1 B2.out.2.2.2.2.1);obtain ⟨Q,hQ⟩:∃ Q,Q=(qR19 oXY oXX mode).1:=⟨_,rfl⟩
 go_wp2_with fail
 refine C.out.mono ?_;clear C;rintro r v ⟨rfl,hv⟩;have BE:=qsd (B2.out.2.1.trans (hv.mono B2.out.2.1.size));clear hv B2 y7 y8 y9 y10 y11 y12;go_wp2;exact bodyPost_ret (v:=.tuple #[.float .f64 _,.int .i64 0]) (by simp [results,Tryz.results18,go_sem]) rfl ⟨rfl,BE.out⟩
theorem rThrough19 (xs ys:List Nat) (a b:Option Addr) (n m c d:Nat) (mode:Int) (w:World) (hn:n=xs.length) (hm:m=ys.length) (hF:Fs w.heap.size w a xs) (hF2:Fs w.heap.size w b ys) (hW:W64 xs) (hV:W64 ys) :
 Calls Tryz.prog 18 #[.slice a n c,.slice b m d,.int .i64 mode] w fun r w'=>r=.returned (.tuple #[.float .f64 (thR xs ys mode).1,.int .i64 (thR xs ys mode).2])∧Below w.heap.size w w':=by
 have hs:∀ u:World,Below w.heap.size w u→Fs u.heap.size u a xs:=fun u hu=>(hF.below hu).mono hu.size
 have hs2:∀ u:World,Below w.heap.size w u→Fs u.heap.size u b ys:=fun u hu=>(hF2.below hu).mono hu.size
 have HA:∀ u:World,Below w.heap.size w u→Calls Tryz.prog 31 #[.slice a n c,.slice b m d,.int .i64 mode,.int .i64 1] u fun r w'=>r=.returned (.int .i64 (amE xs ys [] mode 1))∧Below u.heap.size u w' :=
  fun u hu=>rrefused19 xs ys a b n m c d mode 1 u hn hm (by omega) (hs u hu) (hs2 u hu) hW hV
 unfold thR
 by_cases hE:amE xs ys [] mode 1=0
 · rw [if_neg (by simpa using hE)]
   rw [hE] at HA;obtain ⟨G,h0,h4,h2,_⟩:=am_ok hW hV hE;have hnm:n=m:=by rw [hn,hm];exact G.len
   have HS:=hid (fun (u:World) (hu:Below w.heap.size w u)=>rOf19 G a b n c d u hn (hs u hu) (hs2 u hu))
   subst hnm
   by_cases hD:pS xs xs=0
   · rw [if_pos hD]
     exact rThrough_flat mode ((gz G.xx).2 hD) (hid HA) HS
   · rw [if_neg hD]
     exact rThrough_ok mode (fun h=>hD ((gz G.xx).1 h)) ⟨gf G.xx,gf G.xy⟩ (hid HA) HS
 · rw [if_pos hE]
   exact rThrough_no mode _ hE (hid HA)
end
section
open Go Go.RowKit J
open Go.Proofs.YthbojklefojalaaGreatDoor.B (f64bits f64frombits)
attribute [local go_sem] Ps.st_floatP f64bits f64frombits
theorem live19 (w:World) (hT:Tab w):Calls Tryz.prog 8 #[] w fun r w'=>r=.returned (.bool true)∧Below w.heap.size w w':=by
 have o0:(FloatKind.f64.format.order 4602678819172646912 4602678819172646912==some .eq)=true:=by decide +kernel
 have o1:(FloatKind.f64.format.order 4604930618986332160 4604930618986332160==some .eq)=true:=by decide +kernel
 have o2:(FloatKind.f64.format.order 4609434218613702656 4609434218613702656==some .eq)=true:=by decide +kernel
 have o3:(FloatKind.f64.format.order 4626604192193052672 4626604192193052672==some .eq)=true:=by decide +kernel
 obtain ⟨Q2,Q4,hq⟩:=live_line;have HQ:=qsd hq;have HT:=qsd hT;clear hq hT;obtain ⟨V1,hV1⟩:∃ V,V=(w.alloc (Obj.cells #[.float .f64 0,.float .f64 4607182418800017408,.float .f64 4611686018427387904] 25)).alloc (Obj.cells #[.float .f64 0,.float .f64 4607182418800017408,.float .f64 4607182418800017408] 25):=⟨_,rfl⟩;obtain ⟨ga1,hga1⟩:∃ g,g=w.heap.size:=⟨_,rfl⟩;obtain ⟨gb1,hgb1⟩:∃ g,g=w.heap.size+1:=⟨_,rfl⟩
 have BV1:Aside (Below w.heap.size w V1∧Fs V1.heap.size V1 (some ⟨ga1,0,none⟩) [0,4607182418800017408,4611686018427387904]∧Fs V1.heap.size V1 (some ⟨gb1,0,none⟩) [0,4607182418800017408,4607182418800017408]):=by
  have z1:=lit19 w [0,4607182418800017408,4611686018427387904] ga1 hga1;have z2:=lit19 (w.alloc (Obj.cells #[.float .f64 0,.float .f64 4607182418800017408,.float .f64 4611686018427387904] 25)) [0,4607182418800017408,4607182418800017408] gb1 (by rw [hgb1];simp)
  rw [hV1];exact ⟨(bel_alloc _ _).trans ((bel_alloc _ _).mono (by simp)),(z1.below (bel_alloc _ _)).mono (by simp),z2⟩
 have HV1:=(qsd (ai hV1 (ai hga1 hgb1)));clear hV1 hga1 hgb1;have C:=hid (Line19z [0,4607182418800017408,4611686018427387904] [0,4607182418800017408,4607182418800017408] (some ⟨ga1,0,none⟩) (some ⟨gb1,0,none⟩) 3 3 3 3 0 V1 rfl rfl BV1.out.2.1 BV1.out.2.2 (by unfold W64;decide) (by unfold W64;decide) (HT.out.belows BV1.out.1) HQ.out)
 go_enter Tryz.func8,Tryz.ntmps8
 go_wp2_with fail
 rw [←HV1.out.1]
 try rw [←HV1.out.2.2]
 try rw [←HV1.out.2.1]
 clear HV1;refine C.out.mono ?_;clear C;rintro r u1 ⟨rfl,hb⟩;obtain ⟨U1,hU1⟩:∃ U,U=u1.alloc (Obj.cells #[.int .i64 3,.float .f64 4602678819172646912,.float .f64 Q2,.float .f64 4604930618986332160,.float .f64 Q4] 27):=⟨_,rfl⟩;obtain ⟨g1,hg1⟩:∃ g,g=u1.heap.size:=⟨_,rfl⟩
 have B1:Aside (Below w.heap.size w U1∧Bl U1 g1 27 [.int .i64 3,.float .f64 4602678819172646912,.float .f64 Q2,.float .f64 4604930618986332160,.float .f64 Q4]):=by
  rw [hU1,hg1];exact ⟨(BV1.out.1.trans (hb.mono BV1.out.1.size)).trans ((bel_alloc _ _).mono (Nat.le_trans BV1.out.1.size hb.size)),Bl.new _ 27 [.int .i64 3,.float .f64 4602678819172646912,.float .f64 Q2,.float .f64 4604930618986332160,.float .f64 Q4]⟩
 have HU1:=(qsd (ai hU1 hg1));clear hU1 hg1 hb BV1;obtain ⟨V2,hV2⟩:∃ V,V=(U1.alloc (Obj.cells #[.float .f64 4611686018427387904] 25)).alloc (Obj.cells #[.float .f64 4613937818241073152] 25):=⟨_,rfl⟩;obtain ⟨ga2,hga2⟩:∃ g,g=U1.heap.size:=⟨_,rfl⟩;obtain ⟨gb2,hgb2⟩:∃ g,g=U1.heap.size+1:=⟨_,rfl⟩
 have BV2:Aside (Below w.heap.size w V2∧Fs V2.heap.size V2 (some ⟨ga2,0,none⟩) [4611686018427387904]∧Fs V2.heap.size V2 (some ⟨gb2,0,none⟩) [4613937818241073152]):=by
  have z1:=lit19 U1 [4611686018427387904] ga2 hga2;have z2:=lit19 (U1.alloc (Obj.cells #[.float .f64 4611686018427387904] 25)) [4613937818241073152] gb2 (by rw [hgb2];simp)
  rw [hV2];exact ⟨(B1.out.1.trans ((bel_alloc _ _).mono B1.out.1.size)).trans ((bel_alloc _ _).mono (by simp;have:=B1.out.1.size;omega)),(z1.below (bel_alloc _ _)).mono (by simp),z2⟩
 have HV2:=(qsd (ai hV2 (ai hga2 hgb2)));clear hV2 hga2 hgb2;have C:=hid (Through19z [4611686018427387904] [4613937818241073152] (some ⟨ga2,0,none⟩) (some ⟨gb2,0,none⟩) 1 1 1 1 0 V2 rfl rfl BV2.out.2.1 BV2.out.2.2 (by unfold W64;decide) (by unfold W64;decide) (HT.out.belows BV2.out.1) live_through)
 have B2:Aside (Bl V2 g1 27 [.int .i64 3,.float .f64 4602678819172646912,.float .f64 Q2,.float .f64 4604930618986332160,.float .f64 Q4]):=by rw [HV2.out.1];exact (B1.out.2.alloc _).alloc _
 go_upto_region 2 with fail
 rw [←HU1.out.1,←HU1.out.2];clear HU1 B1
 go_wp2_with fail
 rw [←HV2.out.1]
 try rw [←HV2.out.2.2]
 try rw [←HV2.out.2.1]
 clear HV2;refine C.out.mono ?_;clear C;rintro r u2 ⟨rfl,hb⟩;have B3:=qsd (ai (BV2.out.1.trans (hb.mono BV2.out.1.size)) (B2.out.below hb B2.out.lt));clear hb BV2 B2;obtain ⟨V3,hV3⟩:∃ V,V=(u2.alloc (Obj.cells #[.float .f64 0,.float .f64 4607182418800017408,.float .f64 4611686018427387904] 25)).alloc (Obj.cells #[.float .f64 4607182418800017408,.float .f64 4613937818241073152,.float .f64 4617315517961601024] 25):=⟨_,rfl⟩;obtain ⟨ga3,hga3⟩:∃ g,g=u2.heap.size:=⟨_,rfl⟩;obtain ⟨gb3,hgb3⟩:∃ g,g=u2.heap.size+1:=⟨_,rfl⟩
 have BV3:Aside (Below w.heap.size w V3∧Fs V3.heap.size V3 (some ⟨ga3,0,none⟩) [0,4607182418800017408,4611686018427387904]∧Fs V3.heap.size V3 (some ⟨gb3,0,none⟩) [4607182418800017408,4613937818241073152,4617315517961601024]):=by
  have z1:=lit19 u2 [0,4607182418800017408,4611686018427387904] ga3 hga3;have z2:=lit19 (u2.alloc (Obj.cells #[.float .f64 0,.float .f64 4607182418800017408,.float .f64 4611686018427387904] 25)) [4607182418800017408,4613937818241073152,4617315517961601024] gb3 (by rw [hgb3];simp)
  rw [hV3];exact ⟨(B3.out.1.trans ((bel_alloc _ _).mono B3.out.1.size)).trans ((bel_alloc _ _).mono (by simp;have:=B3.out.1.size;omega)),(z1.below (bel_alloc _ _)).mono (by simp),z2⟩
 have HV3:=(qsd (ai hV3 (ai hga3 hgb3)));clear hV3 hga3 hgb3;have C:=hid (At19z [0,4607182418800017408,4611686018427387904] [4607182418800017408,4613937818241073152,4617315517961601024] 4621819117588971520 (some ⟨ga3,0,none⟩) (some ⟨gb3,0,none⟩) 3 3 3 3 0 V3 rfl rfl BV3.out.2.1 BV3.out.2.2 (by unfold W64;decide) (by unfold W64;decide) (by decide) (HT.out.belows BV3.out.1) live_at)
 have B4:Aside (Bl V3 g1 27 [.int .i64 3,.float .f64 4602678819172646912,.float .f64 Q2,.float .f64 4604930618986332160,.float .f64 Q4]):=by rw [HV3.out.1];exact (B3.out.2.alloc _).alloc _
 clear B3
 go_wp2_with fail
 rw [←HV3.out.1]
 try rw [←HV3.out.2.2]
 try rw [←HV3.out.2.1]
 clear HV3;refine C.out.mono ?_;clear C;rintro r u3 ⟨rfl,hb⟩;have B5:=qsd (ai (BV3.out.1.trans (hb.mono BV3.out.1.size)) (B4.out.below hb B4.out.lt));clear hb BV3 B4;have z0:=B5.out.2.cell 0 _ rfl;have z1:=B5.out.2.cell 1 _ rfl;have z3:=B5.out.2.cell 3 _ rfl;go_wp2;exact bodyPost_ret (v:=.bool true) (by simp [results,Tryz.results8,go_sem]) rfl ⟨rfl,B5.out.1⟩
end
section
open Go Go.RowKit J
open Go.Proofs.YthbojklefojalaaGreatDoor.B (f64bits f64frombits)
attribute [local go_sem] Ps.st_floatP f64bits f64frombits
theorem exact_self19 (x:Nat) (w:World):Calls Tryz.prog 16 #[.float .f64 x,.float .f64 x] w fun r w'=>r=.returned (.bool true)∧w'=w:=by
 have:=exact19 x x w;rw [decide_eq_true rfl] at this;exact this
end
section
open Go.ChangeShapes Go.WideShapes Go.ChangeAt Go.RowKit
theorem trodF {H:Type}{enc:TypeId×Value→H}{P:Program}{w:World}{base:Nat}{spare:Nat→Bool}{held:Bool}{fuel:Nat}{t:TypeId}{cs:List Value}{x:DataW H×List MemPlace}{k:FloatKind}(ht:P.underlying t=some (.float k)) (h:DataW.trod enc P w base spare held fuel t cs=some x):∃ n,cs=[.float k n]∧x=(.lit (.float k n),[])∧(Lit.float k n).wf=true:=by
 cases fuel with
 | zero=>simp [DataW.trod] at h
 | succ m =>
   simp only [DataW.trod,ht] at h
   split at h <;> simp_all
structure CameF (w:World) (a:Option Addr) (n c:Nat) (xs:List Nat):Prop where
 len:n=xs.length
 cap:n≤c
 wf:W64 xs
 rd:Fs w.heap.size w a xs
 nil:a=none→c=0
theorem add_noneF (b off i:Nat):(⟨b,off,none⟩:Addr).add i=⟨b,off+i,none⟩:=by unfold Addr.add;split <;> simp_all
def numF {H:Type} (y:DataW H×List MemPlace):Nat:=match y.1 with | .lit (.float _ n)=>n | _=>0
theorem Tryz.cellsF:Tryz.prog.cellsOf 25=1:=by kernel_rfl
theorem Tryz.bytesF:Tryz.prog.bytesOf 25=8:=by kernel_rfl
theorem cameF_of {H:Type}{enc:TypeId×Value→H}{W:World}{a:Option Addr}{n c:Nat}{d:DataW H}{p:List MemPlace}(h:DataW.Trod enc Tryz.prog W 0 (fun _=>true) true 22 (.slice a n c) d p) :
 ∃ xs,CameF W a n c xs∧((d=.nil∧c=0)∨∃ elems spare:List (DataW H),d=.slice elems spare∧elems.length+spare.length=c):=by
 obtain ⟨fuel,hf⟩:=h
 rcases DataW.trod_slice Tryz.underlying22 hf with ⟨hcs,hx⟩|⟨x,l,cp,elems,rest,m,_,hcs,hx,hb,hl,hm,hlen,hel,hsp,hns⟩
 · simp [Value.cells] at hcs
   obtain ⟨rfl,rfl,rfl⟩:=hcs;exact ⟨[],⟨rfl,Nat.le_refl _,(fun x hx=>by cases hx),(fun h=>absurd rfl h),fun _=>rfl⟩,.inl ⟨(Prod.mk.inj hx).1,rfl⟩⟩
 · simp [Value.cells] at hcs
   obtain ⟨rfl,rfl,rfl⟩:=hcs
   have each:∀ i y,i<n→elems[i]?=some y→y=(.lit (.float .f64 (numF y)),[])∧(Lit.float .f64 (numF y)).wf=true∧W.cell? (x.add i)=some (.float .f64 (numF y)):=by
    intro i y hi hy;have hb':=hel i hi;rw [hy,Tryz.cellsF,Nat.mul_one,Option.bind_eq_some_iff] at hb';obtain ⟨cs',hcs,hy'⟩:=hb';obtain ⟨k,rfl,rfl,hw⟩:=trodF Tryz.underlying25 hy';exact ⟨rfl,hw,cell_of_cells?_one hcs⟩
   refine ⟨elems.map numF,⟨by simp [hlen],hl,?_,?_,fun e=>by cases e⟩,.inr ⟨_,_,(Prod.mk.inj hx).1,?_⟩⟩
   · intro y hy
     obtain ⟨z,hz,rfl⟩:=List.mem_map.1 hy;obtain ⟨i,hi⟩:=List.getElem?_of_mem hz;have hil:=(List.getElem?_eq_some_iff.1 hi).1;have:=(each i z (by omega) hi).2.1
     exact of_decide_eq_true this
   · intro hne
     obtain ⟨b,off,spot⟩:=x
     have hn0:0<n:=by
      rcases Nat.eq_zero_or_pos n with h0|h0
      · rw [h0] at hlen;have:=List.eq_nil_of_length_eq_zero hlen;subst this;simp at hne
      · exact h0
     have hc0:=(each 0 (elems[0]'(by omega)) hn0 (List.getElem?_eq_getElem _)).2.2
     have hspot:spot=none:=by simpa [Addr.add] using World.cell?_spot hc0
     subst hspot;refine ⟨b,off,World.block_lt_of_cell? W _ (by simpa [Addr.add] using hc0),rfl,fun i hi=>?_⟩
     rw [List.length_map] at hi;have hadd:=add_noneF b off i;have:=(each i (elems[i]'hi) (by omega) (List.getElem?_eq_getElem _)).2.2
     rw [hadd] at this;rw [this];simp [List.getD_eq_getElem?_getD,hi]
   · have hr:=(hsp rfl).1
     simp only [List.length_map];omega
theorem cameF_reach {H:Type}{ts:List TypeId}{ds:List (DataW H)}(h:(DataW.weightsEach Tryz.prog ts ds).all (·≤reachBytes)=true) {j:Nat}{d:DataW H}{c n:Nat}(ht:ts[j]?=some 22) (hd:ds[j]?=some d) (hn:n≤c)
 (hc:(d=.nil∧c=0)∨∃ elems spare:List (DataW H),d=.slice elems spare∧elems.length+spare.length=c):n≤17592186043904:=by
 rcases hc with ⟨_,rfl⟩|⟨elems,spare,rfl,hl⟩
 · omega
 · have:=sized_slice h ht hd Tryz.underlying22
   rw [Tryz.bytesF,hl] at this;simp only [reachBytes] at this;omega
end
section
open Go.RowKit J
attribute [local go_sem] Ps.st_floatP
theorem OwnF.be19 {w w':World}{g:Nat}{L:List Nat}(h:OwnF w g L) (hb:Below w.heap.size w w'):OwnF w' g L:=by
 have hl:=h.lt;unfold OwnF at *;rw [hb.block g hl];exact h
theorem lent_fs {w:World}{g:Nat}{xs:List Nat}(h:OwnF w g (xs++List.replicate 8 mrk10)):Fs w.heap.size w (some ⟨g,0,none⟩) xs:=by
 have:=h.fs (B:=w.heap.size) h.lt xs.length;rw [List.take_left'] at this
 · exact this
 · rfl
theorem walk_FitThrough (a b:Option Addr) (n m c d:Nat) (xs ys:List Nat) (mode:Int) (w:World) (hT:Tab w) (hC:CameF w a n c xs) (hm:n≤17592186043904) (hC2:CameF w b m d ys) (hm2:m≤17592186043904) :
 Calls Tryz.prog 5 #[.slice a n c,.slice b m d,.int .i64 mode] w fun r w'=>r=.returned (.bool true)∧Below w.heap.size w w':=by
 obtain ⟨hl1,hcap,hW1,hF1,_⟩:=hC;obtain ⟨hl2,hcap2,hW2,hF2,_⟩:=hC2;have HL:=hid (live19 w hT);obtain ⟨⟨v,E⟩,hz⟩:∃ z,thR xs ys mode=z:=⟨_,rfl⟩;have K1:Hid (∀ u:World,Below w.heap.size w u→Calls Tryz.prog 9 #[.slice a n c] u fun r w'=>r=.returned (.slice (some ⟨u.heap.size,0,none⟩) n (n+8))∧OwnF w' u.heap.size (xs++List.replicate 8 mrk10)∧Below u.heap.size u w'):=fun u hb=>rLent10 xs a n c u.heap.size u hl1 hm ((hF1.below hb).mono hb.size) (Nat.le_refl _)
 have K2:Hid (∀ u:World,Below w.heap.size w u→Calls Tryz.prog 9 #[.slice b m d] u fun r w'=>r=.returned (.slice (some ⟨u.heap.size,0,none⟩) m (m+8))∧OwnF w' u.heap.size (ys++List.replicate 8 mrk10)∧Below u.heap.size u w'):=fun u hb=>rLent10 ys b m d u.heap.size u hl2 hm2 ((hF2.below hb).mono hb.size) (Nat.le_refl _)
 have K3:Hid (∀ (u:World) (g1 g2:Nat),Below w.heap.size w u→OwnF u g1 (xs++List.replicate 8 mrk10)→OwnF u g2 (ys++List.replicate 8 mrk10)→Calls Tryz.prog 17 #[.slice (some ⟨g1,0,none⟩) n (n+8),.slice (some ⟨g2,0,none⟩) m (m+8),.int .i64 mode] u fun r w'=>r=.returned (.tuple #[.float .f64 v,.int .i64 E])∧Below u.heap.size u w'):=fun u g1 g2 hb o1 o2=>Through19z xs ys (some ⟨g1,0,none⟩) (some ⟨g2,0,none⟩) n m (n+8) (m+8) mode u hl1 hl2 (lent_fs o1) (lent_fs o2) hW1 hW2 (hT.belows hb) hz
 have K4:Hid (∀ (u:World) (g1:Nat),Below w.heap.size w u→OwnF u g1 (xs++List.replicate 8 mrk10)→Calls Tryz.prog 11 #[.slice (some ⟨g1,0,none⟩) n (n+8),.slice a n c] u fun r w'=>r=.returned (.bool true)∧Below u.heap.size u w'):=fun u g1 hb o1=>rAsLent10 xs a n c u.heap.size g1 u hl1 hm ((hF1.below hb).mono hb.size) (Nat.le_refl _) o1
 have K5:Hid (∀ (u:World) (g1:Nat),Below w.heap.size w u→OwnF u g1 (ys++List.replicate 8 mrk10)→Calls Tryz.prog 11 #[.slice (some ⟨g1,0,none⟩) m (m+8),.slice b m d] u fun r w'=>r=.returned (.bool true)∧Below u.heap.size u w'):=fun u g1 hb o1=>rAsLent10 ys b m d u.heap.size g1 u hl2 hm2 ((hF2.below hb).mono hb.size) (Nat.le_refl _) o1
 have K6:Hid (∀ u:World,Below w.heap.size w u→Calls Tryz.prog 18 #[.slice a n c,.slice b m d,.int .i64 mode] u fun r w'=>r=.returned (.tuple #[.float .f64 v,.int .i64 E])∧Below u.heap.size u w'):=fun u hb=>by
  have:=rThrough19 xs ys a b n m c d mode u hl1 hl2 ((hF1.below hb).mono hb.size) ((hF2.below hb).mono hb.size) hW1 hW2;rw [hz] at this;exact this
 clear hl1 hcap hW1 hF1 hl2 hcap2 hW2 hF2 hT hz hm hm2;go_enter Tryz.func5,Tryz.ntmps5
 go_wp2_with fail
 refine HL.out.mono ?_;rintro r u1 ⟨rfl,hb⟩;have B1:=qsd hb;have C:=hid (K1.out u1 hb);clear hb HL K1;obtain ⟨g1,hg1⟩:∃ g,g=u1.heap.size:=⟨_,rfl⟩;rw [←hg1] at C
 go_wp2_with fail
 refine C.out.mono ?_;clear C;rintro r u2 ⟨rfl,ho,hb⟩;rw [hg1] at hb;have B2:=qsd (ai (B1.out.trans (hb.mono B1.out.size)) ho);clear hb ho B1 hg1;have C:=hid (K2.out u2 B2.out.1);clear K2;obtain ⟨g2,hg2⟩:∃ g,g=u2.heap.size:=⟨_,rfl⟩;rw [←hg2] at C
 go_wp2_with fail
 refine C.out.mono ?_;clear C;rintro r u3 ⟨rfl,ho,hb⟩;rw [hg2] at hb;have B3:=qsd (ai (B2.out.1.trans (hb.mono B2.out.1.size)) (ai (B2.out.2.be19 hb) ho));clear hb ho B2 hg2;have C:=hid (K3.out u3 g1 g2 B3.out.1 B3.out.2.1 B3.out.2.2);clear K3
 go_wp2_with fail
 refine C.out.mono ?_;clear C;rintro r u4 ⟨rfl,hb⟩;have B4:=qsd (ai (B3.out.1.trans (hb.mono B3.out.1.size)) (ai (B3.out.2.1.be19 hb) (B3.out.2.2.be19 hb)));clear hb B3;have C:=hid (K4.out u4 g1 B4.out.1 B4.out.2.1);clear K4
 go_wp2_with fail
 refine C.out.mono ?_;clear C;rintro r u5 ⟨rfl,hb⟩;have B5:=qsd (ai (B4.out.1.trans (hb.mono B4.out.1.size)) (B4.out.2.2.be19 hb));clear hb B4;have C:=hid (K5.out u5 g2 B5.out.1 B5.out.2);clear K5
 go_wp2_with fail
 refine C.out.mono ?_;clear C;rintro r u6 ⟨rfl,hb⟩;have B6:=qsd (B5.out.1.trans (hb.mono B5.out.1.size));clear hb B5;have C:=hid (K6.out u6 B6.out);clear K6
 go_wp2_with fail
 refine C.out.mono ?_;clear C;rintro r u7 ⟨rfl,hb⟩;have B7:=qsd (B6.out.trans (hb.mono B6.out.size));clear hb B6;have C:=hid (exact_self19 v u7);have o1:(E==E)=true:=by simp
 go_wp2_with fail
 refine C.out.mono ?_;clear C;rintro r u8 ⟨rfl,hu⟩;rw [hu];clear hu u8;go_wp2;exact bodyPost_ret (v:=.bool true) (by simp [results,Tryz.results5,go_sem]) rfl ⟨rfl,B7.out⟩
end
end Go.Proofs.YthbojklefojalaaGreatDoor
