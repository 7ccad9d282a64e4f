import Derived.Test.YtblkpkgebigojaaGreatDoorZ46x
set_option linter.unusedVariables false
set_option linter.unusedSimpArgs false
set_option maxHeartbeats 16000000
set_option maxRecDepth 20000
namespace Go.Proofs.YtblkpkgebigojaaGreatDoor
namespace J
end J
section
open Go Go.RowKit J
theorem Jk {α:Type}(f:α→Int) (P:List α) (k:Nat) (hk:k<P.length):zS f (P.take (k+1))=zS f (P.take k)+f P[k]:=by
 rw [List.take_succ_eq_append_getElem hk];generalize P.take k=L
 induction L with
 | nil=>show f P[k]+0=0+f P[k];omega
 | cons x L ih=>show f x+zS f (L++[P[k]])=f x+zS f L+f P[k];rw [ih];omega
theorem Qz (xs:List Nat) (k:Nat) (hk:k<xs.length):xs[k]=xs.getD k 0:=by rw [List.getD_eq_getElem?_getD,List.getElem?_eq_getElem hk];rfl
theorem Zhy:∃ d:TypeDesc,Tryz.prog.underlying 70=some d∧d.isRow=true:=by
 have h:(Tryz.prog.underlying 70).any (·.isRow)=true:=by kernel_rfl
 cases hd:Tryz.prog.underlying 70 with
 | none=>rw [hd] at h;cases h
 | some d=>rw [hd] at h;exact ⟨d,rfl,h⟩
theorem Zfr:(Tryz.prog.info? 70).map (·.size)=some 16:=by kernel_rfl
def Zr6 (w:World) (v:Value) (n:Nat) (oX oY oXX oXY oYY:Option (Bool×Nat×Int)):Prop:=∃ a1 c1 a2 c2 a3 c3 a4 c4 a5 c5,v=.agg #[.int .i64 (n:Nat),.bool (dN oX),.slice a1 (ws (dX oX)).length c1,.int .i64 (dE oX),.bool (dN oY),.slice a2 (ws (dX oY)).length c2,.int .i64 (dE oY),.bool (dN oXX),.slice a3 (ws (dX oXX)).length c3,.int .i64 (dE oXX),.bool (dN oXY),.slice a4 (ws (dX oXY)).length c4,.int .i64 (dE oXY),.bool (dN oYY),.slice a5 (ws (dX oYY)).length c5,.int .i64 (dE oYY)]∧Nt 0 w (.slice a1 (ws (dX oX)).length c1) (dX oX)∧Nt 0 w (.slice a2 (ws (dX oY)).length c2) (dX oY)∧Nt 0 w (.slice a3 (ws (dX oXX)).length c3) (dX oXX)∧Nt 0 w (.slice a4 (ws (dX oXY)).length c4) (dX oXY)∧Nt 0 w (.slice a5 (ws (dX oYY)).length c5) (dX oYY)
structure Fk (n:Nat) (xs ys:List Nat) (X Y XX XY YY:Nat→Option (Bool×Nat×Int)) (A B AA AB BB:Nat→Option (Bool×Nat×Int)):Prop where
 f:∀ k,k≤n→Fm (X k)∧Fm (Y k)∧Fm (XX k)∧Fm (XY k)∧Fm (YY k)
 g:∀ k,k<n→Fm (A k)∧Fm (B k)∧Fm (AA k)∧Fm (AB k)∧Fm (BB k)
 m:∀ k,k<n→mulD (A k) (A k)=AA k∧mulD (A k) (B k)=AB k∧mulD (B k) (B k)=BB k
 s:∀ k,k<n→addD (X k) (A k)=X (k+1)∧addD (Y k) (B k)=Y (k+1)∧addD (XX k) (AA k)=XX (k+1)∧addD (XY k) (AB k)=XY (k+1)∧addD (YY k) (BB k)=YY (k+1)
 z:X 0=o00∧Y 0=o00∧XX 0=o00∧XY 0=o00∧YY 0=o00
 o:∀ k,k<n→∀ u:World,(Calls Tryz.prog 55 #[.float .f64 (xs.getD k 0)] u fun r w'=>(∃ v,r=.returned (.tuple #[.agg #[.bool (dN (A k)),v,.int .i64 (dE (A k))],.int .i64 0])∧Nt u.heap.size w' v (dX (A k)))∧Below u.heap.size u w') ∧
   (Calls Tryz.prog 55 #[.float .f64 (ys.getD k 0)] u fun r w'=>(∃ v,r=.returned (.tuple #[.agg #[.bool (dN (B k)),v,.int .i64 (dE (B k))],.int .i64 0])∧Nt u.heap.size w' v (dX (B k)))∧Below u.heap.size u w')
theorem Zhz (xs ys:List Nat) (X Y XX XY YY A B AA AB BB:Nat→Option (Bool×Nat×Int)) (a b:Option Addr) (n c d:Nat) (w:World) (hn:n=xs.length) (hm:n=ys.length) (hl:n≤65536) (hF:Fs w.heap.size w a xs) (hG:Fs w.heap.size w b ys) (H:Fk n xs ys X Y XX XY YY A B AA AB BB) :
 Calls Tryz.prog 42 #[.slice a n c,.slice b n d] w fun r w'=>(∃ v,r=.returned v∧Zr6 w' v n (X n) (Y n) (XX n) (XY n) (YY n))∧Below w.heap.size w w':=by
 obtain ⟨W,hW⟩:∃ W,W=(w.alloc (Obj.cells #[.int .i64 0,.bool false,.slice none 0 0,.int .i64 0,.bool false,.slice none 0 0,.int .i64 0,.bool false,.slice none 0 0,.int .i64 0,.bool false,.slice none 0 0,.int .i64 0,.bool false,.slice none 0 0,.int .i64 0] 70)).alloc (Obj.cells #[.int .i64 (n:Nat),.bool false,.slice none 0 0,.int .i64 0,.bool false,.slice none 0 0,.int .i64 0,.bool false,.slice none 0 0,.int .i64 0,.bool false,.slice none 0 0,.int .i64 0,.bool false,.slice none 0 0,.int .i64 0] 70):=⟨_,rfl⟩;obtain ⟨g4,hg4⟩:∃ g,g=w.heap.size:=⟨_,rfl⟩;obtain ⟨gS,hgS⟩:∃ g,g=w.heap.size+1:=⟨_,rfl⟩
 have B0:Aside (P19 w W g4 gS n (X 0) (Y 0) (XX 0) (XY 0) (YY 0)):=by
  rw [H.z.1,H.z.2.1,H.z.2.2.1,H.z.2.2.2.1,H.z.2.2.2.2];have z2:=Bl.new (w.alloc (Obj.cells #[.int .i64 0,.bool false,.slice none 0 0,.int .i64 0,.bool false,.slice none 0 0,.int .i64 0,.bool false,.slice none 0 0,.int .i64 0,.bool false,.slice none 0 0,.int .i64 0,.bool false,.slice none 0 0,.int .i64 0] 70)) 70 [.int .i64 (n:Nat),.bool false,.slice none 0 0,.int .i64 0,.bool false,.slice none 0 0,.int .i64 0,.bool false,.slice none 0 0,.int .i64 0,.bool false,.slice none 0 0,.int .i64 0,.bool false,.slice none 0 0,.int .i64 0];rw [World.size_alloc] at z2;refine ⟨⟨none,0,none,0,none,0,none,0,none,0,?_,?_,?_,?_,?_,?_⟩,?_,?_,?_⟩
  · rw [Zby,hW,hgS];exact z2
  · rw [Zby];exact Nt.nil _ _
  · rw [Zby];exact Nt.nil _ _
  · rw [Zby];exact Nt.nil _ _
  · rw [Zby];exact Nt.nil _ _
  · rw [Zby];exact Nt.nil _ _
  · rw [hW,hg4];exact (Bl.new _ 70 [.int .i64 0,.bool false,.slice none 0 0,.int .i64 0,.bool false,.slice none 0 0,.int .i64 0,.bool false,.slice none 0 0,.int .i64 0,.bool false,.slice none 0 0,.int .i64 0,.bool false,.slice none 0 0,.int .i64 0]).alloc _
  · rw [hW];exact (Zd _ _).trans ((Zd _ _).mono (by simp))
  · rw [hg4,hgS];omega
 have HW:=(qsd (ai hW (ai hg4 hgS)));have HX:=(qsd (ai hn (ai hm (ai hF hG))));have HH:=qsd H;clear hW hg4 hgS hn hm hF hG H;go_enter Tryz.func42,Tryz.ntmps42
 go_upto_region 2 with fail
 rw [←HW.out.1]
 try rw [←HW.out.2.2]
 try rw [←HW.out.2.1]
 clear HW;go_wp2
 go_loopg [6] n (fun gk iv wr=>∃ k:Nat,gk+k=n∧iv=.int .i64 (k:Nat)∧Aside (P19 w wr g4 gS n (X k) (Y k) (XX k) (XY k) (YY k)))
 case atStart=>exact ⟨0,by omega,by simp,B0.out⟩
 case round =>
  clear B0;obtain ⟨k,hgk,rfl,HA⟩:=hrel
  by_cases hk:k<n
  · obtain ⟨b1,off1,rfl,hc1⟩:=HX.out.2.2.1.at HA.out.bel k (by have:=HX.out.1;omega)
    obtain ⟨fx,fy,fxx,fxy,fyy⟩:=HH.out.f (k+1) (by omega)
    obtain ⟨ex,ey,exx,exy,eyy⟩:=HH.out.f k (by omega)
    obtain ⟨fa,fb,faa,fab,fbb⟩:=HH.out.g k hk;obtain ⟨maa,mab,mbb⟩:=HH.out.m k hk;obtain ⟨sx,sy,sxx,sxy,syy⟩:=HH.out.s k hk;have OC:Hid (∀ u:World,_∧_):=HH.out.o k hk;obtain ⟨z1,hz1⟩:∃ z,z=xs.getD k 0:=⟨_,rfl⟩;obtain ⟨z2,hz2⟩:∃ z,z=ys.getD k 0:=⟨_,rfl⟩;rw [←hz1] at hc1 OC;rw [←hz2] at OC;have HN1:Aside (∃ k':Nat,k'=k+1):=⟨_,rfl⟩;obtain ⟨oX,hoX⟩:∃ o,o=X k:=⟨_,rfl⟩;obtain ⟨oY,hoY⟩:∃ o,o=Y k:=⟨_,rfl⟩;obtain ⟨oXX,hoXX⟩:∃ o,o=XX k:=⟨_,rfl⟩;obtain ⟨oXY,hoXY⟩:∃ o,o=XY k:=⟨_,rfl⟩;obtain ⟨oYY,hoYY⟩:∃ o,o=YY k:=⟨_,rfl⟩;obtain ⟨pX,hpX⟩:∃ o,o=X (k+1):=⟨_,rfl⟩;obtain ⟨pY,hpY⟩:∃ o,o=Y (k+1):=⟨_,rfl⟩;obtain ⟨pXX,hpXX⟩:∃ o,o=XX (k+1):=⟨_,rfl⟩;obtain ⟨pXY,hpXY⟩:∃ o,o=XY (k+1):=⟨_,rfl⟩;obtain ⟨pYY,hpYY⟩:∃ o,o=YY (k+1):=⟨_,rfl⟩;obtain ⟨oa,hoa⟩:∃ o,o=A k:=⟨_,rfl⟩;obtain ⟨ob,hob⟩:∃ o,o=B k:=⟨_,rfl⟩;obtain ⟨oaa,hoaa⟩:∃ o,o=AA k:=⟨_,rfl⟩;obtain ⟨oab,hoab⟩:∃ o,o=AB k:=⟨_,rfl⟩;obtain ⟨obb,hobb⟩:∃ o,o=BB k:=⟨_,rfl⟩;rw [←hpX] at fx sx;rw [←hpY] at fy sy;rw [←hpXX] at fxx sxx;rw [←hpXY] at fxy sxy;rw [←hpYY] at fyy syy;rw [←hoX] at ex sx;rw [←hoY] at ey sy;rw [←hoXX] at exx sxx;rw [←hoXY] at exy sxy;rw [←hoYY] at eyy syy;rw [←hoa] at fa maa mab sx OC;rw [←hob] at fb mab mbb sy OC;rw [←hoaa] at faa maa sxx;rw [←hoab] at fab mab sxy;rw [←hobb] at fbb mbb syy;have HB:=HA;rw [←hoX,←hoY,←hoXX,←hoXY,←hoYY] at HB;have HP:=(qsd (ai hpX (ai hpY (ai hpXX (ai hpXY hpYY)))));have FF:=(qsd (ai ex (ai ey (ai exx (ai exy (ai eyy (ai fx (ai fy (ai fxx (ai fxy (ai fyy (ai fa (ai fb (ai faa (ai fab fbb)))))))))))))));have EE:=(qsd (ai maa (ai mab (ai mbb (ai sx (ai sy (ai sxx (ai sxy syy))))))));have HZ2:=(qsd (ai hz2 HX.out.2.2.2));clear HA hoX hoY hoXX hoXY hoYY hpX hpY hpXX hpXY hpYY hoa hob hoaa hoab hobb ex ey exx exy eyy fx fy fxx fxy fyy fa fb faa fab fbb maa mab mbb sx sy sxx sxy syy hz1 hz2 HN1;have C:=hid (OC.out wr).1
    go_wp2_with fail
    refine C.out.mono ?_;clear C hc1;rintro r u4 ⟨⟨v,rfl,hv⟩,hb⟩;obtain ⟨aP,cP,rfl,hN⟩:=Lo.shape FF.out.2.2.2.2.2.2.2.2.2.2.1 hv;obtain ⟨V1,hV1⟩:∃ U,U=u4.alloc (Obj.cells #[.bool (dN oa),.slice aP (ws (dX oa)).length cP,.int .i64 (dE oa)] 62):=⟨_,rfl⟩;obtain ⟨g7,hg7⟩:∃ g,g=u4.heap.size:=⟨_,rfl⟩
    have D1:Aside (P19 w V1 g4 gS n oX oY oXX oXY oYY∧Lo V1 g7 oa∧gS<g7):=by
     have hb2:Below wr.heap.size wr V1:=by rw [hV1];exact hb.trans ((Zd _ _).mono hb.size)
     refine ⟨HB.out.below hb2,?_,by rw [hg7];have:=HB.out.m.lt;have:=hb.size;omega⟩
     rw [hV1,hg7];exact Lo.new hN
    have HV1:=(qsd (ai hV1 hg7));clear hV1 hg7 hb hN hv HB;obtain ⟨b2,off2,rfl,hc2⟩:=HZ2.out.2.at D1.out.1.bel k (by have:=HX.out.2.1;omega)
    rw [←HZ2.out.1] at hc2;have C:=hid (OC.out V1).2;clear OC
    go_upto_region 6 with fail
    rw [←HV1.out.1,←HV1.out.2];clear HV1
    go_wp2_with fail
    refine C.out.mono ?_;clear C hc2;rintro r u5 ⟨⟨v,rfl,hv⟩,hb⟩;obtain ⟨aQ,cQ,rfl,hN⟩:=Lo.shape FF.out.2.2.2.2.2.2.2.2.2.2.2.1 hv;obtain ⟨V2,hV2⟩:∃ U,U=u5.alloc (Obj.cells #[.bool (dN ob),.slice aQ (ws (dX ob)).length cQ,.int .i64 (dE ob)] 62):=⟨_,rfl⟩;obtain ⟨g9,hg9⟩:∃ g,g=u5.heap.size:=⟨_,rfl⟩
    have S0:Aside (Q19 w V2 g4 gS g7 g9 n oX oY oXX oXY oYY oa ob):=by
     have hb2:Below V1.heap.size V1 V2:=by rw [hV2];exact hb.trans ((Zd _ _).mono hb.size)
     have h3:=D1.out.1.below hb2;refine ⟨h3.m,D1.out.2.1.below hb2,?_,h3.z,h3.bel,h3.ord.1,h3.ord.2,D1.out.2.2,by rw [hg9];have:=D1.out.2.1.lt;have:=hb.size;omega⟩
     rw [hV2,hg9];exact Lo.new hN
    have HV2:=(qsd (ai hV2 hg9));clear hV2 hg9 hb hN hv D1
    go_upto_region 7 with fail
    rw [←HV2.out.1,←HV2.out.2];clear HV2;obtain ⟨a1,c1,a2,c2,a3,c3,a4,c4,a5,c5,BL,n1,n2,n3,n4,n5⟩:=S0.out.m;obtain ⟨aA,cA,DA,NA⟩:=S0.out.a;obtain ⟨x0,x1,x2,xf0,xf1,xf2⟩:=DA.facts;have y1:=BL.cell 1 _ rfl;have y2:=BL.cell 2 _ rfl;have y3:=BL.cell 3 _ rfl;have C:=hid (Zaa FF.out.1 FF.out.2.2.2.2.2.2.2.2.2.2.1 FF.out.2.2.2.2.2.1 n1 NA EE.out.2.2.2.1);clear BL DA NA n1 n2 n3 n4 n5
    go_wp2_with fail
    refine C.out.mono ?_;clear C x0 x1 x2 xf0 xf1 xf2 y1 y2 y3;rintro r t0 ⟨hd,hb⟩;obtain ⟨a0,c0,rfl,hN⟩:=hd.shp14;have T0:=qsd (S0.out.below hb);clear hd hb S0;obtain ⟨a1,c1,a2,c2,a3,c3,a4,c4,a5,c5,BL,_⟩:=T0.out.m;have y1:=BL.cell 1 _ rfl;have y2:=BL.cell 2 _ rfl;have y3:=BL.cell 3 _ rfl;have yf1:=BL.frozen 1;have yf2:=BL.frozen 2;have yf3:=BL.frozen 3;obtain ⟨Y0,hY⟩:∃ U,U=((t0.setCell ⟨gS,1,none⟩ (.bool (dN pX))).setCell ⟨gS,2,none⟩ (.slice a0 (ws (dX pX)).length c0)).setCell ⟨gS,3,none⟩ (.int .i64 (dE pX)):=⟨_,rfl⟩;have S1:Aside (Q19 w Y0 g4 gS g7 g9 n pX oY oXX oXY oYY oa ob):=by rw [hY];exact T0.out.set0 hN
    have HY:=qsd hY;clear hN hY BL T0
    go_upto_region 8 with fail
    rw [←HY.out];clear HY y1 y2 y3 yf1 yf2 yf3;obtain ⟨a1,c1,a2,c2,a3,c3,a4,c4,a5,c5,BL,n1,n2,n3,n4,n5⟩:=S1.out.m;obtain ⟨aA,cA,DA,NA⟩:=S1.out.b;obtain ⟨x0,x1,x2,xf0,xf1,xf2⟩:=DA.facts;have y1:=BL.cell 4 _ rfl;have y2:=BL.cell 5 _ rfl;have y3:=BL.cell 6 _ rfl;have C:=hid (Zaa FF.out.2.1 FF.out.2.2.2.2.2.2.2.2.2.2.2.1 FF.out.2.2.2.2.2.2.1 n2 NA EE.out.2.2.2.2.1);clear BL DA NA n1 n2 n3 n4 n5
    go_wp2_with fail
    refine C.out.mono ?_;clear C x0 x1 x2 xf0 xf1 xf2 y1 y2 y3;rintro r t1 ⟨hd,hb⟩;obtain ⟨a0,c0,rfl,hN⟩:=hd.shp14;have T1:=qsd (S1.out.below hb);clear hd hb S1;obtain ⟨a1,c1,a2,c2,a3,c3,a4,c4,a5,c5,BL,_⟩:=T1.out.m;have y1:=BL.cell 4 _ rfl;have y2:=BL.cell 5 _ rfl;have y3:=BL.cell 6 _ rfl;have yf1:=BL.frozen 4;have yf2:=BL.frozen 5;have yf3:=BL.frozen 6;obtain ⟨Y1,hY⟩:∃ U,U=((t1.setCell ⟨gS,4,none⟩ (.bool (dN pY))).setCell ⟨gS,5,none⟩ (.slice a0 (ws (dX pY)).length c0)).setCell ⟨gS,6,none⟩ (.int .i64 (dE pY)):=⟨_,rfl⟩;have S2:Aside (Q19 w Y1 g4 gS g7 g9 n pX pY oXX oXY oYY oa ob):=by rw [hY];exact T1.out.set1 hN
    have HY:=qsd hY;clear hN hY BL T1
    go_upto_region 9 with fail
    rw [←HY.out];clear HY y1 y2 y3 yf1 yf2 yf3;obtain ⟨a1,c1,a2,c2,a3,c3,a4,c4,a5,c5,BL,n1,n2,n3,n4,n5⟩:=S2.out.m;obtain ⟨aA,cA,Da,Na⟩:=S2.out.a;have BD:Aside (Q19 w Y1.drew g4 gS g7 g9 n pX pY oXX oXY oYY oa ob∧Nt 0 Y1.drew (.slice a3 (ws (dX oXX)).length c3) (dX oXX)∧Nt 0 Y1.drew (.slice aA (ws (dX oa)).length cA) (dX oa)):=⟨S2.out.below (Below.refl _ _).drew,n3.below (Below.refl _ _).drew,Na.below (Below.refl _ _).drew⟩;have kS:Aside (Y1.drew.cell? ⟨gS,7,none⟩=some (.bool (dN oXX))∧Y1.drew.cell? ⟨gS,8,none⟩=some (.slice a3 (ws (dX oXX)).length c3)∧Y1.drew.cell? ⟨gS,9,none⟩=some (.int .i64 (dE oXX))∧Y1.drew.cell? ⟨g7,0,none⟩=some (.bool (dN oa))∧Y1.drew.cell? ⟨g7,1,none⟩=some (.slice aA (ws (dX oa)).length cA)∧Y1.drew.cell? ⟨g7,2,none⟩=some (.int .i64 (dE oa))):=⟨(BL.below (Below.refl _ _).drew BL.lt).cell 7 _ rfl,(BL.below (Below.refl _ _).drew BL.lt).cell 8 _ rfl,(BL.below (Below.refl _ _).drew BL.lt).cell 9 _ rfl,(Da.below (Below.refl _ _).drew).facts.1,(Da.below (Below.refl _ _).drew).facts.2.1,(Da.below (Below.refl _ _).drew).facts.2.2.1⟩;clear BL n1 n2 n3 n4 n5 S2 Da Na;refine Zn (fun w'=>w'.cell? ⟨gS,7,none⟩=some (.bool (dN oXX))∧w'.cell? ⟨gS,8,none⟩=some (.slice a3 (ws (dX oXX)).length c3)∧w'.cell? ⟨gS,9,none⟩=some (.int .i64 (dE oXX))∧w'.cell? ⟨g7,0,none⟩=some (.bool (dN oa))∧w'.cell? ⟨g7,1,none⟩=some (.slice aA (ws (dX oa)).length cA)∧w'.cell? ⟨g7,2,none⟩=some (.int .i64 (dE oa))) 7 (by kernel_rfl) ?_
    obtain ⟨Wd,hWd⟩:∃ Vq,Vq=Y1.drew:=⟨_,rfl⟩;rw [←hWd] at BD kS ⊢;clear hWd
    refine tk 0 [1,5] rfl kS.out ?_;try simp only [Act.put,sa,sb,sc]
    refine tk 1 [5] rfl kS.out ?_;try simp only [Act.put,sa,sb,sc]
    refine tk 2 [4,5] rfl kS.out ?_;try simp only [Act.put,sa,sb,sc]
    refine tk 3 [4,5] rfl kS.out ?_;try simp only [Act.put,sa,sb,sc]
    refine Zb (i:=4) (by kernel_rfl) rfl (fun K' hK=>?_)
    have C:=hid (Qn FF.out.2.2.2.2.2.2.2.2.2.2.1 FF.out.2.2.2.2.2.2.2.2.2.2.1 FF.out.2.2.2.2.2.2.2.2.2.2.2.2.1 BD.out.2.2 BD.out.2.2 EE.out.1)
    go_simp
    refine C.out.mono ?_;rintro r u1_ ⟨hd,hb⟩;obtain ⟨ma,mc,rfl,hN⟩:=hd.shp14;clear hd;have BD2:=qsd (ai (BD.out.1.below hb) (ai (BD.out.2.1.below hb) (ai (BD.out.2.2.below hb) hN)));have kS2:=qsd (ck hb kS.out fun h=>ck2 hb h);clear hb hN C BD kS;have BD:=BD2;have kS:=kS2;clear BD2 kS2
    try dsimp only
    refine hK.out _ _ (fun _=>kS.out) ?_
    clear hK K'
    try simp only [Act.put,sa,sb,sc]
    refine Zb (i:=5) (by kernel_rfl) rfl (fun K' hK=>?_)
    have C:=hid (Zaa FF.out.2.2.1 FF.out.2.2.2.2.2.2.2.2.2.2.2.2.1 FF.out.2.2.2.2.2.2.2.1 BD.out.2.1 BD.out.2.2.2 EE.out.2.2.2.2.2.1)
    go_simp
    refine C.out.mono ?_;rintro r u2_ ⟨hd,hb⟩;obtain ⟨pa,pc,rfl,hN⟩:=hd.shp14;clear hd;have BD2:=qsd (ai (BD.out.1.below hb) (ai (BD.out.2.1.below hb) (ai (BD.out.2.2.1.below hb) (ai (BD.out.2.2.2.below hb) hN))));have kS2:=qsd (ck hb kS.out fun h=>ck2 hb h);clear hb hN C BD kS;have BD:=BD2;have kS:=kS2;clear BD2 kS2
    try dsimp only
    refine hK.out _ _ (fun _=>kS.out) ?_
    clear hK K'
    try simp only [Act.put,sa,sb,sc]
    refine Zb (i:=6) (by kernel_rfl) rfl (fun K' hK=>?_)
    go_simp
    refine hK.out _ _ (fun _=>kS.out) ?_
    clear hK K'
    try simp only [Act.put,sa,sb,sc]
    obtain ⟨e1,f1,e2,f2,e3,f3,e4,f4,e5,f5,BL,_⟩:=BD.out.1.m;have y1:=BL.cell 7 _ rfl;have yf1:=BL.frozen 7;have y2:=BL.cell 8 _ rfl;have yf2:=BL.frozen 8;have y3:=BL.cell 9 _ rfl;have yf3:=BL.frozen 9;obtain ⟨Y2,hY⟩:∃ U,U=((u2_.setCell ⟨gS,7,none⟩ (.bool (dN pXX))).setCell ⟨gS,8,none⟩ (.slice pa (ws (dX pXX)).length pc)).setCell ⟨gS,9,none⟩ (.int .i64 (dE pXX)):=⟨_,rfl⟩;have S3:Aside (Q19 w Y2 g4 gS g7 g9 n pX pY pXX oXY oYY oa ob):=by rw [hY];exact BD.out.1.set2 BD.out.2.2.2.2
    have HY:=qsd hY;clear hY BL;refine Zb (i:=7) (by kernel_rfl) rfl (fun K' hK=>?_)
    go_simp
    refine hK.out _ _ (fun h=>absurd h (by decide)) ?_
    clear hK K' y1 y2 y3 yf1 yf2 yf3 kS BD;refine Zs (by kernel_rfl) ?_ _
    go_upto_region 10 with fail
    rw [←HY.out];clear HY;obtain ⟨a1,c1,a2,c2,a3,c3,a4,c4,a5,c5,BL,n1,n2,n3,n4,n5⟩:=S3.out.m;obtain ⟨aA,cA,Da,Na⟩:=S3.out.a;obtain ⟨aB,cB,Db,Nb⟩:=S3.out.b;have BD:Aside (Q19 w Y2.drew g4 gS g7 g9 n pX pY pXX oXY oYY oa ob∧Nt 0 Y2.drew (.slice a4 (ws (dX oXY)).length c4) (dX oXY)∧Nt 0 Y2.drew (.slice aA (ws (dX oa)).length cA) (dX oa)∧Nt 0 Y2.drew (.slice aB (ws (dX ob)).length cB) (dX ob)):=⟨S3.out.below (Below.refl _ _).drew,n4.below (Below.refl _ _).drew,Na.below (Below.refl _ _).drew,Nb.below (Below.refl _ _).drew⟩;have kS:Aside (Y2.drew.cell? ⟨gS,10,none⟩=some (.bool (dN oXY))∧Y2.drew.cell? ⟨gS,11,none⟩=some (.slice a4 (ws (dX oXY)).length c4)∧Y2.drew.cell? ⟨gS,12,none⟩=some (.int .i64 (dE oXY))∧Y2.drew.cell? ⟨g7,0,none⟩=some (.bool (dN oa))∧Y2.drew.cell? ⟨g7,1,none⟩=some (.slice aA (ws (dX oa)).length cA)∧Y2.drew.cell? ⟨g7,2,none⟩=some (.int .i64 (dE oa))∧Y2.drew.cell? ⟨g9,0,none⟩=some (.bool (dN ob))∧Y2.drew.cell? ⟨g9,1,none⟩=some (.slice aB (ws (dX ob)).length cB)∧Y2.drew.cell? ⟨g9,2,none⟩=some (.int .i64 (dE ob))):=⟨(BL.below (Below.refl _ _).drew BL.lt).cell 10 _ rfl,(BL.below (Below.refl _ _).drew BL.lt).cell 11 _ rfl,(BL.below (Below.refl _ _).drew BL.lt).cell 12 _ rfl,(Da.below (Below.refl _ _).drew).facts.1,(Da.below (Below.refl _ _).drew).facts.2.1,(Da.below (Below.refl _ _).drew).facts.2.2.1,(Db.below (Below.refl _ _).drew).facts.1,(Db.below (Below.refl _ _).drew).facts.2.1,(Db.below (Below.refl _ _).drew).facts.2.2.1⟩;clear BL n1 n2 n3 n4 n5 S3 Da Na Db Nb;refine Zn (fun w'=>w'.cell? ⟨gS,10,none⟩=some (.bool (dN oXY))∧w'.cell? ⟨gS,11,none⟩=some (.slice a4 (ws (dX oXY)).length c4)∧w'.cell? ⟨gS,12,none⟩=some (.int .i64 (dE oXY))∧w'.cell? ⟨g7,0,none⟩=some (.bool (dN oa))∧w'.cell? ⟨g7,1,none⟩=some (.slice aA (ws (dX oa)).length cA)∧w'.cell? ⟨g7,2,none⟩=some (.int .i64 (dE oa))∧w'.cell? ⟨g9,0,none⟩=some (.bool (dN ob))∧w'.cell? ⟨g9,1,none⟩=some (.slice aB (ws (dX ob)).length cB)∧w'.cell? ⟨g9,2,none⟩=some (.int .i64 (dE ob))) 7 (by kernel_rfl) ?_
    obtain ⟨Wd,hWd⟩:∃ Vq,Vq=Y2.drew:=⟨_,rfl⟩;rw [←hWd] at BD kS ⊢;clear hWd
    refine tk 0 [1,5] rfl kS.out ?_;try simp only [Act.put,sa,sb,sc]
    refine tk 1 [5] rfl kS.out ?_;try simp only [Act.put,sa,sb,sc]
    refine tk 2 [4,5] rfl kS.out ?_;try simp only [Act.put,sa,sb,sc]
    refine tk 3 [4,5] rfl kS.out ?_;try simp only [Act.put,sa,sb,sc]
    refine Zb (i:=4) (by kernel_rfl) rfl (fun K' hK=>?_)
    have C:=hid (Qn FF.out.2.2.2.2.2.2.2.2.2.2.1 FF.out.2.2.2.2.2.2.2.2.2.2.2.1 FF.out.2.2.2.2.2.2.2.2.2.2.2.2.2.1 BD.out.2.2.1 BD.out.2.2.2 EE.out.2.1)
    go_simp
    refine C.out.mono ?_;rintro r u1_ ⟨hd,hb⟩;obtain ⟨ma,mc,rfl,hN⟩:=hd.shp14;clear hd;have BD2:=qsd (ai (BD.out.1.below hb) (ai (BD.out.2.1.below hb) (ai (BD.out.2.2.1.below hb) (ai (BD.out.2.2.2.below hb) hN))));have kS2:=qsd (ck hb kS.out fun h=>ck hb h fun h=>ck1 hb h);clear hb hN C BD kS;have BD:=BD2;have kS:=kS2;clear BD2 kS2
    try dsimp only
    refine hK.out _ _ (fun _=>kS.out) ?_
    clear hK K'
    try simp only [Act.put,sa,sb,sc]
    refine Zb (i:=5) (by kernel_rfl) rfl (fun K' hK=>?_)
    have C:=hid (Zaa FF.out.2.2.2.1 FF.out.2.2.2.2.2.2.2.2.2.2.2.2.2.1 FF.out.2.2.2.2.2.2.2.2.1 BD.out.2.1 BD.out.2.2.2.2 EE.out.2.2.2.2.2.2.1)
    go_simp
    refine C.out.mono ?_;rintro r u2_ ⟨hd,hb⟩;obtain ⟨pa,pc,rfl,hN⟩:=hd.shp14;clear hd;have BD2:=qsd (ai (BD.out.1.below hb) (ai (BD.out.2.1.below hb) (ai (BD.out.2.2.1.below hb) (ai (BD.out.2.2.2.1.below hb) (ai (BD.out.2.2.2.2.below hb) hN)))));have kS2:=qsd (ck hb kS.out fun h=>ck hb h fun h=>ck1 hb h);clear hb hN C BD kS;have BD:=BD2;have kS:=kS2;clear BD2 kS2
    try dsimp only
    refine hK.out _ _ (fun _=>kS.out) ?_
    clear hK K'
    try simp only [Act.put,sa,sb,sc]
    refine Zb (i:=6) (by kernel_rfl) rfl (fun K' hK=>?_)
    go_simp
    refine hK.out _ _ (fun _=>kS.out) ?_
    clear hK K'
    try simp only [Act.put,sa,sb,sc]
    obtain ⟨e1,f1,e2,f2,e3,f3,e4,f4,e5,f5,BL,_⟩:=BD.out.1.m;have y1:=BL.cell 10 _ rfl;have yf1:=BL.frozen 10;have y2:=BL.cell 11 _ rfl;have yf2:=BL.frozen 11;have y3:=BL.cell 12 _ rfl;have yf3:=BL.frozen 12;obtain ⟨Y3,hY⟩:∃ U,U=((u2_.setCell ⟨gS,10,none⟩ (.bool (dN pXY))).setCell ⟨gS,11,none⟩ (.slice pa (ws (dX pXY)).length pc)).setCell ⟨gS,12,none⟩ (.int .i64 (dE pXY)):=⟨_,rfl⟩;have S4:Aside (Q19 w Y3 g4 gS g7 g9 n pX pY pXX pXY oYY oa ob):=by rw [hY];exact BD.out.1.set3 BD.out.2.2.2.2.2
    have HY:=qsd hY;clear hY BL;refine Zb (i:=7) (by kernel_rfl) rfl (fun K' hK=>?_)
    go_simp
    refine hK.out _ _ (fun h=>absurd h (by decide)) ?_
    clear hK K' y1 y2 y3 yf1 yf2 yf3 kS BD;refine Zs (by kernel_rfl) ?_ _
    go_upto_region 11 with fail
    rw [←HY.out];clear HY;obtain ⟨a1,c1,a2,c2,a3,c3,a4,c4,a5,c5,BL,n1,n2,n3,n4,n5⟩:=S4.out.m;obtain ⟨aB,cB,Db,Nb⟩:=S4.out.b;have BD:Aside (Q19 w Y3.drew g4 gS g7 g9 n pX pY pXX pXY oYY oa ob∧Nt 0 Y3.drew (.slice a5 (ws (dX oYY)).length c5) (dX oYY)∧Nt 0 Y3.drew (.slice aB (ws (dX ob)).length cB) (dX ob)):=⟨S4.out.below (Below.refl _ _).drew,n5.below (Below.refl _ _).drew,Nb.below (Below.refl _ _).drew⟩;have kS:Aside (Y3.drew.cell? ⟨gS,13,none⟩=some (.bool (dN oYY))∧Y3.drew.cell? ⟨gS,14,none⟩=some (.slice a5 (ws (dX oYY)).length c5)∧Y3.drew.cell? ⟨gS,15,none⟩=some (.int .i64 (dE oYY))∧Y3.drew.cell? ⟨g9,0,none⟩=some (.bool (dN ob))∧Y3.drew.cell? ⟨g9,1,none⟩=some (.slice aB (ws (dX ob)).length cB)∧Y3.drew.cell? ⟨g9,2,none⟩=some (.int .i64 (dE ob))):=⟨(BL.below (Below.refl _ _).drew BL.lt).cell 13 _ rfl,(BL.below (Below.refl _ _).drew BL.lt).cell 14 _ rfl,(BL.below (Below.refl _ _).drew BL.lt).cell 15 _ rfl,(Db.below (Below.refl _ _).drew).facts.1,(Db.below (Below.refl _ _).drew).facts.2.1,(Db.below (Below.refl _ _).drew).facts.2.2.1⟩;clear BL n1 n2 n3 n4 n5 S4 Db Nb;refine Zn (fun w'=>w'.cell? ⟨gS,13,none⟩=some (.bool (dN oYY))∧w'.cell? ⟨gS,14,none⟩=some (.slice a5 (ws (dX oYY)).length c5)∧w'.cell? ⟨gS,15,none⟩=some (.int .i64 (dE oYY))∧w'.cell? ⟨g9,0,none⟩=some (.bool (dN ob))∧w'.cell? ⟨g9,1,none⟩=some (.slice aB (ws (dX ob)).length cB)∧w'.cell? ⟨g9,2,none⟩=some (.int .i64 (dE ob))) 7 (by kernel_rfl) ?_
    obtain ⟨Wd,hWd⟩:∃ Vq,Vq=Y3.drew:=⟨_,rfl⟩;rw [←hWd] at BD kS ⊢;clear hWd
    refine tk 0 [1,5] rfl kS.out ?_;try simp only [Act.put,sa,sb,sc]
    refine tk 1 [5] rfl kS.out ?_;try simp only [Act.put,sa,sb,sc]
    refine tk 2 [4,5] rfl kS.out ?_;try simp only [Act.put,sa,sb,sc]
    refine tk 3 [4,5] rfl kS.out ?_;try simp only [Act.put,sa,sb,sc]
    refine Zb (i:=4) (by kernel_rfl) rfl (fun K' hK=>?_)
    have C:=hid (Qn FF.out.2.2.2.2.2.2.2.2.2.2.2.1 FF.out.2.2.2.2.2.2.2.2.2.2.2.1 FF.out.2.2.2.2.2.2.2.2.2.2.2.2.2.2 BD.out.2.2 BD.out.2.2 EE.out.2.2.1)
    go_simp
    refine C.out.mono ?_;rintro r u1_ ⟨hd,hb⟩;obtain ⟨ma,mc,rfl,hN⟩:=hd.shp14;clear hd;have BD2:=qsd (ai (BD.out.1.below hb) (ai (BD.out.2.1.below hb) (ai (BD.out.2.2.below hb) hN)));have kS2:=qsd (ck hb kS.out fun h=>ck2 hb h);clear hb hN C BD kS;have BD:=BD2;have kS:=kS2;clear BD2 kS2
    try dsimp only
    refine hK.out _ _ (fun _=>kS.out) ?_
    clear hK K'
    try simp only [Act.put,sa,sb,sc]
    refine Zb (i:=5) (by kernel_rfl) rfl (fun K' hK=>?_)
    have C:=hid (Zaa FF.out.2.2.2.2.1 FF.out.2.2.2.2.2.2.2.2.2.2.2.2.2.2 FF.out.2.2.2.2.2.2.2.2.2.1 BD.out.2.1 BD.out.2.2.2 EE.out.2.2.2.2.2.2.2)
    go_simp
    refine C.out.mono ?_;rintro r u2_ ⟨hd,hb⟩;obtain ⟨pa,pc,rfl,hN⟩:=hd.shp14;clear hd;have BD2:=qsd (ai (BD.out.1.below hb) (ai (BD.out.2.1.below hb) (ai (BD.out.2.2.1.below hb) (ai (BD.out.2.2.2.below hb) hN))));have kS2:=qsd (ck hb kS.out fun h=>ck2 hb h);clear hb hN C BD kS;have BD:=BD2;have kS:=kS2;clear BD2 kS2
    try dsimp only
    refine hK.out _ _ (fun _=>kS.out) ?_
    clear hK K'
    try simp only [Act.put,sa,sb,sc]
    refine Zb (i:=6) (by kernel_rfl) rfl (fun K' hK=>?_)
    go_simp
    refine hK.out _ _ (fun _=>kS.out) ?_
    clear hK K'
    try simp only [Act.put,sa,sb,sc]
    obtain ⟨e1,f1,e2,f2,e3,f3,e4,f4,e5,f5,BL,_⟩:=BD.out.1.m;have y1:=BL.cell 13 _ rfl;have yf1:=BL.frozen 13;have y2:=BL.cell 14 _ rfl;have yf2:=BL.frozen 14;have y3:=BL.cell 15 _ rfl;have yf3:=BL.frozen 15;obtain ⟨Y4,hY⟩:∃ U,U=((u2_.setCell ⟨gS,13,none⟩ (.bool (dN pYY))).setCell ⟨gS,14,none⟩ (.slice pa (ws (dX pYY)).length pc)).setCell ⟨gS,15,none⟩ (.int .i64 (dE pYY)):=⟨_,rfl⟩;have S5:Aside (Q19 w Y4 g4 gS g7 g9 n pX pY pXX pXY pYY oa ob):=by rw [hY];exact BD.out.1.set4 BD.out.2.2.2.2
    have HY:=qsd hY;clear hY BL;refine Zb (i:=7) (by kernel_rfl) rfl (fun K' hK=>?_)
    go_simp
    refine hK.out _ _ (fun h=>absurd h (by decide)) ?_
    clear hK K' y1 y2 y3 yf1 yf2 yf3 kS BD;refine Zs (by kernel_rfl) ?_ _
    go_upto_region 4 with fail
    rw [←HY.out];clear HY;have hkb:k<4611686018427387904:=by omega
    have HS:Aside (P19 w Y4 g4 gS n pX pY pXX pXY pYY):=⟨S5.out.m,S5.out.z,S5.out.bel,S5.out.ord.1,S5.out.ord.2.1⟩;clear S5;go_wp2
    go_roundg (gk-1)
    case measure=>omega
    case rel=>exact ⟨k+1,by omega,by first | rfl | simp,by rw [←HP.out.1,←HP.out.2.1,←HP.out.2.2.1,←HP.out.2.2.2.1,←HP.out.2.2.2.2];exact HS.out⟩
  · obtain rfl:k=n:=by omega
    have hd:¬ k<k:=by omega
    obtain ⟨a1,c1,a2,c2,a3,c3,a4,c4,a5,c5,BL,n1,n2,n3,n4,n5⟩:=HA.out.m;have y0:=BL.cell 0 _ rfl;have y1:=BL.cell 1 _ rfl;have y2:=BL.cell 2 _ rfl;have y3:=BL.cell 3 _ rfl;have y4:=BL.cell 4 _ rfl;have y5:=BL.cell 5 _ rfl;have y6:=BL.cell 6 _ rfl;have y7:=BL.cell 7 _ rfl;have y8:=BL.cell 8 _ rfl;have y9:=BL.cell 9 _ rfl;have y10:=BL.cell 10 _ rfl;have y11:=BL.cell 11 _ rfl;have y12:=BL.cell 12 _ rfl;have y13:=BL.cell 13 _ rfl;have y14:=BL.cell 14 _ rfl;have y15:=BL.cell 15 _ rfl;have z0:=HA.out.z.cell 0 _ rfl;have zf0:=HA.out.z.frozen 0;have z1:=HA.out.z.cell 1 _ rfl;have zf1:=HA.out.z.frozen 1;have z2:=HA.out.z.cell 2 _ rfl;have zf2:=HA.out.z.frozen 2;have z3:=HA.out.z.cell 3 _ rfl;have zf3:=HA.out.z.frozen 3;have z4:=HA.out.z.cell 4 _ rfl;have zf4:=HA.out.z.frozen 4;have z5:=HA.out.z.cell 5 _ rfl;have zf5:=HA.out.z.frozen 5;have z6:=HA.out.z.cell 6 _ rfl;have zf6:=HA.out.z.frozen 6;have z7:=HA.out.z.cell 7 _ rfl;have zf7:=HA.out.z.frozen 7;have z8:=HA.out.z.cell 8 _ rfl;have zf8:=HA.out.z.frozen 8;have z9:=HA.out.z.cell 9 _ rfl;have zf9:=HA.out.z.frozen 9;have z10:=HA.out.z.cell 10 _ rfl;have zf10:=HA.out.z.frozen 10;have z11:=HA.out.z.cell 11 _ rfl;have zf11:=HA.out.z.frozen 11;have z12:=HA.out.z.cell 12 _ rfl;have zf12:=HA.out.z.frozen 12;have z13:=HA.out.z.cell 13 _ rfl;have zf13:=HA.out.z.frozen 13;have z14:=HA.out.z.cell 14 _ rfl;have zf14:=HA.out.z.frozen 14;have z15:=HA.out.z.cell 15 _ rfl;have zf15:=HA.out.z.frozen 15;have hbt:But g4 wr _:=(((((((((((((((((But.refl g4 wr).set 0 (.int .i64 (k:Nat))).set 1 (.bool (dN (X k)))).set 2 (.slice a1 (ws (dX (X k))).length c1)).set 3 (.int .i64 (dE (X k)))).set 4 (.bool (dN (Y k)))).set 5 (.slice a2 (ws (dX (Y k))).length c2)).set 6 (.int .i64 (dE (Y k)))).set 7 (.bool (dN (XX k)))).set 8 (.slice a3 (ws (dX (XX k))).length c3)).set 9 (.int .i64 (dE (XX k)))).set 10 (.bool (dN (XY k)))).set 11 (.slice a4 (ws (dX (XY k))).length c4)).set 12 (.int .i64 (dE (XY k)))).set 13 (.bool (dN (YY k)))).set 14 (.slice a5 (ws (dX (YY k))).length c5)).set 15 (.int .i64 (dE (YY k))));have BE:=qsd (ai ((((((((((((((((HA.out.z.set 0 (.int .i64 (k:Nat))).set 1 (.bool (dN (X k)))).set 2 (.slice a1 (ws (dX (X k))).length c1)).set 3 (.int .i64 (dE (X k)))).set 4 (.bool (dN (Y k)))).set 5 (.slice a2 (ws (dX (Y k))).length c2)).set 6 (.int .i64 (dE (Y k)))).set 7 (.bool (dN (XX k)))).set 8 (.slice a3 (ws (dX (XX k))).length c3)).set 9 (.int .i64 (dE (XX k)))).set 10 (.bool (dN (XY k)))).set 11 (.slice a4 (ws (dX (XY k))).length c4)).set 12 (.int .i64 (dE (XY k)))).set 13 (.bool (dN (YY k)))).set 14 (.slice a5 (ws (dX (YY k))).length c5)).set 15 (.int .i64 (dE (YY k)))) (ai (But.below HA.out.bel hbt HA.out.bel.size HA.out.ord.1) (ai (n1.off hbt (n1.notin (by decide) HA.out.z)) (ai (n2.off hbt (n2.notin (by decide) HA.out.z)) (ai (n3.off hbt (n3.notin (by decide) HA.out.z)) (ai (n4.off hbt (n4.notin (by decide) HA.out.z)) (n5.off hbt (n5.notin (by decide) HA.out.z))))))))
    clear hbt BL n1 n2 n3 n4 n5 HA;go_wp2;refine bodyPost_ret (v:=.agg #[.int .i64 (k:Nat),.bool (dN (X k)),.slice a1 (ws (dX (X k))).length c1,.int .i64 (dE (X k)),.bool (dN (Y k)),.slice a2 (ws (dX (Y k))).length c2,.int .i64 (dE (Y k)),.bool (dN (XX k)),.slice a3 (ws (dX (XX k))).length c3,.int .i64 (dE (XX k)),.bool (dN (XY k)),.slice a4 (ws (dX (XY k))).length c4,.int .i64 (dE (XY k)),.bool (dN (YY k)),.slice a5 (ws (dX (YY k))).length c5,.int .i64 (dE (YY k))]) (Qw Tryz.results42 _ _ g4 [.int .i64 (k:Nat),.bool (dN (X k)),.slice a1 (ws (dX (X k))).length c1,.int .i64 (dE (X k)),.bool (dN (Y k)),.slice a2 (ws (dX (Y k))).length c2,.int .i64 (dE (Y k)),.bool (dN (XX k)),.slice a3 (ws (dX (XX k))).length c3,.int .i64 (dE (XX k)),.bool (dN (XY k)),.slice a4 (ws (dX (XY k))).length c4,.int .i64 (dE (XY k)),.bool (dN (YY k)),.slice a5 (ws (dX (YY k))).length c5,.int .i64 (dE (YY k))] ?_ BE.out.1 Zhy (by rw [Zfr];rfl)) rfl ⟨⟨_,rfl,a1,c1,a2,c2,a3,c3,a4,c4,a5,c5,rfl,BE.out.2.2⟩,BE.out.2.1⟩
    rfl
end
end Go.Proofs.YtblkpkgebigojaaGreatDoor
