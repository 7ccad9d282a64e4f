import Derived.Test.YtblkpkgebigojaaGreatDoorZ46x
set_option linter.unusedVariables false
set_option linter.unusedSimpArgs false
set_option maxHeartbeats 16000000
set_option maxRecDepth 20000
namespace Go.Proofs.YtblkpkgebigojaaGreatDoor
namespace J
end J
section
open Go Go.RowKit J
theorem nO {α:Type}(f:α->Int) (P:List α) (k:Nat) (hk:k<P.length):zS f (P.take (k+1))=zS f (P.take k)+f P[k]:=by
 rw [wZ hk];generalize P.take k=L
 induction L with
 | nil=>show f P[k]+0=0+f P[k];omega
 | cons x L ih=>show f x+zS f (L++[P[k]])=f x+zS f L+f P[k];rw [ih];omega
theorem getD_at (xs:List Nat) (k:Nat) (hk:k<xs.length):xs[k]=xs.getD k 0:=by rw [eQ,fF hk];rfl
theorem FW:∃ d:TypeDesc,Tryz.prog.underlying 70=some d/\d.isRow=true:=by
 have h:(Tryz.prog.underlying 70).any (·.isRow)=true:=by kernel_rfl
 cases hd:Tryz.prog.underlying 70 with
 | none=>rw [hd] at h;cases h
 | some d=>rw [hd] at h;exact ⟨d,rfl,h⟩
theorem Dj:(Tryz.prog.info? 70).map (·.size)=some 16:=by kernel_rfl
def Si (w:World) (v:Value) (n:Nat) (oX oY aL aK aM:Option (Bool×Nat×Int)):Prop:=∃ a1 c1 a2 c2 a3 c3 a4 c4 a5 c5,v=.agg #[.int .i64 (n:Nat),.bool (dN oX),.slice a1 (ws (dX oX)).length c1,.int .i64 (dE oX),.bool (dN oY),.slice a2 (ws (dX oY)).length c2,.int .i64 (dE oY),.bool (dN aL),.slice a3 (ws (dX aL)).length c3,.int .i64 (dE aL),.bool (dN aK),.slice a4 (ws (dX aK)).length c4,.int .i64 (dE aK),.bool (dN aM),.slice a5 (ws (dX aM)).length c5,.int .i64 (dE aM)]/\Nt 0 w (.slice a1 (ws (dX oX)).length c1) (dX oX)/\Nt 0 w (.slice a2 (ws (dX oY)).length c2) (dX oY)/\Nt 0 w (.slice a3 (ws (dX aL)).length c3) (dX aL)/\Nt 0 w (.slice a4 (ws (dX aK)).length c4) (dX aK)/\Nt 0 w (.slice a5 (ws (dX aM)).length c5) (dX aM)
structure Fk (n:Nat) (xs ys:List Nat) (X Y XX XY YY:Nat->Option (Bool×Nat×Int)) (A B AA AB BB:Nat->Option (Bool×Nat×Int)):Prop where
 f:∀ k,k<=n->Fm (X k)/\Fm (Y k)/\Fm (XX k)/\Fm (XY k)/\Fm (YY k)
 g:∀ k,k<n->Fm (A k)/\Fm (B k)/\Fm (AA k)/\Fm (AB k)/\Fm (BB k)
 m:∀ k,k<n->eY (A k) (A k)=AA k/\eY (A k) (B k)=AB k/\eY (B k) (B k)=BB k
 s:∀ k,k<n->fQ (X k) (A k)=X (k+1)/\fQ (Y k) (B k)=Y (k+1)/\fQ (XX k) (AA k)=XX (k+1)/\fQ (XY k) (AB k)=XY (k+1)/\fQ (YY k) (BB k)=YY (k+1)
 z:X 0=qO/\Y 0=qO/\XX 0=qO/\XY 0=qO/\YY 0=qO
 o:∀ k,k<n->∀ u:World,(Calls Tryz.prog 55 #[.float .f64 (xs.getD k 0)] u fun r w'=>(∃ v,r=.returned (.tuple #[.agg #[.bool (dN (A k)),v,.int .i64 (dE (A k))],.int .i64 0])/\Nt u.heap.size w' v (dX (A k)))/\Below u.heap.size u w') /\
   (Calls Tryz.prog 55 #[.float .f64 (ys.getD k 0)] u fun r w'=>(∃ v,r=.returned (.tuple #[.agg #[.bool (dN (B k)),v,.int .i64 (dE (B k))],.int .i64 0])/\Nt u.heap.size w' v (dX (B k)))/\Below u.heap.size u w')
theorem FZ (xs ys:List Nat) (X Y XX XY YY A B AA AB BB:Nat->Option (Bool×Nat×Int)) (a b:Option Addr) (n c d:Nat) (w:World) (hn:n=xs.length) (hm:n=ys.length) (hl:n<=65536) (hF:Fs w.heap.size w a xs) (hG:Fs w.heap.size w b ys) (H:Fk n xs ys X Y XX XY YY A B AA AB BB) :
 Calls Tryz.prog 42 #[.slice a n c,.slice b n d] w fun r w'=>(∃ v,r=.returned v/\Si w' v n (X n) (Y n) (XX n) (XY n) (YY n))/\Below w.heap.size w w':=by
 obtain ⟨W,hW⟩:=ah ((w.alloc (Obj.cells #[.int .i64 0,.bool false,.slice none 0 0,.int .i64 0,.bool false,.slice none 0 0,.int .i64 0,.bool false,.slice none 0 0,.int .i64 0,.bool false,.slice none 0 0,.int .i64 0,.bool false,.slice none 0 0,.int .i64 0] 70)).alloc (Obj.cells #[.int .i64 (n:Nat),.bool false,.slice none 0 0,.int .i64 0,.bool false,.slice none 0 0,.int .i64 0,.bool false,.slice none 0 0,.int .i64 0,.bool false,.slice none 0 0,.int .i64 0,.bool false,.slice none 0 0,.int .i64 0] 70));obtain ⟨g4,hg4⟩:=ah (w.heap.size);obtain ⟨gS,Zw⟩:=ah (w.heap.size+1)
 have B0:Aside (Vz w W g4 gS n (X 0) (Y 0) (XX 0) (XY 0) (YY 0)):=by
  rw [H.z.1,H.z.2.1,H.z.2.2.1,H.z.2.2.2.1,H.z.2.2.2.2];have z2:=Bl.new (w.alloc (Obj.cells #[.int .i64 0,.bool false,.slice none 0 0,.int .i64 0,.bool false,.slice none 0 0,.int .i64 0,.bool false,.slice none 0 0,.int .i64 0,.bool false,.slice none 0 0,.int .i64 0,.bool false,.slice none 0 0,.int .i64 0] 70)) 70 [.int .i64 (n:Nat),.bool false,.slice none 0 0,.int .i64 0,.bool false,.slice none 0 0,.int .i64 0,.bool false,.slice none 0 0,.int .i64 0,.bool false,.slice none 0 0,.int .i64 0,.bool false,.slice none 0 0,.int .i64 0];rw [iH] at z2;refine ⟨⟨none,0,none,0,none,0,none,0,none,0,?_,?_,?_,?_,?_,?_⟩,?_,?_,?_⟩
  · rw [tJ,hW,Zw];exact z2
  · rw [tJ];exact Nt.nil _ _
  · rw [tJ];exact Nt.nil _ _
  · rw [tJ];exact Nt.nil _ _
  · rw [tJ];exact Nt.nil _ _
  · rw [tJ];exact Nt.nil _ _
  · rw [hW,hg4];exact (Bl.new _ 70 [.int .i64 0,.bool false,.slice none 0 0,.int .i64 0,.bool false,.slice none 0 0,.int .i64 0,.bool false,.slice none 0 0,.int .i64 0,.bool false,.slice none 0 0,.int .i64 0,.bool false,.slice none 0 0,.int .i64 0]).alloc _
  · rw [hW];exact (au _ _).trans ((au _ _).mono aW)
  · rw [hg4,Zw];omega
 have HW:=(fB hW hg4 Zw);have HX:=(jK hn hm hF hG);have HH:=ay H;clear hW hg4 Zw hn hm hF hG H;go_enter Tryz.func42,Tryz.ntmps42
 go_upto_region 2 with fail
 rw [<-HW.o.1]
 try rw [<-HW.o.r2]
 try rw [<-HW.o.2.1]
 clear HW;go_wp2
 go_loopg [6] n (fun gk iv wr=>∃ k:Nat,gk+k=n/\iv=.int .i64 (k:Nat)/\Aside (Vz w wr g4 gS n (X k) (Y k) (XX k) (XY k) (YY k)))
 case atStart=>exact ⟨0,ae,aW,B0.o⟩
 case round =>
  clear B0;obtain ⟨k,wD,rfl,HA⟩:=hrel
  by_cases hk:k<n
  · obtain ⟨b1,off1,rfl,hc1⟩:=HX.o.r2.1.at HA.o.aF k (by have:=HX.o.1;omega);obtain ⟨fx,fy,fxx,fxy,fyy⟩:=HH.o.f (k+1) ae;obtain ⟨ex,ey,exx,exy,eyy⟩:=HH.o.f k ae;obtain ⟨fa,fb,faa,fab,fbb⟩:=HH.o.g k hk;obtain ⟨Zx,YO,Zy⟩:=HH.o.m k hk;obtain ⟨sx,sy,YP,YQ,YR⟩:=HH.o.s k hk;have OC:Hid (∀ u:World,_/\_):=HH.o.o k hk;obtain ⟨z1,hz1⟩:=ah (xs.getD k 0);obtain ⟨z2,hz2⟩:=ah (ys.getD k 0);rw [<-hz1] at hc1 OC;rw [<-hz2] at OC;have Zu:Aside (∃ k':Nat,k'=k+1):=⟨_,rfl⟩;obtain ⟨oX,hoX⟩:=ah (X k);obtain ⟨oY,hoY⟩:=ah (Y k);obtain ⟨aL,VA⟩:=ah (XX k);obtain ⟨aK,VB⟩:=ah (XY k);obtain ⟨aM,VC⟩:=ah (YY k);obtain ⟨pX,Wi⟩:=ah (X (k+1));obtain ⟨pY,Wj⟩:=ah (Y (k+1));obtain ⟨Sj,VD⟩:=ah (XX (k+1));obtain ⟨VE,VF⟩:=ah (XY (k+1));obtain ⟨YS,VG⟩:=ah (YY (k+1));obtain ⟨oa,hoa⟩:=ah (A k);obtain ⟨ob,Xh⟩:=ah (B k);obtain ⟨oaa,YT⟩:=ah (AA k);obtain ⟨oab,YU⟩:=ah (AB k);obtain ⟨obb,YV⟩:=ah (BB k);rw [<-Wi] at fx sx;rw [<-Wj] at fy sy;rw [<-VD] at fxx YP;rw [<-VF] at fxy YQ;rw [<-VG] at fyy YR;rw [<-hoX] at ex sx;rw [<-hoY] at ey sy;rw [<-VA] at exx YP;rw [<-VB] at exy YQ;rw [<-VC] at eyy YR;rw [<-hoa] at fa Zx YO sx OC;rw [<-Xh] at fb YO Zy sy OC;rw [<-YT] at faa Zx YP;rw [<-YU] at fab YO YQ;rw [<-YV] at fbb Zy YR;have HB:=HA;rw [<-hoX,<-hoY,<-VA,<-VB,<-VC] at HB;have HP:=(gZ Wi Wj VD VF VG);have FF:=(ay (ai ex (ai ey (ai exx (ai exy (ai eyy (ai fx (ai fy (ai fxx (ai fxy (ai fyy (ai fa (ai fb (ai faa (ai fab fbb)))))))))))))));have EE:=(r9 Zx YO Zy sx sy YP YQ YR);have HZ2:=(bB hz2 HX.o.r3);clear HA hoX hoY VA VB VC Wi Wj VD VF VG hoa Xh YT YU YV ex ey exx exy eyy fx fy fxx fxy fyy fa fb faa fab fbb Zx YO Zy sx sy YP YQ YR hz1 hz2 Zu;have C:=hid (OC.o wr).1;go_wp2_with fail;refine C.o.mono ?_;clear C hc1;rintro r u4 ⟨⟨v,rfl,hv⟩,hb⟩;obtain ⟨aP,cP,rfl,hN⟩:=Lo.shape FF.o.2.2.2.2.2.2.2.2.2.2.1 hv;obtain ⟨V1,hV1⟩:=ah (u4.alloc (Obj.cells #[.bool (dN oa),.slice aP (ws (dX oa)).length cP,.int .i64 (dE oa)] 62));obtain ⟨g7,Zz⟩:=ah (u4.heap.size)
    have D1:Aside (Vz w V1 g4 gS n oX oY aL aK aM/\Lo V1 g7 oa/\gS<g7):=by
     have hb2:Below wr.heap.size wr V1:=by rw [hV1];exact hb.trans ((au _ _).mono hb.size)
     refine ⟨HB.o.below hb2,?_,by rw [Zz];have:=HB.o.m.lt;have:=hb.size;omega⟩;rw [hV1,Zz];exact Lo.new hN
    have Ty:=(bB hV1 Zz);clear hV1 Zz hb hN hv HB;obtain ⟨b2,yT,rfl,hc2⟩:=HZ2.o.2.at D1.o.1.aF k (by have:=HX.o.2.1;omega);rw [<-HZ2.o.1] at hc2;have C:=hid (OC.o V1).2;clear OC
    go_upto_region 6 with fail
    rw [<-Ty.o.1,<-Ty.o.2];clear Ty;go_wp2_with fail;refine C.o.mono ?_;clear C hc2;rintro r u5 ⟨⟨v,rfl,hv⟩,hb⟩;obtain ⟨aQ,cQ,rfl,hN⟩:=Lo.shape FF.o.2.2.2.2.2.2.2.2.2.2.2.1 hv;obtain ⟨V2,hV2⟩:=ah (u5.alloc (Obj.cells #[.bool (dN ob),.slice aQ (ws (dX ob)).length cQ,.int .i64 (dE ob)] 62));obtain ⟨g9,ZA⟩:=ah (u5.heap.size)
    have S0:Aside (rX w V2 g4 gS g7 g9 n oX oY aL aK aM oa ob):=by
     have hb2:Below V1.heap.size V1 V2:=by rw [hV2];exact hb.trans ((au _ _).mono hb.size)
     have h3:=D1.o.1.below hb2;refine ⟨h3.m,D1.o.2.1.below hb2,?_,h3.z,h3.aF,h3.ord.1,h3.ord.2,D1.o.r2,by rw [ZA];have:=D1.o.2.1.lt;have:=hb.size;omega⟩;rw [hV2,ZA];exact Lo.new hN
    have Sk:=(bB hV2 ZA);clear hV2 ZA hb hN hv D1
    go_upto_region 7 with fail
    rw [<-Sk.o.1,<-Sk.o.2];clear Sk;obtain ⟨a1,c1,a2,c2,a3,c3,a4,c4,a5,c5,BL,n1,n2,n3,n4,n5⟩:=S0.o.m;obtain ⟨aA,cA,DA,NA⟩:=S0.o.a;obtain ⟨x0,x1,x2,dA,dB,dC⟩:=DA.facts;have y1:=BL.cell 1 _ rfl;have y2:=BL.cell 2 _ rfl;have y3:=BL.cell 3 _ rfl;have C:=hid (qL FF.o.1 FF.o.2.2.2.2.2.2.2.2.2.2.1 FF.o.r5.1 n1 NA EE.o.r3.1);clear BL DA NA n1 n2 n3 n4 n5;go_wp2_with fail;refine C.o.mono ?_;clear C x0 x1 x2 dA dB dC y1 y2 y3;rintro r t0 ⟨hd,hb⟩;obtain ⟨a0,c0,rfl,hN⟩:=hd.aZ;have T0:=ay (S0.o.below hb);clear hd hb S0;obtain ⟨a1,c1,a2,c2,a3,c3,a4,c4,a5,c5,BL,_⟩:=T0.o.m;have y1:=BL.cell 1 _ rfl;have y2:=BL.cell 2 _ rfl;have y3:=BL.cell 3 _ rfl;have cZ:=BL.frozen 1;have df:=BL.frozen 2;have Sl:=BL.frozen 3;obtain ⟨Y0,hY⟩:=ah (((t0.setCell ⟨gS,1,none⟩ (.bool (dN pX))).setCell ⟨gS,2,none⟩ (.slice a0 (ws (dX pX)).length c0)).setCell ⟨gS,3,none⟩ (.int .i64 (dE pX)));have S1:Aside (rX w Y0 g4 gS g7 g9 n pX oY aL aK aM oa ob):=by rw [hY];exact T0.o.set0 hN
    have HY:=ay hY;clear hN hY BL T0
    go_upto_region 8 with fail
    rw [<-HY.o];clear HY y1 y2 y3 cZ df Sl;obtain ⟨a1,c1,a2,c2,a3,c3,a4,c4,a5,c5,BL,n1,n2,n3,n4,n5⟩:=S1.o.m;obtain ⟨aA,cA,DA,NA⟩:=S1.o.b;obtain ⟨x0,x1,x2,dA,dB,dC⟩:=DA.facts;have y1:=BL.cell 4 _ rfl;have y2:=BL.cell 5 _ rfl;have y3:=BL.cell 6 _ rfl;have C:=hid (qL FF.o.2.1 FF.o.2.2.2.2.2.2.2.2.2.2.2.1 FF.o.r6.1 n2 NA EE.o.r4.1);clear BL DA NA n1 n2 n3 n4 n5;go_wp2_with fail;refine C.o.mono ?_;clear C x0 x1 x2 dA dB dC y1 y2 y3;rintro r t1 ⟨hd,hb⟩;obtain ⟨a0,c0,rfl,hN⟩:=hd.aZ;have T1:=ay (S1.o.below hb);clear hd hb S1;obtain ⟨a1,c1,a2,c2,a3,c3,a4,c4,a5,c5,BL,_⟩:=T1.o.m;have y1:=BL.cell 4 _ rfl;have y2:=BL.cell 5 _ rfl;have y3:=BL.cell 6 _ rfl;have cZ:=BL.frozen 4;have df:=BL.frozen 5;have Sl:=BL.frozen 6;obtain ⟨Y1,hY⟩:=ah (((t1.setCell ⟨gS,4,none⟩ (.bool (dN pY))).setCell ⟨gS,5,none⟩ (.slice a0 (ws (dX pY)).length c0)).setCell ⟨gS,6,none⟩ (.int .i64 (dE pY)));have S2:Aside (rX w Y1 g4 gS g7 g9 n pX pY aL aK aM oa ob):=by rw [hY];exact T1.o.set1 hN
    have HY:=ay hY;clear hN hY BL T1
    go_upto_region 9 with fail
    rw [<-HY.o];clear HY y1 y2 y3 cZ df Sl;obtain ⟨a1,c1,a2,c2,a3,c3,a4,c4,a5,c5,BL,n1,n2,n3,n4,n5⟩:=S2.o.m;obtain ⟨aA,cA,Da,Na⟩:=S2.o.a;have BD:Aside (rX w Y1.drew g4 gS g7 g9 n pX pY aL aK aM oa ob/\Nt 0 Y1.drew (.slice a3 (ws (dX aL)).length c3) (dX aL)/\Nt 0 Y1.drew (.slice aA (ws (dX oa)).length cA) (dX oa)):=⟨S2.o.below (ak _ _).drew,n3.below (ak _ _).drew,Na.below (ak _ _).drew⟩;have kS:Aside (Y1.drew.cell? ⟨gS,7,none⟩=some (.bool (dN aL))/\Y1.drew.cell? ⟨gS,8,none⟩=some (.slice a3 (ws (dX aL)).length c3)/\Y1.drew.cell? ⟨gS,9,none⟩=some (.int .i64 (dE aL))/\Y1.drew.cell? ⟨g7,0,none⟩=some (.bool (dN oa))/\Y1.drew.cell? ⟨g7,1,none⟩=some (.slice aA (ws (dX oa)).length cA)/\Y1.drew.cell? ⟨g7,2,none⟩=some (.int .i64 (dE oa))):=⟨(BL.below (ak _ _).drew BL.lt).cell 7 _ rfl,(BL.below (ak _ _).drew BL.lt).cell 8 _ rfl,(BL.below (ak _ _).drew BL.lt).cell 9 _ rfl,(Da.below (ak _ _).drew).facts.1,(Da.below (ak _ _).drew).facts.2.1,(Da.below (ak _ _).drew).facts.2.2.1⟩;clear BL n1 n2 n3 n4 n5 S2 Da Na;refine bA (fun w'=>w'.cell? ⟨gS,7,none⟩=some (.bool (dN aL))/\w'.cell? ⟨gS,8,none⟩=some (.slice a3 (ws (dX aL)).length c3)/\w'.cell? ⟨gS,9,none⟩=some (.int .i64 (dE aL))/\w'.cell? ⟨g7,0,none⟩=some (.bool (dN oa))/\w'.cell? ⟨g7,1,none⟩=some (.slice aA (ws (dX oa)).length cA)/\w'.cell? ⟨g7,2,none⟩=some (.int .i64 (dE oa))) 7 bS ?_;obtain ⟨Wd,hWd⟩:=ah (Y1.drew);rw [<-hWd] at BD kS |-;clear hWd
    refine tk 0 [1,5] rfl kS.o ?_;try simp only [Act.put,sa,sb,sc]
    refine tk 1 [5] rfl kS.o ?_;try simp only [Act.put,sa,sb,sc]
    refine tk 2 [4,5] rfl kS.o ?_;try simp only [Act.put,sa,sb,sc]
    refine tk 3 [4,5] rfl kS.o ?_;try simp only [Act.put,sa,sb,sc]
    refine aj (i:=4) bS rfl (fun K' hK=>?_);have C:=hid (eG FF.o.2.2.2.2.2.2.2.2.2.2.1 FF.o.2.2.2.2.2.2.2.2.2.2.1 FF.o.2.2.2.2.2.2.2.2.2.2.2.2.1 BD.o.r2 BD.o.r2 EE.o.1);go_simp;refine C.o.mono ?_;rintro r Dr ⟨hd,hb⟩;obtain ⟨ma,mc,rfl,hN⟩:=hd.aZ;clear hd;have bM:=jK (BD.o.1.below hb) (BD.o.2.1.below hb) (BD.o.r2.below hb) hN;have bC:=ay (ck hb kS.o fun h=>ck2 hb h);clear hb hN C BD kS;have BD:=bM;have kS:=bC;clear bM bC
    try dsimp only
    refine hK.out _ _ (fun _=>kS.o) ?_;clear hK K'
    try simp only [Act.put,sa,sb,sc]
    refine aj (i:=5) bS rfl (fun K' hK=>?_);have C:=hid (qL FF.o.r2.1 FF.o.2.2.2.2.2.2.2.2.2.2.2.2.1 FF.o.r7.1 BD.o.2.1 BD.o.r3 EE.o.r5.1);go_simp;refine C.o.mono ?_;rintro r CQ ⟨hd,hb⟩;obtain ⟨pa,pc,rfl,hN⟩:=hd.aZ;clear hd;have bM:=gZ (BD.o.1.below hb) (BD.o.2.1.below hb) (BD.o.r2.1.below hb) (BD.o.r3.below hb) hN;have bC:=ay (ck hb kS.o fun h=>ck2 hb h);clear hb hN C BD kS;have BD:=bM;have kS:=bC;clear bM bC
    try dsimp only
    refine hK.out _ _ (fun _=>kS.o) ?_;clear hK K'
    try simp only [Act.put,sa,sb,sc]
    refine aj (i:=6) bS rfl (fun K' hK=>?_);go_simp;refine hK.out _ _ (fun _=>kS.o) ?_;clear hK K'
    try simp only [Act.put,sa,sb,sc]
    obtain ⟨e1,f1,e2,f2,e3,f3,e4,f4,e5,f5,BL,_⟩:=BD.o.1.m;have y1:=BL.cell 7 _ rfl;have cZ:=BL.frozen 7;have y2:=BL.cell 8 _ rfl;have df:=BL.frozen 8;have y3:=BL.cell 9 _ rfl;have Sl:=BL.frozen 9;obtain ⟨Y2,hY⟩:=ah (((CQ.setCell ⟨gS,7,none⟩ (.bool (dN Sj))).setCell ⟨gS,8,none⟩ (.slice pa (ws (dX Sj)).length pc)).setCell ⟨gS,9,none⟩ (.int .i64 (dE Sj)));have S3:Aside (rX w Y2 g4 gS g7 g9 n pX pY Sj aK aM oa ob):=by rw [hY];exact BD.o.1.set2 BD.o.r4
    have HY:=ay hY;clear hY BL;refine aj (i:=7) bS rfl (fun K' hK=>?_);go_simp;refine hK.out _ _ (fun h=>absurd h aO) ?_;clear hK K' y1 y2 y3 cZ df Sl kS BD;refine bG bS ?_ _
    go_upto_region 10 with fail
    rw [<-HY.o];clear HY;obtain ⟨a1,c1,a2,c2,a3,c3,a4,c4,a5,c5,BL,n1,n2,n3,n4,n5⟩:=S3.o.m;obtain ⟨aA,cA,Da,Na⟩:=S3.o.a;obtain ⟨aB,cB,Db,Nb⟩:=S3.o.b;have BD:Aside (rX w Y2.drew g4 gS g7 g9 n pX pY Sj aK aM oa ob/\Nt 0 Y2.drew (.slice a4 (ws (dX aK)).length c4) (dX aK)/\Nt 0 Y2.drew (.slice aA (ws (dX oa)).length cA) (dX oa)/\Nt 0 Y2.drew (.slice aB (ws (dX ob)).length cB) (dX ob)):=⟨S3.o.below (ak _ _).drew,n4.below (ak _ _).drew,Na.below (ak _ _).drew,Nb.below (ak _ _).drew⟩;have kS:Aside (Y2.drew.cell? ⟨gS,10,none⟩=some (.bool (dN aK))/\Y2.drew.cell? ⟨gS,11,none⟩=some (.slice a4 (ws (dX aK)).length c4)/\Y2.drew.cell? ⟨gS,12,none⟩=some (.int .i64 (dE aK))/\Y2.drew.cell? ⟨g7,0,none⟩=some (.bool (dN oa))/\Y2.drew.cell? ⟨g7,1,none⟩=some (.slice aA (ws (dX oa)).length cA)/\Y2.drew.cell? ⟨g7,2,none⟩=some (.int .i64 (dE oa))/\Y2.drew.cell? ⟨g9,0,none⟩=some (.bool (dN ob))/\Y2.drew.cell? ⟨g9,1,none⟩=some (.slice aB (ws (dX ob)).length cB)/\Y2.drew.cell? ⟨g9,2,none⟩=some (.int .i64 (dE ob))):=⟨(BL.below (ak _ _).drew BL.lt).cell 10 _ rfl,(BL.below (ak _ _).drew BL.lt).cell 11 _ rfl,(BL.below (ak _ _).drew BL.lt).cell 12 _ rfl,(Da.below (ak _ _).drew).facts.1,(Da.below (ak _ _).drew).facts.2.1,(Da.below (ak _ _).drew).facts.2.2.1,(Db.below (ak _ _).drew).facts.1,(Db.below (ak _ _).drew).facts.2.1,(Db.below (ak _ _).drew).facts.2.2.1⟩;clear BL n1 n2 n3 n4 n5 S3 Da Na Db Nb;refine bA (fun w'=>w'.cell? ⟨gS,10,none⟩=some (.bool (dN aK))/\w'.cell? ⟨gS,11,none⟩=some (.slice a4 (ws (dX aK)).length c4)/\w'.cell? ⟨gS,12,none⟩=some (.int .i64 (dE aK))/\w'.cell? ⟨g7,0,none⟩=some (.bool (dN oa))/\w'.cell? ⟨g7,1,none⟩=some (.slice aA (ws (dX oa)).length cA)/\w'.cell? ⟨g7,2,none⟩=some (.int .i64 (dE oa))/\w'.cell? ⟨g9,0,none⟩=some (.bool (dN ob))/\w'.cell? ⟨g9,1,none⟩=some (.slice aB (ws (dX ob)).length cB)/\w'.cell? ⟨g9,2,none⟩=some (.int .i64 (dE ob))) 7 bS ?_;obtain ⟨Wd,hWd⟩:=ah (Y2.drew);rw [<-hWd] at BD kS |-;clear hWd
    refine tk 0 [1,5] rfl kS.o ?_;try simp only [Act.put,sa,sb,sc]
    refine tk 1 [5] rfl kS.o ?_;try simp only [Act.put,sa,sb,sc]
    refine tk 2 [4,5] rfl kS.o ?_;try simp only [Act.put,sa,sb,sc]
    refine tk 3 [4,5] rfl kS.o ?_;try simp only [Act.put,sa,sb,sc]
    refine aj (i:=4) bS rfl (fun K' hK=>?_);have C:=hid (eG FF.o.2.2.2.2.2.2.2.2.2.2.1 FF.o.2.2.2.2.2.2.2.2.2.2.2.1 FF.o.2.2.2.2.2.2.2.2.2.2.2.2.2.1 BD.o.r2.1 BD.o.r3 EE.o.2.1);go_simp;refine C.o.mono ?_;rintro r Dr ⟨hd,hb⟩;obtain ⟨ma,mc,rfl,hN⟩:=hd.aZ;clear hd;have bM:=gZ (BD.o.1.below hb) (BD.o.2.1.below hb) (BD.o.r2.1.below hb) (BD.o.r3.below hb) hN;have bC:=ay (ck hb kS.o fun h=>ck hb h fun h=>ck1 hb h);clear hb hN C BD kS;have BD:=bM;have kS:=bC;clear bM bC
    try dsimp only
    refine hK.out _ _ (fun _=>kS.o) ?_;clear hK K'
    try simp only [Act.put,sa,sb,sc]
    refine aj (i:=5) bS rfl (fun K' hK=>?_);have C:=hid (qL FF.o.r3.1 FF.o.2.2.2.2.2.2.2.2.2.2.2.2.2.1 FF.o.r8.1 BD.o.2.1 BD.o.r4 EE.o.r6.1);go_simp;refine C.o.mono ?_;rintro r CQ ⟨hd,hb⟩;obtain ⟨pa,pc,rfl,hN⟩:=hd.aZ;clear hd;have bM:=jE (BD.o.1.below hb) (BD.o.2.1.below hb) (BD.o.r2.1.below hb) (BD.o.r3.1.below hb) (BD.o.r4.below hb) hN;have bC:=ay (ck hb kS.o fun h=>ck hb h fun h=>ck1 hb h);clear hb hN C BD kS;have BD:=bM;have kS:=bC;clear bM bC
    try dsimp only
    refine hK.out _ _ (fun _=>kS.o) ?_;clear hK K'
    try simp only [Act.put,sa,sb,sc]
    refine aj (i:=6) bS rfl (fun K' hK=>?_);go_simp;refine hK.out _ _ (fun _=>kS.o) ?_;clear hK K'
    try simp only [Act.put,sa,sb,sc]
    obtain ⟨e1,f1,e2,f2,e3,f3,e4,f4,e5,f5,BL,_⟩:=BD.o.1.m;have y1:=BL.cell 10 _ rfl;have cZ:=BL.frozen 10;have y2:=BL.cell 11 _ rfl;have df:=BL.frozen 11;have y3:=BL.cell 12 _ rfl;have Sl:=BL.frozen 12;obtain ⟨Y3,hY⟩:=ah (((CQ.setCell ⟨gS,10,none⟩ (.bool (dN VE))).setCell ⟨gS,11,none⟩ (.slice pa (ws (dX VE)).length pc)).setCell ⟨gS,12,none⟩ (.int .i64 (dE VE)));have S4:Aside (rX w Y3 g4 gS g7 g9 n pX pY Sj VE aM oa ob):=by rw [hY];exact BD.o.1.Vx BD.o.r5
    have HY:=ay hY;clear hY BL;refine aj (i:=7) bS rfl (fun K' hK=>?_);go_simp;refine hK.out _ _ (fun h=>absurd h aO) ?_;clear hK K' y1 y2 y3 cZ df Sl kS BD;refine bG bS ?_ _
    go_upto_region 11 with fail
    rw [<-HY.o];clear HY;obtain ⟨a1,c1,a2,c2,a3,c3,a4,c4,a5,c5,BL,n1,n2,n3,n4,n5⟩:=S4.o.m;obtain ⟨aB,cB,Db,Nb⟩:=S4.o.b;have BD:Aside (rX w Y3.drew g4 gS g7 g9 n pX pY Sj VE aM oa ob/\Nt 0 Y3.drew (.slice a5 (ws (dX aM)).length c5) (dX aM)/\Nt 0 Y3.drew (.slice aB (ws (dX ob)).length cB) (dX ob)):=⟨S4.o.below (ak _ _).drew,n5.below (ak _ _).drew,Nb.below (ak _ _).drew⟩;have kS:Aside (Y3.drew.cell? ⟨gS,13,none⟩=some (.bool (dN aM))/\Y3.drew.cell? ⟨gS,14,none⟩=some (.slice a5 (ws (dX aM)).length c5)/\Y3.drew.cell? ⟨gS,15,none⟩=some (.int .i64 (dE aM))/\Y3.drew.cell? ⟨g9,0,none⟩=some (.bool (dN ob))/\Y3.drew.cell? ⟨g9,1,none⟩=some (.slice aB (ws (dX ob)).length cB)/\Y3.drew.cell? ⟨g9,2,none⟩=some (.int .i64 (dE ob))):=⟨(BL.below (ak _ _).drew BL.lt).cell 13 _ rfl,(BL.below (ak _ _).drew BL.lt).cell 14 _ rfl,(BL.below (ak _ _).drew BL.lt).cell 15 _ rfl,(Db.below (ak _ _).drew).facts.1,(Db.below (ak _ _).drew).facts.2.1,(Db.below (ak _ _).drew).facts.2.2.1⟩;clear BL n1 n2 n3 n4 n5 S4 Db Nb;refine bA (fun w'=>w'.cell? ⟨gS,13,none⟩=some (.bool (dN aM))/\w'.cell? ⟨gS,14,none⟩=some (.slice a5 (ws (dX aM)).length c5)/\w'.cell? ⟨gS,15,none⟩=some (.int .i64 (dE aM))/\w'.cell? ⟨g9,0,none⟩=some (.bool (dN ob))/\w'.cell? ⟨g9,1,none⟩=some (.slice aB (ws (dX ob)).length cB)/\w'.cell? ⟨g9,2,none⟩=some (.int .i64 (dE ob))) 7 bS ?_;obtain ⟨Wd,hWd⟩:=ah (Y3.drew);rw [<-hWd] at BD kS |-;clear hWd
    refine tk 0 [1,5] rfl kS.o ?_;try simp only [Act.put,sa,sb,sc]
    refine tk 1 [5] rfl kS.o ?_;try simp only [Act.put,sa,sb,sc]
    refine tk 2 [4,5] rfl kS.o ?_;try simp only [Act.put,sa,sb,sc]
    refine tk 3 [4,5] rfl kS.o ?_;try simp only [Act.put,sa,sb,sc]
    refine aj (i:=4) bS rfl (fun K' hK=>?_);have C:=hid (eG FF.o.2.2.2.2.2.2.2.2.2.2.2.1 FF.o.2.2.2.2.2.2.2.2.2.2.2.1 FF.o.2.2.2.2.2.2.2.2.2.2.2.2.2.2 BD.o.r2 BD.o.r2 EE.o.r2.1);go_simp;refine C.o.mono ?_;rintro r Dr ⟨hd,hb⟩;obtain ⟨ma,mc,rfl,hN⟩:=hd.aZ;clear hd;have bM:=jK (BD.o.1.below hb) (BD.o.2.1.below hb) (BD.o.r2.below hb) hN;have bC:=ay (ck hb kS.o fun h=>ck2 hb h);clear hb hN C BD kS;have BD:=bM;have kS:=bC;clear bM bC
    try dsimp only
    refine hK.out _ _ (fun _=>kS.o) ?_;clear hK K'
    try simp only [Act.put,sa,sb,sc]
    refine aj (i:=5) bS rfl (fun K' hK=>?_);have C:=hid (qL FF.o.r4.1 FF.o.2.2.2.2.2.2.2.2.2.2.2.2.2.2 FF.o.2.2.2.2.2.2.2.2.2.1 BD.o.2.1 BD.o.r3 EE.o.r7);go_simp;refine C.o.mono ?_;rintro r CQ ⟨hd,hb⟩;obtain ⟨pa,pc,rfl,hN⟩:=hd.aZ;clear hd;have bM:=gZ (BD.o.1.below hb) (BD.o.2.1.below hb) (BD.o.r2.1.below hb) (BD.o.r3.below hb) hN;have bC:=ay (ck hb kS.o fun h=>ck2 hb h);clear hb hN C BD kS;have BD:=bM;have kS:=bC;clear bM bC
    try dsimp only
    refine hK.out _ _ (fun _=>kS.o) ?_;clear hK K'
    try simp only [Act.put,sa,sb,sc]
    refine aj (i:=6) bS rfl (fun K' hK=>?_);go_simp;refine hK.out _ _ (fun _=>kS.o) ?_;clear hK K'
    try simp only [Act.put,sa,sb,sc]
    obtain ⟨e1,f1,e2,f2,e3,f3,e4,f4,e5,f5,BL,_⟩:=BD.o.1.m;have y1:=BL.cell 13 _ rfl;have cZ:=BL.frozen 13;have y2:=BL.cell 14 _ rfl;have df:=BL.frozen 14;have y3:=BL.cell 15 _ rfl;have Sl:=BL.frozen 15;obtain ⟨Y4,hY⟩:=ah (((CQ.setCell ⟨gS,13,none⟩ (.bool (dN YS))).setCell ⟨gS,14,none⟩ (.slice pa (ws (dX YS)).length pc)).setCell ⟨gS,15,none⟩ (.int .i64 (dE YS)));have S5:Aside (rX w Y4 g4 gS g7 g9 n pX pY Sj VE YS oa ob):=by rw [hY];exact BD.o.1.Vy BD.o.r4
    have HY:=ay hY;clear hY BL;refine aj (i:=7) bS rfl (fun K' hK=>?_);go_simp;refine hK.out _ _ (fun h=>absurd h aO) ?_;clear hK K' y1 y2 y3 cZ df Sl kS BD;refine bG bS ?_ _
    go_upto_region 4 with fail
    rw [<-HY.o];clear HY;have hkb:k<4611686018427387904:=ae
    have HS:Aside (Vz w Y4 g4 gS n pX pY Sj VE YS):=⟨S5.o.m,S5.o.z,S5.o.aF,S5.o.ord.1,S5.o.ord.2.1⟩;clear S5;go_wp2;go_roundg (gk-1)
    case measure=>omega
    case rel=>exact ⟨k+1,ae,by first | rfl | simp,by rw [<-HP.o.1,<-HP.o.2.1,<-HP.o.r2.1,<-HP.o.r3.1,<-HP.o.r4];exact HS.o⟩
  · obtain rfl:k=n:=ae
    have hd:¬ k<k:=ae
    obtain ⟨a1,c1,a2,c2,a3,c3,a4,c4,a5,c5,BL,n1,n2,n3,n4,n5⟩:=HA.o.m;have y0:=BL.cell 0 _ rfl;have y1:=BL.cell 1 _ rfl;have y2:=BL.cell 2 _ rfl;have y3:=BL.cell 3 _ rfl;have y4:=BL.cell 4 _ rfl;have y5:=BL.cell 5 _ rfl;have y6:=BL.cell 6 _ rfl;have y7:=BL.cell 7 _ rfl;have y8:=BL.cell 8 _ rfl;have y9:=BL.cell 9 _ rfl;have Dt:=BL.cell 10 _ rfl;have Du:=BL.cell 11 _ rfl;have Dv:=BL.cell 12 _ rfl;have y13:=BL.cell 13 _ rfl;have Dw:=BL.cell 14 _ rfl;have Tz:=BL.cell 15 _ rfl;have z0:=HA.o.z.cell 0 _ rfl;have vH:=HA.o.z.frozen 0;have z1:=HA.o.z.cell 1 _ rfl;have vJ:=HA.o.z.frozen 1;have z2:=HA.o.z.cell 2 _ rfl;have vL:=HA.o.z.frozen 2;have z3:=HA.o.z.cell 3 _ rfl;have wE:=HA.o.z.frozen 3;have z4:=HA.o.z.cell 4 _ rfl;have uz:=HA.o.z.frozen 4;have z5:=HA.o.z.cell 5 _ rfl;have zf5:=HA.o.z.frozen 5;have z6:=HA.o.z.cell 6 _ rfl;have zf6:=HA.o.z.frozen 6;have z7:=HA.o.z.cell 7 _ rfl;have zf7:=HA.o.z.frozen 7;have z8:=HA.o.z.cell 8 _ rfl;have zf8:=HA.o.z.frozen 8;have z9:=HA.o.z.cell 9 _ rfl;have zf9:=HA.o.z.frozen 9;have Wn:=HA.o.z.cell 10 _ rfl;have Yr:=HA.o.z.frozen 10;have Wo:=HA.o.z.cell 11 _ rfl;have Yt:=HA.o.z.frozen 11;have z12:=HA.o.z.cell 12 _ rfl;have Yu:=HA.o.z.frozen 12;have z13:=HA.o.z.cell 13 _ rfl;have Yv:=HA.o.z.frozen 13;have z14:=HA.o.z.cell 14 _ rfl;have Yw:=HA.o.z.frozen 14;have z15:=HA.o.z.cell 15 _ rfl;have zf15:=HA.o.z.frozen 15;have hbt:But g4 wr _:=(((((((((((((((((But.refl g4 wr).set 0 (.int .i64 (k:Nat))).set 1 (.bool (dN (X k)))).set 2 (.slice a1 (ws (dX (X k))).length c1)).set 3 (.int .i64 (dE (X k)))).set 4 (.bool (dN (Y k)))).set 5 (.slice a2 (ws (dX (Y k))).length c2)).set 6 (.int .i64 (dE (Y k)))).set 7 (.bool (dN (XX k)))).set 8 (.slice a3 (ws (dX (XX k))).length c3)).set 9 (.int .i64 (dE (XX k)))).set 10 (.bool (dN (XY k)))).set 11 (.slice a4 (ws (dX (XY k))).length c4)).set 12 (.int .i64 (dE (XY k)))).set 13 (.bool (dN (YY k)))).set 14 (.slice a5 (ws (dX (YY k))).length c5)).set 15 (.int .i64 (dE (YY k))));have BE:=rZ ((((((((((((((((HA.o.z.set 0 (.int .i64 (k:Nat))).set 1 (.bool (dN (X k)))).set 2 (.slice a1 (ws (dX (X k))).length c1)).set 3 (.int .i64 (dE (X k)))).set 4 (.bool (dN (Y k)))).set 5 (.slice a2 (ws (dX (Y k))).length c2)).set 6 (.int .i64 (dE (Y k)))).set 7 (.bool (dN (XX k)))).set 8 (.slice a3 (ws (dX (XX k))).length c3)).set 9 (.int .i64 (dE (XX k)))).set 10 (.bool (dN (XY k)))).set 11 (.slice a4 (ws (dX (XY k))).length c4)).set 12 (.int .i64 (dE (XY k)))).set 13 (.bool (dN (YY k)))).set 14 (.slice a5 (ws (dX (YY k))).length c5)).set 15 (.int .i64 (dE (YY k)))) (But.below HA.o.aF hbt HA.o.aF.size HA.o.ord.1) (n1.off hbt (n1.bU aO HA.o.z)) (n2.off hbt (n2.bU aO HA.o.z)) (n3.off hbt (n3.bU aO HA.o.z)) (n4.off hbt (n4.bU aO HA.o.z)) (n5.off hbt (n5.bU aO HA.o.z));clear hbt BL n1 n2 n3 n4 n5 HA;go_wp2;refine aI (v:=.agg #[.int .i64 (k:Nat),.bool (dN (X k)),.slice a1 (ws (dX (X k))).length c1,.int .i64 (dE (X k)),.bool (dN (Y k)),.slice a2 (ws (dX (Y k))).length c2,.int .i64 (dE (Y k)),.bool (dN (XX k)),.slice a3 (ws (dX (XX k))).length c3,.int .i64 (dE (XX k)),.bool (dN (XY k)),.slice a4 (ws (dX (XY k))).length c4,.int .i64 (dE (XY k)),.bool (dN (YY k)),.slice a5 (ws (dX (YY k))).length c5,.int .i64 (dE (YY k))]) (jB Tryz.results42 _ _ g4 [.int .i64 (k:Nat),.bool (dN (X k)),.slice a1 (ws (dX (X k))).length c1,.int .i64 (dE (X k)),.bool (dN (Y k)),.slice a2 (ws (dX (Y k))).length c2,.int .i64 (dE (Y k)),.bool (dN (XX k)),.slice a3 (ws (dX (XX k))).length c3,.int .i64 (dE (XX k)),.bool (dN (XY k)),.slice a4 (ws (dX (XY k))).length c4,.int .i64 (dE (XY k)),.bool (dN (YY k)),.slice a5 (ws (dX (YY k))).length c5,.int .i64 (dE (YY k))] ?_ BE.o.1 FW (by rw [Dj];rfl)) rfl ⟨⟨_,rfl,a1,c1,a2,c2,a3,c3,a4,c4,a5,c5,rfl,BE.o.r2⟩,BE.o.2.1⟩;rfl
end
end Go.Proofs.YtblkpkgebigojaaGreatDoor
