import Derived.Test.YteginbngplldaaaGreatDoorMA2x
import Derived.Test.YteginbngplldaaaGreatDoorMO14x
import Derived.Test.YteginbngplldaaaGreatDoorMO18x
import Derived.Deep.RegionHeld3
import Derived.Test.YteginbngplldaaaGreatDoorMC3x
set_option linter.unusedVariables false
set_option linter.unusedSimpArgs false
set_option maxHeartbeats 16000000
set_option maxRecDepth 20000
namespace Go.Proofs.YteginbngplldaaaGreatDoor
namespace J
end J
section
open Go Go.RowKit J
theorem VO{xs ys:List Nat}{less:Int}(h:qw xs ys less=0):nW xs ys=0/\¬ (xs.length:Int)<=less:=by
 unfold qw at h
 by_cases h1:nW xs ys=0
 · rw[if_pos h1] at h;refine⟨h1,fun h2=>?_⟩;rw[if_pos h2] at h;exact absurd h (by decide)
 · rw[if_neg h1] at h;exact absurd h h1
theorem Z0(xs ys:List Nat)(less mode:Int):VI xs ys less mode=if p9 mode&&lsB less then(if qw xs ys less=0 then nK (gV 2148 (cS xs ys)) (gV 0 ((xs.length:Int)*((xs.length:Int)-less))) mode else(0,qw xs ys less)) else(0,1):=by
 unfold VI
 cases p9 mode&&lsB less with
 | false=>rfl
 | true =>
   rw[if_pos rfl,if_pos rfl]
   by_cases h1:nW xs ys=0
   · rw[if_pos h1]
     by_cases h2:(xs.length:Int)<=less
     · have:qw xs ys less=3:=by unfold qw;rw[if_pos h1,if_pos h2]
       rw[if_pos h2,this,if_neg (by decide)]
     · have:qw xs ys less=0:=by unfold qw;rw[if_pos h1,if_neg h2]
       rw[if_neg h2,this,if_pos rfl]
   · have:qw xs ys less=nW xs ys:=by unfold qw;rw[if_neg h1]
     rw[if_neg h1,this,if_neg h1]
theorem z9{P:Prop}(h:P:=by
 go_wp2;exact aC (v:=.tuple #[.float .f64 0,.int .i64 1]) (by simp[results,Tryz.results26,go_sem]) rfl ⟨rfl,aB _ _⟩):P:=h
theorem Z4(xs ys:List Nat)(a a2:Option Addr)(n n2 c c2:Nat)(less mode:Int)(w:World)(hn:n=xs.length)(hn2:n2=ys.length)(hF:Fs w.heap.size w a xs)(hG:Fs w.heap.size w a2 ys)(hW:j4 xs)(hW2:j4 ys)(hl:n<=35184372088832)(hl2:n2<=35184372088832)(z:Nat×Int)(hz:VI xs ys less mode=z) :
 At 26 #[.slice a n c,.slice a2 n2 c2,.int .i64 less,.int .i64 mode] w (.tuple #[.float .f64 z.1,.int .i64 z.2]):=by
 obtain⟨X,E⟩:=z;simp only;rw[Z0] at hz;have M1:=hid (BL mode w);have M2:=hid (Xz less w);obtain⟨b1,hb1⟩:∃ b,p9 mode=b:=⟨_,rfl⟩;obtain⟨b2,hb2⟩:∃ b,lsB less=b:=⟨_,rfl⟩;obtain⟨tw,VP⟩:∃ e,qw xs ys less=e:=⟨_,rfl⟩;rw[hb1] at M1 hz;rw[hb2] at M2 hz;rw[VP] at hz;have H2:=hid (QY xs ys a a2 n n2 c c2 less w hn hn2 hF hG hW hW2 hl hl2 tw VP);have HX:=(xZ hn hn2 hF hG hW hW2 hb1 hb2 VP hz);clear hn hn2 hF hG hW hW2 hl hl2 hb1 hb2 VP hz;go_enter Tryz.func26,Tryz.ntmps26;go_wp2_with fail;refine M1.o.mono ?_;rintro r u ⟨rfl,hq⟩;rw[hq];clear hq u M1;go_wp2_with fail;refine M2.o.mono ?_;rintro r u ⟨rfl,hq⟩;rw[hq];clear hq u M2
 by_cases hbb:(b1&&b2)=true
 · have hz:=HX.o.2.2.2.2.2.2.2.2.2;rw[hbb,if_pos rfl] at hz;rw[oo] at hbb;obtain⟨rfl,rfl⟩:=hbb;have HZ:=ak hz;clear hz;go_wp2_with fail;refine H2.o.mono ?_;rintro r u ⟨rfl,hb⟩;have B1:=ak hb;clear hb H2
   by_cases h0:tw=0
   · have hz:=HZ.o;rw[if_pos h0] at hz;obtain⟨hn,hn2,hF,hG,hW,hW2,hb1,hb2,VP,_⟩:=HX.o;rw[h0] at VP;obtain⟨o1,o2⟩:=VO VP;obtain⟨p1,p2,p3,p4⟩:=Jy o1;have xY:=Ef hb2;have he:n=n2:=by omega
     rw[<-hn] at hz;obtain⟨oV,BM⟩:=af (gV 2148 (cS xs ys));obtain⟨oD,sj⟩:=af (gV 0 ((n:Int)*((n:Int)-less)));rw[<-BM,<-sj] at hz;have FV:Fm oV:=by rw[BM];exact aZ (by decide) (by decide) (jW hW p3 hW2 p4 p2 p1)
     have FD:Fm oD:=by rw[sj];exact aZ (by decide) (by decide) (uS (by omega) (by omega) (by omega))
     have C1:Hid (As 59 #[.slice a n c,.slice a2 n2 c2] u fun r w'=>aN 0 w' r oV/\An u w'):=by
      rw[BM];exact pV xs ys a a2 n n2 c c2 u hn hn2 he ((hF.below B1.o).mono B1.o.size) ((hG.below B1.o).mono B1.o.size) hW p3 hW2 p4 (by omega)
     have HBy:Hid (∀ (u:World) (a:Option Addr) (c:Nat),Nt 0 u (.slice a (ws (dX oV)).length c) (dX oV)->As 58 #[.agg #[.bool (dN oV),.slice a (ws (dX oV)).length c,.int .i64 (dE oV)],.int .i64 (n:Nat),.int .i64 less] u fun r w'=>(∃ b d,r=.returned (.agg #[.bool (dN oV),.slice a (ws (dX oV)).length c,.int .i64 (dE oV),.bool (dN oD),.slice b (ws (dX oD)).length d,.int .i64 (dE oD)])/\Nt 0 w' (.slice a (ws (dX oV)).length c) (dX oV)/\Nt 0 w' (.slice b (ws (dX oD)).length d) (dX oD))/\An u w'):=fun u a c hN=>by
      rw[sj];exact ZX oV a c n less u (by omega) (by omega) (by omega) hN
     have HR:Hid (∀ (u:World) (a b:Option Addr) (ca cb:Nat),Nt 0 u (.slice a (ws (dX oV)).length ca) (dX oV)->Nt 0 u (.slice b (ws (dX oD)).length cb) (dX oD)->At 57 #[.agg #[.bool (dN oV),.slice a (ws (dX oV)).length ca,.int .i64 (dE oV),.bool (dN oD),.slice b (ws (dX oD)).length cb,.int .i64 (dE oD)],.int .i64 mode] u (.tuple #[.float .f64 X,.int .i64 E])):=fun u a b ca cb n1 n2=>by
      have:=Jp mode FV FD n1 n2;exact js
     subst h0;clear hz HZ BM sj FV FD hn hn2 hF hG hW hW2 hb1 hb2 VP o1 o2 p1 p2 p3 p4 xY he HX;go_wp2_with fail;refine C1.o.mono ?_;rintro r u1 ⟨hd,hb⟩;obtain⟨a1,c1,rfl,hN1⟩:=hd.aD;have B2:=(aJ (B1.o.trans (hb.mono B1.o.size)) hN1);clear hb hd hN1 C1 B1;have C2:=hid (HBy.o u1 a1 c1 B2.o.2);go_wp2_with fail;refine C2.o.mono ?_;rintro r u2 ⟨⟨b2,d2,rfl,j5,eu⟩,hb⟩;have B3:=(bO (B2.o.1.trans (hb.mono B2.o.1.size)) j5 eu);clear hb j5 eu C2 B2;have C3:=hid (HR.o u2 a1 b2 c1 d2 B3.o.2.1 B3.o.r2);go_wp2_with fail;refine C3.o.mono ?_;rintro r u3 ⟨rfl,hb⟩;have B4:=ak (B3.o.1.trans (hb.mono B3.o.1.size));clear hb C3 B3;go_wp2;exact aC (v:=.tuple #[.float .f64 X,.int .i64 E]) (by simp[results,Tryz.results26,go_sem]) rfl ⟨rfl,B4.o⟩
   · have hz:=HZ.o;rw[if_neg h0] at hz;obtain⟨rfl,rfl⟩:=eP hz;have hne:(tw != 0)=true:=by simp[h0]
     clear hz HZ h0 HX;go_wp2;exact aC (v:=.tuple #[.float .f64 0,.int .i64 tw]) (by simp[results,Tryz.results26,go_sem]) rfl ⟨rfl,B1.o⟩
 · have hz:=HX.o.2.2.2.2.2.2.2.2.2;rw[if_neg hbb] at hz;obtain⟨rfl,rfl⟩:=eP hz;clear hz HX H2
   cases b1 <;> cases b2
   · exact z9
   · exact z9
   · exact z9
   · exact absurd rfl hbb
theorem Z5(xs ys:List Nat)(mode:Int):QM xs ys mode=if p9 mode then(if qw xs ys 0=0 then(if cS xs xs=0\/cS ys ys=0 then(0,190) else VM (cS xs ys) (cS xs xs*cS ys ys) mode) else(0,qw xs ys 0)) else(0,1):=by
 unfold QM
 cases p9 mode with
 | false=>rfl
 | true =>
   rw[if_pos rfl,if_pos rfl]
   by_cases h1:nW xs ys=0
   · rw[if_pos h1]
     by_cases h2:xs=[]
     · have:qw xs ys 0=3:=by unfold qw;rw[if_pos h1,if_pos (by simp[h2])]
       rw[if_pos h2,this,if_neg (by decide)]
     · have h3:¬ (xs.length:Int)<=0:=fun q=>h2 (uy (by omega));have:qw xs ys 0=0:=by unfold qw;rw[if_pos h1,if_neg h3]
       rw[if_neg h2,this,if_pos rfl]
       by_cases h4:cS xs xs*cS ys ys=0
       · rw[if_pos h4,if_pos (Int.mul_eq_zero.1 h4)]
       · rw[if_neg h4,if_neg (fun q=>h4 (Int.mul_eq_zero.2 q))]
   · have:qw xs ys 0=nW xs ys:=by unfold qw;rw[if_neg h1]
     rw[if_neg h1,this,if_neg h1]
theorem JD{u m:Nat}{V:Int}(hu:u<=100000)(hm:m<=90000)(h:Bd m V):(ws (dX (gV u V))).length=0↔V=0:=by
 rw[aW];exact(GK hu hm h).1
attribute [local go_sem] B.bB B.aF oK
structure BR (w v:World) (gx gy gc:Nat) (p1 p2 p3:Option Addr) (q1 q2 q3:Nat) (oX oY oC:Option (Bool×Nat×Int)):Prop where
 b:An w v
 dx:Dk v gx (dN oX) (.slice p1 (ws (dX oX)).length q1) (dE oX)
 nx:Nt 0 v (.slice p1 (ws (dX oX)).length q1) (dX oX)
 dy:Dk v gy (dN oY) (.slice p2 (ws (dX oY)).length q2) (dE oY)
 ny:Nt 0 v (.slice p2 (ws (dX oY)).length q2) (dX oY)
 dc:Dk v gc (dN oC) (.slice p3 (ws (dX oC)).length q3) (dE oC)
 nc:Nt 0 v (.slice p3 (ws (dX oC)).length q3) (dX oC)
theorem BR.below{w v u:World}{gx gy gc:Nat}{p1 p2 p3:Option Addr}{q1 q2 q3:Nat}{oX oY oC:Option (Bool×Nat×Int)}(h:BR w v gx gy gc p1 p2 p3 q1 q2 q3 oX oY oC)(hb:An v u):BR w u gx gy gc p1 p2 p3 q1 q2 q3 oX oY oC :=
 ⟨h.b.trans (hb.mono h.b.size),h.dx.below hb,h.nx.below hb,h.dy.below hb,h.ny.below hb,h.dc.below hb,h.nc.below hb⟩
theorem BR.but{w v u:World}{gx gy gc g T:Nat}{p1 p2 p3:Option Addr}{q1 q2 q3:Nat}{oX oY oC:Option (Bool×Nat×Int)}{L:List Value}(h:BR w v gx gy gc p1 p2 p3 q1 q2 q3 oX oY oC)(hb:But g v u)(hB:Bl v g T L)(hT:T≠91)(hg:gx<g/\gy<g/\gc<g)(hw:w.heap.size<=g):BR w u gx gy gc p1 p2 p3 q1 q2 q3 oX oY oC :=
 ⟨But.below h.b hb h.b.size hw,by unfold Dk;rw[hb.block _ h.dx.lt (by omega)];exact h.dx,h.nx.off hb (h.nx.fJ hT hB),by unfold Dk;rw[hb.block _ h.dy.lt (by omega)];exact h.dy,h.ny.off hb (h.ny.fJ hT hB),by unfold Dk;rw[hb.block _ h.dc.lt (by omega)];exact h.dc,h.nc.off hb (h.nc.fJ hT hB)⟩
theorem Hu (a a2:Option Addr) (n n2 c c2:Nat) (k:Nat) (mm:Int) (w:World) (oX oY oC oP oQ:Option (Bool×Nat×Int)) (X Y:Nat) (z:Nat×Int)
 (ma:Hid (∀ u:World,Ax 61 #[.int .i64 (k:Nat)] u (.bool true))) (hmo:k<=4) (hmm:mm=if dN oC then zD (k:Int) else(k:Int))
 (H2:Hid (At 69 #[.slice a n c,.slice a2 n2 c2,.int .i64 0] w (.int .i64 0)))
 (HX:Hid (∀ u:World,An w u->As 59 #[.slice a n c,.slice a n c] u fun r w'=>aN 0 w' r oX/\An u w')) (HY:Hid (∀ u:World,An w u->As 59 #[.slice a2 n2 c2,.slice a2 n2 c2] u fun r w'=>aN 0 w' r oY/\An u w')) (HC:Hid (∀ u:World,An w u->As 59 #[.slice a n c,.slice a2 n2 c2] u fun r w'=>aN 0 w' r oC/\An u w')) (FX:(ws (dX oX)).length≠0) (FY:(ws (dX oY)).length≠0)
 (T1:Hid (∀ (u:World) (p:Option Addr) (k:Nat),Nt 0 u (.slice p (ws (dX oC)).length k) (dX oC)->As 64 #[.agg #[.bool (dN oC),.slice p (ws (dX oC)).length k,.int .i64 (dE oC)],.agg #[.bool (dN oC),.slice p (ws (dX oC)).length k,.int .i64 (dE oC)]] u fun r w'=>aN 0 w' r oP/\An u w'))
 (T2:Hid (∀ (u:World) (p q:Option Addr) (k l:Nat),Nt 0 u (.slice p (ws (dX oX)).length k) (dX oX)->Nt 0 u (.slice q (ws (dX oY)).length l) (dX oY)->As 64 #[.agg #[.bool (dN oX),.slice p (ws (dX oX)).length k,.int .i64 (dE oX)],.agg #[.bool (dN oY),.slice q (ws (dX oY)).length l,.int .i64 (dE oY)]] u fun r w'=>aN 0 w' r oQ/\An u w'))
 (HR:Hid (∀ (u:World) (ap b:Option Addr) (cp cb:Nat),Nt 0 u (.slice ap (ws (dX oP)).length cp) (dX oP)->Nt 0 u (.slice b (ws (dX oQ)).length cb) (dX oQ)->At 60 #[.agg #[.bool (dN oP),.slice ap (ws (dX oP)).length cp,.int .i64 (dE oP),.bool (dN oQ),.slice b (ws (dX oQ)).length cb,.int .i64 (dE oQ)],.int .i64 mm] u (.tuple #[.float .f64 X,.int .i64 0])))
 (hX:X<9223372036854775808) (hY:Y=if dN oC then mP X else X) (hz:z=(Y,0)) :
 At 27 #[.slice a n c,.slice a2 n2 c2,.int .i64 (k:Nat)] w (.tuple #[.float .f64 z.1,.int .i64 z.2]):=by
 subst hz;simp only;have e1:(((ws (dX oX)).length:Int)==0)=false:=by simpa using FX
 have e2:(((ws (dX oY)).length:Int)==0)=false:=by simpa using FY
 have eX:IntKind.u64.wrap ((X:Int)+9223372036854775808)=((mP X:Nat):Int):=by
  unfold mP;rw[if_neg (by omega)];simp[IntKind.wrap,IntKind.bits,IntKind.signed];omega
 clear FX FY;have HH:=(dJ hmo hmm hX hY eX);clear hmo hmm hX hY eX;go_enter Tryz.func27,Tryz.ntmps27;go_wp2_with fail;refine(ma.o w).mono ?_;rintro r v0 ⟨rfl,hq⟩;rw[hq];clear hq v0 ma;go_wp2_with fail;refine H2.o.mono ?_;rintro r u0 ⟨rfl,hb⟩;have BD:=ak hb;clear hb H2;go_wp2_with fail;refine(HX.o u0 BD.o).mono ?_;rintro r v1 ⟨hd,hb⟩;obtain⟨p1,q1,rfl,hN⟩:=hd.aD;obtain⟨u1,hu⟩:=af (v1.alloc (Obj.cells #[.bool (dN oX),.slice p1 (ws (dX oX)).length q1,.int .i64 (dE oX)] 37));obtain⟨gx,hg⟩:=af (v1.heap.size);have hb2:Below v1.heap.size v1 u1:=by rw[hu];exact ae _ _
 have hD:Dk u1 gx (dN oX) (.slice p1 (ws (dX oX)).length q1) (dE oX):=by rw[hu,hg];exact Dk.new _ _ _ _
 have hM:=hN.below hb2;have hlt:w.heap.size<=gx:=by rw[hg];exact cB BD.o.size hb.size
 have Z6:=ak hlt;have BD:=bO ((BD.o.trans (hb.mono BD.o.size)).trans (hb2.mono (cB BD.o.size hb.size))) hD hM;have HU:=(aJ hu hg);clear hu hg hb hb2 hD hM hN hd hlt HX;go_wp2_with fail;rw[<-HU.o.1,<-HU.o.2];clear HU;refine(HY.o u1 BD.o.1).mono ?_;rintro r v2 ⟨hd,hb⟩;obtain⟨p2,q2,rfl,hN⟩:=hd.aD;obtain⟨u2,hu⟩:=af (v2.alloc (Obj.cells #[.bool (dN oY),.slice p2 (ws (dX oY)).length q2,.int .i64 (dE oY)] 37));obtain⟨gy,hg⟩:=af (v2.heap.size);have hb2:Below v2.heap.size v2 u2:=by rw[hu];exact ae _ _
 have hD:Dk u2 gy (dN oY) (.slice p2 (ws (dX oY)).length q2) (dE oY):=by rw[hu,hg];exact Dk.new _ _ _ _
 have hM:=hN.below hb2;have hlt:w.heap.size<=gy:=by rw[hg];exact cB BD.o.1.size hb.size
 have Ggy:=ak hlt;have BD:=dJ ((BD.o.1.trans (hb.mono BD.o.1.size)).trans (hb2.mono (cB BD.o.1.size hb.size))) ((BD.o.2.1.below hb).below hb2) ((BD.o.r2.below hb).below hb2) hD hM;have HU:=(aJ hu hg);clear hu hg hb hb2 hD hM hN hd hlt HY
 go_upto_region 9 with fail
 rw[<-HU.o.1,<-HU.o.2];clear HU;obtain⟨x0,x1,x2,bE,bF,bG⟩:=BD.o.2.1.facts;obtain⟨y0,y1,y2,bI,bJ,bK⟩:=BD.o.r3.1.facts;go_wp2_with fail;clear x0 x1 x2 bE bF bG y0 y1 y2 bI bJ bK;refine(HC.o u2 BD.o.1).mono ?_;rintro r v3 ⟨hd,hb⟩;obtain⟨p3,q3,rfl,hN⟩:=hd.aD;obtain⟨u3,hu⟩:=af (v3.alloc (Obj.cells #[.bool (dN oC),.slice p3 (ws (dX oC)).length q3,.int .i64 (dE oC)] 37));obtain⟨gc,hg⟩:=af (v3.heap.size);have hb2:Below v3.heap.size v3 u3:=by rw[hu];exact ae _ _
 have hD:Dk u3 gc (dN oC) (.slice p3 (ws (dX oC)).length q3) (dE oC):=by rw[hu,hg];exact Dk.new _ _ _ _
 have hM:=hN.below hb2;have hlt:w.heap.size<=gc:=by rw[hg];exact cB BD.o.1.size hb.size
 have Ggc:=ak hlt;have BD:=jY ((BD.o.1.trans (hb.mono BD.o.1.size)).trans (hb2.mono (cB BD.o.1.size hb.size))) ((BD.o.2.1.below hb).below hb2) ((BD.o.r2.1.below hb).below hb2) ((BD.o.r3.1.below hb).below hb2) ((BD.o.r4.below hb).below hb2) hD hM;have HU:=(aJ hu hg);clear hu hg hb hb2 hD hM hN hd hlt HC
 go_upto_region 12 with fail
 rw[<-HU.o.1,<-HU.o.2];clear HU
 go_cut [13] from 46 to 53 (fun q wx=>∃ (g8:Nat) (ap b:Option Addr) (cp cb:Nat),q=.pointer (some ⟨g8,0,none⟩)/\Aside (Bl wx g8 73 [.bool (dN oP),.slice ap (ws (dX oP)).length cp,.int .i64 (dE oP),.bool (dN oQ),.slice b (ws (dX oQ)).length cb,.int .i64 (dE oQ)]/\BR w wx gx gy gc p1 p2 p3 q1 q2 q3 oX oY oC/\Nt 0 wx (.slice ap (ws (dX oP)).length cp) (dX oP)/\Nt 0 wx (.slice b (ws (dX oQ)).length cb) (dX oQ)))
 case first =>
  have BD:Aside (BR w u3.drew gx gy gc p1 p2 p3 q1 q2 q3 oX oY oC):=BR.below ⟨BD.o.1,BD.o.2.1,BD.o.r2.1,BD.o.r3.1,BD.o.r4.1,BD.o.r5.1,BD.o.r6⟩ (aB u3.heap.size u3).drew;have kS:Aside (u3.drew.cell? ⟨gx,0,none⟩=some (.bool (dN oX))/\u3.drew.cell? ⟨gx,1,none⟩=some (.slice p1 (ws (dX oX)).length q1)/\u3.drew.cell? ⟨gx,2,none⟩=some (.int .i64 (dE oX))/\u3.drew.cell? ⟨gy,0,none⟩=some (.bool (dN oY))/\u3.drew.cell? ⟨gy,1,none⟩=some (.slice p2 (ws (dX oY)).length q2)/\u3.drew.cell? ⟨gy,2,none⟩=some (.int .i64 (dE oY))/\u3.drew.cell? ⟨gc,0,none⟩=some (.bool (dN oC))/\u3.drew.cell? ⟨gc,1,none⟩=some (.slice p3 (ws (dX oC)).length q3)/\u3.drew.cell? ⟨gc,2,none⟩=some (.int .i64 (dE oC))):=⟨BD.o.dx.facts.1,BD.o.dx.facts.2.1,BD.o.dx.facts.2.2.1,BD.o.dy.facts.1,BD.o.dy.facts.2.1,BD.o.dy.facts.2.2.1,BD.o.dc.facts.1,BD.o.dc.facts.2.1,BD.o.dc.facts.2.2.1⟩;refine dz (fun w'=>w'.cell? ⟨gx,0,none⟩=some (.bool (dN oX))/\w'.cell? ⟨gx,1,none⟩=some (.slice p1 (ws (dX oX)).length q1)/\w'.cell? ⟨gx,2,none⟩=some (.int .i64 (dE oX))/\w'.cell? ⟨gy,0,none⟩=some (.bool (dN oY))/\w'.cell? ⟨gy,1,none⟩=some (.slice p2 (ws (dX oY)).length q2)/\w'.cell? ⟨gy,2,none⟩=some (.int .i64 (dE oY))/\w'.cell? ⟨gc,0,none⟩=some (.bool (dN oC))/\w'.cell? ⟨gc,1,none⟩=some (.slice p3 (ws (dX oC)).length q3)/\w'.cell? ⟨gc,2,none⟩=some (.int .i64 (dE oC))) 8 (by kernel_rfl) ?_;obtain⟨Wd,hWd⟩:=af (u3.drew);rw[<-hWd] at BD kS |-;clear hWd
  refine tk 0 [2,6] rfl kS.o ?_;try simp only[Act.put,sa,sb,sc]
  refine tk 1 [2,6] rfl kS.o ?_;try simp only[Act.put,sa,sb,sc]
  refine tk 3 [5,6] rfl kS.o ?_;try simp only[Act.put,sa,sb,sc]
  refine tk 4 [5,6] rfl kS.o ?_;try simp only[Act.put,sa,sb,sc]
  refine aU (i:=2) (j:=7) (by kernel_rfl) rfl rfl (fun K' hK=>?_) (fun K' hK=>?_)
  · skip;have C:=hid (T1.o Wd p3 q3 BD.o.nc);go_simp;refine C.o.mono ?_;rintro r u1 ⟨hd,hb⟩;obtain⟨a1,c1,rfl,hN⟩:=hd.aD;have BD:=aJ (BD.o.below hb) hN;have kS:=ak (ck hb kS.o fun h=>ck hb h fun h=>ck1 hb h);clear hb hd hN C;dsimp only;refine hK.out _ _ (fun _=>kS.o) ?_;clear hK K'
    try simp only[Act.put,sa,sb,sc]
    refine aU (i:=5) (j:=7) (by kernel_rfl) rfl rfl (fun K' hK=>?_) (fun K' hK=>?_)
    · skip;have C:=hid (T2.o u1 p1 p2 q1 q2 BD.o.1.nx BD.o.1.ny);go_simp;refine C.o.mono ?_;rintro r u2 ⟨hd,hb⟩;obtain⟨a2,c2,rfl,hN⟩:=hd.aD;have BD:=bO (BD.o.1.below hb) (BD.o.2.below hb) hN;have kS:=ak (ck hb kS.o fun h=>ck hb h fun h=>ck1 hb h);clear hb hd hN C;dsimp only;refine hK.out _ _ (fun _=>kS.o) ?_;clear hK K'
      try simp only[Act.put,sa,sb,sc]
      refine aU (i:=6) (j:=7) (by kernel_rfl) rfl rfl (fun K' hK=>?_) (fun K' hK=>?_)
      · skip;go_simp;refine hK.out _ _ (fun _=>kS.o) ?_;clear hK K'
        try simp only[Act.put,sa,sb,sc]
        refine ah (i:=7) (by kernel_rfl) rfl (fun K' hK=>?_);go_simp;obtain⟨g3,hg3⟩:=af (u2.heap.size);obtain⟨V3,Ju⟩:=af (u2.alloc (Obj.cells #[.bool false,.slice none 0 0,.int .i64 0,.bool false,.slice none 0 0,.int .i64 0] 73));have hb:Below u2.heap.size u2 V3:=by rw[Ju];exact ae _ _
        have hZ:Bl V3 g3 73 [.bool false,.slice none 0 0,.int .i64 0,.bool false,.slice none 0 0,.int .i64 0]:=by rw[Ju,hg3];exact Bl.new _ 73 [.bool false,.slice none 0 0,.int .i64 0,.bool false,.slice none 0 0,.int .i64 0]
        have BD:=jY (BD.o.1.below hb) (BD.o.2.1.below hb) (BD.o.r2.below hb) hZ (show gx<g3 by rw[hg3];exact BD.o.1.dx.lt) (show gy<g3 by rw[hg3];exact BD.o.1.dy.lt) (show gc<g3 by rw[hg3];exact BD.o.1.dc.lt);have kS:=ak (ck hb kS.o fun h=>ck hb h fun h=>ck1 hb h);have HV:=(aJ Ju hg3);clear hZ hb Ju hg3;refine hK.out _ _ (fun _=>by rw[<-HV.o.1];exact kS.o) ?_;clear hK K';rw[<-HV.o.1,<-HV.o.2];clear HV
        try simp only[Act.put,sa,sb,sc]
        have z0:=BD.o.r3.1.cell 0 _ rfl;have dO:=BD.o.r3.1.frozen 0;have z1:=BD.o.r3.1.cell 1 _ rfl;have dP:=BD.o.r3.1.frozen 1;have z2:=BD.o.r3.1.cell 2 _ rfl;have dQ:=BD.o.r3.1.frozen 2;have z3:=BD.o.r3.1.cell 3 _ rfl;have Mw:=BD.o.r3.1.frozen 3;have z4:=BD.o.r3.1.cell 4 _ rfl;have Mx:=BD.o.r3.1.frozen 4;have z5:=BD.o.r3.1.cell 5 _ rfl;have MB:=BD.o.r3.1.frozen 5;have hbt:But g3 V3 _:=(((((((But.refl g3 V3).set 0 (.bool (dN oP))).set 1 (.slice a1 (ws (dX oP)).length c1)).set 2 (.int .i64 (dE oP))).set 3 (.bool (dN oQ))).set 4 (.slice a2 (ws (dX oQ)).length c2)).set 5 (.int .i64 (dE oQ)));have BE:=fE ((((((BD.o.r3.1.set 0 (.bool (dN oP))).set 1 (.slice a1 (ws (dX oP)).length c1)).set 2 (.int .i64 (dE oP))).set 3 (.bool (dN oQ))).set 4 (.slice a2 (ws (dX oQ)).length c2)).set 5 (.int .i64 (dE oQ))) (BD.o.1.but hbt BD.o.r3.1 (by decide) ⟨BD.o.r4.1,BD.o.r5.1,BD.o.r6⟩ (jf (fu Z6.o BD.o.r4.1))) (BD.o.2.1.off hbt (BD.o.2.1.fJ (by decide) BD.o.r3.1)) (BD.o.r2.1.off hbt (BD.o.r2.1.fJ (by decide) BD.o.r3.1));clear hbt;refine ah (i:=8) (by kernel_rfl) rfl (fun K' hK=>?_);go_simp;refine hK.out _ _ (fun h=>absurd h (by decide)) ?_;clear hK K' z0 z1 z2 z3 z4 z5 dO dP dQ Mw Mx MB kS BD;refine aH (by kernel_rfl) ?_ _;go_wp2_with fail
        go_meet
        case rel=>exact⟨g3,a1,a2,c1,c2,rfl,BE.o⟩
      · skip;go_simp;obtain⟨g4,hg4⟩:=af (u2.heap.size);obtain⟨V4,su⟩:=af (u2.alloc (Obj.cells #[.bool false,.slice none 0 0,.int .i64 0,.bool false,.slice none 0 0,.int .i64 0] 73));have hb:Below u2.heap.size u2 V4:=by rw[su];exact ae _ _
        have hZ:Bl V4 g4 73 [.bool false,.slice none 0 0,.int .i64 0,.bool false,.slice none 0 0,.int .i64 0]:=by rw[su,hg4];exact Bl.new _ 73 [.bool false,.slice none 0 0,.int .i64 0,.bool false,.slice none 0 0,.int .i64 0]
        have BD:=jY (BD.o.1.below hb) (BD.o.2.1.below hb) (BD.o.r2.below hb) hZ (show gx<g4 by rw[hg4];exact BD.o.1.dx.lt) (show gy<g4 by rw[hg4];exact BD.o.1.dy.lt) (show gc<g4 by rw[hg4];exact BD.o.1.dc.lt);have kS:=ak (ck hb kS.o fun h=>ck hb h fun h=>ck1 hb h);have HV:=(aJ su hg4);clear hZ hb su hg4;refine hK.out _ _ (fun _=>by rw[<-HV.o.1];exact kS.o) ?_;clear hK K';rw[<-HV.o.1,<-HV.o.2];clear HV
        try simp only[Act.put,sa,sb,sc]
        refine ah (i:=6) (by kernel_rfl) rfl (fun K' hK=>?_);go_simp;refine hK.out _ _ (fun _=>kS.o) ?_;clear hK K'
        try simp only[Act.put,sa,sb,sc]
        have z0:=BD.o.r3.1.cell 0 _ rfl;have dO:=BD.o.r3.1.frozen 0;have z1:=BD.o.r3.1.cell 1 _ rfl;have dP:=BD.o.r3.1.frozen 1;have z2:=BD.o.r3.1.cell 2 _ rfl;have dQ:=BD.o.r3.1.frozen 2;have z3:=BD.o.r3.1.cell 3 _ rfl;have Mw:=BD.o.r3.1.frozen 3;have z4:=BD.o.r3.1.cell 4 _ rfl;have Mx:=BD.o.r3.1.frozen 4;have z5:=BD.o.r3.1.cell 5 _ rfl;have MB:=BD.o.r3.1.frozen 5;have hbt:But g4 V4 _:=(((((((But.refl g4 V4).set 0 (.bool (dN oP))).set 1 (.slice a1 (ws (dX oP)).length c1)).set 2 (.int .i64 (dE oP))).set 3 (.bool (dN oQ))).set 4 (.slice a2 (ws (dX oQ)).length c2)).set 5 (.int .i64 (dE oQ)));have BE:=fE ((((((BD.o.r3.1.set 0 (.bool (dN oP))).set 1 (.slice a1 (ws (dX oP)).length c1)).set 2 (.int .i64 (dE oP))).set 3 (.bool (dN oQ))).set 4 (.slice a2 (ws (dX oQ)).length c2)).set 5 (.int .i64 (dE oQ))) (BD.o.1.but hbt BD.o.r3.1 (by decide) ⟨BD.o.r4.1,BD.o.r5.1,BD.o.r6⟩ (jf (fu Z6.o BD.o.r4.1))) (BD.o.2.1.off hbt (BD.o.2.1.fJ (by decide) BD.o.r3.1)) (BD.o.r2.1.off hbt (BD.o.r2.1.fJ (by decide) BD.o.r3.1));clear hbt;refine ah (i:=8) (by kernel_rfl) rfl (fun K' hK=>?_);go_simp;refine hK.out _ _ (fun h=>absurd h (by decide)) ?_;clear hK K' z0 z1 z2 z3 z4 z5 dO dP dQ Mw Mx MB kS BD;refine aH (by kernel_rfl) ?_ _;go_wp2_with fail
        go_meet
        case rel=>exact⟨g4,a1,a2,c1,c2,rfl,BE.o⟩
    · skip;go_simp;obtain⟨g5,hg5⟩:=af (u1.heap.size);obtain⟨V5,vX⟩:=af (u1.alloc (Obj.cells #[.bool false,.slice none 0 0,.int .i64 0,.bool false,.slice none 0 0,.int .i64 0] 73));have hb:Below u1.heap.size u1 V5:=by rw[vX];exact ae _ _
      have hZ:Bl V5 g5 73 [.bool false,.slice none 0 0,.int .i64 0,.bool false,.slice none 0 0,.int .i64 0]:=by rw[vX,hg5];exact Bl.new _ 73 [.bool false,.slice none 0 0,.int .i64 0,.bool false,.slice none 0 0,.int .i64 0]
      have BD:=iC (BD.o.1.below hb) (BD.o.2.below hb) hZ (show gx<g5 by rw[hg5];exact BD.o.1.dx.lt) (show gy<g5 by rw[hg5];exact BD.o.1.dy.lt) (show gc<g5 by rw[hg5];exact BD.o.1.dc.lt);have kS:=ak (ck hb kS.o fun h=>ck hb h fun h=>ck1 hb h);have HV:=(aJ vX hg5);clear hZ hb vX hg5;refine hK.out _ _ (fun _=>by rw[<-HV.o.1];exact kS.o) ?_;clear hK K';rw[<-HV.o.1,<-HV.o.2];clear HV
      try simp only[Act.put,sa,sb,sc]
      refine ah (i:=5) (by kernel_rfl) rfl (fun K' hK=>?_);have C:=hid (T2.o V5 p1 p2 q1 q2 BD.o.1.nx BD.o.1.ny);go_simp;refine C.o.mono ?_;rintro r u6 ⟨hd,hb⟩;obtain⟨a6,c6,rfl,hN⟩:=hd.aD;have BD:=jY (BD.o.1.below hb) (BD.o.2.1.below hb) (BD.o.r2.1.below hb BD.o.r2.1.lt) BD.o.r3.1 BD.o.r4.1 BD.o.r5 hN;have kS:=ak (ck hb kS.o fun h=>ck hb h fun h=>ck1 hb h);clear hb hd hN C;dsimp only;refine hK.out _ _ (fun _=>kS.o) ?_;clear hK K'
      try simp only[Act.put,sa,sb,sc]
      refine ah (i:=6) (by kernel_rfl) rfl (fun K' hK=>?_);go_simp;refine hK.out _ _ (fun _=>kS.o) ?_;clear hK K'
      try simp only[Act.put,sa,sb,sc]
      have z0:=BD.o.r2.1.cell 0 _ rfl;have dO:=BD.o.r2.1.frozen 0;have z1:=BD.o.r2.1.cell 1 _ rfl;have dP:=BD.o.r2.1.frozen 1;have z2:=BD.o.r2.1.cell 2 _ rfl;have dQ:=BD.o.r2.1.frozen 2;have z3:=BD.o.r2.1.cell 3 _ rfl;have Mw:=BD.o.r2.1.frozen 3;have z4:=BD.o.r2.1.cell 4 _ rfl;have Mx:=BD.o.r2.1.frozen 4;have z5:=BD.o.r2.1.cell 5 _ rfl;have MB:=BD.o.r2.1.frozen 5;have hbt:But g5 u6 _:=(((((((But.refl g5 u6).set 0 (.bool (dN oP))).set 1 (.slice a1 (ws (dX oP)).length c1)).set 2 (.int .i64 (dE oP))).set 3 (.bool (dN oQ))).set 4 (.slice a6 (ws (dX oQ)).length c6)).set 5 (.int .i64 (dE oQ)));have BE:=fE ((((((BD.o.r2.1.set 0 (.bool (dN oP))).set 1 (.slice a1 (ws (dX oP)).length c1)).set 2 (.int .i64 (dE oP))).set 3 (.bool (dN oQ))).set 4 (.slice a6 (ws (dX oQ)).length c6)).set 5 (.int .i64 (dE oQ))) (BD.o.1.but hbt BD.o.r2.1 (by decide) ⟨BD.o.r3.1,BD.o.r4.1,BD.o.r5.1⟩ (jf (fu Z6.o BD.o.r3.1))) (BD.o.2.1.off hbt (BD.o.2.1.fJ (by decide) BD.o.r2.1)) (BD.o.r6.off hbt (BD.o.r6.fJ (by decide) BD.o.r2.1));clear hbt;refine ah (i:=8) (by kernel_rfl) rfl (fun K' hK=>?_);go_simp;refine hK.out _ _ (fun h=>absurd h (by decide)) ?_;clear hK K' z0 z1 z2 z3 z4 z5 dO dP dQ Mw Mx MB kS BD;refine aH (by kernel_rfl) ?_ _;go_wp2_with fail
      go_meet
      case rel=>exact⟨g5,a1,a6,c1,c6,rfl,BE.o⟩
  · skip;go_simp;obtain⟨g7,mo⟩:=af (Wd.heap.size);obtain⟨V7,vY⟩:=af (Wd.alloc (Obj.cells #[.bool false,.slice none 0 0,.int .i64 0,.bool false,.slice none 0 0,.int .i64 0] 73));have hb:Below Wd.heap.size Wd V7:=by rw[vY];exact ae _ _
    have hZ:Bl V7 g7 73 [.bool false,.slice none 0 0,.int .i64 0,.bool false,.slice none 0 0,.int .i64 0]:=by rw[vY,mo];exact Bl.new _ 73 [.bool false,.slice none 0 0,.int .i64 0,.bool false,.slice none 0 0,.int .i64 0]
    have BD:=dJ (BD.o.below hb) hZ (show gx<g7 by rw[mo];exact BD.o.dx.lt) (show gy<g7 by rw[mo];exact BD.o.dy.lt) (show gc<g7 by rw[mo];exact BD.o.dc.lt);have kS:=ak (ck hb kS.o fun h=>ck hb h fun h=>ck1 hb h);have HV:=(aJ vY mo);clear hZ hb vY mo;refine hK.out _ _ (fun _=>by rw[<-HV.o.1];exact kS.o) ?_;clear hK K';rw[<-HV.o.1,<-HV.o.2];clear HV
    try simp only[Act.put,sa,sb,sc]
    refine ah (i:=2) (by kernel_rfl) rfl (fun K' hK=>?_);have C:=hid (T1.o V7 p3 q3 BD.o.1.nc);go_simp;refine C.o.mono ?_;rintro r u8 ⟨hd,hb⟩;obtain⟨a8,c8,rfl,hN⟩:=hd.aD;have BD:=iC (BD.o.1.below hb) (BD.o.2.1.below hb BD.o.2.1.lt) BD.o.r2.1 BD.o.r3.1 BD.o.r4 hN;have kS:=ak (ck hb kS.o fun h=>ck hb h fun h=>ck1 hb h);clear hb hd hN C;dsimp only;refine hK.out _ _ (fun _=>kS.o) ?_;clear hK K'
    try simp only[Act.put,sa,sb,sc]
    refine ah (i:=5) (by kernel_rfl) rfl (fun K' hK=>?_);have C:=hid (T2.o u8 p1 p2 q1 q2 BD.o.1.nx BD.o.1.ny);go_simp;refine C.o.mono ?_;rintro r u9 ⟨hd,hb⟩;obtain⟨a9,c9,rfl,hN⟩:=hd.aD;have BD:=jY (BD.o.1.below hb) (BD.o.2.1.below hb BD.o.2.1.lt) BD.o.r2.1 BD.o.r3.1 BD.o.r4.1 (BD.o.r5.below hb) hN;have kS:=ak (ck hb kS.o fun h=>ck hb h fun h=>ck1 hb h);clear hb hd hN C;dsimp only;refine hK.out _ _ (fun _=>kS.o) ?_;clear hK K'
    try simp only[Act.put,sa,sb,sc]
    refine ah (i:=6) (by kernel_rfl) rfl (fun K' hK=>?_);go_simp;refine hK.out _ _ (fun _=>kS.o) ?_;clear hK K'
    try simp only[Act.put,sa,sb,sc]
    have z0:=BD.o.2.1.cell 0 _ rfl;have dO:=BD.o.2.1.frozen 0;have z1:=BD.o.2.1.cell 1 _ rfl;have dP:=BD.o.2.1.frozen 1;have z2:=BD.o.2.1.cell 2 _ rfl;have dQ:=BD.o.2.1.frozen 2;have z3:=BD.o.2.1.cell 3 _ rfl;have Mw:=BD.o.2.1.frozen 3;have z4:=BD.o.2.1.cell 4 _ rfl;have Mx:=BD.o.2.1.frozen 4;have z5:=BD.o.2.1.cell 5 _ rfl;have MB:=BD.o.2.1.frozen 5;have hbt:But g7 u9 _:=(((((((But.refl g7 u9).set 0 (.bool (dN oP))).set 1 (.slice a8 (ws (dX oP)).length c8)).set 2 (.int .i64 (dE oP))).set 3 (.bool (dN oQ))).set 4 (.slice a9 (ws (dX oQ)).length c9)).set 5 (.int .i64 (dE oQ)));have BE:=fE ((((((BD.o.2.1.set 0 (.bool (dN oP))).set 1 (.slice a8 (ws (dX oP)).length c8)).set 2 (.int .i64 (dE oP))).set 3 (.bool (dN oQ))).set 4 (.slice a9 (ws (dX oQ)).length c9)).set 5 (.int .i64 (dE oQ))) (BD.o.1.but hbt BD.o.2.1 (by decide) ⟨BD.o.r2.1,BD.o.r3.1,BD.o.r4.1⟩ (jf (fu Z6.o BD.o.r2.1))) (BD.o.r5.1.off hbt (BD.o.r5.1.fJ (by decide) BD.o.2.1)) (BD.o.r6.off hbt (BD.o.r6.fJ (by decide) BD.o.2.1));clear hbt;refine ah (i:=8) (by kernel_rfl) rfl (fun K' hK=>?_);go_simp;refine hK.out _ _ (fun h=>absurd h (by decide)) ?_;clear hK K' z0 z1 z2 z3 z4 z5 dO dP dQ Mw Mx MB kS BD;refine aH (by kernel_rfl) ?_ _;go_wp2_with fail
    go_meet
    case rel=>exact⟨g7,a8,a9,c8,c9,rfl,BE.o⟩
 obtain⟨g8,ap,b,cp,cb,rfl,K1⟩:=hcut;obtain⟨U,hU⟩:=af wc;rw[<-hU] at K1 |-;clear hU BD T1 T2 e1 e2;have c0:=K1.o.2.1.dc.facts.1
 by_cases hc:dN oC=true
 · rw[hc] at c0;obtain rfl:mm=zD (k:Int):=by rw[HH.o.2.1,if_pos hc]
   obtain rfl:Y=mP X:=by rw[HH.o.r3.1,if_pos hc]
   have hk:=HH.o.1;have eX:=HH.o.r4;obtain⟨V,hV⟩:=af (U.alloc (Obj.cells #[.int .i64 0,.int .i64 1,.int .i64 3,.int .i64 2,.int .i64 4] 3));obtain⟨gt,hgt⟩:=af (U.heap.size);have hb2:Below U.heap.size U V:=by rw[hV];exact ae _ _
   have hBt:Bl V gt 3 [.int .i64 0,.int .i64 1,.int .i64 3,.int .i64 2,.int .i64 4]:=by rw[hV,hgt];exact Bl.new _ _ _
   have K2:=(dJ (K1.o.2.1.b.trans (hb2.mono K1.o.2.1.b.size)) (K1.o.1.below hb2 K1.o.1.lt) (K1.o.r2.1.below hb2) (K1.o.r3.below hb2) hBt);have HV:=(aJ hV hgt);clear hV hgt hb2 hBt K1 HH hc
   go_upto_region 16 with fail
   rw[<-HV.o.1,<-HV.o.2];clear HV c0
   have t0:V.cell? ⟨gt,k,none⟩=some (.int .i64 (zD (k:Int))):=by
    refine K2.o.r4.cell k _ ?_;have:k=0\/k=1\/k=2\/k=3\/k=4:=by omega
    rcases this with rfl|rfl|rfl|rfl|rfl <;> rfl
   have hk5:(k:Int)<5:=by omega
   have hk0:(0:Int)<=(k:Int):=by omega
   have hd5:decide ((k:Int)<5)=true:=decide_eq_true hk5;have hd0:decide ((0:Int)<=(k:Int))=true:=decide_eq_true hk0;have hdr:=(aB V.heap.size V).drew;have kS:Aside (V.drew.cell? ⟨g8,0,none⟩=some (.bool (dN oP))/\V.drew.cell? ⟨g8,1,none⟩=some (.slice ap (ws (dX oP)).length cp)/\V.drew.cell? ⟨g8,2,none⟩=some (.int .i64 (dE oP))/\V.drew.cell? ⟨g8,3,none⟩=some (.bool (dN oQ))/\V.drew.cell? ⟨g8,4,none⟩=some (.slice b (ws (dX oQ)).length cb)/\V.drew.cell? ⟨g8,5,none⟩=some (.int .i64 (dE oQ))/\V.drew.cell? ⟨gt,k,none⟩=some (.int .i64 (zD (k:Int)))):=⟨jA (K2.o.2.1.cell 0 _ rfl) hdr,jA (K2.o.2.1.cell 1 _ rfl) hdr,jA (K2.o.2.1.cell 2 _ rfl) hdr,jA (K2.o.2.1.cell 3 _ rfl) hdr,jA (K2.o.2.1.cell 4 _ rfl) hdr,jA (K2.o.2.1.cell 5 _ rfl) hdr,jA t0 hdr⟩;have C:=hid (HR.o V.drew ap b cp cb (K2.o.r2.1.below hdr) (K2.o.r3.1.below hdr));have K3:=ak (K2.o.1.trans (hdr.mono K2.o.1.size));clear K2 HR hdr t0
   go_region_held3 (fun w'=>w'.cell? ⟨g8,0,none⟩=some (.bool (dN oP))/\w'.cell? ⟨g8,1,none⟩=some (.slice ap (ws (dX oP)).length cp)/\w'.cell? ⟨g8,2,none⟩=some (.int .i64 (dE oP))/\w'.cell? ⟨g8,3,none⟩=some (.bool (dN oQ))/\w'.cell? ⟨g8,4,none⟩=some (.slice b (ws (dX oQ)).length cb)/\w'.cell? ⟨g8,5,none⟩=some (.int .i64 (dE oQ))/\w'.cell? ⟨gt,k,none⟩=some (.int .i64 (zD (k:Int)))) (with_reducible exact kS.o) (first
    | (go_at_call 60
       with_reducible refine C.o.mono ?_
       rintro r v2 ⟨rfl,hb⟩;have K4:=ak (K3.o.trans (hb.mono K3.o.size));have kS:=ak (ck hb kS.o fun h=>l9 hb h)
       clear hb C))
   go_wp2;exact aC (v:=.tuple #[.float .f64 (mP X),.int .i64 0]) (by simp[results,Tryz.results27,go_sem]) rfl ⟨rfl,K4.o⟩
 · rw[zW] at hc;rw[hc] at c0;obtain rfl:mm=(k:Int):=by rw[HH.o.2.1,hc];rfl
   obtain rfl:Y=X:=by rw[HH.o.r3.1,hc];rfl
   have C:=hid (HR.o U ap b cp cb K1.o.r2.1 K1.o.r3);have y0:=K1.o.1.cell 0 _ rfl;have y1:=K1.o.1.cell 1 _ rfl;have y2:=K1.o.1.cell 2 _ rfl;have y3:=K1.o.1.cell 3 _ rfl;have y4:=K1.o.1.cell 4 _ rfl;have y5:=K1.o.1.cell 5 _ rfl;have K3:=ak K1.o.2.1.b;clear K1 HR HH hc;go_wp2_with fail;refine C.o.mono ?_;rintro r v2 ⟨rfl,hb⟩;have K4:=ak (K3.o.trans (hb.mono K3.o.size));clear hb C y0 y1 y2 y3 y4 y5 K3;go_wp2;exact aC (v:=.tuple #[.float .f64 Y,.int .i64 0]) (by simp[results,Tryz.results27,go_sem]) rfl ⟨rfl,K4.o⟩
end
section
open Go Go.RowKit J
theorem QZ (a a2:Option Addr) (n n2 c c2:Nat) (mode:Int) (w:World)
 (ma:Hid (∀ u:World,Ax 61 #[.int .i64 mode] u (.bool false))) :
 At 27 #[.slice a n c,.slice a2 n2 c2,.int .i64 mode] w (.tuple #[.float .f64 0,.int .i64 1]):=by
 go_enter Tryz.func27,Tryz.ntmps27;go_wp2_with fail;refine(ma.o w).mono ?_;rintro r v0 ⟨rfl,hq⟩;rw[hq];clear hq v0 ma;go_wp2;exact aC (v:=.tuple #[.float .f64 0,.int .i64 1]) (by simp[results,Tryz.results27,go_sem]) rfl ⟨rfl,aB _ _⟩
theorem ME (a a2:Option Addr) (n n2 c c2:Nat) (mode tw:Int) (w:World) (h0:tw≠0)
 (ma:Hid (∀ u:World,Ax 61 #[.int .i64 mode] u (.bool true)))
 (H2:Hid (At 69 #[.slice a n c,.slice a2 n2 c2,.int .i64 0] w (.int .i64 tw))) :
 At 27 #[.slice a n c,.slice a2 n2 c2,.int .i64 mode] w (.tuple #[.float .f64 0,.int .i64 tw]):=by
 have hne:(tw != 0)=true:=by simp[h0]
 clear h0;go_enter Tryz.func27,Tryz.ntmps27;go_wp2_with fail;refine(ma.o w).mono ?_;rintro r v0 ⟨rfl,hq⟩;rw[hq];clear hq v0 ma;go_wp2_with fail;refine H2.o.mono ?_;rintro r u0 ⟨rfl,hb⟩;have BD:=ak hb;clear hb H2;go_wp2;exact aC (v:=.tuple #[.float .f64 0,.int .i64 tw]) (by simp[results,Tryz.results27,go_sem]) rfl ⟨rfl,BD.o⟩
theorem xl{P:Prop}(h:P:=by
 clear h1 FA;go_wp2;exact aC (v:=.tuple #[.float .f64 0,.int .i64 190]) (by simp[results,Tryz.results27,go_sem]) rfl ⟨rfl,BD.o.1⟩):P:=h
theorem Hw (a a2:Option Addr) (n n2 c c2:Nat) (mode:Int) (w:World) (oX oY:Option (Bool×Nat×Int))
 (ma:Hid (∀ u:World,Ax 61 #[.int .i64 mode] u (.bool true)))
 (H2:Hid (At 69 #[.slice a n c,.slice a2 n2 c2,.int .i64 0] w (.int .i64 0)))
 (HX:Hid (∀ u:World,An w u->As 59 #[.slice a n c,.slice a n c] u fun r w'=>aN 0 w' r oX/\An u w')) (HY:Hid (∀ u:World,An w u->As 59 #[.slice a2 n2 c2,.slice a2 n2 c2] u fun r w'=>aN 0 w' r oY/\An u w')) (FF:(ws (dX oX)).length=0\/(ws (dX oY)).length=0) :
 At 27 #[.slice a n c,.slice a2 n2 c2,.int .i64 mode] w (.tuple #[.float .f64 0,.int .i64 190]):=by
 have FA:=ak FF;clear FF;go_enter Tryz.func27,Tryz.ntmps27;go_wp2_with fail;refine(ma.o w).mono ?_;rintro r v0 ⟨rfl,hq⟩;rw[hq];clear hq v0 ma;go_wp2_with fail;refine H2.o.mono ?_;rintro r u0 ⟨rfl,hb⟩;have BD:=ak hb;clear hb H2;go_wp2_with fail;refine(HX.o u0 BD.o).mono ?_;rintro r v1 ⟨hd,hb⟩;obtain⟨p1,q1,rfl,hN⟩:=hd.aD;obtain⟨u1,hu⟩:=af (v1.alloc (Obj.cells #[.bool (dN oX),.slice p1 (ws (dX oX)).length q1,.int .i64 (dE oX)] 37));obtain⟨gx,hg⟩:=af (v1.heap.size);have hb2:Below v1.heap.size v1 u1:=by rw[hu];exact ae _ _
 have hD:Dk u1 gx (dN oX) (.slice p1 (ws (dX oX)).length q1) (dE oX):=by rw[hu,hg];exact Dk.new _ _ _ _
 have hM:=hN.below hb2;have hlt:w.heap.size<=gx:=by rw[hg];exact cB BD.o.size hb.size
 have Z6:=ak hlt;have BD:=bO ((BD.o.trans (hb.mono BD.o.size)).trans (hb2.mono (cB BD.o.size hb.size))) hD hM;have HU:=(aJ hu hg);clear hu hg hb hb2 hD hM hN hd hlt HX;go_wp2_with fail;rw[<-HU.o.1,<-HU.o.2];clear HU;refine(HY.o u1 BD.o.1).mono ?_;rintro r v2 ⟨hd,hb⟩;obtain⟨p2,q2,rfl,hN⟩:=hd.aD;obtain⟨u2,hu⟩:=af (v2.alloc (Obj.cells #[.bool (dN oY),.slice p2 (ws (dX oY)).length q2,.int .i64 (dE oY)] 37));obtain⟨gy,hg⟩:=af (v2.heap.size);have hb2:Below v2.heap.size v2 u2:=by rw[hu];exact ae _ _
 have hD:Dk u2 gy (dN oY) (.slice p2 (ws (dX oY)).length q2) (dE oY):=by rw[hu,hg];exact Dk.new _ _ _ _
 have hM:=hN.below hb2;have hlt:w.heap.size<=gy:=by rw[hg];exact cB BD.o.1.size hb.size
 have Ggy:=ak hlt;have BD:=dJ ((BD.o.1.trans (hb.mono BD.o.1.size)).trans (hb2.mono (cB BD.o.1.size hb.size))) ((BD.o.2.1.below hb).below hb2) ((BD.o.r2.below hb).below hb2) hD hM;have HU:=(aJ hu hg);clear hu hg hb hb2 hD hM hN hd hlt HY
 go_upto_region 9 with fail
 rw[<-HU.o.1,<-HU.o.2];clear HU;obtain⟨x0,x1,x2,bE,bF,bG⟩:=BD.o.2.1.facts;obtain⟨y0,y1,y2,bI,bJ,bK⟩:=BD.o.r3.1.facts
 by_cases h1:(ws (dX oX)).length=0
 · have e1:(((ws (dX oX)).length:Int)==0)=true:=by simp[h1]
   exact xl
 · have e1:(((ws (dX oX)).length:Int)==0)=false:=by simpa using h1
   have e2:(((ws (dX oY)).length:Int)==0)=true:=by rcases FA.o with q | q;exact absurd q h1;simp[q]
   exact xl
theorem JE(xs ys:List Nat)(a a2:Option Addr)(n n2 c c2:Nat)(mode:Int)(w:World)(hn:n=xs.length)(hn2:n2=ys.length)(hF:Fs w.heap.size w a xs)(hG:Fs w.heap.size w a2 ys)(hW:j4 xs)(hW2:j4 ys)(hl:n<=35184372088832)(hl2:n2<=35184372088832)(z:Nat×Int)(hz:QM xs ys mode=z) :
 At 27 #[.slice a n c,.slice a2 n2 c2,.int .i64 mode] w (.tuple #[.float .f64 z.1,.int .i64 z.2]):=by
 rw[Z5] at hz;have ma:=hid (fun u:World=>BL mode u)
 cases hm:p9 mode with
 | false =>
   rw[hm,if_neg (by decide)] at hz;rw[hm] at ma;subst hz;exact QZ a a2 n n2 c c2 mode w ma
 | true =>
   rw[hm,if_pos rfl] at hz;rw[hm] at ma;have H2:=hid (QY xs ys a a2 n n2 c c2 0 w hn hn2 hF hG hW hW2 hl hl2 _ rfl)
   by_cases h0:qw xs ys 0=0
   · rw[if_pos h0] at hz;rw[h0] at H2;obtain⟨o1,o2⟩:=VO h0;obtain⟨p1,p2,p3,p4⟩:=Jy o1;have he:n=n2:=by omega
     have p5:ys.length<=65536:=by omega
     have b1:=jW hW p3 hW p3 p2 rfl;have b2:=jW hW2 p4 hW2 p4 p5 rfl;have b3:=jW hW p3 hW2 p4 p2 p1;have up:∀ u:World,An w u->Fs u.heap.size u a xs/\Fs u.heap.size u a2 ys:=fun u hb=>⟨(hF.below hb).mono hb.size,(hG.below hb).mono hb.size⟩;have HX:=hid (fun(u:World) (hb:An w u)=>pV xs xs a a n n c c u hn hn rfl (up u hb).1 (up u hb).1 hW p3 hW p3 (by omega));have HY:=hid (fun(u:World) (hb:An w u)=>pV ys ys a2 a2 n2 n2 c2 c2 u hn2 hn2 rfl (up u hb).2 (up u hb).2 hW2 p4 hW2 p4 (by omega));have HC:=hid (fun(u:World) (hb:An w u)=>pV xs ys a a2 n n2 c c2 u hn hn2 he (up u hb).1 (up u hb).2 hW p3 hW2 p4 (by omega));have l1:=JD (u:=2148) (by decide) (by decide) b1;have l2:=JD (u:=2148) (by decide) (by decide) b2
     by_cases hf:cS xs xs=0\/cS ys ys=0
     · rw[if_pos hf] at hz;subst hz;exact Hw a a2 n n2 c c2 mode w _ _ ma H2 HX HY (by rw[l1,l2];exact hf)
     · rw[if_neg hf] at hz;obtain⟨m0,m4⟩:=xQ hm;obtain⟨k,rfl⟩:=E5 m0;have q1:0<cS xs xs:=by have:=Jz xs;have:=fun q=>hf (Or.inl q);omega
       have q2:0<cS ys ys:=by have:=Jz ys;have:=fun q=>hf (Or.inr q);omega
       have hq:=Int.mul_pos q1 q2;have FC:=aZ (u:=2148) (by decide) (by decide) b3;have FX:=aZ (u:=2148) (by decide) (by decide) b1;have FY:=aZ (u:=2148) (by decide) (by decide) b2;have FP:=aZ (u:=4296) (by decide) (by decide) (b3.mul b3);have FQ:=aZ (u:=4296) (by decide) (by decide) (b1.mul b2);have EP:dY (gV 2148 (cS xs ys)) (gV 2148 (cS xs ys))=gV 4296 (cS xs ys*cS xs ys):=iR (by decide) (by decide) (by decide) (by decide) b3 b3;have EQ:dY (gV 2148 (cS xs xs)) (gV 2148 (cS ys ys))=gV 4296 (cS xs xs*cS ys ys):=iR (by decide) (by decide) (by decide) (by decide) b1 b2;have sg:=(GK (u:=2148) (by decide) (by decide) b3).2;obtain⟨mm,hmm⟩:=af (if dN (gV 2148 (cS xs ys)) then zD (k:Int) else(k:Int))
       have hmd:p9 mm=true:=by rw[hmm];split;exact QK hm;exact hm
       obtain⟨K,t,m,hL,hR⟩:=VK (u:=4296) (by decide) (k:=8458) (by decide) (QJ (cS xs ys)) hq (b3.mul b3) (b1.mul b2);have hR':=hR mm (xQ hmd).1 (xQ hmd).2
       have hX:rK mm false K t m<9223372036854775808:=by
        have:=hL.fin;unfold rK
        split
        · omega
        · split <;> omega
       refine Hu a a2 n n2 c c2 k mm w _ _ _ _ _ (rK mm false K t m) _ z ma (by omega) hmm H2 HX HY HC (fun q=>hf (Or.inl (l1.1 q))) (fun q=>hf (Or.inr (l2.1 q))) (hid fun u p k hN=>jw FC FC FP hN hN EP) (hid fun u p q k l h1 h2=>jw FX FY FQ h1 h2 EQ) (hid fun u ap b cp cb n1 n2=>?_) hX rfl ?_
       · have:=Ug mm FP FQ n1 n2;rw[hR'] at this;exact this
       · rw[<-hz];unfold VM
         by_cases hc:0<=cS xs ys
         · have hd:dN (gV 2148 (cS xs ys))=false:=by rw[Bool.eq_false_iff];intro q;have:=sg.1 q;omega
           rw[hd] at hmm;rw[if_pos hc,hd,<-(show mm=(k:Int) from hmm),hR'];rfl
         · have hd:dN (gV 2148 (cS xs ys))=true:=sg.2 (by omega);rw[hd] at hmm;rw[if_neg hc,hd,<-(show mm=zD (k:Int) from hmm),hR'];rfl
   · rw[if_neg h0] at hz;subst hz;exact ME a a2 n n2 c c2 mode _ w h0 ma H2
theorem z7{P:Prop}(h:P:=by
 clear h h1;go_enter Tryz.func25,Tryz.ntmps25;go_wp2_with fail;refine ma.o.mono ?_;rintro r v0 ⟨rfl,hq⟩;rw[hq];clear hq v0 ma;go_wp2;exact aC (v:=.tuple #[.float .f64 0,.int .i64 1]) (by simp[results,Tryz.results25,go_sem]) rfl ⟨rfl,aB _ _⟩):P:=h
theorem Q0(a:Option Addr)(n c:Nat)(k mode:Int)(w:World)(b:Bool)(ma:Hid (Ax 61 #[.int .i64 mode] w (.bool b)))(h:(b&&(decide (1<=k)&&decide (k<=4)))=false) :
 At 25 #[.slice a n c,.int .i64 k,.int .i64 mode] w (.tuple #[.float .f64 0,.int .i64 1]):=by
 by_cases hb:b=true
 · rw[hb,og] at h;subst hb
   by_cases h1:1<=k
   · rw[decide_eq_true h1,og] at h;have d1:decide (k<1)=false:=decide_eq_false (by omega);have d2:decide (4<k)=true:=decide_eq_true (by have:=of_decide_eq_false h;omega);exact z7
   · have d1:decide (k<1)=true:=decide_eq_true (by omega);exact z7
 · rw[zW] at hb;subst hb;clear h;go_enter Tryz.func25,Tryz.ntmps25;go_wp2_with fail;refine ma.o.mono ?_;rintro r v0 ⟨rfl,hq⟩;rw[hq];clear hq v0 ma;go_wp2;exact aC (v:=.tuple #[.float .f64 0,.int .i64 1]) (by simp[results,Tryz.results25,go_sem]) rfl ⟨rfl,aB _ _⟩
theorem MF(a:Option Addr)(n c:Nat)(k mode:Int)(w:World)(ma:Hid (Ax 61 #[.int .i64 mode] w (.bool true)))(h1:1<=k)(h4:k<=4)(hl:65536<n) :
 At 25 #[.slice a n c,.int .i64 k,.int .i64 mode] w (.tuple #[.float .f64 0,.int .i64 2]):=by
 have d3:decide ((65536:Int)<(n:Int))=true:=decide_eq_true (by omega);clear hl;have d1:decide (k<1)=false:=decide_eq_false (by omega);have d2:decide (4<k)=false:=decide_eq_false (by omega);clear h1 h4;go_enter Tryz.func25,Tryz.ntmps25;go_wp2_with fail;refine ma.o.mono ?_;rintro r v0 ⟨rfl,hq⟩;rw[hq];clear hq v0 ma;go_wp2;exact aC (v:=.tuple #[.float .f64 0,.int .i64 2]) (by simp[results,Tryz.results25,go_sem]) rfl ⟨rfl,aB _ _⟩
theorem Q3(a:Option Addr)(n c:Nat)(k mode:Int)(w:World)(ma:Hid (Ax 61 #[.int .i64 mode] w (.bool true)))(HF:Hid (At 62 #[.slice a n c] w (.bool false)))(h1:1<=k)(h4:k<=4)(hl:n<=65536) :
 At 25 #[.slice a n c,.int .i64 k,.int .i64 mode] w (.tuple #[.float .f64 0,.int .i64 30]):=by
 have d3:decide ((65536:Int)<(n:Int))=false:=decide_eq_false (by omega);clear hl;have d1:decide (k<1)=false:=decide_eq_false (by omega);have d2:decide (4<k)=false:=decide_eq_false (by omega);clear h1 h4;go_enter Tryz.func25,Tryz.ntmps25;go_wp2_with fail;refine ma.o.mono ?_;rintro r v0 ⟨rfl,hq⟩;rw[hq];clear hq v0 ma;go_wp2_with fail;refine HF.o.mono ?_;rintro r u0 ⟨rfl,hb⟩;have BD:=ak hb;clear hb HF;go_wp2;exact aC (v:=.tuple #[.float .f64 0,.int .i64 30]) (by simp[results,Tryz.results25,go_sem]) rfl ⟨rfl,BD.o⟩
theorem MG(a:Option Addr)(c:Nat)(k mode:Int)(w:World)(ma:Hid (Ax 61 #[.int .i64 mode] w (.bool true)))(HF:Hid (At 62 #[.slice a 0 c] w (.bool true)))(h1:1<=k)(h4:k<=4) :
 At 25 #[.slice a 0 c,.int .i64 k,.int .i64 mode] w (.tuple #[.float .f64 0,.int .i64 3]):=by
 have d1:decide (k<1)=false:=decide_eq_false (by omega);have d2:decide (4<k)=false:=decide_eq_false (by omega);clear h1 h4;go_enter Tryz.func25,Tryz.ntmps25;go_wp2_with fail;refine ma.o.mono ?_;rintro r v0 ⟨rfl,hq⟩;rw[hq];clear hq v0 ma;go_wp2_with fail;refine HF.o.mono ?_;rintro r u0 ⟨rfl,hb⟩;have BD:=ak hb;clear hb HF;go_wp2;exact aC (v:=.tuple #[.float .f64 0,.int .i64 3]) (by simp[results,Tryz.results25,go_sem]) rfl ⟨rfl,BD.o⟩
end
end Go.Proofs.YteginbngplldaaaGreatDoor
