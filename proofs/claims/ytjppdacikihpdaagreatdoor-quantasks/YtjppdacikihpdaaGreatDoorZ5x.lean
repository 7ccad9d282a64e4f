import Derived.Test.YtjppdacikihpdaaGreatDoorD39x
import Derived.Test.YtjppdacikihpdaaGreatDoorS10x
import Derived.Deep.RegionHeld3
import Derived.Test.YtjppdacikihpdaaGreatDoorU1x
import Derived.Deep.Cut
import Derived.Test.YtjppdacikihpdaaGreatDoorD32cx
import Derived.Deep.OwnRows
import Derived.Deep.LoopGhost
import Derived.Test.YtjppdacikihpdaaGreatDoorD19x
import Derived.Test.YtjppdacikihpdaaGreatDoorD15x
import Derived.Test.YtjppdacikihpdaaGreatDoorBIeeex
import Derived.Laws.FloatArith
import Derived.Deep.CutRange
import Derived.Test.YtjppdacikihpdaaGreatDoorD8x
set_option linter.unusedVariables false
set_option linter.unusedSimpArgs false
set_option maxHeartbeats 16000000
set_option maxRecDepth 20000
namespace Go.Proofs.YtjppdacikihpdaaGreatDoor
section
open Go.RowKit
theorem fV{X:Nat}(h:bl X<=262144):¬ LG X:=fun k=>by have:=(oo X).1 k;omega
theorem NP{X Y V:Nat}(h1:¬ LG X)(h2:¬ LG Y)(h3:¬ LG V)(e:X*Y=V):iV X Y=(V,0):=by subst e;unfold iV;rw[if_neg (by simp[h1,h2]),if_neg h3]
theorem gM{X:Nat}(h:bl X<=262144):(ws X).length<=8192:=by have:=fV h;unfold LG at this;omega
theorem dQ{X k:Nat}(h:X<2^k):bl X<=k:=by
 by_cases h0:X=0
 · subst h0;rw[df];omega
 · have:=(jI (a:=2) (by decide)).1 (gQ (gL X h0) h);have:=dm X h0;omega
theorem oI{X Y:Nat}(h:X<=Y)(k:bl Y<=262144):bl X<=262144:=by
 have:=dQ (gQ h (iq Y));omega
theorem Fh(x y:Nat):decide (aW x y<0)=decide (x<y):=by
 unfold aW
 by_cases h:x<y
 · simp[h]
 · by_cases h2:y<x <;> simp[h,h2]
theorem RI(x y:Nat):decide (aW x y=0)=decide (x=y):=by
 unfold aW
 by_cases h:x<y
 · have:x≠y:=by omega
   simp[h,this]
 · by_cases h2:y<x
   · have:x≠y:=by omega
     simp[h,h2,this]
   · have:x=y:=by omega
     simp[this]
theorem NU {w:World}{a b:Option Addr}{ca cb:Nat}(n m:Bool) (X Y:Nat) (e f:Int) (size:Nat)
 (AX:Arg w a (ws X).length ca (ws X)) (AY:Arg w b (ws Y).length cb (ws Y)) (hX:X=0\/X%2=1) (hY:Y≠0)
 (he0:-1048576<=e) (he1:e<=1048576) (hf0:-1048576<=f) (hf1:f<=1048576) (hs0:1<=size) (hs:size<=1000) (bX:bl X<=262144) (bY:bl Y<=262144) :
 Calls Tryz.prog 144 #[.agg #[.bool n,.slice a (ws X).length ca,.int .i64 e,.bool m,.slice b (ws Y).length cb,.int .i64 f],.int .i64 (size:Nat)] w fun r w'=>(∃ v,r=.returned (.agg #[v,.int .i64 (e-f-mH X Y size-fB Y size),.bool (vZ X Y size)])/\Nt w.heap.size w' v (iP X Y size))/\Below w.heap.size w w':=by
 have D:=kH X Y size hX hY hs0 hs bX bY;have xI:=dm Y hY;have cutb:fB Y size<=1000/\fB Y size<bl Y:=by unfold fB;omega
 have bH:bl (iO Y size)<=262144:=by have:=D.YZ;omega
 have hHc:bl (iO Y size)+size<=262144\/fB Y size=0:=by have:=D.YZ;unfold fB at *;omega
 have hbyb:-262144<=mH X Y size/\mH X Y size<=264000:=by unfold mH;omega
 have Y3:bl (qm X Y size)<=262144:=by
  have:=dQ D.tV;have h2:bl (iO Y size)+size<=262144:=by have:=D.YZ;unfold fB at this;omega
  omega
 have bW0:bl (mq X Y size)<=262144:=by have:=dQ D.w0;omega
 have bLf:bl (qo X Y size)<=262144:=oI (fD D.lef) bH;have e1:aX Y (-((fB Y size:Nat):Int))=(iO Y size,0):=Ah (fV bY) rfl
 have e2:aX X (mH X Y size)=(qm X Y size,0):=by
  by_cases hb:mH X Y size<0
  · have:=Ah (X:=X) (k:=(-mH X Y size).toNat) (V:=qm X Y size) (fV bX) (by unfold qm;rw[if_pos hb]);rw[show -(((-mH X Y size).toNat:Nat):Int)=mH X Y size by omega] at this;exact this
  · have:=qa (X:=X) (k:=(mH X Y size).toNat) (V:=qm X Y size) (fV bX) (by
     by_cases h0:X=0
     · exact .inl h0
     · right
       have h2:bl (iO Y size)+size<=262144:=by have:=D.YZ;unfold fB at this;omega
       unfold mH at *;omega) (by unfold qm;rw[if_neg hb])
    rw[show(((mH X Y size).toNat:Nat):Int)=mH X Y size by omega] at this;exact this
 have e3:nY (qm X Y size) (iO Y size)=(mq X Y size,qo X Y size,0):=VW (fV Y3) (fV bH) D.hig rfl rfl
 -- what cmpLow is asked
 have hYHb:iO Y size*2^fB Y size<=Y:=D.low';have bBk:bl (iO Y size*2^fB Y size)<=262144:=oI hYHb bY;have bLo:bl (E5 Y size)<=262144:=oI (Nat.sub_le _ _) bY
 have bTk:bl (oH X Y size)<=262144:=by
  have h1:oH X Y size<2^(size+1+fB Y size):=by
   unfold oH;rw[aI];exact wS D.w0 D.lowlt
  have:=dQ h1;omega
 have bHs:bl (qJ X Y size)<=262144:=by
  refine oI (Y:=Y) (dz ?_ hYHb) bY;exact di _ (fD D.lef)
 have c1:aX (iO Y size) ((fB Y size:Nat):Int)=(iO Y size*2^fB Y size,0):=qa (fV bH) (.inr (by have:=D.YZ;omega)) rfl;have c2:nX Y (iO Y size*2^fB Y size)=(E5 Y size,0):=vV (fV bY) (fV bBk) (by unfold E5;omega);have c3:iV (mq X Y size) (E5 Y size)=(oH X Y size,0):=NP (fV bW0) (fV bLo) (fV bTk) rfl
 have c4:aX (qo X Y size) ((fB Y size:Nat):Int)=(qJ X Y size,0):=qa (fV bLf) (by
  by_cases h0:qo X Y size=0
  · exact .inl h0
  · right
    have hlt:qo X Y size<=iO Y size:=fD D.lef;have:=dQ (gQ hlt (iq (iO Y size)));have:=D.YZ
    omega) rfl
 have HC:Hid (∀ (u:World) (p q r s:Option Addr) (cp cq cr cs:Nat),Arg u p (ws (mq X Y size)).length cp (ws (mq X Y size))->Arg u q (ws (qo X Y size)).length cq (ws (qo X Y size))->Arg u r (ws Y).length cr (ws Y)->Arg u s (ws (iO Y size)).length cs (ws (iO Y size))->Calls Tryz.prog 183 #[.slice p (ws (mq X Y size)).length cp,.slice q (ws (qo X Y size)).length cq,.slice r (ws Y).length cr,.slice s (ws (iO Y size)).length cs,.int .i64 ((fB Y size:Nat):Int)] u fun r w'=>r=.returned (.int .i64 (aW (qJ X Y size) (oH X Y size)))/\Below u.heap.size u w') :=
  fun u p q r s cp cq cr cs A1 A2 A3 A4=>IX _ _ _ _ (fB Y size) _ _ _ _ _ A1 A2 A3 A4 (by omega) c1 c2 c3 c4 rfl (gM bBk) (gM bLo) (gM bTk) (gM bHs)
 have Dj:(decide (aW (qJ X Y size) (oH X Y size)=0)&&decide (0<=mH X Y size))=vZ X Y size:=by rw[RI];rfl
 have hcut:max ((bl Y:Int)+(size:Int)-262144) 0=((fB Y size:Nat):Int):=by unfold fB;omega
 by_cases hlt:qJ X Y size<oH X Y size
 · have hz:decide (aW (qJ X Y size) (oH X Y size)<0)=true:=by rw[Fh];exact decide_eq_true hlt
   have e4:nX (mq X Y size) 1=(iP X Y size,0):=by
    refine vV (fV bW0) (fV (by decide)) ?_;have:=D.less hlt;unfold iP;rw[if_pos hlt];omega
   exact Fe n m X Y e f size (bl X) (bl Y) (bl (iO Y size)) (fB Y size) (iO Y size) (qm X Y size) (mq X Y size) (qo X Y size) (iP X Y size) _ (mH X Y size) _ _ _ _ (vZ X Y size) AX AY he0 he1 hf0 hf1 hs rfl rfl rfl bX bY bH rfl hcut (by omega) e1 rfl e2 e3 HC hz e4 rfl rfl rfl Dj (gM bH) (gM Y3) (gM bW0) (gM bLf) (gM (oI (Y:=mq X Y size) (by unfold iP;rw[if_pos hlt];omega) bW0))
 · have hz:decide (aW (qJ X Y size) (oH X Y size)<0)=false:=by rw[Fh];exact decide_eq_false hlt
   have eW:iP X Y size=mq X Y size:=by unfold iP;rw[if_neg hlt]
   rw[eW];exact E9 n m X Y e f size (bl X) (bl Y) (bl (iO Y size)) (fB Y size) (iO Y size) (qm X Y size) (mq X Y size) (qo X Y size) 0 _ (mH X Y size) _ _ _ _ (vZ X Y size) AX AY he0 he1 hf0 hf1 hs rfl rfl rfl bX bY bH rfl hcut (by omega) e1 rfl e2 e3 HC hz rfl rfl rfl Dj (gM bH) (gM Y3) (gM bW0) (gM bLf)
theorem yw(W:World)(g:Nat)(n:Bool)(v:Value)(e k:Int)(tmps:Array Value)(ht:tmps[4]?.getD undef=.pointer (some ⟨g,0,none⟩))(hk:tmps[5]?.getD undef=.int .i64 k)(D:Tk W g 79 (.bool n) v (.int .i64 e)) :
 (results Tryz.f143 tmps).run Tryz.prog W=.ok (.tuple #[.agg #[.bool n,v,.int .i64 e],.int .i64 k]) W:=by
 obtain⟨x0,x1,x2,_,_,_⟩:=D.facts;simp[results,Tryz.results143,ht,hk,go_sem,x0,x1,x2]
theorem Ak(w:World)(v:Value)(x:Int)(t:Bool)(W:World)(hW:W=(w.alloc (.cells #[v,.int .i64 x,.bool t] 171)).alloc (.cells #[.bool false,.slice none 0 0,.int .i64 0] 79)) :
 Below w.heap.size w W/\W.heap.size=w.heap.size+2/\Tk W w.heap.size 171 v (.int .i64 x) (.bool t)/\Tk W (w.heap.size+1) 79 (.bool false) (.slice none 0 0) (.int .i64 0):=by
 rw[hW];refine⟨(ae w _).alloc (by simp) _,by simp,(Tk.new _ _ _ _ _).alloc _,?_⟩;have:=Tk.new (w.alloc (.cells #[v,.int .i64 x,.bool t] 171)) 79 (.bool false) (.slice none 0 0) (.int .i64 0);simpa using this
theorem IY {w:World}{a:Option Addr}{ca:Nat}(n:Bool) (W M2 M3:Nat) (x y E:Int) (dn:Bool) (V:Nat) (de er:Int) (AW:Arg w a (ws W).length ca (ws W)) (hx0:-10000000<=x) (hx1:x<=10000000)
 (e1:aX W 1=(M2,0)) (hy:x-1=y) (hE:min (max y (-4096)) 4096=E) (l2:(ws M2).length<=8192) (lV:(ws V).length<=8192)
 (HM:Hid (∀ (u:World) (p:Option Addr) (q:Nat),Below w.heap.size w u->Arg u p (ws M2).length q (ws M2)->Calls Tryz.prog 94 #[.bool n,.slice p (ws M2).length q,.int .i64 E] u fun r w'=>(∃ v,r=.returned (.tuple #[.agg #[.bool dn,v,.int .i64 de],.int .i64 er])/\Nt u.heap.size w' v V)/\Below u.heap.size u w')) :
 Calls Tryz.prog 143 #[.bool n,.agg #[.slice a (ws W).length ca,.int .i64 x,.bool true]] w fun r w'=>(∃ v,r=.returned (.tuple #[.agg #[.bool dn,v,.int .i64 de],.int .i64 er])/\Nt w.heap.size w' v V)/\Below w.heap.size w w':=by
 obtain⟨W1,hW1⟩:=af ((w.alloc (.cells #[.slice a (ws W).length ca,.int .i64 x,.bool true] 171)).alloc (.cells #[.bool false,.slice none 0 0,.int .i64 0] 79));obtain⟨hB,hz1,SK,DK⟩:=Ak w _ x true W1 hW1;have RH:aX (val (ws W)) 1=(M2,0):=by rw[au];exact e1
 have E1:=ah RH;have hs2:w.heap.size+2<=W1.heap.size:=by omega
 have l1s:(ws 1).length<=8192:=by rw[BA];simp
 have hbel:=hB;have S0:=(iw hbel (AW.below hB) SK DK);clear hbel;clear e1 RH AW hB SK DK hz1;go_enter Tryz.func143,Tryz.ntmps143;obtain⟨x0,x1,x2,_,_,_⟩:=S0.o.r2.1.facts;obtain⟨aC,AW,SK,DK⟩:=S0.o;have HC:=hid (fE 1 AW E1.o (by omega) (by omega));clear aC AW SK DK
 go_upto_region 1 with fail
 rw[<-hW1];clear hW1;go_wp2_with fail;clear x0 x1 x2;refine HC.o.mono ?_;rintro r u1 ⟨v,rfl,hN,hb⟩;obtain⟨a1,c1,rfl,_⟩:=hN.arg (by omega);clear HC;obtain⟨aC,AW,SK,DK⟩:=S0.o;have hbn:=aC.trans (hb.mono aC.size);have S1:=fM hbn (AW.below hb) (SK.below hb) (DK.below hb) (hN.mono aC.size);clear aC AW SK DK;clear hb hbn S0;clear hN;obtain⟨x0,x1,x2,_,_,_⟩:=S1.o.r2.1.facts;obtain⟨aC,AW,SK,DK,N2⟩:=S1.o;have HC:=hid (HM.o u1 _ _ aC (N2.bC (by omega)).2);clear aC AW SK DK N2;go_wp2_with fail;clear x0 x1 x2;refine HC.o.mono ?_;rintro r u2 ⟨⟨v,rfl,hN⟩,hb⟩;obtain⟨a7,c7,rfl,_⟩:=hN.arg (by omega);clear HC;obtain⟨aC,AW,SK,DK,N2⟩:=S1.o;have hbn:=aC.trans (hb.mono aC.size);have S2:=jD hbn (AW.below hb) (SK.below hb) (DK.below hb) (N2.below hb) (hN.mono aC.size);clear aC AW SK DK N2;clear hb hbn S1;clear hN;obtain⟨aC,AW,SK,DK,N2,NV⟩:=S2.o;have hlast:=fG aC NV DK;obtain⟨s0,s1,s2,zZ,z8,Aa⟩:=DK.facts;clear aC AW SK DK N2 NV;clear S2 HM;go_wp2;obtain⟨aC,NZ,DK⟩:=hlast.o;have hsz:=aC.size;exact aB (yw _ (w.heap.size+1) dn (.slice a7 (ws V).length c7) de er _ rfl rfl (DK.set _ _ _)) rfl ⟨⟨_,rfl,NZ.NN DK (by decide) _ _ _⟩,jX aC hsz (by omega) _ _ _⟩
theorem N7 {w:World}{a:Option Addr}{ca:Nat}(n:Bool) (W M2 M3:Nat) (x y E:Int) (dn:Bool) (V:Nat) (de er:Int) (AW:Arg w a (ws W).length ca (ws W)) (hx0:-10000000<=x) (hx1:x<=10000000)
 (e1:aX W 1=(M2,0)) (e2:vG M2 1=(M3,0)) (hy:x-1=y) (hE:min (max y (-4096)) 4096=E) (l2:(ws M2).length<=8192) (l3:(ws M3).length<=8192) (lV:(ws V).length<=8192)
 (HM:Hid (∀ (u:World) (p:Option Addr) (q:Nat),Below w.heap.size w u->Arg u p (ws M3).length q (ws M3)->Calls Tryz.prog 94 #[.bool n,.slice p (ws M3).length q,.int .i64 E] u fun r w'=>(∃ v,r=.returned (.tuple #[.agg #[.bool dn,v,.int .i64 de],.int .i64 er])/\Nt u.heap.size w' v V)/\Below u.heap.size u w')) :
 Calls Tryz.prog 143 #[.bool n,.agg #[.slice a (ws W).length ca,.int .i64 x,.bool false]] w fun r w'=>(∃ v,r=.returned (.tuple #[.agg #[.bool dn,v,.int .i64 de],.int .i64 er])/\Nt w.heap.size w' v V)/\Below w.heap.size w w':=by
 obtain⟨W1,hW1⟩:=af ((w.alloc (.cells #[.slice a (ws W).length ca,.int .i64 x,.bool false] 171)).alloc (.cells #[.bool false,.slice none 0 0,.int .i64 0] 79));obtain⟨hB,hz1,SK,DK⟩:=Ak w _ x false W1 hW1;have RH:aX (val (ws W)) 1=(M2,0):=by rw[au];exact e1
 have e2':vG (val (ws M2)) (val (ws 1))=(M3,0):=by rw[au,au];exact e2
 have E2:=ah e2';clear e2 e2';have E1:=ah RH;have hs2:w.heap.size+2<=W1.heap.size:=by omega
 have l1s:(ws 1).length<=8192:=by rw[BA];simp
 have hbel:=hB;have S0:=(iw hbel (AW.below hB) SK DK);clear hbel;clear e1 RH AW hB SK DK hz1;go_enter Tryz.func143,Tryz.ntmps143;obtain⟨x0,x1,x2,_,_,_⟩:=S0.o.r2.1.facts;obtain⟨aC,AW,SK,DK⟩:=S0.o;have HC:=hid (fE 1 AW E1.o (by omega) (by omega));clear aC AW SK DK
 go_upto_region 1 with fail
 rw[<-hW1];clear hW1;go_wp2_with fail;clear x0 x1 x2;refine HC.o.mono ?_;rintro r u1 ⟨v,rfl,hN,hb⟩;obtain⟨a1,c1,rfl,_⟩:=hN.arg (by omega);clear HC;obtain⟨aC,AW,SK,DK⟩:=S0.o;have hbn:=aC.trans (hb.mono aC.size);have S1:=fM hbn (AW.below hb) (SK.below hb) (DK.below hb) (hN.mono aC.size);clear aC AW SK DK;clear hb hbn S0;clear hN;obtain⟨x0,x1,x2,_,_,_⟩:=S1.o.r2.1.facts;obtain⟨aC,AW,SK,DK,N2⟩:=S1.o;have HC:=hid (mK 1 u1 (by omega));clear aC AW SK DK N2;go_wp2_with fail;clear x0 x1 x2;refine HC.o.mono ?_;rintro r u2 ⟨v,rfl,hN,hb⟩;obtain⟨a5,c5,rfl,_⟩:=hN.arg (by omega);clear HC;obtain⟨aC,AW,SK,DK,N2⟩:=S1.o;have hbn:=aC.trans (hb.mono aC.size);have S2:=jD hbn (AW.below hb) (SK.below hb) (DK.below hb) (N2.below hb) (hN.mono aC.size);clear aC AW SK DK N2;clear hb hbn S1;clear hN;obtain⟨aC,AW,SK,DK,N2,NO⟩:=S2.o;have HC:=hid (vQ (N2.bC (by omega)).2 (NO.bC (by omega)).2 E2.o);clear aC AW SK DK N2 NO;go_wp2_with fail;refine HC.o.mono ?_;rintro r u3 ⟨v,rfl,hN,hb⟩;obtain⟨a6,c6,rfl,_⟩:=hN.arg (by omega);clear HC;obtain⟨aC,AW,SK,DK,N2,NO⟩:=S2.o;have hbn:=aC.trans (hb.mono aC.size);have S3:=Du hbn (AW.below hb) (SK.below hb) (DK.below hb) (N2.below hb) (NO.below hb) (hN.mono aC.size);clear aC AW SK DK N2 NO;clear hb hbn S2;clear hN;obtain⟨x0,x1,x2,_,_,_⟩:=S3.o.r2.1.facts;obtain⟨aC,AW,SK,DK,N2,NO,N3⟩:=S3.o;have HC:=hid (HM.o u3 _ _ aC (N3.bC (by omega)).2);clear aC AW SK DK N2 NO N3;go_wp2_with fail;clear x0 x1 x2;refine HC.o.mono ?_;rintro r u4 ⟨⟨v,rfl,hN⟩,hb⟩;obtain⟨a7,c7,rfl,_⟩:=hN.arg (by omega);clear HC;obtain⟨aC,AW,SK,DK,N2,NO,N3⟩:=S3.o;have hbn:=aC.trans (hb.mono aC.size);have S4:=Dh hbn (AW.below hb) (SK.below hb) (DK.below hb) (N2.below hb) (NO.below hb) (N3.below hb) (hN.mono aC.size);clear aC AW SK DK N2 NO N3;clear hb hbn S3;clear hN;obtain⟨aC,AW,SK,DK,N2,NO,N3,NV⟩:=S4.o;have hlast:=fG aC NV DK;obtain⟨s0,s1,s2,zZ,z8,Aa⟩:=DK.facts;clear aC AW SK DK N2 NO N3 NV;clear S4 HM;go_wp2;obtain⟨aC,NZ,DK⟩:=hlast.o;have hsz:=aC.size;exact aB (yw _ (w.heap.size+1) dn (.slice a7 (ws V).length c7) de er _ rfl rfl (DK.set _ _ _)) rfl ⟨⟨_,rfl,NZ.NN DK (by decide) _ _ _⟩,jX aC hsz (by omega) _ _ _⟩
theorem IZ{w:World}{a:Option Addr}{ca:Nat}(n:Bool)(W:Nat)(x:Int)(t:Bool)(AW:Arg w a (ws W).length ca (ws W))(hT:gF w)(hx0:-10000000<=x)(hx1:x<=10000000)(hW:bl W<=1000) :
 Calls Tryz.prog 143 #[.bool n,.agg #[.slice a (ws W).length ca,.int .i64 x,.bool t]] w fun r w'=>bS w.heap.size w' r (mkS n (2*W+(if t then 0 else 1)) (fq x))/\Below w.heap.size w w':=by
 have hLW:¬ LG W:=fun k=>by have:=(oo W).1 k;omega
 have e1:aX W 1=(2*W,0):=by
  have:=qa (X:=W) (k:=1) (V:=2*W) hLW (.inr (by omega)) (by omega);simpa using this
 have b2:∀ d,d<=1->bl (2*W+d)<=1001:=by
  intro d hd;have h1:=iq W;have h2:2*W+d<2^(bl W+1):=by rw[dC];omega
  by_cases h0:2*W+d=0
  · rw[h0,df];omega
  · have:=(jI (a:=2) (by decide)).1 (gQ (gL _ h0) h2);have:=dm _ h0;omega
 have l8:∀ d,d<=1->(ws (2*W+d)).length<=8192/\¬ LG (2*W+d):=by
  intro d hd;have hb:=b2 d hd;have hn:¬ LG (2*W+d):=fun k=>by have:=(oo (2*W+d)).1 k;omega
  exact⟨by unfold LG at hn;omega,hn⟩
 have cl0:-4096<=fq x/\fq x<=4096:=by unfold fq;omega
 unfold bS;have hl:=aK n (2*W+(if t then 0 else 1)) (fq x)
 cases t with
 | true =>
   simp only[if_true,gJ] at hl |-;refine IY n W (2*W) 0 x _ _ _ _ _ _ AW hx0 hx1 e1 rfl rfl (l8 0 (by omega)).1 hl ?_;intro u p q hu hA;have:=fF hA (hT.belows hu) n (fq x) (by omega) (by omega);rw[au] at this;exact this
 | false =>
   simp only[dP,if_false] at hl |-;refine N7 n W (2*W) (2*W+1) x _ _ _ _ _ _ AW hx0 hx1 e1 (vU (l8 1 (by omega)).2 rfl) rfl rfl (l8 0 (by omega)).1 (l8 1 (by omega)).1 hl ?_;intro u p q hu hA;have:=fF hA (hT.belows hu) n (fq x) (by omega) (by omega);rw[au] at this;exact this
theorem I4(w:World)(n:Bool)(v:Value)(e:Int)(m:Bool)(u:Value)(f:Int)(W:World)(hW:W=(w.alloc (.cells #[.bool n,v,.int .i64 e,.bool m,u,.int .i64 f] 93)).alloc (.cells #[.bool false,.slice none 0 0,.int .i64 0] 79)) :
 Below w.heap.size w W/\W.heap.size=w.heap.size+2/\Rq W w.heap.size n v e m u f/\Tk W (w.heap.size+1) 79 (.bool false) (.slice none 0 0) (.int .i64 0):=by
 rw[hW];refine⟨(ae w _).alloc (by simp) _,by simp,(Rq.new _ _ _ _ _ _ _).alloc _,?_⟩;have:=Tk.new (w.alloc (.cells #[.bool n,v,.int .i64 e,.bool m,u,.int .i64 f] 93)) 79 (.bool false) (.slice none 0 0) (.int .i64 0);simpa using this
theorem rT(W:World)(g:Nat)(n:Bool)(v:Value)(e k:Int)(tmps:Array Value)(ht:tmps[2]?.getD undef=.pointer (some ⟨g,0,none⟩))(hk:tmps[3]?.getD undef=.int .i64 k)(D:Tk W g 79 (.bool n) v (.int .i64 e)) :
 (results Tryz.f92 tmps).run Tryz.prog W=.ok (.tuple #[.agg #[.bool n,v,.int .i64 e],.int .i64 k]) W:=by
 obtain⟨x0,x1,x2,_,_,_⟩:=D.facts;simp[results,Tryz.results92,ht,hk,go_sem,x0,x1,x2]
theorem zl {w:World}{a b:Option Addr}{la ca lb cb:Nat}(n m:Bool) (e f:Int) (WH:Nat) (x:Int) (tt:Bool) (dn:Bool) (V:Nat) (de er:Int) (lW:(ws WH).length<=8192) (lV:(ws V).length<=8192)
 (HD:Hid (∀ u,Below w.heap.size w u->Calls Tryz.prog 144 #[.agg #[.bool n,.slice a la ca,.int .i64 e,.bool m,.slice b lb cb,.int .i64 f],.int .i64 64] u fun r w'=>(∃ v,r=.returned (.agg #[v,.int .i64 x,.bool tt])/\Nt u.heap.size w' v WH)/\Below u.heap.size u w'))
 (HI:Hid (∀ (u:World) (p:Option Addr) (q:Nat),Below w.heap.size w u->Arg u p (ws WH).length q (ws WH)->Calls Tryz.prog 143 #[.bool n,.agg #[.slice p (ws WH).length q,.int .i64 x,.bool tt]] u fun r w'=>(∃ v,r=.returned (.tuple #[.agg #[.bool dn,v,.int .i64 de],.int .i64 er])/\Nt u.heap.size w' v V)/\Below u.heap.size u w')) :
 Calls Tryz.prog 92 #[.agg #[.bool n,.slice a la ca,.int .i64 e,.bool m,.slice b lb cb,.int .i64 f]] w fun r w'=>(∃ v,r=.returned (.tuple #[.agg #[.bool dn,v,.int .i64 de],.int .i64 er])/\Nt w.heap.size w' v V)/\Below w.heap.size w w':=by
 obtain⟨W1,hW1⟩:=af ((w.alloc (.cells #[.bool n,.slice a la ca,.int .i64 e,.bool m,.slice b lb cb,.int .i64 f] 93)).alloc (.cells #[.bool false,.slice none 0 0,.int .i64 0] 79));obtain⟨hB,hz1,RQ,DK⟩:=I4 w n _ e m _ f W1 hW1;have T1:=hid (HD.o W1 hB);have T2:=hid (HD.o W1.drew hB.drew);obtain⟨x0,x1,x2,x3,x4,x5⟩:=RQ.facts;obtain⟨s0,s1,s2,zZ,z8,Aa⟩:=DK.facts;have hs1:w.heap.size+2<=W1.heap.size:=by omega
 have SB:=(fG hB RQ DK);clear hB hz1 RQ DK HD;go_enter Tryz.func92,Tryz.ntmps92;go_wp2_with fail;rw[<-hW1];clear hW1;have ne1:w.heap.size≠w.heap.size+1:=by omega
 have ne2:w.heap.size+1≠w.heap.size:=by omega
 go_region_held3 (fun w'=>w'.cell? ⟨w.heap.size,0,none⟩=some (.bool n)/\w'.cell? ⟨w.heap.size,1,none⟩=some (.slice a la ca)/\w'.cell? ⟨w.heap.size,2,none⟩=some (.int .i64 e)/\w'.cell? ⟨w.heap.size,3,none⟩=some (.bool m)/\w'.cell? ⟨w.heap.size,4,none⟩=some (.slice b lb cb)/\w'.cell? ⟨w.heap.size,5,none⟩=some (.int .i64 f)) (go_keep) (first
  | (go_at_call 144
     first | with_reducible refine T1.o.mono ?_ | with_reducible refine T2.o.mono ?_
     rintro r u1 ⟨⟨v,rfl,hN⟩,hb⟩;obtain⟨a1,c1,rfl,_⟩:=hN.arg (by omega);have hb1:Below W1.heap.size W1 u1:=by first | exact hb | exact((ay _ W1).drew).trans (hb.mono (ak _))
     have BW:Below w.heap.size w u1:=SB.o.1.trans (hb1.mono (by omega));have HI1:=hid (HI.o u1 _ _ BW (hN.bC (by omega)).2);obtain⟨p0,p1,p2,QN,QO,QP⟩:=(SB.o.r2.below hb1).facts;obtain⟨q0,q1,q2,q3,q4,q5⟩:=(SB.o.2.1.below hb1).facts;have S1:=(fG BW (SB.o.2.1.below hb1) (SB.o.r2.below hb1))
     clear hb hb1 BW hN)
  | (go_at_call 143
     with_reducible refine HI1.o.mono ?_
     rintro r u2 ⟨⟨v,rfl,hN⟩,hb⟩;obtain⟨a4,c4,rfl,_⟩:=hN.arg (by omega);have LD:=S1.o.r2.below hb;obtain⟨t0,t1,t2,tf0,tf1,tf2⟩:=LD.facts;obtain⟨i0,i1,i2,i3,i4,i5⟩:=(S1.o.2.1.below hb).facts;have FV:=fG (S1.o.1.trans (hb.mono S1.o.1.size)) (hN.mono S1.o.1.size) LD
     clear hN hb LD))
 all_goals (
  go_wp2;obtain⟨aC,NZ,DK⟩:=FV.o;have hsz:=aC.size
  first
  | exact aB (rT _ (w.heap.size+1) dn (.slice a4 (ws V).length c4) de er _ rfl rfl (DK.set _ _ _)) rfl ⟨⟨_,rfl,NZ.NN DK (by decide) _ _ _⟩,jX aC hsz (by omega) _ _ _⟩
  | exact aB (rT _ (w.heap.size+1) dn (.slice a4 (ws V).length c4) de er _ rfl rfl (DK.set _ _ _)) rfl ⟨⟨_,rfl,NZ.NN DK (by decide) _ _ _⟩,(jX aC hsz (by omega) _ _ _).drew⟩)
theorem Cu {w:World}{a b:Option Addr}{ca cb:Nat}(n m:Bool) (X Y:Nat) (e f:Int)
 (AX:Arg w a (ws X).length ca (ws X)) (AY:Arg w b (ws Y).length cb (ws Y)) (hT:gF w) (hX:X=0\/X%2=1) (hY:Y≠0)
 (he0:-1048576<=e) (he1:e<=1048576) (hf0:-1048576<=f) (hf1:f<=1048576) (bX:bl X<=262144) (bY:bl Y<=262144) :
 Calls Tryz.prog 92 #[.agg #[.bool n,.slice a (ws X).length ca,.int .i64 e,.bool m,.slice b (ws Y).length cb,.int .i64 f]] w fun r w' =>
  bS w.heap.size w' r (mkS n (2*iP X Y 64+(if vZ X Y 64 then 0 else 1)) (fq (e-f-mH X Y 64-fB Y 64)))/\Below w.heap.size w w':=by
 have D:=kH X Y 64 hX hY (by omega) (by omega) bX bY;have bW:bl (iP X Y 64)<=65:=dQ D.most;have hc:fB Y 64<=64:=by unfold fB;omega
 have hb:-262144<=mH X Y 64/\mH X Y 64<=264000:=by have:=D.YZ;unfold mH;omega
 unfold bS;refine zl n m e f (iP X Y 64) (e-f-mH X Y 64-fB Y 64) (vZ X Y 64) _ _ _ _ (gM (by omega)) (aK _ _ _) ?_ ?_
 · intro u hu;exact NU n m X Y e f 64 (AX.below hu) (AY.below hu) hX hY he0 he1 hf0 hf1 (by omega) (by omega) bX bY
 · intro u p q hu hA;exact IZ n (iP X Y 64) _ (vZ X Y 64) hA (hT.belows hu) (by omega) (by omega) (by omega)
theorem yx(W:World)(g:Nat)(n:Bool)(v:Value)(e:Int)(m:Bool)(u:Value)(f k:Int)(tmps:Array Value)(ht:tmps[2]?.getD undef=.pointer (some ⟨g,0,none⟩))(hk:tmps[3]?.getD undef=.int .i64 k)(D:Rq W g n v e m u f) :
 (results Tryz.f181 tmps).run Tryz.prog W=.ok (.tuple #[.agg #[.bool n,v,.int .i64 e,.bool m,u,.int .i64 f],.int .i64 k]) W:=by
 obtain⟨x0,x1,x2,x3,x4,x5⟩:=D.facts;simp[results,Tryz.results181,ht,hk,go_sem,x0,x1,x2,x3,x4,x5]
theorem qK(w:World)(n:Bool)(v:Value)(e:Int)(m:Bool)(u:Value)(f:Int)(W:World)(hW:W=(w.alloc (.cells #[.bool n,v,.int .i64 e,.bool m,u,.int .i64 f] 93)).alloc (.cells #[.bool false,.slice none 0 0,.int .i64 0,.bool false,.slice none 0 0,.int .i64 0] 93)) :
 Below w.heap.size w W/\W.heap.size=w.heap.size+2/\Rq W w.heap.size n v e m u f/\Rq W (w.heap.size+1) false (.slice none 0 0) 0 false (.slice none 0 0) 0:=by
 rw[hW];refine⟨(ae w _).alloc (by simp) _,by simp,(Rq.new _ _ _ _ _ _ _).alloc _,?_⟩;have:=Rq.new (w.alloc (.cells #[.bool n,v,.int .i64 e,.bool m,u,.int .i64 f] 93)) false (.slice none 0 0) 0 false (.slice none 0 0) 0;simpa using this
theorem VX {w:World}{a b:Option Addr}{la ca lb cb:Nat}(n m:Bool) (e f:Int) (n1 m1:Bool) (X Y:Nat) (e1 f1:Int) (lX:(ws X).length<=8192) (lY:(ws Y).length<=8192)
 (H1:Hid (∀ u,Below w.heap.size w u->Calls Tryz.prog 94 #[.bool n,.slice a la ca,.int .i64 e] u fun r w'=>(∃ v,r=.returned (.tuple #[.agg #[.bool n1,v,.int .i64 e1],.int .i64 0])/\Nt u.heap.size w' v X)/\Below u.heap.size u w'))
 (H2:Hid (∀ u,Below w.heap.size w u->Calls Tryz.prog 94 #[.bool m,.slice b lb cb,.int .i64 f] u fun r w'=>(∃ v,r=.returned (.tuple #[.agg #[.bool m1,v,.int .i64 f1],.int .i64 0])/\Nt u.heap.size w' v Y)/\Below u.heap.size u w')) :
 Calls Tryz.prog 181 #[.agg #[.bool n,.slice a la ca,.int .i64 e,.bool m,.slice b lb cb,.int .i64 f]] w fun r w'=>(∃ v u,r=.returned (.tuple #[.agg #[.bool n1,v,.int .i64 e1,.bool m1,u,.int .i64 f1],.int .i64 0])/\Nt w.heap.size w' v X/\Nt w.heap.size w' u Y/\Ap v u)/\Below w.heap.size w w':=by
 obtain⟨W1,hW1⟩:=af ((w.alloc (.cells #[.bool n,.slice a la ca,.int .i64 e,.bool m,.slice b lb cb,.int .i64 f] 93)).alloc (.cells #[.bool false,.slice none 0 0,.int .i64 0,.bool false,.slice none 0 0,.int .i64 0] 93));obtain⟨hB,hz1,RQ,RR⟩:=qK w n _ e m _ f W1 hW1;have hs2:w.heap.size+2<=W1.heap.size:=by omega
 have hbel:=hB;have S0:=(fG hbel RQ RR);clear hbel;clear hB RQ RR hz1;go_enter Tryz.func181,Tryz.ntmps181;obtain⟨x0,x1,x2,x3,x4,x5⟩:=S0.o.2.1.facts;obtain⟨aC,RQ,RR⟩:=S0.o;have HC:=hid (H1.o W1 aC);clear aC RQ RR
 go_upto_region 1 with fail
 rw[<-hW1];clear hW1;go_wp2_with fail;clear x0 x1 x2 x3 x4 x5;refine HC.o.mono ?_;rintro r u1 ⟨⟨v,rfl,hN⟩,hb⟩;obtain⟨a1,c1,rfl,_⟩:=hN.arg (by omega);clear HC;obtain⟨aC,RQ,RR⟩:=S0.o;have hbn:=aC.trans (hb.mono aC.size);have S1:=iw hbn (RQ.below hb) (RR.below hb) (hN.mono aC.size);clear aC RQ RR;clear hb hbn S0;clear hN;obtain⟨U1,aP⟩:=af (u1.alloc (.cells #[.bool n1,.slice a1 (ws X).length c1,.int .i64 e1] 79));obtain⟨aC,RQ,RR,NX⟩:=S1.o;have mR:Below u1.heap.size u1 U1:=by rw[aP];exact ae _ _
 have TN:Tk U1 u1.heap.size 79 (.bool n1) (.slice a1 (ws X).length c1) (.int .i64 e1):=by rw[aP];exact Tk.new _ _ _ _ _
 have hbn:=aC.trans (mR.mono aC.size);have hgu:w.heap.size+2<=u1.heap.size:=by have:=RR.lt;omega
 have S2:=fM hbn (RQ.below mR) (RR.below mR) (NX.below mR) TN;obtain⟨x0,x1,x2,x3,x4,x5⟩:=(RQ.below mR).facts;clear aC RQ RR NX;clear mR hbn TN S1 H1;obtain⟨aC,RQ,RR,NX,TN⟩:=S2.o;have HC:=hid (H2.o U1 aC);clear aC RQ RR NX TN
 go_upto_region 4 with fail
 rw[<-aP];clear aP;go_wp2_with fail;clear x0 x1 x2 x3 x4 x5;refine HC.o.mono ?_;rintro r u3 ⟨⟨v,rfl,hN⟩,hb⟩;obtain⟨a2,c2,rfl,_⟩:=hN.arg (by omega);clear HC;obtain⟨aC,RQ,RR,NX,TN⟩:=S2.o;have hbn:=aC.trans (hb.mono aC.size);have S3:=Du hbn (RQ.below hb) (RR.below hb) (NX.below hb) (TN.below hb) (hN.mono aC.size) (NX.ap hN);clear aC RQ RR NX TN;clear hb hbn S2;clear hN;obtain⟨U3,I5⟩:=af (u3.alloc (.cells #[.bool m1,.slice a2 (ws Y).length c2,.int .i64 f1] 79));obtain⟨aC,RQ,RR,NX,TN,NY,AP⟩:=S3.o;have mR:Below u3.heap.size u3 U3:=by rw[I5];exact ae _ _
 have TD:Tk U3 u3.heap.size 79 (.bool m1) (.slice a2 (ws Y).length c2) (.int .i64 f1):=by rw[I5];exact Tk.new _ _ _ _ _
 have hbn:=aC.trans (mR.mono aC.size);have SZ:=fM hbn (RR.below mR) (NX.below mR) (NY.below mR) AP;obtain⟨x0,x1,x2,_,_,_⟩:=(TN.below mR).facts;obtain⟨y0,y1,y2,_,_,_⟩:=TD.facts;obtain⟨r0,r1,r2,r3,r4,r5⟩:=(RR.below mR).facts;obtain⟨fQ,fT,fU,rf3,rf4,rf5⟩:=(RR.below mR).frz;clear aC RQ RR NX TN NY AP;clear mR hbn TD S3 H2
 go_upto_region 5 with fail
 rw[<-I5];clear I5;go_wp2;obtain⟨aC,RR,NX,NY,AP⟩:=SZ.o;have hbl:=aC.size;refine aB (yx _ (w.heap.size+1) n1 (.slice a1 (ws X).length c1) e1 m1 (.slice a2 (ws Y).length c2) f1 0 _ rfl rfl (RR.set _ _ _ _ _ _)) rfl ⟨⟨_,_,rfl,NX.st6k RR _ _ _ _ _ _,NY.st6k RR _ _ _ _ _ _,AP⟩,tX aC hbl (by omega) _ _ _ _ _ _⟩
theorem N8 {w:World}{a b:Option Addr}{la ca lb cb:Nat}(n m:Bool) (e f:Int) (n1 m1:Bool) (X Y:Nat) (e1 f1:Int) (lX:(ws X).length<=8192) (lY:(ws Y).length<=8192)
 (H1:Hid (∀ u,Below w.heap.size w u->Calls Tryz.prog 94 #[.bool n,.slice a la ca,.int .i64 e] u fun r w'=>(∃ v,r=.returned (.tuple #[.agg #[.bool n1,v,.int .i64 e1],.int .i64 2])/\Nt u.heap.size w' v X)/\Below u.heap.size u w'))
  :
 Calls Tryz.prog 181 #[.agg #[.bool n,.slice a la ca,.int .i64 e,.bool m,.slice b lb cb,.int .i64 f]] w fun r w'=>(∃ v u,r=.returned (.tuple #[.agg #[.bool false,v,.int .i64 0,.bool false,u,.int .i64 0],.int .i64 2])/\v=.slice none 0 0/\u=.slice none 0 0)/\Below w.heap.size w w':=by
 obtain⟨W1,hW1⟩:=af ((w.alloc (.cells #[.bool n,.slice a la ca,.int .i64 e,.bool m,.slice b lb cb,.int .i64 f] 93)).alloc (.cells #[.bool false,.slice none 0 0,.int .i64 0,.bool false,.slice none 0 0,.int .i64 0] 93));obtain⟨hB,hz1,RQ,RR⟩:=qK w n _ e m _ f W1 hW1;have hs2:w.heap.size+2<=W1.heap.size:=by omega
 have hbel:=hB;have S0:=(fG hbel RQ RR);clear hbel;clear hB RQ RR hz1;go_enter Tryz.func181,Tryz.ntmps181;obtain⟨x0,x1,x2,x3,x4,x5⟩:=S0.o.2.1.facts;obtain⟨aC,RQ,RR⟩:=S0.o;have HC:=hid (H1.o W1 aC);clear aC RQ RR
 go_upto_region 1 with fail
 rw[<-hW1];clear hW1;go_wp2_with fail;clear x0 x1 x2 x3 x4 x5;refine HC.o.mono ?_;rintro r u1 ⟨⟨v,rfl,hN⟩,hb⟩;obtain⟨a1,c1,rfl,_⟩:=hN.arg (by omega);clear HC;obtain⟨aC,RQ,RR⟩:=S0.o;have hbn:=aC.trans (hb.mono aC.size);have S1:=fG hbn (RQ.below hb) (RR.below hb);clear aC RQ RR;clear hb hbn S0;clear hN;obtain⟨U1,aP⟩:=af (u1.alloc (.cells #[.bool n1,.slice a1 (ws X).length c1,.int .i64 e1] 79));obtain⟨aC,RQ,RR⟩:=S1.o;have mR:Below u1.heap.size u1 U1:=by rw[aP];exact ae _ _
 have hlast:=aZ (aC.trans (mR.mono aC.size)) (RR.below mR);obtain⟨r0,r1,r2,r3,r4,r5⟩:=(RR.below mR).facts;obtain⟨fQ,fT,fU,rf3,rf4,rf5⟩:=(RR.below mR).frz;clear aC RQ RR;clear S1 H1 mR
 go_upto_region 2 with fail
 rw[<-aP];clear aP;go_wp2;obtain⟨aC,RR⟩:=hlast.o;exact aB (yx _ (w.heap.size+1) false (.slice none 0 0) 0 false (.slice none 0 0) 0 2 _ rfl rfl (RR.set _ _ _ _ _ _)) rfl ⟨⟨_,_,rfl,rfl,rfl⟩,tX aC aC.size (by omega) _ _ _ _ _ _⟩
theorem N9 {w:World}{a b:Option Addr}{la ca lb cb:Nat}(n m:Bool) (e f:Int) (n1 m1:Bool) (X Y:Nat) (e1 f1:Int) (lX:(ws X).length<=8192) (lY:(ws Y).length<=8192)
 (H1:Hid (∀ u,Below w.heap.size w u->Calls Tryz.prog 94 #[.bool n,.slice a la ca,.int .i64 e] u fun r w'=>(∃ v,r=.returned (.tuple #[.agg #[.bool n1,v,.int .i64 e1],.int .i64 0])/\Nt u.heap.size w' v X)/\Below u.heap.size u w'))
 (H2:Hid (∀ u,Below w.heap.size w u->Calls Tryz.prog 94 #[.bool m,.slice b lb cb,.int .i64 f] u fun r w'=>(∃ v,r=.returned (.tuple #[.agg #[.bool m1,v,.int .i64 f1],.int .i64 2])/\Nt u.heap.size w' v Y)/\Below u.heap.size u w')) :
 Calls Tryz.prog 181 #[.agg #[.bool n,.slice a la ca,.int .i64 e,.bool m,.slice b lb cb,.int .i64 f]] w fun r w'=>(∃ v u,r=.returned (.tuple #[.agg #[.bool false,v,.int .i64 0,.bool false,u,.int .i64 0],.int .i64 2])/\v=.slice none 0 0/\u=.slice none 0 0)/\Below w.heap.size w w':=by
 obtain⟨W1,hW1⟩:=af ((w.alloc (.cells #[.bool n,.slice a la ca,.int .i64 e,.bool m,.slice b lb cb,.int .i64 f] 93)).alloc (.cells #[.bool false,.slice none 0 0,.int .i64 0,.bool false,.slice none 0 0,.int .i64 0] 93));obtain⟨hB,hz1,RQ,RR⟩:=qK w n _ e m _ f W1 hW1;have hs2:w.heap.size+2<=W1.heap.size:=by omega
 have hbel:=hB;have S0:=(fG hbel RQ RR);clear hbel;clear hB RQ RR hz1;go_enter Tryz.func181,Tryz.ntmps181;obtain⟨x0,x1,x2,x3,x4,x5⟩:=S0.o.2.1.facts;obtain⟨aC,RQ,RR⟩:=S0.o;have HC:=hid (H1.o W1 aC);clear aC RQ RR
 go_upto_region 1 with fail
 rw[<-hW1];clear hW1;go_wp2_with fail;clear x0 x1 x2 x3 x4 x5;refine HC.o.mono ?_;rintro r u1 ⟨⟨v,rfl,hN⟩,hb⟩;obtain⟨a1,c1,rfl,_⟩:=hN.arg (by omega);clear HC;obtain⟨aC,RQ,RR⟩:=S0.o;have hbn:=aC.trans (hb.mono aC.size);have S1:=iw hbn (RQ.below hb) (RR.below hb) (hN.mono aC.size);clear aC RQ RR;clear hb hbn S0;clear hN;obtain⟨U1,aP⟩:=af (u1.alloc (.cells #[.bool n1,.slice a1 (ws X).length c1,.int .i64 e1] 79));obtain⟨aC,RQ,RR,NX⟩:=S1.o;have mR:Below u1.heap.size u1 U1:=by rw[aP];exact ae _ _
 have TN:Tk U1 u1.heap.size 79 (.bool n1) (.slice a1 (ws X).length c1) (.int .i64 e1):=by rw[aP];exact Tk.new _ _ _ _ _
 have hbn:=aC.trans (mR.mono aC.size);have hgu:w.heap.size+2<=u1.heap.size:=by have:=RR.lt;omega
 have S2:=fM hbn (RQ.below mR) (RR.below mR) (NX.below mR) TN;obtain⟨x0,x1,x2,x3,x4,x5⟩:=(RQ.below mR).facts;clear aC RQ RR NX;clear mR hbn TN S1 H1;obtain⟨aC,RQ,RR,NX,TN⟩:=S2.o;have HC:=hid (H2.o U1 aC);clear aC RQ RR NX TN
 go_upto_region 4 with fail
 rw[<-aP];clear aP;go_wp2_with fail;clear x0 x1 x2 x3 x4 x5;refine HC.o.mono ?_;rintro r u3 ⟨⟨v,rfl,hN⟩,hb⟩;obtain⟨a2,c2,rfl,_⟩:=hN.arg (by omega);clear HC;obtain⟨aC,RQ,RR,NX,TN⟩:=S2.o;have hbn:=aC.trans (hb.mono aC.size);have S3:=fM hbn (RQ.below hb) (RR.below hb) (NX.below hb) (TN.below hb);clear aC RQ RR NX TN;clear hb hbn S2;clear hN;obtain⟨U3,I5⟩:=af (u3.alloc (.cells #[.bool m1,.slice a2 (ws Y).length c2,.int .i64 f1] 79));obtain⟨aC,RQ,RR,NX,TN⟩:=S3.o;have mR:Below u3.heap.size u3 U3:=by rw[I5];exact ae _ _
 have hlast:=aZ (aC.trans (mR.mono aC.size)) (RR.below mR);obtain⟨r0,r1,r2,r3,r4,r5⟩:=(RR.below mR).facts;obtain⟨fQ,fT,fU,rf3,rf4,rf5⟩:=(RR.below mR).frz;clear aC RQ RR NX TN;clear S3 H2 mR
 go_upto_region 5 with fail
 rw[<-I5];clear I5;go_wp2;obtain⟨aC,RR⟩:=hlast.o;exact aB (yx _ (w.heap.size+1) false (.slice none 0 0) 0 false (.slice none 0 0) 0 2 _ rfl rfl (RR.set _ _ _ _ _ _)) rfl ⟨⟨_,_,rfl,rfl,rfl⟩,tX aC aC.size (by omega) _ _ _ _ _ _⟩
theorem infoR:(Tryz.prog.info? 93).map (fun i=>(i.zero,i.size,i.bytes))=some (some (.agg #[.bool false,.slice none 0 0,.int .i64 0,.bool false,.slice none 0 0,.int .i64 0]),6,80):=by kernel_rfl
theorem Cv(w:World) :
 (Instr.makeSlice 166 (.int .i64 1) (.int .i64 1)).run Tryz.prog w=.ok (.slice (some ⟨w.heap.size,0,none⟩) 1 1) (w.alloc (.cells #[.bool false,.slice none 0 0,.int .i64 0,.bool false,.slice none 0 0,.int .i64 0] 93)):=by
 have h:=infoR;have e:IntKind.i64.wrap 1=1:=by decide
 cases hq:Tryz.prog.info? 93 with
 | none=>rw[hq] at h;simp at h
 | some i =>
   rw[hq] at h;simp at h;simp[Instr.makeSlice,go_sem,Tryz.underlying166,hq,h,typeInfo,e]
structure Ri where
 n:Bool
 v:Value
 X:Nat
 e:Int
 m:Bool
 u:Value
 Y:Nat
 f:Int
def Av(w:World)(v:Value)(X:Nat):Prop:=∃ a l c xs,v=.slice a l c/\Arg w a l c xs/\val xs=X
theorem Av.below{w w':World}{v:Value}{X:Nat}(h:Av w v X)(hb:Below w.heap.size w w'):Av w' v X:=by
 obtain⟨a,l,c,xs,rfl,hA,hv⟩:=h;exact⟨a,l,c,xs,rfl,hA.below hb,hv⟩
theorem Nt.av{lo:Nat}{w:World}{v:Value}{X:Nat}(h:Nt lo w v X)(hs:(ws X).length<=35184372088832):Av w v X:=by
 obtain⟨a,c,rfl,hA⟩:=h.arg hs;exact⟨a,_,c,_,rfl,hA,au X⟩
def Cw(w:World)(g k:Nat)(I:Nat->Ri):Prop:=∃ cur:Array Value,w.heap[g]?=some (.cells cur 93 (0,0))/\∀ i,i<k->cur[i*6]?=some (.bool (I i).n)/\cur[i*6+1]?=some (I i).v/\cur[i*6+2]?=some (.int .i64 (I i).e)/\cur[i*6+3]?=some (.bool (I i).m)/\cur[i*6+4]?=some (I i).u/\cur[i*6+5]?=some (.int .i64 (I i).f)
theorem Cw.lt{w:World}{g k:Nat}{I:Nat->Ri}(h:Cw w g k I):g<w.heap.size:=by obtain⟨c,h,_⟩:=h;exact(eZ.1 h).1
theorem Cw.below{w w':World}{g k:Nat}{I:Nat->Ri}(h:Cw w g k I)(hb:Below w.heap.size w w'):Cw w' g k I:=by
 have hl:=h.lt;obtain⟨c,h,r⟩:=h;exact⟨c,by rw[hb.block g hl];exact h,r⟩
theorem Cw.facts{w:World}{g k:Nat}{I:Nat->Ri}(h:Cw w g k I)(i:Nat)(hi:i<k) :
 w.cell? ⟨g,i*6,none⟩=some (.bool (I i).n)/\w.cell? ⟨g,i*6+1,none⟩=some (I i).v/\w.cell? ⟨g,i*6+2,none⟩=some (.int .i64 (I i).e)/\w.cell? ⟨g,i*6+3,none⟩=some (.bool (I i).m)/\w.cell? ⟨g,i*6+4,none⟩=some (I i).u/\w.cell? ⟨g,i*6+5,none⟩=some (.int .i64 (I i).f):=by
 obtain⟨c,h,r⟩:=h;obtain⟨r0,r1,r2,r3,r4,r5⟩:=r i hi;simp[World.cell?,h,r0,r1,r2,r3,r4,r5]
def jU(I:Nat->Ri)(k:Nat):Int :=
 if (List.range k).any (fun i=>decide (pV (I i).m (I i).Y<0)) then 1
 else if (List.range k).any (fun i=>!((mkS (I i).n (I i).X (I i).e).isSome&&(mkS (I i).m (I i).Y (I i).f).isSome)) then 2
 else if (List.range k).any (fun i=>decide (dX (mkS (I i).m (I i).Y (I i).f)=0)) then 21 else 0
theorem I6{k i:Nat}{p:Nat->Bool}(hi:i<k)(h:p i=true):(List.range k).any p=true:=wU.2 ⟨i,wG.2 hi,h⟩
theorem tY{k:Nat}{p:Nat->Bool}(h:∀ i,i<k->p i=false):(List.range k).any p=false:=by
 rw[List.any_eq_false];intro i hi;rw[h i (wG.1 hi)];simp
structure RIn (w:World) (g k:Nat) (I:Nat->Ri):Prop where
 row:Cw w g k I
 one:∀ i,i<k->Av w (I i).v (I i).X/\Av w (I i).u (I i).Y
 qL:∀ i,i<k->-9223372036854775808<=(I i).e/\(I i).e<=9223372036854775807/\-9223372036854775808<=(I i).f/\(I i).f<=9223372036854775807
 tab:gF w
theorem RIn.below{w w':World}{g k:Nat}{I:Nat->Ri}(h:RIn w g k I)(hb:Below w.heap.size w w'):RIn w' g k I :=
 ⟨h.row.below hb,fun i hi=>⟨(h.one i hi).1.below hb,(h.one i hi).2.below hb⟩,h.qL,h.tab.belows hb⟩
def yz(I:Nat->Ri)(V:Nat->Value×Value)(i:Nat):Ri :=
 ⟨dN (mkS (I i).n (I i).X (I i).e),(V i).1,dX (mkS (I i).n (I i).X (I i).e),dE (mkS (I i).n (I i).X (I i).e),dN (mkS (I i).m (I i).Y (I i).f),(V i).2,dX (mkS (I i).m (I i).Y (I i).f),dE (mkS (I i).m (I i).Y (I i).f)⟩
structure Oa (lo:Nat) (w:World) (g k:Nat) (I:Nat->Ri) (V:Nat->Value×Value):Prop where
 row:Cw w g k (yz I V)
 own:lo<=g
 nts:∀ i,i<k->Nt lo w (V i).1 (dX (mkS (I i).n (I i).X (I i).e))/\Nt lo w (V i).2 (dX (mkS (I i).m (I i).Y (I i).f))
theorem Oa.below{lo:Nat}{w w':World}{g k:Nat}{I:Nat->Ri}{V:Nat->Value×Value}(h:Oa lo w g k I V)(hb:Below w.heap.size w w'):Oa lo w' g k I V :=
 ⟨h.row.below hb,h.own,fun i hi=>⟨(h.nts i hi).1.below hb,(h.nts i hi).2.below hb⟩⟩
abbrev RJ(w:World)(g o:Nat)(a b c d e f:Value):World:=(((((w.setCell ⟨g,o,none⟩ a).setCell ⟨g,o+1,none⟩ b).setCell ⟨g,o+2,none⟩ c).setCell ⟨g,o+3,none⟩ d).setCell ⟨g,o+4,none⟩ e).setCell ⟨g,o+5,none⟩ f
theorem oJ(g o:Nat)(w:World)(a b c d e f:Value):But g w (RJ w g o a b c d e f):=((((((But.refl g w).set _ _).set _ _).set _ _).set _ _).set _ _).set _ _
theorem Ob{w:World}{g T:Nat}{cur:Array Value}{fz:Nat×Nat}(h:w.heap[g]?=some (.cells cur T fz))(o:Nat)(v:Value):(w.setCell ⟨g,o,none⟩ v).heap[g]?=some (.cells (cur.setIfInBounds o v) T fz):=by
 simp[World.setCell,gN,h]
theorem I7{w:World}{g T:Nat}{cur:Array Value}{fz:Nat×Nat}(h:w.heap[g]?=some (.cells cur T fz))(o:Nat)(a b c d e f:Value)(ho:o+5<cur.size) :
 ∃ cur',(RJ w g o a b c d e f).heap[g]?=some (.cells cur' T fz)/\cur'.size=cur.size/\(cur'[o]?=some a/\cur'[o+1]?=some b/\cur'[o+2]?=some c/\cur'[o+3]?=some d/\cur'[o+4]?=some e/\cur'[o+5]?=some f)/\∀ j,(j<o\/o+5<j)->cur'[j]?=cur[j]?:=by
 refine⟨_,Ob (Ob (Ob (Ob (Ob (Ob h o a) (o+1) b) (o+2) c) (o+3) d) (o+4) e) (o+5) f,by simp,?_,?_⟩
 · simp[Array.getElem?_setIfInBounds];omega
 · intro j hj;have n0:o≠j:=by omega
   have n1:o+1≠j:=by omega
   have n2:o+2≠j:=by omega
   have n3:o+3≠j:=by omega
   have n4:o+4≠j:=by omega
   have n5:o+5≠j:=by omega
   simp[Array.getElem?_setIfInBounds,n0,n1,n2,n3,n4,n5]
structure kK (lo:Nat) (w:World) (g k i:Nat) (I:Nat->Ri) (V:Nat->Value×Value):Prop where
 row:∃ cur:Array Value,w.heap[g]?=some (.cells cur 93 (0,0))/\cur.size=6*k/\∀ j,j<i->cur[j*6]?=some (.bool (yz I V j).n)/\cur[j*6+1]?=some (yz I V j).v/\cur[j*6+2]?=some (.int .i64 (yz I V j).e)/\cur[j*6+3]?=some (.bool (yz I V j).m)/\cur[j*6+4]?=some (yz I V j).u/\cur[j*6+5]?=some (.int .i64 (yz I V j).f)
 own:lo<=g
 nts:∀ j,j<i->Nt lo w (V j).1 (dX (mkS (I j).n (I j).X (I j).e))/\Nt lo w (V j).2 (dX (mkS (I j).m (I j).Y (I j).f))
theorem kK.lt{lo:Nat}{w:World}{g k i:Nat}{I:Nat->Ri}{V:Nat->Value×Value}(h:kK lo w g k i I V):g<w.heap.size:=by obtain⟨c,h,_⟩:=h.row;exact(eZ.1 h).1
theorem kK.below{lo:Nat}{w w':World}{g k i:Nat}{I:Nat->Ri}{V:Nat->Value×Value}(h:kK lo w g k i I V)(hb:Below w.heap.size w w'):kK lo w' g k i I V:=by
 have hl:=h.lt;obtain⟨⟨c,h1,r⟩,h2,h3⟩:=h;exact⟨⟨c,by rw[hb.block g hl];exact h1,r⟩,h2,fun j hj=>⟨(h3 j hj).1.below hb,(h3 j hj).2.below hb⟩⟩
theorem kK.room{lo:Nat}{w:World}{g k i:Nat}{I:Nat->Ri}{V:Nat->Value×Value}(h:kK lo w g k i I V)(j:Nat)(hj:j<6*k):(∃ v,w.cell? ⟨g,j,none⟩=some v)/\w.frozen? ⟨g,j,none⟩=false:=by
 obtain⟨⟨c,h1,hs,r⟩,h2,h3⟩:=h;refine⟨⟨c[j]'(by omega),?_⟩,?_⟩
 · simp[World.cell?,h1]
 · simp[World.frozen?,h1]
theorem kK.o{lo:Nat}{w:World}{g k:Nat}{I:Nat->Ri}{V:Nat->Value×Value}(h:kK lo w g k k I V):Oa lo w g k I V:=by
 obtain⟨⟨c,h1,hs,r⟩,h2,h3⟩:=h;exact⟨⟨c,h1,r⟩,h2,h3⟩
theorem kK.step {lo:Nat}{w:World}{g k i:Nat}{I:Nat->Ri}{V:Nat->Value×Value}(h:kK lo w g k i I V) (hi:i<k) (v u:Value)
 (hv:Nt lo w v (dX (mkS (I i).n (I i).X (I i).e))) (hu:Nt lo w u (dX (mkS (I i).m (I i).Y (I i).f))) :
 ∃ V',kK lo (RJ w g (i*6) (.bool (dN (mkS (I i).n (I i).X (I i).e))) v (.int .i64 (dE (mkS (I i).n (I i).X (I i).e))) (.bool (dN (mkS (I i).m (I i).Y (I i).f))) u (.int .i64 (dE (mkS (I i).m (I i).Y (I i).f)))) g k (i+1) I V':=by
 obtain⟨⟨c,h1,hs,r⟩,h2,h3⟩:=h;obtain⟨c',k1,k2,k3,k4⟩:=I7 h1 (i*6) (.bool (dN (mkS (I i).n (I i).X (I i).e))) v (.int .i64 (dE (mkS (I i).n (I i).X (I i).e))) (.bool (dN (mkS (I i).m (I i).Y (I i).f))) u (.int .i64 (dE (mkS (I i).m (I i).Y (I i).f))) (by omega);refine⟨fun j=>if j=i then(v,u) else V j,⟨c',k1,by omega,fun j hj=>?_⟩,h2,fun j hj=>?_⟩
 · by_cases e:j=i
   · subst e;simp only[yz,if_true];exact k3
   · have:=r j (by omega);rw[k4 _ (by omega),k4 _ (by omega),k4 _ (by omega),k4 _ (by omega),k4 _ (by omega),k4 _ (by omega)];simp only[yz,if_neg e] at this |-;exact this
 · by_cases e:j=i
   · subst e;simp only[if_true];exact⟨hv.off (oJ _ _ _ _ _ _ _ _ _) (hv.Ai (by decide) h1),hu.off (oJ _ _ _ _ _ _ _ _ _) (hu.Ai (by decide) h1)⟩
   · simp only[if_neg e];obtain⟨q1,q2⟩:=h3 j (by omega);exact⟨q1.off (oJ _ _ _ _ _ _ _ _ _) (q1.Ai (by decide) h1),q2.off (oJ _ _ _ _ _ _ _ _ _) (q2.Ai (by decide) h1)⟩
theorem sgnD{w:World}{n:Bool}{v:Value}{X:Nat}{e:Int}(h:Av w v X):Calls Tryz.prog 52 #[.agg #[.bool n,v,.int .i64 e]] w fun r w'=>r=.returned (.int .i64 (pV n X))/\Below w.heap.size w w':=by
 obtain⟨a,l,c,xs,rfl,hA,rfl⟩:=h;exact tO hA n e
theorem formD{w:World}{r:Ri}(h1:Av w r.v r.X)(h2:Av w r.u r.Y)(hT:gF w)(b0:-9223372036854775808<=r.e)(b1:r.e<=9223372036854775807)(b2:-9223372036854775808<=r.f)(b3:r.f<=9223372036854775807) :
 Calls Tryz.prog 181 #[.agg #[.bool r.n,r.v,.int .i64 r.e,.bool r.m,r.u,.int .i64 r.f]] w fun q w' =>
  (((mkS r.n r.X r.e).isSome&&(mkS r.m r.Y r.f).isSome)=true->∃ v u,q=.returned (.tuple #[.agg #[.bool (dN (mkS r.n r.X r.e)),v,.int .i64 (dE (mkS r.n r.X r.e)),.bool (dN (mkS r.m r.Y r.f)),u,.int .i64 (dE (mkS r.m r.Y r.f))],.int .i64 0])/\Nt w.heap.size w' v (dX (mkS r.n r.X r.e))/\Nt w.heap.size w' u (dX (mkS r.m r.Y r.f))/\Ap v u) /\
  (((mkS r.n r.X r.e).isSome&&(mkS r.m r.Y r.f).isSome)=false->q=.returned (.tuple #[.agg #[.bool false,.slice none 0 0,.int .i64 0,.bool false,.slice none 0 0,.int .i64 0],.int .i64 2]))/\Below w.heap.size w w':=by
 obtain⟨n,v,X,e,m,u,Y,f⟩:=r;simp only at *;obtain⟨a,l,c,xs,rfl,hA,rfl⟩:=h1;obtain⟨b,k,d,ys,rfl,hB,rfl⟩:=h2;have l1:=aK n (val xs) e;have l2:=aK m (val ys) f;have H1:∀ u,Below w.heap.size w u->Calls Tryz.prog 94 #[.bool n,.slice a l c,.int .i64 e] u fun r w'=>bS u.heap.size w' r (mkS n (val xs) e)/\Below u.heap.size u w':=fun u hu=>fF (hA.below hu) (hT.belows hu) n e b0 b1;have H2:∀ u,Below w.heap.size w u->Calls Tryz.prog 94 #[.bool m,.slice b k d,.int .i64 f] u fun r w'=>bS u.heap.size w' r (mkS m (val ys) f)/\Below u.heap.size u w':=fun u hu=>fF (hB.below hu) (hT.belows hu) m f b2 b3;simp only[bS] at H1 H2;generalize mkS n (val xs) e=o at *;generalize mkS m (val ys) f=p at *
 cases ho:o.isSome with
 | false =>
   have he:vY o=2:=by unfold vY;rw[ho];rfl
   rw[he] at H1;refine(N8 n m e f (dN o) false (dX o) 0 (dE o) 0 l1 (by rw[ws0];omega) H1).mono ?_;rintro r w' ⟨⟨v,u,h,rfl,rfl⟩,hb⟩;exact⟨fun hh=>(by cases hh),fun _=>h,hb⟩
 | true =>
   have he:vY o=0:=by unfold vY;rw[ho];rfl
   rw[he] at H1
   cases hp:p.isSome with
   | false =>
     have he:vY p=2:=by unfold vY;rw[hp];rfl
     rw[he] at H2;refine(N9 n m e f (dN o) (dN p) (dX o) (dX p) (dE o) (dE p) l1 l2 H1 H2).mono ?_;rintro r w' ⟨⟨v,u,h,rfl,rfl⟩,hb⟩;exact⟨fun hh=>(by cases hh),fun _=>h,hb⟩
   | true =>
     have he:vY p=0:=by unfold vY;rw[hp];rfl
     rw[he] at H2;refine(VX n m e f (dN o) (dN p) (dX o) (dX p) (dE o) (dE p) l1 l2 H1 H2).mono ?_;rintro r w' ⟨⟨v,u,h,hN,hM,hap⟩,hb⟩;exact⟨fun _=>⟨v,u,h,hN,hM,hap⟩,fun hh=>(by cases hh),hb⟩
theorem Y4(w:World)(g:Nat)(I:Nat->Ri)(h:RIn w g 1 I) :
 Calls Tryz.prog 142 #[.slice (some ⟨g,0,none⟩) 1 1] w fun r w' =>
  ((jU I 1≠0/\r=.returned (.tuple #[.slice none 0 0,.int .i64 (jU I 1)])) \/
   (jU I 1=0/\∃ g' V,r=.returned (.tuple #[.slice (some ⟨g',0,none⟩) 1 1,.int .i64 0])/\Oa w.heap.size w' g' 1 I V))/\Below w.heap.size w w':=by
 have MK:=Cv;have hH:=ah h;clear h;go_enter Tryz.func142,Tryz.ntmps142;go_wp2_with fail
 go_loopg [15] 1 (fun gk iv wr=>∃ i:Nat,gk+i=1/\iv=.int .i64 (i:Nat)/\Aside (Below w.heap.size w wr/\∀ j,j<i->decide (pV (I j).m (I j).Y<0)=false))
 case atStart=>exact⟨0,by omega,rfl,ay _ _,fun j hj=>by omega⟩
 case round =>
  obtain⟨i,hgi,rfl,HR⟩:=hrel
  by_cases hi:i<1
  · have hin:=hH.o.below HR.o.1;obtain⟨g0,g1,g2,g3,g4,g5⟩:=hin.row.facts i hi;obtain⟨A1,A2⟩:=hin.one i hi;obtain⟨n,v,X,e,m,u,Y,f,hI⟩:∃ n v X e m u Y f,I i=⟨n,v,X,e,m,u,Y,f⟩:=⟨_,_,_,_,_,_,_,_,rfl⟩;rw[hI] at g0 g1 g2 g3 g4 g5 A1 A2;simp only at g0 g1 g2 g3 g4 g5 A1 A2;obtain⟨a1,l1,c1,xs,rfl,-,-⟩:=id A1;obtain⟨a2,l2,c2,ys,rfl,-,-⟩:=id A2;obtain⟨U,hU⟩:=af (wr.alloc (.cells #[.bool n,.slice a1 l1 c1,.int .i64 e,.bool m,.slice a2 l2 c2,.int .i64 f] 93));have yU:Below wr.heap.size wr U:=by rw[hU];exact ae _ _
    have RQ:Rq U wr.heap.size n (.slice a1 l1 c1) e m (.slice a2 l2 c2) f:=by rw[hU];exact Rq.new _ _ _ _ _ _ _
    obtain⟨x0,x1,x2,x3,x4,x5⟩:=RQ.facts;have HC:=hid (sgnD (n:=m) (e:=f) (A2.below yU));obtain⟨s,hs⟩:∃ s,pV m Y=s:=⟨_,rfl⟩;rw[hs] at HC;have SI:=(fM (HR.o.1.trans (yU.mono HR.o.1.size)) HR.o.2 hI hs hi);clear yU RQ A1 A2 hin HR hI hs;have hli:(i:Int)<1:=by omega
    have hl0:(0:Int)<=(i:Int):=by omega
    go_upto_region 4 with fail
    rw[<-hU];clear hU g0 g1 g2 g3 g4 g5;go_wp2_with fail;clear x0 x1 x2 x3 x4 x5;refine HC.o.mono ?_;rintro r u1 ⟨rfl,hb⟩;have S2:=ah (SI.o.1.trans (hb.mono SI.o.1.size));clear hb HC
    by_cases hneg:s<0
    · have hn:=decide_eq_true hneg;go_wp2_with fail
      go_ret2
      obtain⟨_,hbef,hI,hs,hi⟩:=SI.o
      have hE:jU I 1=1:=by
       unfold jU;rw[if_pos (I6 hi (by rw[hI];simp only;rw[hs];exact decide_eq_true hneg))]
      rw[hE];exact⟨.inl ⟨by decide,rfl⟩,S2.o⟩
    · have hn:decide (s<0)=false:=decide_eq_false (by omega);go_wp2_with fail;go_roundg (1-(i+1))
      case measure=>omega
      case rel =>
       obtain⟨_,hbef,hI,hs,hi⟩:=SI.o;refine⟨i+1,by omega,by go_num,S2.o,fun j hj=>?_⟩
       by_cases hji:j=i
       · subst hji;rw[hI];simp only;rw[hs];exact decide_eq_false (by omega)
       · exact hbef j (by omega)
  · obtain rfl:i=1:=by omega
    obtain⟨M,hM⟩:=af (wr.alloc (.cells #[.bool false,.slice none 0 0,.int .i64 0,.bool false,.slice none 0 0,.int .i64 0] 93));have hbM:Below wr.heap.size wr M:=by rw[hM];exact ae _ _
    have hpM:kK w.heap.size M wr.heap.size 1 0 I (fun _=>(.slice none 0 0,.slice none 0 0)):=by
     rw[hM];exact⟨⟨_,gU _ _,rfl,fun j hj=>by omega⟩,HR.o.1.size,fun j hj=>by omega⟩
    have S1:=(fG HR.o.2 hpM (HR.o.1.trans (hbM.mono HR.o.1.size)));obtain⟨gO,hgO⟩:=af (wr.heap.size);clear HR hbM hpM hi hgi
    go_upto_region 9 with fail
    rw[<-hM];rw[<-hgO] at S1 |-;clear hM hgO
    go_loopg [29] 1 (fun gk iv wr=>∃ i:Nat,gk+i=1/\iv=.int .i64 (i:Nat)/\Aside (Below w.heap.size w wr/\(∀ j,j<i->((mkS (I j).n (I j).X (I j).e).isSome&&(mkS (I j).m (I j).Y (I j).f).isSome)=true)/\∃ V,kK w.heap.size wr gO 1 i I V))
    case atStart=>exact⟨0,by omega,rfl,S1.o.r2,fun j hj=>by omega,_,S1.o.2.1⟩
    case round =>
     obtain⟨i,hgi,rfl,HR⟩:=hrel;have SS:=ah S1.o.1;clear S1
     by_cases hi:i<1
     · obtain⟨aC,hbef,V,hP⟩:=HR.o;have hin:=hH.o.below aC;obtain⟨g0,g1,g2,g3,g4,g5⟩:=hin.row.facts i hi;obtain⟨A1,A2⟩:=hin.one i hi;obtain⟨b0,b1,b2,b3⟩:=hin.qL i hi;have hFD:=fun(u:World) (hb:Below wr.heap.size wr u)=>formD (r:=I i) (A1.below hb) (A2.below hb) ((hin.below hb).tab) b0 b1 b2 b3;obtain⟨n,v,X,e,m,u,Y,f,hI⟩:∃ n v X e m u Y f,I i=⟨n,v,X,e,m,u,Y,f⟩:=⟨_,_,_,_,_,_,_,_,rfl⟩;rw[hI] at g0 g1 g2 g3 g4 g5 A1 A2 hFD;simp only at g0 g1 g2 g3 g4 g5 A1 A2 hFD;obtain⟨a1,l1,c1,xs,rfl,-,-⟩:=id A1;obtain⟨a2,l2,c2,ys,rfl,-,-⟩:=id A2;obtain⟨U,hU⟩:=af (wr.alloc (.cells #[.bool n,.slice a1 l1 c1,.int .i64 e,.bool m,.slice a2 l2 c2,.int .i64 f] 93));have yU:Below wr.heap.size wr U:=by rw[hU];exact ae _ _
       have RQ:Rq U wr.heap.size n (.slice a1 l1 c1) e m (.slice a2 l2 c2) f:=by rw[hU];exact Rq.new _ _ _ _ _ _ _
       obtain⟨x0,x1,x2,x3,x4,x5⟩:=RQ.facts;have HC:=hid (hFD U yU);have lo1:=aK n X e;have lo2:=aK m Y f;obtain⟨o,ho⟩:∃ o,mkS n X e=o:=⟨_,rfl⟩;obtain⟨p,hp⟩:∃ p,mkS m Y f=p:=⟨_,rfl⟩;rw[ho,hp] at HC;rw[ho] at lo1;rw[hp] at lo2;have SI:=(Du (aC.trans (yU.mono aC.size)) hbef hI ho hp hi (hP.below yU));clear yU RQ A1 A2 hin HR hI ho hp aC hbef hP hFD b0 b1 b2 b3;have hli:(i:Int)<1:=by omega
       have hl0:(0:Int)<=(i:Int):=by omega
       go_upto_region 11 with fail
       rw[<-hU];clear hU g0 g1 g2 g3 g4 g5;go_wp2_with fail;clear x0 x1 x2 x3 x4 x5;refine HC.o.mono ?_;rintro r u1 ⟨h1,h2,hb⟩;clear HC
       cases hok:(o.isSome&&p.isSome) with
       | false =>
         obtain rfl:=h2 hok;have S2:=ah (SI.o.1.trans (hb.mono SI.o.1.size));clear h1 h2 hb;go_wp2_with fail
         go_ret2
         obtain⟨_,hbef,hI,ho,hp,hi,_⟩:=SI.o
         have hE:jU I 1=2:=by
          unfold jU;rw[tY (p:=fun i=>decide (pV (I i).m (I i).Y<0)) SS.o,if_neg zA,if_pos (I6 hi (by rw[hI];simp only;rw[ho,hp,hok];rfl))]
         rw[hE];exact⟨.inl ⟨by decide,rfl⟩,S2.o.alloc S2.o.size _⟩
       | true =>
         obtain⟨v1,v2,rfl,hN,hM2,-⟩:=h1 hok;obtain⟨p1,q1,rfl,_⟩:=hN.arg (by omega);obtain⟨p2,q2,rfl,_⟩:=hM2.arg (by omega);obtain⟨U2,dA⟩:=af (u1.alloc (.cells #[.bool (dN o),.slice p1 (ws (dX o)).length q1,.int .i64 (dE o),.bool (dN p),.slice p2 (ws (dX p)).length q2,.int .i64 (dE p)] 93));have yU:Below u1.heap.size u1 U2:=by rw[dA];exact ae _ _
         have RQ:Rq U2 u1.heap.size (dN o) (.slice p1 (ws (dX o)).length q1) (dE o) (dN p) (.slice p2 (ws (dX p)).length q2) (dE p):=by rw[dA];exact Rq.new _ _ _ _ _ _ _
         obtain⟨x0,x1,x2,x3,x4,x5⟩:=RQ.facts;have hP2:=(SI.o.r6.below hb).below yU;have hb2:=(SI.o.1.trans (hb.mono SI.o.1.size)).trans (yU.mono (dz SI.o.1.size hb.size));obtain⟨⟨y0,r0⟩,f0⟩:=hP2.room (i*6) (by omega);obtain⟨⟨y1,r1⟩,f1⟩:=hP2.room (i*6+1) (by omega);obtain⟨⟨y2,r2⟩,f2⟩:=hP2.room (i*6+2) (by omega);obtain⟨⟨y3,r3⟩,f3⟩:=hP2.room (i*6+3) (by omega);obtain⟨⟨y4,r4⟩,f4⟩:=hP2.room (i*6+4) (by omega);obtain⟨⟨y5,r5⟩,f5⟩:=hP2.room (i*6+5) (by omega);obtain⟨W',hW'⟩:∃ W',W'=RJ U2 gO (i*6) (.bool (dN o)) (.slice p1 (ws (dX o)).length q1) (.int .i64 (dE o)) (.bool (dN p)) (.slice p2 (ws (dX p)).length q2) (.int .i64 (dE p)):=⟨_,rfl⟩
         have S3:Aside (Below w.heap.size w W'/\(∀ j,j<i+1->((mkS (I j).n (I j).X (I j).e).isSome&&(mkS (I j).m (I j).Y (I j).f).isSome)=true)/\∃ V,kK w.heap.size W' gO 1 (i+1) I V):=by
          obtain⟨_,hbef,hI,ho,hp,hi,_⟩:=SI.o;refine⟨?_,?_,?_⟩
          · rw[hW'];exact But.below hb2 (oJ _ _ _ _ _ _ _ _ _) hb2.size hP2.own
          · intro j hj
            by_cases e:j=i
            · subst e;rw[hI];simp only;rw[ho,hp,hok]
            · exact hbef j (by omega)
          · have hsz:=SI.o.1.size;have:=hP2.step hi (.slice p1 (ws (dX o)).length q1) (.slice p2 (ws (dX p)).length q2) (by rw[hI];simp only;rw[ho];exact(hN.below yU).mono hsz) (by rw[hI];simp only;rw[hp];exact(hM2.below yU).mono hsz);rw[hI] at this;simp only at this;rw[ho,hp,<-hW'] at this;exact this
         have neq:u1.heap.size≠gO:=by have:=(SI.o.r6.below hb).lt;omega
         clear h1 h2 hb hN hM2 yU RQ hP2 hb2 SI
         go_upto_region 12 with fail
         rw[<-dA];clear dA;go_wp2_with fail;unfold RJ at hW';go_roundg (1-(i+1))
         case measure=>omega
         case rel =>
          refine⟨i+1,by omega,by go_num,?_⟩
          first | rw[<-hW'] | (rw[hW'] at S3)
          exact S3
     · obtain rfl:i=1:=by omega
       obtain⟨aC,hbef,V,hP⟩:=HR.o;have hO:=hP.o;have S2:=(fG aC hbef hO);have hi0:wr=wr:=rfl;clear HR aC hbef hP hO hi hgi
       go_upto_region 17 with fail
       go_loopg [49] 1 (fun gk iv wr=>∃ i:Nat,gk+i=1/\iv=.int .i64 (i:Nat)/\Aside (Below w.heap.size w wr/\(∀ j,j<i->decide (dX (mkS (I j).m (I j).Y (I j).f)=0)=false)/\Oa w.heap.size wr gO 1 I V))
       case atStart=>exact⟨0,by omega,rfl,S2.o.1,fun j hj=>by omega,S2.o.r2⟩
       case round =>
        obtain⟨i,hgi,rfl,HR⟩:=hrel;have SS2:=ah S2.o.2.1;clear S2
        by_cases hi:i<1
        · obtain⟨aC,hbef,hO⟩:=HR.o;obtain⟨g0,g1,g2,g3,g4,g5⟩:=hO.row.facts i hi;obtain⟨A1,A2⟩:=hO.nts i hi;have lo1:=aK (I i).n (I i).X (I i).e;have lo2:=aK (I i).m (I i).Y (I i).f;unfold yz at g0 g1 g2 g3 g4 g5;simp only at g0 g1 g2 g3 g4 g5;obtain⟨o,ho⟩:∃ o,mkS (I i).n (I i).X (I i).e=o:=⟨_,rfl⟩;obtain⟨p,hp⟩:∃ p,mkS (I i).m (I i).Y (I i).f=p:=⟨_,rfl⟩;rw[ho] at g0 g2 A1 lo1;rw[hp] at g3 g5 A2 lo2;obtain⟨v1,hv1⟩:∃ v1,(V i).1=v1:=⟨_,rfl⟩;obtain⟨v2,hv2⟩:∃ v2,(V i).2=v2:=⟨_,rfl⟩;rw[hv1] at g1 A1;rw[hv2] at g4 A2;obtain⟨p1,q1,rfl,_⟩:=A1.arg (by omega);obtain⟨p2,q2,rfl,_⟩:=A2.arg (by omega);obtain⟨U,hU⟩:=af (wr.alloc (.cells #[.bool (dN o),.slice p1 (ws (dX o)).length q1,.int .i64 (dE o),.bool (dN p),.slice p2 (ws (dX p)).length q2,.int .i64 (dE p)] 93));have yU:Below wr.heap.size wr U:=by rw[hU];exact ae _ _
          have RQ:Rq U wr.heap.size (dN o) (.slice p1 (ws (dX o)).length q1) (dE o) (dN p) (.slice p2 (ws (dX p)).length q2) (dE p):=by rw[hU];exact Rq.new _ _ _ _ _ _ _
          obtain⟨x0,x1,x2,x3,x4,x5⟩:=RQ.facts;have HC:=hid (sgnD (n:=dN p) (e:=dE p) ((A2.below yU).av (by omega)));obtain⟨s,hs⟩:∃ s,pV (dN p) (dX p)=s:=⟨_,rfl⟩;rw[hs] at HC;have SI:=(jD (aC.trans (yU.mono aC.size)) hbef hp hs hi (hO.below yU));clear yU RQ A1 A2 HR ho hp hv1 hv2 hs aC hbef hO;have hli:(i:Int)<1:=by omega
          have hl0:(0:Int)<=(i:Int):=by omega
          go_upto_region 19 with fail
          rw[<-hU];clear hU g0 g1 g2 g3 g4 g5;go_wp2_with fail;clear x0 x1 x2 x3 x4 x5;refine HC.o.mono ?_;rintro r u1 ⟨rfl,hb⟩;have S2:=(aZ (SI.o.1.trans (hb.mono SI.o.1.size)) (SI.o.r5.below hb));clear hb HC
          by_cases hz:s=0
          · have hn:(s==0)=true:=by simp[hz]
            have hsz:=SI;clear SI;go_wp2_with fail
            go_ret2
            obtain⟨_,hbef,hp,hs,hi,_⟩:=hsz.o
            have hE:jU I 1=21:=by
             unfold jU;rw[tY (p:=fun i=>decide (pV (I i).m (I i).Y<0)) SS.o,if_neg zA,tY (p:=fun i=>!((mkS (I i).n (I i).X (I i).e).isSome&&(mkS (I i).m (I i).Y (I i).f).isSome)) (fun j hj=>by rw[SS2.o j hj];rfl),if_neg zA,if_pos (I6 hi (by simp only[hp];exact decide_eq_true (Af.1 (hs.trans hz))))]
            rw[hE];exact⟨.inl ⟨by decide,rfl⟩,S2.o.1⟩
          · have hn:(s==0)=false:=by simp[hz]
            go_wp2_with fail;go_roundg (1-(i+1))
            case measure=>omega
            case rel =>
             obtain⟨_,hbef,hp,hs,hi,_⟩:=SI.o;refine⟨i+1,by omega,by go_num,S2.o.1,fun j hj=>?_,S2.o.2⟩
             by_cases hji:j=i
             · subst hji;rw[hp];exact decide_eq_false (fun h0=>hz (hs.symm.trans (Af.2 h0)))
             · exact hbef j (by omega)
        · obtain rfl:i=1:=by omega
          have S3:=HR;clear HR hi hgi;go_wp2_with fail
          go_ret2
          have hE:jU I 1=0:=by
           unfold jU;rw[tY (p:=fun i=>decide (pV (I i).m (I i).Y<0)) SS.o,if_neg zA,tY (p:=fun i=>!((mkS (I i).n (I i).X (I i).e).isSome&&(mkS (I i).m (I i).Y (I i).f).isSome)) (fun j hj=>by rw[SS2.o j hj];rfl),if_neg zA,tY (p:=fun i=>decide (dX (mkS (I i).m (I i).Y (I i).f)=0)) S3.o.2.1,if_neg zA]
          exact⟨.inr ⟨hE,gO,V,rfl,S3.o.r2⟩,S3.o.1⟩
theorem XM{I:Nat->Ri}{k:Nat}(h:jU I k=0)(i:Nat)(hi:i<k):¬ pV (I i).m (I i).Y<0/\(mkS (I i).n (I i).X (I i).e).isSome=true/\(mkS (I i).m (I i).Y (I i).f).isSome=true/\dX (mkS (I i).m (I i).Y (I i).f)≠0:=by
 unfold jU at h
 split at h
 · omega
 · rename_i h1
   split at h
   · omega
   · rename_i h2
     split at h
     · omega
     · rename_i h3;simp only[Bool.not_eq_true,List.any_eq_false,wG] at h1 h2 h3;have k1:=h1 i hi;have k2:=h2 i hi;have k3:=h3 i hi;simp at k1 k2 k3;exact⟨by omega,k2.1,k2.2,k3⟩
theorem I8{n:Bool}{X:Nat}{e:Int}{o:Option (Bool×Nat×Int)}(h:mkS n X e=o)(hs:o.isSome=true):mkS (dN o) (dX o) (dE o)=o:=by
 cases o with
 | none=>cases hs
 | some d =>
   obtain⟨n1,X1,e1⟩:=d;exact(bK h).self
theorem VY{n:Bool}{X:Nat}{e:Int}{o:Option (Bool×Nat×Int)}(h:mkS n X e=o):-1048576<=dE o/\dE o<=1048576:=by
 cases o with
 | none=>exact⟨by decide,by decide⟩
 | some d =>
   obtain⟨n1,X1,e1⟩:=d;have:=bK h;exact⟨this.down,this.up⟩
structure Rv (w:World) (r:Ri):Prop where
 num:Av w r.v r.X
 den:Av w r.u r.Y
 be:-9223372036854775808<=r.e/\r.e<=9223372036854775807
 bf:-9223372036854775808<=r.f/\r.f<=9223372036854775807
theorem Rv.below{w w':World}{r:Ri}(h:Rv w r)(hb:Below w.heap.size w w'):Rv w' r:=⟨h.num.below hb,h.den.below hb,h.be,h.bf⟩
theorem rin1(W:World)(r:Ri)(hr:Rv W r)(hT:gF W)(R:World)(hR:R=W.alloc (.cells #[.bool r.n,r.v,.int .i64 r.e,.bool r.m,r.u,.int .i64 r.f] 93)):RIn R W.heap.size 1 (fun _=>r):=by
 have hb:Below W.heap.size W R:=by rw[hR];exact ae _ _
 refine⟨⟨_,by rw[hR];exact gU _ _,?_⟩,fun i hi=>⟨hr.num.below hb,hr.den.below hb⟩,fun i hi=>⟨hr.be.1,hr.be.2,hr.bf.1,hr.bf.2⟩,hT.belows hb⟩;intro i hi;obtain rfl:i=0:=by omega
 simp
theorem Am(w:World)(n:Bool)(v:Value)(e:Int)(m:Bool)(u:Value)(f:Int)(W:World)(hW:W=w.alloc (.cells #[.bool n,v,.int .i64 e,.bool m,u,.int .i64 f] 93)) :
 Below w.heap.size w W/\W.heap.size=w.heap.size+1/\Rq W w.heap.size n v e m u f:=by
 rw[hW];exact⟨ae w _,by simp,Rq.new _ _ _ _ _ _ _⟩
theorem Qap{P:Prop}(h:P:=by
 go_enter Tryz.func91,Tryz.ntmps91
 go_upto_region 1 with fail
 rw[<-hW1];clear hW1;go_wp2
 go_ret2
 exact⟨rfl,S0.o⟩):P:=h
theorem qM {w:World}{n m:Bool}{a b:Option Addr}{la ca lb cb:Nat}{X Y:Nat}{e f:Int}(mode:Int) (hr:Rv w ⟨n,.slice a la ca,X,e,m,.slice b lb cb,Y,f⟩) (hT:gF w)
 (o1 o2 z:Option (Bool×Nat×Int)) (ew:Int) (rw':Nat×Int) (ho1:mkS n X e=o1) (ho2:mkS m Y f=o2) (lz:(ws (dX z)).length<=8192) (hew:ew≠0->rw'.1=0/\rw'.2=ew)
 (ANS:Nat×Int) (hANS:ANS=if mode<0\/4<mode then(0,1) else if jU (fun _=>(⟨n,.slice a la ca,X,e,m,.slice b lb cb,Y,f⟩:Ri)) 1=0 then rw' else(0,jU (fun _=>(⟨n,.slice a la ca,X,e,m,.slice b lb cb,Y,f⟩:Ri)) 1))
 (HW:Hid (∀ (u:World) (p q:Value),Below w.heap.size w u->Nt w.heap.size u p (dX o1)->Nt w.heap.size u q (dX o2)->jU (fun _=>(⟨n,.slice a la ca,X,e,m,.slice b lb cb,Y,f⟩:Ri)) 1=0->Calls Tryz.prog 92 #[.agg #[.bool (dN o1),p,.int .i64 (dE o1),.bool (dN o2),q,.int .i64 (dE o2)]] u fun r w'=>(∃ v,r=.returned (.tuple #[.agg #[.bool (dN z),v,.int .i64 (dE z)],.int .i64 ew])/\Nt u.heap.size w' v (dX z))/\Below u.heap.size u w'))
 (HR:Hid (∀ (u:World) (p:Option Addr) (q:Nat),ew=0->¬ (mode<0\/4<mode)->jU (fun _=>(⟨n,.slice a la ca,X,e,m,.slice b lb cb,Y,f⟩:Ri)) 1=0->Below w.heap.size w u->Arg u p (ws (dX z)).length q (ws (dX z))->Calls Tryz.prog 93 #[.agg #[.bool (dN z),.slice p (ws (dX z)).length q,.int .i64 (dE z)],.int .i64 mode] u fun r w'=>r=.returned (.tuple #[.float .f64 rw'.1,.int .i64 rw'.2])/\Below u.heap.size u w')) :
 Calls Tryz.prog 91 #[.agg #[.bool n,.slice a la ca,.int .i64 e,.bool m,.slice b lb cb,.int .i64 f],.int .i64 mode,.func (.func 92) #[] #[],.func (.func 93) #[] #[]] w fun r w'=>r=.returned (.tuple #[.float .f64 ANS.1,.int .i64 ANS.2])/\Below w.heap.size w w':=by
 obtain⟨W1,hW1⟩:=af (w.alloc (.cells #[.bool n,.slice a la ca,.int .i64 e,.bool m,.slice b lb cb,.int .i64 f] 93));obtain⟨hB,hz1,Q1⟩:=Am w n _ e m _ f W1 hW1
 by_cases hm:mode<0\/4<mode
 · rw[if_pos hm] at hANS;subst hANS;have S0:=ah hB;clear hB hz1 Q1 HW HR hr hT
   by_cases hm0:mode<0
   · have d1:=decide_eq_true hm0;exact Qap
   · have d1:=decide_eq_false hm0;have pU:4<mode:=by omega
     have d2:=decide_eq_true pU;clear hm;exact Qap
 · rw[if_neg hm] at hANS;obtain⟨R,hR⟩:=af (W1.alloc (.cells #[.bool n,.slice a la ca,.int .i64 e,.bool m,.slice b lb cb,.int .i64 f] 93));have hin:=rin1 W1 _ (hr.below hB) (hT.belows hB) R hR;have hbR:Below W1.heap.size W1 R:=by rw[hR];exact ae _ _
   have HF:=hid (Y4 R W1.heap.size _ hin);obtain⟨I,hI⟩:∃ I:Nat->Ri,(fun _=>(⟨n,.slice a la ca,X,e,m,.slice b lb cb,Y,f⟩:Ri))=I:=⟨_,rfl⟩;rw[hI] at HF hANS HW HR;obtain⟨x0,x1,x2,x3,x4,x5⟩:=Q1.facts;have HAn:=ah hANS;have S0:=(iw (hB.trans (hbR.mono hB.size)) hI ho1 ho2);have d1:decide (mode<0)=false:=decide_eq_false (fun h=>hm (.inl h));have d2:decide (4<mode)=false:=decide_eq_false (fun h=>hm (.inr h));have HM:=ah hm;obtain⟨g12,hg12⟩:∃ g,W1.heap.size=g:=⟨_,rfl⟩;rw[hg12] at HF;clear hB hz1 Q1 hin hbR hr hT hANS hI ho1 ho2 hm;go_enter Tryz.func91,Tryz.ntmps91
   go_upto_region 1 with fail
   rw[<-hW1];clear hW1;go_wp2_with fail;rw[<-hR];clear hR hg12 x0 x1 x2 x3 x4 x5;refine HF.o.mono ?_;rintro r u1 ⟨hor,hb⟩;clear HF;obtain⟨aC,hI,ho1,ho2⟩:=S0.o;have S1:=ah (aC.trans (hb.mono aC.size));rcases hor with ⟨hne,rfl⟩|⟨h0,g',V,rfl,hO⟩
   · have HA2:=HAn.o;rw[if_neg hne] at HA2;obtain⟨er,her⟩:∃ er,jU I 1=er:=⟨_,rfl⟩;rw[her] at hne HA2 |-;have HA3:=ah HA2;have hnb:(er==0)=false:=by simp[hne]
     clear HAn HA2 her hne aC hb hI ho1 ho2 S0 HW HR;go_wp2
     go_ret2
     rw[HA3.o];exact⟨rfl,S1.o⟩
   · have HA2:=HAn.o;rw[if_pos h0] at HA2;obtain⟨q0,q1,q2,q3,q4,q5⟩:=hO.row.facts 0 (by omega);obtain⟨N1,N2⟩:=hO.nts 0 (by omega);simp only[dS,cO] at q0 q1 q2 q3 q4 q5;unfold yz at q0 q1 q2 q3 q4 q5;have e0:I 0=⟨n,.slice a la ca,X,e,m,.slice b lb cb,Y,f⟩:=by rw[<-hI]
     rw[e0] at N1 N2;simp only[e0] at q0 q1 q2 q3 q4 q5 N1 N2;have m1:=aK n X e;have m2:=aK m Y f;rw[ho1] at q0 q2 N1 m1;rw[ho2] at q3 q5 N2 m2;obtain⟨v1,hv1⟩:∃ v1,(V 0).1=v1:=⟨_,rfl⟩;obtain⟨v2,hv2⟩:∃ v1,(V 0).2=v1:=⟨_,rfl⟩;rw[hv1] at q1 N1;rw[hv2] at q4 N2;obtain⟨a1,c1,rfl,_⟩:=N1.arg (by omega);obtain⟨a2,c2,rfl,_⟩:=N2.arg (by omega);have HC:=hid (HW.o u1 _ _ (aC.trans (hb.mono aC.size)) (N1.mono (by have:=aC.size;omega)) (N2.mono (by have:=aC.size;omega)) h0);have S2:=(aZ h0 HA2);clear HAn HA2 aC hb hI ho1 ho2 S0 hO N1 N2 HW h0 hv1 hv2 e0;go_wp2_with fail;clear q0 q1 q2 q3 q4 q5;refine HC.o.mono ?_;rintro r u2 ⟨⟨v,rfl,NZ⟩,hb⟩;obtain⟨az,cz,rfl,_⟩:=NZ.arg (by omega);clear HC;obtain⟨U3,I5⟩:=af (u2.alloc (.cells #[.bool (dN z),.slice az (ws (dX z)).length cz,.int .i64 (dE z)] 79));have mR:Below u2.heap.size u2 U3:=by rw[I5];exact ae _ _
     have bb:=S1.o.trans (hb.mono S1.o.size);have bc:=bb.trans (mR.mono bb.size)
     by_cases RL:ew=0
     · have TZ:Tk U3 u2.heap.size 79 (.bool (dN z)) (.slice az (ws (dX z)).length cz) (.int .i64 (dE z)):=by rw[I5];exact Tk.new _ _ _ _ _
       have HD:=hid (HR.o U3 az cz RL HM.o S2.o.1 bc ((NZ.below mR).bC (by omega)).2);obtain⟨x0,x1,x2,_,_,_⟩:=TZ.facts;have S3:=(aZ bc S2.o.2);clear bb bc hb mR NZ TZ S1 S2 HR HM hew;subst RL
       go_upto_region 7 with fail
       rw[<-I5];clear I5;go_wp2_with fail;refine HD.o.mono ?_;rintro r u3 ⟨rfl,hb⟩;have S4:=ah (S3.o.1.trans (hb.mono S3.o.1.size));clear hb HD x0 x1 x2;go_wp2
       go_ret2
       rw[S3.o.2];exact⟨rfl,S4.o⟩
     · have hnb:(ew==0)=false:=by simp[RL]
       have hA:ANS=(0,ew):=by
        rw[S2.o.2];have:=hew RL;rw[<-this.1,<-this.2]
       have S3:=(aZ bc hA);clear bb bc hb mR NZ S1 S2 HR HM hew hA RL
       go_upto_region 7 with fail
       rw[<-I5];clear I5;go_wp2
       go_ret2
       rw[S3.o.2];exact⟨rfl,S3.o.1⟩
theorem RN {w:World}{a b:Option Addr}{la ca lb cb:Nat}(n m:Bool) (e f mode:Int) (ANS:Nat×Int)
 (HR:Hid (∀ u:World,Below w.heap.size w u->Calls Tryz.prog 91 #[.agg #[.bool n,.slice a la ca,.int .i64 e,.bool m,.slice b lb cb,.int .i64 f],.int .i64 mode,.func (.func 92) #[] #[],.func (.func 93) #[] #[]] u fun r w'=>r=.returned (.tuple #[.float .f64 ANS.1,.int .i64 ANS.2])/\Below u.heap.size u w')) :
 Calls Tryz.prog 56 #[.agg #[.bool n,.slice a la ca,.int .i64 e,.bool m,.slice b lb cb,.int .i64 f],.int .i64 mode] w fun r w'=>r=.returned (.tuple #[.float .f64 ANS.1,.int .i64 ANS.2])/\Below w.heap.size w w':=by
 obtain⟨W1,hW1⟩:=af (w.alloc (.cells #[.bool n,.slice a la ca,.int .i64 e,.bool m,.slice b lb cb,.int .i64 f] 93));obtain⟨hB,hz1,Q1⟩:=Am w n _ e m _ f W1 hW1;have HC:=hid (HR.o W1 hB);obtain⟨x0,x1,x2,x3,x4,x5⟩:=Q1.facts;have S0:=ah hB;clear hB hz1 Q1 HR;go_enter Tryz.func56,Tryz.ntmps56
 go_upto_region 1 with fail
 rw[<-hW1];clear hW1;go_wp2_with fail;refine HC.o.mono ?_;rintro r u1 ⟨rfl,hb⟩;have S1:=ah (S0.o.trans (hb.mono S0.o.size));clear hb HC x0 x1 x2 x3 x4 x5;go_wp2
 go_ret2
 exact⟨rfl,S1.o⟩
theorem Ao(n:Bool)(M:Nat)(E:Int)(hM:M≠0)(hb:bl M<=1001)(h0:-4096<=E)(h1:E<=4096):mkS n M E=some (n,M/2^lo M,E+lo M)/\(M/2^lo M)%2=1/\M=M/2^lo M*2^lo M/\lo M<=1001:=by
 obtain⟨q,h2,h3,h4⟩:=gY M hM;refine⟨?_,by omega,by rw[h3,bJ];exact h2,by omega⟩;unfold mkS;rw[if_neg hM,if_neg (by omega)]
def lI(n:Bool)(X:Nat)(e:Int)(Y:Nat)(f:Int):Option (Bool×Nat×Int):=mkS n (2*iP X Y 64+(if vZ X Y 64 then 0 else 1)) (fq (e-f-mH X Y 64-fB Y 64))
theorem qc(x:Int):-4096<=fq x/\fq x<=4096:=by unfold fq;omega
theorem RO{W d k:Nat}(h:W<2^k)(hd:d<=1):bl (2*W+d)<=k+1:=dQ (by rw[dC];omega)
theorem Cx:Rz vK 9218868437227405312:=by
 refine⟨by decide,?_,fun {k l} h=>ET.2 h,fun k hk=>?_⟩
 · have:=ic 0 0 (.inl rfl) (by omega);simpa using this
 · by_cases h:k<4503599627370496
   · refine⟨k,0,?_,?_,by omega,by omega⟩
     · have:=ic 0 k (.inl rfl) (by omega);rw[dS,cO] at this;exact this
     · have:=ic 0 (k+1) (.inl rfl) (by omega);rw[dS,cO] at this;exact this
   · obtain⟨q,hq⟩:∃ q,k/4503599627370496=q:=⟨_,rfl⟩;obtain⟨g,hg⟩:∃ g,k%4503599627370496=g:=⟨_,rfl⟩;refine⟨4503599627370496+g,q-1,?_,?_,by omega,by omega⟩
     · have:=ic (q-1) (4503599627370496+g) (.inr (by omega)) (by omega);rw[show(q-1)*4503599627370496+(4503599627370496+g)=k by omega] at this;exact this
     · have:=ic (q-1) (4503599627370496+g+1) (.inr (by omega)) (by omega);rw[show(q-1)*4503599627370496+(4503599627370496+g+1)=k+1 by omega] at this;exact this
theorem VZ{K:Nat}{t:Bool}{m:Int}{V S':Nat}(h:zi K t m V S'):jB vK 9218868437227405312 1 K t m V S':=by
 refine⟨h.fin,h.pos,fun ht=>?_,fun ht=>?_,fun ht hl=>?_,fun ht=>?_⟩
 · rw[kU];exact h.one ht
 · rw[kU];exact h.low ht
 · rw[kU] at hl;have:=h.VG ht hl;rw[kU,kU,fC];exact this
 · rw[kU];rcases h.high ht with q|⟨q,r⟩
   · exact .inl q
   · exact .inr ⟨by omega,r⟩
theorem V4(n:Bool)(M:Nat)(E:Int)(hM:M≠0)(hb:bl M<=1001)(h0:-4096<=E)(h1:E<=4096) :
 ∃ K t m,jB vK 9218868437227405312 1 K t m (M*2^(E+(1074:Nat)).toNat) (2^(-(E+(1074:Nat))).toNat)/\∀ mode:Int,0<=mode->mode<=4->iW (mkS n M E) mode=(rK mode n K t m+(if n then 9223372036854775808 else 0),0):=by
 obtain⟨e1,e2,e3,e4⟩:=Ao n M E hM hb h0 h1;obtain⟨M',hM'⟩:∃ M',M/2^lo M=M':=⟨_,rfl⟩;obtain⟨l,hl⟩:∃ l,lo M=l:=⟨_,rfl⟩;rw[hM',hl] at e1 e3;rw[hM'] at e2;rw[hl] at e4;have hL:=lies M' (E+l) e2 (by omega) (by omega) (min E (-1074)) (by omega) (by omega);refine⟨Pb M' (E+l),(iJ 53 (-1074) 1024 M' (E+l)).2.2.1,(iJ 53 (-1074) 1024 M' (E+l)).2.2.2,?_,?_⟩
 · have:=VZ hL;rw[e3]
   have w1:M'*2^(E+(l:Int)-min E (-1074)).toNat=M'*2^l*2^(E+(1074:Nat)).toNat:=by
    rw[aJ,<-aI];congr 2;omega
   have w2:(-1074-min E (-1074)).toNat=(-(E+(1074:Nat))).toNat:=by omega
   rw[w1,w2] at this;exact this
 · intro mode hm0 pU;rw[e1];unfold iW;rw[if_neg (by omega)];simp only;rw[if_neg (by omega),VH]
theorem RP(n:Bool)(X:Nat)(e:Int)(Y:Nat)(f:Int)(hX:X%2=1)(hY:Y≠0)(bX:bl X<=262144)(bY:bl Y<=262144) :
 ∃ K t m,jB vK 9218868437227405312 1 K t m (kI X e f 1074 1) (kJ Y e f 1074 1)/\∀ mode:Int,0<=mode->mode<=4->iW (lI n X e Y f) mode=(rK mode n K t m+(if n then 9223372036854775808 else 0),0):=by
 have D:=kH X Y 64 (.inr hX) hY (by omega) (by omega) bX bY;have hX0:X≠0:=by omega
 have hW1:=D.least hX0;have hW2:=D.most;have c63:(2:Nat)^(64-1)=9223372036854775808:=by decide
 have sp:=RG X Y e f 1074 hY D;have hd:(if vZ X Y 64 then 0 else 1)<=1:=by split <;> omega
 obtain⟨K,t,m,hL,hR⟩:=V4 n (2*iP X Y 64+(if vZ X Y 64 then 0 else 1)) (fq (e-f-mH X Y 64-fB Y 64)) (by omega) (by have:=RO hW2 hd;omega) (qc _).1 (qc _).2;refine⟨K,t,m,hL.RA Cx (by omega) sp.pos ?_,hR⟩;exact E8 1 (iP X Y 64) _ _ _ 1074 _ (by omega) (by omega) (Nat.lt_trans hW2 (by decide)) hd (by omega) (by omega) sp
theorem Aq(n:Bool)(X:Nat)(e:Int)(Y:Nat)(f:Int)(hX:X=0\/X%2=1)(hY:Y≠0)(bX:bl X<=262144)(bY:bl Y<=262144):(lI n X e Y f).isSome=true:=by
 have D:=kH X Y 64 hX hY (by omega) (by omega) bX bY;have hW2:=D.most;have hd:(if vZ X Y 64 then 0 else 1)<=1:=by split <;> omega
 have hb:=RO hW2 hd;unfold lI
 by_cases hM:2*iP X Y 64+(if vZ X Y 64 then 0 else 1)=0
 · rw[hM,fA];rfl
 · rw[(Ao n _ _ hM (by omega) (qc _).1 (qc _).2).1];rfl
theorem I9(Y size:Nat)(hY:Y≠0)(hs0:1<=size)(hs:size<=1000)(bY:bl Y<=262144):iP 0 Y size=0/\vZ 0 Y size=true:=by
 have D:=kH 0 Y size (.inl rfl) hY hs0 hs (by rw[df];omega) bY;have hby:0<=mH 0 Y size:=by unfold mH;rw[df];omega
 have hlev:qm 0 Y size=0:=by unfold qm;split <;> simp
 have h1:mq 0 Y size=0:=by unfold mq;rw[hlev,Nat.zero_div]
 have h2:qo 0 Y size=0:=by unfold qo;rw[hlev,Nat.zero_mod]
 have h3:qJ 0 Y size=0:=by unfold qJ;rw[h2,dS]
 have h4:oH 0 Y size=0:=by unfold oH;rw[h1,dS]
 refine⟨?_,?_⟩
 · unfold iP;rw[h3,h4,if_neg (by omega),h1]
 · unfold vZ;rw[h3,h4];simp[hby]
theorem Fj(n:Bool)(e:Int)(Y:Nat)(f:Int)(hY:Y≠0)(bY:bl Y<=262144):lI n 0 e Y f=some (false,0,0):=by
 obtain⟨h1,h2⟩:=I9 Y 64 hY (by omega) (by omega) bY;unfold lI;rw[h1,h2];exact fA _ _
def Oc(r:Ri):Nat->Ri:=fun _=>r
noncomputable def mr (rnd:Option (Bool×Nat×Int)->Int->Nat×Int) (r:Ri) (mode:Int):Nat×Int :=
 if mode<0\/4<mode then(0,1) else if jU (Oc r) 1=0 then rnd (lI (dN (mkS r.n r.X r.e)) (dX (mkS r.n r.X r.e)) (dE (mkS r.n r.X r.e)) (dX (mkS r.m r.Y r.f)) (dE (mkS r.m r.Y r.f))) mode else(0,jU (Oc r) 1)
theorem tZ{n:Bool}{X:Nat}{e:Int}(h:(mkS n X e).isSome=true):vk (dN (mkS n X e)) (dX (mkS n X e)) (dE (mkS n X e)):=by
 cases ho:mkS n X e with
 | none=>rw[ho] at h;cases h
 | some d =>
   obtain⟨n1,X1,e1⟩:=d;exact bK ho
theorem vk.par{n:Bool}{X:Nat}{e:Int}(h:vk n X e):X=0\/X%2=1:=by rcases h.odd with q | q;exact .inr q;exact .inl q.1
theorem Ja(n:Bool)(X:Nat)(e:Int)(Y:Nat)(f:Int)(hs:(lI n X e Y f).isSome=true):mkS (dN (lI n X e Y f)) (dX (lI n X e Y f)) (dE (lI n X e Y f))=lI n X e Y f:=I8 (o:=lI n X e Y f) rfl hs
theorem RS{w:World}{n m:Bool}{a b:Option Addr}{la ca lb cb:Nat}{X Y:Nat}{e f:Int}(mode:Int)(hr:Rv w ⟨n,.slice a la ca,X,e,m,.slice b lb cb,Y,f⟩)(hT:gF w) :
 Calls Tryz.prog 56 #[.agg #[.bool n,.slice a la ca,.int .i64 e,.bool m,.slice b lb cb,.int .i64 f],.int .i64 mode] w fun r w' =>
  r=.returned (.tuple #[.float .f64 (mr iW ⟨n,.slice a la ca,X,e,m,.slice b lb cb,Y,f⟩ mode).1,.int .i64 (mr iW ⟨n,.slice a la ca,X,e,m,.slice b lb cb,Y,f⟩ mode).2])/\Below w.heap.size w w':=by
 refine RN n m e f mode (mr iW ⟨n,.slice a la ca,X,e,m,.slice b lb cb,Y,f⟩ mode) ?_;intro u hu;have hrT:=hr.below hu;have hTu:=hT.belows hu;refine qM mode hrT hTu (mkS n X e) (mkS m Y f) (lI (dN (mkS n X e)) (dX (mkS n X e)) (dE (mkS n X e)) (dX (mkS m Y f)) (dE (mkS m Y f))) 0 (iW (lI (dN (mkS n X e)) (dX (mkS n X e)) (dE (mkS n X e)) (dX (mkS m Y f)) (dE (mkS m Y f))) mode) rfl rfl (aK _ _ _) (fun h=>absurd rfl h) _ rfl ?_ ?_
 · intro v p q hv N1 N2 h0;obtain⟨k1,k2,k3,k4⟩:=XM h0 0 (by omega);simp only at k1 k2 k3 k4;have F1:=tZ k2;have F2:=tZ k3;obtain⟨a1,c1,rfl,A1⟩:=N1.arg (by have:=dV F1;omega);obtain⟨a2,c2,rfl,A2⟩:=N2.arg (by have:=dV F2;omega);have hq:=Cu (dN (mkS n X e)) (dN (mkS m Y f)) (dX (mkS n X e)) (dX (mkS m Y f)) (dE (mkS n X e)) (dE (mkS m Y f)) A1 A2 (hTu.belows hv) F1.par k4 F1.down F1.up F2.down F2.up F1.size F2.size;have hs:=Aq (dN (mkS n X e)) (dX (mkS n X e)) (dE (mkS n X e)) (dX (mkS m Y f)) (dE (mkS m Y f)) F1.par k4 F1.size F2.size;have he:vY (lI (dN (mkS n X e)) (dX (mkS n X e)) (dE (mkS n X e)) (dX (mkS m Y f)) (dE (mkS m Y f)))=0:=by unfold vY;rw[hs];rfl
   unfold bS at hq;rw[show mkS (dN (mkS n X e)) (2*iP (dX (mkS n X e)) (dX (mkS m Y f)) 64+(if vZ (dX (mkS n X e)) (dX (mkS m Y f)) 64 then 0 else 1)) (fq (dE (mkS n X e)-dE (mkS m Y f)-mH (dX (mkS n X e)) (dX (mkS m Y f)) 64-fB (dX (mkS m Y f)) 64))=lI (dN (mkS n X e)) (dX (mkS n X e)) (dE (mkS n X e)) (dX (mkS m Y f)) (dE (mkS m Y f)) from rfl,he] at hq;exact hq
 · intro v p q _ hm h0 hv hA;obtain⟨k1,k2,k3,k4⟩:=XM h0 0 (by omega);simp only at k1 k2 k3 k4;have F1:=tZ k2;have F2:=tZ k3;have hs:=Aq (dN (mkS n X e)) (dX (mkS n X e)) (dE (mkS n X e)) (dX (mkS m Y f)) (dE (mkS m Y f)) F1.par k4 F1.size F2.size;have rg:=VY (o:=lI (dN (mkS n X e)) (dX (mkS n X e)) (dE (mkS n X e)) (dX (mkS m Y f)) (dE (mkS m Y f))) rfl;have hR:=Nr hA (hTu.belows hv) (dN (lI (dN (mkS n X e)) (dX (mkS n X e)) (dE (mkS n X e)) (dX (mkS m Y f)) (dE (mkS m Y f)))) (dE (lI (dN (mkS n X e)) (dX (mkS n X e)) (dE (mkS n X e)) (dX (mkS m Y f)) (dE (mkS m Y f)))) mode (by omega) (by omega);rw[au,Ja _ _ _ _ _ hs] at hR;exact hR
def Y5(o:Option (Bool×Nat×Int)):Option (Bool×Nat×Int):=match o with
 | none=>none
 | some (n,X,e)=>mkS (!n) X e
theorem RU(n:Bool)(X:Nat)(e:Int):Y5 (mkS n X e)=mkS (!n) X e:=by
 by_cases h0:X=0
 · subst h0;rw[fA,fA];rfl
 · cases ho:mkS n X e with
   | none =>
     unfold mkS at ho |-;rw[if_neg h0] at ho |-
     split at ho
     · rename_i h;rw[if_pos h];rfl
     · cases ho
   | some d =>
     unfold mkS at ho |-;rw[if_neg h0] at ho |-
     split at ho
     · cases ho
     · rename_i h
       cases ho
       rw[if_neg h];show mkS (!n) (X/2^lo X) (e+lo X)=_;have hF:vk n (X/2^lo X) (e+lo X):=bK (n:=n) (X:=X) (e:=e) (by unfold mkS;rw[if_neg h0,if_neg h])
       have hF2:vk (!n) (X/2^lo X) (e+lo X):=⟨by
        rcases hF.odd with q|⟨q,_,_⟩
        · exact .inl q
        · exfalso;obtain⟨k,h2,h3,h4⟩:=gY X h0
          omega,hF.size,hF.up,hF.down⟩
       exact hF2.self
theorem Fw{o:Option (Bool×Nat×Int)}(hs:o.isSome=true):mkS (!(dN o)) (dX o) (dE o)=Y5 o:=by
 cases o with
 | none=>cases hs
 | some d=>rfl
def nE(X:Nat)(n:Bool)(e:Int)(Y:Nat)(m:Bool)(f:Int):Int:=if pV m Y<0 then 1 else if (mkS n X e).isSome&&(mkS m Y f).isSome then(if dX (mkS m Y f)=0 then 21 else 0) else 2
theorem yA(r:Ri):jU (Oc r) 1=nE r.X r.n r.e r.Y r.m r.f:=by
 unfold jU nE Oc;simp only[show List.range 1=[0] from rfl,List.any_cons,List.any_nil,Bool.or_false,decide_eq_true_eq]
 cases (mkS r.n r.X r.e).isSome <;> cases (mkS r.m r.Y r.f).isSome <;> simp
theorem Od(n:Bool)(k Y:Nat)(e:Int):mkS n (2^k*Y) e=mkS n Y (e+k):=by
 induction k generalizing e with
 | zero=>simp
 | succ k ih=>rw[dC,bJ (2^k) 2,aJ,xL,ih];congr 1;omega
end
end Go.Proofs.YtjppdacikihpdaaGreatDoor
