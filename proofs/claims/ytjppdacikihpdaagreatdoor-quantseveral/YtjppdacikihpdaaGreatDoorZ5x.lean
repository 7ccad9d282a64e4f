import Derived.Test.YtjppdacikihpdaaGreatDoorD39x
import Derived.Test.YtjppdacikihpdaaGreatDoorS10x
import Derived.Deep.RegionHeld3
import Derived.Test.YtjppdacikihpdaaGreatDoorU1x
import Derived.Deep.Cut
import Derived.Test.YtjppdacikihpdaaGreatDoorD32cx
import Derived.Deep.OwnRows
import Derived.Deep.LoopGhost
import Derived.Test.YtjppdacikihpdaaGreatDoorD19x
import Derived.Test.YtjppdacikihpdaaGreatDoorD15x
import Derived.Test.YtjppdacikihpdaaGreatDoorBIeeex
import Derived.Laws.FloatArith
import Derived.Deep.CutRange
import Derived.Test.YtjppdacikihpdaaGreatDoorD8x
set_option linter.unusedVariables false
set_option linter.unusedSimpArgs false
set_option maxHeartbeats 16000000
set_option maxRecDepth 20000
namespace Go.Proofs.YtjppdacikihpdaaGreatDoor
section
open Go.RowKit
theorem gN{X:Nat}(h:bl X<=262144):¬ LG X:=λk=>by have:=(pV X).1 k;omega
theorem Pf{X Y V:Nat}(h1:¬ LG X)(h2:¬ LG Y)(h3:¬ LG V)(e:X*Y=V):jI X Y=(V,0):=by subst e;unfold jI;rw[if_neg (by simp[h1,h2]),if_neg h3]
theorem iA{X:Nat}(h:bl X<=262144):(ws X).length<=8192:=by have:=gN h;unfold LG at this;omega
theorem eY{X k:Nat}(h:X<2^k):bl X<=k:=by
 by_cases h0:X=0
 . subst h0;rw[dI];omega
 . have:=(kH (a:=2) aM).1 (iC (iw X h0) h);have:=dM X h0;omega
theorem qg{X Y:Nat}(h:X<=Y)(k:bl Y<=262144):bl X<=262144:=by
 have:=eY (iC h (iT Y));omega
theorem Gw(x y:Nat):decide (bI x y<0)=decide (x<y):=by
 unfold bI
 by_cases h:x<y
 . simp[h]
 . by_cases h2:y<x <;> simp[h,h2]
theorem TF(x y:Nat):decide (bI x y=0)=decide (x=y):=by
 unfold bI
 by_cases h:x<y
 . have:x≠y:=ae
   simp[h,this]
 . by_cases h2:y<x
   . have:x≠y:=ae
     simp[h,h2,this]
   . have:x=y:=ae
     simp[this]
theorem Pg {w:World}{a b:Option Addr}{ca cb:Nat}(n m:Bool) (X Y:Nat) (e f:Int) (size:Nat)
 (AX:Arg w a (ws X).length ca (ws X)) (AY:Arg w b (ws Y).length cb (ws Y)) (hX:X=0\/X%2=1) (hY:Y≠0)
 (he0:-1048576<=e) (he1:e<=1048576) (hf0:-1048576<=f) (hf1:f<=1048576) (hs0:1<=size) (hs:size<=1000) (bX:bl X<=262144) (bY:bl Y<=262144) :
 As 144 #[.agg #[.bool n,.slice a (ws X).length ca,.int .i64 e,.bool m,.slice b (ws Y).length cb,.int .i64 f],.int .i64 (size:Nat)] w λr w'=>(∃v,r=.returned (.agg #[v,.int .i64 (e-f-nP X Y size-fQ Y size),.bool (xH X Y size)])/\Nt w.heap.size w' v (jr X Y size))/\An w w':=by
 have D:=l6 X Y size hX hY hs0 hs bX bY;have yP:=dM Y hY;have cutb:fQ Y size<=1000/\fQ Y size<bl Y:=by unfold fQ;omega
 have bH:bl (jq Y size)<=262144:=by have:=D.blh;omega
 have hHc:bl (jq Y size)+size<=262144\/fQ Y size=0:=by have:=D.blh;unfold fQ at *;omega
 have hbyb:-262144<=nP X Y size/\nP X Y size<=264000:=by unfold nP;omega
 have bLev:bl (rz X Y size)<=262144:=by
  have:=eY D.vE;have h2:bl (jq Y size)+size<=262144:=by have:=D.blh;unfold fQ at this;omega
  omega
 have bW0:bl (nH X Y size)<=262144:=by have:=eY D.w0;omega
 have bLf:bl (rA X Y size)<=262144:=qg (fU D.lef) bH;have e1:bJ Y (-((fQ Y size:Nat):Int))=(jq Y size,0):=BH (gN bY) rfl
 have e2:bJ X (nP X Y size)=(rz X Y size,0):=by
  by_cases hb:nP X Y size<0
  . have:=BH (X:=X) (k:=(-nP X Y size).toNat) (V:=rz X Y size) (gN bX) (by unfold rz;rw[if_pos hb]);rw[show -(((-nP X Y size).toNat:Nat):Int)=nP X Y size by omega] at this;exact this
  . have:=qQ (X:=X) (k:=(nP X Y size).toNat) (V:=rz X Y size) (gN bX) (by
     by_cases h0:X=0
     . exact .inl h0
     . right
       have h2:bl (jq Y size)+size<=262144:=by have:=D.blh;unfold fQ at this;omega
       unfold nP at *;omega) (by unfold rz;rw[if_neg hb])
    rw[show(((nP X Y size).toNat:Nat):Int)=nP X Y size by omega] at this;exact this
 have e3:pO (rz X Y size) (jq Y size)=(nH X Y size,rA X Y size,0):=XB (gN bLev) (gN bH) D.hig rfl rfl
 -- what cmpLow is asked
 have hYHb:jq Y size*2^fQ Y size<=Y:=D.low';have bBk:bl (jq Y size*2^fQ Y size)<=262144:=qg hYHb bY;have bLo:bl (Gs Y size)<=262144:=qg (Nat.sub_le _ _) bY
 have bTk:bl (qf X Y size)<=262144:=by
  have h1:qf X Y size<2^(size+1+fQ Y size):=by
   unfold qf;rw[aP];exact x8 D.w0 D.lowlt
  have:=eY h1;omega
 have bHs:bl (si X Y size)<=262144:=by
  refine qg (Y:=Y) (dB ?_ hYHb) bY;exact dL _ (fU D.lef)
 have c1:bJ (jq Y size) ((fQ Y size:Nat):Int)=(jq Y size*2^fQ Y size,0):=qQ (gN bH) (.inr (by have:=D.blh;omega)) rfl;have c2:pM Y (jq Y size*2^fQ Y size)=(Gs Y size,0):=xC (gN bY) (gN bBk) (by unfold Gs;omega);have c3:jI (nH X Y size) (Gs Y size)=(qf X Y size,0):=Pf (gN bW0) (gN bLo) (gN bTk) rfl
 have c4:bJ (rA X Y size) ((fQ Y size:Nat):Int)=(si X Y size,0):=qQ (gN bLf) (by
  by_cases h0:rA X Y size=0
  . exact .inl h0
  . right
    have hlt:rA X Y size<=jq Y size:=fU D.lef;have:=eY (iC hlt (iT (jq Y size)));have:=D.blh
    omega) rfl
 have HC:Hid (∀(u:World) (p q r s:Option Addr) (cp cq cr cs:Nat),Arg u p (ws (nH X Y size)).length cp (ws (nH X Y size))->Arg u q (ws (rA X Y size)).length cq (ws (rA X Y size))->Arg u r (ws Y).length cr (ws Y)->Arg u s (ws (jq Y size)).length cs (ws (jq Y size))->At 183 #[.slice p (ws (nH X Y size)).length cp,.slice q (ws (rA X Y size)).length cq,.slice r (ws Y).length cr,.slice s (ws (jq Y size)).length cs,.int .i64 ((fQ Y size:Nat):Int)] u (.int .i64 (bI (si X Y size) (qf X Y size)))) :=
  λu p q r s cp cq cr cs A1 A2 A3 A4=>JQ _ _ _ _ (fQ Y size) _ _ _ _ _ A1 A2 A3 A4 ae c1 c2 c3 c4 rfl (iA bBk) (iA bLo) (iA bTk) (iA bHs)
 have Ey:(decide (bI (si X Y size) (qf X Y size)=0)&&decide (0<=nP X Y size))=xH X Y size:=by rw[TF];rfl
 have hcut:max ((bl Y:Int)+(size:Int)-262144) 0=((fQ Y size:Nat):Int):=by unfold fQ;omega
 by_cases hlt:si X Y size<qf X Y size
 . have hz:decide (bI (si X Y size) (qf X Y size)<0)=true:=by rw[Gw];exact decide_eq_true hlt
   have e4:pM (nH X Y size) 1=(jr X Y size,0):=by
    refine xC (gN bW0) (gN aM) ?_;have:=D.less hlt;unfold jr;rw[if_pos hlt];omega
   exact Gv n m X Y e f size (bl X) (bl Y) (bl (jq Y size)) (fQ Y size) (jq Y size) (rz X Y size) (nH X Y size) (rA X Y size) (jr X Y size) _ (nP X Y size) _ _ _ _ (xH X Y size) AX AY he0 he1 hf0 hf1 hs rfl rfl rfl bX bY bH rfl hcut ae e1 rfl e2 e3 HC hz e4 rfl rfl rfl Ey (iA bH) (iA bLev) (iA bW0) (iA bLf) (iA (qg (Y:=nH X Y size) (by unfold jr;rw[if_pos hlt];omega) bW0))
 . have hz:decide (bI (si X Y size) (qf X Y size)<0)=false:=by rw[Gw];exact decide_eq_false hlt
   have eW:jr X Y size=nH X Y size:=by unfold jr;rw[if_neg hlt]
   rw[eW];exact Gu n m X Y e f size (bl X) (bl Y) (bl (jq Y size)) (fQ Y size) (jq Y size) (rz X Y size) (nH X Y size) (rA X Y size) 0 _ (nP X Y size) _ _ _ _ (xH X Y size) AX AY he0 he1 hf0 hf1 hs rfl rfl rfl bX bY bH rfl hcut ae e1 rfl e2 e3 HC hz rfl rfl rfl Ey (iA bH) (iA bLev) (iA bW0) (iA bLf)
theorem zx(W:World)(g:Nat)(n:Bool)(v:Value)(e k:Int)(tmps:Array Value)(ht:tmps[4]?.getD undef=.pointer (some ⟨g,0,none⟩))(hk:tmps[5]?.getD undef=.int .i64 k)(D:Tk W g 79 (.bool n) v (.int .i64 e)) :
 (results Tryz.f143 tmps).run Tryz.prog W=.ok (.tuple #[.agg #[.bool n,v,.int .i64 e],.int .i64 k]) W:=by
 obtain⟨x0,x1,x2,_,_,_⟩:=D.facts;simp[results,Tryz.results143,ht,hk,go_sem,x0,x1,x2]
theorem BK(w:World)(v:Value)(x:Int)(t:Bool)(W:World)(hW:W=(w.alloc (.cells #[v,.int .i64 x,.bool t] 171)).alloc (.cells zD3 79)) :
 An w W/\W.heap.size=w.heap.size+2/\Tk W w.heap.size 171 v (.int .i64 x) (.bool t)/\Tk W (w.heap.size+1) 79 (.bool false) (.slice none 0 0) (.int .i64 0):=by
 rw[hW];refine⟨(af w _).alloc aN _,aN,(Tk.new _ _ _ _ _).alloc _,?_⟩;have:=Tk.new (w.alloc (.cells #[v,.int .i64 x,.bool t] 171)) 79 (.bool false) (.slice none 0 0) (.int .i64 0);simpa using this
theorem JS {w:World}{a:Option Addr}{ca:Nat}(n:Bool) (W M2 M3:Nat) (x y E:Int) (dn:Bool) (V:Nat) (de er:Int) (AW:Arg w a (ws W).length ca (ws W)) (hx0:-10000000<=x) (hx1:x<=10000000)
 (e1:bJ W 1=(M2,0)) (hy:x-1=y) (hE:min (max y (-4096)) 4096=E) (l2:(ws M2).length<=8192) (lV:(ws V).length<=8192)
 (HM:Hid (∀(u:World) (p:Option Addr) (q:Nat),An w u->Arg u p (ws M2).length q (ws M2)->As 94 #[.bool n,.slice p (ws M2).length q,.int .i64 E] u λr w'=>(∃v,r=.returned (.tuple #[.agg #[.bool dn,v,.int .i64 de],.int .i64 er])/\Nt u.heap.size w' v V)/\An u w')) :
 As 143 #[.bool n,.agg #[.slice a (ws W).length ca,.int .i64 x,.bool true]] w λr w'=>(∃v,r=.returned (.tuple #[.agg #[.bool dn,v,.int .i64 de],.int .i64 er])/\Nt w.heap.size w' v V)/\An w w':=by
 obtain⟨W1,hW1⟩:=ah ((w.alloc (.cells #[.slice a (ws W).length ca,.int .i64 x,.bool true] 171)).alloc (.cells zD3 79));obtain⟨hB,hz1,SK,DK⟩:=BK w _ x true W1 hW1;have TE:bJ (val (ws W)) 1=(M2,0):=by rw[aB];exact e1
 have E1:=ak TE;have hs2:w.heap.size+2<=W1.heap.size:=ae
 have l1s:(ws 1).length<=8192:=by rw[CW];simp
 have hbel:=hB;have S0:=(iN hbel (AW.below hB) SK DK);clear hbel;clear e1 TE AW hB SK DK hz1;go_enter Tryz.func143,Tryz.ntmps143;obtain⟨x0,x1,x2,_,_,_⟩:=S0.o.r2.1.facts;obtain⟨aF,AW,SK,DK⟩:=S0.o;have HC:=hid (fV 1 AW E1.o ae ae);clear aF AW SK DK
 go_upto_region 1 with fail
 rw[<-hW1];clear hW1;go_wp2_with fail;clear x0 x1 x2;refine HC.o.mono ?_;rintro r u1 ⟨v,rfl,hN,hb⟩;obtain⟨a1,c1,rfl,_⟩:=hN.arg ae;clear HC;obtain⟨aF,AW,SK,DK⟩:=S0.o;have hbn:=aF.trans (hb.mono aF.size);have S1:=gy hbn (AW.below hb) (SK.below hb) (DK.below hb) (hN.mono aF.size);clear aF AW SK DK;clear hb hbn S0;clear hN;obtain⟨x0,x1,x2,_,_,_⟩:=S1.o.r2.1.facts;obtain⟨aF,AW,SK,DK,N2⟩:=S1.o;have HC:=hid (HM.o u1 _ _ aF (N2.bS ae).2);clear aF AW SK DK N2;go_wp2_with fail;clear x0 x1 x2;refine HC.o.mono ?_;rintro r u2 ⟨⟨v,rfl,hN⟩,hb⟩;obtain⟨a7,c7,rfl,_⟩:=hN.arg ae;clear HC;obtain⟨aF,AW,SK,DK,N2⟩:=S1.o;have hbn:=aF.trans (hb.mono aF.size);have S2:=kz hbn (AW.below hb) (SK.below hb) (DK.below hb) (N2.below hb) (hN.mono aF.size);clear aF AW SK DK N2;clear hb hbn S1;clear hN;obtain⟨aF,AW,SK,DK,N2,NV⟩:=S2.o;have hlast:=gp aF NV DK;obtain⟨s0,s1,s2,Bt,Bu,Bw⟩:=DK.facts;clear aF AW SK DK N2 NV;clear S2 HM;go_wp2;obtain⟨aF,NZ,DK⟩:=hlast.o;have hsz:=aF.size;exact aH (zx _ (w.heap.size+1) dn (.slice a7 (ws V).length c7) de er _ rfl rfl (DK.set _ _ _)) rfl ⟨⟨_,rfl,NZ.Pe DK aM _ _ _⟩,kZ aF hsz ae _ _ _⟩
theorem Ph {w:World}{a:Option Addr}{ca:Nat}(n:Bool) (W M2 M3:Nat) (x y E:Int) (dn:Bool) (V:Nat) (de er:Int) (AW:Arg w a (ws W).length ca (ws W)) (hx0:-10000000<=x) (hx1:x<=10000000)
 (e1:bJ W 1=(M2,0)) (e2:xh M2 1=(M3,0)) (hy:x-1=y) (hE:min (max y (-4096)) 4096=E) (l2:(ws M2).length<=8192) (l3:(ws M3).length<=8192) (lV:(ws V).length<=8192)
 (HM:Hid (∀(u:World) (p:Option Addr) (q:Nat),An w u->Arg u p (ws M3).length q (ws M3)->As 94 #[.bool n,.slice p (ws M3).length q,.int .i64 E] u λr w'=>(∃v,r=.returned (.tuple #[.agg #[.bool dn,v,.int .i64 de],.int .i64 er])/\Nt u.heap.size w' v V)/\An u w')) :
 As 143 #[.bool n,.agg #[.slice a (ws W).length ca,.int .i64 x,.bool false]] w λr w'=>(∃v,r=.returned (.tuple #[.agg #[.bool dn,v,.int .i64 de],.int .i64 er])/\Nt w.heap.size w' v V)/\An w w':=by
 obtain⟨W1,hW1⟩:=ah ((w.alloc (.cells #[.slice a (ws W).length ca,.int .i64 x,.bool false] 171)).alloc (.cells zD3 79));obtain⟨hB,hz1,SK,DK⟩:=BK w _ x false W1 hW1;have TE:bJ (val (ws W)) 1=(M2,0):=by rw[aB];exact e1
 have e2':xh (val (ws M2)) (val (ws 1))=(M3,0):=by rw[aB,aB];exact e2
 have E2:=ak e2';clear e2 e2';have E1:=ak TE;have hs2:w.heap.size+2<=W1.heap.size:=ae
 have l1s:(ws 1).length<=8192:=by rw[CW];simp
 have hbel:=hB;have S0:=(iN hbel (AW.below hB) SK DK);clear hbel;clear e1 TE AW hB SK DK hz1;go_enter Tryz.func143,Tryz.ntmps143;obtain⟨x0,x1,x2,_,_,_⟩:=S0.o.r2.1.facts;obtain⟨aF,AW,SK,DK⟩:=S0.o;have HC:=hid (fV 1 AW E1.o ae ae);clear aF AW SK DK
 go_upto_region 1 with fail
 rw[<-hW1];clear hW1;go_wp2_with fail;clear x0 x1 x2;refine HC.o.mono ?_;rintro r u1 ⟨v,rfl,hN,hb⟩;obtain⟨a1,c1,rfl,_⟩:=hN.arg ae;clear HC;obtain⟨aF,AW,SK,DK⟩:=S0.o;have hbn:=aF.trans (hb.mono aF.size);have S1:=gy hbn (AW.below hb) (SK.below hb) (DK.below hb) (hN.mono aF.size);clear aF AW SK DK;clear hb hbn S0;clear hN;obtain⟨x0,x1,x2,_,_,_⟩:=S1.o.r2.1.facts;obtain⟨aF,AW,SK,DK,N2⟩:=S1.o;have HC:=hid (nS 1 u1 ae);clear aF AW SK DK N2;go_wp2_with fail;clear x0 x1 x2;refine HC.o.mono ?_;rintro r u2 ⟨v,rfl,hN,hb⟩;obtain⟨a5,c5,rfl,_⟩:=hN.arg ae;clear HC;obtain⟨aF,AW,SK,DK,N2⟩:=S1.o;have hbn:=aF.trans (hb.mono aF.size);have S2:=kz hbn (AW.below hb) (SK.below hb) (DK.below hb) (N2.below hb) (hN.mono aF.size);clear aF AW SK DK N2;clear hb hbn S1;clear hN;obtain⟨aF,AW,SK,DK,N2,NO⟩:=S2.o;have HC:=hid (xz (N2.bS ae).2 (NO.bS ae).2 E2.o);clear aF AW SK DK N2 NO;go_wp2_with fail;refine HC.o.mono ?_;rintro r u3 ⟨v,rfl,hN,hb⟩;obtain⟨a6,c6,rfl,_⟩:=hN.arg ae;clear HC;obtain⟨aF,AW,SK,DK,N2,NO⟩:=S2.o;have hbn:=aF.trans (hb.mono aF.size);have S3:=Ew hbn (AW.below hb) (SK.below hb) (DK.below hb) (N2.below hb) (NO.below hb) (hN.mono aF.size);clear aF AW SK DK N2 NO;clear hb hbn S2;clear hN;obtain⟨x0,x1,x2,_,_,_⟩:=S3.o.r2.1.facts;obtain⟨aF,AW,SK,DK,N2,NO,N3⟩:=S3.o;have HC:=hid (HM.o u3 _ _ aF (N3.bS ae).2);clear aF AW SK DK N2 NO N3;go_wp2_with fail;clear x0 x1 x2;refine HC.o.mono ?_;rintro r u4 ⟨⟨v,rfl,hN⟩,hb⟩;obtain⟨a7,c7,rfl,_⟩:=hN.arg ae;clear HC;obtain⟨aF,AW,SK,DK,N2,NO,N3⟩:=S3.o;have hbn:=aF.trans (hb.mono aF.size);have S4:=Ck hbn (AW.below hb) (SK.below hb) (DK.below hb) (N2.below hb) (NO.below hb) (N3.below hb) (hN.mono aF.size);clear aF AW SK DK N2 NO N3;clear hb hbn S3;clear hN;obtain⟨aF,AW,SK,DK,N2,NO,N3,NV⟩:=S4.o;have hlast:=gp aF NV DK;obtain⟨s0,s1,s2,Bt,Bu,Bw⟩:=DK.facts;clear aF AW SK DK N2 NO N3 NV;clear S4 HM;go_wp2;obtain⟨aF,NZ,DK⟩:=hlast.o;have hsz:=aF.size;exact aH (zx _ (w.heap.size+1) dn (.slice a7 (ws V).length c7) de er _ rfl rfl (DK.set _ _ _)) rfl ⟨⟨_,rfl,NZ.Pe DK aM _ _ _⟩,kZ aF hsz ae _ _ _⟩
theorem JU{w:World}{a:Option Addr}{ca:Nat}(n:Bool)(W:Nat)(x:Int)(t:Bool)(AW:Arg w a (ws W).length ca (ws W))(hT:gP w)(hx0:-10000000<=x)(hx1:x<=10000000)(hW:bl W<=1000) :
 As 143 #[.bool n,.agg #[.slice a (ws W).length ca,.int .i64 x,.bool t]] w λr w'=>dm w.heap.size w' r (mkS n (2*W+(if t then 0 else 1)) (fM x))/\An w w':=by
 have hLW:¬ LG W:=λk=>by have:=(pV W).1 k;omega
 have e1:bJ W 1=(2*W,0):=by
  have:=qQ (X:=W) (k:=1) (V:=2*W) hLW (.inr ae) ae;simpa using this
 have b2:∀d,d<=1->bl (2*W+d)<=1001:=by
  intro d hd;have h1:=iT W;have h2:2*W+d<2^(bl W+1):=by rw[dS];omega
  by_cases h0:2*W+d=0
  . rw[h0,dI];omega
  . have:=(kH (a:=2) aM).1 (iC (iw _ h0) h2);have:=dM _ h0;omega
 have l8:∀d,d<=1->(ws (2*W+d)).length<=8192/\¬ LG (2*W+d):=by
  intro d hd;have hb:=b2 d hd;have hn:¬ LG (2*W+d):=λk=>by have:=(pV (2*W+d)).1 k;omega
  exact⟨by unfold LG at hn;omega,hn⟩
 have cl0:-4096<=fM x/\fM x<=4096:=by unfold fM;omega
 unfold dm;have hl:=aR n (2*W+(if t then 0 else 1)) (fM x)
 cases t with
 | true =>
   simp only[if_true,il] at hl |-;refine JS n W (2*W) 0 x _ _ _ _ _ _ AW hx0 hx1 e1 rfl rfl (l8 0 ae).1 hl ?_;intro u p q hu hA;have:=fZ hA (hT.belows hu) n (fM x) ae ae;rw[aB] at this;exact this
 | false =>
   simp only[eX,if_false] at hl |-;refine Ph n W (2*W) (2*W+1) x _ _ _ _ _ _ AW hx0 hx1 e1 (xB (l8 1 ae).2 rfl) rfl rfl (l8 0 ae).1 (l8 1 ae).1 hl ?_;intro u p q hu hA;have:=fZ hA (hT.belows hu) n (fM x) ae ae;rw[aB] at this;exact this
theorem JV(w:World)(n:Bool)(v:Value)(e:Int)(m:Bool)(u:Value)(f:Int)(W:World)(hW:W=(w.alloc (.cells #[.bool n,v,.int .i64 e,.bool m,u,.int .i64 f] 93)).alloc (.cells zD3 79)) :
 An w W/\W.heap.size=w.heap.size+2/\Rq W w.heap.size n v e m u f/\Tk W (w.heap.size+1) 79 (.bool false) (.slice none 0 0) (.int .i64 0):=by
 rw[hW];refine⟨(af w _).alloc aN _,aN,(Rq.new _ _ _ _ _ _ _).alloc _,?_⟩;have:=Tk.new (w.alloc (.cells #[.bool n,v,.int .i64 e,.bool m,u,.int .i64 f] 93)) 79 (.bool false) (.slice none 0 0) (.int .i64 0);simpa using this
theorem um(W:World)(g:Nat)(n:Bool)(v:Value)(e k:Int)(tmps:Array Value)(ht:tmps[2]?.getD undef=.pointer (some ⟨g,0,none⟩))(hk:tmps[3]?.getD undef=.int .i64 k)(D:Tk W g 79 (.bool n) v (.int .i64 e)) :
 (results Tryz.f92 tmps).run Tryz.prog W=.ok (.tuple #[.agg #[.bool n,v,.int .i64 e],.int .i64 k]) W:=by
 obtain⟨x0,x1,x2,_,_,_⟩:=D.facts;simp[results,Tryz.results92,ht,hk,go_sem,x0,x1,x2]
theorem Aj {w:World}{a b:Option Addr}{la ca lb cb:Nat}(n m:Bool) (e f:Int) (WH:Nat) (x:Int) (tt:Bool) (dn:Bool) (V:Nat) (de er:Int) (lW:(ws WH).length<=8192) (lV:(ws V).length<=8192)
 (HD:Hid (∀u,An w u->As 144 #[.agg #[.bool n,.slice a la ca,.int .i64 e,.bool m,.slice b lb cb,.int .i64 f],.int .i64 64] u λr w'=>(∃v,r=.returned (.agg #[v,.int .i64 x,.bool tt])/\Nt u.heap.size w' v WH)/\An u w'))
 (HI:Hid (∀(u:World) (p:Option Addr) (q:Nat),An w u->Arg u p (ws WH).length q (ws WH)->As 143 #[.bool n,.agg #[.slice p (ws WH).length q,.int .i64 x,.bool tt]] u λr w'=>(∃v,r=.returned (.tuple #[.agg #[.bool dn,v,.int .i64 de],.int .i64 er])/\Nt u.heap.size w' v V)/\An u w')) :
 As 92 #[.agg #[.bool n,.slice a la ca,.int .i64 e,.bool m,.slice b lb cb,.int .i64 f]] w λr w'=>(∃v,r=.returned (.tuple #[.agg #[.bool dn,v,.int .i64 de],.int .i64 er])/\Nt w.heap.size w' v V)/\An w w':=by
 obtain⟨W1,hW1⟩:=ah ((w.alloc (.cells #[.bool n,.slice a la ca,.int .i64 e,.bool m,.slice b lb cb,.int .i64 f] 93)).alloc (.cells zD3 79));obtain⟨hB,hz1,RQ,DK⟩:=JV w n _ e m _ f W1 hW1;have T1:=hid (HD.o W1 hB);have T2:=hid (HD.o W1.drew hB.drew);obtain⟨x0,x1,x2,x3,x4,x5⟩:=RQ.facts;obtain⟨s0,s1,s2,Bt,Bu,Bw⟩:=DK.facts;have hs1:w.heap.size+2<=W1.heap.size:=ae
 have SB:=(gp hB RQ DK);clear hB hz1 RQ DK HD;go_enter Tryz.func92,Tryz.ntmps92;go_wp2_with fail;rw[<-hW1];clear hW1;have ne1:w.heap.size≠w.heap.size+1:=ae
 have ne2:w.heap.size+1≠w.heap.size:=ae
 go_region_held3 (λw'=>w'.cell? ⟨w.heap.size,0,none⟩=some (.bool n)/\w'.cell? ⟨w.heap.size,1,none⟩=some (.slice a la ca)/\w'.cell? ⟨w.heap.size,2,none⟩=some (.int .i64 e)/\w'.cell? ⟨w.heap.size,3,none⟩=some (.bool m)/\w'.cell? ⟨w.heap.size,4,none⟩=some (.slice b lb cb)/\w'.cell? ⟨w.heap.size,5,none⟩=some (.int .i64 f)) (go_keep) (first
  | (go_at_call 144
     first | with_reducible refine T1.o.mono ?_ | with_reducible refine T2.o.mono ?_
     rintro r u1 ⟨⟨v,rfl,hN⟩,hb⟩;obtain⟨a1,c1,rfl,_⟩:=hN.arg ae;have hb1:An W1 u1:=by first | exact hb | exact((aD _ W1).drew).trans (hb.mono (aA _))
     have BW:An w u1:=SB.o.1.trans (hb1.mono ae);have HI1:=hid (HI.o u1 _ _ BW (hN.bS ae).2);obtain⟨p0,p1,p2,Sj,Sk,Sl⟩:=(SB.o.r2.below hb1).facts;obtain⟨q0,q1,q2,q3,q4,q5⟩:=(SB.o.2.1.below hb1).facts;have S1:=(gp BW (SB.o.2.1.below hb1) (SB.o.r2.below hb1))
     clear hb hb1 BW hN)
  | (go_at_call 143
     with_reducible refine HI1.o.mono ?_
     rintro r u2 ⟨⟨v,rfl,hN⟩,hb⟩;obtain⟨a4,c4,rfl,_⟩:=hN.arg ae;have LD:=S1.o.r2.below hb;obtain⟨t0,t1,t2,tf0,tf1,tf2⟩:=LD.facts;obtain⟨i0,i1,i2,i3,i4,i5⟩:=(S1.o.2.1.below hb).facts;have FV:=gp (S1.o.1.trans (hb.mono S1.o.1.size)) (hN.mono S1.o.1.size) LD
     clear hN hb LD))
 all_goals (
  go_wp2;obtain⟨aF,NZ,DK⟩:=FV.o;have hsz:=aF.size
  first
  | exact aH (um _ (w.heap.size+1) dn (.slice a4 (ws V).length c4) de er _ rfl rfl (DK.set _ _ _)) rfl ⟨⟨_,rfl,NZ.Pe DK aM _ _ _⟩,kZ aF hsz ae _ _ _⟩
  | exact aH (um _ (w.heap.size+1) dn (.slice a4 (ws V).length c4) de er _ rfl rfl (DK.set _ _ _)) rfl ⟨⟨_,rfl,NZ.Pe DK aM _ _ _⟩,(kZ aF hsz ae _ _ _).drew⟩)
theorem DV {w:World}{a b:Option Addr}{ca cb:Nat}(n m:Bool) (X Y:Nat) (e f:Int)
 (AX:Arg w a (ws X).length ca (ws X)) (AY:Arg w b (ws Y).length cb (ws Y)) (hT:gP w) (hX:X=0\/X%2=1) (hY:Y≠0)
 (he0:-1048576<=e) (he1:e<=1048576) (hf0:-1048576<=f) (hf1:f<=1048576) (bX:bl X<=262144) (bY:bl Y<=262144) :
 As 92 #[.agg #[.bool n,.slice a (ws X).length ca,.int .i64 e,.bool m,.slice b (ws Y).length cb,.int .i64 f]] w λr w' =>
  dm w.heap.size w' r (mkS n (2*jr X Y 64+(if xH X Y 64 then 0 else 1)) (fM (e-f-nP X Y 64-fQ Y 64)))/\An w w':=by
 have D:=l6 X Y 64 hX hY ae ae bX bY;have bW:bl (jr X Y 64)<=65:=eY D.most;have hc:fQ Y 64<=64:=by unfold fQ;omega
 have hb:-262144<=nP X Y 64/\nP X Y 64<=264000:=by have:=D.blh;unfold nP;omega
 unfold dm;refine Aj n m e f (jr X Y 64) (e-f-nP X Y 64-fQ Y 64) (xH X Y 64) _ _ _ _ (iA ae) (aR _ _ _) ?_ ?_
 . intro u hu;exact Pg n m X Y e f 64 (AX.below hu) (AY.below hu) hX hY he0 he1 hf0 hf1 ae ae bX bY
 . intro u p q hu hA;exact JU n (jr X Y 64) _ (xH X Y 64) hA (hT.belows hu) ae ae ae
theorem zy(W:World)(g:Nat)(n:Bool)(v:Value)(e:Int)(m:Bool)(u:Value)(f k:Int)(tmps:Array Value)(ht:tmps[2]?.getD undef=.pointer (some ⟨g,0,none⟩))(hk:tmps[3]?.getD undef=.int .i64 k)(D:Rq W g n v e m u f) :
 (results Tryz.f181 tmps).run Tryz.prog W=.ok (.tuple #[.agg #[.bool n,v,.int .i64 e,.bool m,u,.int .i64 f],.int .i64 k]) W:=by
 obtain⟨x0,x1,x2,x3,x4,x5⟩:=D.facts;simp[results,Tryz.results181,ht,hk,go_sem,x0,x1,x2,x3,x4,x5]
theorem sj(w:World)(n:Bool)(v:Value)(e:Int)(m:Bool)(u:Value)(f:Int)(W:World)(hW:W=(w.alloc (.cells #[.bool n,v,.int .i64 e,.bool m,u,.int .i64 f] 93)).alloc (.cells #[.bool false,.slice none 0 0,.int .i64 0,.bool false,.slice none 0 0,.int .i64 0] 93)) :
 An w W/\W.heap.size=w.heap.size+2/\Rq W w.heap.size n v e m u f/\Rq W (w.heap.size+1) false (.slice none 0 0) 0 false (.slice none 0 0) 0:=by
 rw[hW];refine⟨(af w _).alloc aN _,aN,(Rq.new _ _ _ _ _ _ _).alloc _,?_⟩;have:=Rq.new (w.alloc (.cells #[.bool n,v,.int .i64 e,.bool m,u,.int .i64 f] 93)) false (.slice none 0 0) 0 false (.slice none 0 0) 0;simpa using this
theorem XC {w:World}{a b:Option Addr}{la ca lb cb:Nat}(n m:Bool) (e f:Int) (n1 m1:Bool) (X Y:Nat) (e1 f1:Int) (lX:(ws X).length<=8192) (lY:(ws Y).length<=8192)
 (H1:Hid (∀u,An w u->As 94 #[.bool n,.slice a la ca,.int .i64 e] u λr w'=>(∃v,r=.returned (.tuple #[.agg #[.bool n1,v,.int .i64 e1],.int .i64 0])/\Nt u.heap.size w' v X)/\An u w'))
 (H2:Hid (∀u,An w u->As 94 #[.bool m,.slice b lb cb,.int .i64 f] u λr w'=>(∃v,r=.returned (.tuple #[.agg #[.bool m1,v,.int .i64 f1],.int .i64 0])/\Nt u.heap.size w' v Y)/\An u w')) :
 As 181 #[.agg #[.bool n,.slice a la ca,.int .i64 e,.bool m,.slice b lb cb,.int .i64 f]] w λr w'=>(∃v u,r=.returned (.tuple #[.agg #[.bool n1,v,.int .i64 e1,.bool m1,u,.int .i64 f1],.int .i64 0])/\Nt w.heap.size w' v X/\Nt w.heap.size w' u Y/\Ap v u)/\An w w':=by
 obtain⟨W1,hW1⟩:=ah ((w.alloc (.cells #[.bool n,.slice a la ca,.int .i64 e,.bool m,.slice b lb cb,.int .i64 f] 93)).alloc (.cells #[.bool false,.slice none 0 0,.int .i64 0,.bool false,.slice none 0 0,.int .i64 0] 93));obtain⟨hB,hz1,RQ,RR⟩:=sj w n _ e m _ f W1 hW1;have hs2:w.heap.size+2<=W1.heap.size:=ae
 have hbel:=hB;have S0:=(gp hbel RQ RR);clear hbel;clear hB RQ RR hz1;go_enter Tryz.func181,Tryz.ntmps181;obtain⟨x0,x1,x2,x3,x4,x5⟩:=S0.o.2.1.facts;obtain⟨aF,RQ,RR⟩:=S0.o;have HC:=hid (H1.o W1 aF);clear aF RQ RR
 go_upto_region 1 with fail
 rw[<-hW1];clear hW1;go_wp2_with fail;clear x0 x1 x2 x3 x4 x5;refine HC.o.mono ?_;rintro r u1 ⟨⟨v,rfl,hN⟩,hb⟩;obtain⟨a1,c1,rfl,_⟩:=hN.arg ae;clear HC;obtain⟨aF,RQ,RR⟩:=S0.o;have hbn:=aF.trans (hb.mono aF.size);have S1:=iN hbn (RQ.below hb) (RR.below hb) (hN.mono aF.size);clear aF RQ RR;clear hb hbn S0;clear hN;obtain⟨U1,aX⟩:=ah (u1.alloc (.cells #[.bool n1,.slice a1 (ws X).length c1,.int .i64 e1] 79));obtain⟨aF,RQ,RR,NX⟩:=S1.o;have nY:An u1 U1:=by rw[aX];exact af _ _
 have TN:Tk U1 u1.heap.size 79 (.bool n1) (.slice a1 (ws X).length c1) (.int .i64 e1):=by rw[aX];exact Tk.new _ _ _ _ _
 have hbn:=aF.trans (nY.mono aF.size);have hgu:w.heap.size+2<=u1.heap.size:=by have:=RR.lt;omega
 have S2:=gy hbn (RQ.below nY) (RR.below nY) (NX.below nY) TN;obtain⟨x0,x1,x2,x3,x4,x5⟩:=(RQ.below nY).facts;clear aF RQ RR NX;clear nY hbn TN S1 H1;obtain⟨aF,RQ,RR,NX,TN⟩:=S2.o;have HC:=hid (H2.o U1 aF);clear aF RQ RR NX TN
 go_upto_region 4 with fail
 rw[<-aX];clear aX;go_wp2_with fail;clear x0 x1 x2 x3 x4 x5;refine HC.o.mono ?_;rintro r u3 ⟨⟨v,rfl,hN⟩,hb⟩;obtain⟨a2,c2,rfl,_⟩:=hN.arg ae;clear HC;obtain⟨aF,RQ,RR,NX,TN⟩:=S2.o;have hbn:=aF.trans (hb.mono aF.size);have S3:=Ew hbn (RQ.below hb) (RR.below hb) (NX.below hb) (TN.below hb) (hN.mono aF.size) (NX.ap hN);clear aF RQ RR NX TN;clear hb hbn S2;clear hN;obtain⟨U3,JW⟩:=ah (u3.alloc (.cells #[.bool m1,.slice a2 (ws Y).length c2,.int .i64 f1] 79));obtain⟨aF,RQ,RR,NX,TN,NY,AP⟩:=S3.o;have nY:An u3 U3:=by rw[JW];exact af _ _
 have TD:Tk U3 u3.heap.size 79 (.bool m1) (.slice a2 (ws Y).length c2) (.int .i64 f1):=by rw[JW];exact Tk.new _ _ _ _ _
 have hbn:=aF.trans (nY.mono aF.size);have SZ:=gy hbn (RR.below nY) (NX.below nY) (NY.below nY) AP;obtain⟨x0,x1,x2,_,_,_⟩:=(TN.below nY).facts;obtain⟨y0,y1,y2,_,_,_⟩:=TD.facts;obtain⟨r0,r1,r2,r3,r4,r5⟩:=(RR.below nY).facts;obtain⟨gK,gL,gM,rf3,rf4,rf5⟩:=(RR.below nY).frz;clear aF RQ RR NX TN NY AP;clear nY hbn TD S3 H2
 go_upto_region 5 with fail
 rw[<-JW];clear JW;go_wp2;obtain⟨aF,RR,NX,NY,AP⟩:=SZ.o;have hbl:=aF.size;refine aH (zy _ (w.heap.size+1) n1 (.slice a1 (ws X).length c1) e1 m1 (.slice a2 (ws Y).length c2) f1 0 _ rfl rfl (RR.set _ _ _ _ _ _)) rfl ⟨⟨_,_,rfl,NX.st6k RR _ _ _ _ _ _,NY.st6k RR _ _ _ _ _ _,AP⟩,vF aF hbl ae _ _ _ _ _ _⟩
theorem Pj {w:World}{a b:Option Addr}{la ca lb cb:Nat}(n m:Bool) (e f:Int) (n1 m1:Bool) (X Y:Nat) (e1 f1:Int) (lX:(ws X).length<=8192) (lY:(ws Y).length<=8192)
 (H1:Hid (∀u,An w u->As 94 #[.bool n,.slice a la ca,.int .i64 e] u λr w'=>(∃v,r=.returned (.tuple #[.agg #[.bool n1,v,.int .i64 e1],.int .i64 2])/\Nt u.heap.size w' v X)/\An u w'))
  :
 As 181 #[.agg #[.bool n,.slice a la ca,.int .i64 e,.bool m,.slice b lb cb,.int .i64 f]] w λr w'=>(∃v u,r=.returned (.tuple #[.agg #[.bool false,v,.int .i64 0,.bool false,u,.int .i64 0],.int .i64 2])/\v=.slice none 0 0/\u=.slice none 0 0)/\An w w':=by
 obtain⟨W1,hW1⟩:=ah ((w.alloc (.cells #[.bool n,.slice a la ca,.int .i64 e,.bool m,.slice b lb cb,.int .i64 f] 93)).alloc (.cells #[.bool false,.slice none 0 0,.int .i64 0,.bool false,.slice none 0 0,.int .i64 0] 93));obtain⟨hB,hz1,RQ,RR⟩:=sj w n _ e m _ f W1 hW1;have hs2:w.heap.size+2<=W1.heap.size:=ae
 have hbel:=hB;have S0:=(gp hbel RQ RR);clear hbel;clear hB RQ RR hz1;go_enter Tryz.func181,Tryz.ntmps181;obtain⟨x0,x1,x2,x3,x4,x5⟩:=S0.o.2.1.facts;obtain⟨aF,RQ,RR⟩:=S0.o;have HC:=hid (H1.o W1 aF);clear aF RQ RR
 go_upto_region 1 with fail
 rw[<-hW1];clear hW1;go_wp2_with fail;clear x0 x1 x2 x3 x4 x5;refine HC.o.mono ?_;rintro r u1 ⟨⟨v,rfl,hN⟩,hb⟩;obtain⟨a1,c1,rfl,_⟩:=hN.arg ae;clear HC;obtain⟨aF,RQ,RR⟩:=S0.o;have hbn:=aF.trans (hb.mono aF.size);have S1:=gp hbn (RQ.below hb) (RR.below hb);clear aF RQ RR;clear hb hbn S0;clear hN;obtain⟨U1,aX⟩:=ah (u1.alloc (.cells #[.bool n1,.slice a1 (ws X).length c1,.int .i64 e1] 79));obtain⟨aF,RQ,RR⟩:=S1.o;have nY:An u1 U1:=by rw[aX];exact af _ _
 have hlast:=bA (aF.trans (nY.mono aF.size)) (RR.below nY);obtain⟨r0,r1,r2,r3,r4,r5⟩:=(RR.below nY).facts;obtain⟨gK,gL,gM,rf3,rf4,rf5⟩:=(RR.below nY).frz;clear aF RQ RR;clear S1 H1 nY
 go_upto_region 2 with fail
 rw[<-aX];clear aX;go_wp2;obtain⟨aF,RR⟩:=hlast.o;exact aH (zy _ (w.heap.size+1) false (.slice none 0 0) 0 false (.slice none 0 0) 0 2 _ rfl rfl (RR.set _ _ _ _ _ _)) rfl ⟨⟨_,_,rfl,rfl,rfl⟩,vF aF aF.size ae _ _ _ _ _ _⟩
theorem Pn {w:World}{a b:Option Addr}{la ca lb cb:Nat}(n m:Bool) (e f:Int) (n1 m1:Bool) (X Y:Nat) (e1 f1:Int) (lX:(ws X).length<=8192) (lY:(ws Y).length<=8192)
 (H1:Hid (∀u,An w u->As 94 #[.bool n,.slice a la ca,.int .i64 e] u λr w'=>(∃v,r=.returned (.tuple #[.agg #[.bool n1,v,.int .i64 e1],.int .i64 0])/\Nt u.heap.size w' v X)/\An u w'))
 (H2:Hid (∀u,An w u->As 94 #[.bool m,.slice b lb cb,.int .i64 f] u λr w'=>(∃v,r=.returned (.tuple #[.agg #[.bool m1,v,.int .i64 f1],.int .i64 2])/\Nt u.heap.size w' v Y)/\An u w')) :
 As 181 #[.agg #[.bool n,.slice a la ca,.int .i64 e,.bool m,.slice b lb cb,.int .i64 f]] w λr w'=>(∃v u,r=.returned (.tuple #[.agg #[.bool false,v,.int .i64 0,.bool false,u,.int .i64 0],.int .i64 2])/\v=.slice none 0 0/\u=.slice none 0 0)/\An w w':=by
 obtain⟨W1,hW1⟩:=ah ((w.alloc (.cells #[.bool n,.slice a la ca,.int .i64 e,.bool m,.slice b lb cb,.int .i64 f] 93)).alloc (.cells #[.bool false,.slice none 0 0,.int .i64 0,.bool false,.slice none 0 0,.int .i64 0] 93));obtain⟨hB,hz1,RQ,RR⟩:=sj w n _ e m _ f W1 hW1;have hs2:w.heap.size+2<=W1.heap.size:=ae
 have hbel:=hB;have S0:=(gp hbel RQ RR);clear hbel;clear hB RQ RR hz1;go_enter Tryz.func181,Tryz.ntmps181;obtain⟨x0,x1,x2,x3,x4,x5⟩:=S0.o.2.1.facts;obtain⟨aF,RQ,RR⟩:=S0.o;have HC:=hid (H1.o W1 aF);clear aF RQ RR
 go_upto_region 1 with fail
 rw[<-hW1];clear hW1;go_wp2_with fail;clear x0 x1 x2 x3 x4 x5;refine HC.o.mono ?_;rintro r u1 ⟨⟨v,rfl,hN⟩,hb⟩;obtain⟨a1,c1,rfl,_⟩:=hN.arg ae;clear HC;obtain⟨aF,RQ,RR⟩:=S0.o;have hbn:=aF.trans (hb.mono aF.size);have S1:=iN hbn (RQ.below hb) (RR.below hb) (hN.mono aF.size);clear aF RQ RR;clear hb hbn S0;clear hN;obtain⟨U1,aX⟩:=ah (u1.alloc (.cells #[.bool n1,.slice a1 (ws X).length c1,.int .i64 e1] 79));obtain⟨aF,RQ,RR,NX⟩:=S1.o;have nY:An u1 U1:=by rw[aX];exact af _ _
 have TN:Tk U1 u1.heap.size 79 (.bool n1) (.slice a1 (ws X).length c1) (.int .i64 e1):=by rw[aX];exact Tk.new _ _ _ _ _
 have hbn:=aF.trans (nY.mono aF.size);have hgu:w.heap.size+2<=u1.heap.size:=by have:=RR.lt;omega
 have S2:=gy hbn (RQ.below nY) (RR.below nY) (NX.below nY) TN;obtain⟨x0,x1,x2,x3,x4,x5⟩:=(RQ.below nY).facts;clear aF RQ RR NX;clear nY hbn TN S1 H1;obtain⟨aF,RQ,RR,NX,TN⟩:=S2.o;have HC:=hid (H2.o U1 aF);clear aF RQ RR NX TN
 go_upto_region 4 with fail
 rw[<-aX];clear aX;go_wp2_with fail;clear x0 x1 x2 x3 x4 x5;refine HC.o.mono ?_;rintro r u3 ⟨⟨v,rfl,hN⟩,hb⟩;obtain⟨a2,c2,rfl,_⟩:=hN.arg ae;clear HC;obtain⟨aF,RQ,RR,NX,TN⟩:=S2.o;have hbn:=aF.trans (hb.mono aF.size);have S3:=gy hbn (RQ.below hb) (RR.below hb) (NX.below hb) (TN.below hb);clear aF RQ RR NX TN;clear hb hbn S2;clear hN;obtain⟨U3,JW⟩:=ah (u3.alloc (.cells #[.bool m1,.slice a2 (ws Y).length c2,.int .i64 f1] 79));obtain⟨aF,RQ,RR,NX,TN⟩:=S3.o;have nY:An u3 U3:=by rw[JW];exact af _ _
 have hlast:=bA (aF.trans (nY.mono aF.size)) (RR.below nY);obtain⟨r0,r1,r2,r3,r4,r5⟩:=(RR.below nY).facts;obtain⟨gK,gL,gM,rf3,rf4,rf5⟩:=(RR.below nY).frz;clear aF RQ RR NX TN;clear S3 H2 nY
 go_upto_region 5 with fail
 rw[<-JW];clear JW;go_wp2;obtain⟨aF,RR⟩:=hlast.o;exact aH (zy _ (w.heap.size+1) false (.slice none 0 0) 0 false (.slice none 0 0) 0 2 _ rfl rfl (RR.set _ _ _ _ _ _)) rfl ⟨⟨_,_,rfl,rfl,rfl⟩,vF aF aF.size ae _ _ _ _ _ _⟩
theorem infoR:(Tryz.prog.info? 93).map (λi=>(i.zero,i.size,i.bytes))=some (some (.agg #[.bool false,.slice none 0 0,.int .i64 0,.bool false,.slice none 0 0,.int .i64 0]),6,80):=by kernel_rfl
theorem DY(w:World) :
 (Instr.makeSlice 166 (.int .i64 1) (.int .i64 1)).run Tryz.prog w=.ok (.slice (some ⟨w.heap.size,0,none⟩) 1 1) (w.alloc (.cells #[.bool false,.slice none 0 0,.int .i64 0,.bool false,.slice none 0 0,.int .i64 0] 93)):=by
 have h:=infoR;have e:IntKind.i64.wrap 1=1:=aM
 cases hq:Tryz.prog.info? 93 with
 | none=>rw[hq] at h;simp at h
 | some i =>
   rw[hq] at h;simp at h;simp[Instr.makeSlice,go_sem,Tryz.underlying166,hq,h,typeInfo,e]
structure Ri where
 n:Bool
 v:Value
 X:Nat
 e:Int
 m:Bool
 u:Value
 Y:Nat
 f:Int
def Av(w:World)(v:Value)(X:Nat):Prop:=∃a l c xs,v=.slice a l c/\Arg w a l c xs/\val xs=X
theorem Av.below{w w':World}{v:Value}{X:Nat}(h:Av w v X)(hb:An w w'):Av w' v X:=by
 obtain⟨a,l,c,xs,rfl,hA,hv⟩:=h;exact⟨a,l,c,xs,rfl,hA.below hb,hv⟩
theorem Nt.av{lo:Nat}{w:World}{v:Value}{X:Nat}(h:Nt lo w v X)(hs:(ws X).length<=35184372088832):Av w v X:=by
 obtain⟨a,c,rfl,hA⟩:=h.arg hs;exact⟨a,_,c,_,rfl,hA,aB X⟩
def D5(w:World)(g k:Nat)(I:Nat->Ri):Prop:=∃cur:Array Value,w.heap[g]?=some (.cells cur 93 (0,0))/\∀i,i<k->cur[i*6]?=some (.bool (I i).n)/\cur[i*6+1]?=some (I i).v/\cur[i*6+2]?=some (.int .i64 (I i).e)/\cur[i*6+3]?=some (.bool (I i).m)/\cur[i*6+4]?=some (I i).u/\cur[i*6+5]?=some (.int .i64 (I i).f)
theorem D5.lt{w:World}{g k:Nat}{I:Nat->Ri}(h:D5 w g k I):g<w.heap.size:=by obtain⟨c,h,_⟩:=h;exact(dQ.1 h).1
theorem D5.below{w w':World}{g k:Nat}{I:Nat->Ri}(h:D5 w g k I)(hb:An w w'):D5 w' g k I:=by
 have hl:=h.lt;obtain⟨c,h,r⟩:=h;exact⟨c,by rw[hb.block g hl];exact h,r⟩
theorem D5.facts{w:World}{g k:Nat}{I:Nat->Ri}(h:D5 w g k I)(i:Nat)(hi:i<k) :
 w.cell? ⟨g,i*6,none⟩=some (.bool (I i).n)/\w.cell? ⟨g,i*6+1,none⟩=some (I i).v/\w.cell? ⟨g,i*6+2,none⟩=some (.int .i64 (I i).e)/\w.cell? ⟨g,i*6+3,none⟩=some (.bool (I i).m)/\w.cell? ⟨g,i*6+4,none⟩=some (I i).u/\w.cell? ⟨g,i*6+5,none⟩=some (.int .i64 (I i).f):=by
 obtain⟨c,h,r⟩:=h;obtain⟨r0,r1,r2,r3,r4,r5⟩:=r i hi;simp[World.cell?,h,r0,r1,r2,r3,r4,r5]
def kV(I:Nat->Ri)(k:Nat):Int :=
 if (List.range k).any (λi=>decide (qN (I i).m (I i).Y<0)) then 1
 else if (List.range k).any (λi=>!((mkS (I i).n (I i).X (I i).e).isSome&&(mkS (I i).m (I i).Y (I i).f).isSome)) then 2
 else if (List.range k).any (λi=>decide (dX (mkS (I i).m (I i).Y (I i).f)=0)) then 21 else 0
theorem JX{k i:Nat}{p:Nat->Bool}(hi:i<k)(h:p i=true):(List.range k).any p=true:=yf.2 ⟨i,xQ.2 hi,h⟩
theorem vG{k:Nat}{p:Nat->Bool}(h:∀i,i<k->p i=false):(List.range k).any p=false:=by
 rw[List.any_eq_false];intro i hi;rw[h i (xQ.1 hi)];simp
structure RIn (w:World) (g k:Nat) (I:Nat->Ri):Prop where
 row:D5 w g k I
 one:∀i,i<k->Av w (I i).v (I i).X/\Av w (I i).u (I i).Y
 sD:∀i,i<k->-9223372036854775808<=(I i).e/\(I i).e<=9223372036854775807/\-9223372036854775808<=(I i).f/\(I i).f<=9223372036854775807
 tab:gP w
theorem RIn.below{w w':World}{g k:Nat}{I:Nat->Ri}(h:RIn w g k I)(hb:An w w'):RIn w' g k I :=
 ⟨h.row.below hb,λi hi=>⟨(h.one i hi).1.below hb,(h.one i hi).2.below hb⟩,h.sD,h.tab.belows hb⟩
def zA(I:Nat->Ri)(V:Nat->Value×Value)(i:Nat):Ri :=
 ⟨dN (mkS (I i).n (I i).X (I i).e),(V i).1,dX (mkS (I i).n (I i).X (I i).e),dE (mkS (I i).n (I i).X (I i).e),dN (mkS (I i).m (I i).Y (I i).f),(V i).2,dX (mkS (I i).m (I i).Y (I i).f),dE (mkS (I i).m (I i).Y (I i).f)⟩
structure Po (lo:Nat) (w:World) (g k:Nat) (I:Nat->Ri) (V:Nat->Value×Value):Prop where
 row:D5 w g k (zA I V)
 own:lo<=g
 nts:∀i,i<k->Nt lo w (V i).1 (dX (mkS (I i).n (I i).X (I i).e))/\Nt lo w (V i).2 (dX (mkS (I i).m (I i).Y (I i).f))
theorem Po.below{lo:Nat}{w w':World}{g k:Nat}{I:Nat->Ri}{V:Nat->Value×Value}(h:Po lo w g k I V)(hb:An w w'):Po lo w' g k I V :=
 ⟨h.row.below hb,h.own,λi hi=>⟨(h.nts i hi).1.below hb,(h.nts i hi).2.below hb⟩⟩
abbrev TG(w:World)(g o:Nat)(a b c d e f:Value):World:=(((((w.setCell ⟨g,o,none⟩ a).setCell ⟨g,o+1,none⟩ b).setCell ⟨g,o+2,none⟩ c).setCell ⟨g,o+3,none⟩ d).setCell ⟨g,o+4,none⟩ e).setCell ⟨g,o+5,none⟩ f
theorem qh(g o:Nat)(w:World)(a b c d e f:Value):But g w (TG w g o a b c d e f):=((((((But.refl g w).set _ _).set _ _).set _ _).set _ _).set _ _).set _ _
theorem Pp{w:World}{g T:Nat}{cur:Array Value}{fz:Nat×Nat}(h:w.heap[g]?=some (.cells cur T fz))(o:Nat)(v:Value):(w.setCell ⟨g,o,none⟩ v).heap[g]?=some (.cells (cur.setIfInBounds o v) T fz):=by
 simp[World.setCell,gz,h]
theorem JY{w:World}{g T:Nat}{cur:Array Value}{fz:Nat×Nat}(h:w.heap[g]?=some (.cells cur T fz))(o:Nat)(a b c d e f:Value)(ho:o+5<cur.size) :
 ∃cur',(TG w g o a b c d e f).heap[g]?=some (.cells cur' T fz)/\cur'.size=cur.size/\(cur'[o]?=some a/\cur'[o+1]?=some b/\cur'[o+2]?=some c/\cur'[o+3]?=some d/\cur'[o+4]?=some e/\cur'[o+5]?=some f)/\∀j,(j<o\/o+5<j)->cur'[j]?=cur[j]?:=by
 refine⟨_,Pp (Pp (Pp (Pp (Pp (Pp h o a) (o+1) b) (o+2) c) (o+3) d) (o+4) e) (o+5) f,aN,?_,?_⟩
 . simp[Array.getElem?_setIfInBounds];omega
 . intro j hj;have n0:o≠j:=ae
   have n1:o+1≠j:=ae
   have n2:o+2≠j:=ae
   have n3:o+3≠j:=ae
   have n4:o+4≠j:=ae
   have n5:o+5≠j:=ae
   simp[Array.getElem?_setIfInBounds,n0,n1,n2,n3,n4,n5]
structure ma (lo:Nat) (w:World) (g k i:Nat) (I:Nat->Ri) (V:Nat->Value×Value):Prop where
 row:∃cur:Array Value,w.heap[g]?=some (.cells cur 93 (0,0))/\cur.size=6*k/\∀j,j<i->cur[j*6]?=some (.bool (zA I V j).n)/\cur[j*6+1]?=some (zA I V j).v/\cur[j*6+2]?=some (.int .i64 (zA I V j).e)/\cur[j*6+3]?=some (.bool (zA I V j).m)/\cur[j*6+4]?=some (zA I V j).u/\cur[j*6+5]?=some (.int .i64 (zA I V j).f)
 own:lo<=g
 nts:∀j,j<i->Nt lo w (V j).1 (dX (mkS (I j).n (I j).X (I j).e))/\Nt lo w (V j).2 (dX (mkS (I j).m (I j).Y (I j).f))
theorem ma.lt{lo:Nat}{w:World}{g k i:Nat}{I:Nat->Ri}{V:Nat->Value×Value}(h:ma lo w g k i I V):g<w.heap.size:=by obtain⟨c,h,_⟩:=h.row;exact(dQ.1 h).1
theorem ma.below{lo:Nat}{w w':World}{g k i:Nat}{I:Nat->Ri}{V:Nat->Value×Value}(h:ma lo w g k i I V)(hb:An w w'):ma lo w' g k i I V:=by
 have hl:=h.lt;obtain⟨⟨c,h1,r⟩,h2,h3⟩:=h;exact⟨⟨c,by rw[hb.block g hl];exact h1,r⟩,h2,λj hj=>⟨(h3 j hj).1.below hb,(h3 j hj).2.below hb⟩⟩
theorem ma.room{lo:Nat}{w:World}{g k i:Nat}{I:Nat->Ri}{V:Nat->Value×Value}(h:ma lo w g k i I V)(j:Nat)(hj:j<6*k):(∃v,w.cell? ⟨g,j,none⟩=some v)/\w.frozen? ⟨g,j,none⟩=false:=by
 obtain⟨⟨c,h1,hs,r⟩,h2,h3⟩:=h;refine⟨⟨c[j]'(by omega),?_⟩,?_⟩
 . simp[World.cell?,h1]
 . simp[World.frozen?,h1]
theorem ma.o{lo:Nat}{w:World}{g k:Nat}{I:Nat->Ri}{V:Nat->Value×Value}(h:ma lo w g k k I V):Po lo w g k I V:=by
 obtain⟨⟨c,h1,hs,r⟩,h2,h3⟩:=h;exact⟨⟨c,h1,r⟩,h2,h3⟩
theorem ma.step {lo:Nat}{w:World}{g k i:Nat}{I:Nat->Ri}{V:Nat->Value×Value}(h:ma lo w g k i I V) (hi:i<k) (v u:Value)
 (hv:Nt lo w v (dX (mkS (I i).n (I i).X (I i).e))) (hu:Nt lo w u (dX (mkS (I i).m (I i).Y (I i).f))) :
 ∃V',ma lo (TG w g (i*6) (.bool (dN (mkS (I i).n (I i).X (I i).e))) v (.int .i64 (dE (mkS (I i).n (I i).X (I i).e))) (.bool (dN (mkS (I i).m (I i).Y (I i).f))) u (.int .i64 (dE (mkS (I i).m (I i).Y (I i).f)))) g k (i+1) I V':=by
 obtain⟨⟨c,h1,hs,r⟩,h2,h3⟩:=h;obtain⟨c',k1,k2,k3,k4⟩:=JY h1 (i*6) (.bool (dN (mkS (I i).n (I i).X (I i).e))) v (.int .i64 (dE (mkS (I i).n (I i).X (I i).e))) (.bool (dN (mkS (I i).m (I i).Y (I i).f))) u (.int .i64 (dE (mkS (I i).m (I i).Y (I i).f))) ae;refine⟨λj=>if j=i then(v,u) else V j,⟨c',k1,ae,λj hj=>?_⟩,h2,λj hj=>?_⟩
 . by_cases e:j=i
   . subst e;simp only[zA,if_true];exact k3
   . have:=r j ae;rw[k4 _ ae,k4 _ ae,k4 _ ae,k4 _ ae,k4 _ ae,k4 _ ae];simp only[zA,if_neg e] at this |-;exact this
 . by_cases e:j=i
   . subst e;simp only[if_true];exact⟨hv.off (qh _ _ _ _ _ _ _ _ _) (hv.BI aM h1),hu.off (qh _ _ _ _ _ _ _ _ _) (hu.BI aM h1)⟩
   . simp only[if_neg e];obtain⟨q1,q2⟩:=h3 j ae;exact⟨q1.off (qh _ _ _ _ _ _ _ _ _) (q1.BI aM h1),q2.off (qh _ _ _ _ _ _ _ _ _) (q2.BI aM h1)⟩
theorem sgnD{w:World}{n:Bool}{v:Value}{X:Nat}{e:Int}(h:Av w v X):At 52 #[.agg #[.bool n,v,.int .i64 e]] w (.int .i64 (qN n X)):=by
 obtain⟨a,l,c,xs,rfl,hA,rfl⟩:=h;exact vB hA n e
theorem formD{w:World}{r:Ri}(h1:Av w r.v r.X)(h2:Av w r.u r.Y)(hT:gP w)(b0:-9223372036854775808<=r.e)(b1:r.e<=9223372036854775807)(b2:-9223372036854775808<=r.f)(b3:r.f<=9223372036854775807) :
 As 181 #[.agg #[.bool r.n,r.v,.int .i64 r.e,.bool r.m,r.u,.int .i64 r.f]] w λq w' =>
  (((mkS r.n r.X r.e).isSome&&(mkS r.m r.Y r.f).isSome)=true->∃v u,q=.returned (.tuple #[.agg #[.bool (dN (mkS r.n r.X r.e)),v,.int .i64 (dE (mkS r.n r.X r.e)),.bool (dN (mkS r.m r.Y r.f)),u,.int .i64 (dE (mkS r.m r.Y r.f))],.int .i64 0])/\Nt w.heap.size w' v (dX (mkS r.n r.X r.e))/\Nt w.heap.size w' u (dX (mkS r.m r.Y r.f))/\Ap v u) /\
  (((mkS r.n r.X r.e).isSome&&(mkS r.m r.Y r.f).isSome)=false->q=.returned (.tuple #[.agg #[.bool false,.slice none 0 0,.int .i64 0,.bool false,.slice none 0 0,.int .i64 0],.int .i64 2]))/\An w w':=by
 obtain⟨n,v,X,e,m,u,Y,f⟩:=r;simp only at *;obtain⟨a,l,c,xs,rfl,hA,rfl⟩:=h1;obtain⟨b,k,d,ys,rfl,hB,rfl⟩:=h2;have l1:=aR n (val xs) e;have l2:=aR m (val ys) f;have H1:∀u,An w u->As 94 #[.bool n,.slice a l c,.int .i64 e] u λr w'=>dm u.heap.size w' r (mkS n (val xs) e)/\An u w':=λu hu=>fZ (hA.below hu) (hT.belows hu) n e b0 b1;have H2:∀u,An w u->As 94 #[.bool m,.slice b k d,.int .i64 f] u λr w'=>dm u.heap.size w' r (mkS m (val ys) f)/\An u w':=λu hu=>fZ (hB.below hu) (hT.belows hu) m f b2 b3;simp only[dm] at H1 H2;generalize mkS n (val xs) e=o at *;generalize mkS m (val ys) f=p at *
 cases ho:o.isSome with
 | false =>
   have he:xG o=2:=by unfold xG;rw[ho];rfl
   rw[he] at H1;refine(Pj n m e f (dN o) false (dX o) 0 (dE o) 0 l1 (by rw[ws0];omega) H1).mono ?_;rintro r w' ⟨⟨v,u,h,rfl,rfl⟩,hb⟩;exact⟨λhh=>(by cases hh),λ_=>h,hb⟩
 | true =>
   have he:xG o=0:=by unfold xG;rw[ho];rfl
   rw[he] at H1
   cases hp:p.isSome with
   | false =>
     have he:xG p=2:=by unfold xG;rw[hp];rfl
     rw[he] at H2;refine(Pn n m e f (dN o) (dN p) (dX o) (dX p) (dE o) (dE p) l1 l2 H1 H2).mono ?_;rintro r w' ⟨⟨v,u,h,rfl,rfl⟩,hb⟩;exact⟨λhh=>(by cases hh),λ_=>h,hb⟩
   | true =>
     have he:xG p=0:=by unfold xG;rw[hp];rfl
     rw[he] at H2;refine(XC n m e f (dN o) (dN p) (dX o) (dX p) (dE o) (dE p) l1 l2 H1 H2).mono ?_;rintro r w' ⟨⟨v,u,h,hN,hM,hap⟩,hb⟩;exact⟨λ_=>⟨v,u,h,hN,hM,hap⟩,λhh=>(by cases hh),hb⟩
theorem forms1(w:World)(g:Nat)(I:Nat->Ri)(h:RIn w g 1 I) :
 As 142 #[.slice (some ⟨g,0,none⟩) 1 1] w λr w' =>
  ((kV I 1≠0/\r=.returned (.tuple #[.slice none 0 0,.int .i64 (kV I 1)])) \/
   (kV I 1=0/\∃g' V,r=.returned (.tuple #[.slice (some ⟨g',0,none⟩) 1 1,.int .i64 0])/\Po w.heap.size w' g' 1 I V))/\An w w':=by
 have MK:=DY;have hH:=ak h;clear h;go_enter Tryz.func142,Tryz.ntmps142;go_wp2_with fail
 go_loopg [15] 1 (λgk iv wr=>∃i:Nat,gk+i=1/\iv=.int .i64 (i:Nat)/\Aside (An w wr/\∀j,j<i->decide (qN (I j).m (I j).Y<0)=false))
 case atStart=>exact⟨0,ae,rfl,aD _ _,λj hj=>by omega⟩
 case round =>
  obtain⟨i,hgi,rfl,HR⟩:=hrel
  by_cases hi:i<1
  . have hin:=hH.o.below HR.o.1;obtain⟨g0,g1,g2,g3,g4,g5⟩:=hin.row.facts i hi;obtain⟨A1,A2⟩:=hin.one i hi;obtain⟨n,v,X,e,m,u,Y,f,hI⟩:∃n v X e m u Y f,I i=⟨n,v,X,e,m,u,Y,f⟩:=⟨_,_,_,_,_,_,_,_,rfl⟩;rw[hI] at g0 g1 g2 g3 g4 g5 A1 A2;simp only at g0 g1 g2 g3 g4 g5 A1 A2;obtain⟨a1,l1,c1,xs,rfl,-,-⟩:=id A1;obtain⟨a2,l2,c2,ys,rfl,-,-⟩:=id A2;obtain⟨U,hU⟩:=ah (wr.alloc (.cells #[.bool n,.slice a1 l1 c1,.int .i64 e,.bool m,.slice a2 l2 c2,.int .i64 f] 93));have zW:An wr U:=by rw[hU];exact af _ _
    have RQ:Rq U wr.heap.size n (.slice a1 l1 c1) e m (.slice a2 l2 c2) f:=by rw[hU];exact Rq.new _ _ _ _ _ _ _
    obtain⟨x0,x1,x2,x3,x4,x5⟩:=RQ.facts;have HC:=hid (sgnD (n:=m) (e:=f) (A2.below zW));obtain⟨s,hs⟩:∃s,qN m Y=s:=⟨_,rfl⟩;rw[hs] at HC;have SI:=(gy (HR.o.1.trans (zW.mono HR.o.1.size)) HR.o.2 hI hs hi);clear zW RQ A1 A2 hin HR hI hs;have hli:(i:Int)<1:=ae
    have hl0:(0:Int)<=(i:Int):=ae
    go_upto_region 4 with fail
    rw[<-hU];clear hU g0 g1 g2 g3 g4 g5;go_wp2_with fail;clear x0 x1 x2 x3 x4 x5;refine HC.o.mono ?_;rintro r u1 ⟨rfl,hb⟩;have S2:=ak (SI.o.1.trans (hb.mono SI.o.1.size));clear hb HC
    by_cases hneg:s<0
    . have hn:=decide_eq_true hneg;go_wp2_with fail
      go_ret2
      obtain⟨_,hbef,hI,hs,hi⟩:=SI.o
      have hE:kV I 1=1:=by
       unfold kV;rw[if_pos (JX hi (by rw[hI];simp only;rw[hs];exact decide_eq_true hneg))]
      rw[hE];exact⟨.inl ⟨aM,rfl⟩,S2.o⟩
    . have hn:decide (s<0)=false:=decide_eq_false ae;go_wp2_with fail;go_roundg (1-(i+1))
      case measure=>omega
      case rel =>
       obtain⟨_,hbef,hI,hs,hi⟩:=SI.o;refine⟨i+1,ae,by go_num,S2.o,λj hj=>?_⟩
       by_cases hji:j=i
       . subst hji;rw[hI];simp only;rw[hs];exact decide_eq_false ae
       . exact hbef j ae
  . obtain rfl:i=1:=ae
    obtain⟨M,hM⟩:=ah (wr.alloc (.cells #[.bool false,.slice none 0 0,.int .i64 0,.bool false,.slice none 0 0,.int .i64 0] 93));have hbM:An wr M:=by rw[hM];exact af _ _
    have hpM:ma w.heap.size M wr.heap.size 1 0 I (λ_=>(.slice none 0 0,.slice none 0 0)):=by
     rw[hM];exact⟨⟨_,iF _ _,rfl,λj hj=>by omega⟩,HR.o.1.size,λj hj=>by omega⟩
    have S1:=(gp HR.o.2 hpM (HR.o.1.trans (hbM.mono HR.o.1.size)));obtain⟨gO,hgO⟩:=ah (wr.heap.size);clear HR hbM hpM hi hgi
    go_upto_region 9 with fail
    rw[<-hM];rw[<-hgO] at S1 |-;clear hM hgO
    go_loopg [29] 1 (λgk iv wr=>∃i:Nat,gk+i=1/\iv=.int .i64 (i:Nat)/\Aside (An w wr/\(∀j,j<i->((mkS (I j).n (I j).X (I j).e).isSome&&(mkS (I j).m (I j).Y (I j).f).isSome)=true)/\∃V,ma w.heap.size wr gO 1 i I V))
    case atStart=>exact⟨0,ae,rfl,S1.o.r2,λj hj=>by omega,_,S1.o.2.1⟩
    case round =>
     obtain⟨i,hgi,rfl,HR⟩:=hrel;have SS:=ak S1.o.1;clear S1
     by_cases hi:i<1
     . obtain⟨aF,hbef,V,hP⟩:=HR.o;have hin:=hH.o.below aF;obtain⟨g0,g1,g2,g3,g4,g5⟩:=hin.row.facts i hi;obtain⟨A1,A2⟩:=hin.one i hi;obtain⟨b0,b1,b2,b3⟩:=hin.sD i hi;have hFD:=fun(u:World) (hb:An wr u)=>formD (r:=I i) (A1.below hb) (A2.below hb) ((hin.below hb).tab) b0 b1 b2 b3;obtain⟨n,v,X,e,m,u,Y,f,hI⟩:∃n v X e m u Y f,I i=⟨n,v,X,e,m,u,Y,f⟩:=⟨_,_,_,_,_,_,_,_,rfl⟩;rw[hI] at g0 g1 g2 g3 g4 g5 A1 A2 hFD;simp only at g0 g1 g2 g3 g4 g5 A1 A2 hFD;obtain⟨a1,l1,c1,xs,rfl,-,-⟩:=id A1;obtain⟨a2,l2,c2,ys,rfl,-,-⟩:=id A2;obtain⟨U,hU⟩:=ah (wr.alloc (.cells #[.bool n,.slice a1 l1 c1,.int .i64 e,.bool m,.slice a2 l2 c2,.int .i64 f] 93));have zW:An wr U:=by rw[hU];exact af _ _
       have RQ:Rq U wr.heap.size n (.slice a1 l1 c1) e m (.slice a2 l2 c2) f:=by rw[hU];exact Rq.new _ _ _ _ _ _ _
       obtain⟨x0,x1,x2,x3,x4,x5⟩:=RQ.facts;have HC:=hid (hFD U zW);have lo1:=aR n X e;have lo2:=aR m Y f;obtain⟨o,ho⟩:∃o,mkS n X e=o:=⟨_,rfl⟩;obtain⟨p,hp⟩:∃p,mkS m Y f=p:=⟨_,rfl⟩;rw[ho,hp] at HC;rw[ho] at lo1;rw[hp] at lo2;have SI:=(Ew (aF.trans (zW.mono aF.size)) hbef hI ho hp hi (hP.below zW));clear zW RQ A1 A2 hin HR hI ho hp aF hbef hP hFD b0 b1 b2 b3;have hli:(i:Int)<1:=ae
       have hl0:(0:Int)<=(i:Int):=ae
       go_upto_region 11 with fail
       rw[<-hU];clear hU g0 g1 g2 g3 g4 g5;go_wp2_with fail;clear x0 x1 x2 x3 x4 x5;refine HC.o.mono ?_;rintro r u1 ⟨h1,h2,hb⟩;clear HC
       cases hok:(o.isSome&&p.isSome) with
       | false =>
         obtain rfl:=h2 hok;have S2:=ak (SI.o.1.trans (hb.mono SI.o.1.size));clear h1 h2 hb;go_wp2_with fail
         go_ret2
         obtain⟨_,hbef,hI,ho,hp,hi,_⟩:=SI.o
         have hE:kV I 1=2:=by
          unfold kV;rw[vG (p:=λi=>decide (qN (I i).m (I i).Y<0)) SS.o,if_neg uI,if_pos (JX hi (by rw[hI];simp only;rw[ho,hp,hok];rfl))]
         rw[hE];exact⟨.inl ⟨aM,rfl⟩,S2.o.alloc S2.o.size _⟩
       | true =>
         obtain⟨v1,v2,rfl,hN,hM2,-⟩:=h1 hok;obtain⟨p1,q1,rfl,_⟩:=hN.arg ae;obtain⟨p2,q2,rfl,_⟩:=hM2.arg ae;obtain⟨U2,dK⟩:=ah (u1.alloc (.cells #[.bool (dN o),.slice p1 (ws (dX o)).length q1,.int .i64 (dE o),.bool (dN p),.slice p2 (ws (dX p)).length q2,.int .i64 (dE p)] 93));have zW:An u1 U2:=by rw[dK];exact af _ _
         have RQ:Rq U2 u1.heap.size (dN o) (.slice p1 (ws (dX o)).length q1) (dE o) (dN p) (.slice p2 (ws (dX p)).length q2) (dE p):=by rw[dK];exact Rq.new _ _ _ _ _ _ _
         obtain⟨x0,x1,x2,x3,x4,x5⟩:=RQ.facts;have hP2:=(SI.o.r6.below hb).below zW;have hb2:=(SI.o.1.trans (hb.mono SI.o.1.size)).trans (zW.mono (dB SI.o.1.size hb.size));obtain⟨⟨y0,r0⟩,f0⟩:=hP2.room (i*6) ae;obtain⟨⟨y1,r1⟩,f1⟩:=hP2.room (i*6+1) ae;obtain⟨⟨y2,r2⟩,f2⟩:=hP2.room (i*6+2) ae;obtain⟨⟨y3,r3⟩,f3⟩:=hP2.room (i*6+3) ae;obtain⟨⟨y4,r4⟩,f4⟩:=hP2.room (i*6+4) ae;obtain⟨⟨y5,r5⟩,f5⟩:=hP2.room (i*6+5) ae;obtain⟨W',hW'⟩:∃W',W'=TG U2 gO (i*6) (.bool (dN o)) (.slice p1 (ws (dX o)).length q1) (.int .i64 (dE o)) (.bool (dN p)) (.slice p2 (ws (dX p)).length q2) (.int .i64 (dE p)):=⟨_,rfl⟩
         have S3:Aside (An w W'/\(∀j,j<i+1->((mkS (I j).n (I j).X (I j).e).isSome&&(mkS (I j).m (I j).Y (I j).f).isSome)=true)/\∃V,ma w.heap.size W' gO 1 (i+1) I V):=by
          obtain⟨_,hbef,hI,ho,hp,hi,_⟩:=SI.o;refine⟨?_,?_,?_⟩
          . rw[hW'];exact But.below hb2 (qh _ _ _ _ _ _ _ _ _) hb2.size hP2.own
          . intro j hj
            by_cases e:j=i
            . subst e;rw[hI];simp only;rw[ho,hp,hok]
            . exact hbef j ae
          . have hsz:=SI.o.1.size;have:=hP2.step hi (.slice p1 (ws (dX o)).length q1) (.slice p2 (ws (dX p)).length q2) (by rw[hI];simp only;rw[ho];exact(hN.below zW).mono hsz) (by rw[hI];simp only;rw[hp];exact(hM2.below zW).mono hsz);rw[hI] at this;simp only at this;rw[ho,hp,<-hW'] at this;exact this
         have neq:u1.heap.size≠gO:=by have:=(SI.o.r6.below hb).lt;omega
         clear h1 h2 hb hN hM2 zW RQ hP2 hb2 SI
         go_upto_region 12 with fail
         rw[<-dK];clear dK;go_wp2_with fail;unfold TG at hW';go_roundg (1-(i+1))
         case measure=>omega
         case rel =>
          refine⟨i+1,ae,by go_num,?_⟩
          first | rw[<-hW'] | (rw[hW'] at S3)
          exact S3
     . obtain rfl:i=1:=ae
       obtain⟨aF,hbef,V,hP⟩:=HR.o;have hO:=hP.o;have S2:=(gp aF hbef hO);have hi0:wr=wr:=rfl;clear HR aF hbef hP hO hi hgi
       go_upto_region 17 with fail
       go_loopg [49] 1 (λgk iv wr=>∃i:Nat,gk+i=1/\iv=.int .i64 (i:Nat)/\Aside (An w wr/\(∀j,j<i->decide (dX (mkS (I j).m (I j).Y (I j).f)=0)=false)/\Po w.heap.size wr gO 1 I V))
       case atStart=>exact⟨0,ae,rfl,S2.o.1,λj hj=>by omega,S2.o.r2⟩
       case round =>
        obtain⟨i,hgi,rfl,HR⟩:=hrel;have SS2:=ak S2.o.2.1;clear S2
        by_cases hi:i<1
        . obtain⟨aF,hbef,hO⟩:=HR.o;obtain⟨g0,g1,g2,g3,g4,g5⟩:=hO.row.facts i hi;obtain⟨A1,A2⟩:=hO.nts i hi;have lo1:=aR (I i).n (I i).X (I i).e;have lo2:=aR (I i).m (I i).Y (I i).f;unfold zA at g0 g1 g2 g3 g4 g5;simp only at g0 g1 g2 g3 g4 g5;obtain⟨o,ho⟩:∃o,mkS (I i).n (I i).X (I i).e=o:=⟨_,rfl⟩;obtain⟨p,hp⟩:∃p,mkS (I i).m (I i).Y (I i).f=p:=⟨_,rfl⟩;rw[ho] at g0 g2 A1 lo1;rw[hp] at g3 g5 A2 lo2;obtain⟨v1,hv1⟩:∃v1,(V i).1=v1:=⟨_,rfl⟩;obtain⟨v2,hv2⟩:∃v2,(V i).2=v2:=⟨_,rfl⟩;rw[hv1] at g1 A1;rw[hv2] at g4 A2;obtain⟨p1,q1,rfl,_⟩:=A1.arg ae;obtain⟨p2,q2,rfl,_⟩:=A2.arg ae;obtain⟨U,hU⟩:=ah (wr.alloc (.cells #[.bool (dN o),.slice p1 (ws (dX o)).length q1,.int .i64 (dE o),.bool (dN p),.slice p2 (ws (dX p)).length q2,.int .i64 (dE p)] 93));have zW:An wr U:=by rw[hU];exact af _ _
          have RQ:Rq U wr.heap.size (dN o) (.slice p1 (ws (dX o)).length q1) (dE o) (dN p) (.slice p2 (ws (dX p)).length q2) (dE p):=by rw[hU];exact Rq.new _ _ _ _ _ _ _
          obtain⟨x0,x1,x2,x3,x4,x5⟩:=RQ.facts;have HC:=hid (sgnD (n:=dN p) (e:=dE p) ((A2.below zW).av ae));obtain⟨s,hs⟩:∃s,qN (dN p) (dX p)=s:=⟨_,rfl⟩;rw[hs] at HC;have SI:=(kz (aF.trans (zW.mono aF.size)) hbef hp hs hi (hO.below zW));clear zW RQ A1 A2 HR ho hp hv1 hv2 hs aF hbef hO;have hli:(i:Int)<1:=ae
          have hl0:(0:Int)<=(i:Int):=ae
          go_upto_region 19 with fail
          rw[<-hU];clear hU g0 g1 g2 g3 g4 g5;go_wp2_with fail;clear x0 x1 x2 x3 x4 x5;refine HC.o.mono ?_;rintro r u1 ⟨rfl,hb⟩;have S2:=(bA (SI.o.1.trans (hb.mono SI.o.1.size)) (SI.o.r5.below hb));clear hb HC
          by_cases hz:s=0
          . have hn:(s==0)=true:=by simp[hz]
            have hsz:=SI;clear SI;go_wp2_with fail
            go_ret2
            obtain⟨_,hbef,hp,hs,hi,_⟩:=hsz.o
            have hE:kV I 1=21:=by
             unfold kV;rw[vG (p:=λi=>decide (qN (I i).m (I i).Y<0)) SS.o,if_neg uI,vG (p:=λi=>!((mkS (I i).n (I i).X (I i).e).isSome&&(mkS (I i).m (I i).Y (I i).f).isSome)) (λj hj=>by rw[SS2.o j hj];rfl),if_neg uI,if_pos (JX hi (by simp only[hp];exact decide_eq_true (BF.1 (hs.trans hz))))]
            rw[hE];exact⟨.inl ⟨aM,rfl⟩,S2.o.1⟩
          . have hn:(s==0)=false:=by simp[hz]
            go_wp2_with fail;go_roundg (1-(i+1))
            case measure=>omega
            case rel =>
             obtain⟨_,hbef,hp,hs,hi,_⟩:=SI.o;refine⟨i+1,ae,by go_num,S2.o.1,λj hj=>?_,S2.o.2⟩
             by_cases hji:j=i
             . subst hji;rw[hp];exact decide_eq_false (λh0=>hz (hs.symm.trans (BF.2 h0)))
             . exact hbef j ae
        . obtain rfl:i=1:=ae
          have S3:=HR;clear HR hi hgi;go_wp2_with fail
          go_ret2
          have hE:kV I 1=0:=by
           unfold kV;rw[vG (p:=λi=>decide (qN (I i).m (I i).Y<0)) SS.o,if_neg uI,vG (p:=λi=>!((mkS (I i).n (I i).X (I i).e).isSome&&(mkS (I i).m (I i).Y (I i).f).isSome)) (λj hj=>by rw[SS2.o j hj];rfl),if_neg uI,vG (p:=λi=>decide (dX (mkS (I i).m (I i).Y (I i).f)=0)) S3.o.2.1,if_neg uI]
          exact⟨.inr ⟨hE,gO,V,rfl,S3.o.r2⟩,S3.o.1⟩
theorem Ze{I:Nat->Ri}{k:Nat}(h:kV I k=0)(i:Nat)(hi:i<k):¬ qN (I i).m (I i).Y<0/\(mkS (I i).n (I i).X (I i).e).isSome=true/\(mkS (I i).m (I i).Y (I i).f).isSome=true/\dX (mkS (I i).m (I i).Y (I i).f)≠0:=by
 unfold kV at h
 split at h
 . omega
 . rename_i h1
   split at h
   . omega
   . rename_i h2
     split at h
     . omega
     . rename_i h3;simp only[Bool.not_eq_true,List.any_eq_false,xQ] at h1 h2 h3;have k1:=h1 i hi;have k2:=h2 i hi;have k3:=h3 i hi;simp at k1 k2 k3;exact⟨ae,k2.1,k2.2,k3⟩
theorem JZ{n:Bool}{X:Nat}{e:Int}{o:Option (Bool×Nat×Int)}(h:mkS n X e=o)(hs:o.isSome=true):mkS (dN o) (dX o) (dE o)=o:=by
 cases o with
 | none=>cases hs
 | some d =>
   obtain⟨n1,X1,e1⟩:=d;exact(cO h).self
theorem XD{n:Bool}{X:Nat}{e:Int}{o:Option (Bool×Nat×Int)}(h:mkS n X e=o):-1048576<=dE o/\dE o<=1048576:=by
 cases o with
 | none=>exact⟨aM,aM⟩
 | some d =>
   obtain⟨n1,X1,e1⟩:=d;have:=cO h;exact⟨this.down,this.up⟩
structure Rv (w:World) (r:Ri):Prop where
 num:Av w r.v r.X
 den:Av w r.u r.Y
 be:-9223372036854775808<=r.e/\r.e<=9223372036854775807
 bf:-9223372036854775808<=r.f/\r.f<=9223372036854775807
theorem Rv.below{w w':World}{r:Ri}(h:Rv w r)(hb:An w w'):Rv w' r:=⟨h.num.below hb,h.den.below hb,h.be,h.bf⟩
theorem rin1(W:World)(r:Ri)(hr:Rv W r)(hT:gP W)(R:World)(hR:R=W.alloc (.cells #[.bool r.n,r.v,.int .i64 r.e,.bool r.m,r.u,.int .i64 r.f] 93)):RIn R W.heap.size 1 (λ_=>r):=by
 have hb:An W R:=by rw[hR];exact af _ _
 refine⟨⟨_,by rw[hR];exact iF _ _,?_⟩,λi hi=>⟨hr.num.below hb,hr.den.below hb⟩,λi hi=>⟨hr.be.1,hr.be.2,hr.bf.1,hr.bf.2⟩,hT.belows hb⟩;intro i hi;obtain rfl:i=0:=ae
 simp
theorem BL(w:World)(n:Bool)(v:Value)(e:Int)(m:Bool)(u:Value)(f:Int)(W:World)(hW:W=w.alloc (.cells #[.bool n,v,.int .i64 e,.bool m,u,.int .i64 f] 93)) :
 An w W/\W.heap.size=w.heap.size+1/\Rq W w.heap.size n v e m u f:=by
 rw[hW];exact⟨af w _,aN,Rq.new _ _ _ _ _ _ _⟩
theorem Qay{P:Prop}(h:P:=by
 go_enter Tryz.func91,Tryz.ntmps91
 go_upto_region 1 with fail
 rw[<-hW1];clear hW1;go_wp2
 go_ret2
 exact⟨rfl,S0.o⟩):P:=h
theorem sF {w:World}{n m:Bool}{a b:Option Addr}{la ca lb cb:Nat}{X Y:Nat}{e f:Int}(mode:Int) (hr:Rv w ⟨n,.slice a la ca,X,e,m,.slice b lb cb,Y,f⟩) (hT:gP w)
 (o1 o2 z:Option (Bool×Nat×Int)) (ew:Int) (rw':Nat×Int) (ho1:mkS n X e=o1) (ho2:mkS m Y f=o2) (lz:(ws (dX z)).length<=8192) (hew:ew≠0->rw'.1=0/\rw'.2=ew)
 (ANS:Nat×Int) (hANS:ANS=if mode<0\/4<mode then(0,1) else if kV (λ_=>(⟨n,.slice a la ca,X,e,m,.slice b lb cb,Y,f⟩:Ri)) 1=0 then rw' else(0,kV (λ_=>(⟨n,.slice a la ca,X,e,m,.slice b lb cb,Y,f⟩:Ri)) 1))
 (HW:Hid (∀(u:World) (p q:Value),An w u->Nt w.heap.size u p (dX o1)->Nt w.heap.size u q (dX o2)->kV (λ_=>(⟨n,.slice a la ca,X,e,m,.slice b lb cb,Y,f⟩:Ri)) 1=0->As 92 #[.agg #[.bool (dN o1),p,.int .i64 (dE o1),.bool (dN o2),q,.int .i64 (dE o2)]] u λr w'=>(∃v,r=.returned (.tuple #[.agg #[.bool (dN z),v,.int .i64 (dE z)],.int .i64 ew])/\Nt u.heap.size w' v (dX z))/\An u w'))
 (HR:Hid (∀(u:World) (p:Option Addr) (q:Nat),ew=0->¬ (mode<0\/4<mode)->kV (λ_=>(⟨n,.slice a la ca,X,e,m,.slice b lb cb,Y,f⟩:Ri)) 1=0->An w u->Arg u p (ws (dX z)).length q (ws (dX z))->At 93 #[.agg #[.bool (dN z),.slice p (ws (dX z)).length q,.int .i64 (dE z)],.int .i64 mode] u (.tuple #[.float .f64 rw'.1,.int .i64 rw'.2]))) :
 At 91 #[.agg #[.bool n,.slice a la ca,.int .i64 e,.bool m,.slice b lb cb,.int .i64 f],.int .i64 mode,.func (.func 92) #[] #[],.func (.func 93) #[] #[]] w (.tuple #[.float .f64 ANS.1,.int .i64 ANS.2]):=by
 obtain⟨W1,hW1⟩:=ah (w.alloc (.cells #[.bool n,.slice a la ca,.int .i64 e,.bool m,.slice b lb cb,.int .i64 f] 93));obtain⟨hB,hz1,Q1⟩:=BL w n _ e m _ f W1 hW1
 by_cases hm:mode<0\/4<mode
 . rw[if_pos hm] at hANS;subst hANS;have S0:=ak hB;clear hB hz1 Q1 HW HR hr hT
   by_cases hm0:mode<0
   . have d1:=decide_eq_true hm0;exact Qay
   . have d1:=decide_eq_false hm0;have qM:4<mode:=ae
     have d2:=decide_eq_true qM;clear hm;exact Qay
 . rw[if_neg hm] at hANS;obtain⟨R,hR⟩:=ah (W1.alloc (.cells #[.bool n,.slice a la ca,.int .i64 e,.bool m,.slice b lb cb,.int .i64 f] 93));have hin:=rin1 W1 _ (hr.below hB) (hT.belows hB) R hR;have hbR:An W1 R:=by rw[hR];exact af _ _
   have HF:=hid (forms1 R W1.heap.size _ hin);obtain⟨I,hI⟩:∃I:Nat->Ri,(λ_=>(⟨n,.slice a la ca,X,e,m,.slice b lb cb,Y,f⟩:Ri))=I:=⟨_,rfl⟩;rw[hI] at HF hANS HW HR;obtain⟨x0,x1,x2,x3,x4,x5⟩:=Q1.facts;have HAn:=ak hANS;have S0:=(iN (hB.trans (hbR.mono hB.size)) hI ho1 ho2);have d1:decide (mode<0)=false:=decide_eq_false (λh=>hm (.inl h));have d2:decide (4<mode)=false:=decide_eq_false (λh=>hm (.inr h));have HM:=ak hm;obtain⟨g12,hg12⟩:∃g,W1.heap.size=g:=⟨_,rfl⟩;rw[hg12] at HF;clear hB hz1 Q1 hin hbR hr hT hANS hI ho1 ho2 hm;go_enter Tryz.func91,Tryz.ntmps91
   go_upto_region 1 with fail
   rw[<-hW1];clear hW1;go_wp2_with fail;rw[<-hR];clear hR hg12 x0 x1 x2 x3 x4 x5;refine HF.o.mono ?_;rintro r u1 ⟨hor,hb⟩;clear HF;obtain⟨aF,hI,ho1,ho2⟩:=S0.o;have S1:=ak (aF.trans (hb.mono aF.size));rcases hor with ⟨hne,rfl⟩|⟨h0,g',V,rfl,hO⟩
   . have HA2:=HAn.o;rw[if_neg hne] at HA2;obtain⟨er,her⟩:∃er,kV I 1=er:=⟨_,rfl⟩;rw[her] at hne HA2 |-;have HA3:=ak HA2;have hnb:(er==0)=false:=by simp[hne]
     clear HAn HA2 her hne aF hb hI ho1 ho2 S0 HW HR;go_wp2
     go_ret2
     rw[HA3.o];exact⟨rfl,S1.o⟩
   . have HA2:=HAn.o;rw[if_pos h0] at HA2;obtain⟨q0,q1,q2,q3,q4,q5⟩:=hO.row.facts 0 ae;obtain⟨N1,N2⟩:=hO.nts 0 ae;simp only[fe,dA] at q0 q1 q2 q3 q4 q5;unfold zA at q0 q1 q2 q3 q4 q5;have e0:I 0=⟨n,.slice a la ca,X,e,m,.slice b lb cb,Y,f⟩:=by rw[<-hI]
     rw[e0] at N1 N2;simp only[e0] at q0 q1 q2 q3 q4 q5 N1 N2;have m1:=aR n X e;have m2:=aR m Y f;rw[ho1] at q0 q2 N1 m1;rw[ho2] at q3 q5 N2 m2;obtain⟨v1,hv1⟩:∃v1,(V 0).1=v1:=⟨_,rfl⟩;obtain⟨v2,hv2⟩:∃v1,(V 0).2=v1:=⟨_,rfl⟩;rw[hv1] at q1 N1;rw[hv2] at q4 N2;obtain⟨a1,c1,rfl,_⟩:=N1.arg ae;obtain⟨a2,c2,rfl,_⟩:=N2.arg ae;have HC:=hid (HW.o u1 _ _ (aF.trans (hb.mono aF.size)) (N1.mono (by have:=aF.size;omega)) (N2.mono (by have:=aF.size;omega)) h0);have S2:=(bA h0 HA2);clear HAn HA2 aF hb hI ho1 ho2 S0 hO N1 N2 HW h0 hv1 hv2 e0;go_wp2_with fail;clear q0 q1 q2 q3 q4 q5;refine HC.o.mono ?_;rintro r u2 ⟨⟨v,rfl,NZ⟩,hb⟩;obtain⟨az,cz,rfl,_⟩:=NZ.arg ae;clear HC;obtain⟨U3,JW⟩:=ah (u2.alloc (.cells #[.bool (dN z),.slice az (ws (dX z)).length cz,.int .i64 (dE z)] 79));have nY:An u2 U3:=by rw[JW];exact af _ _
     have bb:=S1.o.trans (hb.mono S1.o.size);have bc:=bb.trans (nY.mono bb.size)
     by_cases TH:ew=0
     . have TZ:Tk U3 u2.heap.size 79 (.bool (dN z)) (.slice az (ws (dX z)).length cz) (.int .i64 (dE z)):=by rw[JW];exact Tk.new _ _ _ _ _
       have HD:=hid (HR.o U3 az cz TH HM.o S2.o.1 bc ((NZ.below nY).bS ae).2);obtain⟨x0,x1,x2,_,_,_⟩:=TZ.facts;have S3:=(bA bc S2.o.2);clear bb bc hb nY NZ TZ S1 S2 HR HM hew;subst TH
       go_upto_region 7 with fail
       rw[<-JW];clear JW;go_wp2_with fail;refine HD.o.mono ?_;rintro r u3 ⟨rfl,hb⟩;have S4:=ak (S3.o.1.trans (hb.mono S3.o.1.size));clear hb HD x0 x1 x2;go_wp2
       go_ret2
       rw[S3.o.2];exact⟨rfl,S4.o⟩
     . have hnb:(ew==0)=false:=by simp[TH]
       have hA:ANS=(0,ew):=by
        rw[S2.o.2];have:=hew TH;rw[<-this.1,<-this.2]
       have S3:=(bA bc hA);clear bb bc hb nY NZ S1 S2 HR HM hew hA TH
       go_upto_region 7 with fail
       rw[<-JW];clear JW;go_wp2
       go_ret2
       rw[S3.o.2];exact⟨rfl,S3.o.1⟩
theorem TI {w:World}{a b:Option Addr}{la ca lb cb:Nat}(n m:Bool) (e f mode:Int) (ANS:Nat×Int)
 (HR:Hid (∀u:World,An w u->At 91 #[.agg #[.bool n,.slice a la ca,.int .i64 e,.bool m,.slice b lb cb,.int .i64 f],.int .i64 mode,.func (.func 92) #[] #[],.func (.func 93) #[] #[]] u (.tuple #[.float .f64 ANS.1,.int .i64 ANS.2]))) :
 At 56 #[.agg #[.bool n,.slice a la ca,.int .i64 e,.bool m,.slice b lb cb,.int .i64 f],.int .i64 mode] w (.tuple #[.float .f64 ANS.1,.int .i64 ANS.2]):=by
 obtain⟨W1,hW1⟩:=ah (w.alloc (.cells #[.bool n,.slice a la ca,.int .i64 e,.bool m,.slice b lb cb,.int .i64 f] 93));obtain⟨hB,hz1,Q1⟩:=BL w n _ e m _ f W1 hW1;have HC:=hid (HR.o W1 hB);obtain⟨x0,x1,x2,x3,x4,x5⟩:=Q1.facts;have S0:=ak hB;clear hB hz1 Q1 HR;go_enter Tryz.func56,Tryz.ntmps56
 go_upto_region 1 with fail
 rw[<-hW1];clear hW1;go_wp2_with fail;refine HC.o.mono ?_;rintro r u1 ⟨rfl,hb⟩;have S1:=ak (S0.o.trans (hb.mono S0.o.size));clear hb HC x0 x1 x2 x3 x4 x5;go_wp2
 go_ret2
 exact⟨rfl,S1.o⟩
theorem BM(n:Bool)(M:Nat)(E:Int)(hM:M≠0)(hb:bl M<=1001)(h0:-4096<=E)(h1:E<=4096):mkS n M E=some (n,M/2^lo M,E+lo M)/\(M/2^lo M)%2=1/\M=M/2^lo M*2^lo M/\lo M<=1001:=by
 obtain⟨q,h2,h3,h4⟩:=iI M hM;refine⟨?_,ae,by rw[h3,cK];exact h2,ae⟩;unfold mkS;rw[if_neg hM,if_neg ae]
def mQ(n:Bool)(X:Nat)(e:Int)(Y:Nat)(f:Int):Option (Bool×Nat×Int):=mkS n (2*jr X Y 64+(if xH X Y 64 then 0 else 1)) (fM (e-f-nP X Y 64-fQ Y 64))
theorem qR(x:Int):-4096<=fM x/\fM x<=4096:=by unfold fM;omega
theorem TJ{W d k:Nat}(h:W<2^k)(hd:d<=1):bl (2*W+d)<=k+1:=eY (by rw[dS];omega)
theorem D6:Tx vK 9218868437227405312:=by
 refine⟨aM,?_,λ{k l} h=>Gp.2 h,λk hk=>?_⟩
 . have:=iO 0 0 (.inl rfl) ae;simpa using this
 . by_cases h:k<4503599627370496
   . refine⟨k,0,?_,?_,ae,ae⟩
     . have:=iO 0 k (.inl rfl) ae;rw[fe,dA] at this;exact this
     . have:=iO 0 (k+1) (.inl rfl) ae;rw[fe,dA] at this;exact this
   . obtain⟨q,hq⟩:∃q,k/4503599627370496=q:=⟨_,rfl⟩;obtain⟨g,hg⟩:∃g,k%4503599627370496=g:=⟨_,rfl⟩;refine⟨4503599627370496+g,q-1,?_,?_,ae,ae⟩
     . have:=iO (q-1) (4503599627370496+g) (.inr ae) ae;rw[show(q-1)*4503599627370496+(4503599627370496+g)=k by omega] at this;exact this
     . have:=iO (q-1) (4503599627370496+g+1) (.inr ae) ae;rw[show(q-1)*4503599627370496+(4503599627370496+g+1)=k+1 by omega] at this;exact this
theorem XE{K:Nat}{t:Bool}{m:Int}{V S':Nat}(h:Ah K t m V S'):kg vK 9218868437227405312 1 K t m V S':=by
 refine⟨h.fin,h.pos,λht=>?_,λht=>?_,λht hl=>?_,λht=>?_⟩
 . rw[mr];exact h.one ht
 . rw[mr];exact h.low ht
 . rw[mr] at hl;have:=h.Xk ht hl;rw[mr,mr,fT];exact this
 . rw[mr];rcases h.high ht with q|⟨q,r⟩
   . exact .inl q
   . exact .inr ⟨ae,r⟩
theorem XF(n:Bool)(M:Nat)(E:Int)(hM:M≠0)(hb:bl M<=1001)(h0:-4096<=E)(h1:E<=4096) :
 ∃K t m,kg vK 9218868437227405312 1 K t m (M*2^(E+(1074:Nat)).toNat) (2^(-(E+(1074:Nat))).toNat)/\∀mode:Int,0<=mode->mode<=4->jJ (mkS n M E) mode=(rK mode n K t m+(if n then 9223372036854775808 else 0),0):=by
 obtain⟨e1,e2,e3,e4⟩:=BM n M E hM hb h0 h1;obtain⟨M',hM'⟩:∃M',M/2^lo M=M':=⟨_,rfl⟩;obtain⟨l,hl⟩:∃l,lo M=l:=⟨_,rfl⟩;rw[hM',hl] at e1 e3;rw[hM'] at e2;rw[hl] at e4;have hL:=lies M' (E+l) e2 ae ae (min E (-1074)) ae ae;refine⟨Qy M' (E+l),(jf 53 (-1074) 1024 M' (E+l)).2.2.1,(jf 53 (-1074) 1024 M' (E+l)).2.2.2,?_,?_⟩
 . have:=XE hL;rw[e3]
   have w1:M'*2^(E+(l:Int)-min E (-1074)).toNat=M'*2^l*2^(E+(1074:Nat)).toNat:=by
    rw[aQ,<-aP];congr 2;omega
   have w2:(-1074-min E (-1074)).toNat=(-(E+(1074:Nat))).toNat:=ae
   rw[w1,w2] at this;exact this
 . intro mode hm0 qM;rw[e1];unfold jJ;rw[if_neg ae];simp only;rw[if_neg ae,Xl]
theorem TK(n:Bool)(X:Nat)(e:Int)(Y:Nat)(f:Int)(hX:X%2=1)(hY:Y≠0)(bX:bl X<=262144)(bY:bl Y<=262144) :
 ∃K t m,kg vK 9218868437227405312 1 K t m (l7 X e f 1074 1) (l9 Y e f 1074 1)/\∀mode:Int,0<=mode->mode<=4->jJ (mQ n X e Y f) mode=(rK mode n K t m+(if n then 9223372036854775808 else 0),0):=by
 have D:=l6 X Y 64 (.inr hX) hY ae ae bX bY;have hX0:X≠0:=ae
 have hW1:=D.least hX0;have hW2:=D.most;have c63:(2:Nat)^(64-1)=9223372036854775808:=aM
 have sp:=TC X Y e f 1074 hY D;have hd:(if xH X Y 64 then 0 else 1)<=1:=by split <;> omega
 obtain⟨K,t,m,hL,hR⟩:=XF n (2*jr X Y 64+(if xH X Y 64 then 0 else 1)) (fM (e-f-nP X Y 64-fQ Y 64)) ae (by have:=TJ hW2 hd;omega) (qR _).1 (qR _).2;refine⟨K,t,m,hL.Ty D6 ae sp.pos ?_,hR⟩;exact Gt 1 (jr X Y 64) _ _ _ 1074 _ ae ae (Nat.lt_trans hW2 aM) hd ae ae sp
theorem BN(n:Bool)(X:Nat)(e:Int)(Y:Nat)(f:Int)(hX:X=0\/X%2=1)(hY:Y≠0)(bX:bl X<=262144)(bY:bl Y<=262144):(mQ n X e Y f).isSome=true:=by
 have D:=l6 X Y 64 hX hY ae ae bX bY;have hW2:=D.most;have hd:(if xH X Y 64 then 0 else 1)<=1:=by split <;> omega
 have hb:=TJ hW2 hd;unfold mQ
 by_cases hM:2*jr X Y 64+(if xH X Y 64 then 0 else 1)=0
 . rw[hM,fP];rfl
 . rw[(BM n _ _ hM ae (qR _).1 (qR _).2).1];rfl
theorem J4(Y size:Nat)(hY:Y≠0)(hs0:1<=size)(hs:size<=1000)(bY:bl Y<=262144):jr 0 Y size=0/\xH 0 Y size=true:=by
 have D:=l6 0 Y size (.inl rfl) hY hs0 hs (by rw[dI];omega) bY;have hby:0<=nP 0 Y size:=by unfold nP;rw[dI];omega
 have hlev:rz 0 Y size=0:=by unfold rz;split <;> simp
 have h1:nH 0 Y size=0:=by unfold nH;rw[hlev,Nat.zero_div]
 have h2:rA 0 Y size=0:=by unfold rA;rw[hlev,Nat.zero_mod]
 have h3:si 0 Y size=0:=by unfold si;rw[h2,fe]
 have h4:qf 0 Y size=0:=by unfold qf;rw[h1,fe]
 refine⟨?_,?_⟩
 . unfold jr;rw[h3,h4,if_neg ae,h1]
 . unfold xH;rw[h3,h4];simp[hby]
theorem Gx(n:Bool)(e:Int)(Y:Nat)(f:Int)(hY:Y≠0)(bY:bl Y<=262144):mQ n 0 e Y f=some (false,0,0):=by
 obtain⟨h1,h2⟩:=J4 Y 64 hY ae ae bY;unfold mQ;rw[h1,h2];exact fP _ _
def Pv(r:Ri):Nat->Ri:=λ_=>r
noncomputable def nI (rnd:Option (Bool×Nat×Int)->Int->Nat×Int) (r:Ri) (mode:Int):Nat×Int :=
 if mode<0\/4<mode then(0,1) else if kV (Pv r) 1=0 then rnd (mQ (dN (mkS r.n r.X r.e)) (dX (mkS r.n r.X r.e)) (dE (mkS r.n r.X r.e)) (dX (mkS r.m r.Y r.f)) (dE (mkS r.m r.Y r.f))) mode else(0,kV (Pv r) 1)
theorem vH{n:Bool}{X:Nat}{e:Int}(h:(mkS n X e).isSome=true):wR (dN (mkS n X e)) (dX (mkS n X e)) (dE (mkS n X e)):=by
 cases ho:mkS n X e with
 | none=>rw[ho] at h;cases h
 | some d =>
   obtain⟨n1,X1,e1⟩:=d;exact cO ho
theorem wR.par{n:Bool}{X:Nat}{e:Int}(h:wR n X e):X=0\/X%2=1:=by rcases h.odd with q | q;exact .inr q;exact .inl q.1
theorem J5(n:Bool)(X:Nat)(e:Int)(Y:Nat)(f:Int)(hs:(mQ n X e Y f).isSome=true):mkS (dN (mQ n X e Y f)) (dX (mQ n X e Y f)) (dE (mQ n X e Y f))=mQ n X e Y f:=JZ (o:=mQ n X e Y f) rfl hs
theorem TL{w:World}{n m:Bool}{a b:Option Addr}{la ca lb cb:Nat}{X Y:Nat}{e f:Int}(mode:Int)(hr:Rv w ⟨n,.slice a la ca,X,e,m,.slice b lb cb,Y,f⟩)(hT:gP w) :
 As 56 #[.agg #[.bool n,.slice a la ca,.int .i64 e,.bool m,.slice b lb cb,.int .i64 f],.int .i64 mode] w λr w' =>
  r=.returned (.tuple #[.float .f64 (nI jJ ⟨n,.slice a la ca,X,e,m,.slice b lb cb,Y,f⟩ mode).1,.int .i64 (nI jJ ⟨n,.slice a la ca,X,e,m,.slice b lb cb,Y,f⟩ mode).2])/\An w w':=by
 refine TI n m e f mode (nI jJ ⟨n,.slice a la ca,X,e,m,.slice b lb cb,Y,f⟩ mode) ?_;intro u hu;have hrT:=hr.below hu;have hTu:=hT.belows hu;refine sF mode hrT hTu (mkS n X e) (mkS m Y f) (mQ (dN (mkS n X e)) (dX (mkS n X e)) (dE (mkS n X e)) (dX (mkS m Y f)) (dE (mkS m Y f))) 0 (jJ (mQ (dN (mkS n X e)) (dX (mkS n X e)) (dE (mkS n X e)) (dX (mkS m Y f)) (dE (mkS m Y f))) mode) rfl rfl (aR _ _ _) (λh=>absurd rfl h) _ rfl ?_ ?_
 . intro v p q hv N1 N2 h0;obtain⟨k1,k2,k3,k4⟩:=Ze h0 0 ae;simp only at k1 k2 k3 k4;have F1:=vH k2;have F2:=vH k3;obtain⟨a1,c1,rfl,A1⟩:=N1.arg (by have:=fw F1;omega);obtain⟨a2,c2,rfl,A2⟩:=N2.arg (by have:=fw F2;omega);have hq:=DV (dN (mkS n X e)) (dN (mkS m Y f)) (dX (mkS n X e)) (dX (mkS m Y f)) (dE (mkS n X e)) (dE (mkS m Y f)) A1 A2 (hTu.belows hv) F1.par k4 F1.down F1.up F2.down F2.up F1.size F2.size;have hs:=BN (dN (mkS n X e)) (dX (mkS n X e)) (dE (mkS n X e)) (dX (mkS m Y f)) (dE (mkS m Y f)) F1.par k4 F1.size F2.size;have he:xG (mQ (dN (mkS n X e)) (dX (mkS n X e)) (dE (mkS n X e)) (dX (mkS m Y f)) (dE (mkS m Y f)))=0:=by unfold xG;rw[hs];rfl
   unfold dm at hq;rw[show mkS (dN (mkS n X e)) (2*jr (dX (mkS n X e)) (dX (mkS m Y f)) 64+(if xH (dX (mkS n X e)) (dX (mkS m Y f)) 64 then 0 else 1)) (fM (dE (mkS n X e)-dE (mkS m Y f)-nP (dX (mkS n X e)) (dX (mkS m Y f)) 64-fQ (dX (mkS m Y f)) 64))=mQ (dN (mkS n X e)) (dX (mkS n X e)) (dE (mkS n X e)) (dX (mkS m Y f)) (dE (mkS m Y f)) from rfl,he] at hq;exact hq
 . intro v p q _ hm h0 hv hA;obtain⟨k1,k2,k3,k4⟩:=Ze h0 0 ae;simp only at k1 k2 k3 k4;have F1:=vH k2;have F2:=vH k3;have hs:=BN (dN (mkS n X e)) (dX (mkS n X e)) (dE (mkS n X e)) (dX (mkS m Y f)) (dE (mkS m Y f)) F1.par k4 F1.size F2.size;have rg:=XD (o:=mQ (dN (mkS n X e)) (dX (mkS n X e)) (dE (mkS n X e)) (dX (mkS m Y f)) (dE (mkS m Y f))) rfl;have hR:=OX hA (hTu.belows hv) (dN (mQ (dN (mkS n X e)) (dX (mkS n X e)) (dE (mkS n X e)) (dX (mkS m Y f)) (dE (mkS m Y f)))) (dE (mQ (dN (mkS n X e)) (dX (mkS n X e)) (dE (mkS n X e)) (dX (mkS m Y f)) (dE (mkS m Y f)))) mode ae ae;rw[aB,J5 _ _ _ _ _ hs] at hR;exact hR
def negO(o:Option (Bool×Nat×Int)):Option (Bool×Nat×Int):=match o with
 | none=>none
 | some (n,X,e)=>mkS (!n) X e
theorem TM(n:Bool)(X:Nat)(e:Int):negO (mkS n X e)=mkS (!n) X e:=by
 by_cases h0:X=0
 . subst h0;rw[fP,fP];rfl
 . cases ho:mkS n X e with
   | none =>
     unfold mkS at ho |-;rw[if_neg h0] at ho |-
     split at ho
     . rename_i h;rw[if_pos h];rfl
     . cases ho
   | some d =>
     unfold mkS at ho |-;rw[if_neg h0] at ho |-
     split at ho
     . cases ho
     . rename_i h
       cases ho
       rw[if_neg h];show mkS (!n) (X/2^lo X) (e+lo X)=_;have hF:wR n (X/2^lo X) (e+lo X):=cO (n:=n) (X:=X) (e:=e) (by unfold mkS;rw[if_neg h0,if_neg h])
       have hF2:wR (!n) (X/2^lo X) (e+lo X):=⟨by
        rcases hF.odd with q|⟨q,_,_⟩
        . exact .inl q
        . exfalso;obtain⟨k,h2,h3,h4⟩:=iI X h0
          omega,hF.size,hF.up,hF.down⟩
       exact hF2.self
theorem Gy{o:Option (Bool×Nat×Int)}(hs:o.isSome=true):mkS (!(dN o)) (dX o) (dE o)=negO o:=by
 cases o with
 | none=>cases hs
 | some d=>rfl
def oI(X:Nat)(n:Bool)(e:Int)(Y:Nat)(m:Bool)(f:Int):Int:=if qN m Y<0 then 1 else if (mkS n X e).isSome&&(mkS m Y f).isSome then(if dX (mkS m Y f)=0 then 21 else 0) else 2
theorem zB(r:Ri):kV (Pv r) 1=oI r.X r.n r.e r.Y r.m r.f:=by
 unfold kV oI Pv;simp only[show List.range 1=[0] from rfl,List.any_cons,List.any_nil,Bool.or_false,decide_eq_true_eq]
 cases (mkS r.n r.X r.e).isSome <;> cases (mkS r.m r.Y r.f).isSome <;> simp
theorem Pw(n:Bool)(k Y:Nat)(e:Int):mkS n (2^k*Y) e=mkS n Y (e+k):=by
 induction k generalizing e with
 | zero=>simp
 | succ k ih=>rw[dS,cK (2^k) 2,aQ,yS,ih];congr 1;omega
end
end Go.Proofs.YtjppdacikihpdaaGreatDoor
