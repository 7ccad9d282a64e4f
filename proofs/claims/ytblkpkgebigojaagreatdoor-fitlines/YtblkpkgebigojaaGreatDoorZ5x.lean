import Derived.Test.YtblkpkgebigojaaGreatDoorD39x
import Derived.Test.YtblkpkgebigojaaGreatDoorS10x
import Derived.Deep.RegionHeld3
import Derived.Test.YtblkpkgebigojaaGreatDoorD30x
import Derived.Deep.Cut
import Derived.Test.YtblkpkgebigojaaGreatDoorD32cx
import Derived.Deep.OwnRows
import Derived.Deep.LoopGhost
import Derived.Test.YtblkpkgebigojaaGreatDoorD16x
import Derived.Test.YtblkpkgebigojaaGreatDoorD21x
import Derived.Test.YtblkpkgebigojaaGreatDoorBIeeex
import Derived.Laws.FloatArith
import Derived.Deep.CutRange
import Derived.Test.YtblkpkgebigojaaGreatDoorD10x
set_option linter.unusedVariables false
set_option linter.unusedSimpArgs false
set_option maxHeartbeats 16000000
set_option maxRecDepth 20000
namespace Go.Proofs.YtblkpkgebigojaaGreatDoor
section
open Go.RowKit
theorem gI {X:Nat}(h:bl X<=262144):¬ LG X:=fun k=>by have:=(nE X).1 k;omega
theorem Kv {X Y V:Nat}(h1:¬ LG X) (h2:¬ LG Y) (h3:¬ LG V) (e:X*Y=V):ji X Y=(V,0):=by subst e;unfold ji;rw [if_neg (by simp [h1,h2]),if_neg h3]
theorem ig {X:Nat}(h:bl X<=262144):(ws X).length<=8192:=by have:=gI h;unfold LG at this;omega
theorem eB {X k:Nat}(h:X<2^k):bl X<=k:=by
 by_cases h0:X=0
 · subst h0;rw [dJ];omega
 · have:=(jP (a:=2) aO).1 (iy (iG X h0) h);have:=dL X h0;omega
theorem nL {X Y:Nat}(h:X<=Y) (k:bl Y<=262144):bl X<=262144:=by
 have:=eB (iy h (iL Y));omega
theorem Cy (x y:Nat):decide (bE x y<0)=decide (x<y):=by
 unfold bE
 by_cases h:x<y
 · simp [h]
 · by_cases h2:y<x <;> simp [h,h2]
theorem OE (x y:Nat):decide (bE x y=0)=decide (x=y):=by
 unfold bE
 by_cases h:x<y
 · have:x≠y:=ae
   simp [h,this]
 · by_cases h2:y<x
   · have:x≠y:=ae
     simp [h,h2,this]
   · have:x=y:=ae
     simp [this]
theorem Kw {w:World}{a b:Option Addr}{ca cb:Nat}(n m:Bool) (X Y:Nat) (e f:Int) (size:Nat)
 (AX:Arg w a (ws X).length ca (ws X)) (AY:Arg w b (ws Y).length cb (ws Y)) (hX:X=0\/X%2=1) (hY:Y≠0)
 (he0:-1048576<=e) (he1:e<=1048576) (hf0:-1048576<=f) (hf1:f<=1048576) (hs0:1<=size) (hs:size<=1000) (bX:bl X<=262144) (bY:bl Y<=262144) :
 Calls Tryz.prog 164 #[.agg #[.bool n,.slice a (ws X).length ca,.int .i64 e,.bool m,.slice b (ws Y).length cb,.int .i64 f],.int .i64 (size:Nat)] w fun r w'=>(∃ v,r=.returned (.agg #[v,.int .i64 (e-f-l6 X Y size-fI Y size),.bool (uy X Y size)])/\Nt w.heap.size w' v (jb X Y size))/\Below w.heap.size w w':=by
 have D:=kH X Y size hX hY hs0 hs bX bY;have uV:=dL Y hY;have cutb:fI Y size<=1000/\fI Y size<bl Y:=by unfold fI;omega
 have bH:bl (ja Y size)<=262144:=by have:=D.UA;omega
 have hHc:bl (ja Y size)+size<=262144\/fI Y size=0:=by have:=D.UA;unfold fI at *;omega
 have hbyb:-262144<=l6 X Y size/\l6 X Y size<=264000:=by unfold l6;omega
 have UD:bl (oF X Y size)<=262144:=by
  have:=eB D.rJ;have h2:bl (ja Y size)+size<=262144:=by have:=D.UA;unfold fI at this;omega
  omega
 have XM:bl (lI X Y size)<=262144:=by have:=eB D.w0;omega
 have bLf:bl (oG X Y size)<=262144:=nL (jN D.lef) bH;have e1:bF Y (-((fI Y size:Nat):Int))=(ja Y size,0):=yn (gI bY) rfl
 have e2:bF X (l6 X Y size)=(oF X Y size,0):=by
  by_cases hb:l6 X Y size<0
  · have:=yn (X:=X) (k:=(-l6 X Y size).toNat) (V:=oF X Y size) (gI bX) (by unfold oF;rw [if_pos hb]);rw [show -(((-l6 X Y size).toNat:Nat):Int)=l6 X Y size by omega] at this;exact this
  · have:=oo (X:=X) (k:=(l6 X Y size).toNat) (V:=oF X Y size) (gI bX) (by
     by_cases h0:X=0
     · exact .inl h0
     · right
       have h2:bl (ja Y size)+size<=262144:=by have:=D.UA;unfold fI at this;omega
       unfold l6 at *;omega) (by unfold oF;rw [if_neg hb])
    rw [show (((l6 X Y size).toNat:Nat):Int)=l6 X Y size by omega] at this;exact this
 have e3:nA (oF X Y size) (ja Y size)=(lI X Y size,oG X Y size,0):=Rf (gI UD) (gI bH) D.hig rfl rfl
 -- what cmpLow is asked
 have XN:ja Y size*2^fI Y size<=Y:=D.low';have bBk:bl (ja Y size*2^fI Y size)<=262144:=nL XN bY;have bLo:bl (Cu Y size)<=262144:=nL (Nat.sub_le _ _) bY
 have bTk:bl (nK X Y size)<=262144:=by
  have h1:nK X Y size<2^(size+1+fI Y size):=by
   unfold nK;rw [aR];exact Aq D.w0 D.Xy
  have:=eB h1;omega
 have bHs:bl (pI X Y size)<=262144:=by
  refine nL (Y:=Y) (dD ?_ XN) bY;exact gF _ (jN D.lef)
 have c1:bF (ja Y size) ((fI Y size:Nat):Int)=(ja Y size*2^fI Y size,0):=oo (gI bH) (.inr (by have:=D.UA;omega)) rfl;have c2:nz Y (ja Y size*2^fI Y size)=(Cu Y size,0):=um (gI bY) (gI bBk) (by unfold Cu;omega);have c3:ji (lI X Y size) (Cu Y size)=(nK X Y size,0):=Kv (gI XM) (gI bLo) (gI bTk) rfl
 have c4:bF (oG X Y size) ((fI Y size:Nat):Int)=(pI X Y size,0):=oo (gI bLf) (by
  by_cases h0:oG X Y size=0
  · exact .inl h0
  · right
    have hlt:oG X Y size<=ja Y size:=jN D.lef;have:=eB (iy hlt (iL (ja Y size)));have:=D.UA
    omega) rfl
 have HC:Hid (∀ (u:World) (p q r s:Option Addr) (cp cq cr cs:Nat),Arg u p (ws (lI X Y size)).length cp (ws (lI X Y size))->Arg u q (ws (oG X Y size)).length cq (ws (oG X Y size))->Arg u r (ws Y).length cr (ws Y)->Arg u s (ws (ja Y size)).length cs (ws (ja Y size))->Calls Tryz.prog 208 #[.slice p (ws (lI X Y size)).length cp,.slice q (ws (oG X Y size)).length cq,.slice r (ws Y).length cr,.slice s (ws (ja Y size)).length cs,.int .i64 ((fI Y size:Nat):Int)] u fun r w'=>r=.returned (.int .i64 (bE (pI X Y size) (nK X Y size)))/\Below u.heap.size u w') :=
  fun u p q r s cp cq cr cs A1 A2 A3 A4=>E9 _ _ _ _ (fI Y size) _ _ _ _ _ A1 A2 A3 A4 ae c1 c2 c3 c4 rfl (ig bBk) (ig bLo) (ig bTk) (ig bHs)
 have Gt:(decide (bE (pI X Y size) (nK X Y size)=0)&&decide (0<=l6 X Y size))=uy X Y size:=by rw [OE];rfl
 have hcut:max ((bl Y:Int)+(size:Int)-262144) 0=((fI Y size:Nat):Int):=by unfold fI;omega
 by_cases hlt:pI X Y size<nK X Y size
 · have hz:decide (bE (pI X Y size) (nK X Y size)<0)=true:=by rw [Cy];exact decide_eq_true hlt
   have e4:nz (lI X Y size) 1=(jb X Y size,0):=by
    refine um (gI XM) (gI aO) ?_;have:=D.less hlt;unfold jb;rw [if_pos hlt];omega
   exact Cx n m X Y e f size (bl X) (bl Y) (bl (ja Y size)) (fI Y size) (ja Y size) (oF X Y size) (lI X Y size) (oG X Y size) (jb X Y size) _ (l6 X Y size) _ _ _ _ (uy X Y size) AX AY he0 he1 hf0 hf1 hs rfl rfl rfl bX bY bH rfl hcut ae e1 rfl e2 e3 HC hz e4 rfl rfl rfl Gt (ig bH) (ig UD) (ig XM) (ig bLf) (ig (nL (Y:=lI X Y size) (by unfold jb;rw [if_pos hlt];omega) XM))
 · have hz:decide (bE (pI X Y size) (nK X Y size)<0)=false:=by rw [Cy];exact decide_eq_false hlt
   have eW:jb X Y size=lI X Y size:=by unfold jb;rw [if_neg hlt]
   rw [eW];exact Cw n m X Y e f size (bl X) (bl Y) (bl (ja Y size)) (fI Y size) (ja Y size) (oF X Y size) (lI X Y size) (oG X Y size) 0 _ (l6 X Y size) _ _ _ _ (uy X Y size) AX AY he0 he1 hf0 hf1 hs rfl rfl rfl bX bY bH rfl hcut ae e1 rfl e2 e3 HC hz rfl rfl rfl Gt (ig bH) (ig UD) (ig XM) (ig bLf)
theorem vT (W:World) (g:Nat) (n:Bool) (v:Value) (e k:Int) (tmps:Array Value) (ht:tmps[4]?.getD undef=.pointer (some ⟨g,0,none⟩)) (hk:tmps[5]?.getD undef=.int .i64 k) (D:Tk W g 62 (.bool n) v (.int .i64 e)) :
 (results Tryz.f163 tmps).run Tryz.prog W=.ok (.tuple #[.agg #[.bool n,v,.int .i64 e],.int .i64 k]) W:=by
 obtain ⟨x0,x1,x2,_,_,_⟩:=D.facts;simp [results,Tryz.results163,ht,hk,go_sem,x0,x1,x2]
theorem yt (w:World) (v:Value) (x:Int) (t:Bool) (W:World) (hW:W=(w.alloc (.cells #[v,.int .i64 x,.bool t] 192)).alloc (.cells #[.bool false,.slice none 0 0,.int .i64 0] 62)) :
 Below w.heap.size w W/\W.heap.size=w.heap.size+2/\Tk W w.heap.size 192 v (.int .i64 x) (.bool t)/\Tk W (w.heap.size+1) 62 (.bool false) (.slice none 0 0) (.int .i64 0):=by
 rw [hW];refine ⟨(af w _).alloc aW _,aW,(Tk.new _ _ _ _ _).alloc _,?_⟩;have:=Tk.new (w.alloc (.cells #[v,.int .i64 x,.bool t] 192)) 62 (.bool false) (.slice none 0 0) (.int .i64 0);simpa using this
theorem Fa {w:World}{a:Option Addr}{ca:Nat}(n:Bool) (W M2 M3:Nat) (x y E:Int) (dn:Bool) (V:Nat) (de er:Int) (AW:Arg w a (ws W).length ca (ws W)) (hx0:-10000000<=x) (hx1:x<=10000000)
 (e1:bF W 1=(M2,0)) (hy:x-1=y) (hE:min (max y (-4096)) 4096=E) (l2:(ws M2).length<=8192) (lV:(ws V).length<=8192)
 (HM:Hid (∀ (u:World) (p:Option Addr) (q:Nat),Below w.heap.size w u->Arg u p (ws M2).length q (ws M2)->Calls Tryz.prog 86 #[.bool n,.slice p (ws M2).length q,.int .i64 E] u fun r w'=>(∃ v,r=.returned (.tuple #[.agg #[.bool dn,v,.int .i64 de],.int .i64 er])/\Nt u.heap.size w' v V)/\Below u.heap.size u w')) :
 Calls Tryz.prog 163 #[.bool n,.agg #[.slice a (ws W).length ca,.int .i64 x,.bool true]] w fun r w'=>(∃ v,r=.returned (.tuple #[.agg #[.bool dn,v,.int .i64 de],.int .i64 er])/\Nt w.heap.size w' v V)/\Below w.heap.size w w':=by
 obtain ⟨W1,hW1⟩:=ah ((w.alloc (.cells #[.slice a (ws W).length ca,.int .i64 x,.bool true] 192)).alloc (.cells #[.bool false,.slice none 0 0,.int .i64 0] 62));obtain ⟨hB,hz1,SK,DK⟩:=yt w _ x true W1 hW1;have OD:bF (val (ws W)) 1=(M2,0):=by rw [ax];exact e1
 have E1:=ay OD;have hs2:w.heap.size+2<=W1.heap.size:=ae
 have l1s:(ws 1).length<=8192:=by rw [yR];simp
 have hbel:=hB;have S0:=(jK hbel (AW.below hB) SK DK);clear hbel;clear e1 OD AW hB SK DK hz1;go_enter Tryz.func163,Tryz.ntmps163;obtain ⟨x0,x1,x2,_,_,_⟩:=S0.o.r2.1.facts;obtain ⟨aF,AW,SK,DK⟩:=S0.o;have HC:=hid (fO 1 AW E1.o ae ae);clear aF AW SK DK
 go_upto_region 1 with fail
 rw [<-hW1];clear hW1;go_wp2_with fail;clear x0 x1 x2;refine HC.o.mono ?_;rintro r u1 ⟨v,rfl,hN,hb⟩;obtain ⟨a1,c1,rfl,_⟩:=hN.arg ae;clear HC;obtain ⟨aF,AW,SK,DK⟩:=S0.o;have hbn:=aF.trans (hb.mono aF.size);have S1:=gZ hbn (AW.below hb) (SK.below hb) (DK.below hb) (hN.mono aF.size);clear aF AW SK DK;clear hb hbn S0;clear hN;obtain ⟨x0,x1,x2,_,_,_⟩:=S1.o.r2.1.facts;obtain ⟨aF,AW,SK,DK,N2⟩:=S1.o;have HC:=hid (HM.o u1 _ _ aF (N2.bR ae).2);clear aF AW SK DK N2;go_wp2_with fail;clear x0 x1 x2;refine HC.o.mono ?_;rintro r u2 ⟨⟨v,rfl,hN⟩,hb⟩;obtain ⟨a7,c7,rfl,_⟩:=hN.arg ae;clear HC;obtain ⟨aF,AW,SK,DK,N2⟩:=S1.o;have hbn:=aF.trans (hb.mono aF.size);have S2:=jE hbn (AW.below hb) (SK.below hb) (DK.below hb) (N2.below hb) (hN.mono aF.size);clear aF AW SK DK N2;clear hb hbn S1;clear hN;obtain ⟨aF,AW,SK,DK,N2,NV⟩:=S2.o;have hlast:=fB aF NV DK;obtain ⟨s0,s1,s2,wM,wN,wO⟩:=DK.facts;clear aF AW SK DK N2 NV;clear S2 HM;go_wp2;obtain ⟨aF,NZ,DK⟩:=hlast.o;have hsz:=aF.size;exact aI (vT _ (w.heap.size+1) dn (.slice a7 (ws V).length c7) de er _ rfl rfl (DK.set _ _ _)) rfl ⟨⟨_,rfl,NZ.Ku DK aO _ _ _⟩,kg aF hsz ae _ _ _⟩
theorem Ky {w:World}{a:Option Addr}{ca:Nat}(n:Bool) (W M2 M3:Nat) (x y E:Int) (dn:Bool) (V:Nat) (de er:Int) (AW:Arg w a (ws W).length ca (ws W)) (hx0:-10000000<=x) (hx1:x<=10000000)
 (e1:bF W 1=(M2,0)) (e2:tN M2 1=(M3,0)) (hy:x-1=y) (hE:min (max y (-4096)) 4096=E) (l2:(ws M2).length<=8192) (l3:(ws M3).length<=8192) (lV:(ws V).length<=8192)
 (HM:Hid (∀ (u:World) (p:Option Addr) (q:Nat),Below w.heap.size w u->Arg u p (ws M3).length q (ws M3)->Calls Tryz.prog 86 #[.bool n,.slice p (ws M3).length q,.int .i64 E] u fun r w'=>(∃ v,r=.returned (.tuple #[.agg #[.bool dn,v,.int .i64 de],.int .i64 er])/\Nt u.heap.size w' v V)/\Below u.heap.size u w')) :
 Calls Tryz.prog 163 #[.bool n,.agg #[.slice a (ws W).length ca,.int .i64 x,.bool false]] w fun r w'=>(∃ v,r=.returned (.tuple #[.agg #[.bool dn,v,.int .i64 de],.int .i64 er])/\Nt w.heap.size w' v V)/\Below w.heap.size w w':=by
 obtain ⟨W1,hW1⟩:=ah ((w.alloc (.cells #[.slice a (ws W).length ca,.int .i64 x,.bool false] 192)).alloc (.cells #[.bool false,.slice none 0 0,.int .i64 0] 62));obtain ⟨hB,hz1,SK,DK⟩:=yt w _ x false W1 hW1;have OD:bF (val (ws W)) 1=(M2,0):=by rw [ax];exact e1
 have e2':tN (val (ws M2)) (val (ws 1))=(M3,0):=by rw [ax,ax];exact e2
 have E2:=ay e2';clear e2 e2';have E1:=ay OD;have hs2:w.heap.size+2<=W1.heap.size:=ae
 have l1s:(ws 1).length<=8192:=by rw [yR];simp
 have hbel:=hB;have S0:=(jK hbel (AW.below hB) SK DK);clear hbel;clear e1 OD AW hB SK DK hz1;go_enter Tryz.func163,Tryz.ntmps163;obtain ⟨x0,x1,x2,_,_,_⟩:=S0.o.r2.1.facts;obtain ⟨aF,AW,SK,DK⟩:=S0.o;have HC:=hid (fO 1 AW E1.o ae ae);clear aF AW SK DK
 go_upto_region 1 with fail
 rw [<-hW1];clear hW1;go_wp2_with fail;clear x0 x1 x2;refine HC.o.mono ?_;rintro r u1 ⟨v,rfl,hN,hb⟩;obtain ⟨a1,c1,rfl,_⟩:=hN.arg ae;clear HC;obtain ⟨aF,AW,SK,DK⟩:=S0.o;have hbn:=aF.trans (hb.mono aF.size);have S1:=gZ hbn (AW.below hb) (SK.below hb) (DK.below hb) (hN.mono aF.size);clear aF AW SK DK;clear hb hbn S0;clear hN;obtain ⟨x0,x1,x2,_,_,_⟩:=S1.o.r2.1.facts;obtain ⟨aF,AW,SK,DK,N2⟩:=S1.o;have HC:=hid (mf 1 u1 ae);clear aF AW SK DK N2;go_wp2_with fail;clear x0 x1 x2;refine HC.o.mono ?_;rintro r u2 ⟨v,rfl,hN,hb⟩;obtain ⟨a5,c5,rfl,_⟩:=hN.arg ae;clear HC;obtain ⟨aF,AW,SK,DK,N2⟩:=S1.o;have hbn:=aF.trans (hb.mono aF.size);have S2:=jE hbn (AW.below hb) (SK.below hb) (DK.below hb) (N2.below hb) (hN.mono aF.size);clear aF AW SK DK N2;clear hb hbn S1;clear hN;obtain ⟨aF,AW,SK,DK,N2,NO⟩:=S2.o;have HC:=hid (ui (N2.bR ae).2 (NO.bR ae).2 E2.o);clear aF AW SK DK N2 NO;go_wp2_with fail;refine HC.o.mono ?_;rintro r u3 ⟨v,rfl,hN,hb⟩;obtain ⟨a6,c6,rfl,_⟩:=hN.arg ae;clear HC;obtain ⟨aF,AW,SK,DK,N2,NO⟩:=S2.o;have hbn:=aF.trans (hb.mono aF.size);have S3:=rZ hbn (AW.below hb) (SK.below hb) (DK.below hb) (N2.below hb) (NO.below hb) (hN.mono aF.size);clear aF AW SK DK N2 NO;clear hb hbn S2;clear hN;obtain ⟨x0,x1,x2,_,_,_⟩:=S3.o.r2.1.facts;obtain ⟨aF,AW,SK,DK,N2,NO,N3⟩:=S3.o;have HC:=hid (HM.o u3 _ _ aF (N3.bR ae).2);clear aF AW SK DK N2 NO N3;go_wp2_with fail;clear x0 x1 x2;refine HC.o.mono ?_;rintro r u4 ⟨⟨v,rfl,hN⟩,hb⟩;obtain ⟨a7,c7,rfl,_⟩:=hN.arg ae;clear HC;obtain ⟨aF,AW,SK,DK,N2,NO,N3⟩:=S3.o;have hbn:=aF.trans (hb.mono aF.size);have S4:=r9 hbn (AW.below hb) (SK.below hb) (DK.below hb) (N2.below hb) (NO.below hb) (N3.below hb) (hN.mono aF.size);clear aF AW SK DK N2 NO N3;clear hb hbn S3;clear hN;obtain ⟨aF,AW,SK,DK,N2,NO,N3,NV⟩:=S4.o;have hlast:=fB aF NV DK;obtain ⟨s0,s1,s2,wM,wN,wO⟩:=DK.facts;clear aF AW SK DK N2 NO N3 NV;clear S4 HM;go_wp2;obtain ⟨aF,NZ,DK⟩:=hlast.o;have hsz:=aF.size;exact aI (vT _ (w.heap.size+1) dn (.slice a7 (ws V).length c7) de er _ rfl rfl (DK.set _ _ _)) rfl ⟨⟨_,rfl,NZ.Ku DK aO _ _ _⟩,kg aF hsz ae _ _ _⟩
theorem Fb {w:World}{a:Option Addr}{ca:Nat}(n:Bool) (W:Nat) (x:Int) (t:Bool) (AW:Arg w a (ws W).length ca (ws W)) (hT:il w) (hx0:-10000000<=x) (hx1:x<=10000000) (hW:bl W<=1000) :
 Calls Tryz.prog 163 #[.bool n,.agg #[.slice a (ws W).length ca,.int .i64 x,.bool t]] w fun r w'=>di w.heap.size w' r (mkS n (2*W+(if t then 0 else 1)) (fo x))/\Below w.heap.size w w':=by
 have hLW:¬ LG W:=fun k=>by have:=(nE W).1 k;omega
 have e1:bF W 1=(2*W,0):=by
  have:=oo (X:=W) (k:=1) (V:=2*W) hLW (.inr ae) ae;simpa using this
 have b2:∀ d,d<=1->bl (2*W+d)<=1001:=by
  intro d hd;have h1:=iL W;have h2:2*W+d<2^(bl W+1):=by rw [dS];omega
  by_cases h0:2*W+d=0
  · rw [h0,dJ];omega
  · have:=(jP (a:=2) aO).1 (iy (iG _ h0) h2);have:=dL _ h0;omega
 have l8:∀ d,d<=1->(ws (2*W+d)).length<=8192/\¬ LG (2*W+d):=by
  intro d hd;have hb:=b2 d hd;have hn:¬ LG (2*W+d):=fun k=>by have:=(nE (2*W+d)).1 k;omega
  exact ⟨by unfold LG at hn;omega,hn⟩
 have cl0:-4096<=fo x/\fo x<=4096:=by unfold fo;omega
 unfold di;have hl:=aS n (2*W+(if t then 0 else 1)) (fo x)
 cases t with
 | true =>
   simp only [if_true,iw] at hl |-;refine Fa n W (2*W) 0 x _ _ _ _ _ _ AW hx0 hx1 e1 rfl rfl (l8 0 ae).1 hl ?_;intro u p q hu hA;have:=fP hA (hT.belows hu) n (fo x) ae ae;rw [ax] at this;exact this
 | false =>
   simp only [fw,if_false] at hl |-;refine Ky n W (2*W) (2*W+1) x _ _ _ _ _ _ AW hx0 hx1 e1 (uk (l8 1 ae).2 rfl) rfl rfl (l8 0 ae).1 (l8 1 ae).1 hl ?_;intro u p q hu hA;have:=fP hA (hT.belows hu) n (fo x) ae ae;rw [ax] at this;exact this
theorem Fe (w:World) (n:Bool) (v:Value) (e:Int) (m:Bool) (u:Value) (f:Int) (W:World) (hW:W=(w.alloc (.cells #[.bool n,v,.int .i64 e,.bool m,u,.int .i64 f] 98)).alloc (.cells #[.bool false,.slice none 0 0,.int .i64 0] 62)) :
 Below w.heap.size w W/\W.heap.size=w.heap.size+2/\Rq W w.heap.size n v e m u f/\Tk W (w.heap.size+1) 62 (.bool false) (.slice none 0 0) (.int .i64 0):=by
 rw [hW];refine ⟨(af w _).alloc aW _,aW,(Rq.new _ _ _ _ _ _ _).alloc _,?_⟩;have:=Tk.new (w.alloc (.cells #[.bool n,v,.int .i64 e,.bool m,u,.int .i64 f] 98)) 62 (.bool false) (.slice none 0 0) (.int .i64 0);simpa using this
theorem qF (W:World) (g:Nat) (n:Bool) (v:Value) (e k:Int) (tmps:Array Value) (ht:tmps[2]?.getD undef=.pointer (some ⟨g,0,none⟩)) (hk:tmps[3]?.getD undef=.int .i64 k) (D:Tk W g 62 (.bool n) v (.int .i64 e)) :
 (results Tryz.f114 tmps).run Tryz.prog W=.ok (.tuple #[.agg #[.bool n,v,.int .i64 e],.int .i64 k]) W:=by
 obtain ⟨x0,x1,x2,_,_,_⟩:=D.facts;simp [results,Tryz.results114,ht,hk,go_sem,x0,x1,x2]
theorem wV {w:World}{a b:Option Addr}{la ca lb cb:Nat}(n m:Bool) (e f:Int) (WH:Nat) (x:Int) (tt:Bool) (dn:Bool) (V:Nat) (de er:Int) (lW:(ws WH).length<=8192) (lV:(ws V).length<=8192)
 (HD:Hid (∀ u,Below w.heap.size w u->Calls Tryz.prog 164 #[.agg #[.bool n,.slice a la ca,.int .i64 e,.bool m,.slice b lb cb,.int .i64 f],.int .i64 64] u fun r w'=>(∃ v,r=.returned (.agg #[v,.int .i64 x,.bool tt])/\Nt u.heap.size w' v WH)/\Below u.heap.size u w'))
 (HI:Hid (∀ (u:World) (p:Option Addr) (q:Nat),Below w.heap.size w u->Arg u p (ws WH).length q (ws WH)->Calls Tryz.prog 163 #[.bool n,.agg #[.slice p (ws WH).length q,.int .i64 x,.bool tt]] u fun r w'=>(∃ v,r=.returned (.tuple #[.agg #[.bool dn,v,.int .i64 de],.int .i64 er])/\Nt u.heap.size w' v V)/\Below u.heap.size u w')) :
 Calls Tryz.prog 114 #[.agg #[.bool n,.slice a la ca,.int .i64 e,.bool m,.slice b lb cb,.int .i64 f]] w fun r w'=>(∃ v,r=.returned (.tuple #[.agg #[.bool dn,v,.int .i64 de],.int .i64 er])/\Nt w.heap.size w' v V)/\Below w.heap.size w w':=by
 obtain ⟨W1,hW1⟩:=ah ((w.alloc (.cells #[.bool n,.slice a la ca,.int .i64 e,.bool m,.slice b lb cb,.int .i64 f] 98)).alloc (.cells #[.bool false,.slice none 0 0,.int .i64 0] 62));obtain ⟨hB,hz1,RQ,DK⟩:=Fe w n _ e m _ f W1 hW1;have T1:=hid (HD.o W1 hB);have T2:=hid (HD.o W1.drew hB.drew);obtain ⟨x0,x1,x2,x3,x4,x5⟩:=RQ.facts;obtain ⟨s0,s1,s2,wM,wN,wO⟩:=DK.facts;have hs1:w.heap.size+2<=W1.heap.size:=ae
 have SB:=(fB hB RQ DK);clear hB hz1 RQ DK HD;go_enter Tryz.func114,Tryz.ntmps114;go_wp2_with fail;rw [<-hW1];clear hW1;have ne1:w.heap.size≠w.heap.size+1:=ae
 have V8:w.heap.size+1≠w.heap.size:=ae
 go_region_held3 (fun w'=>w'.cell? ⟨w.heap.size,0,none⟩=some (.bool n)/\w'.cell? ⟨w.heap.size,1,none⟩=some (.slice a la ca)/\w'.cell? ⟨w.heap.size,2,none⟩=some (.int .i64 e)/\w'.cell? ⟨w.heap.size,3,none⟩=some (.bool m)/\w'.cell? ⟨w.heap.size,4,none⟩=some (.slice b lb cb)/\w'.cell? ⟨w.heap.size,5,none⟩=some (.int .i64 f)) (go_keep) (first
  | (go_at_call 164
     first | with_reducible refine T1.o.mono ?_ | with_reducible refine T2.o.mono ?_
     rintro r u1 ⟨⟨v,rfl,hN⟩,hb⟩;obtain ⟨a1,c1,rfl,_⟩:=hN.arg ae;have hb1:Below W1.heap.size W1 u1:=by first | exact hb | exact ((ak _ W1).drew).trans (hb.mono (aH _))
     have BW:Below w.heap.size w u1:=SB.o.1.trans (hb1.mono ae);have HI1:=hid (HI.o u1 _ _ BW (hN.bR ae).2);obtain ⟨p0,p1,p2,Li,Lj,Ll⟩:=(SB.o.r2.below hb1).facts;obtain ⟨q0,q1,q2,q3,q4,q5⟩:=(SB.o.2.1.below hb1).facts;have S1:=(fB BW (SB.o.2.1.below hb1) (SB.o.r2.below hb1))
     clear hb hb1 BW hN)
  | (go_at_call 163
     with_reducible refine HI1.o.mono ?_
     rintro r u2 ⟨⟨v,rfl,hN⟩,hb⟩;obtain ⟨a4,c4,rfl,_⟩:=hN.arg ae;have LD:=S1.o.r2.below hb;obtain ⟨t0,t1,t2,V9,We,Wh⟩:=LD.facts;obtain ⟨i0,i1,i2,i3,i4,i5⟩:=(S1.o.2.1.below hb).facts;have FV:=fB (S1.o.1.trans (hb.mono S1.o.1.size)) (hN.mono S1.o.1.size) LD
     clear hN hb LD))
 all_goals (
  go_wp2;obtain ⟨aF,NZ,DK⟩:=FV.o;have hsz:=aF.size
  first
  | exact aI (qF _ (w.heap.size+1) dn (.slice a4 (ws V).length c4) de er _ rfl rfl (DK.set _ _ _)) rfl ⟨⟨_,rfl,NZ.Ku DK aO _ _ _⟩,kg aF hsz ae _ _ _⟩
  | exact aI (qF _ (w.heap.size+1) dn (.slice a4 (ws V).length c4) de er _ rfl rfl (DK.set _ _ _)) rfl ⟨⟨_,rfl,NZ.Ku DK aO _ _ _⟩,(kg aF hsz ae _ _ _).drew⟩)
theorem zG {w:World}{a b:Option Addr}{ca cb:Nat}(n m:Bool) (X Y:Nat) (e f:Int)
 (AX:Arg w a (ws X).length ca (ws X)) (AY:Arg w b (ws Y).length cb (ws Y)) (hT:il w) (hX:X=0\/X%2=1) (hY:Y≠0)
 (he0:-1048576<=e) (he1:e<=1048576) (hf0:-1048576<=f) (hf1:f<=1048576) (bX:bl X<=262144) (bY:bl Y<=262144) :
 Calls Tryz.prog 114 #[.agg #[.bool n,.slice a (ws X).length ca,.int .i64 e,.bool m,.slice b (ws Y).length cb,.int .i64 f]] w fun r w' =>
  di w.heap.size w' r (mkS n (2*jb X Y 64+(if uy X Y 64 then 0 else 1)) (fo (e-f-l6 X Y 64-fI Y 64)))/\Below w.heap.size w w':=by
 have D:=kH X Y 64 hX hY ae ae bX bY;have bW:bl (jb X Y 64)<=65:=eB D.most;have hc:fI Y 64<=64:=by unfold fI;omega
 have hb:-262144<=l6 X Y 64/\l6 X Y 64<=264000:=by have:=D.UA;unfold l6;omega
 unfold di;refine wV n m e f (jb X Y 64) (e-f-l6 X Y 64-fI Y 64) (uy X Y 64) _ _ _ _ (ig ae) (aS _ _ _) ?_ ?_
 · intro u hu;exact Kw n m X Y e f 64 (AX.below hu) (AY.below hu) hX hY he0 he1 hf0 hf1 ae ae bX bY
 · intro u p q hu hA;exact Fb n (jb X Y 64) _ (uy X Y 64) hA (hT.belows hu) ae ae ae
theorem vU (W:World) (g:Nat) (n:Bool) (v:Value) (e:Int) (m:Bool) (u:Value) (f k:Int) (tmps:Array Value) (ht:tmps[2]?.getD undef=.pointer (some ⟨g,0,none⟩)) (hk:tmps[3]?.getD undef=.int .i64 k) (D:Rq W g n v e m u f) :
 (results Tryz.f206 tmps).run Tryz.prog W=.ok (.tuple #[.agg #[.bool n,v,.int .i64 e,.bool m,u,.int .i64 f],.int .i64 k]) W:=by
 obtain ⟨x0,x1,x2,x3,x4,x5⟩:=D.facts;simp [results,Tryz.results206,ht,hk,go_sem,x0,x1,x2,x3,x4,x5]
theorem pJ (w:World) (n:Bool) (v:Value) (e:Int) (m:Bool) (u:Value) (f:Int) (W:World) (hW:W=(w.alloc (.cells #[.bool n,v,.int .i64 e,.bool m,u,.int .i64 f] 98)).alloc (.cells #[.bool false,.slice none 0 0,.int .i64 0,.bool false,.slice none 0 0,.int .i64 0] 98)) :
 Below w.heap.size w W/\W.heap.size=w.heap.size+2/\Rq W w.heap.size n v e m u f/\Rq W (w.heap.size+1) false (.slice none 0 0) 0 false (.slice none 0 0) 0:=by
 rw [hW];refine ⟨(af w _).alloc aW _,aW,(Rq.new _ _ _ _ _ _ _).alloc _,?_⟩;have:=Rq.new (w.alloc (.cells #[.bool n,v,.int .i64 e,.bool m,u,.int .i64 f] 98)) false (.slice none 0 0) 0 false (.slice none 0 0) 0;simpa using this
theorem Rh {w:World}{a b:Option Addr}{la ca lb cb:Nat}(n m:Bool) (e f:Int) (n1 m1:Bool) (X Y:Nat) (e1 f1:Int) (lX:(ws X).length<=8192) (lY:(ws Y).length<=8192)
 (H1:Hid (∀ u,Below w.heap.size w u->Calls Tryz.prog 86 #[.bool n,.slice a la ca,.int .i64 e] u fun r w'=>(∃ v,r=.returned (.tuple #[.agg #[.bool n1,v,.int .i64 e1],.int .i64 0])/\Nt u.heap.size w' v X)/\Below u.heap.size u w'))
 (H2:Hid (∀ u,Below w.heap.size w u->Calls Tryz.prog 86 #[.bool m,.slice b lb cb,.int .i64 f] u fun r w'=>(∃ v,r=.returned (.tuple #[.agg #[.bool m1,v,.int .i64 f1],.int .i64 0])/\Nt u.heap.size w' v Y)/\Below u.heap.size u w')) :
 Calls Tryz.prog 206 #[.agg #[.bool n,.slice a la ca,.int .i64 e,.bool m,.slice b lb cb,.int .i64 f]] w fun r w'=>(∃ v u,r=.returned (.tuple #[.agg #[.bool n1,v,.int .i64 e1,.bool m1,u,.int .i64 f1],.int .i64 0])/\Nt w.heap.size w' v X/\Nt w.heap.size w' u Y/\Ap v u)/\Below w.heap.size w w':=by
 obtain ⟨W1,hW1⟩:=ah ((w.alloc (.cells #[.bool n,.slice a la ca,.int .i64 e,.bool m,.slice b lb cb,.int .i64 f] 98)).alloc (.cells #[.bool false,.slice none 0 0,.int .i64 0,.bool false,.slice none 0 0,.int .i64 0] 98));obtain ⟨hB,hz1,RQ,RR⟩:=pJ w n _ e m _ f W1 hW1;have hs2:w.heap.size+2<=W1.heap.size:=ae
 have hbel:=hB;have S0:=(fB hbel RQ RR);clear hbel;clear hB RQ RR hz1;go_enter Tryz.func206,Tryz.ntmps206;obtain ⟨x0,x1,x2,x3,x4,x5⟩:=S0.o.2.1.facts;obtain ⟨aF,RQ,RR⟩:=S0.o;have HC:=hid (H1.o W1 aF);clear aF RQ RR
 go_upto_region 1 with fail
 rw [<-hW1];clear hW1;go_wp2_with fail;clear x0 x1 x2 x3 x4 x5;refine HC.o.mono ?_;rintro r u1 ⟨⟨v,rfl,hN⟩,hb⟩;obtain ⟨a1,c1,rfl,_⟩:=hN.arg ae;clear HC;obtain ⟨aF,RQ,RR⟩:=S0.o;have hbn:=aF.trans (hb.mono aF.size);have S1:=jK hbn (RQ.below hb) (RR.below hb) (hN.mono aF.size);clear aF RQ RR;clear hb hbn S0;clear hN;obtain ⟨U1,bq⟩:=ah (u1.alloc (.cells #[.bool n1,.slice a1 (ws X).length c1,.int .i64 e1] 62));obtain ⟨aF,RQ,RR,NX⟩:=S1.o;have mD:Below u1.heap.size u1 U1:=by rw [bq];exact af _ _
 have TN:Tk U1 u1.heap.size 62 (.bool n1) (.slice a1 (ws X).length c1) (.int .i64 e1):=by rw [bq];exact Tk.new _ _ _ _ _
 have hbn:=aF.trans (mD.mono aF.size);have hgu:w.heap.size+2<=u1.heap.size:=by have:=RR.lt;omega
 have S2:=gZ hbn (RQ.below mD) (RR.below mD) (NX.below mD) TN;obtain ⟨x0,x1,x2,x3,x4,x5⟩:=(RQ.below mD).facts;clear aF RQ RR NX;clear mD hbn TN S1 H1;obtain ⟨aF,RQ,RR,NX,TN⟩:=S2.o;have HC:=hid (H2.o U1 aF);clear aF RQ RR NX TN
 go_upto_region 4 with fail
 rw [<-bq];clear bq;go_wp2_with fail;clear x0 x1 x2 x3 x4 x5;refine HC.o.mono ?_;rintro r u3 ⟨⟨v,rfl,hN⟩,hb⟩;obtain ⟨a2,c2,rfl,_⟩:=hN.arg ae;clear HC;obtain ⟨aF,RQ,RR,NX,TN⟩:=S2.o;have hbn:=aF.trans (hb.mono aF.size);have S3:=rZ hbn (RQ.below hb) (RR.below hb) (NX.below hb) (TN.below hb) (hN.mono aF.size) (NX.ap hN);clear aF RQ RR NX TN;clear hb hbn S2;clear hN;obtain ⟨U3,Ff⟩:=ah (u3.alloc (.cells #[.bool m1,.slice a2 (ws Y).length c2,.int .i64 f1] 62));obtain ⟨aF,RQ,RR,NX,TN,NY,AP⟩:=S3.o;have mD:Below u3.heap.size u3 U3:=by rw [Ff];exact af _ _
 have TD:Tk U3 u3.heap.size 62 (.bool m1) (.slice a2 (ws Y).length c2) (.int .i64 f1):=by rw [Ff];exact Tk.new _ _ _ _ _
 have hbn:=aF.trans (mD.mono aF.size);have SZ:=gZ hbn (RR.below mD) (NX.below mD) (NY.below mD) AP;obtain ⟨x0,x1,x2,_,_,_⟩:=(TN.below mD).facts;obtain ⟨y0,y1,y2,_,_,_⟩:=TD.facts;obtain ⟨r0,r1,r2,r3,r4,r5⟩:=(RR.below mD).facts;obtain ⟨fZ,gp,gy,V7,rf4,rf5⟩:=(RR.below mD).frz;clear aF RQ RR NX TN NY AP;clear mD hbn TD S3 H2
 go_upto_region 5 with fail
 rw [<-Ff];clear Ff;go_wp2;obtain ⟨aF,RR,NX,NY,AP⟩:=SZ.o;have hbl:=aF.size;refine aI (vU _ (w.heap.size+1) n1 (.slice a1 (ws X).length c1) e1 m1 (.slice a2 (ws Y).length c2) f1 0 _ rfl rfl (RR.set _ _ _ _ _ _)) rfl ⟨⟨_,_,rfl,NX.XF RR _ _ _ _ _ _,NY.XF RR _ _ _ _ _ _,AP⟩,rM aF hbl ae _ _ _ _ _ _⟩
theorem Kz {w:World}{a b:Option Addr}{la ca lb cb:Nat}(n m:Bool) (e f:Int) (n1 m1:Bool) (X Y:Nat) (e1 f1:Int) (lX:(ws X).length<=8192) (lY:(ws Y).length<=8192)
 (H1:Hid (∀ u,Below w.heap.size w u->Calls Tryz.prog 86 #[.bool n,.slice a la ca,.int .i64 e] u fun r w'=>(∃ v,r=.returned (.tuple #[.agg #[.bool n1,v,.int .i64 e1],.int .i64 2])/\Nt u.heap.size w' v X)/\Below u.heap.size u w'))
  :
 Calls Tryz.prog 206 #[.agg #[.bool n,.slice a la ca,.int .i64 e,.bool m,.slice b lb cb,.int .i64 f]] w fun r w'=>(∃ v u,r=.returned (.tuple #[.agg #[.bool false,v,.int .i64 0,.bool false,u,.int .i64 0],.int .i64 2])/\v=.slice none 0 0/\u=.slice none 0 0)/\Below w.heap.size w w':=by
 obtain ⟨W1,hW1⟩:=ah ((w.alloc (.cells #[.bool n,.slice a la ca,.int .i64 e,.bool m,.slice b lb cb,.int .i64 f] 98)).alloc (.cells #[.bool false,.slice none 0 0,.int .i64 0,.bool false,.slice none 0 0,.int .i64 0] 98));obtain ⟨hB,hz1,RQ,RR⟩:=pJ w n _ e m _ f W1 hW1;have hs2:w.heap.size+2<=W1.heap.size:=ae
 have hbel:=hB;have S0:=(fB hbel RQ RR);clear hbel;clear hB RQ RR hz1;go_enter Tryz.func206,Tryz.ntmps206;obtain ⟨x0,x1,x2,x3,x4,x5⟩:=S0.o.2.1.facts;obtain ⟨aF,RQ,RR⟩:=S0.o;have HC:=hid (H1.o W1 aF);clear aF RQ RR
 go_upto_region 1 with fail
 rw [<-hW1];clear hW1;go_wp2_with fail;clear x0 x1 x2 x3 x4 x5;refine HC.o.mono ?_;rintro r u1 ⟨⟨v,rfl,hN⟩,hb⟩;obtain ⟨a1,c1,rfl,_⟩:=hN.arg ae;clear HC;obtain ⟨aF,RQ,RR⟩:=S0.o;have hbn:=aF.trans (hb.mono aF.size);have S1:=fB hbn (RQ.below hb) (RR.below hb);clear aF RQ RR;clear hb hbn S0;clear hN;obtain ⟨U1,bq⟩:=ah (u1.alloc (.cells #[.bool n1,.slice a1 (ws X).length c1,.int .i64 e1] 62));obtain ⟨aF,RQ,RR⟩:=S1.o;have mD:Below u1.heap.size u1 U1:=by rw [bq];exact af _ _
 have hlast:=bB (aF.trans (mD.mono aF.size)) (RR.below mD);obtain ⟨r0,r1,r2,r3,r4,r5⟩:=(RR.below mD).facts;obtain ⟨fZ,gp,gy,V7,rf4,rf5⟩:=(RR.below mD).frz;clear aF RQ RR;clear S1 H1 mD
 go_upto_region 2 with fail
 rw [<-bq];clear bq;go_wp2;obtain ⟨aF,RR⟩:=hlast.o;exact aI (vU _ (w.heap.size+1) false (.slice none 0 0) 0 false (.slice none 0 0) 0 2 _ rfl rfl (RR.set _ _ _ _ _ _)) rfl ⟨⟨_,_,rfl,rfl,rfl⟩,rM aF aF.size ae _ _ _ _ _ _⟩
theorem KA {w:World}{a b:Option Addr}{la ca lb cb:Nat}(n m:Bool) (e f:Int) (n1 m1:Bool) (X Y:Nat) (e1 f1:Int) (lX:(ws X).length<=8192) (lY:(ws Y).length<=8192)
 (H1:Hid (∀ u,Below w.heap.size w u->Calls Tryz.prog 86 #[.bool n,.slice a la ca,.int .i64 e] u fun r w'=>(∃ v,r=.returned (.tuple #[.agg #[.bool n1,v,.int .i64 e1],.int .i64 0])/\Nt u.heap.size w' v X)/\Below u.heap.size u w'))
 (H2:Hid (∀ u,Below w.heap.size w u->Calls Tryz.prog 86 #[.bool m,.slice b lb cb,.int .i64 f] u fun r w'=>(∃ v,r=.returned (.tuple #[.agg #[.bool m1,v,.int .i64 f1],.int .i64 2])/\Nt u.heap.size w' v Y)/\Below u.heap.size u w')) :
 Calls Tryz.prog 206 #[.agg #[.bool n,.slice a la ca,.int .i64 e,.bool m,.slice b lb cb,.int .i64 f]] w fun r w'=>(∃ v u,r=.returned (.tuple #[.agg #[.bool false,v,.int .i64 0,.bool false,u,.int .i64 0],.int .i64 2])/\v=.slice none 0 0/\u=.slice none 0 0)/\Below w.heap.size w w':=by
 obtain ⟨W1,hW1⟩:=ah ((w.alloc (.cells #[.bool n,.slice a la ca,.int .i64 e,.bool m,.slice b lb cb,.int .i64 f] 98)).alloc (.cells #[.bool false,.slice none 0 0,.int .i64 0,.bool false,.slice none 0 0,.int .i64 0] 98));obtain ⟨hB,hz1,RQ,RR⟩:=pJ w n _ e m _ f W1 hW1;have hs2:w.heap.size+2<=W1.heap.size:=ae
 have hbel:=hB;have S0:=(fB hbel RQ RR);clear hbel;clear hB RQ RR hz1;go_enter Tryz.func206,Tryz.ntmps206;obtain ⟨x0,x1,x2,x3,x4,x5⟩:=S0.o.2.1.facts;obtain ⟨aF,RQ,RR⟩:=S0.o;have HC:=hid (H1.o W1 aF);clear aF RQ RR
 go_upto_region 1 with fail
 rw [<-hW1];clear hW1;go_wp2_with fail;clear x0 x1 x2 x3 x4 x5;refine HC.o.mono ?_;rintro r u1 ⟨⟨v,rfl,hN⟩,hb⟩;obtain ⟨a1,c1,rfl,_⟩:=hN.arg ae;clear HC;obtain ⟨aF,RQ,RR⟩:=S0.o;have hbn:=aF.trans (hb.mono aF.size);have S1:=jK hbn (RQ.below hb) (RR.below hb) (hN.mono aF.size);clear aF RQ RR;clear hb hbn S0;clear hN;obtain ⟨U1,bq⟩:=ah (u1.alloc (.cells #[.bool n1,.slice a1 (ws X).length c1,.int .i64 e1] 62));obtain ⟨aF,RQ,RR,NX⟩:=S1.o;have mD:Below u1.heap.size u1 U1:=by rw [bq];exact af _ _
 have TN:Tk U1 u1.heap.size 62 (.bool n1) (.slice a1 (ws X).length c1) (.int .i64 e1):=by rw [bq];exact Tk.new _ _ _ _ _
 have hbn:=aF.trans (mD.mono aF.size);have hgu:w.heap.size+2<=u1.heap.size:=by have:=RR.lt;omega
 have S2:=gZ hbn (RQ.below mD) (RR.below mD) (NX.below mD) TN;obtain ⟨x0,x1,x2,x3,x4,x5⟩:=(RQ.below mD).facts;clear aF RQ RR NX;clear mD hbn TN S1 H1;obtain ⟨aF,RQ,RR,NX,TN⟩:=S2.o;have HC:=hid (H2.o U1 aF);clear aF RQ RR NX TN
 go_upto_region 4 with fail
 rw [<-bq];clear bq;go_wp2_with fail;clear x0 x1 x2 x3 x4 x5;refine HC.o.mono ?_;rintro r u3 ⟨⟨v,rfl,hN⟩,hb⟩;obtain ⟨a2,c2,rfl,_⟩:=hN.arg ae;clear HC;obtain ⟨aF,RQ,RR,NX,TN⟩:=S2.o;have hbn:=aF.trans (hb.mono aF.size);have S3:=gZ hbn (RQ.below hb) (RR.below hb) (NX.below hb) (TN.below hb);clear aF RQ RR NX TN;clear hb hbn S2;clear hN;obtain ⟨U3,Ff⟩:=ah (u3.alloc (.cells #[.bool m1,.slice a2 (ws Y).length c2,.int .i64 f1] 62));obtain ⟨aF,RQ,RR,NX,TN⟩:=S3.o;have mD:Below u3.heap.size u3 U3:=by rw [Ff];exact af _ _
 have hlast:=bB (aF.trans (mD.mono aF.size)) (RR.below mD);obtain ⟨r0,r1,r2,r3,r4,r5⟩:=(RR.below mD).facts;obtain ⟨fZ,gp,gy,V7,rf4,rf5⟩:=(RR.below mD).frz;clear aF RQ RR NX TN;clear S3 H2 mD
 go_upto_region 5 with fail
 rw [<-Ff];clear Ff;go_wp2;obtain ⟨aF,RR⟩:=hlast.o;exact aI (vU _ (w.heap.size+1) false (.slice none 0 0) 0 false (.slice none 0 0) 0 2 _ rfl rfl (RR.set _ _ _ _ _ _)) rfl ⟨⟨_,_,rfl,rfl,rfl⟩,rM aF aF.size ae _ _ _ _ _ _⟩
theorem XO:(Tryz.prog.info? 98).map (fun i=>(i.zero,i.size,i.bytes))=some (some (.agg #[.bool false,.slice none 0 0,.int .i64 0,.bool false,.slice none 0 0,.int .i64 0]),6,80):=by kernel_rfl
theorem zH (w:World) :
 (Instr.makeSlice 187 (.int .i64 1) (.int .i64 1)).run Tryz.prog w=.ok (.slice (some ⟨w.heap.size,0,none⟩) 1 1) (w.alloc (.cells #[.bool false,.slice none 0 0,.int .i64 0,.bool false,.slice none 0 0,.int .i64 0] 98)):=by
 have h:=XO;have e:IntKind.i64.wrap 1=1:=aO
 cases hq:Tryz.prog.info? 98 with
 | none=>rw [hq] at h;simp at h
 | some i =>
   rw [hq] at h;simp at h;simp [Instr.makeSlice,go_sem,Tryz.underlying187,hq,h,typeInfo,e]
structure Ri where
 n:Bool
 v:Value
 X:Nat
 e:Int
 m:Bool
 u:Value
 Y:Nat
 f:Int
def Av (w:World) (v:Value) (X:Nat):Prop:=∃ a l c xs,v=.slice a l c/\Arg w a l c xs/\val xs=X
theorem Av.below {w w':World}{v:Value}{X:Nat}(h:Av w v X) (hb:Below w.heap.size w w'):Av w' v X:=by
 obtain ⟨a,l,c,xs,rfl,hA,hv⟩:=h;exact ⟨a,l,c,xs,rfl,hA.below hb,hv⟩
theorem Nt.av {lo:Nat}{w:World}{v:Value}{X:Nat}(h:Nt lo w v X) (hs:(ws X).length<=35184372088832):Av w v X:=by
 obtain ⟨a,c,rfl,hA⟩:=h.arg hs;exact ⟨a,_,c,_,rfl,hA,ax X⟩
def zI (w:World) (g k:Nat) (I:Nat->Ri):Prop:=∃ cur:Array Value,w.heap[g]?=some (.cells cur 98 (0,0))/\∀ i,i<k->cur[i*6]?=some (.bool (I i).n)/\cur[i*6+1]?=some (I i).v/\cur[i*6+2]?=some (.int .i64 (I i).e)/\cur[i*6+3]?=some (.bool (I i).m)/\cur[i*6+4]?=some (I i).u/\cur[i*6+5]?=some (.int .i64 (I i).f)
theorem zI.lt {w:World}{g k:Nat}{I:Nat->Ri}(h:zI w g k I):g<w.heap.size:=by obtain ⟨c,h,_⟩:=h;exact (fJ.1 h).1
theorem zI.below {w w':World}{g k:Nat}{I:Nat->Ri}(h:zI w g k I) (hb:Below w.heap.size w w'):zI w' g k I:=by
 have hl:=h.lt;obtain ⟨c,h,r⟩:=h;exact ⟨c,by rw [hb.block g hl];exact h,r⟩
theorem zI.facts {w:World}{g k:Nat}{I:Nat->Ri}(h:zI w g k I) (i:Nat) (hi:i<k) :
 w.cell? ⟨g,i*6,none⟩=some (.bool (I i).n)/\w.cell? ⟨g,i*6+1,none⟩=some (I i).v/\w.cell? ⟨g,i*6+2,none⟩=some (.int .i64 (I i).e)/\w.cell? ⟨g,i*6+3,none⟩=some (.bool (I i).m)/\w.cell? ⟨g,i*6+4,none⟩=some (I i).u/\w.cell? ⟨g,i*6+5,none⟩=some (.int .i64 (I i).f):=by
 obtain ⟨c,h,r⟩:=h;obtain ⟨r0,r1,r2,r3,r4,r5⟩:=r i hi;simp [World.cell?,h,r0,r1,r2,r3,r4,r5]
def jZ (I:Nat->Ri) (k:Nat):Int :=
 if (List.range k).any (fun i=>decide (qN (I i).m (I i).Y<0)) then 1
 else if (List.range k).any (fun i=>!((mkS (I i).n (I i).X (I i).e).isSome&&(mkS (I i).m (I i).Y (I i).f).isSome)) then 2
 else if (List.range k).any (fun i=>decide (dX (mkS (I i).m (I i).Y (I i).f)=0)) then 21 else 0
theorem Fg {k i:Nat}{p:Nat->Bool}(hi:i<k) (h:p i=true):(List.range k).any p=true:=List.any_eq_true.2 ⟨i,List.mem_range.2 hi,h⟩
theorem rO {k:Nat}{p:Nat->Bool}(h:∀ i,i<k->p i=false):(List.range k).any p=false:=by
 rw [List.any_eq_false];intro i hi;rw [h i (List.mem_range.1 hi)];simp
structure XP (w:World) (g k:Nat) (I:Nat->Ri):Prop where
 row:zI w g k I
 one:∀ i,i<k->Av w (I i).v (I i).X/\Av w (I i).u (I i).Y
 pM:∀ i,i<k->-9223372036854775808<=(I i).e/\(I i).e<=9223372036854775807/\-9223372036854775808<=(I i).f/\(I i).f<=9223372036854775807
 tab:il w
theorem XP.below {w w':World}{g k:Nat}{I:Nat->Ri}(h:XP w g k I) (hb:Below w.heap.size w w'):XP w' g k I :=
 ⟨h.row.below hb,fun i hi=>⟨(h.one i hi).1.below hb,(h.one i hi).2.below hb⟩,h.pM,h.tab.belows hb⟩
def vV (I:Nat->Ri) (V:Nat->Value×Value) (i:Nat):Ri :=
 ⟨dN (mkS (I i).n (I i).X (I i).e),(V i).1,dX (mkS (I i).n (I i).X (I i).e),dE (mkS (I i).n (I i).X (I i).e),dN (mkS (I i).m (I i).Y (I i).f),(V i).2,dX (mkS (I i).m (I i).Y (I i).f),dE (mkS (I i).m (I i).Y (I i).f)⟩
structure KE (lo:Nat) (w:World) (g k:Nat) (I:Nat->Ri) (V:Nat->Value×Value):Prop where
 row:zI w g k (vV I V)
 own:lo<=g
 XQ:∀ i,i<k->Nt lo w (V i).1 (dX (mkS (I i).n (I i).X (I i).e))/\Nt lo w (V i).2 (dX (mkS (I i).m (I i).Y (I i).f))
theorem KE.below {lo:Nat}{w w':World}{g k:Nat}{I:Nat->Ri}{V:Nat->Value×Value}(h:KE lo w g k I V) (hb:Below w.heap.size w w'):KE lo w' g k I V :=
 ⟨h.row.below hb,h.own,fun i hi=>⟨(h.XQ i hi).1.below hb,(h.XQ i hi).2.below hb⟩⟩
abbrev OG (w:World) (g o:Nat) (a b c d e f:Value):World:=(((((w.setCell ⟨g,o,none⟩ a).setCell ⟨g,o+1,none⟩ b).setCell ⟨g,o+2,none⟩ c).setCell ⟨g,o+3,none⟩ d).setCell ⟨g,o+4,none⟩ e).setCell ⟨g,o+5,none⟩ f
theorem nM (g o:Nat) (w:World) (a b c d e f:Value):But g w (OG w g o a b c d e f):=((((((But.refl g w).set _ _).set _ _).set _ _).set _ _).set _ _).set _ _
theorem KF {w:World}{g T:Nat}{cur:Array Value}{fz:Nat×Nat}(h:w.heap[g]?=some (.cells cur T fz)) (o:Nat) (v:Value):(w.setCell ⟨g,o,none⟩ v).heap[g]?=some (.cells (cur.setIfInBounds o v) T fz):=by
 simp [World.setCell,jM,h]
theorem Fh {w:World}{g T:Nat}{cur:Array Value}{fz:Nat×Nat}(h:w.heap[g]?=some (.cells cur T fz)) (o:Nat) (a b c d e f:Value) (ho:o+5<cur.size) :
 ∃ cur',(OG w g o a b c d e f).heap[g]?=some (.cells cur' T fz)/\cur'.size=cur.size/\(cur'[o]?=some a/\cur'[o+1]?=some b/\cur'[o+2]?=some c/\cur'[o+3]?=some d/\cur'[o+4]?=some e/\cur'[o+5]?=some f)/\∀ j,(j<o\/o+5<j)->cur'[j]?=cur[j]?:=by
 refine ⟨_,KF (KF (KF (KF (KF (KF h o a) (o+1) b) (o+2) c) (o+3) d) (o+4) e) (o+5) f,aW,?_,?_⟩
 · simp [Array.getElem?_setIfInBounds];omega
 · intro j hj;have n0:o≠j:=ae
   have n1:o+1≠j:=ae
   have n2:o+2≠j:=ae
   have n3:o+3≠j:=ae
   have n4:o+4≠j:=ae
   have n5:o+5≠j:=ae
   simp [Array.getElem?_setIfInBounds,n0,n1,n2,n3,n4,n5]
structure kI (lo:Nat) (w:World) (g k i:Nat) (I:Nat->Ri) (V:Nat->Value×Value):Prop where
 row:∃ cur:Array Value,w.heap[g]?=some (.cells cur 98 (0,0))/\cur.size=6*k/\∀ j,j<i->cur[j*6]?=some (.bool (vV I V j).n)/\cur[j*6+1]?=some (vV I V j).v/\cur[j*6+2]?=some (.int .i64 (vV I V j).e)/\cur[j*6+3]?=some (.bool (vV I V j).m)/\cur[j*6+4]?=some (vV I V j).u/\cur[j*6+5]?=some (.int .i64 (vV I V j).f)
 own:lo<=g
 XQ:∀ j,j<i->Nt lo w (V j).1 (dX (mkS (I j).n (I j).X (I j).e))/\Nt lo w (V j).2 (dX (mkS (I j).m (I j).Y (I j).f))
theorem kI.lt {lo:Nat}{w:World}{g k i:Nat}{I:Nat->Ri}{V:Nat->Value×Value}(h:kI lo w g k i I V):g<w.heap.size:=by obtain ⟨c,h,_⟩:=h.row;exact (fJ.1 h).1
theorem kI.below {lo:Nat}{w w':World}{g k i:Nat}{I:Nat->Ri}{V:Nat->Value×Value}(h:kI lo w g k i I V) (hb:Below w.heap.size w w'):kI lo w' g k i I V:=by
 have hl:=h.lt;obtain ⟨⟨c,h1,r⟩,h2,h3⟩:=h;exact ⟨⟨c,by rw [hb.block g hl];exact h1,r⟩,h2,fun j hj=>⟨(h3 j hj).1.below hb,(h3 j hj).2.below hb⟩⟩
theorem kI.room {lo:Nat}{w:World}{g k i:Nat}{I:Nat->Ri}{V:Nat->Value×Value}(h:kI lo w g k i I V) (j:Nat) (hj:j<6*k):(∃ v,w.cell? ⟨g,j,none⟩=some v)/\w.frozen? ⟨g,j,none⟩=false:=by
 obtain ⟨⟨c,h1,hs,r⟩,h2,h3⟩:=h;refine ⟨⟨c[j]'(by omega),?_⟩,?_⟩
 · simp [World.cell?,h1]
 · simp [World.frozen?,h1]
theorem kI.o {lo:Nat}{w:World}{g k:Nat}{I:Nat->Ri}{V:Nat->Value×Value}(h:kI lo w g k k I V):KE lo w g k I V:=by
 obtain ⟨⟨c,h1,hs,r⟩,h2,h3⟩:=h;exact ⟨⟨c,h1,r⟩,h2,h3⟩
theorem kI.step {lo:Nat}{w:World}{g k i:Nat}{I:Nat->Ri}{V:Nat->Value×Value}(h:kI lo w g k i I V) (hi:i<k) (v u:Value)
 (hv:Nt lo w v (dX (mkS (I i).n (I i).X (I i).e))) (hu:Nt lo w u (dX (mkS (I i).m (I i).Y (I i).f))) :
 ∃ V',kI lo (OG w g (i*6) (.bool (dN (mkS (I i).n (I i).X (I i).e))) v (.int .i64 (dE (mkS (I i).n (I i).X (I i).e))) (.bool (dN (mkS (I i).m (I i).Y (I i).f))) u (.int .i64 (dE (mkS (I i).m (I i).Y (I i).f)))) g k (i+1) I V':=by
 obtain ⟨⟨c,h1,hs,r⟩,h2,h3⟩:=h;obtain ⟨c',k1,k2,k3,k4⟩:=Fh h1 (i*6) (.bool (dN (mkS (I i).n (I i).X (I i).e))) v (.int .i64 (dE (mkS (I i).n (I i).X (I i).e))) (.bool (dN (mkS (I i).m (I i).Y (I i).f))) u (.int .i64 (dE (mkS (I i).m (I i).Y (I i).f))) ae;refine ⟨fun j=>if j=i then (v,u) else V j,⟨c',k1,ae,fun j hj=>?_⟩,h2,fun j hj=>?_⟩
 · by_cases e:j=i
   · subst e;simp only [vV,if_true];exact k3
   · have:=r j ae;rw [k4 _ ae,k4 _ ae,k4 _ ae,k4 _ ae,k4 _ ae,k4 _ ae];simp only [vV,if_neg e] at this |-;exact this
 · by_cases e:j=i
   · subst e;simp only [if_true];exact ⟨hv.off (nM _ _ _ _ _ _ _ _ _) (hv.bU aO h1),hu.off (nM _ _ _ _ _ _ _ _ _) (hu.bU aO h1)⟩
   · simp only [if_neg e];obtain ⟨q1,q2⟩:=h3 j ae;exact ⟨q1.off (nM _ _ _ _ _ _ _ _ _) (q1.bU aO h1),q2.off (nM _ _ _ _ _ _ _ _ _) (q2.bU aO h1)⟩
theorem XR {w:World}{n:Bool}{v:Value}{X:Nat}{e:Int}(h:Av w v X):Calls Tryz.prog 58 #[.agg #[.bool n,v,.int .i64 e]] w fun r w'=>r=.returned (.int .i64 (qN n X))/\Below w.heap.size w w':=by
 obtain ⟨a,l,c,xs,rfl,hA,rfl⟩:=h;exact yh hA n e
theorem XT {w:World}{r:Ri}(h1:Av w r.v r.X) (h2:Av w r.u r.Y) (hT:il w) (b0:-9223372036854775808<=r.e) (b1:r.e<=9223372036854775807) (b2:-9223372036854775808<=r.f) (b3:r.f<=9223372036854775807) :
 Calls Tryz.prog 206 #[.agg #[.bool r.n,r.v,.int .i64 r.e,.bool r.m,r.u,.int .i64 r.f]] w fun q w' =>
  (((mkS r.n r.X r.e).isSome&&(mkS r.m r.Y r.f).isSome)=true->∃ v u,q=.returned (.tuple #[.agg #[.bool (dN (mkS r.n r.X r.e)),v,.int .i64 (dE (mkS r.n r.X r.e)),.bool (dN (mkS r.m r.Y r.f)),u,.int .i64 (dE (mkS r.m r.Y r.f))],.int .i64 0])/\Nt w.heap.size w' v (dX (mkS r.n r.X r.e))/\Nt w.heap.size w' u (dX (mkS r.m r.Y r.f))/\Ap v u) /\
  (((mkS r.n r.X r.e).isSome&&(mkS r.m r.Y r.f).isSome)=false->q=.returned (.tuple #[.agg #[.bool false,.slice none 0 0,.int .i64 0,.bool false,.slice none 0 0,.int .i64 0],.int .i64 2]))/\Below w.heap.size w w':=by
 obtain ⟨n,v,X,e,m,u,Y,f⟩:=r;simp only at *;obtain ⟨a,l,c,xs,rfl,hA,rfl⟩:=h1;obtain ⟨b,k,d,ys,rfl,hB,rfl⟩:=h2;have l1:=aS n (val xs) e;have l2:=aS m (val ys) f;have H1:∀ u,Below w.heap.size w u->Calls Tryz.prog 86 #[.bool n,.slice a l c,.int .i64 e] u fun r w'=>di u.heap.size w' r (mkS n (val xs) e)/\Below u.heap.size u w':=fun u hu=>fP (hA.below hu) (hT.belows hu) n e b0 b1;have H2:∀ u,Below w.heap.size w u->Calls Tryz.prog 86 #[.bool m,.slice b k d,.int .i64 f] u fun r w'=>di u.heap.size w' r (mkS m (val ys) f)/\Below u.heap.size u w':=fun u hu=>fP (hB.below hu) (hT.belows hu) m f b2 b3;simp only [di] at H1 H2;generalize mkS n (val xs) e=o at *;generalize mkS m (val ys) f=p at *
 cases ho:o.isSome with
 | false =>
   have he:uw o=2:=by unfold uw;rw [ho];rfl
   rw [he] at H1;refine (Kz n m e f (dN o) false (dX o) 0 (dE o) 0 l1 (by rw [ws0];omega) H1).mono ?_;rintro r w' ⟨⟨v,u,h,rfl,rfl⟩,hb⟩;exact ⟨fun hh=>(by cases hh),fun _=>h,hb⟩
 | true =>
   have he:uw o=0:=by unfold uw;rw [ho];rfl
   rw [he] at H1
   cases hp:p.isSome with
   | false =>
     have he:uw p=2:=by unfold uw;rw [hp];rfl
     rw [he] at H2;refine (KA n m e f (dN o) (dN p) (dX o) (dX p) (dE o) (dE p) l1 l2 H1 H2).mono ?_;rintro r w' ⟨⟨v,u,h,rfl,rfl⟩,hb⟩;exact ⟨fun hh=>(by cases hh),fun _=>h,hb⟩
   | true =>
     have he:uw p=0:=by unfold uw;rw [hp];rfl
     rw [he] at H2;refine (Rh n m e f (dN o) (dN p) (dX o) (dX p) (dE o) (dE p) l1 l2 H1 H2).mono ?_;rintro r w' ⟨⟨v,u,h,hN,hM,hap⟩,hb⟩;exact ⟨fun _=>⟨v,u,h,hN,hM,hap⟩,fun hh=>(by cases hh),hb⟩
theorem UE (w:World) (g:Nat) (I:Nat->Ri) (h:XP w g 1 I) :
 Calls Tryz.prog 162 #[.slice (some ⟨g,0,none⟩) 1 1] w fun r w' =>
  ((jZ I 1≠0/\r=.returned (.tuple #[.slice none 0 0,.int .i64 (jZ I 1)])) \/
   (jZ I 1=0/\∃ g' V,r=.returned (.tuple #[.slice (some ⟨g',0,none⟩) 1 1,.int .i64 0])/\KE w.heap.size w' g' 1 I V))/\Below w.heap.size w w':=by
 have MK:=zH;have hH:=ay h;clear h;go_enter Tryz.func162,Tryz.ntmps162;go_wp2_with fail
 go_loopg [15] 1 (fun gk iv wr=>∃ i:Nat,gk+i=1/\iv=.int .i64 (i:Nat)/\Aside (Below w.heap.size w wr/\∀ j,j<i->decide (qN (I j).m (I j).Y<0)=false))
 case atStart=>exact ⟨0,ae,rfl,ak _ _,fun j hj=>by omega⟩
 case round =>
  obtain ⟨i,hgi,rfl,HR⟩:=hrel
  by_cases hi:i<1
  · have hin:=hH.o.below HR.o.1;obtain ⟨g0,g1,g2,g3,g4,g5⟩:=hin.row.facts i hi;obtain ⟨A1,A2⟩:=hin.one i hi;obtain ⟨n,v,X,e,m,u,Y,f,hI⟩:∃ n v X e m u Y f,I i=⟨n,v,X,e,m,u,Y,f⟩:=⟨_,_,_,_,_,_,_,_,rfl⟩;rw [hI] at g0 g1 g2 g3 g4 g5 A1 A2;simp only at g0 g1 g2 g3 g4 g5 A1 A2;obtain ⟨a1,l1,c1,xs,rfl,-,-⟩:=id A1;obtain ⟨a2,l2,c2,ys,rfl,-,-⟩:=id A2;obtain ⟨U,hU⟩:=ah (wr.alloc (.cells #[.bool n,.slice a1 l1 c1,.int .i64 e,.bool m,.slice a2 l2 c2,.int .i64 f] 98));have jS:Below wr.heap.size wr U:=by rw [hU];exact af _ _
    have RQ:Rq U wr.heap.size n (.slice a1 l1 c1) e m (.slice a2 l2 c2) f:=by rw [hU];exact Rq.new _ _ _ _ _ _ _
    obtain ⟨x0,x1,x2,x3,x4,x5⟩:=RQ.facts;have HC:=hid (XR (n:=m) (e:=f) (A2.below jS));obtain ⟨s,hs⟩:∃ s,qN m Y=s:=⟨_,rfl⟩;rw [hs] at HC;have SI:=(gZ (HR.o.1.trans (jS.mono HR.o.1.size)) HR.o.2 hI hs hi);clear jS RQ A1 A2 hin HR hI hs;have hli:(i:Int)<1:=ae
    have hl0:(0:Int)<=(i:Int):=ae
    go_upto_region 4 with fail
    rw [<-hU];clear hU g0 g1 g2 g3 g4 g5;go_wp2_with fail;clear x0 x1 x2 x3 x4 x5;refine HC.o.mono ?_;rintro r u1 ⟨rfl,hb⟩;have S2:=ay (SI.o.1.trans (hb.mono SI.o.1.size));clear hb HC
    by_cases hneg:s<0
    · have hn:=decide_eq_true hneg;go_wp2_with fail
      go_ret2
      obtain ⟨_,hbef,hI,hs,hi⟩:=SI.o
      have hE:jZ I 1=1:=by
       unfold jZ;rw [if_pos (Fg hi (by rw [hI];simp only;rw [hs];exact decide_eq_true hneg))]
      rw [hE];exact ⟨.inl ⟨aO,rfl⟩,S2.o⟩
    · have hn:decide (s<0)=false:=decide_eq_false ae;go_wp2_with fail;go_roundg (1-(i+1))
      case measure=>omega
      case rel =>
       obtain ⟨_,hbef,hI,hs,hi⟩:=SI.o;refine ⟨i+1,ae,by go_num,S2.o,fun j hj=>?_⟩
       by_cases hji:j=i
       · subst hji;rw [hI];simp only;rw [hs];exact decide_eq_false ae
       · exact hbef j ae
  · obtain rfl:i=1:=ae
    obtain ⟨M,hM⟩:=ah (wr.alloc (.cells #[.bool false,.slice none 0 0,.int .i64 0,.bool false,.slice none 0 0,.int .i64 0] 98));have hbM:Below wr.heap.size wr M:=by rw [hM];exact af _ _
    have hpM:kI w.heap.size M wr.heap.size 1 0 I (fun _=>(.slice none 0 0,.slice none 0 0)):=by
     rw [hM];exact ⟨⟨_,iJ _ _,rfl,fun j hj=>by omega⟩,HR.o.1.size,fun j hj=>by omega⟩
    have S1:=(fB HR.o.2 hpM (HR.o.1.trans (hbM.mono HR.o.1.size)));obtain ⟨gO,hgO⟩:=ah (wr.heap.size);clear HR hbM hpM hi hgi
    go_upto_region 9 with fail
    rw [<-hM];rw [<-hgO] at S1 |-;clear hM hgO
    go_loopg [29] 1 (fun gk iv wr=>∃ i:Nat,gk+i=1/\iv=.int .i64 (i:Nat)/\Aside (Below w.heap.size w wr/\(∀ j,j<i->((mkS (I j).n (I j).X (I j).e).isSome&&(mkS (I j).m (I j).Y (I j).f).isSome)=true)/\∃ V,kI w.heap.size wr gO 1 i I V))
    case atStart=>exact ⟨0,ae,rfl,S1.o.r2,fun j hj=>by omega,_,S1.o.2.1⟩
    case round =>
     obtain ⟨i,hgi,rfl,HR⟩:=hrel;have SS:=ay S1.o.1;clear S1
     by_cases hi:i<1
     · obtain ⟨aF,hbef,V,hP⟩:=HR.o;have hin:=hH.o.below aF;obtain ⟨g0,g1,g2,g3,g4,g5⟩:=hin.row.facts i hi;obtain ⟨A1,A2⟩:=hin.one i hi;obtain ⟨b0,b1,b2,b3⟩:=hin.pM i hi;have Zq:=fun (u:World) (hb:Below wr.heap.size wr u)=>XT (r:=I i) (A1.below hb) (A2.below hb) ((hin.below hb).tab) b0 b1 b2 b3;obtain ⟨n,v,X,e,m,u,Y,f,hI⟩:∃ n v X e m u Y f,I i=⟨n,v,X,e,m,u,Y,f⟩:=⟨_,_,_,_,_,_,_,_,rfl⟩;rw [hI] at g0 g1 g2 g3 g4 g5 A1 A2 Zq;simp only at g0 g1 g2 g3 g4 g5 A1 A2 Zq;obtain ⟨a1,l1,c1,xs,rfl,-,-⟩:=id A1;obtain ⟨a2,l2,c2,ys,rfl,-,-⟩:=id A2;obtain ⟨U,hU⟩:=ah (wr.alloc (.cells #[.bool n,.slice a1 l1 c1,.int .i64 e,.bool m,.slice a2 l2 c2,.int .i64 f] 98));have jS:Below wr.heap.size wr U:=by rw [hU];exact af _ _
       have RQ:Rq U wr.heap.size n (.slice a1 l1 c1) e m (.slice a2 l2 c2) f:=by rw [hU];exact Rq.new _ _ _ _ _ _ _
       obtain ⟨x0,x1,x2,x3,x4,x5⟩:=RQ.facts;have HC:=hid (Zq U jS);have lo1:=aS n X e;have lo2:=aS m Y f;obtain ⟨o,ho⟩:∃ o,mkS n X e=o:=⟨_,rfl⟩;obtain ⟨p,hp⟩:∃ p,mkS m Y f=p:=⟨_,rfl⟩;rw [ho,hp] at HC;rw [ho] at lo1;rw [hp] at lo2;have SI:=(rZ (aF.trans (jS.mono aF.size)) hbef hI ho hp hi (hP.below jS));clear jS RQ A1 A2 hin HR hI ho hp aF hbef hP Zq b0 b1 b2 b3;have hli:(i:Int)<1:=ae
       have hl0:(0:Int)<=(i:Int):=ae
       go_upto_region 11 with fail
       rw [<-hU];clear hU g0 g1 g2 g3 g4 g5;go_wp2_with fail;clear x0 x1 x2 x3 x4 x5;refine HC.o.mono ?_;rintro r u1 ⟨h1,h2,hb⟩;clear HC
       cases hok:(o.isSome&&p.isSome) with
       | false =>
         obtain rfl:=h2 hok;have S2:=ay (SI.o.1.trans (hb.mono SI.o.1.size));clear h1 h2 hb;go_wp2_with fail
         go_ret2
         obtain ⟨_,hbef,hI,ho,hp,hi,_⟩:=SI.o
         have hE:jZ I 1=2:=by
          unfold jZ;rw [rO (p:=fun i=>decide (qN (I i).m (I i).Y<0)) SS.o,if_neg xB,if_pos (Fg hi (by rw [hI];simp only;rw [ho,hp,hok];rfl))]
         rw [hE];exact ⟨.inl ⟨aO,rfl⟩,S2.o.alloc S2.o.size _⟩
       | true =>
         obtain ⟨v1,v2,rfl,hN,hM2,-⟩:=h1 hok;obtain ⟨p1,q1,rfl,_⟩:=hN.arg ae;obtain ⟨p2,q2,rfl,_⟩:=hM2.arg ae;obtain ⟨U2,dR⟩:=ah (u1.alloc (.cells #[.bool (dN o),.slice p1 (ws (dX o)).length q1,.int .i64 (dE o),.bool (dN p),.slice p2 (ws (dX p)).length q2,.int .i64 (dE p)] 98));have jS:Below u1.heap.size u1 U2:=by rw [dR];exact af _ _
         have RQ:Rq U2 u1.heap.size (dN o) (.slice p1 (ws (dX o)).length q1) (dE o) (dN p) (.slice p2 (ws (dX p)).length q2) (dE p):=by rw [dR];exact Rq.new _ _ _ _ _ _ _
         obtain ⟨x0,x1,x2,x3,x4,x5⟩:=RQ.facts;have hP2:=(SI.o.r6.below hb).below jS;have hb2:=(SI.o.1.trans (hb.mono SI.o.1.size)).trans (jS.mono (dD SI.o.1.size hb.size));obtain ⟨⟨y0,r0⟩,f0⟩:=hP2.room (i*6) ae;obtain ⟨⟨y1,r1⟩,f1⟩:=hP2.room (i*6+1) ae;obtain ⟨⟨y2,r2⟩,f2⟩:=hP2.room (i*6+2) ae;obtain ⟨⟨y3,r3⟩,f3⟩:=hP2.room (i*6+3) ae;obtain ⟨⟨y4,r4⟩,f4⟩:=hP2.room (i*6+4) ae;obtain ⟨⟨y5,r5⟩,f5⟩:=hP2.room (i*6+5) ae;obtain ⟨W',hW'⟩:∃ W',W'=OG U2 gO (i*6) (.bool (dN o)) (.slice p1 (ws (dX o)).length q1) (.int .i64 (dE o)) (.bool (dN p)) (.slice p2 (ws (dX p)).length q2) (.int .i64 (dE p)):=⟨_,rfl⟩
         have S3:Aside (Below w.heap.size w W'/\(∀ j,j<i+1->((mkS (I j).n (I j).X (I j).e).isSome&&(mkS (I j).m (I j).Y (I j).f).isSome)=true)/\∃ V,kI w.heap.size W' gO 1 (i+1) I V):=by
          obtain ⟨_,hbef,hI,ho,hp,hi,_⟩:=SI.o;refine ⟨?_,?_,?_⟩
          · rw [hW'];exact But.below hb2 (nM _ _ _ _ _ _ _ _ _) hb2.size hP2.own
          · intro j hj
            by_cases e:j=i
            · subst e;rw [hI];simp only;rw [ho,hp,hok]
            · exact hbef j ae
          · have hsz:=SI.o.1.size;have:=hP2.step hi (.slice p1 (ws (dX o)).length q1) (.slice p2 (ws (dX p)).length q2) (by rw [hI];simp only;rw [ho];exact (hN.below jS).mono hsz) (by rw [hI];simp only;rw [hp];exact (hM2.below jS).mono hsz);rw [hI] at this;simp only at this;rw [ho,hp,<-hW'] at this;exact this
         have neq:u1.heap.size≠gO:=by have:=(SI.o.r6.below hb).lt;omega
         clear h1 h2 hb hN hM2 jS RQ hP2 hb2 SI
         go_upto_region 12 with fail
         rw [<-dR];clear dR;go_wp2_with fail;unfold OG at hW';go_roundg (1-(i+1))
         case measure=>omega
         case rel =>
          refine ⟨i+1,ae,by go_num,?_⟩
          first | rw [<-hW'] | (rw [hW'] at S3)
          exact S3
     · obtain rfl:i=1:=ae
       obtain ⟨aF,hbef,V,hP⟩:=HR.o;have hO:=hP.o;have S2:=(fB aF hbef hO);have hi0:wr=wr:=rfl;clear HR aF hbef hP hO hi hgi
       go_upto_region 17 with fail
       go_loopg [49] 1 (fun gk iv wr=>∃ i:Nat,gk+i=1/\iv=.int .i64 (i:Nat)/\Aside (Below w.heap.size w wr/\(∀ j,j<i->decide (dX (mkS (I j).m (I j).Y (I j).f)=0)=false)/\KE w.heap.size wr gO 1 I V))
       case atStart=>exact ⟨0,ae,rfl,S2.o.1,fun j hj=>by omega,S2.o.r2⟩
       case round =>
        obtain ⟨i,hgi,rfl,HR⟩:=hrel;have SS2:=ay S2.o.2.1;clear S2
        by_cases hi:i<1
        · obtain ⟨aF,hbef,hO⟩:=HR.o;obtain ⟨g0,g1,g2,g3,g4,g5⟩:=hO.row.facts i hi;obtain ⟨A1,A2⟩:=hO.XQ i hi;have lo1:=aS (I i).n (I i).X (I i).e;have lo2:=aS (I i).m (I i).Y (I i).f;unfold vV at g0 g1 g2 g3 g4 g5;simp only at g0 g1 g2 g3 g4 g5;obtain ⟨o,ho⟩:∃ o,mkS (I i).n (I i).X (I i).e=o:=⟨_,rfl⟩;obtain ⟨p,hp⟩:∃ p,mkS (I i).m (I i).Y (I i).f=p:=⟨_,rfl⟩;rw [ho] at g0 g2 A1 lo1;rw [hp] at g3 g5 A2 lo2;obtain ⟨v1,hv1⟩:∃ v1,(V i).1=v1:=⟨_,rfl⟩;obtain ⟨v2,hv2⟩:∃ v2,(V i).2=v2:=⟨_,rfl⟩;rw [hv1] at g1 A1;rw [hv2] at g4 A2;obtain ⟨p1,q1,rfl,_⟩:=A1.arg ae;obtain ⟨p2,q2,rfl,_⟩:=A2.arg ae;obtain ⟨U,hU⟩:=ah (wr.alloc (.cells #[.bool (dN o),.slice p1 (ws (dX o)).length q1,.int .i64 (dE o),.bool (dN p),.slice p2 (ws (dX p)).length q2,.int .i64 (dE p)] 98));have jS:Below wr.heap.size wr U:=by rw [hU];exact af _ _
          have RQ:Rq U wr.heap.size (dN o) (.slice p1 (ws (dX o)).length q1) (dE o) (dN p) (.slice p2 (ws (dX p)).length q2) (dE p):=by rw [hU];exact Rq.new _ _ _ _ _ _ _
          obtain ⟨x0,x1,x2,x3,x4,x5⟩:=RQ.facts;have HC:=hid (XR (n:=dN p) (e:=dE p) ((A2.below jS).av ae));obtain ⟨s,hs⟩:∃ s,qN (dN p) (dX p)=s:=⟨_,rfl⟩;rw [hs] at HC;have SI:=(jE (aF.trans (jS.mono aF.size)) hbef hp hs hi (hO.below jS));clear jS RQ A1 A2 HR ho hp hv1 hv2 hs aF hbef hO;have hli:(i:Int)<1:=ae
          have hl0:(0:Int)<=(i:Int):=ae
          go_upto_region 19 with fail
          rw [<-hU];clear hU g0 g1 g2 g3 g4 g5;go_wp2_with fail;clear x0 x1 x2 x3 x4 x5;refine HC.o.mono ?_;rintro r u1 ⟨rfl,hb⟩;have S2:=(bB (SI.o.1.trans (hb.mono SI.o.1.size)) (SI.o.r5.below hb));clear hb HC
          by_cases hz:s=0
          · have hn:(s==0)=true:=by simp [hz]
            have hsz:=SI;clear SI;go_wp2_with fail
            go_ret2
            obtain ⟨_,hbef,hp,hs,hi,_⟩:=hsz.o
            have hE:jZ I 1=21:=by
             unfold jZ;rw [rO (p:=fun i=>decide (qN (I i).m (I i).Y<0)) SS.o,if_neg xB,rO (p:=fun i=>!((mkS (I i).n (I i).X (I i).e).isSome&&(mkS (I i).m (I i).Y (I i).f).isSome)) (fun j hj=>by rw [SS2.o j hj];rfl),if_neg xB,if_pos (Fg hi (by simp only [hp];exact decide_eq_true (yj.1 (hs.trans hz))))]
            rw [hE];exact ⟨.inl ⟨aO,rfl⟩,S2.o.1⟩
          · have hn:(s==0)=false:=by simp [hz]
            go_wp2_with fail;go_roundg (1-(i+1))
            case measure=>omega
            case rel =>
             obtain ⟨_,hbef,hp,hs,hi,_⟩:=SI.o;refine ⟨i+1,ae,by go_num,S2.o.1,fun j hj=>?_,S2.o.2⟩
             by_cases hji:j=i
             · subst hji;rw [hp];exact decide_eq_false (fun h0=>hz (hs.symm.trans (yj.2 h0)))
             · exact hbef j ae
        · obtain rfl:i=1:=ae
          have S3:=HR;clear HR hi hgi;go_wp2_with fail
          go_ret2
          have hE:jZ I 1=0:=by
           unfold jZ;rw [rO (p:=fun i=>decide (qN (I i).m (I i).Y<0)) SS.o,if_neg xB,rO (p:=fun i=>!((mkS (I i).n (I i).X (I i).e).isSome&&(mkS (I i).m (I i).Y (I i).f).isSome)) (fun j hj=>by rw [SS2.o j hj];rfl),if_neg xB,rO (p:=fun i=>decide (dX (mkS (I i).m (I i).Y (I i).f)=0)) S3.o.2.1,if_neg xB]
          exact ⟨.inr ⟨hE,gO,V,rfl,S3.o.r2⟩,S3.o.1⟩
theorem Tn {I:Nat->Ri}{k:Nat}(h:jZ I k=0) (i:Nat) (hi:i<k):¬ qN (I i).m (I i).Y<0/\(mkS (I i).n (I i).X (I i).e).isSome=true/\(mkS (I i).m (I i).Y (I i).f).isSome=true/\dX (mkS (I i).m (I i).Y (I i).f)≠0:=by
 unfold jZ at h
 split at h
 · omega
 · rename_i h1
   split at h
   · omega
   · rename_i h2
     split at h
     · omega
     · rename_i h3;simp only [Bool.not_eq_true,List.any_eq_false,List.mem_range] at h1 h2 h3;have k1:=h1 i hi;have k2:=h2 i hi;have k3:=h3 i hi;simp at k1 k2 k3;exact ⟨ae,k2.1,k2.2,k3⟩
theorem Fj {n:Bool}{X:Nat}{e:Int}{o:Option (Bool×Nat×Int)}(h:mkS n X e=o) (hs:o.isSome=true):mkS (dN o) (dX o) (dE o)=o:=by
 cases o with
 | none=>cases hs
 | some d =>
   obtain ⟨n1,X1,e1⟩:=d;exact (cu h).self
theorem Rj {n:Bool}{X:Nat}{e:Int}{o:Option (Bool×Nat×Int)}(h:mkS n X e=o):-1048576<=dE o/\dE o<=1048576:=by
 cases o with
 | none=>exact ⟨aO,aO⟩
 | some d =>
   obtain ⟨n1,X1,e1⟩:=d;have:=cu h;exact ⟨this.down,this.up⟩
structure Rv (w:World) (r:Ri):Prop where
 num:Av w r.v r.X
 den:Av w r.u r.Y
 be:-9223372036854775808<=r.e/\r.e<=9223372036854775807
 bf:-9223372036854775808<=r.f/\r.f<=9223372036854775807
theorem Rv.below {w w':World}{r:Ri}(h:Rv w r) (hb:Below w.heap.size w w'):Rv w' r:=⟨h.num.below hb,h.den.below hb,h.be,h.bf⟩
theorem rin1 (W:World) (r:Ri) (hr:Rv W r) (hT:il W) (R:World) (hR:R=W.alloc (.cells #[.bool r.n,r.v,.int .i64 r.e,.bool r.m,r.u,.int .i64 r.f] 98)):XP R W.heap.size 1 (fun _=>r):=by
 have hb:Below W.heap.size W R:=by rw [hR];exact af _ _
 refine ⟨⟨_,by rw [hR];exact iJ _ _,?_⟩,fun i hi=>⟨hr.num.below hb,hr.den.below hb⟩,fun i hi=>⟨hr.be.1,hr.be.2,hr.bf.1,hr.bf.2⟩,hT.belows hb⟩;intro i hi;obtain rfl:i=0:=ae
 simp
theorem yu (w:World) (n:Bool) (v:Value) (e:Int) (m:Bool) (u:Value) (f:Int) (W:World) (hW:W=w.alloc (.cells #[.bool n,v,.int .i64 e,.bool m,u,.int .i64 f] 98)) :
 Below w.heap.size w W/\W.heap.size=w.heap.size+1/\Rq W w.heap.size n v e m u f:=by
 rw [hW];exact ⟨af w _,aW,Rq.new _ _ _ _ _ _ _⟩
theorem pO {w:World}{n m:Bool}{a b:Option Addr}{la ca lb cb:Nat}{X Y:Nat}{e f:Int}(mode:Int) (hr:Rv w ⟨n,.slice a la ca,X,e,m,.slice b lb cb,Y,f⟩) (hT:il w)
 (o1 o2 z:Option (Bool×Nat×Int)) (ew:Int) (rw':Nat×Int) (ho1:mkS n X e=o1) (ho2:mkS m Y f=o2) (lz:(ws (dX z)).length<=8192) (hew:ew≠0->rw'.1=0/\rw'.2=ew)
 (ANS:Nat×Int) (hANS:ANS=if mode<0\/4<mode then (0,1) else if jZ (fun _=>(⟨n,.slice a la ca,X,e,m,.slice b lb cb,Y,f⟩:Ri)) 1=0 then rw' else (0,jZ (fun _=>(⟨n,.slice a la ca,X,e,m,.slice b lb cb,Y,f⟩:Ri)) 1))
 (HW:Hid (∀ (u:World) (p q:Value),Below w.heap.size w u->Nt w.heap.size u p (dX o1)->Nt w.heap.size u q (dX o2)->jZ (fun _=>(⟨n,.slice a la ca,X,e,m,.slice b lb cb,Y,f⟩:Ri)) 1=0->Calls Tryz.prog 114 #[.agg #[.bool (dN o1),p,.int .i64 (dE o1),.bool (dN o2),q,.int .i64 (dE o2)]] u fun r w'=>(∃ v,r=.returned (.tuple #[.agg #[.bool (dN z),v,.int .i64 (dE z)],.int .i64 ew])/\Nt u.heap.size w' v (dX z))/\Below u.heap.size u w'))
 (HR:Hid (∀ (u:World) (p:Option Addr) (q:Nat),ew=0->¬ (mode<0\/4<mode)->jZ (fun _=>(⟨n,.slice a la ca,X,e,m,.slice b lb cb,Y,f⟩:Ri)) 1=0->Below w.heap.size w u->Arg u p (ws (dX z)).length q (ws (dX z))->Calls Tryz.prog 70 #[.agg #[.bool (dN z),.slice p (ws (dX z)).length q,.int .i64 (dE z)],.int .i64 mode] u fun r w'=>r=.returned (.tuple #[.float .f64 rw'.1,.int .i64 rw'.2])/\Below u.heap.size u w')) :
 Calls Tryz.prog 113 #[.agg #[.bool n,.slice a la ca,.int .i64 e,.bool m,.slice b lb cb,.int .i64 f],.int .i64 mode,.func (.func 114) #[] #[],.func (.func 70) #[] #[]] w fun r w'=>r=.returned (.tuple #[.float .f64 ANS.1,.int .i64 ANS.2])/\Below w.heap.size w w':=by
 obtain ⟨W1,hW1⟩:=ah (w.alloc (.cells #[.bool n,.slice a la ca,.int .i64 e,.bool m,.slice b lb cb,.int .i64 f] 98));obtain ⟨hB,hz1,Q1⟩:=yu w n _ e m _ f W1 hW1
 by_cases hm:mode<0\/4<mode
 · rw [if_pos hm] at hANS;subst hANS;have S0:=ay hB;clear hB hz1 Q1 HW HR hr hT
   by_cases hm0:mode<0
   · have d1:=decide_eq_true hm0;go_enter Tryz.func113,Tryz.ntmps113
     go_upto_region 1 with fail
     rw [<-hW1];clear hW1;go_wp2
     go_ret2
     exact ⟨rfl,S0.o⟩
   · have d1:=decide_eq_false hm0;have tV:4<mode:=ae
     have d2:=decide_eq_true tV;clear hm;go_enter Tryz.func113,Tryz.ntmps113
     go_upto_region 1 with fail
     rw [<-hW1];clear hW1;go_wp2
     go_ret2
     exact ⟨rfl,S0.o⟩
 · rw [if_neg hm] at hANS;obtain ⟨R,hR⟩:=ah (W1.alloc (.cells #[.bool n,.slice a la ca,.int .i64 e,.bool m,.slice b lb cb,.int .i64 f] 98));have hin:=rin1 W1 _ (hr.below hB) (hT.belows hB) R hR;have hbR:Below W1.heap.size W1 R:=by rw [hR];exact af _ _
   have HF:=hid (UE R W1.heap.size _ hin);obtain ⟨I,hI⟩:∃ I:Nat->Ri,(fun _=>(⟨n,.slice a la ca,X,e,m,.slice b lb cb,Y,f⟩:Ri))=I:=⟨_,rfl⟩;rw [hI] at HF hANS HW HR;obtain ⟨x0,x1,x2,x3,x4,x5⟩:=Q1.facts;have Zr:=ay hANS;have S0:=(jK (hB.trans (hbR.mono hB.size)) hI ho1 ho2);have d1:decide (mode<0)=false:=decide_eq_false (fun h=>hm (.inl h));have d2:decide (4<mode)=false:=decide_eq_false (fun h=>hm (.inr h));have HM:=ay hm;obtain ⟨g12,XU⟩:∃ g,W1.heap.size=g:=⟨_,rfl⟩;rw [XU] at HF;clear hB hz1 Q1 hin hbR hr hT hANS hI ho1 ho2 hm;go_enter Tryz.func113,Tryz.ntmps113
   go_upto_region 1 with fail
   rw [<-hW1];clear hW1;go_wp2_with fail;rw [<-hR];clear hR XU x0 x1 x2 x3 x4 x5;refine HF.o.mono ?_;rintro r u1 ⟨hor,hb⟩;clear HF;obtain ⟨aF,hI,ho1,ho2⟩:=S0.o;have S1:=ay (aF.trans (hb.mono aF.size));rcases hor with ⟨hne,rfl⟩|⟨h0,g',V,rfl,hO⟩
   · have HA2:=Zr.o;rw [if_neg hne] at HA2;obtain ⟨er,her⟩:∃ er,jZ I 1=er:=⟨_,rfl⟩;rw [her] at hne HA2 |-;have HA3:=ay HA2;have hnb:(er==0)=false:=by simp [hne]
     clear Zr HA2 her hne aF hb hI ho1 ho2 S0 HW HR;go_wp2
     go_ret2
     rw [HA3.o];exact ⟨rfl,S1.o⟩
   · have HA2:=Zr.o;rw [if_pos h0] at HA2;obtain ⟨q0,q1,q2,q3,q4,q5⟩:=hO.row.facts 0 ae;obtain ⟨N1,N2⟩:=hO.XQ 0 ae;simp only [dZ,dI] at q0 q1 q2 q3 q4 q5;unfold vV at q0 q1 q2 q3 q4 q5;have e0:I 0=⟨n,.slice a la ca,X,e,m,.slice b lb cb,Y,f⟩:=by rw [<-hI]
     rw [e0] at N1 N2;simp only [e0] at q0 q1 q2 q3 q4 q5 N1 N2;have m1:=aS n X e;have m2:=aS m Y f;rw [ho1] at q0 q2 N1 m1;rw [ho2] at q3 q5 N2 m2;obtain ⟨v1,hv1⟩:∃ v1,(V 0).1=v1:=⟨_,rfl⟩;obtain ⟨v2,hv2⟩:∃ v1,(V 0).2=v1:=⟨_,rfl⟩;rw [hv1] at q1 N1;rw [hv2] at q4 N2;obtain ⟨a1,c1,rfl,_⟩:=N1.arg ae;obtain ⟨a2,c2,rfl,_⟩:=N2.arg ae;have HC:=hid (HW.o u1 _ _ (aF.trans (hb.mono aF.size)) (N1.mono (by have:=aF.size;omega)) (N2.mono (by have:=aF.size;omega)) h0);have S2:=(bB h0 HA2);clear Zr HA2 aF hb hI ho1 ho2 S0 hO N1 N2 HW h0 hv1 hv2 e0;go_wp2_with fail;clear q0 q1 q2 q3 q4 q5;refine HC.o.mono ?_;rintro r u2 ⟨⟨v,rfl,NZ⟩,hb⟩;obtain ⟨az,cz,rfl,_⟩:=NZ.arg ae;clear HC;obtain ⟨U3,Ff⟩:=ah (u2.alloc (.cells #[.bool (dN z),.slice az (ws (dX z)).length cz,.int .i64 (dE z)] 62));have mD:Below u2.heap.size u2 U3:=by rw [Ff];exact af _ _
     have bb:=S1.o.trans (hb.mono S1.o.size);have bc:=bb.trans (mD.mono bb.size)
     by_cases OH:ew=0
     · have TZ:Tk U3 u2.heap.size 62 (.bool (dN z)) (.slice az (ws (dX z)).length cz) (.int .i64 (dE z)):=by rw [Ff];exact Tk.new _ _ _ _ _
       have HD:=hid (HR.o U3 az cz OH HM.o S2.o.1 bc ((NZ.below mD).bR ae).2);obtain ⟨x0,x1,x2,_,_,_⟩:=TZ.facts;have S3:=(bB bc S2.o.2);clear bb bc hb mD NZ TZ S1 S2 HR HM hew;subst OH
       go_upto_region 7 with fail
       rw [<-Ff];clear Ff;go_wp2_with fail;refine HD.o.mono ?_;rintro r u3 ⟨rfl,hb⟩;have S4:=ay (S3.o.1.trans (hb.mono S3.o.1.size));clear hb HD x0 x1 x2;go_wp2
       go_ret2
       rw [S3.o.2];exact ⟨rfl,S4.o⟩
     · have hnb:(ew==0)=false:=by simp [OH]
       have hA:ANS=(0,ew):=by
        rw [S2.o.2];have:=hew OH;rw [<-this.1,<-this.2]
       have S3:=(bB bc hA);clear bb bc hb mD NZ S1 S2 HR HM hew hA OH
       go_upto_region 7 with fail
       rw [<-Ff];clear Ff;go_wp2
       go_ret2
       rw [S3.o.2];exact ⟨rfl,S3.o.1⟩
theorem OI {w:World}{a b:Option Addr}{la ca lb cb:Nat}(n m:Bool) (e f mode:Int) (ANS:Nat×Int)
 (HR:Hid (∀ u:World,Below w.heap.size w u->Calls Tryz.prog 113 #[.agg #[.bool n,.slice a la ca,.int .i64 e,.bool m,.slice b lb cb,.int .i64 f],.int .i64 mode,.func (.func 114) #[] #[],.func (.func 70) #[] #[]] u fun r w'=>r=.returned (.tuple #[.float .f64 ANS.1,.int .i64 ANS.2])/\Below u.heap.size u w')) :
 Calls Tryz.prog 77 #[.agg #[.bool n,.slice a la ca,.int .i64 e,.bool m,.slice b lb cb,.int .i64 f],.int .i64 mode] w fun r w'=>r=.returned (.tuple #[.float .f64 ANS.1,.int .i64 ANS.2])/\Below w.heap.size w w':=by
 obtain ⟨W1,hW1⟩:=ah (w.alloc (.cells #[.bool n,.slice a la ca,.int .i64 e,.bool m,.slice b lb cb,.int .i64 f] 98));obtain ⟨hB,hz1,Q1⟩:=yu w n _ e m _ f W1 hW1;have HC:=hid (HR.o W1 hB);obtain ⟨x0,x1,x2,x3,x4,x5⟩:=Q1.facts;have S0:=ay hB;clear hB hz1 Q1 HR;go_enter Tryz.func77,Tryz.ntmps77
 go_upto_region 1 with fail
 rw [<-hW1];clear hW1;go_wp2_with fail;refine HC.o.mono ?_;rintro r u1 ⟨rfl,hb⟩;have S1:=ay (S0.o.trans (hb.mono S0.o.size));clear hb HC x0 x1 x2 x3 x4 x5;go_wp2
 go_ret2
 exact ⟨rfl,S1.o⟩
theorem yw (n:Bool) (M:Nat) (E:Int) (hM:M≠0) (hb:bl M<=1001) (h0:-4096<=E) (h1:E<=4096):mkS n M E=some (n,M/2^lo M,E+lo M)/\(M/2^lo M)%2=1/\M=M/2^lo M*2^lo M/\lo M<=1001:=by
 obtain ⟨q,h2,h3,h4⟩:=iB M hM;refine ⟨?_,ae,by rw [h3,dh];exact h2,ae⟩;unfold mkS;rw [if_neg hM,if_neg ae]
def kY (n:Bool) (X:Nat) (e:Int) (Y:Nat) (f:Int):Option (Bool×Nat×Int):=mkS n (2*jb X Y 64+(if uy X Y 64 then 0 else 1)) (fo (e-f-l6 X Y 64-fI Y 64))
theorem oq (x:Int):-4096<=fo x/\fo x<=4096:=by unfold fo;omega
theorem OJ {W d k:Nat}(h:W<2^k) (hd:d<=1):bl (2*W+d)<=k+1:=eB (by rw [dS];omega)
theorem pQ:Ow vK 9218868437227405312:=by
 refine ⟨aO,?_,fun {k l} h=>Tg.2 h,fun k hk=>?_⟩
 · have:=iQ 0 0 (.inl rfl) ae;simpa using this
 · by_cases h:k<4503599627370496
   · refine ⟨k,0,?_,?_,ae,ae⟩
     · have:=iQ 0 k (.inl rfl) ae;rw [dZ,dI] at this;exact this
     · have:=iQ 0 (k+1) (.inl rfl) ae;rw [dZ,dI] at this;exact this
   · obtain ⟨q,hq⟩:∃ q,k/4503599627370496=q:=⟨_,rfl⟩;obtain ⟨g,hg⟩:∃ g,k%4503599627370496=g:=⟨_,rfl⟩;refine ⟨4503599627370496+g,q-1,?_,?_,ae,ae⟩
     · have:=iQ (q-1) (4503599627370496+g) (.inr ae) ae;rw [show (q-1)*4503599627370496+(4503599627370496+g)=k by omega] at this;exact this
     · have:=iQ (q-1) (4503599627370496+g+1) (.inr ae) ae;rw [show (q-1)*4503599627370496+(4503599627370496+g+1)=k+1 by omega] at this;exact this
theorem Rk {K:Nat}{t:Bool}{m:Int}{V S':Nat}(h:Xr K t m V S'):iP vK 9218868437227405312 1 K t m V S':=by
 refine ⟨h.fin,h.pos,fun ht=>?_,fun ht=>?_,fun ht hl=>?_,fun ht=>?_⟩
 · rw [ku];exact h.one ht
 · rw [ku];exact h.low ht
 · rw [ku] at hl;have:=h.QX ht hl;rw [ku,ku,fU];exact this
 · rw [ku];rcases h.high ht with q|⟨q,r⟩
   · exact .inl q
   · exact .inr ⟨ae,r⟩
theorem Rl (n:Bool) (M:Nat) (E:Int) (hM:M≠0) (hb:bl M<=1001) (h0:-4096<=E) (h1:E<=4096) :
 ∃ K t m,iP vK 9218868437227405312 1 K t m (M*2^(E+(1074:Nat)).toNat) (2^(-(E+(1074:Nat))).toNat)/\∀ mode:Int,0<=mode->mode<=4->jJ (mkS n M E) mode=(rK mode n K t m+(if n then 9223372036854775808 else 0),0):=by
 obtain ⟨e1,e2,e3,e4⟩:=yw n M E hM hb h0 h1;obtain ⟨M',hM'⟩:∃ M',M/2^lo M=M':=⟨_,rfl⟩;obtain ⟨l,hl⟩:∃ l,lo M=l:=⟨_,rfl⟩;rw [hM',hl] at e1 e3;rw [hM'] at e2;rw [hl] at e4;have hL:=lies M' (E+l) e2 ae ae (min E (-1074)) ae ae;refine ⟨Lm M' (E+l),(iV 53 (-1074) 1024 M' (E+l)).2.2.1,(iV 53 (-1074) 1024 M' (E+l)).2.2.2,?_,?_⟩
 · have:=Rk hL;rw [e3]
   have w1:M'*2^(E+(l:Int)-min E (-1074)).toNat=M'*2^l*2^(E+(1074:Nat)).toNat:=by
    rw [aU,<-aR];congr 2;omega
   have w2:(-1074-min E (-1074)).toNat=(-(E+(1074:Nat))).toNat:=ae
   rw [w1,w2] at this;exact this
 · intro mode hm0 tV;rw [e1];unfold jJ;rw [if_neg ae];simp only;rw [if_neg ae,QY]
theorem Tp (n:Bool) (X:Nat) (e:Int) (Y:Nat) (f:Int) (hX:X%2=1) (hY:Y≠0) (bX:bl X<=262144) (bY:bl Y<=262144) :
 ∃ K t m,iP vK 9218868437227405312 1 K t m (kK X e f 1074 1) (kL Y e f 1074 1)/\∀ mode:Int,0<=mode->mode<=4->jJ (kY n X e Y f) mode=(rK mode n K t m+(if n then 9223372036854775808 else 0),0):=by
 have D:=kH X Y 64 (.inr hX) hY ae ae bX bY;have hX0:X≠0:=ae
 have hW1:=D.least hX0;have hW2:=D.most;have c63:(2:Nat)^(64-1)=9223372036854775808:=aO
 have sp:=OB X Y e f 1074 hY D;have hd:(if uy X Y 64 then 0 else 1)<=1:=by split <;> omega
 obtain ⟨K,t,m,hL,hR⟩:=Rl n (2*jb X Y 64+(if uy X Y 64 then 0 else 1)) (fo (e-f-l6 X Y 64-fI Y 64)) ae (by have:=OJ hW2 hd;omega) (oq _).1 (oq _).2;refine ⟨K,t,m,hL.Ox pQ ae sp.pos ?_,hR⟩;exact Cv 1 (jb X Y 64) _ _ _ 1074 _ ae ae (Nat.lt_trans hW2 aO) hd ae ae sp
theorem yx (n:Bool) (X:Nat) (e:Int) (Y:Nat) (f:Int) (hX:X=0\/X%2=1) (hY:Y≠0) (bX:bl X<=262144) (bY:bl Y<=262144):(kY n X e Y f).isSome=true:=by
 have D:=kH X Y 64 hX hY ae ae bX bY;have hW2:=D.most;have hd:(if uy X Y 64 then 0 else 1)<=1:=by split <;> omega
 have hb:=OJ hW2 hd;unfold kY
 by_cases hM:2*jb X Y 64+(if uy X Y 64 then 0 else 1)=0
 · rw [hM,fA];rfl
 · rw [(yw n _ _ hM ae (oq _).1 (oq _).2).1];rfl
theorem Fp (Y size:Nat) (hY:Y≠0) (hs0:1<=size) (hs:size<=1000) (bY:bl Y<=262144):jb 0 Y size=0/\uy 0 Y size=true:=by
 have D:=kH 0 Y size (.inl rfl) hY hs0 hs (by rw [dJ];omega) bY;have hby:0<=l6 0 Y size:=by unfold l6;rw [dJ];omega
 have XV:oF 0 Y size=0:=by unfold oF;split <;> simp
 have h1:lI 0 Y size=0:=by unfold lI;rw [XV,Nat.zero_div]
 have h2:oG 0 Y size=0:=by unfold oG;rw [XV,Nat.zero_mod]
 have h3:pI 0 Y size=0:=by unfold pI;rw [h2,dZ]
 have h4:nK 0 Y size=0:=by unfold nK;rw [h1,dZ]
 refine ⟨?_,?_⟩
 · unfold jb;rw [h3,h4,if_neg ae,h1]
 · unfold uy;rw [h3,h4];simp [hby]
theorem tH (n:Bool) (e:Int) (Y:Nat) (f:Int) (hY:Y≠0) (bY:bl Y<=262144):kY n 0 e Y f=some (false,0,0):=by
 obtain ⟨h1,h2⟩:=Fp Y 64 hY ae ae bY;unfold kY;rw [h1,h2];exact fA _ _
def KG (r:Ri):Nat->Ri:=fun _=>r
noncomputable def oH (rnd:Option (Bool×Nat×Int)->Int->Nat×Int) (r:Ri) (mode:Int):Nat×Int :=
 if mode<0\/4<mode then (0,1) else if jZ (KG r) 1=0 then rnd (kY (dN (mkS r.n r.X r.e)) (dX (mkS r.n r.X r.e)) (dE (mkS r.n r.X r.e)) (dX (mkS r.m r.Y r.f)) (dE (mkS r.m r.Y r.f))) mode else (0,jZ (KG r) 1)
theorem rP {n:Bool}{X:Nat}{e:Int}(h:(mkS n X e).isSome=true):tQ (dN (mkS n X e)) (dX (mkS n X e)) (dE (mkS n X e)):=by
 cases ho:mkS n X e with
 | none=>rw [ho] at h;cases h
 | some d =>
   obtain ⟨n1,X1,e1⟩:=d;exact cu ho
theorem tQ.par {n:Bool}{X:Nat}{e:Int}(h:tQ n X e):X=0\/X%2=1:=by rcases h.odd with q | q;exact .inr q;exact .inl q.1
theorem Fq (n:Bool) (X:Nat) (e:Int) (Y:Nat) (f:Int) (hs:(kY n X e Y f).isSome=true):mkS (dN (kY n X e Y f)) (dX (kY n X e Y f)) (dE (kY n X e Y f))=kY n X e Y f:=Fj (o:=kY n X e Y f) rfl hs
theorem UF {w:World}{n m:Bool}{a b:Option Addr}{la ca lb cb:Nat}{X Y:Nat}{e f:Int}(mode:Int) (hr:Rv w ⟨n,.slice a la ca,X,e,m,.slice b lb cb,Y,f⟩) (hT:il w) :
 Calls Tryz.prog 77 #[.agg #[.bool n,.slice a la ca,.int .i64 e,.bool m,.slice b lb cb,.int .i64 f],.int .i64 mode] w fun r w' =>
  r=.returned (.tuple #[.float .f64 (oH jJ ⟨n,.slice a la ca,X,e,m,.slice b lb cb,Y,f⟩ mode).1,.int .i64 (oH jJ ⟨n,.slice a la ca,X,e,m,.slice b lb cb,Y,f⟩ mode).2])/\Below w.heap.size w w':=by
 refine OI n m e f mode (oH jJ ⟨n,.slice a la ca,X,e,m,.slice b lb cb,Y,f⟩ mode) ?_;intro u hu;have hrT:=hr.below hu;have WZ:=hT.belows hu;refine pO mode hrT WZ (mkS n X e) (mkS m Y f) (kY (dN (mkS n X e)) (dX (mkS n X e)) (dE (mkS n X e)) (dX (mkS m Y f)) (dE (mkS m Y f))) 0 (jJ (kY (dN (mkS n X e)) (dX (mkS n X e)) (dE (mkS n X e)) (dX (mkS m Y f)) (dE (mkS m Y f))) mode) rfl rfl (aS _ _ _) (fun h=>absurd rfl h) _ rfl ?_ ?_
 · intro v p q hv N1 N2 h0;obtain ⟨k1,k2,k3,k4⟩:=Tn h0 0 ae;simp only at k1 k2 k3 k4;have F1:=rP k2;have F2:=rP k3;obtain ⟨a1,c1,rfl,A1⟩:=N1.arg (by have:=dY F1;omega);obtain ⟨a2,c2,rfl,A2⟩:=N2.arg (by have:=dY F2;omega);have hq:=zG (dN (mkS n X e)) (dN (mkS m Y f)) (dX (mkS n X e)) (dX (mkS m Y f)) (dE (mkS n X e)) (dE (mkS m Y f)) A1 A2 (WZ.belows hv) F1.par k4 F1.down F1.up F2.down F2.up F1.size F2.size;have hs:=yx (dN (mkS n X e)) (dX (mkS n X e)) (dE (mkS n X e)) (dX (mkS m Y f)) (dE (mkS m Y f)) F1.par k4 F1.size F2.size;have he:uw (kY (dN (mkS n X e)) (dX (mkS n X e)) (dE (mkS n X e)) (dX (mkS m Y f)) (dE (mkS m Y f)))=0:=by unfold uw;rw [hs];rfl
   unfold di at hq;rw [show mkS (dN (mkS n X e)) (2*jb (dX (mkS n X e)) (dX (mkS m Y f)) 64+(if uy (dX (mkS n X e)) (dX (mkS m Y f)) 64 then 0 else 1)) (fo (dE (mkS n X e)-dE (mkS m Y f)-l6 (dX (mkS n X e)) (dX (mkS m Y f)) 64-fI (dX (mkS m Y f)) 64))=kY (dN (mkS n X e)) (dX (mkS n X e)) (dE (mkS n X e)) (dX (mkS m Y f)) (dE (mkS m Y f)) from rfl,he] at hq;exact hq
 · intro v p q _ hm h0 hv hA;obtain ⟨k1,k2,k3,k4⟩:=Tn h0 0 ae;simp only at k1 k2 k3 k4;have F1:=rP k2;have F2:=rP k3;have hs:=yx (dN (mkS n X e)) (dX (mkS n X e)) (dE (mkS n X e)) (dX (mkS m Y f)) (dE (mkS m Y f)) F1.par k4 F1.size F2.size;have rg:=Rj (o:=kY (dN (mkS n X e)) (dX (mkS n X e)) (dE (mkS n X e)) (dX (mkS m Y f)) (dE (mkS m Y f))) rfl;have hR:=J7 hA (WZ.belows hv) (dN (kY (dN (mkS n X e)) (dX (mkS n X e)) (dE (mkS n X e)) (dX (mkS m Y f)) (dE (mkS m Y f)))) (dE (kY (dN (mkS n X e)) (dX (mkS n X e)) (dE (mkS n X e)) (dX (mkS m Y f)) (dE (mkS m Y f)))) mode ae ae;rw [ax,Fq _ _ _ _ _ hs] at hR;exact hR
def UG (o:Option (Bool×Nat×Int)):Option (Bool×Nat×Int):=match o with
 | none=>none
 | some (n,X,e)=>mkS (!n) X e
theorem OL (n:Bool) (X:Nat) (e:Int):UG (mkS n X e)=mkS (!n) X e:=by
 by_cases h0:X=0
 · subst h0;rw [fA,fA];rfl
 · cases ho:mkS n X e with
   | none =>
     unfold mkS at ho |-;rw [if_neg h0] at ho |-
     split at ho
     · rename_i h;rw [if_pos h];rfl
     · cases ho
   | some d =>
     unfold mkS at ho |-;rw [if_neg h0] at ho |-
     split at ho
     · cases ho
     · rename_i h
       cases ho
       rw [if_neg h];show mkS (!n) (X/2^lo X) (e+lo X)=_;have hF:tQ n (X/2^lo X) (e+lo X):=cu (n:=n) (X:=X) (e:=e) (by unfold mkS;rw [if_neg h0,if_neg h])
       have hF2:tQ (!n) (X/2^lo X) (e+lo X):=⟨by
        rcases hF.odd with q|⟨q,_,_⟩
        · exact .inl q
        · exfalso;obtain ⟨k,h2,h3,h4⟩:=iB X h0
          omega,hF.size,hF.up,hF.down⟩
       exact hF2.self
theorem Cz {o:Option (Bool×Nat×Int)}(hs:o.isSome=true):mkS (!(dN o)) (dX o) (dE o)=UG o:=by
 cases o with
 | none=>cases hs
 | some d=>rfl
def mO (X:Nat) (n:Bool) (e:Int) (Y:Nat) (m:Bool) (f:Int):Int:=if qN m Y<0 then 1 else if (mkS n X e).isSome&&(mkS m Y f).isSome then (if dX (mkS m Y f)=0 then 21 else 0) else 2
theorem vW (r:Ri):jZ (KG r) 1=mO r.X r.n r.e r.Y r.m r.f:=by
 unfold jZ mO KG;simp only [show List.range 1=[0] from rfl,List.any_cons,List.any_nil,Bool.or_false,decide_eq_true_eq]
 cases (mkS r.n r.X r.e).isSome <;> cases (mkS r.m r.Y r.f).isSome <;> simp
end
end Go.Proofs.YtblkpkgebigojaaGreatDoor
