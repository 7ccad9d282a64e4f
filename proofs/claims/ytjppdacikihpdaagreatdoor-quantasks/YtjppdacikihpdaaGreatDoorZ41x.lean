import Derived.Test.YtjppdacikihpdaaGreatDoorPR2x
import Derived.Test.YtjppdacikihpdaaGreatDoorW50x
import Derived.BigQuiet
import Derived.Deep.Cut
import Derived.Test.YtjppdacikihpdaaGreatDoorZ26x
import Derived.Test.YtjppdacikihpdaaGreatDoorD39x
import Derived.Test.YtjppdacikihpdaaGreatDoorD32cx
import Derived.OwnWalk
import Derived.ArgAppend
import Derived.Maps.AppendAt
import Derived.WalkMore
import Derived.Test.YtjppdacikihpdaaGreatDoorZ5x
import Derived.Test.YtjppdacikihpdaaGreatDoorRS6x
import Derived.Test.YtjppdacikihpdaaGreatDoorM1x
import Derived.Test.YtjppdacikihpdaaGreatDoorS10x
import Derived.Test.YtjppdacikihpdaaGreatDoorRK1x
import Derived.Deep.RegionHeld3
import Derived.Deep.CutRange
import Derived.Test.YtjppdacikihpdaaGreatDoorU1x
import Derived.Test.YtjppdacikihpdaaGreatDoorD19x
import Derived.Test.YtjppdacikihpdaaGreatDoorD8x
import Derived.Deep.RegionWith
import Derived.Test.YtjppdacikihpdaaGreatDoorF2x
import Derived.Test.YtjppdacikihpdaaGreatDoorBIeeex
set_option linter.unusedVariables false
set_option linter.unusedSimpArgs false
set_option maxHeartbeats 16000000
set_option maxRecDepth 20000
namespace Go.Proofs.YtjppdacikihpdaaGreatDoor
namespace J
end J
section
open Go.RowKit
def uE(mode:Int)(n:Bool)(k:Nat)(z hv:Int):Nat:=if z=0 then k else if kF mode k hv n then k+1 else k
theorem WX{w:World}{v u:Value}{X Y:Nat}(h1:Al w v X)(h2:Al w u Y):Calls Tryz.prog 114 #[v,u] w fun r w'=>∃ p,r=.returned p/\Nt w.heap.size w' p (X+Y)/\Below w.heap.size w w':=by
 obtain⟨a,l,c,xs,rfl,hA,rfl,hl⟩:=h1;obtain⟨b,k,d,ys,rfl,hB,rfl,hk⟩:=h2;exact zR hA hB (by omega) (by omega) rfl
theorem mF(w:World)(dg ls:Int)(En:Nat)(n:Bool)(v:Value)(e:Int)(m:Bool)(u:Value)(f:Int)(W:World)(hW:W=(w.alloc (.cells #[.int .i64 dg,.int .i64 ls,.int .u64 (En:Nat)] 137)).alloc (.cells #[.bool n,v,.int .i64 e,.bool m,u,.int .i64 f] 93)) :
 Below w.heap.size w W/\Zk W w.heap.size dg ls En/\Rq W (w.heap.size+1) n v e m u f:=by
 rw[hW];refine⟨(ae w _).alloc (by simp) _,?_,?_⟩
 · have h:Zk (w.alloc (.cells #[.int .i64 dg,.int .i64 ls,.int .u64 (En:Nat)] 137)) w.heap.size dg ls En:=gU _ _;exact h.below (ae _ _)
 · have:=Rq.new (w.alloc (.cells #[.int .i64 dg,.int .i64 ls,.int .u64 (En:Nat)] 137)) n v e m u f;rw[sF] at this;exact this
theorem ZT {w:World}{n m:Bool}{a b:Option Addr}{la ca lb cb:Nat}{e f:Int}(dg ls:Int) (En:Nat) (k k1 g h q fm hv:Int) (A Bv SM:Nat) (sq:Bool)
 (hk1:IntKind.u64.wrap (k+1)=k1) (hq:IntKind.i64.wrap (h-g)=q) (hq0:0<=q) (hq1:q<=1) (hfm:IntKind.i64.wrap (g-1)=fm) (hS:A+Bv*2^q.toNat=SM) (hB0:Bv≠0) (lA:(ws A).length<=8192) (lB:(ws Bv).length<=8192) (lM:(ws (Bv*2^q.toNat)).length<=8192) (lS:(ws SM).length<=8192)
 (HN1:Hid (∀ u:World,Calls Tryz.prog 163 #[.agg #[.int .i64 dg,.int .i64 ls,.int .u64 (En:Nat)],.int .u64 k] u fun r w'=>∃ v,r=.returned (.tuple #[v,.int .i64 g])/\Nt u.heap.size w' v A/\Below u.heap.size u w'))
 (HN2:Hid (∀ u:World,Calls Tryz.prog 163 #[.agg #[.int .i64 dg,.int .i64 ls,.int .u64 (En:Nat)],.int .u64 k1] u fun r w'=>∃ v,r=.returned (.tuple #[v,.int .i64 h])/\Nt u.heap.size w' v Bv/\Below u.heap.size u w'))
 (HA:Hid (∀ (u:World) (p:Option Addr) (l c:Nat),Below w.heap.size w u->Al u (.slice p l c) SM->Calls Tryz.prog 198 #[.slice p l c,.int .i64 fm,.agg #[.bool n,.slice a la ca,.int .i64 e,.bool m,.slice b lb cb,.int .i64 f],.bool sq] u fun r w'=>r=.returned (.int .i64 hv)/\Below u.heap.size u w')) :
 Calls Tryz.prog 199 #[.agg #[.int .i64 dg,.int .i64 ls,.int .u64 (En:Nat)],.int .u64 k,.agg #[.bool n,.slice a la ca,.int .i64 e,.bool m,.slice b lb cb,.int .i64 f],.bool sq] w fun r w'=>r=.returned (.int .i64 hv)/\Below w.heap.size w w':=by
 obtain⟨W1,hW1⟩:=af ((w.alloc (.cells #[.int .i64 dg,.int .i64 ls,.int .u64 (En:Nat)] 137)).alloc (.cells #[.bool n,.slice a la ca,.int .i64 e,.bool m,.slice b lb cb,.int .i64 f] 93));obtain⟨hB,Z,QR⟩:=mF w dg ls En n _ e m _ f W1 hW1;obtain⟨p0,p1,p2⟩:=Z.facts;have S0:=(fG hB Z QR);have LN:=(Dh lA lB lM lS hB0 hS hq0 hq1);have H1:=hid (HN1.o W1);clear hB Z QR lA lB lM lS hB0 hS hq0 hq1 HN1;go_enter Tryz.func199,Tryz.ntmps199
 go_upto_region 1 with fail
 rw[<-hW1];clear hW1;go_wp2_with fail;clear p0 p1 p2;refine H1.o.mono ?_;rintro r u1 ⟨v,rfl,hN,hb⟩;obtain⟨a1,c1,rfl,-⟩:=hN.shape;have S1:=(iw (S0.o.1.trans (hb.mono S0.o.1.size)) (S0.o.2.1.below hb) (S0.o.r2.below hb) (hN.al' (dz LN.o.1 (by decide))));clear hN hb S0 H1;obtain⟨p0,p1,p2⟩:=S1.o.2.1.facts;have H2:=hid (HN2.o u1);clear HN2;go_wp2_with fail;clear p0 p1 p2;refine H2.o.mono ?_;rintro r u2 ⟨v,rfl,hN,hb⟩;have H3:=hid (pI hN q (by have:=LN.o;omega) (by have:=LN.o;omega) LN.o.r4.1 (dz LN.o.2.1 (by decide)));obtain⟨a2,c2,rfl,-⟩:=hN.shape;have S2:=(fG (S1.o.1.trans (hb.mono S1.o.1.size)) (S1.o.r2.1.below hb) (S1.o.r3.below hb));clear hN hb S1 H2;rw[if_neg (by have:=LN.o;omega)] at H3;go_wp2_with fail;refine H3.o.mono ?_;rintro r u3 ⟨v,rfl,hN,hb⟩;obtain⟨a3,c3,rfl,-⟩:=hN.shape;have S3:=(aZ (S2.o.1.trans (hb.mono S2.o.1.size)) (S2.o.2.1.below hb));have H4:=hid (WX (S2.o.r2.below hb) (hN.al' (dz LN.o.r2.1 (by decide))));rw[LN.o.r5.1] at H4;clear hN hb S2 H3;go_wp2_with fail;refine H4.o.mono ?_;rintro r u4 ⟨v,rfl,hN,hb⟩;obtain⟨a4,c4,rfl,-⟩:=hN.shape;have S4:=(aZ (S3.o.1.trans (hb.mono S3.o.1.size)) (S3.o.2.below hb));obtain⟨x0,x1,x2,x3,x4,x5⟩:=S4.o.2.facts;have H5:=hid (HA.o u4 _ _ _ S4.o.1 (hN.al' (dz LN.o.r3.1 (by decide))));clear hN hb S3 H4 HA;go_wp2_with fail;clear x0 x1 x2 x3 x4 x5;refine H5.o.mono ?_;rintro r u5 ⟨rfl,hb⟩;have S5:=ah (S4.o.1.trans (hb.mono S4.o.1.size));clear hb S4 H5 LN;go_wp2;go_ret;exact⟨rfl,S5.o⟩
structure yR (w:World) (dg ls:Int) (En:Nat) (ag:Nat->Int) (n:Bool) (v:Value) (e:Int) (m:Bool) (x:Value) (y:Int) (f t:Nat) (u:World):Prop where
 aC:Below w.heap.size w u
 sz:Zk u w.heap.size dg ls En
 rq:Rq u (w.heap.size+1) n v e m x y
 ft:f<t
 tE:t<=En
 lo:f=0\/ag f<=0
 hi:t=En\/0<ag t
theorem yR.to{w:World}{dg ls:Int}{En:Nat}{ag:Nat->Int}{n:Bool}{v:Value}{e:Int}{m:Bool}{x:Value}{y:Int}{f t:Nat}{u u':World}(h:yR w dg ls En ag n v e m x y f t u)(hb:Below u.heap.size u u'):yR w dg ls En ag n v e m x y f t u' :=
 ⟨h.aC.trans (hb.mono h.aC.size),h.sz.below hb,h.rq.below hb,h.ft,h.tE,h.lo,h.hi⟩
theorem Qbm{P:Prop}(h:P:=by
 go_wp2;go_ret;exact⟨⟨k,by rw[HE.o,<-HR2.o];simp[kF,hp],KK.o⟩,S4.o.aC⟩):P:=h
theorem Qa6{P:Prop}(h:P:=by
 cases n
 all_goals (
  go_wp2;go_ret
  exact⟨⟨k,by rw[HE.o,<-HR2.o];simp[kF],KK.o⟩,S4.o.aC⟩)):P:=h
theorem x6{P:Prop}(h:P:=by
 go_wp2;go_ret;exact⟨⟨k,by rw[HE.o,<-HR2.o];simp[kF],KK.o⟩,S4.o.aC⟩):P:=h
theorem Tx {w:World}{n m:Bool}{a b:Option Addr}{la ca lb cb:Nat}{e f:Int}(dg ls:Int) (En:Nat) (hE:0<En) (hE2:En<9223372036854775808) (num:Nat->Nat×Int) (ag hf:Nat->Int) (sq:Bool) (mode:Int) (hm0:0<=mode) (pU:mode<=4) (Jm:∀ k,(ws (num k).1).length<=8192) (hv3:∀ k,hf k=-1\/hf k=0\/hf k=1)
 (HN:Hid (∀ (k:Nat) (u:World),k<En->Calls Tryz.prog 163 #[.agg #[.int .i64 dg,.int .i64 ls,.int .u64 (En:Nat)],.int .u64 (k:Nat)] u fun r w'=>∃ v,r=.returned (.tuple #[v,.int .i64 (num k).2])/\Nt u.heap.size w' v (num k).1/\Below u.heap.size u w'))
 (HA:Hid (∀ (k:Nat) (u:World) (p:Option Addr) (l c:Nat),k<En->Below w.heap.size w u->Al u (.slice p l c) (num k).1->Calls Tryz.prog 198 #[.slice p l c,.int .i64 (num k).2,.agg #[.bool n,.slice a la ca,.int .i64 e,.bool m,.slice b lb cb,.int .i64 f],.bool sq] u fun r w'=>r=.returned (.int .i64 (ag k))/\Below u.heap.size u w'))
 (HH:Hid (∀ (k:Nat) (u:World),k<En->Below w.heap.size w u->Calls Tryz.prog 199 #[.agg #[.int .i64 dg,.int .i64 ls,.int .u64 (En:Nat)],.int .u64 (k:Nat),.agg #[.bool n,.slice a la ca,.int .i64 e,.bool m,.slice b lb cb,.int .i64 f],.bool sq] u fun r w'=>r=.returned (.int .i64 (hf k))/\Below u.heap.size u w')) :
 Calls Tryz.prog 171 #[.agg #[.int .i64 dg,.int .i64 ls,.int .u64 (En:Nat)],.agg #[.bool n,.slice a la ca,.int .i64 e,.bool m,.slice b lb cb,.int .i64 f],.bool sq,.int .i64 mode] w fun r w'=>(∃ k:Nat,r=.returned (.int .u64 (uE mode n k (ag k) (-(hf k)):Nat))/\k<En/\(k=0\/ag k<=0)/\(k+1=En\/0<ag (k+1)))/\Below w.heap.size w w':=by
 obtain⟨W1,hW1⟩:=af ((w.alloc (.cells #[.int .i64 dg,.int .i64 ls,.int .u64 (En:Nat)] 137)).alloc (.cells #[.bool n,.slice a la ca,.int .i64 e,.bool m,.slice b lb cb,.int .i64 f] 93));obtain⟨hB,Z,QR⟩:=mF w dg ls En n _ e m _ f W1 hW1;obtain⟨p0,p1,p2⟩:=Z.facts;have S0:Aside (yR w dg ls En ag n (.slice a la ca) e m (.slice b lb cb) f 0 En W1):=ah ⟨hB,Z,QR,hE,ak _,.inl rfl,.inl rfl⟩;have LN:=(aZ Jm hv3);clear Z hB QR Jm hv3;have hw:∀ n:Int,0<=n->n<18446744073709551616->IntKind.u64.wrap n=n:=fun n h1 h2=>by simp[IntKind.wrap,IntKind.bits,IntKind.signed];omega
 have HW:=ah hw;clear hw;go_enter Tryz.func171,Tryz.ntmps171
 go_upto_region 1 with fail
 rw[<-hW1];clear hW1;go_wp2_with fail;clear p0 p1 p2
 go_loopg [9,10] En (fun gk fv tv wr=>∃ f0 t:Nat,gk+f0=t/\fv=.int .u64 (f0:Nat)/\tv=.int .u64 (t:Nat)/\f0<t/\t<=En/\Aside (yR w dg ls En ag n (.slice a la ca) e m (.slice b lb cb) f f0 t wr))
 case atStart=>exact⟨0,En,by omega,rfl,rfl,hE,ak _,S0⟩
 case round =>
  obtain⟨f0,t,lU,rfl,rfl,hft,htE,S1⟩:=hrel;have e1:=HW.o ((t:Int)-(f0:Int)) (by omega) (by omega)
  by_cases hone:1<(t:Int)-(f0:Int)
  · obtain⟨mi,hm⟩:∃ mi,(f0+t)/2=mi:=⟨_,rfl⟩;have e2:=HW.o ((f0:Int)+(t:Int)) (by omega) (by omega);have e3:((f0:Int)+(t:Int))/2=(mi:Nat):=by omega
    have e4:IntKind.u64.wrap ((mi:Nat):Int)=(mi:Nat):=HW.o _ (by omega) (by omega);have hmE:mi<En:=by omega
    obtain⟨p0,p1,p2⟩:=S1.o.sz.facts;obtain⟨X,hX⟩:∃ X,(num mi).1=X:=⟨_,rfl⟩;obtain⟨y,hy⟩:∃ y,(num mi).2=y:=⟨_,rfl⟩;have H1:=hid (HN.o mi wr hmE);have H2:=hid fun u p l c=>HA.o mi u p l c hmE;have lX:=LN.o.1 mi;rw[hX,hy] at H1 H2;rw[hX] at lX;have LX:=ah lX;clear lX hX hy;go_wp2_with fail;clear p0 p1 p2;refine H1.o.mono ?_;rintro r u1 ⟨v,rfl,hN,hb⟩;obtain⟨b1,c1,rfl,-⟩:=hN.shape;have S2:=ah (S1.o.to hb);have H3:=hid (H2.o u1 b1 _ c1 S2.o.aC (hN.al' (dz LX.o (by decide))));clear hb hN S1 H1 H2;obtain⟨x0,x1,x2,x3,x4,x5⟩:=S2.o.rq.facts;go_wp2_with fail;clear x0 x1 x2 x3 x4 x5;refine H3.o.mono ?_;rintro r u2 ⟨rfl,hb⟩;have S3:=ah (S2.o.to hb);clear hb H3 S2
    by_cases hag:ag mi<=0
    · go_wp2_with fail;go_roundg (t-mi)
      case measure=>omega
      case rel=>exact⟨mi,t,by omega,rfl,rfl,by omega,htE,ah ⟨S3.o.aC,S3.o.sz,S3.o.rq,by omega,htE,.inr hag,S3.o.hi⟩⟩
    · have hag':decide (ag mi<=0)=false:=decide_eq_false hag;go_wp2_with fail;go_roundg (mi-f0)
      case measure=>omega
      case rel=>exact⟨f0,mi,by omega,rfl,rfl,by omega,by omega,ah ⟨S3.o.aC,S3.o.sz,S3.o.rq,by omega,by omega,S3.o.lo,.inr (by omega)⟩⟩
  · have hone':decide (1<(t:Int)-(f0:Int))=false:=decide_eq_false hone;obtain⟨k,hk⟩:=af f0;subst hk;have hkE:k<En:=by omega
    have KK:Aside (k<En/\(k=0\/ag k<=0)/\(k+1=En\/0<ag (k+1))):=by
     obtain rfl:t=k+1:=by omega
     exact ah ⟨hkE,S1.o.lo,S1.o.hi⟩
    have ek:IntKind.u64.wrap ((k:Int)+1)=(k:Int)+1:=HW.o _ (by omega) (by omega);obtain⟨p0,p1,p2⟩:=S1.o.sz.facts;obtain⟨X,hX⟩:∃ X,(num k).1=X:=⟨_,rfl⟩;obtain⟨y,hy⟩:∃ y,(num k).2=y:=⟨_,rfl⟩;obtain⟨z,hz⟩:∃ z,ag k=z:=⟨_,rfl⟩;obtain⟨hv,hhv⟩:∃ z,hf k=z:=⟨_,rfl⟩;have hv3:=LN.o.2 k;obtain⟨R,hR⟩:∃ R,uE mode n k z (-hv)=R:=⟨_,rfl⟩;have H1:=hid (HN.o k wr hkE);have H2:=hid fun u p l c=>HA.o k u p l c hkE;have H5:=hid fun u=>HH.o k u hkE;have lX:=LN.o.1 k;rw[hX,hy] at H1 H2;rw[hz] at H2;rw[hhv] at H5 hv3;rw[hX] at lX;have LX:=ah lX;have HE:Aside (uE mode n k (ag k) (-(hf k))=R):=ah (by rw[hz,hhv,hR]);clear lX hX hy hz hhv LN HN HA HH S0 HW;go_wp2_with fail;clear p0 p1 p2;refine H1.o.mono ?_;rintro r u1 ⟨v,rfl,hN,hb⟩;obtain⟨b1,c1,rfl,-⟩:=hN.shape;have S2:=ah (S1.o.to hb);have H3:=hid (H2.o u1 b1 _ c1 S2.o.aC (hN.al' (dz LX.o (by decide))));clear hb hN S1 H1 H2 LX;obtain⟨x0,x1,x2,x3,x4,x5⟩:=S2.o.rq.facts;go_wp2_with fail;clear x0 x1 x2 x3 x4 x5;refine H3.o.mono ?_;rintro r u2 ⟨rfl,hb⟩;have S3:=ah (S2.o.to hb);clear hb H3 S2
    by_cases hz:z=0
    · subst hz;obtain rfl:k=R:=by rw[<-hR];unfold uE;rw[if_pos rfl]
      clear hR;go_wp2_with fail;go_ret;exact⟨⟨k,by rw[HE.o];first | rfl | simp,KK.o⟩,S3.o.aC⟩
    · have hz':(z==0)=false:=by simpa using hz
      have hR2:(if kF mode k (-hv) n then k+1 else k)=R:=by rw[<-hR];unfold uE;rw[if_neg hz]
      have H6:=hid (H5.o u2 S3.o.aC);obtain⟨p0,p1,p2⟩:=S3.o.sz.facts;obtain⟨x0,x1,x2,x3,x4,x5⟩:=S3.o.rq.facts;have HR2:=ah hR2;clear hR hz hR2 H5;go_wp2_with fail;clear p0 p1 p2 x0 x1 x2 x3 x4 x5;refine H6.o.mono ?_;rintro r u4 ⟨rfl,hb⟩;have S4:=ah (S3.o.to hb);obtain⟨x0,x1,x2,x3,x4,x5⟩:=S4.o.rq.facts;clear hb S3 H6 hz';have hc:mode=0\/mode=1\/mode=2\/mode=3\/mode=4:=by omega
      clear hm0 pU;rcases hc with rfl|rfl|rfl|rfl|rfl
      · rcases hv3 with rfl | rfl | rfl
        · exact x6
        · by_cases hp:k%2=1
          · have hp':(k:Int)%2=1:=by omega
            exact Qbm
          · have hp':(k:Int)%2=0:=by omega
            exact Qbm
        · exact x6
      · exact x6
      · exact Qa6
      · exact Qa6
      · rcases hv3 with rfl | rfl | rfl
        all_goals (
         go_wp2;go_ret
         exact⟨⟨k,by rw[HE.o,<-HR2.o];simp[kF],KK.o⟩,S4.o.aC⟩)
theorem lT(x y c:Nat)(hc:0<c):iT ((x*c:Nat):Int) ((y*c:Nat):Int)=iT (x:Int) (y:Int):=by
 rw[dK,dK];exact Cz _ _ _ (by omega)
theorem Ty(A v X Y:Nat)(g e f B:Int)(u n:Nat)(hB1:B<=g)(hB2:B<=-((n*u:Nat):Int))(hA:A*2^(g-B).toNat=v*2^(-((n*u:Nat):Int)-B).toNat) :
 XK (A*Y) (g+f) X e=iT ((v*kJ Y e f u n:Nat):Int) ((kI X e f u n:Nat):Int):=by
 generalize hU:n*u=U at hB2 hA;obtain⟨D,hD1,hD2⟩:∃ D:Int,D<=f/\B+D<=e:=⟨min f (e-B),Int.min_le_left _ _,by have:=Int.min_le_right f (e-B);omega⟩;rw[agV_z (A*Y) (g+f) X e (B+D) (by omega) hD2];obtain⟨c,hc⟩:∃ c:Nat,(-(U:Int)-B).toNat+(f-D).toNat=(-(e-f+(U:Int))).toNat+c:=⟨(-(U:Int)-B).toNat+(f-D).toNat-(-(e-f+(U:Int))).toNat,by omega⟩;have hd:(e-(B+D)).toNat=(e-f+(U:Int)).toNat+c:=by omega
 have e1:A*Y*2^(g+f-(B+D)).toNat=v*kJ Y e f u n*2^c:=by
  rw[show(g+f-(B+D)).toNat=(g-B).toNat+(f-D).toNat by omega,aI,qx,hA,qx,<-aI,hc,aI];unfold kJ;rw[hU];simp only[aJ]
 have e2:X*2^(e-(B+D)).toNat=kI X e f u n*2^c:=by
  rw[hd,aI];unfold kI;rw[hU];simp only[aJ]
 rw[e1,e2];exact lT _ _ _ (aU c)
theorem Jn(v X Y:Nat)(e f:Int)(u n:Nat):iT ((v*kJ Y e f (u+1) n:Nat):Int) ((kI X e f (u+1) n:Nat):Int)=iT ((v*kJ Y e f u n:Nat):Int) ((2^n*kI X e f u n:Nat):Int):=by
 generalize hU:n*u=U;have hU':n*(u+1)=U+n:=by rw[mY,dM,hU]
 rw[<-lT (v*kJ Y e f (u+1) n) (kI X e f (u+1) n) (2^(-(e-f+(U:Int))).toNat) (aU _),<-lT (v*kJ Y e f u n) (2^n*kI X e f u n) (2^(-(e-f+((U+n:Nat):Int))).toNat) (aU _)];congr 2
 · unfold kJ;rw[hU,hU'];simp only[aJ];rw[bJ (2^_) (2^_)]
 · unfold kI;rw[hU,hU',aJ,<-aI,bJ (2^n),aJ,aJ,<-aI,<-aI];congr 2;omega
theorem OW{A v:Nat}{g B:Int}{u n:Nat}(h1:B<=g)(h2:B<=-(u:Int))(hA:A*2^(g-B).toNat=v*2^(-(u:Int)-B).toNat)(hn:n=1\/n=2):A^n*2^((n:Int)*g-(n:Int)*B).toNat=v^n*2^(-((n*u:Nat):Int)-(n:Int)*B).toNat:=by
 rcases hn with rfl|rfl
 · rw[kU,kU,gI];simpa using hA
 · rw[show(((2:Nat):Int)*g-((2:Nat):Int)*B).toNat=(g-B).toNat+(g-B).toNat by omega,show(-((2*u:Nat):Int)-((2:Nat):Int)*B).toNat=(-(u:Int)-B).toNat+(-(u:Int)-B).toNat by omega,aI,aI,Nat.pow_two,Nat.pow_two,qx,hA,qx]
theorem OX{A Bv v v1 SM:Nat}{g h q B:Int}{u:Nat}(h1:B<=g-1)(h2:B<=-((u+1:Nat):Int))(hq:q=h-g)(hq0:0<=q)(hA:A*2^(g-B).toNat=v*2^(-(u:Int)-B).toNat)(hBv:Bv*2^(h-B).toNat=v1*2^(-(u:Int)-B).toNat)(hS:A+Bv*2^q.toNat=SM) :
 SM*2^(g-1-B).toNat=(v+v1)*2^(-((u+1:Nat):Int)-B).toNat:=by
 have k1:(g-B).toNat=(g-1-B).toNat+1:=by omega
 have k2:(-(u:Int)-B).toNat=(-((u+1:Nat):Int)-B).toNat+1:=by omega
 have k3:(h-B).toNat=q.toNat+((g-1-B).toNat+1):=by omega
 rw[k1,k2,dC,dC,<-aJ,<-aJ] at hA;rw[k3,k2,aI,dC,dC,<-aJ,<-aJ,<-aJ] at hBv;have e1:=nR (by omega:0<2) hA;have e2:=nR (by omega:0<2) hBv;rw[<-hS,fC,fC,e1,e2]
theorem C8(k:Nat):(gp k).2<=(gp (k+1)).2/\(gp (k+1)).2<=(gp k).2+1/\-1074<=(gp k).2:=by
 unfold gp
 by_cases h:k/4503599627370496=0
 · rw[if_pos h]
   by_cases h':(k+1)/4503599627370496=0
   · rw[if_pos h'];simp only;omega
   · rw[if_neg h'];simp only;omega
 · rw[if_neg h,if_neg (by omega)];simp only;omega
namespace S
end S
structure ZU (dg ls:Int) (En:Nat) (v:Nat->Nat) (u:Nat) (num:Nat->Nat×Int):Prop where
 grid:Rz v En
 small:En<9223372036854775808
 ub:u<=2000
 call:∀ (k:Nat) (w:World),k<=En->Calls Tryz.prog 163 #[.agg #[.int .i64 dg,.int .i64 ls,.int .u64 (En:Nat)],.int .u64 (k:Nat)] w fun r w'=>∃ p,r=.returned (.tuple #[p,.int .i64 (num k).2])/\Nt w.heap.size w' p (num k).1/\Below w.heap.size w w'
 val:∀ (k:Nat) (B:Int),B<=-(u:Int)->(num k).1*2^((num k).2-B).toNat=v k*2^(-(u:Int)-B).toNat/\(num k).1<9007199254740992/\B<=(num k).2/\((num k).1=0↔k=0)
 step:∀ k:Nat,(num k).2<=(num (k+1)).2/\(num (k+1)).2<=(num k).2+1/\-(u:Int)<=(num k).2
 top:∀ k:Nat,k<=En->(num k).2<=2000
theorem WY:ZU 53 (-1074) 9218868437227405312 vK 1074 gp :=
 ⟨Cx,by omega,by omega,fun k w hk=>zX k hk w,fun k B hB=>Ru k B hB,C8,fun k hk=>by unfold gp;split <;> simp only <;> omega⟩
theorem Gc{A Y:Nat}(hA:bl A<=200)(hY:bl Y<=262144):(ws (A*Y)).length<=2000000:=by
 have:=ug A Y;rw[gG];omega
theorem si(x:Int)(h0:-4611686018427387904<=x)(h1:x<=4611686018427387904):IntKind.i64.wrap x=x:=by rw[Pg];omega
theorem Jo(x y:Int):iT x y=-1\/iT x y=0\/iT x y=1:=by unfold iT;(repeat' split) <;> simp
theorem Tz{x y:Nat}:iT (x:Int) (y:Int)<=0↔x<=y:=by unfold iT;(repeat' split) <;> omega
theorem TA{x y:Nat}:0<iT (x:Int) (y:Int)↔y<x:=by unfold iT;(repeat' split) <;> omega
theorem Gd{x y:Nat}:iT (x:Int) (y:Int)=0↔x=y:=by unfold iT;(repeat' split) <;> omega
theorem Gf {dg ls:Int}{En:Nat}{v:Nat->Nat}{u:Nat}{num:Nat->Nat×Int}(H:ZU dg ls En v u num) {w:World}{s mb:Bool}{p a b:Option Addr}{lp cp la ca lb cb X Y:Nat}{e f:Int}(hN:Al w (.slice a la ca) X) (hD:Al w (.slice b lb cb) Y) (he:-1048576<=e/\e<=1048576) (hf:-1048576<=f/\f<=1048576) (hY:bl Y<=262144)
 (A W n U:Nat) (g B:Int) (hA:Al w (.slice p lp cp) A) (hn:n=1\/n=2) (hAb:bl A<=100) (hg:-4000<=g/\g<=4000) (hU:U<=4000) (h1:B<=g) (h2:B<=-(U:Int)) (hv:A*2^(g-B).toNat=W*2^(-(U:Int)-B).toNat) (sq:Bool) (XZ:sq=decide (n=2)) :
 Calls Tryz.prog 198 #[.slice p lp cp,.int .i64 g,.agg #[.bool s,.slice a la ca,.int .i64 e,.bool mb,.slice b lb cb,.int .i64 f],.bool sq] w fun r w'=>r=.returned (.int .i64 (iT ((W^n*kJ Y e f U n:Nat):Int) ((kI X e f U n:Nat):Int)))/\Below w.heap.size w w':=by
 have P:=OW h1 h2 hv hn;rcases hn with rfl|rfl
 · have e1:=Ty (A^1) (W^1) X Y (((1:Nat):Int)*g) e f (((1:Nat):Int)*B) U 1 (by omega) (by omega) P;rw[kU,show((1:Nat):Int)*g=g by omega] at e1;subst XZ;rw[<-e1];exact Ga hA hN hD (by omega) (g+f) 0 (si _ (by omega) (by omega)) (by omega) (A*Y) rfl (Gc (by omega) hY)
 · have e1:=Ty (A^2) (W^2) X Y (((2:Nat):Int)*g) e f (((2:Nat):Int)*B) U 2 (by omega) (by omega) P;rw[Nat.pow_two,show((2:Nat):Int)*g=2*g by omega] at e1;subst XZ;rw[<-e1];have hb:=ug A A;exact Gb hA hN hD (by omega) (2*g+f) (2*g) (si _ (by omega) (by omega)) (si _ (by omega) (by omega)) (by omega) (A*A*Y) rfl (Gc (by omega) hY) (by rw[gG];omega)
theorem WZ {dg ls:Int}{En:Nat}{v:Nat->Nat}{u:Nat}{num:Nat->Nat×Int}(H:ZU dg ls En v u num) {w:World}{s mb:Bool}{a b:Option Addr}{la ca lb cb X Y:Nat}{e f:Int}(hN:Al w (.slice a la ca) X) (hD:Al w (.slice b lb cb) Y) (he:-1048576<=e/\e<=1048576) (hf:-1048576<=f/\f<=1048576) (hY:bl Y<=262144)
 {n K:Nat} {t:Bool} {m:Int} (hn:n=1\/n=2) (L:jB v En n K t m (kI X e f u n) (kJ Y e f u n)) (sq:Bool) (XZ:sq=decide (n=2)) (mode:Int) (hm0:0<=mode) (pU:mode<=4) :
 Calls Tryz.prog 171 #[.agg #[.int .i64 dg,.int .i64 ls,.int .u64 (En:Nat)],.agg #[.bool s,.slice a la ca,.int .i64 e,.bool mb,.slice b lb cb,.int .i64 f],.bool sq,.int .i64 mode] w fun r w'=>r=.returned (.int .u64 ((if t then K else if kF mode K m s then K+1 else K:Nat):Nat))/\Below w.heap.size w w':=by
 have hub:=H.ub;have hone:=H.grid.one;have hsm:=H.small;have Jm:∀ k,bl (num k).1<=53:=fun k=>pQ _ (H.val k _ (Int.le_refl _)).2.1
 have C:=Tx (w:=w) (n:=s) (m:=mb) (a:=a) (b:=b) (la:=la) (ca:=ca) (lb:=lb) (cb:=cb) (e:=e) (f:=f) dg ls En (by omega) hsm num
  (fun k=>iT ((v k^n*kJ Y e f u n:Nat):Int) ((kI X e f u n:Nat):Int)) (fun k=>iT (((v k+v (k+1))^n*kJ Y e f u n:Nat):Int) ((2^n*kI X e f u n:Nat):Int)) sq mode hm0 pU
  (fun k=>len8 (by have:=Jm k;omega)) (fun k=>Jo _ _) (hid fun k w' hk=>H.call k w' (by omega))
  (hid fun k w' p l c hk hb hA=>by
   obtain⟨h1,h2,h3,h4⟩:=H.val k (-(u:Int)) (Int.le_refl _);have h5:=H.top k (by omega)
   exact Gf H (hN.below hb) (hD.below hb) he hf hY (num k).1 (v k) n u (num k).2 (-(u:Int)) hA hn (by have:=Jm k;omega) (by omega) (by omega) h3 (Int.le_refl _) h1 sq XZ)
  (hid fun k w' hk hb=>by
   obtain⟨h1,h2,h3,h4⟩:=H.val k (-(u:Int)-1) (by omega);obtain⟨i1,i2,i3,i4⟩:=H.val (k+1) (-(u:Int)-1) (by omega);obtain⟨j1,j2,j3⟩:=H.step k;have h5:=H.top k (by omega);have l1:=Jm k;have l2:=Jm (k+1);obtain⟨q,hq⟩:∃ q,(num (k+1)).2-(num k).2=q:=⟨_,rfl⟩;have hq2:q=0\/q=1:=by omega
   have hp:(2:Nat)^q.toNat<=2:=by rcases hq2 with h | h <;> subst h <;> decide
   have hM:(num (k+1)).1*2^q.toNat<=(num (k+1)).1*2:=eO _ hp;have M:=OX (u:=u) (B:=-(u:Int)-1) (by omega) (by omega) hq.symm (by omega) h1 i1 rfl;have lM:bl ((num (k+1)).1*2^q.toNat)<=60:=dQ (by rw[show(2:Nat)^60=1152921504606846976 by rfl];omega);have lS:bl ((num k).1+(num (k+1)).1*2^q.toNat)<=60:=dQ (by rw[show(2:Nat)^60=1152921504606846976 by rfl];omega);refine ZT dg ls En (k:Int) ((k+1:Nat):Int) (num k).2 (num (k+1)).2 q ((num k).2-1) _ (num k).1 (num (k+1)).1 _ sq (by rw[jE];omega) (by rw[hq];exact si _ (by omega) (by omega)) (by omega) (by omega) (si _ (by omega) (by omega)) rfl (fun h=>by have:=i4.1 h;omega) (len8 (by omega)) (len8 (by omega)) (len8 (by omega)) (len8 (by omega)) (hid fun x=>H.call k x (by omega)) (hid fun x=>H.call (k+1) x (by omega)) (hid fun x p l c hx hA=>?_);have:=Gf H ((hN.below hb).below hx) ((hD.below hb).below hx) he hf hY ((num k).1+(num (k+1)).1*2^q.toNat) (v k+v (k+1)) n (u+1) ((num k).2-1) (-(u:Int)-1) hA hn (by omega) (by omega) (by omega) (by omega) (by omega) M sq XZ (s:=s) (mb:=mb);rw[Jn] at this
   exact this)
 refine C.mono ?_;rintro r w' ⟨⟨k,rfl,hk,k1,k2⟩,hb⟩;refine⟨?_,hb⟩
 obtain⟨d1,d2,d3⟩:=L.doc H.grid (by omega) k hk (by
  rcases k1 with rfl|h
  · rw[H.grid.zero,Nat.zero_pow (by omega),dS];exact kg _
  · exact Tz.1 h) (by
  rcases k2 with h|h
  · exact .inl h
  · exact .inr (TA.1 h))
 subst d1;congr 3;unfold uE
 by_cases hx:kI X e f u n=v k^n*kJ Y e f u n
 · rw[if_pos (Gd.2 hx.symm),d2,decide_eq_true hx,if_pos rfl]
 · have ht:t=false:=by rw[d2];exact decide_eq_false hx
   have hm:-iT (((v k+v (k+1))^n*kJ Y e f u n:Nat):Int) ((2^n*kI X e f u n:Nat):Int)=m:=by
    rw[d3 ht,<-RX];unfold VR iT;simp only[Int.ofNat_lt]
   rw[if_neg (fun h=>hx (Gd.1 h).symm),hm,ht];rfl
section
attribute [local go_sem] B.aF
theorem Jp(k:Nat)(hk:k<9223372036854775808)(neg:Bool)(er:Int)(w:World) :
 Calls Tryz.prog 121 #[.int .u64 (k:Nat),.bool neg,.int .i64 er] w fun r w'=>r=.returned (.tuple #[.float .f64 (k+(if neg then 9223372036854775808 else 0)),.int .i64 er])/\w'=w:=by
 have e1:IntKind.u64.wrap ((k:Int)+9223372036854775808)=((k+9223372036854775808:Nat):Int):=by rw[jE];omega
 cases neg
 · go_enter Tryz.func121,Tryz.ntmps121;go_wp2;exact aB (v:=.tuple #[.float .f64 k,.int .i64 er]) (by simp[results,Tryz.results121,go_sem]) rfl ⟨by simp,rfl⟩
 · go_enter Tryz.func121,Tryz.ntmps121;go_wp2;exact aB (v:=.tuple #[.float .f64 (k+9223372036854775808),.int .i64 er]) (by simp[results,Tryz.results121,go_sem] <;> omega) rfl ⟨by simp,rfl⟩
end
theorem Tryz.Jq:Tryz.prog.underlying 166=some (.slice 93):=by kernel_rfl
theorem Tryz.Jr:(Tryz.prog.info? 93).map (fun i=>(i.zero,i.size,i.bytes))=some (some (.agg #[.bool false,.slice none 0 0,.int .i64 0,.bool false,.slice none 0 0,.int .i64 0]),6,80):=by kernel_rfl
structure R1 (w:World) (v:Value) (n:Bool) (x:Value) (e:Int) (m:Bool) (y:Value) (f:Int):Prop where
 ex:∃ g cap,v=.slice (some ⟨g,0,none⟩) 1 cap/\1<=cap/\g<w.heap.size/\(w.cell? ⟨g,0,none⟩=some (.bool n)/\w.cell? ⟨g,1,none⟩=some x/\w.cell? ⟨g,2,none⟩=some (.int .i64 e)/\w.cell? ⟨g,3,none⟩=some (.bool m)/\w.cell? ⟨g,4,none⟩=some y/\w.cell? ⟨g,5,none⟩=some (.int .i64 f))
theorem TB(w:World)(n:Bool)(a:Option Addr)(l c:Nat)(e:Int)(m:Bool)(b:Option Addr)(k d:Nat)(f:Int) :
 ∃ v' w',(Builtin.append_ #[166,166] 166 #[.slice none 0 0,.slice (some ⟨w.heap.size,0,none⟩) 1 1]).run Tryz.prog (w.alloc (.cells #[.bool n,.slice a l c,.int .i64 e,.bool m,.slice b k d,.int .i64 f] 93))=.ok v' w'/\R1 w' v' n (.slice a l c) e m (.slice b k d) f/\Below w.heap.size w w':=by
 obtain⟨i0,hi,hz0,hz1,hz2⟩:=info_parts Tryz.Jr;obtain⟨W,hW⟩:=af (w.alloc (.cells #[.bool n,.slice a l c,.int .i64 e,.bool m,.slice b k d,.int .i64 f] 93));have hq:Rq W w.heap.size n (.slice a l c) e m (.slice b k d) f:=by rw[hW];exact Rq.new _ _ _ _ _ _ _
 obtain⟨x0,x1,x2,x3,x4,x5⟩:=hq.facts;have hWs:w.heap.size<=W.heap.size:=by subst hW;simp
 obtain⟨v',w',r1,r2,r3,r4,r5⟩:=run_append_own_at (P:=Tryz.prog) W w.heap.size 166 166 93 i0 _ 6 80 Tryz.Jq hi hz0 hz1 hz2 rfl (by decide) (.slice none 0 0) 0 [] (Bu W w.heap.size 93 6) ⟨w.heap.size,0,none⟩ 1 1 [.bool n,.slice a l c,.int .i64 e,.bool m,.slice b k d,.int .i64 f] rfl (by
  intro j u hj
  match j,hj with
  | 0,hj=>simp at hj;subst hj;simpa [Addr.add] using x0
  | 1,hj=>simp at hj;subst hj;simpa [Addr.add] using x1
  | 2,hj=>simp at hj;subst hj;simpa [Addr.add] using x2
  | 3,hj=>simp at hj;subst hj;simpa [Addr.add] using x3
  | 4,hj=>simp at hj;subst hj;simpa [Addr.add] using x4
  | 5,hj=>simp at hj;subst hj;simpa [Addr.add] using x5
  | j+6,hj=>simp at hj) (by intro u hu;simp at hu;rcases hu with rfl | rfl | rfl | rfl | rfl | rfl <;> rfl) (by unfold maxLen;omega) (by omega) hWs
 rw[<-hW];refine⟨v',w',r1,?_,?_⟩
 · rcases r2.2 with ⟨h1,h2⟩ | ⟨g,cap,cur,rfl,hlo,hg,hn1,hm,hs,ht⟩
   · exact absurd (r4.1 h1).2 (by decide)
   · have C:∀ i,i<6->w'.cell? ⟨g,i,none⟩=([.bool n,.slice a l c,.int .i64 e,.bool m,.slice b k d,.int .i64 f]:List Value)[i]?:=by
      intro i hi6;have:=World.ownsRow.cellAt r2 i (by simp;omega);simpa using this
     exact⟨g,cap,rfl,hn1,(eZ.1 hg).1,C 0 (by omega),C 1 (by omega),C 2 (by omega),C 3 (by omega),C 4 (by omega),C 5 (by omega)⟩
 · have TC:Below w.heap.size w W:=by subst hW;exact ae _ _
   refine⟨r3.os.trans TC.os,r3.tape.trans TC.tape,r3.output.trans TC.output,dz TC.size r3.size,fun k hkl=>?_⟩;rw[r3.block k (by omega) (fun e=>by simp[Value.ownBlock] at e)];exact TC.block k hkl
end
section
open Go.RowKit J
attribute [local go_sem] bR
theorem gy {w:World}{ops:Array Oper}{rest:List Oper}{o:Oper}{a:Act}{Q:Exit->Act->World->Prop}(hgd:o.guard=none) (s x:Operand) (t:TypeId)
 (ho:o.op=.call { callee:=.builtin .append,args:=#[s,x],argTypes:=#[t,t] }) (v u:Value) (hs:a.eval s=v) (hx:a.eval x=u) (v':Value) (w':World)
 (hrun:(Builtin.append_ #[t,t] o.type #[v,u]).run Tryz.prog w=.ok v' w') (h:wpList Tryz.prog ops Q rest (a.put o.dst v') w'):wpList Tryz.prog ops Q (o::rest) a w:=by
 refine wpList_plain hgd fun K hK=>?_;unfold Oper.wp;simp[execOp,ho,resolve,invoke,builtin,hs,hx,hrun,Result.andThen];exact hK _ _ h
theorem sj(lo:Nat)(v:Value)(K:List Nat)(x:Nat)(w:World)(hb:w.ownsRow lo 27 1 v K.length (K.map lN))(hlo:lo<=w.heap.size)(hk:K.length<=1000000) :
 ∃ v' w',(Builtin.append_ #[22,22] 22 #[v,.slice (some ⟨w.heap.size,0,none⟩) 1 1]).run Tryz.prog (w.alloc (.cells #[.float .f64 x] 27))=.ok v' w'/\w'.ownsRow lo 27 1 v' (K++[x]).length ((K++[x]).map lN)/\Below lo w w'/\w.heap.size<=w'.heap.size:=by
 obtain⟨i0,hi,hz0,hz1,hz2⟩:=info_parts Tryz.yN;obtain⟨W,hW⟩:=af (w.alloc (.cells #[.float .f64 x] 27));have hcx:W.cell? ⟨w.heap.size,0,none⟩=some (.float .f64 x):=by subst hW;unfold World.cell?;simp only[gU];rfl
 have hWb:W.ownsRow lo 27 1 v K.length (K.map lN):=by subst hW;exact World.ownsRow.alloc hb _
 have hWs:w.heap.size<=W.heap.size:=by subst hW;simp
 obtain⟨v',w',r1,r2,r3,_,r5⟩:=run_append_own_at (P:=Tryz.prog) W lo 22 22 27 i0 (.float .f64 0) 1 8 Tryz.kN hi hz0 hz1 hz2 rfl (by decide) v K.length (K.map lN) hWb ⟨w.heap.size,0,none⟩ 1 1 [.float .f64 x] rfl (by
  intro j u hj
  match j,hj with
  | 0,hj=>simp at hj;subst hj;simpa [Addr.add] using hcx) (by intro u hu;simp at hu;subst hu;rfl) (by unfold maxLen;omega) (by omega) (by omega)
 rw[<-hW];refine⟨v',w',r1,?_,?_,?_⟩
 · rw[nQ,wz];exact r2
 · have TC:Below lo w W:=by subst hW;exact(ay _ _).alloc hlo _
   refine⟨r3.os.trans TC.os,r3.tape.trans TC.tape,r3.output.trans TC.output,dz TC.size r3.size,fun k hkl=>?_⟩
   rw[r3.block k (by omega) (fun e=>by
    rcases hWb.2 with ⟨e2,_⟩|⟨g,cap,cur,e2,hlo2,_⟩
    · rw[e2] at e;simp[Value.ownBlock] at e
    · rw[e2] at e;simp[Value.ownBlock] at e;omega)]
   exact TC.block k hkl
 · exact dz hWs r3.size
theorem yS{w:World}{lo n:Nat}{v:Value}{xs:List Nat}(h:w.ownsRow lo 27 1 v n (xs.map lN))(hn:n=xs.length):∃ a c,v=.slice a n c/\n<=c/\Fs w.heap.size w a xs:=by
 have h':=h;rcases h.2 with ⟨rfl,hn0⟩|⟨g,cap,cur,rfl,hlo,hg,hn1,hm,hs,ht⟩
 · have e:xs=[]:=uT (by rw[<-hn];simpa using hn0);subst e;have:n=0:=by simpa using hn
   subst this;exact⟨none,0,rfl,ak _,Fs.nil _ _ _⟩
 · refine⟨some ⟨g,0,none⟩,cap,rfl,hn1,fun _=>⟨g,0,(eZ.1 hg).1,rfl,fun i hi=>?_⟩⟩;have:=World.ownsRow.cellAt h' i (by omega);rw[cO,this,wC,dx hi,bG,dx hi];rfl
end
section
open Go.RowKit
theorem Xa{w:World}{v:Value}{X:Nat}(h1:Al w v X)(ng:Bool)(e:Int):Calls Tryz.prog 197 #[.agg #[.bool ng,v,.int .i64 e]] w fun r w'=>r=.returned (.int .i64 (pV ng X))/\Below w.heap.size w w':=by
 obtain⟨a,l,c,xs,rfl,hA,rfl,hl⟩:=h1;exact IU hA ng e
theorem KQ{w:World}{v:Value}{X:Nat}(h1:Al w v X)(n:Bool)(e:Int)(be:-9223372036854775808<=e/\e<=9223372036854775807)(o:Option (Bool×Nat×Int))(ho:mkS n X e=o)(s:Bool)(hs:o.isSome=s):Calls Tryz.prog 108 #[.agg #[.bool n,v,.int .i64 e]] w fun r w'=>(∃ p,r=.returned (.tuple #[.agg #[.bool (dN o),p,.int .i64 (dE o)],.bool s])/\Nt w.heap.size w' p (dX o))/\Below w.heap.size w w':=by
 obtain⟨a,l,c,xs,rfl,hA,rfl,hl⟩:=h1;subst ho hs;exact mh hA hl n e be.1 be.2
def MayA(lo:Nat)(w:World)(r:Ending)(o p:Option (Bool×Nat×Int))(er:Int):Prop :=
 ∃ v,r=.returned (.tuple #[v,.int .i64 er])/\(er=0->∃ x y,R1 w v (dN o) x (dE o) (dN p) y (dE p)/\Nt lo w x (dX o)/\Nt lo w y (dX p))
theorem yW{P:Prop}(h:P:=by
 go_upto_region 12 with fail
 rw[<-dA];clear dA hbad;go_wp2;exact aB (v:=.tuple #[.slice none 0 0,.int .i64 2]) (by simp[results,Tryz.results170,go_sem]) rfl ⟨⟨_,by rw[HE.o],fun h=>by rw[HE.o] at h;cases h⟩,H5.o⟩):P:=h
theorem may1 {w:World}{g:Nat}{n m:Bool}{a b:Option Addr}{la ca lb cb X Y:Nat}{e f:Int}(hq:Rq w g n (.slice a la ca) e m (.slice b lb cb) f) (hN:Al w (.slice a la ca) X) (hD:Al w (.slice b lb cb) Y) (be:-9223372036854775808<=e/\e<=9223372036854775807) (bf:-9223372036854775808<=f/\f<=9223372036854775807)
 (o p:Option (Bool×Nat×Int)) (ho:mkS n X e=o) (hp:mkS m Y f=p) (er:Int) (her:nE X n e Y m f=er) :
 Calls Tryz.prog 170 #[.slice (some ⟨g,0,none⟩) 1 1] w fun r w'=>MayA w.heap.size w' r o p er/\Below w.heap.size w w':=by
 have S0:=(aZ (ay w.heap.size w) hq);have AA:=(Du hN hD be bf ho hp her);have LL:Aside ((ws (dX o)).length<=8192/\(ws (dX p)).length<=8192):=ah ⟨by rw[<-ho];exact aK _ _ _,by rw[<-hp];exact aK _ _ _⟩;obtain⟨sg,hsg⟩:∃ x,pV m Y=x:=⟨_,rfl⟩;have SG:=ah hsg;clear hq hN hD be bf ho hp her hsg;have one:decide ((1:Int)<1)=false:=by decide
 go_enter Tryz.func170,Tryz.ntmps170;go_wp2
 go_loopg [4] 1 (fun gk i wr=>∃ k:Nat,gk+k=1/\i=.int .i64 (k:Nat)/\Aside (Below w.heap.size w wr/\(k=1->¬ pV m Y<0)))
 case atStart=>exact⟨0,by omega,by simp,ah ⟨S0.o.1,fun h=>by cases h⟩⟩
 case round =>
  obtain⟨k,lU,rfl,HA⟩:=hrel
  by_cases hk:k<1
  · obtain rfl:k=0:=by omega
    obtain⟨x0,x1,x2,x3,x4,x5⟩:=(S0.o.2.below HA.o.1).facts;have HC:=hid (Xa (AA.o.2.1.below HA.o.1) m f);rw[SG.o] at HC;go_wp2_with fail;clear x0 x1 x2 x3 x4 x5;refine HC.o.mono ?_;rintro r u1 ⟨rfl,hb⟩;have HB:=ah (HA.o.1.trans (hb.mono HA.o.1.size));clear HC hb HA
    by_cases hs:sg<0
    · have hs':decide (sg<0)=true:=decide_eq_true hs;have HE:Aside (er=1):=ah (by rw[<-AA.o.r6];unfold nE;rw[if_pos (by rw[SG.o];exact hs)]);clear hs;go_wp2;exact aB (v:=.tuple #[.slice none 0 0,.int .i64 1]) (by simp[results,Tryz.results170,go_sem]) rfl ⟨⟨_,by rw[HE.o],fun h=>by rw[HE.o] at h;cases h⟩,HB.o⟩
    · have hs':decide (sg<0)=false:=decide_eq_false hs;have HS:=ah hs;clear hs;go_wp2_with fail;go_roundg 0
      case measure=>omega
      case rel=>exact⟨1,by omega,by first | rfl | simp,ah ⟨HB.o,fun _=>by rw[SG.o];exact HS.o⟩⟩
  · obtain rfl:k=1:=by omega
    have HS:=ah (HA.o.2 rfl);have HB:=ah HA.o.1;clear HA;go_wp2
    go_loopg [6,5] 1 (fun gk i v wr=>∃ (k:Nat) (v0:Value),gk+k=1/\i=.int .i64 (k:Nat)/\v=v0/\Aside (Below w.heap.size w wr/\(k=0->v0=.slice none 0 0)/\(k=1->o.isSome=true/\p.isSome=true/\∃ x y,R1 wr v0 (dN o) x (dE o) (dN p) y (dE p)/\Nt w.heap.size wr x (dX o)/\Nt w.heap.size wr y (dX p))))
    case atStart=>exact⟨0,_,by omega,by simp,rfl,ah ⟨HB.o,fun _=>rfl,fun h=>by cases h⟩⟩
    case round =>
     obtain⟨j,v,hgj,rfl,hv,HA⟩:=hrel
     by_cases hj:j<1
     · obtain rfl:j=0:=by omega
       have hv0:=HA.o.2.1 rfl;subst hv0;subst hv;obtain⟨s1,hs1⟩:∃ x,o.isSome=x:=⟨_,rfl⟩;obtain⟨s2,hs2⟩:∃ x,p.isSome=x:=⟨_,rfl⟩;have SS:=(aZ hs1 hs2);have S1:=(iw HA.o.1 (S0.o.2.below HA.o.1) (AA.o.1.below HA.o.1) (AA.o.2.1.below HA.o.1));clear hs1 hs2 HA;obtain⟨x0,x1,x2,x3,x4,x5⟩:=S1.o.2.1.facts;have HC:=hid (KQ S1.o.r2.1 n e AA.o.r2.1 o AA.o.r4.1 s1 SS.o.1);go_wp2_with fail;clear x0 x1 x2 x3 x4 x5;refine HC.o.mono ?_;rintro r u1 ⟨⟨q,rfl,hN⟩,hb⟩;obtain⟨q1,d1,rfl,-⟩:=hN.shape;obtain⟨U1,aP⟩:=af (u1.alloc (.cells #[.bool (dN o),.slice q1 (ws (dX o)).length d1,.int .i64 (dE o)] 79))
       have S2:Aside (Below w.heap.size w U1/\Rq U1 g n (.slice a la ca) e m (.slice b lb cb) f/\Al U1 (.slice b lb cb) Y/\Dk U1 u1.heap.size (dN o) (.slice q1 (ws (dX o)).length d1) (dE o)/\Nt w.heap.size U1 (.slice q1 (ws (dX o)).length d1) (dX o)):=by
        have b0:=S1.o.1;have b1:=b0.trans (hb.mono b0.size);have hA:Below u1.heap.size u1 U1:=by rw[aP];exact ae _ _
        exact ah ⟨b1.trans (hA.mono b1.size),(S1.o.2.1.below hb).below hA,(S1.o.r3.below hb).below hA,by rw[aP];exact Dk.new _ _ _ _,(hN.mono b0.size).below hA⟩
       clear HC hb hN S1;obtain⟨x0,x1,x2,x3,x4,x5⟩:=S2.o.2.1.facts;have HC:=hid (KQ S2.o.r2.1 m f AA.o.r3.1 p AA.o.r5.1 s2 SS.o.2)
       go_upto_region 11 with fail
       rw[<-aP];clear aP;go_wp2_with fail;clear x0 x1 x2 x3 x4 x5;refine HC.o.mono ?_;rintro r u2 ⟨⟨q,rfl,hN⟩,hb⟩;obtain⟨q2,d2,rfl,-⟩:=hN.shape;obtain⟨U2,dA⟩:=af (u2.alloc (.cells #[.bool (dN p),.slice q2 (ws (dX p)).length d2,.int .i64 (dE p)] 79))
       have S3:Aside (Below w.heap.size w U2/\Dk U2 u1.heap.size (dN o) (.slice q1 (ws (dX o)).length d1) (dE o)/\Nt w.heap.size U2 (.slice q1 (ws (dX o)).length d1) (dX o)/\Dk U2 u2.heap.size (dN p) (.slice q2 (ws (dX p)).length d2) (dE p)/\Nt w.heap.size U2 (.slice q2 (ws (dX p)).length d2) (dX p)):=by
        have b0:=S2.o.1;have b1:=b0.trans (hb.mono b0.size);have hA:Below u2.heap.size u2 U2:=by rw[dA];exact ae _ _
        exact ah ⟨b1.trans (hA.mono b1.size),(S2.o.r3.1.below hb).below hA,(S2.o.r4.below hb).below hA,by rw[dA];exact Dk.new _ _ _ _,(hN.mono b0.size).below hA⟩
       clear HC hb hN S2
       by_cases hbad:s1=true/\s2=true
       · obtain⟨rfl,rfl⟩:=hbad;obtain⟨x0,x1,x2,x3,x4,x5⟩:=S3.o.2.1.facts;obtain⟨y0,y1,y2,y3,y4,y5⟩:=S3.o.r3.1.facts;obtain⟨v',w',r1,r2,r3⟩:=TB U2 (dN o) q1 (ws (dX o)).length d1 (dE o) (dN p) q2 (ws (dX p)).length d2 (dE p);have HR:=ah r1;have HN:=(iw r2 (S3.o.1.trans (r3.mono S3.o.1.size)) (S3.o.r2.1.below r3) (S3.o.r4.below r3));clear r1 r2 r3
         go_upto_region 14 with fail
         rw[<-dA];clear dA
         go_wp2_with (at_builtin;refine gy rfl (.tmp 55) (.tmp 59) 166 rfl _ _ rfl rfl _ _ HR.o ?_)
         go_roundg 0
         case measure=>omega
         case rel=>exact⟨1,_,by omega,by first | rfl | simp,rfl,ah ⟨HN.o.2.1,(fun h=>by cases h),fun _=>⟨SS.o.1,SS.o.2,_,_,HN.o.1,HN.o.r2.1,HN.o.r3⟩⟩⟩
       · have HE:Aside (er=2):=ah (by
          rw[<-AA.o.r6];unfold nE;rw[if_neg (by have:=HS.o;omega),AA.o.r4.1,AA.o.r5.1,SS.o.1,SS.o.2]
          rw[if_neg (by intro h;rw[wV] at h;exact hbad h)])
         have H5:=ah S3.o.1;clear S3
         cases s1
         · exact yW
         · cases s2
           · exact yW
           · exact absurd ⟨rfl,rfl⟩ hbad
     · obtain rfl:j=1:=by omega
       obtain⟨i1,i2,x,y,hR,hx,hy⟩:=HA.o.r2 rfl;obtain⟨gg,cap,rfl,hcap,hgg,c0,c1,c2,c3,c4,c5⟩:=hR.ex;subst hv;obtain⟨q1,d1,rfl,-⟩:=hx.shape;obtain⟨q2,d2,rfl,-⟩:=hy.shape;have HX:=(jD HA.o.1 hR hx hy i1 i2);clear HA hR hx hy hgg i1 i2;go_wp2
       go_loopg [11] 1 (fun gk i wq=>∃ (k:Nat),gk+k=1/\i=.int .i64 (k:Nat)/\wq=wr/\Aside (k=1->dX p≠0))
       case atStart=>exact⟨0,by omega,by simp,rfl,ah fun h=>by cases h⟩
       case round =>
        obtain⟨i,hgi,rfl,rfl,HP⟩:=hrel
        by_cases hi:i<1
        · obtain rfl:i=0:=by omega
          by_cases h0:dX p=0
          · have r1:((((ws (dX p)).length:Nat):Int)==0)=true:=by rw[h0,ws0];rfl
            have r2:((ws (dX p)).length==0)=true:=by rw[h0,ws0];rfl
            have HE:Aside (er=21):=ah (by
             rw[<-AA.o.r6];unfold nE
             rw[if_neg (by have:=HS.o;omega),AA.o.r4.1,AA.o.r5.1,HX.o.r4.1,HX.o.r5,if_pos (by decide),if_pos h0])
            clear h0;go_wp2;exact aB (v:=.tuple #[.slice none 0 0,.int .i64 21]) (by simp[results,Tryz.results170,go_sem]) rfl ⟨⟨_,by rw[HE.o],fun h=>by rw[HE.o] at h;cases h⟩,HX.o.1⟩
          · have r1:((((ws (dX p)).length:Nat):Int)==0)=false:=cB h0;have r2:((ws (dX p)).length==0)=false:=beq_eq_false_iff_ne.2 (fun h=>h0 ((bE _).1 h));have H0:=ah h0;clear h0;go_wp2_with fail;go_roundg 0
            case measure=>omega
            case rel=>exact⟨1,by omega,by first | rfl | simp,rfl,ah fun _=>H0.o⟩
        · obtain rfl:i=1:=by omega
          have HE:Aside (er=0):=ah (by
           rw[<-AA.o.r6];unfold nE
           rw[if_neg (by have:=HS.o;omega),AA.o.r4.1,AA.o.r5.1,HX.o.r4.1,HX.o.r5,if_pos (by decide),if_neg (HP.o rfl)])
          go_wp2;exact aB (v:=.tuple #[.slice (some ⟨gg,0,none⟩) 1 cap,.int .i64 0]) (by simp[results,Tryz.results170,go_sem]) rfl ⟨⟨_,by rw[HE.o],fun _=>⟨_,_,HX.o.2.1,HX.o.r2.1,HX.o.r3.1⟩⟩,HX.o.1⟩
theorem Da{w:World}{n m:Bool}{a b:Option Addr}{la ca lb cb X Y:Nat}{e f:Int}(dg ls:Int)(En:Nat)(sq:Bool)(mode:Int)(hm:mode<0\/4<mode) :
 Calls Tryz.prog 120 #[.agg #[.int .i64 dg,.int .i64 ls,.int .u64 (En:Nat)],.agg #[.bool n,.slice a la ca,.int .i64 e,.bool m,.slice b lb cb,.int .i64 f],.bool sq,.int .i64 mode] w fun r w'=>r=.returned (.tuple #[.int .u64 0,.bool false,.int .i64 1])/\Below w.heap.size w w':=by
 obtain⟨W1,hW1⟩:=af ((w.alloc (.cells #[.int .i64 dg,.int .i64 ls,.int .u64 (En:Nat)] 137)).alloc (.cells #[.bool n,.slice a la ca,.int .i64 e,.bool m,.slice b lb cb,.int .i64 f] 93));obtain⟨hB,Z,QR⟩:=mF w dg ls En n _ e m _ f W1 hW1;have S9:=ah hB;clear hB Z QR;have hd:(mode<0)\/(¬ mode<0/\4<mode):=by omega
 clear hm;go_enter Tryz.func120,Tryz.ntmps120
 go_upto_region 1 with fail
 rw[<-hW1];clear hW1;rcases hd with hd|⟨hd,hd2⟩
 · have d1:=decide_eq_true hd;clear hd;go_wp2;exact aB (v:=.tuple #[.int .u64 0,.bool false,.int .i64 1]) (by simp[results,Tryz.results120,go_sem]) rfl ⟨rfl,S9.o⟩
 · have d1:=decide_eq_false hd;have d2:=decide_eq_true hd2;clear hd hd2;go_wp2;exact aB (v:=.tuple #[.int .u64 0,.bool false,.int .i64 1]) (by simp[results,Tryz.results120,go_sem]) rfl ⟨rfl,S9.o⟩
theorem Gg {w:World}{n m:Bool}{a b:Option Addr}{la ca lb cb X Y:Nat}{e f:Int}(dg ls:Int) (En:Nat) (sq:Bool) (mode:Int) (hm0:0<=mode) (pU:mode<=4) (hN:Al w (.slice a la ca) X) (hD:Al w (.slice b lb cb) Y) (be:-9223372036854775808<=e/\e<=9223372036854775807) (bf:-9223372036854775808<=f/\f<=9223372036854775807)
 (o p:Option (Bool×Nat×Int)) (ho:mkS n X e=o) (hp:mkS m Y f=p) (er:Int) (her:nE X n e Y m f=er) (hne:er≠0) :
 Calls Tryz.prog 120 #[.agg #[.int .i64 dg,.int .i64 ls,.int .u64 (En:Nat)],.agg #[.bool n,.slice a la ca,.int .i64 e,.bool m,.slice b lb cb,.int .i64 f],.bool sq,.int .i64 mode] w fun r w'=>r=.returned (.tuple #[.int .u64 0,.bool false,.int .i64 er])/\Below w.heap.size w w':=by
 obtain⟨W1,hW1⟩:=af ((w.alloc (.cells #[.int .i64 dg,.int .i64 ls,.int .u64 (En:Nat)] 137)).alloc (.cells #[.bool n,.slice a la ca,.int .i64 e,.bool m,.slice b lb cb,.int .i64 f] 93));obtain⟨hB,Z,QR⟩:=mF w dg ls En n _ e m _ f W1 hW1;obtain⟨L1,hL1⟩:=af (W1.alloc (.cells #[.bool n,.slice a la ca,.int .i64 e,.bool m,.slice b lb cb,.int .i64 f] 93));have hB2:Below W1.heap.size W1 L1:=by rw[hL1];exact ae _ _
 have aC:=hB.trans (hB2.mono hB.size);have LQ:Rq L1 W1.heap.size n (.slice a la ca) e m (.slice b lb cb) f:=by rw[hL1];exact Rq.new _ _ _ _ _ _ _
 have HC:=hid (may1 LQ (hN.below aC) (hD.below aC) be bf o p ho hp er her);have LL:Aside ((ws (dX o)).length<=8192/\(ws (dX p)).length<=8192):=ah ⟨by rw[<-ho];exact aK _ _ _,by rw[<-hp];exact aK _ _ _⟩;obtain⟨x0,x1,x2,x3,x4,x5⟩:=QR.facts;have S0:=(aZ aC (Z.below hB2));have d1:decide (mode<0)=false:=decide_eq_false (by omega);have d2:decide (4<mode)=false:=decide_eq_false (by omega);clear hB hB2 aC LQ Z QR hN hD be bf ho hp her hm0 pU;go_enter Tryz.func120,Tryz.ntmps120
 go_upto_region 1 with fail
 rw[<-hW1];clear hW1;go_wp2_with fail;rw[<-hL1];clear hL1 x0 x1 x2 x3 x4 x5;refine HC.o.mono ?_;rintro r u1 ⟨⟨v,rfl,hR⟩,hb⟩;have S9:=ah (S0.o.1.trans (hb.mono S0.o.1.size));have hne':(er != 0)=true:=by simpa using hne
 have hne2:(er==0)=false:=by simpa using hne
 clear hb hR HC S0 LL;go_wp2;exact aB (v:=.tuple #[.int .u64 0,.bool false,.int .i64 er]) (by simp[results,Tryz.results120,go_sem]) rfl ⟨rfl,S9.o⟩
theorem JT{P:Prop}(h:P:=by
 go_upto_region 8 with fail
 go_region_held3 (fun w'=>w'.cell? ⟨gg,0,none⟩=some (.bool false)/\w'.cell? ⟨gg,1,none⟩=some (.slice q1 (ws (dX o)).length e1)/\w'.cell? ⟨gg,2,none⟩=some (.int .i64 (dE o))/\w'.cell? ⟨gg,3,none⟩=some (.bool (dN p))/\w'.cell? ⟨gg,4,none⟩=some (.slice q2 (ws (dX p)).length e2)/\w'.cell? ⟨gg,5,none⟩=some (.int .i64 (dE p))/\w'.cell? ⟨w.heap.size,0,none⟩=some (.int .i64 dg)/\w'.cell? ⟨w.heap.size,1,none⟩=some (.int .i64 ls)/\w'.cell? ⟨w.heap.size,2,none⟩=some (.int .u64 (En:Nat))) (go_keep) (first
  | (go_at_call 171
     first | with_reducible refine T1.o.mono ?_ | with_reducible refine T2.o.mono ?_
     rintro r v1 ⟨rfl,hb⟩;have hw:Below u1.heap.size u1 v1:=by first | exact hb | exact((ay _ u1).drew).trans (hb.mono (ak _))
     have hcg:∀ i,v1.cell? ⟨gg,i,none⟩=u1.cell? ⟨gg,i,none⟩:=fun i=>hw.cell (p:=⟨gg,i,none⟩) S1.o.r5;have k0:v1.cell? ⟨gg,0,none⟩=some (.bool false):=by rw[hcg,CC.o.1,NG.o]
     have k1:=(hcg 1).trans CC.o.2.1;have k2:=(hcg 2).trans CC.o.r2.1;have k3:=(hcg 3).trans CC.o.r3.1;have k4:=(hcg 4).trans CC.o.r4.1;have k5:=(hcg 5).trans CC.o.r5.1;obtain⟨j0,j1,j2⟩:=(S1.o.2.1.below hw).facts;have S9:=ah (S1.o.1.trans (hw.mono S1.o.1.size))
     clear hb hw hcg)
  | fail)
 all_goals (
  go_wp2
  exact aB (v:=.tuple #[.int .u64 (K:Nat),.bool false,.int .i64 0]) (by simp[results,Tryz.results120,go_sem]) rfl ⟨by rw[NG.o],S9.o⟩)):P:=h
theorem Js {w:World}{n m:Bool}{a b:Option Addr}{la ca lb cb X Y:Nat}{e f:Int}(dg ls:Int) (En:Nat) (sq:Bool) (mode:Int) (hm0:0<=mode) (pU:mode<=4) (hN:Al w (.slice a la ca) X) (hD:Al w (.slice b lb cb) Y) (be:-9223372036854775808<=e/\e<=9223372036854775807) (bf:-9223372036854775808<=f/\f<=9223372036854775807)
 (o p:Option (Bool×Nat×Int)) (ho:mkS n X e=o) (hp:mkS m Y f=p) (er:Int) (her:nE X n e Y m f=er) (h0:er=0) (XZ:sq=false\/dN o=false) (K:Nat)
 (HNb:Hid (∀ (u:World) (x y:Option Addr) (lx cx ly cy:Nat),Below w.heap.size w u->Al u (.slice x lx cx) (dX o)->Al u (.slice y ly cy) (dX p)->Calls Tryz.prog 171 #[.agg #[.int .i64 dg,.int .i64 ls,.int .u64 (En:Nat)],.agg #[.bool (dN o),.slice x lx cx,.int .i64 (dE o),.bool (dN p),.slice y ly cy,.int .i64 (dE p)],.bool sq,.int .i64 mode] u fun r w'=>r=.returned (.int .u64 (K:Nat))/\Below u.heap.size u w')) :
 Calls Tryz.prog 120 #[.agg #[.int .i64 dg,.int .i64 ls,.int .u64 (En:Nat)],.agg #[.bool n,.slice a la ca,.int .i64 e,.bool m,.slice b lb cb,.int .i64 f],.bool sq,.int .i64 mode] w fun r w'=>r=.returned (.tuple #[.int .u64 (K:Nat),.bool (dN o),.int .i64 0])/\Below w.heap.size w w':=by
 obtain⟨W1,hW1⟩:=af ((w.alloc (.cells #[.int .i64 dg,.int .i64 ls,.int .u64 (En:Nat)] 137)).alloc (.cells #[.bool n,.slice a la ca,.int .i64 e,.bool m,.slice b lb cb,.int .i64 f] 93));obtain⟨hB,Z,QR⟩:=mF w dg ls En n _ e m _ f W1 hW1;obtain⟨L1,hL1⟩:=af (W1.alloc (.cells #[.bool n,.slice a la ca,.int .i64 e,.bool m,.slice b lb cb,.int .i64 f] 93));have hB2:Below W1.heap.size W1 L1:=by rw[hL1];exact ae _ _
 have aC:=hB.trans (hB2.mono hB.size);have LQ:Rq L1 W1.heap.size n (.slice a la ca) e m (.slice b lb cb) f:=by rw[hL1];exact Rq.new _ _ _ _ _ _ _
 have HC:=hid (may1 LQ (hN.below aC) (hD.below aC) be bf o p ho hp er her);have LL:Aside ((ws (dX o)).length<=8192/\(ws (dX p)).length<=8192):=ah ⟨by rw[<-ho];exact aK _ _ _,by rw[<-hp];exact aK _ _ _⟩;obtain⟨x0,x1,x2,x3,x4,x5⟩:=QR.facts;have S0:=(aZ aC (Z.below hB2));have d1:decide (mode<0)=false:=decide_eq_false (by omega);have d2:decide (4<mode)=false:=decide_eq_false (by omega);clear hB hB2 aC LQ Z QR hN hD be bf ho hp her hm0 pU;go_enter Tryz.func120,Tryz.ntmps120
 go_upto_region 1 with fail
 rw[<-hW1];clear hW1;go_wp2_with fail;rw[<-hL1];clear hL1 x0 x1 x2 x3 x4 x5;refine HC.o.mono ?_;rintro r u1 ⟨⟨v,rfl,hR⟩,hb⟩;obtain⟨x,y,DI,hx,hy⟩:=hR h0;subst h0;obtain⟨gg,cap,rfl,hcap,hgg,c0,c1,c2,c3,c4,c5⟩:=DI.ex;obtain⟨q1,e1,rfl,-⟩:=hx.shape;obtain⟨q2,e2,rfl,-⟩:=hy.shape;have S1:=(jD (S0.o.1.trans (hb.mono S0.o.1.size)) (S0.o.2.below hb) (hx.al' (dz LL.o.1 (by decide))) (hy.al' (dz LL.o.2 (by decide))) DI hgg);clear hb hR HC S0 LL hx hy DI hgg;obtain⟨ng,Gu⟩:∃ z,dN o=z:=⟨_,rfl⟩;obtain⟨z0,z1,z2⟩:=S1.o.2.1.facts;have T1:=hid (HNb.o u1 q1 q2 _ e1 _ e2 S1.o.1 S1.o.r2.1 S1.o.r3.1);have dr:Below u1.heap.size u1 u1.drew:=(ay _ _).drew;have T2:=hid (HNb.o u1.drew q1 q2 _ e1 _ e2 S1.o.1.drew (S1.o.r2.1.below dr) (S1.o.r3.1.below dr));have CC:=(Uc c0 c1 c2 c3 c4 c5 z0 z1 z2);rw[Gu] at c0 T1 T2 XZ;have NG:=ah Gu;clear dr HNb Gu;rcases XZ with rfl|rfl
 · go_upto_region 8 with fail
   go_region_held3 (fun w'=>w'.cell? ⟨gg,0,none⟩=some (.bool ng)/\w'.cell? ⟨gg,1,none⟩=some (.slice q1 (ws (dX o)).length e1)/\w'.cell? ⟨gg,2,none⟩=some (.int .i64 (dE o))/\w'.cell? ⟨gg,3,none⟩=some (.bool (dN p))/\w'.cell? ⟨gg,4,none⟩=some (.slice q2 (ws (dX p)).length e2)/\w'.cell? ⟨gg,5,none⟩=some (.int .i64 (dE p))/\w'.cell? ⟨w.heap.size,0,none⟩=some (.int .i64 dg)/\w'.cell? ⟨w.heap.size,1,none⟩=some (.int .i64 ls)/\w'.cell? ⟨w.heap.size,2,none⟩=some (.int .u64 (En:Nat))) (go_keep) (first
    | (go_at_call 171
       first | with_reducible refine T1.o.mono ?_ | with_reducible refine T2.o.mono ?_
       rintro r v1 ⟨rfl,hb⟩;have hw:Below u1.heap.size u1 v1:=by first | exact hb | exact((ay _ u1).drew).trans (hb.mono (ak _))
       have hcg:∀ i,v1.cell? ⟨gg,i,none⟩=u1.cell? ⟨gg,i,none⟩:=fun i=>hw.cell (p:=⟨gg,i,none⟩) S1.o.r5;have k0:v1.cell? ⟨gg,0,none⟩=some (.bool ng):=by rw[hcg,CC.o.1,NG.o]
       have k1:=(hcg 1).trans CC.o.2.1;have k2:=(hcg 2).trans CC.o.r2.1;have k3:=(hcg 3).trans CC.o.r3.1;have k4:=(hcg 4).trans CC.o.r4.1;have k5:=(hcg 5).trans CC.o.r5.1;obtain⟨j0,j1,j2⟩:=(S1.o.2.1.below hw).facts;have S9:=ah (S1.o.1.trans (hw.mono S1.o.1.size))
       clear hb hw hcg)
    | fail)
   all_goals (
    go_wp2
    exact aB (v:=.tuple #[.int .u64 (K:Nat),.bool ng,.int .i64 0]) (by simp[results,Tryz.results120,go_sem]) rfl ⟨by rw[NG.o],S9.o⟩)
 · cases sq
   · exact JT
   · exact JT
theorem Db {w:World}{n m:Bool}{a b:Option Addr}{la ca lb cb:Nat}{e f:Int}(mode:Int) (k:Nat) (ng:Bool) (er:Int) (hk:k<9223372036854775808) (z:Nat) (hz:k+(if ng then 9223372036854775808 else 0)=z)
 (HR:Hid (∀ u:World,Below w.heap.size w u->Calls Tryz.prog 120 #[.agg #[.int .i64 53,.int .i64 (-1074),.int .u64 9218868437227405312],.agg #[.bool n,.slice a la ca,.int .i64 e,.bool m,.slice b lb cb,.int .i64 f],.bool false,.int .i64 mode] u fun r w'=>r=.returned (.tuple #[.int .u64 (k:Nat),.bool ng,.int .i64 er])/\Below u.heap.size u w')) :
 Calls Tryz.prog 73 #[.agg #[.bool n,.slice a la ca,.int .i64 e,.bool m,.slice b lb cb,.int .i64 f],.int .i64 mode] w fun r w'=>r=.returned (.tuple #[.float .f64 z,.int .i64 er])/\Below w.heap.size w w':=by
 obtain⟨W1,hW1⟩:=af (w.alloc (.cells #[.bool n,.slice a la ca,.int .i64 e,.bool m,.slice b lb cb,.int .i64 f] 93));have hB:Below w.heap.size w W1:=by rw[hW1];exact ae _ _
 have WW:Rq W1 w.heap.size n (.slice a la ca) e m (.slice b lb cb) f:=by rw[hW1];exact Rq.new _ _ _ _ _ _ _
 obtain⟨x0,x1,x2,x3,x4,x5⟩:=WW.facts;have S0:=(aZ hB WW);have HWd:Hid (∀ u:World,Calls Tryz.prog 121 #[.int .u64 (k:Nat),.bool ng,.int .i64 er] u fun r w'=>r=.returned (.tuple #[.float .f64 z,.int .i64 er])/\w'=u):=hid fun u=>by have h:=Jp k hk ng er u;rw[hz] at h;exact h
 clear hB WW hk hz;go_enter Tryz.func73,Tryz.ntmps73
 go_upto_region 1 with fail
 rw[<-hW1];clear hW1;have T1:=hid (rJ W1);have T2:=hid (rJ W1.drew)
 go_region_held3 (fun w'=>w'.cell? ⟨w.heap.size,0,none⟩=some (.bool n)/\w'.cell? ⟨w.heap.size,1,none⟩=some (.slice a la ca)/\w'.cell? ⟨w.heap.size,2,none⟩=some (.int .i64 e)/\w'.cell? ⟨w.heap.size,3,none⟩=some (.bool m)/\w'.cell? ⟨w.heap.size,4,none⟩=some (.slice b lb cb)/\w'.cell? ⟨w.heap.size,5,none⟩=some (.int .i64 f)) (go_keep) (first
  | (go_at_call 105
     first | with_reducible refine T1.o.mono ?_ | with_reducible refine T2.o.mono ?_
     rintro r v1 ⟨rfl,hb⟩;have hw:Below W1.heap.size W1 v1:=by first | exact hb | exact((ay _ W1).drew).trans (hb.mono (ak _))
     obtain⟨m0,m1,m2,m3,m4,m5⟩:=(S0.o.2.below hw).facts;have T3:=hid (HR.o v1 (S0.o.1.trans (hw.mono S0.o.1.size)));have S4:=(aZ (S0.o.1.trans (hw.mono S0.o.1.size)) (S0.o.2.below hw))
     clear hb hw)
  | (go_at_call 120
     with_reducible refine T3.o.mono ?_
     rintro r v2 ⟨rfl,hb⟩;obtain⟨k0,k1,k2,k3,k4,k5⟩:=(S4.o.2.below hb).facts;have S5:=ah (S4.o.1.trans (hb.mono S4.o.1.size))
     clear hb))
 all_goals (
  go_wp2_with fail;refine(HWd.o _).mono ?_;rintro r v3 ⟨rfl,rfl⟩;go_wp2
  exact aB (v:=.tuple #[.float .f64 z,.int .i64 er]) (by simp[results,Tryz.results73,go_sem]) rfl ⟨rfl,S5.o⟩)
theorem Gh{v:Nat->Nat}{top n S:Nat}(G:Rz v top)(hn:n≠0)(hS:0<S):jB v top n 0 true 0 0 S :=
 ⟨by have:=G.one;omega,hS,fun _=>by rw[G.zero,Nat.zero_pow (by omega),dS],(fun h=>by cases h),(fun h=>by cases h),(fun h=>by cases h)⟩
theorem Xb(e f:Int)(u n:Nat):kI 0 e f u n=0:=by unfold kI;rw[dS]
theorem ZV{Y:Nat}(h:Y≠0)(e f:Int)(u n:Nat):0<kJ Y e f u n:=by unfold kJ;exact iL (by omega) (aU _)
theorem OY{X:Nat}{n:Bool}{e:Int}{Y:Nat}{m:Bool}{f:Int}(h:nE X n e Y m f=0):(mkS n X e).isSome=true/\(mkS m Y f).isSome=true/\dX (mkS m Y f)≠0:=by
 unfold nE at h
 split at h
 · cases h
 · split at h
   · rename_i h2;rw[wV] at h2
     split at h
     · cases h
     · rename_i h3;exact⟨h2.1,h2.2,h3⟩
   · cases h
theorem KT{w:World}{n m:Bool}{a b:Option Addr}{la ca lb cb X Y:Nat}{e f:Int}(mode:Int)(hN:Al w (.slice a la ca) X)(hD:Al w (.slice b lb cb) Y)(be:-9223372036854775808<=e/\e<=9223372036854775807)(bf:-9223372036854775808<=f/\f<=9223372036854775807) :
 Calls Tryz.prog 73 #[.agg #[.bool n,.slice a la ca,.int .i64 e,.bool m,.slice b lb cb,.int .i64 f],.int .i64 mode] w fun r w'=>r=.returned (.tuple #[.float .f64 (mr iW ⟨n,.slice a la ca,X,e,m,.slice b lb cb,Y,f⟩ mode).1,.int .i64 (mr iW ⟨n,.slice a la ca,X,e,m,.slice b lb cb,Y,f⟩ mode).2])/\Below w.heap.size w w':=by
 by_cases hm:mode<0\/4<mode
 · have e1:mr iW ⟨n,.slice a la ca,X,e,m,.slice b lb cb,Y,f⟩ mode=(0,1):=by unfold mr;rw[if_pos hm]
   rw[e1];exact Db mode 0 false 1 (by omega) 0 rfl (hid fun u hu=>Da (X:=X) (Y:=Y) _ _ _ _ mode hm)
 · have hm0:0<=mode:=by omega
   have pU:mode<=4:=by omega
   have el:=yA ⟨n,.slice a la ca,X,e,m,.slice b lb cb,Y,f⟩
   by_cases h0:nE X n e Y m f=0
   · obtain⟨s1,s2,hY⟩:=OY h0;have F1:=tZ s1;have F2:=tZ s2;have ez:jU (Oc ⟨n,.slice a la ca,X,e,m,.slice b lb cb,Y,f⟩) 1=0:=el.trans h0
     obtain⟨K,t,mm,L,hq⟩:∃ K t mm,jB vK 9218868437227405312 1 K t mm (kI (dX (mkS n X e)) (dE (mkS n X e)) (dE (mkS m Y f)) 1074 1) (kJ (dX (mkS m Y f)) (dE (mkS n X e)) (dE (mkS m Y f)) 1074 1)/\iW (lI (dN (mkS n X e)) (dX (mkS n X e)) (dE (mkS n X e)) (dX (mkS m Y f)) (dE (mkS m Y f))) mode=((if t then K else if kF mode K mm (dN (mkS n X e)) then K+1 else K)+(if (dN (mkS n X e)) then 9223372036854775808 else 0),0):=by
      rcases F1.odd with h|⟨h1,h2,h3⟩
      · obtain⟨K,t,mm,L,hq⟩:=RP (dN (mkS n X e)) (dX (mkS n X e)) (dE (mkS n X e)) (dX (mkS m Y f)) (dE (mkS m Y f)) h hY F1.size F2.size;exact⟨K,t,mm,L,by have q:=hq mode hm0 pU;rw[q];rfl⟩
      · refine⟨0,true,0,?_,?_⟩
        · rw[h1,Xb];exact Gh Cx (by omega) (ZV hY _ _ _ _)
        · rw[h1,Fj _ _ _ _ hY F2.size];unfold iW;rw[if_neg (by omega)];simp[h2]
     have hfin:=L.fin
     have e1:mr iW ⟨n,.slice a la ca,X,e,m,.slice b lb cb,Y,f⟩ mode=((if t then K else if kF mode K mm (dN (mkS n X e)) then K+1 else K)+(if dN (mkS n X e) then 9223372036854775808 else 0),0):=by
      unfold mr;simp only;rw[if_neg hm,if_pos ez];exact hq
     rw[e1];refine Db mode _ (dN (mkS n X e)) 0 (by split;omega;split <;> omega) _ rfl (hid fun u hu=>?_);refine Js _ _ _ _ mode hm0 pU (hN.below hu) (hD.below hu) be bf _ _ rfl rfl _ h0 rfl (.inl rfl) _ (hid fun x p q lx cx ly cy hx A1 A2=>?_);exact WZ WY A1 A2 ⟨F1.down,F1.up⟩ ⟨F2.down,F2.up⟩ F2.size (.inl rfl) L false rfl mode hm0 pU
   · have ez:jU (Oc ⟨n,.slice a la ca,X,e,m,.slice b lb cb,Y,f⟩) 1=nE X n e Y m f:=el;have e1:mr iW ⟨n,.slice a la ca,X,e,m,.slice b lb cb,Y,f⟩ mode=(0,nE X n e Y m f):=by unfold mr;rw[if_neg hm,if_neg (by rw[ez];exact h0),ez]
     rw[e1];exact Db mode 0 false _ (by omega) 0 rfl (hid fun u hu=>Gg _ _ _ _ mode hm0 pU (hN.below hu) (hD.below hu) be bf _ _ rfl rfl _ rfl h0)
end
section
open Go.RowKit J
theorem fo_iv(V:Int)(m:Nat)(hm:m<=100000)(hV:V.natAbs<2^m):Iv (Dm V) (-1074) ((m:Int)-1074):=by
 unfold Dm;exact Qbb
theorem fo_fm(V:Int)(m:Nat)(hm:m<=100000)(hV:V.natAbs<2^m):Fm (Dm V):=(fo_iv V m hm hV).fm
theorem YX(k:Nat)(hk:k=1074):YY=2^k*XX:=by
 rw[Y_eq,X_eq,<-aI,show k+EX=EY by rw[hk];decide]
theorem TE{x:Nat}(hx:x<18446744073709551616):(9218868437227405312<aQ x/\kd x=5)\/(aQ x=9218868437227405312/\cZ x=true/\kd x=4)\/(aQ x=9218868437227405312/\cZ x=false/\kd x=3)\/(aQ x<9218868437227405312/\kd x<=2):=by
 have e:aQ x=x%9223372036854775808:=rfl;have e2:cZ x=decide (9223372036854775808<=x):=rfl;rw[e,e2];unfold kd
 by_cases h1:9218868437227405312<x%9223372036854775808
 · exact .inl ⟨h1,if_pos h1⟩
 · rw[if_neg h1]
   by_cases h2:x%9223372036854775808=9218868437227405312
   · rw[if_pos h2]
     by_cases h3:x/9223372036854775808=1
     · exact .inr (.inl ⟨h2,decide_eq_true (by omega),if_pos h3⟩)
     · exact .inr (.inr (.inl ⟨h2,decide_eq_false (by omega),if_neg h3⟩))
   · rw[if_neg h2];refine .inr (.inr (.inr ⟨by omega,?_⟩))
     repeat' split
     all_goals omega
end
section
open Go.RowKit
theorem Xc(b:Bool)(X:Nat)(e:Int)(a:Option Addr)(c:Nat)(w:World)(hA:Arg w a (ws X).length c (ws X))(hbl:bl X<=262144)(he0:-2000000<=e)(he1:e<=2000000) :
 Calls Tryz.prog 160 #[.agg #[.bool b,.slice a (ws X).length c,.int .i64 e]] w fun r w'=>r=.returned (.bool (decide ((2090:Int)<(bl X:Int)+e)))/\Below w.heap.size w w':=by
 have HL:Hid (∀ u:World,Below w.heap.size w u->Calls Tryz.prog 194 #[.slice a (ws X).length c] u fun r w'=>r=.returned (.int .i64 (bl X:Nat))/\w'=u):=fun u hb=>by
  have hA':=hA.below hb;have h8:=hA'.big;have:=l7 (ws X) a (ws X).length c u.heap.size u rfl (by omega) hA'.wf hA'.rd;exact xt
 obtain⟨W,hW⟩:=af (w.alloc (Obj.cells #[.bool b,.slice a (ws X).length c,.int .i64 e] 79));have HD:Aside (Dk W w.heap.size b (.slice a (ws X).length c) e/\Below w.heap.size w W):=by rw[hW];exact⟨Dk.new _ _ _ _,ax _ _⟩
 have HW:=ah hW;obtain⟨B,hB⟩:∃ B:Nat,B=bl X:=⟨_,rfl⟩;rw[<-hB] at HL hbl |-;have hwr:IntKind.i64.wrap ((B:Int)+e)=(B:Int)+e:=by rw[Pg];omega
 clear hA hW hB;go_enter Tryz.func160,Tryz.ntmps160
 go_upto_region 1 with fail
 rw[<-HW.o];have kS:Aside (W.drew.cell? ⟨w.heap.size,1,none⟩=some (.slice a (ws X).length c)/\W.drew.cell? ⟨w.heap.size,2,none⟩=some (.int .i64 e)):=⟨HD.o.1.facts.2.1,HD.o.1.facts.2.2.1⟩
 go_region_held3 (fun w'=>w'.cell? ⟨w.heap.size,1,none⟩=some (.slice a (ws X).length c)/\w'.cell? ⟨w.heap.size,2,none⟩=some (.int .i64 e)) (with_reducible exact kS.o) (first
  | (go_at_call 194
     with_reducible refine(HL.o _ HD.o.2.drew).mono ?_
     rintro r u ⟨rfl,rfl⟩))
 all_goals (
  clear kS;go_wp2
  refine aB (v:=.bool (decide ((2090:Int)<(B:Int)+e))) (by simp[results,Tryz.results160,go_sem]) rfl ⟨rfl,HD.o.2.drew⟩)
theorem Nt.stay{lo lo':Nat}{w w':World}{v:Value}{X:Nat}(h:Nt lo w v X)(hb:∀ g,lo<=g->w'.heap[g]?=w.heap[g]?)(hl:lo'<=lo):Nt lo' w' v X:=by
 refine⟨h.1,?_⟩;rcases h.2 with hn|⟨g,cap,cur,rfl,hlo,hgc,rest⟩
 · exact .inl hn
 · exact .inr ⟨g,cap,cur,rfl,by omega,(hb g hlo).trans hgc,rest⟩
theorem lC{B:Nat}{a w:World}{g i:Nat}{v:Value}(hg:B<=g)(h:Below B a w):Below B a (w.setCell ⟨g,i,none⟩ v):=h.trans ⟨rfl,rfl,rfl,by simp[World.setCell],fun k hk=>Below.heap_setCell _ _ _ _ (by simp;omega)⟩
theorem Xd(x k:Nat)(w:World)(HK:Hid (∀ u:World,Calls Tryz.prog 162 #[.float .f64 x] u fun r w'=>r=.returned (.int .i64 (k:Nat))/\w'=u))(hk:((k:Int)==0)=false) :
 Calls Tryz.prog 104 #[.float .f64 x] w fun r w'=>r=.returned (.agg #[.int .i64 (k:Nat),.bool false,.slice none 0 0,.int .i64 0])/\Below w.heap.size w w':=by
 have hne:w.heap.size≠w.heap.size+1:=by omega
 go_enter Tryz.func104,Tryz.ntmps104;go_wp2_with fail;refine(HK.o _).mono ?_;rintro r w1 ⟨rfl,rfl⟩;clear HK;go_wp2;exact aB (v:=.agg #[.int .i64 (k:Nat),.bool false,.slice none 0 0,.int .i64 0]) (by simp[results,Tryz.results104,go_sem]) rfl ⟨rfl,by first | exact(ax _ _).trans ((ax _ _).mono (by simp)) | exact lC (by simp) ((ax _ _).trans ((ax _ _).mono (by simp)))⟩
end
section
open Go.RowKit J
attribute [local go_sem] bR
theorem qP{x:Nat}(hx:x<18446744073709551616):(kd x=5/\jy x=4)\/((kd x=3\/kd x=4)/\jy x=3/\Ke x=cZ x)\/((kd x=1\/kd x=2)/\jy x=0/\Ke x=cZ x/\aY x/\tQ x=0)\/(kd x=0/\(jy x=1\/jy x=2)/\Ke x=cZ x/\aY x):=by
 rcases TE hx with ⟨a1,a2⟩|⟨a1,a2,a3⟩|⟨a1,a2,a3⟩|⟨a1,a2⟩
 · exact .inl ⟨a2,Ct a1⟩
 · exact .inr (.inl ⟨.inr a3,(tT a1).1,(tT a1).2⟩)
 · exact .inr (.inl ⟨.inl a3,(tT a1).1,(tT a1).2⟩)
 · have fx:aY x:=a1;obtain⟨p1,p2,p3,p4⟩:=ig hx fx
   by_cases h0:aQ x=0
   · have hk:kd x=1\/kd x=2:=by
      have e:x%9223372036854775808=0:=h0;unfold kd;rw[if_neg (by omega),if_neg (by omega),if_pos e]
      split
      · exact .inl rfl
      · exact .inr rfl
     rw[h0,Cy] at p2
     have hfr:vw x=0:=by
      exact Qbr
     refine .inr (.inr (.inl ⟨hk,?_,p1,fx,?_⟩))
     · rcases p4 with q | q
       · exact q.1
       · exact absurd hfr q.2
     · unfold tQ;rw[h0,Cy]
       cases cZ x <;> rfl
   · have hk:kd x=0:=by
      have e:¬ x%9223372036854775808=0:=h0;have e2:x%9223372036854775808<9218868437227405312:=a1;unfold kd;rw[if_neg (by omega),if_neg (by omega),if_neg e]
     refine .inr (.inr (.inr ⟨hk,?_,p1,fx⟩));rcases p4 with q|q
     · exfalso;rw[q.2,dS] at p2;have:=(ET (K:=0) (L:=aQ x)).2 (by omega);omega
     · exact q.1
theorem Dc{x:Nat}(h:aY x)(h0:tQ x=0):oZ x=Fy:=by
 rw[CY h];unfold oW;rw[h0];exact fA _ _
theorem rOf7y(x:Nat)(w:World)(hx:x<18446744073709551616)(fx:aY x)(hk:kd x=0) :
 Calls Tryz.prog 104 #[.float .f64 x] w fun r w'=>(∃ v,r=.returned (.agg #[.int .i64 0,.bool (dN (oZ x)),v,.int .i64 (dE (oZ x))])/\Nt w.heap.size w' v (dX (oZ x)))/\Below w.heap.size w w':=by
 have HK:=hid (fun u:World=>yD x hx u);rw[hk] at HK;have HO:=hid (fun u:World=>R7 x hx fx u);have FX:=ah (oW_fm x hx fx);rw[CY fx];obtain⟨ox,hox⟩:=af (oW x);rw[<-hox] at HO FX |-;have hne:w.heap.size≠w.heap.size+1:=by omega
 obtain⟨W,hW⟩:=af ((w.alloc (Obj.cells #[.int .i64 0,.bool false,.slice none 0 0,.int .i64 0] 133)).alloc (Obj.cells #[.int .i64 0,.bool false,.slice none 0 0,.int .i64 0] 133))
 have HD:Aside (Bl W w.heap.size 133 [.int .i64 0,.bool false,.slice none 0 0,.int .i64 0]/\Bl W (w.heap.size+1) 133 [.int .i64 0,.bool false,.slice none 0 0,.int .i64 0]/\Below w.heap.size w W/\W.heap.size=w.heap.size+2):=by
  rw[hW];exact⟨(Bl.new w 133 [_,_,_,_]).alloc _,Bl.new' (w.alloc _) 133 _ [_,_,_,_] (by simp),(ax _ _).trans ((ax _ _).mono (by simp)),by simp⟩
 have FI:=ah hW;clear hW hx fx hk hox;go_enter Tryz.func104,Tryz.ntmps104;go_wp2_with fail;refine(HK.o _).mono ?_;rintro r w1 ⟨rfl,rfl⟩;clear HK
 go_upto_region 2 with fail
 first | rw[<-FI.o] | skip
 have z0:=HD.o.2.1.cell 0 _ rfl;go_wp2_with fail;refine(HO.o W).mono ?_;rintro r u ⟨⟨v1,rfl,hN1⟩,hb1⟩;obtain⟨a1,c1,rfl,hN0⟩:=Lo.shape FX.o hN1;have D1:=HD.o.1.below hb1 HD.o.1.lt;have D2:=HD.o.2.1.below hb1 HD.o.2.1.lt;obtain⟨U,hU⟩:=af (((u.setCell ⟨w.heap.size+1,1,none⟩ (.bool (dN ox))).setCell ⟨w.heap.size+1,2,none⟩ (.slice a1 (ws (dX ox)).length c1)).setCell ⟨w.heap.size+1,3,none⟩ (.int .i64 (dE ox)));have s0:=D2.cell 0 _ rfl;have s1:=D2.cell 1 _ rfl;have s2:=D2.cell 2 _ rfl;have s3:=D2.cell 3 _ rfl;have g1:=D2.frozen 1;have g2:=D2.frozen 2;have g3:=D2.frozen 3
 have HN:Aside (Bl U w.heap.size 133 [.int .i64 0,.bool false,.slice none 0 0,.int .i64 0]/\Bl U (w.heap.size+1) 133 [.int .i64 0,.bool (dN ox),.slice a1 (ws (dX ox)).length c1,.int .i64 (dE ox)]/\Nt (w.heap.size+2) U (.slice a1 (ws (dX ox)).length c1) (dX ox)/\Below w.heap.size w U):=by
  have hz:=HD.o.r3;rw[hU];refine⟨Bl.but D1 ((((But.refl _ _).set 1 _).set 2 _).set 3 _) hne,((D2.set 1 _).set 2 _).set 3 _,?_,?_⟩
  · refine(hN1.mono (show w.heap.size+2<=W.heap.size by omega)).stay (fun g hg=>?_) (ak _);rw[Below.heap_setCell _ _ _ _ (by simp;omega),Below.heap_setCell _ _ _ _ (by simp;omega),Below.heap_setCell _ _ _ _ (by simp;omega)]
  · have:=HD.o.r2.1.trans (hb1.mono HD.o.r2.1.size);exact lC (by omega) (lC (by omega) (lC (by omega) this))
 have HU:=ah hU;clear hU hN1 hN0 hb1 HO D1 D2 HD FI z0
 go_upto_region 4 with fail
 rw[<-HU.o];clear HU s0 s1 s2 s3 g1 g2 g3;have q0:=HN.o.1.cell 0 _ rfl;have q1:=HN.o.1.cell 1 _ rfl;have q2:=HN.o.1.cell 2 _ rfl;have q3:=HN.o.1.cell 3 _ rfl;have f0:=HN.o.1.frozen 0;have f1:=HN.o.1.frozen 1;have f2:=HN.o.1.frozen 2;have f3:=HN.o.1.frozen 3;have s0:=HN.o.2.1.cell 0 _ rfl;have s1:=HN.o.2.1.cell 1 _ rfl;have s2:=HN.o.2.1.cell 2 _ rfl;have s3:=HN.o.2.1.cell 3 _ rfl
 have HF:Aside (Bl ((((U.setCell ⟨w.heap.size,0,none⟩ (.int .i64 0)).setCell ⟨w.heap.size,1,none⟩ (.bool (dN ox))).setCell ⟨w.heap.size,2,none⟩ (.slice a1 (ws (dX ox)).length c1)).setCell ⟨w.heap.size,3,none⟩ (.int .i64 (dE ox))) w.heap.size 133 [.int .i64 0,.bool (dN ox),.slice a1 (ws (dX ox)).length c1,.int .i64 (dE ox)]/\Nt w.heap.size ((((U.setCell ⟨w.heap.size,0,none⟩ (.int .i64 0)).setCell ⟨w.heap.size,1,none⟩ (.bool (dN ox))).setCell ⟨w.heap.size,2,none⟩ (.slice a1 (ws (dX ox)).length c1)).setCell ⟨w.heap.size,3,none⟩ (.int .i64 (dE ox))) (.slice a1 (ws (dX ox)).length c1) (dX ox)/\Below w.heap.size w ((((U.setCell ⟨w.heap.size,0,none⟩ (.int .i64 0)).setCell ⟨w.heap.size,1,none⟩ (.bool (dN ox))).setCell ⟨w.heap.size,2,none⟩ (.slice a1 (ws (dX ox)).length c1)).setCell ⟨w.heap.size,3,none⟩ (.int .i64 (dE ox)))):=by
  refine⟨(((HN.o.1.set 0 _).set 1 _).set 2 _).set 3 _,?_,?_⟩
  · refine HN.o.r2.1.stay (fun g hg=>?_) (by omega);rw[Below.heap_setCell _ _ _ _ (by simp;omega),Below.heap_setCell _ _ _ _ (by simp;omega),Below.heap_setCell _ _ _ _ (by simp;omega),Below.heap_setCell _ _ _ _ (by simp;omega)]
  · exact lC (ak _) (lC (ak _) (lC (ak _) (lC (ak _) HN.o.r3)))
 clear HN;go_wp2;have t0:=HF.o.1.cell 0 _ rfl;have t1:=HF.o.1.cell 1 _ rfl;have t2:=HF.o.1.cell 2 _ rfl;have t3:=HF.o.1.cell 3 _ rfl;refine aB (v:=.agg #[.int .i64 0,.bool (dN ox),.slice a1 (ws (dX ox)).length c1,.int .i64 (dE ox)]) (by simp[results,Tryz.results104,go_sem,t0,t1,t2,t3]) rfl ⟨⟨_,rfl,HF.o.2.1⟩,HF.o.r2⟩
theorem rOf7x(x:Nat)(w:World)(hx:x<18446744073709551616) :
 Calls Tryz.prog 104 #[.float .f64 x] w fun r w'=>(∃ v,r=.returned (.agg #[.int .i64 (kd x:Nat),.bool (dN (oZ x)),v,.int .i64 (dE (oZ x))])/\Nt w.heap.size w' v (dX (oZ x)))/\Below w.heap.size w w':=by
 have no:∀ k:Nat,kd x=k->((k:Int)==0)=false->oZ x=Fy->Calls Tryz.prog 104 #[.float .f64 x] w fun r w'=>(∃ v,r=.returned (.agg #[.int .i64 (kd x:Nat),.bool (dN (oZ x)),v,.int .i64 (dE (oZ x))])/\Nt w.heap.size w' v (dX (oZ x)))/\Below w.heap.size w w':=fun k hk h0 ho=>by
  refine(Xd x k w (hid (fun u=>by have:=yD x hx u;rw[hk] at this;exact this)) h0).mono ?_;rintro r w' ⟨rfl,hb⟩;rw[ho,hk];exact⟨⟨_,rfl,Nt.nil _ _⟩,hb⟩
 rcases qP hx with ⟨k,c⟩|⟨k,c,_⟩|⟨k,c,n,f,v⟩|⟨k,c,n,f⟩
 · refine no 5 k rfl (uD ?_);intro f;rcases(ig hx f).2.2.2 with q|q <;> omega
 · have nf:¬ aY x:=by intro f;rcases(ig hx f).2.2.2 with q | q <;> omega
   rcases k with k|k
   · exact no 3 k rfl (uD nf)
   · exact no 4 k rfl (uD nf)
 · rcases k with k | k
   · exact no 1 k rfl (Dc f v)
   · exact no 2 k rfl (Dc f v)
 · rw[k];exact rOf7y x w hx f k
end
section
open Go.RowKit J
attribute [local go_sem] bR
def Dt(j:Nat):Bool:=((j:Int)==1) || ((j:Int)==2)
def vF(j:Nat):Bool:=((j:Int)==3) || ((j:Int)==4)
def na7(x y:Nat):Bool:=((kd x:Int)==5) || ((kd y:Int)==5) || ((Dt (kd x) || Dt (kd y))&&(vF (kd x) || vF (kd y)))
theorem Qbv{P:Prop}(h:P:=by
 exfalso;rcases k with k | k <;> rw[k,k'] at h <;> simp[Dt,vF] at h):P:=h
theorem Qbs{P:Prop}(h:P:=by
 exfalso;rcases k' with k' | k' <;> rw[k,k'] at h <;> simp[Dt,vF] at h):P:=h
theorem Qbc{P:Prop}(h:P:=by
 exfalso;rcases k with k | k <;> rcases k' with k' | k' <;> rw[k,k'] at h <;> simp[Dt,vF] at h):P:=h
theorem j7{P:Prop}(h:P:=by
 exfalso;rcases k with k | k <;> rw[k] at h <;> simp[vF] at h):P:=h
theorem yy{P:Prop}(h:P:=by
 have e:pK x y=1:=by unfold pK pk;rw[c,c',if_pos (.inr (by omega))]
 refine⟨fun _=>⟨e,tz (by omega)⟩,fun h=>?_,fun h=>?_,fun h=>?_⟩
 all_goals exfalso;rcases k with k | k <;> rcases k' with k' | k' <;> rw[k,k'] at h <;> simp[Dt,vF] at h):P:=h
theorem z6{P:Prop}(h:P:=by
 refine⟨fun _=>⟨e,tz (by omega)⟩,(fun h=>by simp at h),(fun h=>by simp at h),(fun h=>by simp at h)⟩):P:=h
theorem prod7{x y:Nat}(hx:x<18446744073709551616)(hy:y<18446744073709551616) :
 (na7 x y=true->pK x y=1/\pT x y=0)/\(na7 x y=false->(vF (kd x) || vF (kd y))=true->(aQ x<=9218868437227405312/\aQ y<=9218868437227405312)/\pK x y=(if (cZ x != cZ y) then 3 else 2)/\pT x y=0) /\
 (na7 x y=false->(vF (kd x) || vF (kd y))=false->(Dt (kd x) || Dt (kd y))=true->(aQ x<=9218868437227405312/\aQ y<=9218868437227405312)/\pK x y=(if (cZ x != cZ y) then 4 else 5)/\pT x y=0) /\
 (na7 x y=false->(vF (kd x) || vF (kd y))=false->(Dt (kd x) || Dt (kd y))=false->aY x/\aY y/\pK x y=0):=by
 have Gu:∀ a b:Bool,(!a==b)=(a != b):=by decide
 have inf:∀ z:Nat,jy z=3->aQ z<=9218868437227405312:=fun z h=>by
  rcases gT 9218868437227405312 (aQ z) with q|q
  · rw[Ct q] at h;omega
  · exact q
 have tz:pK x y≠0->pT x y=0:=fun h=>by unfold pT;unfold pK at h;exact oz h
 unfold na7;rcases qP hx with ⟨k,c⟩|⟨k,c,n⟩|⟨k,c,n,f,v⟩|⟨k,c,n,f⟩
 · have e:pK x y=1:=by
    unfold pK pk;rw[c,if_pos (.inl (by have:=Ry y;omega))]
   rw[k];exact z6
 · rcases qP hy with ⟨k',c'⟩ | ⟨k',c',n'⟩ | ⟨k',c',n',f',v'⟩ | ⟨k',c',n',f'⟩
   · have e:pK x y=1:=by unfold pK pk;rw[c,c',if_pos (.inl (by omega))]
     rw[k'];exact z6
   · have e:pK x y=(if (cZ x != cZ y) then 3 else 2):=by unfold pK pk;rw[c,c',n,n',Gu,if_neg (by omega),if_pos (by omega)]
     have e0:pK x y≠0:=by rw[e];split <;> omega
     refine⟨fun h=>?_,fun _ _=>⟨⟨inf x c,inf y c'⟩,e,tz e0⟩,fun _ h=>?_,fun _ h=>?_⟩
     · exact Qbc
     · exact j7
     · exact j7
   · exact yy
   · have e:pK x y=(if (cZ x != cZ y) then 3 else 2):=by unfold pK pk;rw[c,n,n',Gu,if_neg (by omega),if_pos (by omega)]
     have e0:pK x y≠0:=by rw[e];split <;> omega
     have ZW:aQ y<=9218868437227405312:=fD f';refine⟨fun h=>?_,fun _ _=>⟨⟨inf x c,ZW⟩,e,tz e0⟩,fun _ h=>?_,fun _ h=>?_⟩
     · exact Qbv
     · exact j7
     · exact j7
 · have hxf:aQ x<=9218868437227405312:=fD f;rcases qP hy with ⟨k',c'⟩|⟨k',c',n'⟩|⟨k',c',n',f',v'⟩|⟨k',c',n',f'⟩
   · have e:pK x y=1:=by unfold pK pk;rw[c,c',if_pos (.inl (by omega))]
     rw[k'];exact z6
   · exact yy
   · have e:pK x y=(if (cZ x != cZ y) then 4 else 5):=by unfold pK pk;rw[c,c',n,n',Gu,if_neg (by omega),if_neg (by omega),if_pos (by omega)]
     have e0:pK x y≠0:=by rw[e];split <;> omega
     have ZW:aQ y<=9218868437227405312:=fD f';refine⟨fun h=>?_,fun _ h=>?_,fun _ _ _=>⟨⟨hxf,ZW⟩,e,tz e0⟩,fun _ _ h=>?_⟩
     · exact Qbc
     · exfalso;rcases k with k | k <;> rcases k' with k' | k' <;> rw[k,k'] at h <;> simp[vF] at h
     · exfalso;rcases k with k | k <;> rw[k] at h <;> simp[Dt] at h
   · have e:pK x y=(if (cZ x != cZ y) then 4 else 5):=by unfold pK pk;rw[c,n,n',Gu,if_neg (by omega),if_neg (by omega),if_pos (by omega)]
     have e0:pK x y≠0:=by rw[e];split <;> omega
     have ZW:aQ y<=9218868437227405312:=fD f';refine⟨fun h=>?_,fun _ h=>?_,fun _ _ _=>⟨⟨hxf,ZW⟩,e,tz e0⟩,fun _ _ h=>?_⟩
     · exact Qbv
     · exfalso;rcases k with k | k <;> rw[k,k'] at h <;> simp[vF] at h
     · exfalso;rcases k with k | k <;> rw[k] at h <;> simp[Dt] at h
 · have hxf:aQ x<=9218868437227405312:=fD f;rcases qP hy with ⟨k',c'⟩|⟨k',c',n'⟩|⟨k',c',n',f',v'⟩|⟨k',c',n',f'⟩
   · have e:pK x y=1:=by unfold pK pk;rw[c',if_pos (.inl (by omega))]
     rw[k'];exact z6
   · have e:pK x y=(if (cZ x != cZ y) then 3 else 2):=by unfold pK pk;rw[c',n,n',Gu,if_neg (by omega),if_pos (by omega)]
     have e0:pK x y≠0:=by rw[e];split <;> omega
     refine⟨fun h=>?_,fun _ _=>⟨⟨hxf,inf y c'⟩,e,tz e0⟩,fun _ h=>?_,fun _ h=>?_⟩
     · exact Qbs
     · exfalso;rcases k' with k' | k' <;> rw[k'] at h <;> simp[vF] at h
     · exfalso;rcases k' with k' | k' <;> rw[k'] at h <;> simp[vF] at h
   · have e:pK x y=(if (cZ x != cZ y) then 4 else 5):=by unfold pK pk;rw[c',n,n',Gu,if_neg (by omega),if_neg (by omega),if_pos (by omega)]
     have e0:pK x y≠0:=by rw[e];split <;> omega
     have ZW:aQ y<=9218868437227405312:=fD f';refine⟨fun h=>?_,fun _ h=>?_,fun _ _ _=>⟨⟨hxf,ZW⟩,e,tz e0⟩,fun _ _ h=>?_⟩
     · exact Qbs
     · exfalso;rcases k' with k' | k' <;> rw[k,k'] at h <;> simp[vF] at h
     · exfalso;rcases k' with k' | k' <;> rw[k'] at h <;> simp[Dt] at h
   · have e:pK x y=0:=by unfold pK pk;rw[if_neg (by omega),if_neg (by omega),if_neg (by omega)]
     refine⟨fun h=>?_,fun _ h=>?_,fun _ _ h=>?_,fun _ _ _=>⟨f,f',e⟩⟩
     all_goals exfalso;rw[k,k'] at h;simp[Dt,vF] at h
end
section
open Go.RowKit J
attribute [local go_sem] bR
def Lt(w:World)(g:Nat)(k:Nat)(o:Option (Bool×Nat×Int)):Prop:=∃ a c,Bl w g 133 [.int .i64 (k:Nat),.bool (dN o),.slice a (ws (dX o)).length c,.int .i64 (dE o)]/\Nt 0 w (.slice a (ws (dX o)).length c) (dX o)
theorem Qbt{P:Prop}(h:P:=by
 obtain⟨a,c,h1,h2⟩:=h;exact⟨a,c,h1.below hb h1.lt,h2.below hb⟩):P:=h
theorem Lt.below{w w':World}{g k:Nat}{o:Option (Bool×Nat×Int)}(h:Lt w g k o)(hb:Below w.heap.size w w'):Lt w' g k o:=by
 exact Qbt
theorem Lt.new{w:World}{k:Nat}{o:Option (Bool×Nat×Int)}{a:Option Addr}{c:Nat}(hN:Nt 0 w (.slice a (ws (dX o)).length c) (dX o)):Lt (w.alloc (Obj.cells #[.int .i64 (k:Nat),.bool (dN o),.slice a (ws (dX o)).length c,.int .i64 (dE o)] 133)) w.heap.size k o :=
 ⟨a,c,Bl.new w 133 [_,_,_,_],hN.below (ae _ _)⟩
end
end Go.Proofs.YtjppdacikihpdaaGreatDoor
