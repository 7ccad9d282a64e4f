import Derived.Test.YtfmfhehbdfhnbaaGreatDoorMO7ox
import Derived.Test.YtfmfhehbdfhnbaaGreatDoorW40x
import Derived.BigQuiet
import Derived.Deep.Cut
import Derived.Test.YtfmfhehbdfhnbaaGreatDoorZ14x
import Derived.Test.YtfmfhehbdfhnbaaGreatDoorD32ex
import Derived.OwnWalk
import Derived.ArgAppend
import Derived.Maps.AppendAt
import Derived.WalkMore
import Derived.Test.YtfmfhehbdfhnbaaGreatDoorM1x
import Derived.Test.YtfmfhehbdfhnbaaGreatDoorW17x
import Derived.Test.YtfmfhehbdfhnbaaGreatDoorD2x
import Derived.Deep.RegionHeld3
set_option linter.unusedVariables false
set_option linter.unusedSimpArgs false
set_option maxHeartbeats 16000000
set_option maxRecDepth 20000
namespace Go.Proofs.YtfmfhehbdfhnbaaGreatDoor
namespace J
end J
section
open Go.RowKit
def tK (mode:Int) (n:Bool) (k:Nat) (z hv:Int):Nat:=if z=0 then k else if kW mode k hv n then k+1 else k
theorem Si {w:World}{v u:Value}{X Y:Nat}(h1:Al w v X) (h2:Al w u Y):Calls Tryz.prog 106 #[v,u] w fun r w'=>∃ p,r=.returned p/\Nt w.heap.size w' p (X+Y)/\Below w.heap.size w w':=by
 obtain ⟨a,l,c,xs,rfl,hA,rfl,hl⟩:=h1;obtain ⟨b,k,d,ys,rfl,hB,rfl,hk⟩:=h2;exact yD hA hB af af rfl
theorem mP (w:World) (dg ls:Int) (En:Nat) (n:Bool) (v:Value) (e:Int) (m:Bool) (u:Value) (f:Int) (W:World) (hW:W=(w.alloc (.cells #[.int .i64 dg,.int .i64 ls,.int .u64 (En:Nat)] 98)).alloc (.cells #[.bool n,v,.int .i64 e,.bool m,u,.int .i64 f] 58)) :
 Below w.heap.size w W/\Zk W w.heap.size dg ls En/\Rq W (w.heap.size+1) n v e m u f:=by
 rw [hW];refine ⟨(ae w _).alloc aO _,?_,?_⟩
 · have h:Zk (w.alloc (.cells #[.int .i64 dg,.int .i64 ls,.int .u64 (En:Nat)] 98)) w.heap.size dg ls En:=ib _ _;exact h.below (ae _ _)
 · have:=Rq.new (w.alloc (.cells #[.int .i64 dg,.int .i64 ls,.int .u64 (En:Nat)] 98)) n v e m u f;rw [dL] at this;exact this
theorem VW {w:World}{n m:Bool}{a b:Option Addr}{la ca lb cb:Nat}{e f:Int}(dg ls:Int) (En:Nat) (k k1 g h q fm hv:Int) (A Bv SM:Nat) (sq:Bool)
 (hk1:IntKind.u64.wrap (k+1)=k1) (hq:IntKind.i64.wrap (h-g)=q) (hq0:0<=q) (hq1:q<=1) (hfm:IntKind.i64.wrap (g-1)=fm) (hS:A+Bv*2^q.toNat=SM) (hB0:Bv≠0) (lA:(ws A).length<=8192) (lB:(ws Bv).length<=8192) (lM:(ws (Bv*2^q.toNat)).length<=8192) (lS:(ws SM).length<=8192)
 (HN1:Hid (∀ u:World,Calls Tryz.prog 151 #[.agg #[.int .i64 dg,.int .i64 ls,.int .u64 (En:Nat)],.int .u64 k] u fun r w'=>∃ v,r=.returned (.tuple #[v,.int .i64 g])/\Nt u.heap.size w' v A/\Below u.heap.size u w'))
 (HN2:Hid (∀ u:World,Calls Tryz.prog 151 #[.agg #[.int .i64 dg,.int .i64 ls,.int .u64 (En:Nat)],.int .u64 k1] u fun r w'=>∃ v,r=.returned (.tuple #[v,.int .i64 h])/\Nt u.heap.size w' v Bv/\Below u.heap.size u w'))
 (HA:Hid (∀ (u:World) (p:Option Addr) (l c:Nat),Below w.heap.size w u->Al u (.slice p l c) SM->Calls Tryz.prog 152 #[.slice p l c,.int .i64 fm,.agg #[.bool n,.slice a la ca,.int .i64 e,.bool m,.slice b lb cb,.int .i64 f],.bool sq] u fun r w'=>r=.returned (.int .i64 hv)/\Below u.heap.size u w')) :
 Calls Tryz.prog 153 #[.agg #[.int .i64 dg,.int .i64 ls,.int .u64 (En:Nat)],.int .u64 k,.agg #[.bool n,.slice a la ca,.int .i64 e,.bool m,.slice b lb cb,.int .i64 f],.bool sq] w fun r w'=>r=.returned (.int .i64 hv)/\Below w.heap.size w w':=by
 obtain ⟨W1,hW1⟩:=ah ((w.alloc (.cells #[.int .i64 dg,.int .i64 ls,.int .u64 (En:Nat)] 98)).alloc (.cells #[.bool n,.slice a la ca,.int .i64 e,.bool m,.slice b lb cb,.int .i64 f] 58));obtain ⟨hB,Z,QR⟩:=mP w dg ls En n _ e m _ f W1 hW1;obtain ⟨p0,p1,p2⟩:=Z.facts;have S0:=(aZ hB Z QR);have LN:=(rT lA lB lM lS hB0 hS hq0 hq1);have H1:=hid (HN1.o W1);clear hB Z QR lA lB lM lS hB0 hS hq0 hq1 HN1;go_enter Tryz.func153,Tryz.ntmps153
 go_upto_region 1 with fail
 rw [<-hW1];clear hW1;go_wp2_with fail;clear p0 p1 p2;refine H1.o.mono ?_;rintro r u1 ⟨v,rfl,hN,hb⟩;obtain ⟨a1,c1,rfl,-⟩:=hN.shape;have S1:=(gK (S0.o.1.trans (hb.mono S0.o.1.size)) (S0.o.2.1.below hb) (S0.o.r2.below hb) (hN.al' (dP LN.o.1 au)));clear hN hb S0 H1;obtain ⟨p0,p1,p2⟩:=S1.o.2.1.facts;have H2:=hid (HN2.o u1);clear HN2;go_wp2_with fail;clear p0 p1 p2;refine H2.o.mono ?_;rintro r u2 ⟨v,rfl,hN,hb⟩;have H3:=hid (oK hN q (by have:=LN.o;omega) (by have:=LN.o;omega) LN.o.r4.1 (dP LN.o.2.1 au));obtain ⟨a2,c2,rfl,-⟩:=hN.shape;have S2:=(aZ (S1.o.1.trans (hb.mono S1.o.1.size)) (S1.o.r2.1.below hb) (S1.o.r3.below hb));clear hN hb S1 H2;rw [if_neg (by have:=LN.o;omega)] at H3;go_wp2_with fail;refine H3.o.mono ?_;rintro r u3 ⟨v,rfl,hN,hb⟩;obtain ⟨a3,c3,rfl,-⟩:=hN.shape;have S3:=(aJ (S2.o.1.trans (hb.mono S2.o.1.size)) (S2.o.2.1.below hb));have H4:=hid (Si (S2.o.r2.below hb) (hN.al' (dP LN.o.r2.1 au)));rw [LN.o.r5.1] at H4;clear hN hb S2 H3;go_wp2_with fail;refine H4.o.mono ?_;rintro r u4 ⟨v,rfl,hN,hb⟩;obtain ⟨a4,c4,rfl,-⟩:=hN.shape;have S4:=(aJ (S3.o.1.trans (hb.mono S3.o.1.size)) (S3.o.2.below hb));obtain ⟨x0,x1,x2,x3,x4,x5⟩:=S4.o.2.facts;have H5:=hid (HA.o u4 _ _ _ S4.o.1 (hN.al' (dP LN.o.r3.1 au)));clear hN hb S3 H4 HA;go_wp2_with fail;clear x0 x1 x2 x3 x4 x5;refine H5.o.mono ?_;rintro r u5 ⟨rfl,hb⟩;have S5:=ak (S4.o.1.trans (hb.mono S4.o.1.size));clear hb S4 H5 LN;go_wp2;go_ret;exact ⟨rfl,S5.o⟩
structure xq (w:World) (dg ls:Int) (En:Nat) (ag:Nat->Int) (n:Bool) (v:Value) (e:Int) (m:Bool) (x:Value) (y:Int) (f t:Nat) (u:World):Prop where
 aB:Below w.heap.size w u
 sz:Zk u w.heap.size dg ls En
 rq:Rq u (w.heap.size+1) n v e m x y
 ft:f<t
 tE:t<=En
 lo:f=0\/ag f<=0
 hi:t=En\/0<ag t
theorem xq.to {w:World}{dg ls:Int}{En:Nat}{ag:Nat->Int}{n:Bool}{v:Value}{e:Int}{m:Bool}{x:Value}{y:Int}{f t:Nat}{u u':World}(h:xq w dg ls En ag n v e m x y f t u) (hb:Below u.heap.size u u'):xq w dg ls En ag n v e m x y f t u' :=
 ⟨h.aB.trans (hb.mono h.aB.size),h.sz.below hb,h.rq.below hb,h.ft,h.tE,h.lo,h.hi⟩
theorem OT {w:World}{n m:Bool}{a b:Option Addr}{la ca lb cb:Nat}{e f:Int}(dg ls:Int) (En:Nat) (hE:0<En) (hE2:En<9223372036854775808) (num:Nat->Nat×Int) (ag hf:Nat->Int) (sq:Bool) (mode:Int) (hm0:0<=mode) (o9:mode<=4) (Fw:∀ k,(ws (num k).1).length<=8192) (hv3:∀ k,hf k=-1\/hf k=0\/hf k=1)
 (HN:Hid (∀ (k:Nat) (u:World),k<En->Calls Tryz.prog 151 #[.agg #[.int .i64 dg,.int .i64 ls,.int .u64 (En:Nat)],.int .u64 (k:Nat)] u fun r w'=>∃ v,r=.returned (.tuple #[v,.int .i64 (num k).2])/\Nt u.heap.size w' v (num k).1/\Below u.heap.size u w'))
 (HA:Hid (∀ (k:Nat) (u:World) (p:Option Addr) (l c:Nat),k<En->Below w.heap.size w u->Al u (.slice p l c) (num k).1->Calls Tryz.prog 152 #[.slice p l c,.int .i64 (num k).2,.agg #[.bool n,.slice a la ca,.int .i64 e,.bool m,.slice b lb cb,.int .i64 f],.bool sq] u fun r w'=>r=.returned (.int .i64 (ag k))/\Below u.heap.size u w'))
 (HH:Hid (∀ (k:Nat) (u:World),k<En->Below w.heap.size w u->Calls Tryz.prog 153 #[.agg #[.int .i64 dg,.int .i64 ls,.int .u64 (En:Nat)],.int .u64 (k:Nat),.agg #[.bool n,.slice a la ca,.int .i64 e,.bool m,.slice b lb cb,.int .i64 f],.bool sq] u fun r w'=>r=.returned (.int .i64 (hf k))/\Below u.heap.size u w')) :
 Calls Tryz.prog 110 #[.agg #[.int .i64 dg,.int .i64 ls,.int .u64 (En:Nat)],.agg #[.bool n,.slice a la ca,.int .i64 e,.bool m,.slice b lb cb,.int .i64 f],.bool sq,.int .i64 mode] w fun r w'=>(∃ k:Nat,r=.returned (.int .u64 (tK mode n k (ag k) (-(hf k)):Nat))/\k<En/\(k=0\/ag k<=0)/\(k+1=En\/0<ag (k+1)))/\Below w.heap.size w w':=by
 obtain ⟨W1,hW1⟩:=ah ((w.alloc (.cells #[.int .i64 dg,.int .i64 ls,.int .u64 (En:Nat)] 98)).alloc (.cells #[.bool n,.slice a la ca,.int .i64 e,.bool m,.slice b lb cb,.int .i64 f] 58));obtain ⟨hB,Z,QR⟩:=mP w dg ls En n _ e m _ f W1 hW1;obtain ⟨p0,p1,p2⟩:=Z.facts;have S0:Aside (xq w dg ls En ag n (.slice a la ca) e m (.slice b lb cb) f 0 En W1):=ak ⟨hB,Z,QR,hE,aC _,.inl rfl,.inl rfl⟩;have LN:=(aJ Fw hv3);clear Z hB QR Fw hv3;have hw:∀ n:Int,0<=n->n<18446744073709551616->IntKind.u64.wrap n=n:=fun n h1 h2=>by simp [IntKind.wrap,IntKind.bits,IntKind.signed];omega
 have HW:=ak hw;clear hw;go_enter Tryz.func110,Tryz.ntmps110
 go_upto_region 1 with fail
 rw [<-hW1];clear hW1;go_wp2_with fail;clear p0 p1 p2
 go_loopg [9,10] En (fun gk fv tv wr=>∃ f0 t:Nat,gk+f0=t/\fv=.int .u64 (f0:Nat)/\tv=.int .u64 (t:Nat)/\f0<t/\t<=En/\Aside (xq w dg ls En ag n (.slice a la ca) e m (.slice b lb cb) f f0 t wr))
 case atStart=>exact ⟨0,En,af,rfl,rfl,hE,aC _,S0⟩
 case round =>
  obtain ⟨f0,t,Gm,rfl,rfl,hft,htE,S1⟩:=hrel;have e1:=HW.o ((t:Int)-(f0:Int)) af af
  by_cases hone:1<(t:Int)-(f0:Int)
  · obtain ⟨mi,hm⟩:∃ mi,(f0+t)/2=mi:=⟨_,rfl⟩;have e2:=HW.o ((f0:Int)+(t:Int)) af af;have e3:((f0:Int)+(t:Int))/2=(mi:Nat):=af
    have e4:IntKind.u64.wrap ((mi:Nat):Int)=(mi:Nat):=HW.o _ af af;have hmE:mi<En:=af
    obtain ⟨p0,p1,p2⟩:=S1.o.sz.facts;obtain ⟨X,hX⟩:∃ X,(num mi).1=X:=⟨_,rfl⟩;obtain ⟨y,hy⟩:∃ y,(num mi).2=y:=⟨_,rfl⟩;have H1:=hid (HN.o mi wr hmE);have H2:=hid fun u p l c=>HA.o mi u p l c hmE;have lX:=LN.o.1 mi;rw [hX,hy] at H1 H2;rw [hX] at lX;have LX:=ak lX;clear lX hX hy;go_wp2_with fail;clear p0 p1 p2;refine H1.o.mono ?_;rintro r u1 ⟨v,rfl,hN,hb⟩;obtain ⟨b1,c1,rfl,-⟩:=hN.shape;have S2:=ak (S1.o.to hb);have H3:=hid (H2.o u1 b1 _ c1 S2.o.aB (hN.al' (dP LX.o au)));clear hb hN S1 H1 H2;obtain ⟨x0,x1,x2,x3,x4,x5⟩:=S2.o.rq.facts;go_wp2_with fail;clear x0 x1 x2 x3 x4 x5;refine H3.o.mono ?_;rintro r u2 ⟨rfl,hb⟩;have S3:=ak (S2.o.to hb);clear hb H3 S2
    by_cases hag:ag mi<=0
    · go_wp2_with fail;go_roundg (t-mi)
      case measure=>omega
      case rel=>exact ⟨mi,t,af,rfl,rfl,af,htE,ak ⟨S3.o.aB,S3.o.sz,S3.o.rq,af,htE,.inr hag,S3.o.hi⟩⟩
    · have hag':decide (ag mi<=0)=false:=decide_eq_false hag;go_wp2_with fail;go_roundg (mi-f0)
      case measure=>omega
      case rel=>exact ⟨f0,mi,af,rfl,rfl,af,af,ak ⟨S3.o.aB,S3.o.sz,S3.o.rq,af,af,S3.o.lo,.inr af⟩⟩
  · have hone':decide (1<(t:Int)-(f0:Int))=false:=decide_eq_false hone;obtain ⟨k,hk⟩:=ah f0;subst hk;have Za:k<En:=af
    have KK:Aside (k<En/\(k=0\/ag k<=0)/\(k+1=En\/0<ag (k+1))):=by
     obtain rfl:t=k+1:=af
     exact ak ⟨Za,S1.o.lo,S1.o.hi⟩
    have ek:IntKind.u64.wrap ((k:Int)+1)=(k:Int)+1:=HW.o _ af af;obtain ⟨p0,p1,p2⟩:=S1.o.sz.facts;obtain ⟨X,hX⟩:∃ X,(num k).1=X:=⟨_,rfl⟩;obtain ⟨y,hy⟩:∃ y,(num k).2=y:=⟨_,rfl⟩;obtain ⟨z,hz⟩:∃ z,ag k=z:=⟨_,rfl⟩;obtain ⟨hv,hhv⟩:∃ z,hf k=z:=⟨_,rfl⟩;have hv3:=LN.o.2 k;obtain ⟨R,hR⟩:∃ R,tK mode n k z (-hv)=R:=⟨_,rfl⟩;have H1:=hid (HN.o k wr Za);have H2:=hid fun u p l c=>HA.o k u p l c Za;have H5:=hid fun u=>HH.o k u Za;have lX:=LN.o.1 k;rw [hX,hy] at H1 H2;rw [hz] at H2;rw [hhv] at H5 hv3;rw [hX] at lX;have LX:=ak lX;have HE:Aside (tK mode n k (ag k) (-(hf k))=R):=ak (by rw [hz,hhv,hR]);clear lX hX hy hz hhv LN HN HA HH S0 HW;go_wp2_with fail;clear p0 p1 p2;refine H1.o.mono ?_;rintro r u1 ⟨v,rfl,hN,hb⟩;obtain ⟨b1,c1,rfl,-⟩:=hN.shape;have S2:=ak (S1.o.to hb);have H3:=hid (H2.o u1 b1 _ c1 S2.o.aB (hN.al' (dP LX.o au)));clear hb hN S1 H1 H2 LX;obtain ⟨x0,x1,x2,x3,x4,x5⟩:=S2.o.rq.facts;go_wp2_with fail;clear x0 x1 x2 x3 x4 x5;refine H3.o.mono ?_;rintro r u2 ⟨rfl,hb⟩;have S3:=ak (S2.o.to hb);clear hb H3 S2
    by_cases hz:z=0
    · subst hz;obtain rfl:k=R:=by rw [<-hR];unfold tK;rw [if_pos rfl]
      clear hR;go_wp2_with fail;go_ret;exact ⟨⟨k,by rw [HE.o];first | rfl | simp,KK.o⟩,S3.o.aB⟩
    · have hz':(z==0)=false:=by simpa using hz
      have hR2:(if kW mode k (-hv) n then k+1 else k)=R:=by rw [<-hR];unfold tK;rw [if_neg hz]
      have H6:=hid (H5.o u2 S3.o.aB);obtain ⟨p0,p1,p2⟩:=S3.o.sz.facts;obtain ⟨x0,x1,x2,x3,x4,x5⟩:=S3.o.rq.facts;have HR2:=ak hR2;clear hR hz hR2 H5;go_wp2_with fail;clear p0 p1 p2 x0 x1 x2 x3 x4 x5;refine H6.o.mono ?_;rintro r u4 ⟨rfl,hb⟩;have S4:=ak (S3.o.to hb);obtain ⟨x0,x1,x2,x3,x4,x5⟩:=S4.o.rq.facts;clear hb S3 H6 hz';have hc:mode=0\/mode=1\/mode=2\/mode=3\/mode=4:=af
      clear hm0 o9;rcases hc with rfl|rfl|rfl|rfl|rfl
      · rcases hv3 with rfl | rfl | rfl
        · go_wp2;go_ret;exact ⟨⟨k,by rw [HE.o,<-HR2.o];simp [kW],KK.o⟩,S4.o.aB⟩
        · by_cases hp:k%2=1
          · have hp':(k:Int)%2=1:=af
            go_wp2;go_ret;exact ⟨⟨k,by rw [HE.o,<-HR2.o];simp [kW,hp],KK.o⟩,S4.o.aB⟩
          · have hp':(k:Int)%2=0:=af
            go_wp2;go_ret;exact ⟨⟨k,by rw [HE.o,<-HR2.o];simp [kW,hp],KK.o⟩,S4.o.aB⟩
        · go_wp2;go_ret;exact ⟨⟨k,by rw [HE.o,<-HR2.o];simp [kW],KK.o⟩,S4.o.aB⟩
      · go_wp2;go_ret;exact ⟨⟨k,by rw [HE.o,<-HR2.o];simp [kW],KK.o⟩,S4.o.aB⟩
      · cases n
        all_goals (
         go_wp2;go_ret
         exact ⟨⟨k,by rw [HE.o,<-HR2.o];simp [kW],KK.o⟩,S4.o.aB⟩)
      · cases n
        all_goals (
         go_wp2;go_ret
         exact ⟨⟨k,by rw [HE.o,<-HR2.o];simp [kW],KK.o⟩,S4.o.aB⟩)
      · rcases hv3 with rfl | rfl | rfl
        all_goals (
         go_wp2;go_ret
         exact ⟨⟨k,by rw [HE.o,<-HR2.o];simp [kW],KK.o⟩,S4.o.aB⟩)
theorem lU (x y c:Nat) (hc:0<c):jh ((x*c:Nat):Int) ((y*c:Nat):Int)=jh (x:Int) (y:Int):=by
 rw [fU,fU];exact Aj _ _ _ af
theorem OU (A v X Y:Nat) (g e f B:Int) (u n:Nat) (hB1:B<=g) (hB2:B<=-((n*u:Nat):Int)) (hA:A*2^(g-B).toNat=v*2^(-((n*u:Nat):Int)-B).toNat) :
 Uc (A*Y) (g+f) X e=jh ((v*gX Y e f u n:Nat):Int) ((iR X e f u n:Nat):Int):=by
 generalize hU:n*u=U at hB2 hA;obtain ⟨D,hD1,hD2⟩:∃ D:Int,D<=f/\B+D<=e:=⟨min f (e-B),Int.min_le_left _ _,by have:=Int.min_le_right f (e-B);omega⟩;rw [XJ (A*Y) (g+f) X e (B+D) af hD2];obtain ⟨c,hc⟩:∃ c:Nat,(-(U:Int)-B).toNat+(f-D).toNat=(-(e-f+(U:Int))).toNat+c:=⟨(-(U:Int)-B).toNat+(f-D).toNat-(-(e-f+(U:Int))).toNat,af⟩;have hd:(e-(B+D)).toNat=(e-f+(U:Int)).toNat+c:=af
 have e1:A*Y*2^(g+f-(B+D)).toNat=v*gX Y e f u n*2^c:=by
  rw [show (g+f-(B+D)).toNat=(g-B).toNat+(f-D).toNat by omega,aL,nS,hA,nS,<-aL,hc,aL];unfold gX;rw [hU];simp only [aN]
 have e2:X*2^(e-(B+D)).toNat=iR X e f u n*2^c:=by
  rw [hd,aL];unfold iR;rw [hU];simp only [aN]
 rw [e1,e2];exact lU _ _ _ (bu c)
theorem Fx (v X Y:Nat) (e f:Int) (u n:Nat):jh ((v*gX Y e f (u+1) n:Nat):Int) ((iR X e f (u+1) n:Nat):Int)=jh ((v*gX Y e f u n:Nat):Int) ((2^n*iR X e f u n:Nat):Int):=by
 generalize hU:n*u=U;have hU':n*(u+1)=U+n:=by rw [jG,fo,hU]
 rw [<-lU (v*gX Y e f (u+1) n) (iR X e f (u+1) n) (2^(-(e-f+(U:Int))).toNat) (bu _),<-lU (v*gX Y e f u n) (2^n*iR X e f u n) (2^(-(e-f+((U+n:Nat):Int))).toNat) (bu _)];congr 2
 · unfold gX;rw [hU,hU'];simp only [aN];rw [df (2^_) (2^_)]
 · unfold iR;rw [hU,hU',aN,<-aL,df (2^n),aN,aN,<-aL,<-aL];congr 2;omega
theorem KL {A v:Nat}{g B:Int}{u n:Nat}(h1:B<=g) (h2:B<=-(u:Int)) (hA:A*2^(g-B).toNat=v*2^(-(u:Int)-B).toNat) (hn:n=1\/n=2):A^n*2^((n:Int)*g-(n:Int)*B).toNat=v^n*2^(-((n*u:Nat):Int)-(n:Int)*B).toNat:=by
 rcases hn with rfl|rfl
 · rw [mf,mf,iD];simpa using hA
 · rw [show (((2:Nat):Int)*g-((2:Nat):Int)*B).toNat=(g-B).toNat+(g-B).toNat by omega,show (-((2*u:Nat):Int)-((2:Nat):Int)*B).toNat=(-(u:Int)-B).toNat+(-(u:Int)-B).toNat by omega,aL,aL,Nat.pow_two,Nat.pow_two,nS,hA,nS]
theorem KM {A Bv v v1 SM:Nat}{g h q B:Int}{u:Nat}(h1:B<=g-1) (h2:B<=-((u+1:Nat):Int)) (hq:q=h-g) (hq0:0<=q) (hA:A*2^(g-B).toNat=v*2^(-(u:Int)-B).toNat) (hBv:Bv*2^(h-B).toNat=v1*2^(-(u:Int)-B).toNat) (hS:A+Bv*2^q.toNat=SM) :
 SM*2^(g-1-B).toNat=(v+v1)*2^(-((u+1:Nat):Int)-B).toNat:=by
 have k1:(g-B).toNat=(g-1-B).toNat+1:=af
 have k2:(-(u:Int)-B).toNat=(-((u+1:Nat):Int)-B).toNat+1:=af
 have k3:(h-B).toNat=q.toNat+((g-1-B).toNat+1):=af
 rw [k1,k2,gY,gY,<-aN,<-aN] at hA;rw [k3,k2,aL,gY,gY,<-aN,<-aN,<-aN] at hBv;have e1:=pO (by omega:0<2) hA;have e2:=pO (by omega:0<2) hBv;rw [<-hS,fF,fF,e1,e2]
theorem Ar (k:Nat):(jL k).2<=(jL (k+1)).2/\(jL (k+1)).2<=(jL k).2+1/\-1074<=(jL k).2:=by
 unfold jL
 by_cases h:k/4503599627370496=0
 · rw [if_pos h]
   by_cases h':(k+1)/4503599627370496=0
   · rw [if_pos h'];simp only;omega
   · rw [if_neg h'];simp only;omega
 · rw [if_neg h,if_neg af];simp only;omega
namespace S
end S
structure VX (dg ls:Int) (En:Nat) (v:Nat->Nat) (u:Nat) (num:Nat->Nat×Int):Prop where
 grid:N9 v En
 small:En<9223372036854775808
 ub:u<=2000
 call:∀ (k:Nat) (w:World),k<=En->Calls Tryz.prog 151 #[.agg #[.int .i64 dg,.int .i64 ls,.int .u64 (En:Nat)],.int .u64 (k:Nat)] w fun r w'=>∃ p,r=.returned (.tuple #[p,.int .i64 (num k).2])/\Nt w.heap.size w' p (num k).1/\Below w.heap.size w w'
 val:∀ (k:Nat) (B:Int),B<=-(u:Int)->(num k).1*2^((num k).2-B).toNat=v k*2^(-(u:Int)-B).toNat/\(num k).1<9007199254740992/\B<=(num k).2/\((num k).1=0↔k=0)
 step:∀ k:Nat,(num k).2<=(num (k+1)).2/\(num (k+1)).2<=(num k).2+1/\-(u:Int)<=(num k).2
 top:∀ k:Nat,k<=En->(num k).2<=2000
theorem Sj:VX 53 (-1074) 9218868437227405312 vK 1074 jL :=
 ⟨qy,af,af,fun k w hk=>Jn k hk w,fun k B hB=>N7 k B hB,Ar,fun k hk=>by unfold jL;split <;> simp only <;> omega⟩
theorem Db {A Y:Nat}(hA:bl A<=200) (hY:bl Y<=262144):(ws (A*Y)).length<=2000000:=by
 have:=tJ A Y;rw [iB];omega
theorem rJ (x:Int) (h0:-4611686018427387904<=x) (h1:x<=4611686018427387904):IntKind.i64.wrap x=x:=by rw [zx];omega
theorem Fy (x y:Int):jh x y=-1\/jh x y=0\/jh x y=1:=by unfold jh;(repeat' split) <;> simp
theorem OV {x y:Nat}:jh (x:Int) (y:Int)<=0↔x<=y:=by unfold jh;(repeat' split) <;> omega
theorem OW {x y:Nat}:0<jh (x:Int) (y:Int)↔y<x:=by unfold jh;(repeat' split) <;> omega
theorem Dc {x y:Nat}:jh (x:Int) (y:Int)=0↔x=y:=by unfold jh;(repeat' split) <;> omega
theorem De {dg ls:Int}{En:Nat}{v:Nat->Nat}{u:Nat}{num:Nat->Nat×Int}(H:VX dg ls En v u num) {w:World}{s mb:Bool}{p a b:Option Addr}{lp cp la ca lb cb X Y:Nat}{e f:Int}(hN:Al w (.slice a la ca) X) (hD:Al w (.slice b lb cb) Y) (he:-1048576<=e/\e<=1048576) (hf:-1048576<=f/\f<=1048576) (hY:bl Y<=262144)
 (A W n U:Nat) (g B:Int) (hA:Al w (.slice p lp cp) A) (hn:n=1\/n=2) (hAb:bl A<=100) (hg:-4000<=g/\g<=4000) (hU:U<=4000) (h1:B<=g) (h2:B<=-(U:Int)) (hv:A*2^(g-B).toNat=W*2^(-(U:Int)-B).toNat) (sq:Bool) (K9:sq=decide (n=2)) :
 Calls Tryz.prog 152 #[.slice p lp cp,.int .i64 g,.agg #[.bool s,.slice a la ca,.int .i64 e,.bool mb,.slice b lb cb,.int .i64 f],.bool sq] w fun r w'=>r=.returned (.int .i64 (jh ((W^n*gX Y e f U n:Nat):Int) ((iR X e f U n:Nat):Int)))/\Below w.heap.size w w':=by
 have P:=KL h1 h2 hv hn;rcases hn with rfl|rfl
 · have e1:=OU (A^1) (W^1) X Y (((1:Nat):Int)*g) e f (((1:Nat):Int)*B) U 1 af af P;rw [mf,show ((1:Nat):Int)*g=g by omega] at e1;subst K9;rw [<-e1];exact C9 hA hN hD af (g+f) 0 (rJ _ af af) af (A*Y) rfl (Db af hY)
 · have e1:=OU (A^2) (W^2) X Y (((2:Nat):Int)*g) e f (((2:Nat):Int)*B) U 2 af af P;rw [Nat.pow_two,show ((2:Nat):Int)*g=2*g by omega] at e1;subst K9;rw [<-e1];have hb:=tJ A A;exact Da hA hN hD af (2*g+f) (2*g) (rJ _ af af) (rJ _ af af) af (A*A*Y) rfl (Db af hY) (by rw [iB];omega)
theorem Sk {dg ls:Int}{En:Nat}{v:Nat->Nat}{u:Nat}{num:Nat->Nat×Int}(H:VX dg ls En v u num) {w:World}{s mb:Bool}{a b:Option Addr}{la ca lb cb X Y:Nat}{e f:Int}(hN:Al w (.slice a la ca) X) (hD:Al w (.slice b lb cb) Y) (he:-1048576<=e/\e<=1048576) (hf:-1048576<=f/\f<=1048576) (hY:bl Y<=262144)
 {n K:Nat} {t:Bool} {m:Int} (hn:n=1\/n=2) (L:ig v En n K t m (iR X e f u n) (gX Y e f u n)) (sq:Bool) (K9:sq=decide (n=2)) (mode:Int) (hm0:0<=mode) (o9:mode<=4) :
 Calls Tryz.prog 110 #[.agg #[.int .i64 dg,.int .i64 ls,.int .u64 (En:Nat)],.agg #[.bool s,.slice a la ca,.int .i64 e,.bool mb,.slice b lb cb,.int .i64 f],.bool sq,.int .i64 mode] w fun r w'=>r=.returned (.int .u64 ((if t then K else if kW mode K m s then K+1 else K:Nat):Nat))/\Below w.heap.size w w':=by
 have hub:=H.ub;have hone:=H.grid.one;have hsm:=H.small;have Fw:∀ k,bl (num k).1<=53:=fun k=>vE _ (H.val k _ (Int.le_refl _)).2.1
 have C:=OT (w:=w) (n:=s) (m:=mb) (a:=a) (b:=b) (la:=la) (ca:=ca) (lb:=lb) (cb:=cb) (e:=e) (f:=f) dg ls En af hsm num
  (fun k=>jh ((v k^n*gX Y e f u n:Nat):Int) ((iR X e f u n:Nat):Int)) (fun k=>jh (((v k+v (k+1))^n*gX Y e f u n:Nat):Int) ((2^n*iR X e f u n:Nat):Int)) sq mode hm0 o9
  (fun k=>len8 (by have:=Fw k;omega)) (fun k=>Fy _ _) (hid fun k w' hk=>H.call k w' af)
  (hid fun k w' p l c hk hb hA=>by
   obtain ⟨h1,h2,h3,h4⟩:=H.val k (-(u:Int)) (Int.le_refl _);have h5:=H.top k af
   exact De H (hN.below hb) (hD.below hb) he hf hY (num k).1 (v k) n u (num k).2 (-(u:Int)) hA hn (by have:=Fw k;omega) af af h3 (Int.le_refl _) h1 sq K9)
  (hid fun k w' hk hb=>by
   obtain ⟨h1,h2,h3,h4⟩:=H.val k (-(u:Int)-1) af;obtain ⟨i1,i2,i3,i4⟩:=H.val (k+1) (-(u:Int)-1) af;obtain ⟨j1,j2,j3⟩:=H.step k;have h5:=H.top k af;have l1:=Fw k;have l2:=Fw (k+1);obtain ⟨q,hq⟩:∃ q,(num (k+1)).2-(num k).2=q:=⟨_,rfl⟩;have hq2:q=0\/q=1:=af
   have hp:(2:Nat)^q.toNat<=2:=by rcases hq2 with h | h <;> subst h <;> decide
   have hM:(num (k+1)).1*2^q.toNat<=(num (k+1)).1*2:=gP _ hp;have M:=KM (u:=u) (B:=-(u:Int)-1) af af hq.symm af h1 i1 rfl;have lM:bl ((num (k+1)).1*2^q.toNat)<=60:=dR (by rw [show (2:Nat)^60=1152921504606846976 by rfl];omega);have lS:bl ((num k).1+(num (k+1)).1*2^q.toNat)<=60:=dR (by rw [show (2:Nat)^60=1152921504606846976 by rfl];omega);refine VW dg ls En (k:Int) ((k+1:Nat):Int) (num k).2 (num (k+1)).2 q ((num k).2-1) _ (num k).1 (num (k+1)).1 _ sq (by rw [kK];omega) (by rw [hq];exact rJ _ af af) af af (rJ _ af af) rfl (fun h=>by have:=i4.1 h;omega) (len8 af) (len8 af) (len8 af) (len8 af) (hid fun x=>H.call k x af) (hid fun x=>H.call (k+1) x af) (hid fun x p l c hx hA=>?_);have:=De H ((hN.below hb).below hx) ((hD.below hb).below hx) he hf hY ((num k).1+(num (k+1)).1*2^q.toNat) (v k+v (k+1)) n (u+1) ((num k).2-1) (-(u:Int)-1) hA hn af af af af af M sq K9 (s:=s) (mb:=mb);rw [Fx] at this
   exact this)
 refine C.mono ?_;rintro r w' ⟨⟨k,rfl,hk,k1,k2⟩,hb⟩;refine ⟨?_,hb⟩
 obtain ⟨d1,d2,d3⟩:=L.doc H.grid af k hk (by
  rcases k1 with rfl|h
  · rw [H.grid.zero,Nat.zero_pow af,eQ];exact pQ _
  · exact OV.1 h) (by
  rcases k2 with h|h
  · exact .inl h
  · exact .inr (OW.1 h))
 subst d1;congr 3;unfold tK
 by_cases hx:iR X e f u n=v k^n*gX Y e f u n
 · rw [if_pos (Dc.2 hx.symm),d2,decide_eq_true hx,if_pos rfl]
 · have ht:t=false:=by rw [d2];exact decide_eq_false hx
   have hm:-jh (((v k+v (k+1))^n*gX Y e f u n:Nat):Int) ((2^n*iR X e f u n:Nat):Int)=m:=by
    rw [d3 ht,<-Ox];unfold RD jh;simp only [Int.ofNat_lt]
   rw [if_neg (fun h=>hx (Dc.1 h).symm),hm,ht];rfl
section
attribute [local go_sem] B.aI
theorem Fz (k:Nat) (hk:k<9223372036854775808) (neg:Bool) (er:Int) (w:World) :
 Calls Tryz.prog 68 #[.int .u64 (k:Nat),.bool neg,.int .i64 er] w fun r w'=>r=.returned (.tuple #[.float .f64 (k+(if neg then 9223372036854775808 else 0)),.int .i64 er])/\w'=w:=by
 have e1:IntKind.u64.wrap ((k:Int)+9223372036854775808)=((k+9223372036854775808:Nat):Int):=by rw [kK];omega
 cases neg
 · go_enter Tryz.func68,Tryz.ntmps68;go_wp2;exact aF (v:=.tuple #[.float .f64 k,.int .i64 er]) (by simp [results,Tryz.results68,go_sem]) rfl ⟨aO,rfl⟩
 · go_enter Tryz.func68,Tryz.ntmps68;go_wp2;exact aF (v:=.tuple #[.float .f64 (k+9223372036854775808),.int .i64 er]) (by simp [results,Tryz.results68,go_sem] <;> omega) rfl ⟨aO,rfl⟩
end
theorem Tryz.FH:Tryz.prog.underlying 120=some (.slice 58):=by kernel_rfl
theorem Tryz.FI:(Tryz.prog.info? 58).map (fun i=>(i.zero,i.size,i.bytes))=some (some (.agg #[.bool false,.slice none 0 0,.int .i64 0,.bool false,.slice none 0 0,.int .i64 0]),6,80):=by kernel_rfl
structure R1 (w:World) (v:Value) (n:Bool) (x:Value) (e:Int) (m:Bool) (y:Value) (f:Int):Prop where
 ex:∃ g cap,v=.slice (some ⟨g,0,none⟩) 1 cap/\1<=cap/\g<w.heap.size/\(w.cell? ⟨g,0,none⟩=some (.bool n)/\w.cell? ⟨g,1,none⟩=some x/\w.cell? ⟨g,2,none⟩=some (.int .i64 e)/\w.cell? ⟨g,3,none⟩=some (.bool m)/\w.cell? ⟨g,4,none⟩=some y/\w.cell? ⟨g,5,none⟩=some (.int .i64 f))
theorem OX (w:World) (n:Bool) (a:Option Addr) (l c:Nat) (e:Int) (m:Bool) (b:Option Addr) (k d:Nat) (f:Int) :
 ∃ v' w',(Builtin.append_ #[120,120] 120 #[.slice none 0 0,.slice (some ⟨w.heap.size,0,none⟩) 1 1]).run Tryz.prog (w.alloc (.cells #[.bool n,.slice a l c,.int .i64 e,.bool m,.slice b k d,.int .i64 f] 58))=.ok v' w'/\R1 w' v' n (.slice a l c) e m (.slice b k d) f/\Below w.heap.size w w':=by
 obtain ⟨i0,hi,hz0,hz1,hz2⟩:=info_parts Tryz.FI;obtain ⟨W,hW⟩:=ah (w.alloc (.cells #[.bool n,.slice a l c,.int .i64 e,.bool m,.slice b k d,.int .i64 f] 58));have hq:Rq W w.heap.size n (.slice a l c) e m (.slice b k d) f:=by rw [hW];exact Rq.new _ _ _ _ _ _ _
 obtain ⟨x0,x1,x2,x3,x4,x5⟩:=hq.facts;have hWs:w.heap.size<=W.heap.size:=by subst hW;simp
 obtain ⟨v',w',r1,r2,r3,r4,r5⟩:=run_append_own_at (P:=Tryz.prog) W w.heap.size 120 120 58 i0 _ 6 80 Tryz.FH hi hz0 hz1 hz2 rfl au (.slice none 0 0) 0 [] (Bj W w.heap.size 58 6) ⟨w.heap.size,0,none⟩ 1 1 [.bool n,.slice a l c,.int .i64 e,.bool m,.slice b k d,.int .i64 f] rfl (by
  intro j u hj
  match j,hj with
  | 0,hj=>simp at hj;subst hj;simpa [Addr.add] using x0
  | 1,hj=>simp at hj;subst hj;simpa [Addr.add] using x1
  | 2,hj=>simp at hj;subst hj;simpa [Addr.add] using x2
  | 3,hj=>simp at hj;subst hj;simpa [Addr.add] using x3
  | 4,hj=>simp at hj;subst hj;simpa [Addr.add] using x4
  | 5,hj=>simp at hj;subst hj;simpa [Addr.add] using x5
  | j+6,hj=>simp at hj) (by intro u hu;simp at hu;rcases hu with rfl | rfl | rfl | rfl | rfl | rfl <;> rfl) (by unfold maxLen;omega) af hWs
 rw [<-hW];refine ⟨v',w',r1,?_,?_⟩
 · rcases r2.2 with ⟨h1,h2⟩ | ⟨g,cap,cur,rfl,hlo,hg,hn1,hm,hs,ht⟩
   · exact absurd (r4.1 h1).2 au
   · have C:∀ i,i<6->w'.cell? ⟨g,i,none⟩=([.bool n,.slice a l c,.int .i64 e,.bool m,.slice b k d,.int .i64 f]:List Value)[i]?:=by
      intro i hi6;have:=World.ownsRow.cellAt r2 i (by simp;omega);simpa using this
     exact ⟨g,cap,rfl,hn1,(gD.1 hg).1,C 0 af,C 1 af,C 2 af,C 3 af,C 4 af,C 5 af⟩
 · have Yo:Below w.heap.size w W:=by subst hW;exact ae _ _
   refine ⟨r3.os.trans Yo.os,r3.tape.trans Yo.tape,r3.output.trans Yo.output,dP Yo.size r3.size,fun k hkl=>?_⟩;rw [r3.block k af (fun e=>by simp [Value.ownBlock] at e)];exact Yo.block k hkl
end
section
open Go.RowKit J

def FJ (n:Nat):Value:=.float .f64 n
def Sl (w:World) (g:Nat) (L:List Nat):Prop:=w.heap[g]?=some (.cells (L.map FJ).toArray 28 (0,0))
theorem Sl.cell {w:World}{g:Nat}{L:List Nat}(h:Sl w g L) (i:Nat) (hi:i<L.length):w.cell? ⟨g,i,none⟩=some (.float .f64 (L.getD i 0)):=by
 unfold Sl at h;simp [World.cell?,h,FJ,hi]

theorem uO {w:World}{ops:Array Oper}{rest:List Oper}{o:Oper}{a:Act}{Q:Exit->Act->World->Prop}(hgd:o.guard=none) (s x:Operand) (t:TypeId)
 (ho:o.op=.call { callee:=.builtin .append,args:=#[s,x],argTypes:=#[t,t] }) (v u:Value) (hs:a.eval s=v) (hx:a.eval x=u) (v':Value) (w':World)
 (hrun:(Builtin.append_ #[t,t] o.type #[v,u]).run Tryz.prog w=.ok v' w') (h:wpList Tryz.prog ops Q rest (a.put o.dst v') w'):wpList Tryz.prog ops Q (o::rest) a w:=by
 refine wpList_plain hgd fun K hK=>?_;unfold Oper.wp;simp [execOp,ho,resolve,invoke,builtin,hs,hx,hrun,Result.andThen];exact hK _ _ h
end
section
open Go.RowKit
theorem Sm {w:World}{v:Value}{X:Nat}(h1:Al w v X) (ng:Bool) (e:Int):Calls Tryz.prog 150 #[.agg #[.bool ng,v,.int .i64 e]] w fun r w'=>r=.returned (.int .i64 (q8 ng X))/\Below w.heap.size w w':=by
 obtain ⟨a,l,c,xs,rfl,hA,rfl,hl⟩:=h1;exact EW hA ng e
theorem Hw {w:World}{v:Value}{X:Nat}(h1:Al w v X) (n:Bool) (e:Int) (be:-9223372036854775808<=e/\e<=9223372036854775807) (o:Option (Bool×Nat×Int)) (ho:mkS n X e=o) (s:Bool) (hs:o.isSome=s):Calls Tryz.prog 61 #[.agg #[.bool n,v,.int .i64 e]] w fun r w'=>(∃ p,r=.returned (.tuple #[.agg #[.bool (dN o),p,.int .i64 (dE o)],.bool s])/\Nt w.heap.size w' p (dX o))/\Below w.heap.size w w':=by
 obtain ⟨a,l,c,xs,rfl,hA,rfl,hl⟩:=h1;subst ho hs;exact mr hA hl n e be.1 be.2
def MayA (lo:Nat) (w:World) (r:Ending) (o p:Option (Bool×Nat×Int)) (er:Int):Prop :=
 ∃ v,r=.returned (.tuple #[v,.int .i64 er])/\(er=0->∃ x y,R1 w v (dN o) x (dE o) (dN p) y (dE p)/\Nt lo w x (dX o)/\Nt lo w y (dX p))
theorem Yp {w:World}{g:Nat}{n m:Bool}{a b:Option Addr}{la ca lb cb X Y:Nat}{e f:Int}(hq:Rq w g n (.slice a la ca) e m (.slice b lb cb) f) (hN:Al w (.slice a la ca) X) (hD:Al w (.slice b lb cb) Y) (be:-9223372036854775808<=e/\e<=9223372036854775807) (bf:-9223372036854775808<=f/\f<=9223372036854775807)
 (o p:Option (Bool×Nat×Int)) (ho:mkS n X e=o) (hp:mkS m Y f=p) (er:Int) (her:ll X n e Y m f=er) :
 Calls Tryz.prog 109 #[.slice (some ⟨g,0,none⟩) 1 1] w fun r w'=>MayA w.heap.size w' r o p er/\Below w.heap.size w w':=by
 have S0:=(aJ (aD w.heap.size w) hq);have AA:=(l7 hN hD be bf ho hp her);have LL:Aside ((ws (dX o)).length<=8192/\(ws (dX p)).length<=8192):=ak ⟨by rw [<-ho];exact aM _ _ _,by rw [<-hp];exact aM _ _ _⟩;obtain ⟨sg,hsg⟩:∃ x,q8 m Y=x:=⟨_,rfl⟩;have SG:=ak hsg;clear hq hN hD be bf ho hp her hsg;have one:decide ((1:Int)<1)=false:=au
 go_enter Tryz.func109,Tryz.ntmps109;go_wp2
 go_loopg [4] 1 (fun gk i wr=>∃ k:Nat,gk+k=1/\i=.int .i64 (k:Nat)/\Aside (Below w.heap.size w wr/\(k=1->¬ q8 m Y<0)))
 case atStart=>exact ⟨0,af,aO,ak ⟨S0.o.1,fun h=>by cases h⟩⟩
 case round =>
  obtain ⟨k,Gm,rfl,HA⟩:=hrel
  by_cases hk:k<1
  · obtain rfl:k=0:=af
    obtain ⟨x0,x1,x2,x3,x4,x5⟩:=(S0.o.2.below HA.o.1).facts;have HC:=hid (Sm (AA.o.2.1.below HA.o.1) m f);rw [SG.o] at HC;go_wp2_with fail;clear x0 x1 x2 x3 x4 x5;refine HC.o.mono ?_;rintro r u1 ⟨rfl,hb⟩;have HB:=ak (HA.o.1.trans (hb.mono HA.o.1.size));clear HC hb HA
    by_cases hs:sg<0
    · have hs':decide (sg<0)=true:=decide_eq_true hs;have HE:Aside (er=1):=ak (by rw [<-AA.o.r6];unfold ll;rw [if_pos (by rw [SG.o];exact hs)]);clear hs;go_wp2;exact aF (v:=.tuple #[.slice none 0 0,.int .i64 1]) (by simp [results,Tryz.results109,go_sem]) rfl ⟨⟨_,by rw [HE.o],fun h=>by rw [HE.o] at h;cases h⟩,HB.o⟩
    · have hs':decide (sg<0)=false:=decide_eq_false hs;have HS:=ak hs;clear hs;go_wp2_with fail;go_roundg 0
      case measure=>omega
      case rel=>exact ⟨1,af,by first | rfl | simp,ak ⟨HB.o,fun _=>by rw [SG.o];exact HS.o⟩⟩
  · obtain rfl:k=1:=af
    have HS:=ak (HA.o.2 rfl);have HB:=ak HA.o.1;clear HA;go_wp2
    go_loopg [6,5] 1 (fun gk i v wr=>∃ (k:Nat) (v0:Value),gk+k=1/\i=.int .i64 (k:Nat)/\v=v0/\Aside (Below w.heap.size w wr/\(k=0->v0=.slice none 0 0)/\(k=1->o.isSome=true/\p.isSome=true/\∃ x y,R1 wr v0 (dN o) x (dE o) (dN p) y (dE p)/\Nt w.heap.size wr x (dX o)/\Nt w.heap.size wr y (dX p))))
    case atStart=>exact ⟨0,_,af,aO,rfl,ak ⟨HB.o,fun _=>rfl,fun h=>by cases h⟩⟩
    case round =>
     obtain ⟨j,v,hgj,rfl,hv,HA⟩:=hrel
     by_cases hj:j<1
     · obtain rfl:j=0:=af
       have hv0:=HA.o.2.1 rfl;subst hv0;subst hv;obtain ⟨s1,hs1⟩:∃ x,o.isSome=x:=⟨_,rfl⟩;obtain ⟨s2,hs2⟩:∃ x,p.isSome=x:=⟨_,rfl⟩;have SS:=(aJ hs1 hs2);have S1:=(gK HA.o.1 (S0.o.2.below HA.o.1) (AA.o.1.below HA.o.1) (AA.o.2.1.below HA.o.1));clear hs1 hs2 HA;obtain ⟨x0,x1,x2,x3,x4,x5⟩:=S1.o.2.1.facts;have HC:=hid (Hw S1.o.r2.1 n e AA.o.r2.1 o AA.o.r4.1 s1 SS.o.1);go_wp2_with fail;clear x0 x1 x2 x3 x4 x5;refine HC.o.mono ?_;rintro r u1 ⟨⟨q,rfl,hN⟩,hb⟩;obtain ⟨q1,d1,rfl,-⟩:=hN.shape;obtain ⟨U1,aS⟩:=ah (u1.alloc (.cells #[.bool (dN o),.slice q1 (ws (dX o)).length d1,.int .i64 (dE o)] 25))
       have S2:Aside (Below w.heap.size w U1/\Rq U1 g n (.slice a la ca) e m (.slice b lb cb) f/\Al U1 (.slice b lb cb) Y/\Dk U1 u1.heap.size (dN o) (.slice q1 (ws (dX o)).length d1) (dE o)/\Nt w.heap.size U1 (.slice q1 (ws (dX o)).length d1) (dX o)):=by
        have b0:=S1.o.1;have b1:=b0.trans (hb.mono b0.size);have hA:Below u1.heap.size u1 U1:=by rw [aS];exact ae _ _
        exact ak ⟨b1.trans (hA.mono b1.size),(S1.o.2.1.below hb).below hA,(S1.o.r3.below hb).below hA,by rw [aS];exact Dk.new _ _ _ _,(hN.mono b0.size).below hA⟩
       clear HC hb hN S1;obtain ⟨x0,x1,x2,x3,x4,x5⟩:=S2.o.2.1.facts;have HC:=hid (Hw S2.o.r2.1 m f AA.o.r3.1 p AA.o.r5.1 s2 SS.o.2)
       go_upto_region 11 with fail
       rw [<-aS];clear aS;go_wp2_with fail;clear x0 x1 x2 x3 x4 x5;refine HC.o.mono ?_;rintro r u2 ⟨⟨q,rfl,hN⟩,hb⟩;obtain ⟨q2,d2,rfl,-⟩:=hN.shape;obtain ⟨U2,dO⟩:=ah (u2.alloc (.cells #[.bool (dN p),.slice q2 (ws (dX p)).length d2,.int .i64 (dE p)] 25))
       have S3:Aside (Below w.heap.size w U2/\Dk U2 u1.heap.size (dN o) (.slice q1 (ws (dX o)).length d1) (dE o)/\Nt w.heap.size U2 (.slice q1 (ws (dX o)).length d1) (dX o)/\Dk U2 u2.heap.size (dN p) (.slice q2 (ws (dX p)).length d2) (dE p)/\Nt w.heap.size U2 (.slice q2 (ws (dX p)).length d2) (dX p)):=by
        have b0:=S2.o.1;have b1:=b0.trans (hb.mono b0.size);have hA:Below u2.heap.size u2 U2:=by rw [dO];exact ae _ _
        exact ak ⟨b1.trans (hA.mono b1.size),(S2.o.r3.1.below hb).below hA,(S2.o.r4.below hb).below hA,by rw [dO];exact Dk.new _ _ _ _,(hN.mono b0.size).below hA⟩
       clear HC hb hN S2
       by_cases hbad:s1=true/\s2=true
       · obtain ⟨rfl,rfl⟩:=hbad;obtain ⟨x0,x1,x2,x3,x4,x5⟩:=S3.o.2.1.facts;obtain ⟨y0,y1,y2,y3,y4,y5⟩:=S3.o.r3.1.facts;obtain ⟨v',w',r1,r2,r3⟩:=OX U2 (dN o) q1 (ws (dX o)).length d1 (dE o) (dN p) q2 (ws (dX p)).length d2 (dE p);have HR:=ak r1;have HN:=(gK r2 (S3.o.1.trans (r3.mono S3.o.1.size)) (S3.o.r2.1.below r3) (S3.o.r4.below r3));clear r1 r2 r3
         go_upto_region 14 with fail
         rw [<-dO];clear dO
         go_wp2_with (at_builtin;refine uO rfl (.tmp 55) (.tmp 59) 120 rfl _ _ rfl rfl _ _ HR.o ?_)
         go_roundg 0
         case measure=>omega
         case rel=>exact ⟨1,_,af,by first | rfl | simp,rfl,ak ⟨HN.o.2.1,(fun h=>by cases h),fun _=>⟨SS.o.1,SS.o.2,_,_,HN.o.1,HN.o.r2.1,HN.o.r3⟩⟩⟩
       · have HE:Aside (er=2):=ak (by
          rw [<-AA.o.r6];unfold ll;rw [if_neg (by have:=HS.o;omega),AA.o.r4.1,AA.o.r5.1,SS.o.1,SS.o.2]
          rw [if_neg (by intro h;rw [nT] at h;exact hbad h)])
         have H5:=ak S3.o.1;clear S3
         cases s1
         · go_upto_region 12 with fail
           rw [<-dO];clear dO hbad;go_wp2;exact aF (v:=.tuple #[.slice none 0 0,.int .i64 2]) (by simp [results,Tryz.results109,go_sem]) rfl ⟨⟨_,by rw [HE.o],fun h=>by rw [HE.o] at h;cases h⟩,H5.o⟩
         · cases s2
           · go_upto_region 12 with fail
             rw [<-dO];clear dO hbad;go_wp2;exact aF (v:=.tuple #[.slice none 0 0,.int .i64 2]) (by simp [results,Tryz.results109,go_sem]) rfl ⟨⟨_,by rw [HE.o],fun h=>by rw [HE.o] at h;cases h⟩,H5.o⟩
           · exact absurd ⟨rfl,rfl⟩ hbad
     · obtain rfl:j=1:=af
       obtain ⟨i1,i2,x,y,hR,hx,hy⟩:=HA.o.r2 rfl;obtain ⟨gg,cap,rfl,hcap,hgg,c0,c1,c2,c3,c4,c5⟩:=hR.ex;subst hv;obtain ⟨q1,d1,rfl,-⟩:=hx.shape;obtain ⟨q2,d2,rfl,-⟩:=hy.shape;have HX:=(iI HA.o.1 hR hx hy i1 i2);clear HA hR hx hy hgg i1 i2;go_wp2
       go_loopg [11] 1 (fun gk i wq=>∃ (k:Nat),gk+k=1/\i=.int .i64 (k:Nat)/\wq=wr/\Aside (k=1->dX p≠0))
       case atStart=>exact ⟨0,af,aO,rfl,ak fun h=>by cases h⟩
       case round =>
        obtain ⟨i,hgi,rfl,rfl,HP⟩:=hrel
        by_cases hi:i<1
        · obtain rfl:i=0:=af
          by_cases h0:dX p=0
          · have r1:((((ws (dX p)).length:Nat):Int)==0)=true:=by rw [h0,Wx];rfl
            have r2:((ws (dX p)).length==0)=true:=by rw [h0,Wx];rfl
            have HE:Aside (er=21):=ak (by
             rw [<-AA.o.r6];unfold ll
             rw [if_neg (by have:=HS.o;omega),AA.o.r4.1,AA.o.r5.1,HX.o.r4.1,HX.o.r5,if_pos au,if_pos h0])
            clear h0;go_wp2;exact aF (v:=.tuple #[.slice none 0 0,.int .i64 21]) (by simp [results,Tryz.results109,go_sem]) rfl ⟨⟨_,by rw [HE.o],fun h=>by rw [HE.o] at h;cases h⟩,HX.o.1⟩
          · have r1:((((ws (dX p)).length:Nat):Int)==0)=false:=dD h0;have r2:((ws (dX p)).length==0)=false:=beq_eq_false_iff_ne.2 (fun h=>h0 ((bz _).1 h));have H0:=ak h0;clear h0;go_wp2_with fail;go_roundg 0
            case measure=>omega
            case rel=>exact ⟨1,af,by first | rfl | simp,rfl,ak fun _=>H0.o⟩
        · obtain rfl:i=1:=af
          have HE:Aside (er=0):=ak (by
           rw [<-AA.o.r6];unfold ll
           rw [if_neg (by have:=HS.o;omega),AA.o.r4.1,AA.o.r5.1,HX.o.r4.1,HX.o.r5,if_pos au,if_neg (HP.o rfl)])
          go_wp2;exact aF (v:=.tuple #[.slice (some ⟨gg,0,none⟩) 1 cap,.int .i64 0]) (by simp [results,Tryz.results109,go_sem]) rfl ⟨⟨_,by rw [HE.o],fun _=>⟨_,_,HX.o.2.1,HX.o.r2.1,HX.o.r3.1⟩⟩,HX.o.1⟩
theorem Au {w:World}{n m:Bool}{a b:Option Addr}{la ca lb cb X Y:Nat}{e f:Int}(dg ls:Int) (En:Nat) (sq:Bool) (mode:Int) (hm:mode<0\/4<mode) :
 Calls Tryz.prog 66 #[.agg #[.int .i64 dg,.int .i64 ls,.int .u64 (En:Nat)],.agg #[.bool n,.slice a la ca,.int .i64 e,.bool m,.slice b lb cb,.int .i64 f],.bool sq,.int .i64 mode] w fun r w'=>r=.returned (.tuple #[.int .u64 0,.bool false,.int .i64 1])/\Below w.heap.size w w':=by
 obtain ⟨W1,hW1⟩:=ah ((w.alloc (.cells #[.int .i64 dg,.int .i64 ls,.int .u64 (En:Nat)] 98)).alloc (.cells #[.bool n,.slice a la ca,.int .i64 e,.bool m,.slice b lb cb,.int .i64 f] 58));obtain ⟨hB,Z,QR⟩:=mP w dg ls En n _ e m _ f W1 hW1;have S9:=ak hB;clear hB Z QR;have hd:(mode<0)\/(¬ mode<0/\4<mode):=af
 clear hm;go_enter Tryz.func66,Tryz.ntmps66
 go_upto_region 1 with fail
 rw [<-hW1];clear hW1;rcases hd with hd|⟨hd,hd2⟩
 · have d1:=decide_eq_true hd;clear hd;go_wp2;exact aF (v:=.tuple #[.int .u64 0,.bool false,.int .i64 1]) (by simp [results,Tryz.results66,go_sem]) rfl ⟨rfl,S9.o⟩
 · have d1:=decide_eq_false hd;have d2:=decide_eq_true hd2;clear hd hd2;go_wp2;exact aF (v:=.tuple #[.int .u64 0,.bool false,.int .i64 1]) (by simp [results,Tryz.results66,go_sem]) rfl ⟨rfl,S9.o⟩
theorem Df {w:World}{n m:Bool}{a b:Option Addr}{la ca lb cb X Y:Nat}{e f:Int}(dg ls:Int) (En:Nat) (sq:Bool) (mode:Int) (hm0:0<=mode) (o9:mode<=4) (hN:Al w (.slice a la ca) X) (hD:Al w (.slice b lb cb) Y) (be:-9223372036854775808<=e/\e<=9223372036854775807) (bf:-9223372036854775808<=f/\f<=9223372036854775807)
 (o p:Option (Bool×Nat×Int)) (ho:mkS n X e=o) (hp:mkS m Y f=p) (er:Int) (her:ll X n e Y m f=er) (hne:er≠0) :
 Calls Tryz.prog 66 #[.agg #[.int .i64 dg,.int .i64 ls,.int .u64 (En:Nat)],.agg #[.bool n,.slice a la ca,.int .i64 e,.bool m,.slice b lb cb,.int .i64 f],.bool sq,.int .i64 mode] w fun r w'=>r=.returned (.tuple #[.int .u64 0,.bool false,.int .i64 er])/\Below w.heap.size w w':=by
 obtain ⟨W1,hW1⟩:=ah ((w.alloc (.cells #[.int .i64 dg,.int .i64 ls,.int .u64 (En:Nat)] 98)).alloc (.cells #[.bool n,.slice a la ca,.int .i64 e,.bool m,.slice b lb cb,.int .i64 f] 58));obtain ⟨hB,Z,QR⟩:=mP w dg ls En n _ e m _ f W1 hW1;obtain ⟨L1,hL1⟩:=ah (W1.alloc (.cells #[.bool n,.slice a la ca,.int .i64 e,.bool m,.slice b lb cb,.int .i64 f] 58));have hB2:Below W1.heap.size W1 L1:=by rw [hL1];exact ae _ _
 have aB:=hB.trans (hB2.mono hB.size);have LQ:Rq L1 W1.heap.size n (.slice a la ca) e m (.slice b lb cb) f:=by rw [hL1];exact Rq.new _ _ _ _ _ _ _
 have HC:=hid (Yp LQ (hN.below aB) (hD.below aB) be bf o p ho hp er her);have LL:Aside ((ws (dX o)).length<=8192/\(ws (dX p)).length<=8192):=ak ⟨by rw [<-ho];exact aM _ _ _,by rw [<-hp];exact aM _ _ _⟩;obtain ⟨x0,x1,x2,x3,x4,x5⟩:=QR.facts;have S0:=(aJ aB (Z.below hB2));have d1:decide (mode<0)=false:=decide_eq_false af;have d2:decide (4<mode)=false:=decide_eq_false af;clear hB hB2 aB LQ Z QR hN hD be bf ho hp her hm0 o9;go_enter Tryz.func66,Tryz.ntmps66
 go_upto_region 1 with fail
 rw [<-hW1];clear hW1;go_wp2_with fail;rw [<-hL1];clear hL1 x0 x1 x2 x3 x4 x5;refine HC.o.mono ?_;rintro r u1 ⟨⟨v,rfl,hR⟩,hb⟩;have S9:=ak (S0.o.1.trans (hb.mono S0.o.1.size));have hne':(er != 0)=true:=by simpa using hne
 have hne2:(er==0)=false:=by simpa using hne
 clear hb hR HC S0 LL;go_wp2;exact aF (v:=.tuple #[.int .u64 0,.bool false,.int .i64 er]) (by simp [results,Tryz.results66,go_sem]) rfl ⟨rfl,S9.o⟩
theorem FK {w:World}{n m:Bool}{a b:Option Addr}{la ca lb cb X Y:Nat}{e f:Int}(dg ls:Int) (En:Nat) (sq:Bool) (mode:Int) (hm0:0<=mode) (o9:mode<=4) (hN:Al w (.slice a la ca) X) (hD:Al w (.slice b lb cb) Y) (be:-9223372036854775808<=e/\e<=9223372036854775807) (bf:-9223372036854775808<=f/\f<=9223372036854775807)
 (o p:Option (Bool×Nat×Int)) (ho:mkS n X e=o) (hp:mkS m Y f=p) (er:Int) (her:ll X n e Y m f=er) (h0:er=0) (K9:sq=false\/dN o=false) (K:Nat)
 (HNb:Hid (∀ (u:World) (x y:Option Addr) (lx cx ly cy:Nat),Below w.heap.size w u->Al u (.slice x lx cx) (dX o)->Al u (.slice y ly cy) (dX p)->Calls Tryz.prog 110 #[.agg #[.int .i64 dg,.int .i64 ls,.int .u64 (En:Nat)],.agg #[.bool (dN o),.slice x lx cx,.int .i64 (dE o),.bool (dN p),.slice y ly cy,.int .i64 (dE p)],.bool sq,.int .i64 mode] u fun r w'=>r=.returned (.int .u64 (K:Nat))/\Below u.heap.size u w')) :
 Calls Tryz.prog 66 #[.agg #[.int .i64 dg,.int .i64 ls,.int .u64 (En:Nat)],.agg #[.bool n,.slice a la ca,.int .i64 e,.bool m,.slice b lb cb,.int .i64 f],.bool sq,.int .i64 mode] w fun r w'=>r=.returned (.tuple #[.int .u64 (K:Nat),.bool (dN o),.int .i64 0])/\Below w.heap.size w w':=by
 obtain ⟨W1,hW1⟩:=ah ((w.alloc (.cells #[.int .i64 dg,.int .i64 ls,.int .u64 (En:Nat)] 98)).alloc (.cells #[.bool n,.slice a la ca,.int .i64 e,.bool m,.slice b lb cb,.int .i64 f] 58));obtain ⟨hB,Z,QR⟩:=mP w dg ls En n _ e m _ f W1 hW1;obtain ⟨L1,hL1⟩:=ah (W1.alloc (.cells #[.bool n,.slice a la ca,.int .i64 e,.bool m,.slice b lb cb,.int .i64 f] 58));have hB2:Below W1.heap.size W1 L1:=by rw [hL1];exact ae _ _
 have aB:=hB.trans (hB2.mono hB.size);have LQ:Rq L1 W1.heap.size n (.slice a la ca) e m (.slice b lb cb) f:=by rw [hL1];exact Rq.new _ _ _ _ _ _ _
 have HC:=hid (Yp LQ (hN.below aB) (hD.below aB) be bf o p ho hp er her);have LL:Aside ((ws (dX o)).length<=8192/\(ws (dX p)).length<=8192):=ak ⟨by rw [<-ho];exact aM _ _ _,by rw [<-hp];exact aM _ _ _⟩;obtain ⟨x0,x1,x2,x3,x4,x5⟩:=QR.facts;have S0:=(aJ aB (Z.below hB2));have d1:decide (mode<0)=false:=decide_eq_false af;have d2:decide (4<mode)=false:=decide_eq_false af;clear hB hB2 aB LQ Z QR hN hD be bf ho hp her hm0 o9;go_enter Tryz.func66,Tryz.ntmps66
 go_upto_region 1 with fail
 rw [<-hW1];clear hW1;go_wp2_with fail;rw [<-hL1];clear hL1 x0 x1 x2 x3 x4 x5;refine HC.o.mono ?_;rintro r u1 ⟨⟨v,rfl,hR⟩,hb⟩;obtain ⟨x,y,uf,hx,hy⟩:=hR h0;subst h0;obtain ⟨gg,cap,rfl,hcap,hgg,c0,c1,c2,c3,c4,c5⟩:=uf.ex;obtain ⟨q1,e1,rfl,-⟩:=hx.shape;obtain ⟨q2,e2,rfl,-⟩:=hy.shape;have S1:=(iI (S0.o.1.trans (hb.mono S0.o.1.size)) (S0.o.2.below hb) (hx.al' (dP LL.o.1 au)) (hy.al' (dP LL.o.2 au)) uf hgg);clear hb hR HC S0 LL hx hy uf hgg;obtain ⟨ng,Wt⟩:∃ z,dN o=z:=⟨_,rfl⟩;obtain ⟨z0,z1,z2⟩:=S1.o.2.1.facts;have T1:=hid (HNb.o u1 q1 q2 _ e1 _ e2 S1.o.1 S1.o.r2.1 S1.o.r3.1);have dr:Below u1.heap.size u1 u1.drew:=(aD _ _).drew;have T2:=hid (HNb.o u1.drew q1 q2 _ e1 _ e2 S1.o.1.drew (S1.o.r2.1.below dr) (S1.o.r3.1.below dr));have CC:=(P7 c0 c1 c2 c3 c4 c5 z0 z1 z2);rw [Wt] at c0 T1 T2 K9;have NG:=ak Wt;clear dr HNb Wt;rcases K9 with rfl|rfl
 · go_upto_region 8 with fail
   go_region_held3 (fun w'=>w'.cell? ⟨gg,0,none⟩=some (.bool ng)/\w'.cell? ⟨gg,1,none⟩=some (.slice q1 (ws (dX o)).length e1)/\w'.cell? ⟨gg,2,none⟩=some (.int .i64 (dE o))/\w'.cell? ⟨gg,3,none⟩=some (.bool (dN p))/\w'.cell? ⟨gg,4,none⟩=some (.slice q2 (ws (dX p)).length e2)/\w'.cell? ⟨gg,5,none⟩=some (.int .i64 (dE p))/\w'.cell? ⟨w.heap.size,0,none⟩=some (.int .i64 dg)/\w'.cell? ⟨w.heap.size,1,none⟩=some (.int .i64 ls)/\w'.cell? ⟨w.heap.size,2,none⟩=some (.int .u64 (En:Nat))) (go_keep) (first
    | (go_at_call 110
       first | with_reducible refine T1.o.mono ?_ | with_reducible refine T2.o.mono ?_
       rintro r v1 ⟨rfl,hb⟩;have hw:Below u1.heap.size u1 v1:=by first | exact hb | exact ((aD _ u1).drew).trans (hb.mono (aC _))
       have hcg:∀ i,v1.cell? ⟨gg,i,none⟩=u1.cell? ⟨gg,i,none⟩:=fun i=>hw.cell (p:=⟨gg,i,none⟩) S1.o.r5;have k0:v1.cell? ⟨gg,0,none⟩=some (.bool ng):=by rw [hcg,CC.o.1,NG.o]
       have k1:=(hcg 1).trans CC.o.2.1;have k2:=(hcg 2).trans CC.o.r2.1;have k3:=(hcg 3).trans CC.o.r3.1;have k4:=(hcg 4).trans CC.o.r4.1;have k5:=(hcg 5).trans CC.o.r5.1;obtain ⟨j0,j1,j2⟩:=(S1.o.2.1.below hw).facts;have S9:=ak (S1.o.1.trans (hw.mono S1.o.1.size))
       clear hb hw hcg)
    | fail)
   all_goals (
    go_wp2
    exact aF (v:=.tuple #[.int .u64 (K:Nat),.bool ng,.int .i64 0]) (by simp [results,Tryz.results66,go_sem]) rfl ⟨by rw [NG.o],S9.o⟩)
 · cases sq
   · go_upto_region 8 with fail
     go_region_held3 (fun w'=>w'.cell? ⟨gg,0,none⟩=some (.bool false)/\w'.cell? ⟨gg,1,none⟩=some (.slice q1 (ws (dX o)).length e1)/\w'.cell? ⟨gg,2,none⟩=some (.int .i64 (dE o))/\w'.cell? ⟨gg,3,none⟩=some (.bool (dN p))/\w'.cell? ⟨gg,4,none⟩=some (.slice q2 (ws (dX p)).length e2)/\w'.cell? ⟨gg,5,none⟩=some (.int .i64 (dE p))/\w'.cell? ⟨w.heap.size,0,none⟩=some (.int .i64 dg)/\w'.cell? ⟨w.heap.size,1,none⟩=some (.int .i64 ls)/\w'.cell? ⟨w.heap.size,2,none⟩=some (.int .u64 (En:Nat))) (go_keep) (first
      | (go_at_call 110
         first | with_reducible refine T1.o.mono ?_ | with_reducible refine T2.o.mono ?_
         rintro r v1 ⟨rfl,hb⟩;have hw:Below u1.heap.size u1 v1:=by first | exact hb | exact ((aD _ u1).drew).trans (hb.mono (aC _))
         have hcg:∀ i,v1.cell? ⟨gg,i,none⟩=u1.cell? ⟨gg,i,none⟩:=fun i=>hw.cell (p:=⟨gg,i,none⟩) S1.o.r5;have k0:v1.cell? ⟨gg,0,none⟩=some (.bool false):=by rw [hcg,CC.o.1,NG.o]
         have k1:=(hcg 1).trans CC.o.2.1;have k2:=(hcg 2).trans CC.o.r2.1;have k3:=(hcg 3).trans CC.o.r3.1;have k4:=(hcg 4).trans CC.o.r4.1;have k5:=(hcg 5).trans CC.o.r5.1;obtain ⟨j0,j1,j2⟩:=(S1.o.2.1.below hw).facts;have S9:=ak (S1.o.1.trans (hw.mono S1.o.1.size))
         clear hb hw hcg)
      | fail)
     all_goals (
      go_wp2
      exact aF (v:=.tuple #[.int .u64 (K:Nat),.bool false,.int .i64 0]) (by simp [results,Tryz.results66,go_sem]) rfl ⟨by rw [NG.o],S9.o⟩)
   · go_upto_region 8 with fail
     go_region_held3 (fun w'=>w'.cell? ⟨gg,0,none⟩=some (.bool false)/\w'.cell? ⟨gg,1,none⟩=some (.slice q1 (ws (dX o)).length e1)/\w'.cell? ⟨gg,2,none⟩=some (.int .i64 (dE o))/\w'.cell? ⟨gg,3,none⟩=some (.bool (dN p))/\w'.cell? ⟨gg,4,none⟩=some (.slice q2 (ws (dX p)).length e2)/\w'.cell? ⟨gg,5,none⟩=some (.int .i64 (dE p))/\w'.cell? ⟨w.heap.size,0,none⟩=some (.int .i64 dg)/\w'.cell? ⟨w.heap.size,1,none⟩=some (.int .i64 ls)/\w'.cell? ⟨w.heap.size,2,none⟩=some (.int .u64 (En:Nat))) (go_keep) (first
      | (go_at_call 110
         first | with_reducible refine T1.o.mono ?_ | with_reducible refine T2.o.mono ?_
         rintro r v1 ⟨rfl,hb⟩;have hw:Below u1.heap.size u1 v1:=by first | exact hb | exact ((aD _ u1).drew).trans (hb.mono (aC _))
         have hcg:∀ i,v1.cell? ⟨gg,i,none⟩=u1.cell? ⟨gg,i,none⟩:=fun i=>hw.cell (p:=⟨gg,i,none⟩) S1.o.r5;have k0:v1.cell? ⟨gg,0,none⟩=some (.bool false):=by rw [hcg,CC.o.1,NG.o]
         have k1:=(hcg 1).trans CC.o.2.1;have k2:=(hcg 2).trans CC.o.r2.1;have k3:=(hcg 3).trans CC.o.r3.1;have k4:=(hcg 4).trans CC.o.r4.1;have k5:=(hcg 5).trans CC.o.r5.1;obtain ⟨j0,j1,j2⟩:=(S1.o.2.1.below hw).facts;have S9:=ak (S1.o.1.trans (hw.mono S1.o.1.size))
         clear hb hw hcg)
      | fail)
     all_goals (
      go_wp2
      exact aF (v:=.tuple #[.int .u64 (K:Nat),.bool false,.int .i64 0]) (by simp [results,Tryz.results66,go_sem]) rfl ⟨by rw [NG.o],S9.o⟩)
theorem Aw {w:World}{n m:Bool}{a b:Option Addr}{la ca lb cb:Nat}{e f:Int}(mode:Int) (k:Nat) (ng:Bool) (er:Int) (hk:k<9223372036854775808) (z:Nat) (hz:k+(if ng then 9223372036854775808 else 0)=z)
 (HR:Hid (∀ u:World,Below w.heap.size w u->Calls Tryz.prog 66 #[.agg #[.int .i64 53,.int .i64 (-1074),.int .u64 9218868437227405312],.agg #[.bool n,.slice a la ca,.int .i64 e,.bool m,.slice b lb cb,.int .i64 f],.bool false,.int .i64 mode] u fun r w'=>r=.returned (.tuple #[.int .u64 (k:Nat),.bool ng,.int .i64 er])/\Below u.heap.size u w')) :
 Calls Tryz.prog 33 #[.agg #[.bool n,.slice a la ca,.int .i64 e,.bool m,.slice b lb cb,.int .i64 f],.int .i64 mode] w fun r w'=>r=.returned (.tuple #[.float .f64 z,.int .i64 er])/\Below w.heap.size w w':=by
 obtain ⟨W1,hW1⟩:=ah (w.alloc (.cells #[.bool n,.slice a la ca,.int .i64 e,.bool m,.slice b lb cb,.int .i64 f] 58));have hB:Below w.heap.size w W1:=by rw [hW1];exact ae _ _
 have Sg:Rq W1 w.heap.size n (.slice a la ca) e m (.slice b lb cb) f:=by rw [hW1];exact Rq.new _ _ _ _ _ _ _
 obtain ⟨x0,x1,x2,x3,x4,x5⟩:=Sg.facts;have S0:=(aJ hB Sg);have HWd:Hid (∀ u:World,Calls Tryz.prog 68 #[.int .u64 (k:Nat),.bool ng,.int .i64 er] u fun r w'=>r=.returned (.tuple #[.float .f64 z,.int .i64 er])/\w'=u):=hid fun u=>by have h:=Fz k hk ng er u;rw [hz] at h;exact h
 clear hB Sg hk hz;go_enter Tryz.func33,Tryz.ntmps33
 go_upto_region 1 with fail
 rw [<-hW1];clear hW1;have T1:=hid (Cb W1);have T2:=hid (Cb W1.drew)
 go_region_held3 (fun w'=>w'.cell? ⟨w.heap.size,0,none⟩=some (.bool n)/\w'.cell? ⟨w.heap.size,1,none⟩=some (.slice a la ca)/\w'.cell? ⟨w.heap.size,2,none⟩=some (.int .i64 e)/\w'.cell? ⟨w.heap.size,3,none⟩=some (.bool m)/\w'.cell? ⟨w.heap.size,4,none⟩=some (.slice b lb cb)/\w'.cell? ⟨w.heap.size,5,none⟩=some (.int .i64 f)) (go_keep) (first
  | (go_at_call 67
     first | with_reducible refine T1.o.mono ?_ | with_reducible refine T2.o.mono ?_
     rintro r v1 ⟨rfl,hb⟩;have hw:Below W1.heap.size W1 v1:=by first | exact hb | exact ((aD _ W1).drew).trans (hb.mono (aC _))
     obtain ⟨m0,m1,m2,m3,m4,m5⟩:=(S0.o.2.below hw).facts;have T3:=hid (HR.o v1 (S0.o.1.trans (hw.mono S0.o.1.size)));have S4:=(aJ (S0.o.1.trans (hw.mono S0.o.1.size)) (S0.o.2.below hw))
     clear hb hw)
  | (go_at_call 66
     with_reducible refine T3.o.mono ?_
     rintro r v2 ⟨rfl,hb⟩;obtain ⟨k0,k1,k2,k3,k4,k5⟩:=(S4.o.2.below hb).facts;have S5:=ak (S4.o.1.trans (hb.mono S4.o.1.size))
     clear hb))
 all_goals (
  go_wp2_with fail;refine (HWd.o _).mono ?_;rintro r v3 ⟨rfl,rfl⟩;go_wp2
  exact aF (v:=.tuple #[.float .f64 z,.int .i64 er]) (by simp [results,Tryz.results33,go_sem]) rfl ⟨rfl,S5.o⟩)
theorem Dg {v:Nat->Nat}{top n S:Nat}(G:N9 v top) (hn:n≠0) (hS:0<S):ig v top n 0 true 0 0 S :=
 ⟨by have:=G.one;omega,hS,fun _=>by rw [G.zero,Nat.zero_pow af,eQ],(fun h=>by cases h),(fun h=>by cases h),(fun h=>by cases h)⟩
theorem Sn (e f:Int) (u n:Nat):iR 0 e f u n=0:=by unfold iR;rw [eQ]
theorem VY {Y:Nat}(h:Y≠0) (e f:Int) (u n:Nat):0<gX Y e f u n:=by unfold gX;exact ik af (bu _)
theorem KN {X:Nat}{n:Bool}{e:Int}{Y:Nat}{m:Bool}{f:Int}(h:ll X n e Y m f=0):(mkS n X e).isSome=true/\(mkS m Y f).isSome=true/\dX (mkS m Y f)≠0:=by
 unfold ll at h
 split at h
 · cases h
 · split at h
   · rename_i h2;rw [nT] at h2
     split at h
     · cases h
     · rename_i h3;exact ⟨h2.1,h2.2,h3⟩
   · cases h
theorem Sq {w:World}{n m:Bool}{a b:Option Addr}{la ca lb cb X Y:Nat}{e f:Int}(mode:Int) (hN:Al w (.slice a la ca) X) (hD:Al w (.slice b lb cb) Y) (be:-9223372036854775808<=e/\e<=9223372036854775807) (bf:-9223372036854775808<=f/\f<=9223372036854775807) :
 Calls Tryz.prog 33 #[.agg #[.bool n,.slice a la ca,.int .i64 e,.bool m,.slice b lb cb,.int .i64 f],.int .i64 mode] w fun r w'=>r=.returned (.tuple #[.float .f64 (ru gW ⟨n,.slice a la ca,X,e,m,.slice b lb cb,Y,f⟩ mode).1,.int .i64 (ru gW ⟨n,.slice a la ca,X,e,m,.slice b lb cb,Y,f⟩ mode).2])/\Below w.heap.size w w':=by
 by_cases hm:mode<0\/4<mode
 · have e1:ru gW ⟨n,.slice a la ca,X,e,m,.slice b lb cb,Y,f⟩ mode=(0,1):=by unfold ru;rw [if_pos hm]
   rw [e1];exact Aw mode 0 false 1 af 0 rfl (hid fun u hu=>Au (X:=X) (Y:=Y) _ _ _ _ mode hm)
 · have hm0:0<=mode:=af
   have o9:mode<=4:=af
   have el:=ou ⟨n,.slice a la ca,X,e,m,.slice b lb cb,Y,f⟩
   by_cases h0:ll X n e Y m f=0
   · obtain ⟨s1,s2,hY⟩:=KN h0;have F1:=jl s1;have F2:=jl s2;have ez:iT (CO ⟨n,.slice a la ca,X,e,m,.slice b lb cb,Y,f⟩) 1=0:=el.trans h0
     obtain ⟨K,t,mm,L,hq⟩:∃ K t mm,ig vK 9218868437227405312 1 K t mm (iR (dX (mkS n X e)) (dE (mkS n X e)) (dE (mkS m Y f)) 1074 1) (gX (dX (mkS m Y f)) (dE (mkS n X e)) (dE (mkS m Y f)) 1074 1)/\gW (mG (dN (mkS n X e)) (dX (mkS n X e)) (dE (mkS n X e)) (dX (mkS m Y f)) (dE (mkS m Y f))) mode=((if t then K else if kW mode K mm (dN (mkS n X e)) then K+1 else K)+(if (dN (mkS n X e)) then 9223372036854775808 else 0),0):=by
      rcases F1.odd with h|⟨h1,h2,h3⟩
      · obtain ⟨K,t,mm,L,hq⟩:=Ui (dN (mkS n X e)) (dX (mkS n X e)) (dE (mkS n X e)) (dX (mkS m Y f)) (dE (mkS m Y f)) h hY F1.size F2.size;exact ⟨K,t,mm,L,by have q:=hq mode hm0 o9;rw [q];rfl⟩
      · refine ⟨0,true,0,?_,?_⟩
        · rw [h1,Sn];exact Dg qy af (VY hY _ _ _ _)
        · rw [h1,CK _ _ _ _ hY F2.size];unfold gW;rw [if_neg af];simp [h2]
     have hfin:=L.fin
     have e1:ru gW ⟨n,.slice a la ca,X,e,m,.slice b lb cb,Y,f⟩ mode=((if t then K else if kW mode K mm (dN (mkS n X e)) then K+1 else K)+(if dN (mkS n X e) then 9223372036854775808 else 0),0):=by
      unfold ru;simp only;rw [if_neg hm,if_pos ez];exact hq
     rw [e1];refine Aw mode _ (dN (mkS n X e)) 0 (by split;omega;split <;> omega) _ rfl (hid fun u hu=>?_);refine FK _ _ _ _ mode hm0 o9 (hN.below hu) (hD.below hu) be bf _ _ rfl rfl _ h0 rfl (.inl rfl) _ (hid fun x p q lx cx ly cy hx A1 A2=>?_);exact Sk Sj A1 A2 ⟨F1.down,F1.up⟩ ⟨F2.down,F2.up⟩ F2.size (.inl rfl) L false rfl mode hm0 o9
   · have ez:iT (CO ⟨n,.slice a la ca,X,e,m,.slice b lb cb,Y,f⟩) 1=ll X n e Y m f:=el;have e1:ru gW ⟨n,.slice a la ca,X,e,m,.slice b lb cb,Y,f⟩ mode=(0,ll X n e Y m f):=by unfold ru;rw [if_neg hm,if_neg (by rw [ez];exact h0),ez]
     rw [e1];exact Aw mode 0 false _ af 0 rfl (hid fun u hu=>Df _ _ _ _ mode hm0 o9 (hN.below hu) (hD.below hu) be bf _ _ rfl rfl _ rfl h0)
end
section
open Go Go.RowKit J
theorem Nt.al14 {lo:Nat}{w:World}{v:Value}{o:Option (Bool×Nat×Int)}(h:Nt lo w v (dX o)) (F:Fm o):Al w v (dX o):=by
 have:=F.len;obtain ⟨a,c,rfl,hA⟩:=h.arg af;exact ⟨a,_,c,_,rfl,hA,aj _,af⟩
def pE (mode:Int):Bool:=decide (0<=mode)&&decide (mode<=4)
def lsB (less:Int):Bool:=decide (less=0) || decide (less=1)
theorem Hy {mode:Int}(h:pE mode=true):0<=mode/\mode<=4:=by unfold pE at h;simpa using h
theorem Dh {less:Int}(h:lsB less=true):less=0\/less=1:=by unfold lsB at h;simpa using h
theorem iH (mode:Int) (w:World):Calls Tryz.prog 24 #[.int .i64 mode] w fun r w'=>r=.returned (.bool (pE mode))/\w'=w:=by
 unfold pE
 by_cases h0:0<=mode
 · have d0:decide (0<=mode)=true:=decide_eq_true h0
   by_cases h4:mode<=4
   · have d4:decide (mode<=4)=true:=decide_eq_true h4;rw [d0,d4];go_enter Tryz.func24,Tryz.ntmps24;go_wp2;go_ret;exact ⟨rfl,rfl⟩
   · have d4:decide (mode<=4)=false:=decide_eq_false h4;rw [d0,d4];go_enter Tryz.func24,Tryz.ntmps24;go_wp2;go_ret;exact ⟨rfl,rfl⟩
 · have d0:decide (0<=mode)=false:=decide_eq_false h0;rw [d0,nJ];go_enter Tryz.func24,Tryz.ntmps24;go_wp2;go_ret;exact ⟨rfl,rfl⟩
theorem o5 (mode:Int) (w:World):Calls Tryz.prog 29 #[.int .i64 mode] w fun r w'=>r=.returned (.bool (pE mode))/\w'=w:=by
 unfold pE
 by_cases h0:0<=mode
 · have d0:decide (0<=mode)=true:=decide_eq_true h0
   by_cases h4:mode<=4
   · have d4:decide (mode<=4)=true:=decide_eq_true h4;rw [d0,d4];go_enter Tryz.func29,Tryz.ntmps29;go_wp2;go_ret;exact ⟨rfl,rfl⟩
   · have d4:decide (mode<=4)=false:=decide_eq_false h4;rw [d0,d4];go_enter Tryz.func29,Tryz.ntmps29;go_wp2;go_ret;exact ⟨rfl,rfl⟩
 · have d0:decide (0<=mode)=false:=decide_eq_false h0;rw [d0,nJ];go_enter Tryz.func29,Tryz.ntmps29;go_wp2;go_ret;exact ⟨rfl,rfl⟩
theorem mQ (less:Int) (w:World):Calls Tryz.prog 25 #[.int .i64 less] w fun r w'=>r=.returned (.bool (lsB less))/\w'=w:=by
 unfold lsB
 by_cases h0:less=0
 · subst h0;go_enter Tryz.func25,Tryz.ntmps25;go_wp2;go_ret;exact ⟨rfl,rfl⟩
 · by_cases h1:less=1
   · subst h1;go_enter Tryz.func25,Tryz.ntmps25;go_wp2;go_ret;exact ⟨rfl,rfl⟩
   · rw [decide_eq_false h0,decide_eq_false h1];have d0:(less==0)=false:=by simp [h0]
     have d1:(less==1)=false:=by simp [h1]
     go_enter Tryz.func25,Tryz.ntmps25;go_wp2;go_ret;exact ⟨rfl,rfl⟩
theorem tL (less:Int) (w:World):Calls Tryz.prog 30 #[.int .i64 less] w fun r w'=>r=.returned (.bool (lsB less))/\w'=w:=by
 unfold lsB
 by_cases h0:less=0
 · subst h0;go_enter Tryz.func30,Tryz.ntmps30;go_wp2;go_ret;exact ⟨rfl,rfl⟩
 · by_cases h1:less=1
   · subst h1;go_enter Tryz.func30,Tryz.ntmps30;go_wp2;go_ret;exact ⟨rfl,rfl⟩
   · rw [decide_eq_false h0,decide_eq_false h1];have d0:(less==0)=false:=by simp [h0]
     have d1:(less==1)=false:=by simp [h1]
     go_enter Tryz.func30,Tryz.ntmps30;go_wp2;go_ret;exact ⟨rfl,rfl⟩
theorem rM (n:Nat) (less:Int) (w:World) (hT:dJ w) (hn:n<=1099511627776) (h0:0<=less) (h1:less<=1) (hl:less<n) :
 Calls Tryz.prog 28 #[.int .i64 (n:Nat),.int .i64 less] w fun r w'=>bC 0 w' r (gV 0 ((n:Int)*((n:Int)-less)))/\Below w.heap.size w w':=by
 have b1:Bd 41 (n:Int):=Bd.nat af;have b2:Bd 41 ((n:Int)-less):=by unfold Bd;omega
 obtain ⟨oA,hA⟩:=ah (gV 0 (n:Int));obtain ⟨oB,hB⟩:=ah (gV 0 ((n:Int)-less));obtain ⟨oC,hC⟩:=ah (gV 0 ((n:Int)*((n:Int)-less)));have FA:Fm oA:=by rw [hA];exact dB au au b1
 have FB:Fm oB:=by rw [hB];exact dB au au b2
 have FC:Fm oC:=by rw [hC];exact dB au au (b1.mul b2)
 have E:dK oA oB=oC:=by rw [hA,hB,hC];exact mH au au au au b1 b2
 rw [<-hC];have HI1:Hid (∀ u:World,dJ u->Calls Tryz.prog 48 #[.int .i64 (n:Nat)] u fun r w'=>bC 0 w' r oA/\Below u.heap.size u w'):=fun u hu=>by rw [hA];exact xc n u hu af af
 have HI2:Hid (∀ u:World,dJ u->Calls Tryz.prog 48 #[.int .i64 ((n:Int)-less)] u fun r w'=>bC 0 w' r oB/\Below u.heap.size u w'):=fun u hu=>by rw [hB];exact xc _ u hu af af
 have HX:=eu FA FB FC E hT;have hwr:IntKind.i64.wrap ((n:Int)-less)=(n:Int)-less:=by rw [zx];omega
 clear hA hB hC FA FB FC E hT b1 b2;obtain ⟨W,hW⟩:=ah (w.alloc (Obj.cells #[.bool false,.slice none 0 0,.int .i64 0] 25));have H0:Aside (Lo W w.heap.size iX/\Below w.heap.size w W):=by rw [hW];exact ⟨Lo.zero _,ae _ _⟩
 have HW:=ak hW;clear hW;go_enter Tryz.func28,Tryz.ntmps28
 go_upto_region 1 with fail
 rw [<-HW.o];clear HW;have C:=hid (HI1.o W (HX.o.r4.belows H0.o.2));go_wp2_with fail;refine C.o.mono ?_;rintro r u1 ⟨hd,hb⟩;obtain ⟨a1,c1,rfl,hN1⟩:=hd.aG;have H1:=(aZ (H0.o.1.below hb) (H0.o.2.trans (hb.mono H0.o.2.size)) hN1);clear hb hd hN1 H0 C;have C:=hid (HI2.o u1 (HX.o.r4.belows H1.o.2.1));go_wp2_with fail;refine C.o.mono ?_;rintro r u2 ⟨hd,hb⟩;obtain ⟨a2,c2,rfl,ko⟩:=hd.aG;have H2:=(gK (H1.o.1.below hb) (H1.o.2.1.trans (hb.mono H1.o.2.1.size)) (H1.o.r2.below hb) ko);clear hb hd ko H1 C;have C:=hid (gL HX.o.1 HX.o.2.1 HX.o.r2.1 H2.o.r2.1 H2.o.r3 (HX.o.r4.belows H2.o.2.1) HX.o.r3.1);go_wp2_with fail;refine C.o.mono ?_;rintro r u3 ⟨hd,hb⟩;obtain ⟨a3,c3,rfl,dF⟩:=hd.aG;have H3:=(aZ (H2.o.1.below hb) (H2.o.2.1.trans (hb.mono H2.o.2.1.size)) dF);clear hb hd dF H2 C;obtain ⟨p2,q2,D2,M2⟩:=H3.o.1;obtain ⟨y0,y1,y2,bN,bO,bU⟩:=D2.facts;clear D2 M2;go_wp2;exact jX Tryz.results28 rfl H3.o.1 H3.o.2.1 (aC _) H3.o.r2
noncomputable def pF (V D:Option (Bool×Nat×Int)) (mode:Int):Nat×Int:=ru gW ⟨dN V,.bool false,dX V,dE V,dN D,.bool false,dX D,dE D⟩ mode
noncomputable def nA (V D:Option (Bool×Nat×Int)) (mode:Int):Nat×Int:=uM gW ⟨dN V,.bool false,dX V,dE V,dN D,.bool false,dX D,dE D⟩ mode
theorem FL {u:World}{a b:Option Addr}{ca cb:Nat}{V D:Option (Bool×Nat×Int)}(mode:Int) (FV:Fm V) (FD:Fm D) (n1:Nt 0 u (.slice a (ws (dX V)).length ca) (dX V)) (n2:Nt 0 u (.slice b (ws (dX D)).length cb) (dX D)) (hT:dJ u) :
 Calls Tryz.prog 27 #[.agg #[.bool (dN V),.slice a (ws (dX V)).length ca,.int .i64 (dE V),.bool (dN D),.slice b (ws (dX D)).length cb,.int .i64 (dE D)],.int .i64 mode] u fun r w'=>r=.returned (.tuple #[.float .f64 (pF V D mode).1,.int .i64 (pF V D mode).2])/\Below u.heap.size u w' :=
 Ou (w:=u) (n:=dN V) (m:=dN D) (X:=dX V) (Y:=dX D) (e:=dE V) (f:=dE D) mode ⟨n1.av (dP FV.len au),n2.av (dP FD.len au),FV.p9,FD.p9⟩ hT
theorem FM {u:World}{a b:Option Addr}{ca cb:Nat}{V D:Option (Bool×Nat×Int)}(mode:Int) (FV:Fm V) (FD:Fm D) (n1:Nt 0 u (.slice a (ws (dX V)).length ca) (dX V)) (n2:Nt 0 u (.slice b (ws (dX D)).length cb) (dX D)) (hT:dJ u) :
 Calls Tryz.prog 44 #[.agg #[.bool (dN V),.slice a (ws (dX V)).length ca,.int .i64 (dE V),.bool (dN D),.slice b (ws (dX D)).length cb,.int .i64 (dE D)],.int .i64 mode] u fun r w'=>r=.returned (.tuple #[.float .f64 (nA V D mode).1,.int .i64 (nA V D mode).2])/\Below u.heap.size u w' :=
 VE (w:=u) (n:=dN V) (m:=dN D) (X:=dX V) (Y:=dX D) (e:=dE V) (f:=dE D) mode ⟨n1.av (dP FV.len au),n2.av (dP FD.len au),FV.p9,FD.p9⟩ hT
theorem Sr {B:Nat}{w:World}{a:Option Addr}{xs:List Nat}(h:Fs B w a xs):Ps.Rd B w a xs:=h
theorem Hz {lo:Nat}{w:World}{v:Value}{xs:List Nat}(h:Ps.Lt lo w v xs):∃ a c,v=.slice a xs.length c/\Fs w.heap.size w a xs:=by
 have h2:=h.2;unfold Ps.Lt at h;rcases h2 with ⟨rfl,h0⟩|⟨g,cap,cur,rfl,hlo,hg,rest⟩
 · exact ⟨none,0,by rw [h0],fun hne=>absurd (Be h0) hne⟩
 · refine ⟨_,cap,rfl,fun _=>⟨g,0,(gD.1 hg).1,rfl,fun i hi=>?_⟩⟩;have h1:=h.cells (g:=g) (by simp [Value.ownBlock]) i (.float .f64 (xs.getD i 0)) (by simp [Ps.U,hi]);have e:(⟨g,0,none⟩:Addr).add i=⟨g,0+i,none⟩:=by unfold Addr.add;split <;> simp_all
   rw [e] at h1;exact h1
theorem OY (xs:List Nat) (a:Option Addr) (n c:Nat) (pa pb:Int) (w:World) (hn:n=xs.length) (hm:n<=35184372088832) (hF:Fs w.heap.size w a xs) (hW:nN xs) :
 Calls Tryz.prog 79 #[.slice a n c,.agg #[.int .i64 pa,.int .i64 pb]] w fun r w' =>
  ((Ps.fG pa pb xs≠0/\∃ a' c',r=.returned (.tuple #[.slice a' 0 c',.agg #[.int .i64 0,.int .i64 0,.int .i64 0,.int .i64 0,.int .i64 0,.int .i64 0],.int .i64 (Ps.fG pa pb xs)])) \/
   (Ps.fG pa pb xs=0/\∃ a' c',r=.returned (.tuple #[.slice a' (Ps.fin xs).length c',.agg #[.int .i64 (Ps.cn 5 xs:Nat),.int .i64 (Ps.cn 3 xs:Nat),.int .i64 (Ps.cn 4 xs:Nat),.int .i64 (Ps.cn 1 xs:Nat),.int .i64 (Ps.cn 2 xs:Nat),.int .i64 (xs.length:Nat)],.int .i64 0])/\Fs w'.heap.size w' a' (Ps.fin xs)))/\Below w.heap.size w w':=by
 refine (Ps.OQ xs a n c w.heap.size pa pb w hn hm hW (Sr hF) (aC _)).mono ?_;rintro r w' ⟨v,rfl,hL,hb⟩;refine ⟨?_,hb⟩;unfold Ps.Hu;unfold Ps.Ht at hL
 by_cases h0:Ps.fG pa pb xs=0
 · rw [if_pos h0] at hL |-;obtain ⟨a',c',rfl,hF'⟩:=Hz hL;exact .inr ⟨h0,a',c',by rw [h0],hF'⟩
 · rw [if_neg h0] at hL |-;obtain ⟨a',c',rfl,_⟩:=Hz hL;exact .inl ⟨h0,a',c',rfl⟩
def PZ (pa pb:Int) (xs:List Nat):Bool:=(decide (0<Ps.cn 5 xs)&&decide (pa=0)) || (decide (0<Ps.cn 3 xs+Ps.cn 4 xs)&&decide (pb=0))
theorem xu {pa pb:Int}{xs:List Nat}(h:Ps.fG pa pb xs=0):may pa pb=true/\xs.length<=65536:=by
 unfold Ps.fG at h
 cases hm:may pa pb with
 | false=>rw [hm] at h;simp at h
 | true =>
   rw [hm,if_neg au] at h
   by_cases hl:65536<xs.length
   · rw [if_pos hl] at h;exact absurd h au
   · exact ⟨rfl,af⟩
theorem Di:∀ xs:List Nat,Ps.cn 5 xs+Ps.cn 3 xs+Ps.cn 4 xs+Ps.cn 1 xs+Ps.cn 2 xs<=xs.length
 | []=>by simp [Ps.cn]
 | x::xs=>by
   have ih:=Di xs;unfold Ps.cn at ih |-;simp only [List.countP_cons,qD];have hk:=Ps.OJ x;obtain q|q|q|q|q|q:kd x=0\/kd x=1\/kd x=2\/kd x=3\/kd x=4\/kd x=5:=af
   all_goals (rw [q];simp;omega)
theorem vd14 {pa pb:Int}{xs:List Nat}(h:Ps.fG pa pb xs=0):(vd (snd (Ps.cn 5 xs:Nat) (Ps.cn 3 xs:Nat) (Ps.cn 4 xs:Nat) (Ps.cn 1 xs:Nat) (Ps.cn 2 xs:Nat) (xs.length:Nat)&&may pa pb) (Ps.cn 5 xs:Nat) (Ps.cn 3 xs:Nat) (Ps.cn 4 xs:Nat) pa pb).2=PZ pa pb xs:=by
 obtain ⟨hm,hl⟩:=xu h;have hs:=Di xs
 have e:snd (Ps.cn 5 xs:Nat) (Ps.cn 3 xs:Nat) (Ps.cn 4 xs:Nat) (Ps.cn 1 xs:Nat) (Ps.cn 2 xs:Nat) (xs.length:Nat)=true:=by
  unfold snd ct;simp;omega
 rw [e,hm];unfold vd PZ
 by_cases h5:0<Ps.cn 5 xs/\pa=0
 · have h5':0<((Ps.cn 5 xs:Nat):Int)/\pa=0:=⟨af,h5.2⟩;rw [if_neg au,if_pos h5'];simp [h5.1,h5.2]
 · have h5':¬ (0<((Ps.cn 5 xs:Nat):Int)/\pa=0):=fun q=>h5 ⟨af,q.2⟩
   have e5:(decide (0<Ps.cn 5 xs)&&decide (pa=0))=false:=by
    rcases kI 0 (Ps.cn 5 xs) with q|q
    · have:¬ pa=0:=fun r=>h5 ⟨q,r⟩;simp [this]
    · have:¬ 0<Ps.cn 5 xs:=af
      simp [this]
   rw [if_neg au,if_neg h5',e5,Bool.false_or]
   by_cases hb:pb=0
   · subst hb;rw [if_neg aO]
     by_cases h3:0<Ps.cn 3 xs
     · have:0<Ps.cn 3 xs+Ps.cn 4 xs:=af
       by_cases h4:0<Ps.cn 4 xs
       · rw [if_pos ⟨af,af⟩];simp [this]
       · rw [if_neg af,if_pos af];simp [this]
     · by_cases h4:0<Ps.cn 4 xs
       · have:0<Ps.cn 3 xs+Ps.cn 4 xs:=af
         rw [if_neg af,if_neg af,if_pos af];simp [this]
       · have:¬ 0<Ps.cn 3 xs+Ps.cn 4 xs:=af
         rw [if_neg af,if_neg af,if_neg af];simp [this]
   · rw [if_pos hb];simp [hb]
theorem yV {pa pb:Int}{xs:List Nat}(h:Ps.fG pa pb xs=0) (w:World):Calls Tryz.prog 80 #[.agg #[.int .i64 (Ps.cn 5 xs:Nat),.int .i64 (Ps.cn 3 xs:Nat),.int .i64 (Ps.cn 4 xs:Nat),.int .i64 (Ps.cn 1 xs:Nat),.int .i64 (Ps.cn 2 xs:Nat),.int .i64 (xs.length:Nat)],.agg #[.int .i64 pa,.int .i64 pb]] w fun r w'=>(∃ x,r=.returned (.tuple #[.float .f64 x,.bool (PZ pa pb xs)]))/\Below w.heap.size w w':=by
 refine (BX _ _ _ _ _ _ pa pb w).mono ?_;rintro r w' ⟨rfl,hb⟩;exact ⟨⟨_,by rw [vd14 h]⟩,hb⟩
theorem H8 {xs:List Nat}(h:nN xs):nN (Ps.fin xs):=fun x hx=>h x (List.mem_filter.1 hx).1
theorem tN {xs:List Nat}(h:nN xs):∀ x ∈ Ps.fin xs,iY x:=fun x hx=>by
 have hk:kd x<=2:=by simpa using (List.mem_filter.1 hx).2
 have hl:=h x (List.mem_filter.1 hx).1;show jN x<9218868437227405312;have em:jN x=x%9223372036854775808:=rfl;unfold kd at hk;rcases kI (jN x) 9218868437227405312 with q|q
 · exact q
 · rcases Nat.eq_or_lt_of_le q with r | r
   · rw [if_neg af,if_pos af] at hk;split at hk <;> omega
   · rw [if_pos af] at hk;omega
theorem tO {pa pb:Int}{xs:List Nat}(h:Ps.fG pa pb xs=0):(Ps.fin xs).length<=65536:=dP (Ps.OL xs) (xu h).2
theorem Dj {pa pb:Int}{xs:List Nat}(hW:nN xs) (h:Ps.fG pa pb xs=0):rA (Ps.fin xs)=0:=by
 unfold rA;rw [if_neg (by have:=tO h;omega),if_pos ((iK _).2 (tN hW))]
end
end Go.Proofs.YtfmfhehbdfhnbaaGreatDoor
