import Derived.Test.YtjppdacikihpdaaGreatDoorD15x
import Derived.Test.YtjppdacikihpdaaGreatDoorW50x
import Derived.Deep.Cut
import Derived.Test.YtjppdacikihpdaaGreatDoorS10x
set_option linter.unusedVariables false
set_option linter.unusedSimpArgs false
set_option maxHeartbeats 16000000
set_option maxRecDepth 20000
namespace Go.Proofs.YtjppdacikihpdaaGreatDoor
namespace B
open Go.RowKit
attribute [local go_sem] aW aJ
theorem zm (b e g d:Nat) (x y z:Int) (w:World) (hb:b<9223372036854775808) (hx0:-3000<=x) (hx1:x<=3000) (he0:0<e) (he1:e<2047) (hg:g<4503599627370496)
 (z0:(FloatKind.f64.format.order b 0==some .eq)=false)
 (HI:Hid (∀u,Ax 226 #[.float .f64 b,.int .i64 0] u (.bool false)))
 (HN:Hid (∀u,Ax 27 #[.float .f64 b] u (.bool false)))
 (HZ:Hid (∀u,Ax 227 #[.float .f64 b] u (.tuple #[.float .f64 b,.int .i64 0])))
 (e1:bits .and .i64 ((b:Int)/4503599627370496) 2047=(e:Int)) (mc:bits .andNot .u64 (b:Int) 9218868437227405312=(g:Int))
 (ey:x+((e:Int)-1023)=y) (hy0:-1022<=y) (hy1:y<=1023) (ez:(y+1023)*4503599627370496=z) (hz0:0<=z) (hz1:z<9223372036854775808) (je:bits .or .u64 (g:Int) z=(d:Int))
 (mu:∀u:World,(binOp .mul 27 (.float .f64 4607182418800017408) (.float .f64 d)).run Tryz.prog u=.ok (.float .f64 d) u) :
 Ax 213 #[.float .f64 b,.int .i64 x] w (.float .f64 d):=by
 go_enter Tryz.func213,Tryz.ntmps213;go_wp2_with fail;refine(eG (HI.o _)) ?_;rintro r w1 ⟨rfl,hw⟩;rw[hw];clear hw w1;go_wp2_with fail;refine(eG (HN.o _)) ?_;rintro r w1 ⟨rfl,hw⟩;rw[hw];clear hw w1;go_wp2_with fail;refine(eG (HZ.o _)) ?_;rintro r w1 ⟨rfl,hw⟩;rw[hw];clear hw w1;go_wp2;go_ret;exact⟨rfl,rfl⟩
theorem OB (b e g d c:Nat) (x y y2 z:Int) (w:World) (hb:b<9223372036854775808) (hx0:-3000<=x) (hx1:x<=3000) (he0:0<e) (he1:e<2047) (hg:g<4503599627370496)
 (z0:(FloatKind.f64.format.order b 0==some .eq)=false)
 (HI:Hid (∀u,Ax 226 #[.float .f64 b,.int .i64 0] u (.bool false)))
 (HN:Hid (∀u,Ax 27 #[.float .f64 b] u (.bool false)))
 (HZ:Hid (∀u,Ax 227 #[.float .f64 b] u (.tuple #[.float .f64 b,.int .i64 0])))
 (e1:bits .and .i64 ((b:Int)/4503599627370496) 2047=(e:Int)) (mc:bits .andNot .u64 (b:Int) 9218868437227405312=(g:Int))
 (ey:x+((e:Int)-1023)=y) (hy0:-1075<=y) (hy1:y < -1022) (ey2:y+53=y2) (hy2:-1022<=y2) (hy3:y2<=1023) (ez:(y2+1023)*4503599627370496=z) (hz0:0<=z) (hz1:z<9223372036854775808) (je:bits .or .u64 (g:Int) z=(d:Int))
 (mu:∀u:World,(binOp .mul 27 (.float .f64 4368491638549381120) (.float .f64 d)).run Tryz.prog u=.ok (.float .f64 c) u) :
 Ax 213 #[.float .f64 b,.int .i64 x] w (.float .f64 c):=by
 go_enter Tryz.func213,Tryz.ntmps213;go_wp2_with fail;refine(eG (HI.o _)) ?_;rintro r w1 ⟨rfl,hw⟩;rw[hw];clear hw w1;go_wp2_with fail;refine(eG (HN.o _)) ?_;rintro r w1 ⟨rfl,hw⟩;rw[hw];clear hw w1;go_wp2_with fail;refine(eG (HZ.o _)) ?_;rintro r w1 ⟨rfl,hw⟩;rw[hw];clear hw w1;go_wp2;go_ret;exact⟨rfl,rfl⟩
theorem OC (b e g:Nat) (x y:Int) (w:World) (hb:b<9223372036854775808) (hx0:-3000<=x) (hx1:x<=3000) (he0:0<e) (he1:e<2047) (hg:g<4503599627370496)
 (z0:(FloatKind.f64.format.order b 0==some .eq)=false)
 (HI:Hid (∀u,Ax 226 #[.float .f64 b,.int .i64 0] u (.bool false)))
 (HN:Hid (∀u,Ax 27 #[.float .f64 b] u (.bool false)))
 (HZ:Hid (∀u,Ax 227 #[.float .f64 b] u (.tuple #[.float .f64 b,.int .i64 0])))
 (e1:bits .and .i64 ((b:Int)/4503599627370496) 2047=(e:Int)) (mc:bits .andNot .u64 (b:Int) 9218868437227405312=(g:Int))
 (ey:x+((e:Int)-1023)=y) (hy0:1023<y) (z1:(FloatKind.f64.format.order b 0==some .lt)=false) :
 Ax 213 #[.float .f64 b,.int .i64 x] w (.float .f64 9218868437227405312):=by
 go_enter Tryz.func213,Tryz.ntmps213;go_wp2_with fail;refine(eG (HI.o _)) ?_;rintro r w1 ⟨rfl,hw⟩;rw[hw];clear hw w1;go_wp2_with fail;refine(eG (HN.o _)) ?_;rintro r w1 ⟨rfl,hw⟩;rw[hw];clear hw w1;go_wp2_with fail;refine(eG (HZ.o _)) ?_;rintro r w1 ⟨rfl,hw⟩;rw[hw];clear hw w1;go_wp2_with fail;refine(eG (WI _)) ?_;rintro r w1 ⟨rfl,hw⟩;rw[hw];clear hw w1;go_wp2;go_ret;exact⟨rfl,rfl⟩
end B
namespace B
open Go.RowKit
theorem Sw(X:Nat)(h:X<=9007199254740991):bl X<=53:=by
 by_cases h0:X=0
 . subst h0;rw[dI];omega
 . have:=(kH (a:=2) ae).1 (iC (iw X h0) (show X<2^53 by omega));omega
theorem JD(z:Nat)(hz:z<18446744073709551616):bits .and .u64 (z:Int) 1=((z%2:Nat):Int):=by
 have h:=bits_mask .u64 64 aM wraps_u64 1 aM (z:Int) ae ae;rw[show((2:Int)^1-1)=1 from rfl] at h;rw[h];omega
def LP:Nat:=1074
theorem dLP:Ieee.double.leastPlace=-(LP:Int):=aM
theorem vk(e g:Nat)(he:0<e)(hg:g<4503599627370496):val Ieee.double (e*4503599627370496+g)=(4503599627370496+g)*2^(e-1):=by
 obtain⟨j,rfl⟩:∃j,e=j+1:=⟨e-1,ae⟩;have h:=Dt Ieee.double j (4503599627370496+g) (.inr (by rw[Je];omega)) (by rw[Je];omega);rw[Je] at h;rw[show(j+1)*4503599627370496+g=j*4503599627370496+(4503599627370496+g) by omega,h];rfl
theorem Sy(r:Nat)(h:r<4503599627370496):val Ieee.double r=r:=by unfold val;rw[Je,if_pos h]
theorem Y9:(4503599627370496:Nat)=2^52:=rfl
structure Whole (c e g:Nat):Prop where
 e0:0<e
 e1:e<1077
 g0:g<4503599627370496
 v:(4503599627370496+g)*2^(e-1)=c*2^LP
 ex:e=bl c+1022
 gx:∀k,bl c+k=53->4503599627370496+g=c*2^k
 top:bl c=54->g=0
theorem Sz(c:Nat)(h0:0<c)(h1:c<=9007199254740992):∃e g,Whole c e g:=by
 by_cases ht:c=9007199254740992
 . subst ht;have hb:bl 9007199254740992=54:=E5 _ 53 aM aM;obtain⟨e,he⟩:∃e,e=1076:=⟨_,rfl⟩;refine⟨e,0,ae,ae,ae,?_,by rw[hb];omega,λk hk=>by omega,λ_=>rfl⟩
   have key:∀q,q=LP+1->(4503599627370496+0)*2^q=9007199254740992*2^LP:=by
    intro q hq;rw[hq,dS];generalize 2^LP=Q;omega
   exact key (e-1) (by rw[he];rfl)
 . have hb1:=dM c ae
   have hb2:bl c<=53:=by
    have:=(kH (a:=2) ae).1 (iC (iw c ae) (show c<2^53 by omega));omega
   obtain⟨k,hk⟩:∃k,bl c+k=53:=⟨53-bl c,ae⟩
   have hlo:2^52<=c*2^k:=by
    have h2:=iw c ae;have h3:2^(bl c-1)*2^k<=c*2^k:=dL _ h2;rw[<-aP,show bl c-1+k=52 by omega] at h3;exact h3
   have hhi:c*2^k<2^53:=by
    have h3:=fK (iT c) (bG k);rw[<-aP,hk] at h3;exact h3
   have e52:(2:Nat)^52=4503599627370496:=rfl;have e53:(2:Nat)^53=9007199254740992:=rfl;rw[e52] at hlo;rw[e53] at hhi;refine⟨bl c+1022,c*2^k-4503599627370496,ae,ae,ae,?_,rfl,λk' hk'=>?_,λh=>by omega⟩
   . rw[show 4503599627370496+(c*2^k-4503599627370496)=c*2^k by omega,aQ,<-aP];congr 2;show k+(bl c+1022-1)=1074;omega
   . obtain rfl:k'=k:=ae
     omega
theorem Gh(c e g:Nat)(h:Whole c e g):floatOfInt .f64 (c:Int)=bw false e g:=by
 have hr:e*4503599627370496+g<Ieee.double.infRung:=by rw[Aa];have:=h.e1;have:=h.g0;omega
 have hn:=z8 Ieee.double false c LP (e*4503599627370496+g) hr (by rw[vk e g h.e0 h.g0,h.v]);rw[dLP] at hn;rw[Dc,<-hn];show Ieee.double.nearest (decide ((c:Int)<0)) (c:Int).natAbs 0=_;rw[show decide ((c:Int)<0)=false from decide_eq_false ae,oC];congr 1
theorem WJ(e:Nat)(he:0<e)(q:Nat)(hq:e-1=q):val Ieee.double (e*4503599627370496+0)=2^(52+q):=by
 rw[vk e 0 he ae,hq,il,aP]
theorem Gi(e:Nat)(he:0<e)(q r:Nat)(hq:e-1=q)(hr:52+q=r):val Ieee.double (e*4503599627370496+0)=2^r:=by rw[WJ e he q hq,hr]
theorem LZ:val Ieee.double 4607182418800017408=2^LP:=Gi 1023 ae (LP-52) LP rfl rfl
theorem OD:val Ieee.double 4368491638549381120*2^53=2^LP:=by
 have h:val Ieee.double 4368491638549381120=2^(LP-53):=Gi 970 ae (LP-105) (LP-53) rfl rfl;rw[h,<-aP];congr 1
theorem mul_one(d:Nat)(hd:d<9218868437227405312)(h0:0<d)(t:TypeId)(u:World):(binOp .mul t (.float .f64 4607182418800017408) (.float .f64 d)).run Tryz.prog u=.ok (.float .f64 d) u:=by
 refine run_float_arith u .mul t .f64 _ _ _ ?_;show Ieee.double.mul 4607182418800017408 d=some d;have hw:∀r:Nat,Ieee.double.word false r=r:=λr=>by simp[Ieee.Format.word]
 have hp:0<val Ieee.double d:=by have:=dh Ieee.double (r:=0) (s:=d) h0;omega
 have:=Bz Ieee.double dHs false false 4607182418800017408 d d LP dLP (by rw[Aa];omega) (by rw[Aa];omega) (by rw[Aa];omega) (by rw[LZ,cK]) (by rw[LZ];have:=bG LP;omega) ae;rw[hw,hw] at this;exact this
theorem OE(d c:Nat)(hd:d<9218868437227405312)(hc:c<4503599627370496)(h0:0<c)(hv:val Ieee.double d=c*2^53)(t:TypeId)(u:World):(binOp .mul t (.float .f64 4368491638549381120) (.float .f64 d)).run Tryz.prog u=.ok (.float .f64 c) u:=by
 refine run_float_arith u .mul t .f64 _ _ _ ?_;show Ieee.double.mul 4368491638549381120 d=some c;have hw:∀r:Nat,Ieee.double.word false r=r:=λr=>by simp[Ieee.Format.word]
 have hs:=OD;have hp:val Ieee.double 4368491638549381120≠0:=by intro h;rw[h] at hs;have:=bG LP;omega
 have:=Bz Ieee.double dHs false false 4368491638549381120 d c LP dLP (by rw[Aa];omega) (by rw[Aa];omega) (by rw[Aa];omega) (by rw[hv,Sy c hc,<-hs];grind) hp (by rw[hv];have:=bG 53;have:=jh h0 this;omega);rw[hw,hw,Bool.xor_false,hw] at this;exact this
theorem nan_no(e g:Nat)(he:e<2047)(hg:g<4503599627370496)(u:World):Ax 27 #[.float .f64 (bw false e g)] u (.bool false):=by
 have:=di false e g ae hg u;rw[Dl e g he] at this;exact this
theorem OG(c e g:Nat)(x:Int)(w:World)(hw:Whole c e g)(h0:0<c)(h1:c<=9007199254740992)(hx0:-1074<=x)(hx1:x<=971)(hn:x=-1074\/4503599627370496<=c) :
 Ax 213 #[.float .f64 (bw false e g),.int .i64 x] w (.float .f64 ((x+1074).toNat*4503599627370496+c)):=by
 have he0:=hw.e0;have he1:=hw.e1;have hg:=hw.g0;have hb:bw false e g=e*4503599627370496+g:=by unfold bw;simp
 have z0:(FloatKind.f64.format.order (bw false e g) 0==some .eq)=false:=by rw[LJ false e g ae hg];simp;omega
 have HI:Hid (∀u,Ax 226 #[.float .f64 (bw false e g),.int .i64 0] u (.bool false)):=λu=>isInf0 e g ae hg u;have HN:Hid (∀u,Ax 27 #[.float .f64 (bw false e g)] u (.bool false)):=λu=>nan_no e g ae hg u;have HZ:Hid (∀u,Ax 227 #[.float .f64 (bw false e g)] u (.tuple #[.float .f64 (bw false e g),.int .i64 0])):=λu=>Ag e g he0 ae hg u;have e1:=Rl false e g ae hg;have mc:=JC e g ae hg;have hbl:bl c<=54:=by have:=hw.ex;omega
 have hblp:=dM c ae;have hex:=hw.ex
 by_cases hc:4503599627370496<=c
 . have hb53:53<=bl c:=by
    have:=(wO c 52).2 (by rw[<-Y9];exact hc);omega
   by_cases hb54:bl c=54
   . have hg0:=hw.top hb54
     have hc2:c=9007199254740992:=by
      have:=(wO c 53).1 ae;have e53:(2:Nat)^53=9007199254740992:=rfl;omega
     subst hg0
     by_cases RS:x=971
     . subst RS;have:=OC (bw false e 0) e 0 971 1024 w (by rw[hb];omega) ae ae he0 ae ae z0 HI HN HZ e1 mc ae ae (by rw[LK false e 0 ae ae (R3 e) (by simp;omega)]);rw[hc2];exact this
     . obtain⟨E,hE⟩:∃E:Nat,(E:Int)=x+((e:Int)-1023)+1023:=⟨(x+((e:Int)-1023)+1023).toNat,ae⟩;have hd:bw false E 0=(x+1074).toNat*4503599627370496+c:=by unfold bw;simp;omega
       have:=zm (bw false e 0) e 0 (bw false E 0) x (x+((e:Int)-1023)) ((E:Int)*4503599627370496) w (by rw[hb];omega) ae ae he0 ae ae z0 HI HN HZ e1 mc rfl ae ae ae ae ae (zl E 0 ae ae) (mul_one _ (by rw[hd];omega) (by rw[hd];omega) _);rw[hd] at this;exact this
   . have hb3:bl c=53:=ae
     have hgx:=hw.gx 0 ae;rw[fO,eQ] at hgx;obtain⟨E,hE⟩:∃E:Nat,(E:Int)=x+((e:Int)-1023)+1023:=⟨(x+((e:Int)-1023)+1023).toNat,ae⟩;have hd:bw false E g=(x+1074).toNat*4503599627370496+c:=by unfold bw;simp;omega
     have:=zm (bw false e g) e g (bw false E g) x (x+((e:Int)-1023)) ((E:Int)*4503599627370496) w (by rw[hb];omega) ae ae he0 ae hg z0 HI HN HZ e1 mc rfl ae ae ae ae ae (zl E g ae hg) (mul_one _ (by rw[hd];omega) (by rw[hd];omega) _);rw[hd] at this;exact this
 . obtain rfl:x=-1074:=ae
   have hb52:bl c<=52:=by
    by_cases h:52<bl c
    . have:=(wO c 52).1 h;rw[<-Y9] at this;omega
    . omega
   obtain⟨k,hk⟩:∃k,bl c+k=53:=⟨53-bl c,ae⟩;have hgx:=hw.gx k hk;obtain⟨E,hE⟩:∃E:Nat,E=bl c+1:=⟨_,rfl⟩;have hd:bw false E g=E*4503599627370496+g:=by unfold bw;simp
   have hv:val Ieee.double (bw false E g)=c*2^53:=by
    rw[hd,vk E g ae hg,hgx,aQ,<-aP,show k+(E-1)=53 by omega]
   have:=OB (bw false e g) e g (bw false E g) c (-1074) (-1074+((e:Int)-1023)) (-1074+((e:Int)-1023)+53) ((E:Int)*4503599627370496) w (by rw[hb];omega) ae ae he0 ae hg z0 HI HN HZ e1 mc rfl ae ae rfl ae ae ae ae ae (zl E g ae hg) (OE _ c (by rw[hd];omega) ae h0 hv _);simpa using this
theorem OH(c e g:Nat)(x:Int)(w:World)(hw:Whole c e g)(h0:0<c)(h1:c<=9007199254740992)(hx0:-1074<=x)(hx1:x<=971)(hn:x=-1074\/4503599627370496<=c) :
 Ax 186 #[.float .f64 (bw false e g),.int .i64 x] w (.float .f64 ((x+1074).toNat*4503599627370496+c)):=by
 have H:=hid (OG c e g x w hw h0 h1 hx0 hx1 hn);generalize bw false e g=b at *;generalize (x+1074).toNat*4503599627370496+c=d at *;clear hn hw;go_enter Tryz.func186,Tryz.ntmps186;go_wp2_with fail;refine H.o.mono ?_;rintro r w1 ⟨rfl,rfl⟩;go_wp2;go_ret;exact⟨rfl,rfl⟩
theorem Dw(x:Int)(w:World):Ax 213 #[.float .f64 0,.int .i64 x] w (.float .f64 0):=by
 have z0:(FloatKind.f64.format.order 0 0==some .eq)=true:=LJ false 0 0 ae ae;go_enter Tryz.func213,Tryz.ntmps213;go_wp2;exact Jx
theorem Dx(x:Int)(w:World):Ax 186 #[.float .f64 0,.int .i64 x] w (.float .f64 0):=by
 have H:=hid (Dw x w);go_enter Tryz.func186,Tryz.ntmps186;go_wp2_with fail;refine H.o.mono ?_;rintro r w1 ⟨rfl,rfl⟩;go_wp2;exact Jx
end B
section
open Go.RowKit
def Pk(w:World)(g:Nat)(f:Int)(e:Int)(t:Bool)(m:Int):Prop:=w.heap[g]?=some (.cells #[.int .u64 f,.int .i64 e,.bool t,.int .i64 m] 214 (0,0))
theorem Pk.lt{w:World}{g:Nat}{f e:Int}{t:Bool}{m:Int}(h:Pk w g f e t m):g<w.heap.size:=(dQ.1 h).1
theorem Pk.below{w w':World}{g:Nat}{f e:Int}{t:Bool}{m:Int}(h:Pk w g f e t m)(hb:An w w'):Pk w' g f e t m:=by
 unfold Pk;exact Qa3
theorem Pk.facts{w:World}{g:Nat}{f e:Int}{t:Bool}{m:Int}(h:Pk w g f e t m) :
 w.cell? ⟨g,0,none⟩=some (.int .u64 f)/\w.cell? ⟨g,1,none⟩=some (.int .i64 e)/\w.cell? ⟨g,2,none⟩=some (.bool t)/\w.cell? ⟨g,3,none⟩=some (.int .i64 m) /\
 w.frozen? ⟨g,0,none⟩=false/\w.frozen? ⟨g,1,none⟩=false/\w.frozen? ⟨g,2,none⟩=false/\w.frozen? ⟨g,3,none⟩=false:=by
 unfold Pk at h;simp[World.cell?,World.frozen?,h]
def Wk(w:World)(g:Nat)(a b c:Int):Prop:=w.heap[g]?=some (.cells #[.int .i64 a,.int .i64 b,.int .i64 c] 175 (0,0))
theorem Wk.facts{w:World}{g:Nat}{a b c:Int}(h:Wk w g a b c):w.cell? ⟨g,0,none⟩=some (.int .i64 a)/\w.cell? ⟨g,1,none⟩=some (.int .i64 b)/\w.cell? ⟨g,2,none⟩=some (.int .i64 c):=by
 unfold Wk at h;simp[World.cell?,h]
theorem kU(w:World)(n:Bool)(v:Value)(e a b c:Int)(W:World)(hW:W=((w.alloc (.cells #[.bool n,v,.int .i64 e] 79)).alloc (.cells #[.int .i64 a,.int .i64 b,.int .i64 c] 175)).alloc (.cells #[.int .u64 0,.int .i64 0,.bool false,.int .i64 0] 214)) :
 An w W/\W.heap.size=w.heap.size+3/\Dk W w.heap.size n v e/\Wk W (w.heap.size+1) a b c/\Pk W (w.heap.size+1+1) 0 0 false 0:=by
 subst hW;refine⟨((af w _).alloc aN _).alloc (by simp;omega) _,aN,((Dk.new w n v e).alloc _).alloc _,?_,?_⟩
 . unfold Wk;rw[Below.heap_alloc _ _ _ aN];have:=iF (w.alloc (.cells #[.bool n,v,.int .i64 e] 79)) (.cells #[.int .i64 a,.int .i64 b,.int .i64 c] 175);simpa using this
 . have:=iF ((w.alloc (.cells #[.bool n,v,.int .i64 e] 79)).alloc (.cells #[.int .i64 a,.int .i64 b,.int .i64 c] 175)) (.cells #[.int .u64 0,.int .i64 0,.bool false,.int .i64 0] 214);unfold Pk;simpa using this
def jf(dg:Nat)(least top:Int)(X:Nat)(e:Int):Nat×Int×Bool×Int :=
 if top<e+bl X then(2^dg-1,top-dg,false,1)
 else
  let ex:=max (e+bl X-dg) least
  let off:=ex-e
  if off<=0 then(X*2^(-off).toNat,ex,true,-1)
  else(X/2^off.toNat,ex,false,if off=1 then 0 else if X/2^(off-1).toNat%2=1 then 1 else -1)
abbrev st4(w:World)(g:Nat)(x y z t:Value):World:=(((w.setCell ⟨g,0,none⟩ x).setCell ⟨g,1,none⟩ y).setCell ⟨g,2,none⟩ z).setCell ⟨g,3,none⟩ t
theorem Pk.set{w:World}{g:Nat}{f e:Int}{t:Bool}{m:Int}(h:Pk w g f e t m)(f' e':Int)(t':Bool)(m':Int):Pk (st4 w g (.int .u64 f') (.int .i64 e') (.bool t') (.int .i64 m')) g f' e' t' m':=by
 unfold Pk at h |-;simp[st4,World.setCell,gz,h]
theorem Pk.drew{w:World}{g:Nat}{f e:Int}{t:Bool}{m:Int}(h:Pk w g f e t m):Pk w.drew g f e t m:=h
theorem Pk.alloc{w:World}{g:Nat}{f e:Int}{t:Bool}{m:Int}(h:Pk w g f e t m)(o:Obj):Pk (w.alloc o) g f e t m:=h.below (af w o)
theorem nX(W:World)(g:Nat)(f e:Int)(t:Bool)(m:Int)(tmps:Array Value)(ht:tmps[4]?.getD undef=.pointer (some ⟨g,0,none⟩))(D:Pk W g f e t m) :
 (results Tryz.f184 tmps).run Tryz.prog W=.ok (.agg #[.int .u64 f,.int .i64 e,.bool t,.int .i64 m]) W:=by
 obtain⟨x0,x1,x2,x3,fA,fB,fC,xf3⟩:=D.facts;simp[results,Tryz.results184,ht,go_sem,x0,x1,x2,x3]
theorem Dy {w:World}{a:Option Addr}{l c:Nat}(n:Bool) (X:Nat) (e:Int) (b:Nat) (he0:-1048576<=e) (he1:e<=1048576) (hb:b<=262144) (hfar:1024<e+(b:Int))
 (HL:Hid (∀u,An w u->Ax 84 #[.slice a l c] u (.int .i64 (b:Nat)))) :
 At 184 #[.agg #[.bool n,.slice a l c,.int .i64 e],.agg #[.int .i64 53,.int .i64 (-1074),.int .i64 1024]] w (.agg #[.int .u64 9007199254740991,.int .i64 971,.bool false,.int .i64 1]):=by
 obtain⟨W1,hW1⟩:=ah (((w.alloc (.cells #[.bool n,.slice a l c,.int .i64 e] 79)).alloc (.cells #[.int .i64 53,.int .i64 (-1074),.int .i64 1024] 175)).alloc (.cells #[.int .u64 0,.int .i64 0,.bool false,.int .i64 0] 214));obtain⟨hB,hz1,DD,DW,DP⟩:=kU w n (.slice a l c) e 53 (-1074) 1024 W1 hW1;have H1:=hid (HL.o W1 hB);obtain⟨x0,x1,x2,fA,fB,fC⟩:=DD.facts;obtain⟨y0,y1,y2⟩:=DW.facts;obtain⟨p0,p1,p2,p3,Sj,Sk,Sl,pf3⟩:=DP.facts;have F0:=ak (show Fin w.heap.size (w.heap.size+3) w W1 (.slice none 0 0) 0 from⟨Nt.nil _ _,hB,ae⟩);have SB:=(gp hB hz1 DP);clear hB hz1 DD DW DP HL;go_enter Tryz.func184,Tryz.ntmps184;go_wp2_with fail;rw[<-hW1];clear hW1;refine H1.o.mono ?_;rintro r ww ⟨rfl,hw⟩;rw[hw];clear hw ww H1;go_wp2
 go_region
 all_goals (
  go_wp2;refine aH (nX _ (w.heap.size+1+1) 9007199254740991 971 false 1 _ rfl (by repeat (with_reducible first | exact SB.o.r2 | refine Pk.drew ?_ | refine Pk.set (f:=0) (e:=0) (t:=false) (m:=0) ?_ _ _ _ _))) rfl ⟨rfl,?_⟩;refine Fin.aF (m:=w.heap.size+3) (v:=.slice none 0 0) (X:=0) ?_
  repeat (with_reducible first | exact F0.o | refine Fin.drew ?_ | refine Fin.alloc ?_ _ | refine Fin.set ?_ _ _ _ ae ae))
theorem Dz {w:World}{a:Option Addr}{l c:Nat}(n:Bool) (e ex off:Int) (b F:Nat) (he0:-1048576<=e) (he1:e<=1048576) (hb:b<=262144) (hF:F<18446744073709551616) (lF:(ws F).length<=100) (hnf:e+(b:Int)<=1024)
 (hmx:max (e+(b:Int)-53) (-1074)=ex) (eof:ex-e=off) (hex0:-2000<=ex) (hex1:ex<=2000) (hof0:-2000000<=off) (hof1:off<=2000000) (tt:Bool) (Ey:decide (off<=0)=tt) (ho:(off==1)=true)
 (HL:Hid (∀u,An w u->Ax 84 #[.slice a l c] u (.int .i64 (b:Nat))))
 (HS:Hid (∀u,An w u->As 81 #[.slice a l c,.int .i64 (-off)] u λr w'=>∃v,r=.returned (.tuple #[v,.int .i64 0])/\Nt u.heap.size w' v F/\An u w'))
 (HM:Hid (∀(u:World) (p:Option Addr) (q:Nat),Arg u p (ws F).length q (ws F)->Ax 211 #[.slice p (ws F).length q] u (.tuple #[.int .u64 (F:Nat),.int .i64 0]))) :
 At 184 #[.agg #[.bool n,.slice a l c,.int .i64 e],.agg #[.int .i64 53,.int .i64 (-1074),.int .i64 1024]] w (.agg #[.int .u64 (F:Nat),.int .i64 ex,.bool tt,.int .i64 0]):=by
 obtain⟨W1,hW1⟩:=ah (((w.alloc (.cells #[.bool n,.slice a l c,.int .i64 e] 79)).alloc (.cells #[.int .i64 53,.int .i64 (-1074),.int .i64 1024] 175)).alloc (.cells #[.int .u64 0,.int .i64 0,.bool false,.int .i64 0] 214));obtain⟨hB,hz1,DD,DW,DP⟩:=kU w n (.slice a l c) e 53 (-1074) 1024 W1 hW1;have H1:=hid (HL.o W1 hB);have H2:=hid (HS.o W1 hB);obtain⟨x0,x1,x2,fA,fB,fC⟩:=DD.facts;obtain⟨y0,y1,y2⟩:=DW.facts;have SB:=(iN hB hz1 DD DP);clear hB hz1 DD DW DP HL HS;go_enter Tryz.func184,Tryz.ntmps184;go_wp2_with fail;rw[<-hW1];clear hW1;refine H1.o.mono ?_;rintro r ww ⟨rfl,hw⟩;rw[hw];clear hw ww H1;go_wp2_with fail
 try simp only[hmx,eof]
 refine H2.o.mono ?_;rintro r u1 ⟨v,rfl,hN,hbb⟩;obtain⟨a1,c1,rfl,A1⟩:=hN.arg ae;obtain⟨hB,hz1,DD,DP⟩:=SB.o;have H3:=hid (HM.o u1 a1 c1 A1);obtain⟨z0,z1,z2,zf0,zf1,zf2⟩:=(DD.below hbb).facts;have SA:=DP.below hbb;obtain⟨p0,p1,p2,p3,Sj,Sk,Sl,pf3⟩:=SA.facts;have F0:=ak (show Fin w.heap.size (w.heap.size+3) w u1 (.slice none 0 0) 0 from⟨Nt.nil _ _,hB.trans (hbb.mono ae),by have:=hbb.size;omega⟩);have hz:w.heap.size+1+1<u1.heap.size:=by have:=hbb.size;omega
 have hz':w.heap.size<u1.heap.size:=ae
 have SP:=ak SA;clear hN hbb A1 hB hz1 DD DP SA H2 HM SB;go_wp2_with fail
 try simp only[hmx,eof]
 refine H3.o.mono ?_;rintro r ww ⟨rfl,hw⟩;rw[hw];clear hw ww H3;go_wp2;refine aH (nX _ (w.heap.size+1+1) (F:Nat) ex tt 0 _ rfl (by repeat (with_reducible first | exact SP.o | refine Pk.alloc ?_ _ | refine Pk.drew ?_ | refine Pk.set (f:=0) (e:=0) (t:=false) (m:=0) ?_ _ _ _ _))) rfl ⟨rfl,?_⟩;refine Fin.aF (m:=w.heap.size+3) (v:=.slice none 0 0) (X:=0) ?_
 repeat (with_reducible first | exact F0.o | refine Fin.drew ?_ | refine Fin.alloc ?_ _ | refine Fin.set ?_ _ _ _ ae ae)
theorem Gj {w:World}{a:Option Addr}{l c:Nat}(n:Bool) (e ex off:Int) (b F:Nat) (he0:-1048576<=e) (he1:e<=1048576) (hb:b<=262144) (hF:F<18446744073709551616) (lF:(ws F).length<=100) (hnf:e+(b:Int)<=1024)
 (hmx:max (e+(b:Int)-53) (-1074)=ex) (eof:ex-e=off) (hex0:-2000<=ex) (hex1:ex<=2000) (hof0:-2000000<=off) (hof1:off<=2000000) (tt:Bool) (Ey:decide (off<=0)=tt) (ho:(off==1)=false)
 (HL:Hid (∀u,An w u->Ax 84 #[.slice a l c] u (.int .i64 (b:Nat))))
 (HS:Hid (∀u,An w u->As 81 #[.slice a l c,.int .i64 (-off)] u λr w'=>∃v,r=.returned (.tuple #[v,.int .i64 0])/\Nt u.heap.size w' v F/\An u w'))
 (HM:Hid (∀(u:World) (p:Option Addr) (q:Nat),Arg u p (ws F).length q (ws F)->Ax 211 #[.slice p (ws F).length q] u (.tuple #[.int .u64 (F:Nat),.int .i64 0])))
 (HB:Hid (∀u,An w u->Ax 133 #[.slice a l c,.int .i64 (off-1)] u (.bool true))) :
 At 184 #[.agg #[.bool n,.slice a l c,.int .i64 e],.agg #[.int .i64 53,.int .i64 (-1074),.int .i64 1024]] w (.agg #[.int .u64 (F:Nat),.int .i64 ex,.bool tt,.int .i64 1]):=by
 obtain⟨W1,hW1⟩:=ah (((w.alloc (.cells #[.bool n,.slice a l c,.int .i64 e] 79)).alloc (.cells #[.int .i64 53,.int .i64 (-1074),.int .i64 1024] 175)).alloc (.cells #[.int .u64 0,.int .i64 0,.bool false,.int .i64 0] 214));obtain⟨hB,hz1,DD,DW,DP⟩:=kU w n (.slice a l c) e 53 (-1074) 1024 W1 hW1;have H1:=hid (HL.o W1 hB);have H2:=hid (HS.o W1 hB);obtain⟨x0,x1,x2,fA,fB,fC⟩:=DD.facts;obtain⟨y0,y1,y2⟩:=DW.facts;have SB:=(iN hB hz1 DD DP);clear hB hz1 DD DW DP HL HS;go_enter Tryz.func184,Tryz.ntmps184;go_wp2_with fail;rw[<-hW1];clear hW1;refine H1.o.mono ?_;rintro r ww ⟨rfl,hw⟩;rw[hw];clear hw ww H1;go_wp2_with fail
 try simp only[hmx,eof]
 refine H2.o.mono ?_;rintro r u1 ⟨v,rfl,hN,hbb⟩;obtain⟨a1,c1,rfl,A1⟩:=hN.arg ae;obtain⟨hB,hz1,DD,DP⟩:=SB.o;have H3:=hid (HM.o u1 a1 c1 A1);obtain⟨z0,z1,z2,zf0,zf1,zf2⟩:=(DD.below hbb).facts;have SA:=DP.below hbb;obtain⟨p0,p1,p2,p3,Sj,Sk,Sl,pf3⟩:=SA.facts;have F0:=ak (show Fin w.heap.size (w.heap.size+3) w u1 (.slice none 0 0) 0 from⟨Nt.nil _ _,hB.trans (hbb.mono ae),by have:=hbb.size;omega⟩);have hz:w.heap.size+1+1<u1.heap.size:=by have:=hbb.size;omega
 have hz':w.heap.size<u1.heap.size:=ae
 have SP:=ak SA;clear hN hbb A1 hB hz1 DD DP SA H2 HM SB;go_wp2_with fail
 try simp only[hmx,eof]
 refine H3.o.mono ?_;rintro r ww ⟨rfl,hw⟩;rw[hw];clear hw ww H3;have H4:=hid (HB.o (u1.alloc (.cells #[.int .u64 (F:Nat),.int .i64 ex,.bool tt,.int .i64 (-1)] 214)) (F0.o.aF.alloc F0.o.size _));clear HB;go_wp2_with fail
 try simp only[hmx,eof,Ey]
 refine H4.o.mono ?_;rintro r ww ⟨rfl,hw⟩;rw[hw];clear hw ww H4;go_wp2;refine aH (nX _ (w.heap.size+1+1) (F:Nat) ex tt 1 _ rfl (by repeat (with_reducible first | exact SP.o | refine Pk.alloc ?_ _ | refine Pk.drew ?_ | refine Pk.set (f:=0) (e:=0) (t:=false) (m:=0) ?_ _ _ _ _))) rfl ⟨rfl,?_⟩;refine Fin.aF (m:=w.heap.size+3) (v:=.slice none 0 0) (X:=0) ?_
 repeat (with_reducible first | exact F0.o | refine Fin.drew ?_ | refine Fin.alloc ?_ _ | refine Fin.set ?_ _ _ _ ae ae)
theorem wV {w:World}{a:Option Addr}{l c:Nat}(n:Bool) (e ex off:Int) (b F:Nat) (he0:-1048576<=e) (he1:e<=1048576) (hb:b<=262144) (hF:F<18446744073709551616) (lF:(ws F).length<=100) (hnf:e+(b:Int)<=1024)
 (hmx:max (e+(b:Int)-53) (-1074)=ex) (eof:ex-e=off) (hex0:-2000<=ex) (hex1:ex<=2000) (hof0:-2000000<=off) (hof1:off<=2000000) (tt:Bool) (Ey:decide (off<=0)=tt) (ho:(off==1)=false)
 (HL:Hid (∀u,An w u->Ax 84 #[.slice a l c] u (.int .i64 (b:Nat))))
 (HS:Hid (∀u,An w u->As 81 #[.slice a l c,.int .i64 (-off)] u λr w'=>∃v,r=.returned (.tuple #[v,.int .i64 0])/\Nt u.heap.size w' v F/\An u w'))
 (HM:Hid (∀(u:World) (p:Option Addr) (q:Nat),Arg u p (ws F).length q (ws F)->Ax 211 #[.slice p (ws F).length q] u (.tuple #[.int .u64 (F:Nat),.int .i64 0])))
 (HB:Hid (∀u,An w u->Ax 133 #[.slice a l c,.int .i64 (off-1)] u (.bool false))) :
 At 184 #[.agg #[.bool n,.slice a l c,.int .i64 e],.agg #[.int .i64 53,.int .i64 (-1074),.int .i64 1024]] w (.agg #[.int .u64 (F:Nat),.int .i64 ex,.bool tt,.int .i64 (-1)]):=by
 obtain⟨W1,hW1⟩:=ah (((w.alloc (.cells #[.bool n,.slice a l c,.int .i64 e] 79)).alloc (.cells #[.int .i64 53,.int .i64 (-1074),.int .i64 1024] 175)).alloc (.cells #[.int .u64 0,.int .i64 0,.bool false,.int .i64 0] 214));obtain⟨hB,hz1,DD,DW,DP⟩:=kU w n (.slice a l c) e 53 (-1074) 1024 W1 hW1;have H1:=hid (HL.o W1 hB);have H2:=hid (HS.o W1 hB);obtain⟨x0,x1,x2,fA,fB,fC⟩:=DD.facts;obtain⟨y0,y1,y2⟩:=DW.facts;have SB:=(iN hB hz1 DD DP);clear hB hz1 DD DW DP HL HS;go_enter Tryz.func184,Tryz.ntmps184;go_wp2_with fail;rw[<-hW1];clear hW1;refine H1.o.mono ?_;rintro r ww ⟨rfl,hw⟩;rw[hw];clear hw ww H1;go_wp2_with fail
 try simp only[hmx,eof]
 refine H2.o.mono ?_;rintro r u1 ⟨v,rfl,hN,hbb⟩;obtain⟨a1,c1,rfl,A1⟩:=hN.arg ae;obtain⟨hB,hz1,DD,DP⟩:=SB.o;have H3:=hid (HM.o u1 a1 c1 A1);obtain⟨z0,z1,z2,zf0,zf1,zf2⟩:=(DD.below hbb).facts;have SA:=DP.below hbb;obtain⟨p0,p1,p2,p3,Sj,Sk,Sl,pf3⟩:=SA.facts;have F0:=ak (show Fin w.heap.size (w.heap.size+3) w u1 (.slice none 0 0) 0 from⟨Nt.nil _ _,hB.trans (hbb.mono ae),by have:=hbb.size;omega⟩);have hz:w.heap.size+1+1<u1.heap.size:=by have:=hbb.size;omega
 have hz':w.heap.size<u1.heap.size:=ae
 have SP:=ak SA;clear hN hbb A1 hB hz1 DD DP SA H2 HM SB;go_wp2_with fail
 try simp only[hmx,eof]
 refine H3.o.mono ?_;rintro r ww ⟨rfl,hw⟩;rw[hw];clear hw ww H3;have H4:=hid (HB.o (u1.alloc (.cells #[.int .u64 (F:Nat),.int .i64 ex,.bool tt,.int .i64 (-1)] 214)) (F0.o.aF.alloc F0.o.size _));clear HB;go_wp2_with fail
 try simp only[hmx,eof,Ey]
 refine H4.o.mono ?_;rintro r ww ⟨rfl,hw⟩;rw[hw];clear hw ww H4;go_wp2;refine aH (nX _ (w.heap.size+1+1) (F:Nat) ex tt (-1) _ rfl (by repeat (with_reducible first | exact SP.o | refine Pk.alloc ?_ _ | refine Pk.drew ?_ | refine Pk.set (f:=0) (e:=0) (t:=false) (m:=0) ?_ _ _ _ _))) rfl ⟨rfl,?_⟩;refine Fin.aF (m:=w.heap.size+3) (v:=.slice none 0 0) (X:=0) ?_
 repeat (with_reducible first | exact F0.o | refine Fin.drew ?_ | refine Fin.alloc ?_ _ | refine Fin.set ?_ _ _ _ ae ae)
theorem SC{w:World}{p:Option Addr}{q F:Nat}(hF:F<18446744073709551616)(hA:Arg w p (ws F).length q (ws F)) :
 Ax 211 #[.slice p (ws F).length q] w (.tuple #[.int .u64 (F:Nat),.int .i64 0]):=by
 have:=NJ (ws F) p (ws F).length q w.heap.size w hA.len hA.cap (by have:=hA.big;omega) hA.wf hA.rd;rw[aB] at this;unfold Jh at this;rw[if_pos hF] at this;exact this
theorem vo(X:Nat)(e:Int)(hX:X≠0)(he0:-1048576<=e)(he1:e<=1048576) :
 (jf 53 (-1074) 1024 X e).1<=9007199254740991/\-1074<=(jf 53 (-1074) 1024 X e).2.1/\(jf 53 (-1074) 1024 X e).2.1<=971/\((jf 53 (-1074) 1024 X e).2.1=-1074\/4503599627370496<=(jf 53 (-1074) 1024 X e).1):=by
 have hb:=dM X hX;have h1:=iT X;have h2:=iw X hX;have e53:(2:Nat)^53=9007199254740992:=rfl;have e52:(2:Nat)^52=4503599627370496:=rfl;unfold jf
 by_cases hf:1024<e+(bl X:Int)
 . rw[if_pos hf];refine⟨aN,aN,aN,.inr aN⟩
 . rw[if_neg hf];simp only;obtain⟨ex,hex⟩:∃ex,max (e+(bl X:Int)-((53:Nat):Int)) (-1074)=ex:=⟨_,rfl⟩;rw[hex]
   by_cases ho:ex-e<=0
   . rw[if_pos ho];obtain⟨k,hk⟩:∃k:Nat,(-(ex-e)).toNat=k:=⟨_,rfl⟩;rw[hk];have hub:X*2^k<2^(bl X+k):=by rw[aP];exact fK h1 (bG k)
     have hm:2^(bl X+k)<=2^53:=fD ae ae;refine⟨by simp only;omega,by simp only;omega,by simp only;omega,?_⟩
     by_cases hl:ex=-1074
     . exact .inl hl
     . right
       have hlb:2^(bl X-1)*2^k<=X*2^k:=dL _ h2;rw[<-aP,show bl X-1+k=52 by omega] at hlb;simp only;omega
   . rw[if_neg ho];obtain⟨k,hk⟩:∃k:Nat,(ex-e).toNat=k:=⟨_,rfl⟩;rw[hk]
     have hub:X/2^k<2^53:=by
      rw[xM (bG k),<-aP];exact gT h1 (fD ae ae)
     refine⟨by simp only;omega,by simp only;omega,by simp only;omega,?_⟩
     by_cases hl:ex=-1074
     . exact .inl hl
     . right
       have hlb:2^52<=X/2^k:=by
        rw[yl (bG k),<-aP,show 52+k=bl X-1 by omega];exact h2
       simp only;omega
theorem JE(X:Nat)(k:Nat)(hX:X≠0)(hl:bl X<=262144)(h0:0<k):bJ X (-(k:Int))=(X/2^k,0):=by
 unfold bJ;rw[if_neg (mH hl),if_neg hX,if_pos ae,show(- -(k:Int)).toNat=k by omega]
theorem JF{w:World}{a:Option Addr}{l c:Nat}{X:Nat}(hA:Arg w a l c (ws X))(n:Bool)(e:Int)(he0:-1048576<=e)(he1:e<=1048576)(hX:X≠0)(hl:bl X<=262144) :
 As 184 #[.agg #[.bool n,.slice a l c,.int .i64 e],.agg #[.int .i64 53,.int .i64 (-1074),.int .i64 1024]] w λr w' =>
  r=.returned (.agg #[.int .u64 ((jf 53 (-1074) 1024 X e).1:Nat),.int .i64 (jf 53 (-1074) 1024 X e).2.1,.bool (jf 53 (-1074) 1024 X e).2.2.1,.int .i64 (jf 53 (-1074) 1024 X e).2.2.2])/\An w w':=by
 have pf:=vo X e hX he0 he1
 have HL:Hid (∀u,An w u->Ax 84 #[.slice a l c] u (.int .i64 (bl X:Nat))):=by
  intro u hu;have A:=hA.below hu;have:=tH (ws X) a l c u.heap.size u A.len A.cap (by have:=A.big;omega) A.wf A.rd;exact Qab
 have hb:=dM X hX
 by_cases hf:1024<e+(bl X:Int)
 . have hp:jf 53 (-1074) 1024 X e=(9007199254740991,971,false,1):=by unfold jf;rw[if_pos hf];rfl
   rw[hp];exact Dy n X e (bl X) he0 he1 hl hf HL
 . obtain⟨ex,hex⟩:∃ex,max (e+(bl X:Int)-53) (-1074)=ex:=⟨_,rfl⟩;obtain⟨off,hof⟩:∃off,ex-e=off:=⟨_,rfl⟩;have Gl:-2000<=ex/\ex<=2000:=ae
   have hp:jf 53 (-1074) 1024 X e=if off<=0 then(X*2^(-off).toNat,ex,true,-1) else(X/2^off.toNat,ex,false,if off=1 then 0 else if X/2^(off-1).toNat%2=1 then 1 else -1):=by
    unfold jf;rw[if_neg hf];simp only;rw[show((53:Nat):Int)=53 from rfl,hex,hof]
   obtain⟨F,hFe⟩:∃F,(jf 53 (-1074) 1024 X e).1=F:=⟨_,rfl⟩;have hF:F<=9007199254740991:=by rw[<-hFe];exact pf.1
   have lF:(ws F).length<=100:=by have:=ic F;have:=B.Sw F hF;omega
   have hsh:bJ X (-off)=(F,0):=by
    rw[<-hFe,hp]
    by_cases ho:off<=0
    . rw[if_pos ho,zi X (-off) ae hX hl,if_neg ae]
    . obtain⟨k,hk⟩:∃k:Nat,off=(k:Int):=⟨off.toNat,ae⟩;rw[if_neg ho,hk,JE X k hX hl ae,lC]
   have HS:Hid (∀u,An w u->As 81 #[.slice a l c,.int .i64 (-off)] u λr w'=>∃v,r=.returned (.tuple #[v,.int .i64 0])/\Nt u.heap.size w' v F/\An u w'):=by
    intro u hu;have A:=hA.below hu;exact fV (-off) A (by rw[aB];exact hsh) ae ae
   have HM:Hid (∀(u:World) (p:Option Addr) (q:Nat),Arg u p (ws F).length q (ws F)->Ax 211 #[.slice p (ws F).length q] u (.tuple #[.int .u64 (F:Nat),.int .i64 0])):=λu p q hA=>SC ae hA
   have HB:∀t:Bool,(if off-1<0 then false else decide (X/2^(off-1).toNat%2=1))=t->Hid (∀u,An w u->Ax 133 #[.slice a l c,.int .i64 (off-1)] u (.bool t)):=by
    intro t ht u hu;have A:=hA.below hu
    by_cases h0:off-1<0
    . rw[if_pos h0] at ht;subst ht;exact V8 a l c (off-1) u h0
    . rw[if_neg h0] at ht;obtain⟨k,hk⟩:∃k:Nat,off-1=(k:Int):=⟨(off-1).toNat,ae⟩;have:=xD (ws X) a l c u.heap.size k u A.len A.wf A.rd ae;rw[aB] at this;rw[hk] at ht |-;rw[lC] at ht;rw[ht] at this;exact this
   rw[hFe]
   by_cases h1:off=1
   . have:=Dz n e ex off (bl X) F he0 he1 hl ae lF ae hex hof Gl.1 Gl.2 ae ae false (decide_eq_false ae) (by simp[h1]) HL HS HM;rw[hp,if_neg ae];simp only[h1,if_true];exact this
   . have h1':(off==1)=false:=by simp[h1]
     by_cases ho:off<=0
     . have:=wV n e ex off (bl X) F he0 he1 hl ae lF ae hex hof Gl.1 Gl.2 ae ae true (decide_eq_true ho) h1' HL HS HM (HB false (by rw[if_pos ae]));rw[hp,if_pos ho];exact this
     . rw[hp,if_neg ho];simp only[if_neg h1]
       by_cases hbt:X/2^(off-1).toNat%2=1
       . have:=Gj n e ex off (bl X) F he0 he1 hl ae lF ae hex hof Gl.1 Gl.2 ae ae false (decide_eq_false ho) h1' HL HS HM (HB true (by rw[if_neg ae];exact decide_eq_true hbt));rw[if_pos hbt];exact this
       . have:=wV n e ex off (bl X) F he0 he1 hl ae lF ae hex hof Gl.1 Gl.2 ae ae false (decide_eq_false ho) h1' HL HS HM (HB false (by rw[if_neg ae];exact decide_eq_false hbt));rw[if_neg hbt];exact this
def lU(mode:Int)(F:Nat)(mid:Int)(n:Bool):Bool :=
 if mode=0 then decide (0<mid) || (decide (mid=0)&&decide (F%2=1)) else if mode=2 then !n else if mode=3 then n else if mode=4 then decide (0<=mid) else false
theorem OI(z:Nat)(h:z<18446744073709551616):bits BinOp.and IntKind.u64 (z:Int) 1=((z%2:Nat):Int):=by
 have h:=B.JD z h;exact h
theorem OJ(F:Nat)(ex:Int)(t:Bool)(n:Bool)(w:World)  :
 At 185 #[.agg #[.int .u64 (F:Nat),.int .i64 ex,.bool t,.int .i64 1],.int .i64 0,.bool n] w (.bool true):=by
 have HB:=ak (show An w (w.alloc (.cells #[.int .u64 (F:Nat),.int .i64 ex,.bool t,.int .i64 1] 214)) from af w _);go_enter Tryz.func185,Tryz.ntmps185;go_wp2
 all_goals go_ret
 all_goals exact⟨rfl,HB.o⟩
theorem OL(F:Nat)(ex:Int)(t:Bool)(n:Bool)(w:World)(b:Bool)(hb:(bits BinOp.and IntKind.u64 (F:Int) 1==1)=b) :
 At 185 #[.agg #[.int .u64 (F:Nat),.int .i64 ex,.bool t,.int .i64 0],.int .i64 0,.bool n] w (.bool b):=by
 have HB:=ak (show An w (w.alloc (.cells #[.int .u64 (F:Nat),.int .i64 ex,.bool t,.int .i64 0] 214)) from af w _);go_enter Tryz.func185,Tryz.ntmps185;go_wp2
 all_goals go_ret
 all_goals exact⟨rfl,HB.o⟩
theorem OM(F:Nat)(ex:Int)(t:Bool)(n:Bool)(w:World)  :
 At 185 #[.agg #[.int .u64 (F:Nat),.int .i64 ex,.bool t,.int .i64 (-1)],.int .i64 0,.bool n] w (.bool false):=by
 have HB:=ak (show An w (w.alloc (.cells #[.int .u64 (F:Nat),.int .i64 ex,.bool t,.int .i64 (-1)] 214)) from af w _);go_enter Tryz.func185,Tryz.ntmps185;go_wp2
 all_goals go_ret
 all_goals exact⟨rfl,HB.o⟩
theorem SH(F:Nat)(ex:Int)(t:Bool)(mid:Int)(n:Bool)(w:World)  :
 At 185 #[.agg #[.int .u64 (F:Nat),.int .i64 ex,.bool t,.int .i64 mid],.int .i64 1,.bool n] w (.bool false):=by
 have HB:=ak (show An w (w.alloc (.cells #[.int .u64 (F:Nat),.int .i64 ex,.bool t,.int .i64 mid] 214)) from af w _);go_enter Tryz.func185,Tryz.ntmps185;go_wp2
 all_goals go_ret
 all_goals exact⟨rfl,HB.o⟩
theorem out_up(F:Nat)(ex:Int)(t:Bool)(mid:Int)(n:Bool)(w:World)  :
 At 185 #[.agg #[.int .u64 (F:Nat),.int .i64 ex,.bool t,.int .i64 mid],.int .i64 2,.bool n] w (.bool (!n)):=by
 have HB:=ak (show An w (w.alloc (.cells #[.int .u64 (F:Nat),.int .i64 ex,.bool t,.int .i64 mid] 214)) from af w _);go_enter Tryz.func185,Tryz.ntmps185;go_wp2
 all_goals go_ret
 all_goals exact⟨rfl,HB.o⟩
theorem SL(F:Nat)(ex:Int)(t:Bool)(mid:Int)(n:Bool)(w:World)  :
 At 185 #[.agg #[.int .u64 (F:Nat),.int .i64 ex,.bool t,.int .i64 mid],.int .i64 3,.bool n] w (.bool n):=by
 have HB:=ak (show An w (w.alloc (.cells #[.int .u64 (F:Nat),.int .i64 ex,.bool t,.int .i64 mid] 214)) from af w _);go_enter Tryz.func185,Tryz.ntmps185;go_wp2
 all_goals go_ret
 all_goals exact⟨rfl,HB.o⟩
theorem SN(F:Nat)(ex:Int)(t:Bool)(mid:Int)(n:Bool)(w:World)(b:Bool)(hb:decide (0<=mid)=b) :
 At 185 #[.agg #[.int .u64 (F:Nat),.int .i64 ex,.bool t,.int .i64 mid],.int .i64 4,.bool n] w (.bool b):=by
 have HB:=ak (show An w (w.alloc (.cells #[.int .u64 (F:Nat),.int .i64 ex,.bool t,.int .i64 mid] 214)) from af w _);go_enter Tryz.func185,Tryz.ntmps185;go_wp2
 all_goals go_ret
 all_goals exact⟨rfl,HB.o⟩
theorem Gm(F:Nat)(ex:Int)(t:Bool)(mid mode:Int)(n:Bool)(w:World)(hF:F<18446744073709551616)(hm:mid=-1\/mid=0\/mid=1)(h0:0<=mode)(h4:mode<=4) :
 At 185 #[.agg #[.int .u64 (F:Nat),.int .i64 ex,.bool t,.int .i64 mid],.int .i64 mode,.bool n] w (.bool (lU mode F mid n)):=by
 have hc:mode=0\/mode=1\/mode=2\/mode=3\/mode=4:=ae
 rcases hc with rfl|rfl|rfl|rfl|rfl
 . rcases hm with rfl | rfl | rfl
   . exact OM F ex t n w
   . have e:(bits BinOp.and IntKind.u64 (F:Int) 1==1)=lU 0 F 0 n:=by
      rw[OI F hF];unfold lU;rcases IL F with h|h <;> simp[h]
     exact OL F ex t n w _ e
   . exact OJ F ex t n w
 . exact SH F ex t mid n w
 . exact out_up F ex t mid n w
 . exact SL F ex t mid n w
 . exact SN F ex t mid n w _ rfl
theorem gH(w:World)(n:Bool)(v:Value)(e a b c:Int)(W:World)(hW:W=(w.alloc (.cells #[.bool n,v,.int .i64 e] 79)).alloc (.cells #[.int .i64 a,.int .i64 b,.int .i64 c] 175)) :
 An w W/\W.heap.size=w.heap.size+2/\Dk W w.heap.size n v e/\Wk W (w.heap.size+1) a b c:=by
 subst hW;refine⟨(af w _).alloc aN _,aN,(Dk.new w n v e).alloc _,?_⟩;unfold Wk;have:=iF (w.alloc (.cells #[.bool n,v,.int .i64 e] 79)) (.cells #[.int .i64 a,.int .i64 b,.int .i64 c] 175);simpa using this
theorem Wk.below{w w':World}{g:Nat}{a b c:Int}(h:Wk w g a b c)(hb:An w w'):Wk w' g a b c:=by
 unfold Wk;rw[hb.block g (dQ.1 h).1];exact h
theorem JG(n:Bool)(a:Option Addr)(l c:Nat)(e mode:Int)(w:World)(hm:mode<0\/4<mode) :
 At 145 #[.agg #[.bool n,.slice a l c,.int .i64 e],.int .i64 mode,.agg #[.int .i64 53,.int .i64 (-1074),.int .i64 1024]] w (.tuple #[.float .f64 0,.int .i64 1]):=by
 have HB:=ak (show An w ((w.alloc (.cells #[.bool n,.slice a l c,.int .i64 e] 79)).alloc (.cells #[.int .i64 53,.int .i64 (-1074),.int .i64 1024] 175)) from(af w _).alloc aN _);rcases hm with h|h
 . go_enter Tryz.func145,Tryz.ntmps145;go_wp2
   go_ret2
   exact⟨rfl,HB.o⟩
 . have h':decide (mode<0)=false:=decide_eq_false ae;go_enter Tryz.func145,Tryz.ntmps145;go_wp2
   go_ret2
   exact⟨rfl,HB.o⟩
theorem OO {w:World}{a:Option Addr}{l c:Nat}(n:Bool) (e mode:Int) (n1:Bool) (X:Nat) (e1 er:Int) (lX:(ws X).length<=8192) (hm0:0<=mode) (qM:mode<=4) (her:(er != 0)=true)
 (HF:Hid (∀u,An w u->As 128 #[.agg #[.bool n,.slice a l c,.int .i64 e]] u λr w'=>(∃v,r=.returned (.tuple #[.agg #[.bool n1,v,.int .i64 e1],.int .i64 er])/\Nt u.heap.size w' v X)/\An u w')) :
 At 145 #[.agg #[.bool n,.slice a l c,.int .i64 e],.int .i64 mode,.agg #[.int .i64 53,.int .i64 (-1074),.int .i64 1024]] w (.tuple #[.float .f64 0,.int .i64 er]):=by
 obtain⟨W1,hW1⟩:=ah ((w.alloc (.cells #[.bool n,.slice a l c,.int .i64 e] 79)).alloc (.cells #[.int .i64 53,.int .i64 (-1074),.int .i64 1024] 175));obtain⟨hB,hz1,DD,DW⟩:=gH w n (.slice a l c) e 53 (-1074) 1024 W1 hW1;have H1:=hid (HF.o W1 hB);have SB:=(gp hB hz1 DW);clear hB hz1 DD DW HF;go_enter Tryz.func145,Tryz.ntmps145;go_wp2_with fail;rw[<-hW1];clear hW1;refine H1.o.mono ?_;rintro r u1 ⟨⟨v,rfl,hN⟩,hb⟩;obtain⟨a1,c1,rfl,_⟩:=hN.arg ae;obtain⟨hB,hz1,DW⟩:=SB.o;have SF:=ak (hB.trans (hb.mono ae));have hz:w.heap.size<=u1.heap.size:=by have:=hb.size;omega
 clear hN hb H1 hB hz1 DW SB;go_wp2
 go_ret2
 exact⟨rfl,SF.o.alloc hz _⟩
theorem JH {w:World}{a:Option Addr}{l c:Nat}(n:Bool) (e mode:Int) (n1:Bool) (X:Nat) (e1:Int) (lX:(ws X).length=0) (hm0:0<=mode) (qM:mode<=4)
 (HF:Hid (∀u,An w u->As 128 #[.agg #[.bool n,.slice a l c,.int .i64 e]] u λr w'=>(∃v,r=.returned (.tuple #[.agg #[.bool n1,v,.int .i64 e1],.int .i64 0])/\Nt u.heap.size w' v X)/\An u w')) :
 At 145 #[.agg #[.bool n,.slice a l c,.int .i64 e],.int .i64 mode,.agg #[.int .i64 53,.int .i64 (-1074),.int .i64 1024]] w (.tuple #[.float .f64 0,.int .i64 0]):=by
 obtain⟨W1,hW1⟩:=ah ((w.alloc (.cells #[.bool n,.slice a l c,.int .i64 e] 79)).alloc (.cells #[.int .i64 53,.int .i64 (-1074),.int .i64 1024] 175));obtain⟨hB,hz1,DD,DW⟩:=gH w n (.slice a l c) e 53 (-1074) 1024 W1 hW1;have H1:=hid (HF.o W1 hB);have SB:=(gp hB hz1 DW);clear hB hz1 DD DW HF;go_enter Tryz.func145,Tryz.ntmps145;go_wp2_with fail;rw[<-hW1];clear hW1;refine H1.o.mono ?_;rintro r u1 ⟨⟨v,rfl,hN⟩,hb⟩;obtain⟨a1,c1,rfl,_⟩:=hN.arg ae;obtain⟨hB,hz1,DW⟩:=SB.o;have SF:=ak (hB.trans (hb.mono ae));have hz:w.heap.size<=u1.heap.size:=by have:=hb.size;omega
 clear hN hb H1 hB hz1 DW SB;rw[lX];go_wp2
 go_ret2
 exact⟨rfl,SF.o.alloc hz _⟩
theorem SQ {w:World}{a:Option Addr}{l c:Nat}(n:Bool) (e mode:Int) (X:Nat) (e1:Int) (lX:(ws X).length<=8192) (hX:((((ws X).length:Nat):Int)==0)=false) (hm0:0<=mode) (qM:mode<=4)
 (F cw K K2:Nat) (ex mid:Int) (hF:F<=9007199254740991) (BA:floatOfInt .f64 (F:Int)=cw)
 (HF:Hid (∀u,An w u->As 128 #[.agg #[.bool n,.slice a l c,.int .i64 e]] u λr w'=>(∃v,r=.returned (.tuple #[.agg #[.bool false,v,.int .i64 e1],.int .i64 0])/\Nt u.heap.size w' v X)/\An u w'))
 (HP:Hid (∀(u:World) (p:Option Addr) (q:Nat),Arg u p (ws X).length q (ws X)->At 184 #[.agg #[.bool false,.slice p (ws X).length q,.int .i64 e1],.agg #[.int .i64 53,.int .i64 (-1074),.int .i64 1024]] u (.agg #[.int .u64 (F:Nat),.int .i64 ex,.bool true,.int .i64 mid])))
 (HD:Hid (∀u,Ax 186 #[.float .f64 cw,.int .i64 ex] u (.float .f64 K))) :
 At 145 #[.agg #[.bool n,.slice a l c,.int .i64 e],.int .i64 mode,.agg #[.int .i64 53,.int .i64 (-1074),.int .i64 1024]] w (.tuple #[.float .f64 K,.int .i64 0]):=by
 obtain⟨W1,hW1⟩:=ah ((w.alloc (.cells #[.bool n,.slice a l c,.int .i64 e] 79)).alloc (.cells #[.int .i64 53,.int .i64 (-1074),.int .i64 1024] 175));obtain⟨hB,hz1,DD,DW⟩:=gH w n (.slice a l c) e 53 (-1074) 1024 W1 hW1;have H1:=hid (HF.o W1 hB);have SB:=(gp hB hz1 DW);clear hB hz1 DD DW HF;go_enter Tryz.func145,Tryz.ntmps145;go_wp2_with fail;rw[<-hW1];clear hW1;refine H1.o.mono ?_;rintro r u1 ⟨⟨v,rfl,hN⟩,hb⟩;obtain⟨a1,c1,rfl,_⟩:=hN.arg ae;obtain⟨hB,hz1,DW⟩:=SB.o;obtain⟨W2,hW2⟩:=ah (u1.alloc (.cells #[.bool false,.slice a1 (ws X).length c1,.int .i64 e1] 79));have hbW:An u1 W2:=by rw[hW2];exact af u1 _
 have D2:Dk W2 u1.heap.size false (.slice a1 (ws X).length c1) e1:=by rw[hW2];exact Dk.new u1 _ _ _
 have V2:Wk W2 (w.heap.size+1) 53 (-1074) 1024:=(DW.below hb).below hbW;have hB2:An w W2:=(hB.trans (hb.mono ae)).trans (hbW.mono (by have:=hb.size;omega));have H2:=hid (HP.o W2 a1 c1 ((hN.below hbW).bS ae).2);obtain⟨x0,x1,x2,fA,fB,fC⟩:=D2.facts;obtain⟨y0,y1,y2⟩:=V2.facts;obtain⟨t0,t1,t2⟩:=(DW.below hb).facts;have hzu:w.heap.size+1<u1.heap.size:=by have:=hb.size;omega
 have hzz:w.heap.size<=u1.heap.size:=by have:=hb.size;omega
 have Og:u1.heap.size<W2.heap.size:=D2.lt;have S2:=(bA hB2 D2);clear hN hb H1 hB hz1 DW SB hbW D2 V2 hB2 HP;go_wp2_with fail;rw[<-hW2];clear hW2;refine H2.o.mono ?_;rintro r u2 ⟨rfl,hb⟩;obtain⟨W3,hW3⟩:=ah (u2.alloc (.cells #[.int .u64 (F:Nat),.int .i64 ex,.bool true,.int .i64 mid] 214));have hbW:An u2 W3:=by rw[hW3];exact af u2 _
 have P3:Pk W3 u2.heap.size (F:Nat) ex true mid:=by rw[hW3];exact iF _ _
 have D3:=(S2.o.2.below hb).below hbW;have hB3:An w W3:=(S2.o.1.trans (hb.mono ae)).trans (hbW.mono (by have:=hb.size;omega));have hz6:u1.heap.size<u2.heap.size:=by have:=hb.size;omega
 obtain⟨q0,q1,q2,q3,Gc,Gd,Gf,WK⟩:=P3.facts;obtain⟨d0,d1,d2,WL,WM,df2⟩:=D3.facts;have Oh:w.heap.size<=u2.heap.size:=ae
 have hz7:u2.heap.size<W3.heap.size:=P3.lt;have S3:=(gp hB3 P3 D3);clear hb hbW P3 D3 hB3 S2 H2 x0 x1 x2 fA fB fC y0 y1 y2
 go_upto_region 7 with fail
 rw[<-hW3];clear hW3;go_wp2_with fail
 try simp only[BA]
 refine(eG (HD.o _)) ?_;rintro r ww ⟨rfl,hw⟩;rw[hw];clear hw ww HD;go_wp2
 go_ret2
 exact⟨rfl,S3.o.1⟩
theorem SV {w:World}{a:Option Addr}{l c:Nat}(n:Bool) (e mode:Int) (X:Nat) (e1:Int) (lX:(ws X).length<=8192) (hX:((((ws X).length:Nat):Int)==0)=false) (hm0:0<=mode) (qM:mode<=4)
 (F cw K K2:Nat) (ex mid:Int) (hF:F<=9007199254740991) (BA:floatOfInt .f64 (F:Int)=cw)
 (HF:Hid (∀u,An w u->As 128 #[.agg #[.bool n,.slice a l c,.int .i64 e]] u λr w'=>(∃v,r=.returned (.tuple #[.agg #[.bool true,v,.int .i64 e1],.int .i64 0])/\Nt u.heap.size w' v X)/\An u w'))
 (HP:Hid (∀(u:World) (p:Option Addr) (q:Nat),Arg u p (ws X).length q (ws X)->At 184 #[.agg #[.bool true,.slice p (ws X).length q,.int .i64 e1],.agg #[.int .i64 53,.int .i64 (-1074),.int .i64 1024]] u (.agg #[.int .u64 (F:Nat),.int .i64 ex,.bool true,.int .i64 mid])))
 (HD:Hid (∀u,Ax 186 #[.float .f64 cw,.int .i64 ex] u (.float .f64 K)))
 (HC:Hid (∀u,Ax 90 #[.float .f64 K,.float .f64 13830554455654793216] u (.float .f64 K2))) :
 At 145 #[.agg #[.bool n,.slice a l c,.int .i64 e],.int .i64 mode,.agg #[.int .i64 53,.int .i64 (-1074),.int .i64 1024]] w (.tuple #[.float .f64 K2,.int .i64 0]):=by
 obtain⟨W1,hW1⟩:=ah ((w.alloc (.cells #[.bool n,.slice a l c,.int .i64 e] 79)).alloc (.cells #[.int .i64 53,.int .i64 (-1074),.int .i64 1024] 175));obtain⟨hB,hz1,DD,DW⟩:=gH w n (.slice a l c) e 53 (-1074) 1024 W1 hW1;have H1:=hid (HF.o W1 hB);have SB:=(gp hB hz1 DW);clear hB hz1 DD DW HF;go_enter Tryz.func145,Tryz.ntmps145;go_wp2_with fail;rw[<-hW1];clear hW1;refine H1.o.mono ?_;rintro r u1 ⟨⟨v,rfl,hN⟩,hb⟩;obtain⟨a1,c1,rfl,_⟩:=hN.arg ae;obtain⟨hB,hz1,DW⟩:=SB.o;obtain⟨W2,hW2⟩:=ah (u1.alloc (.cells #[.bool true,.slice a1 (ws X).length c1,.int .i64 e1] 79));have hbW:An u1 W2:=by rw[hW2];exact af u1 _
 have D2:Dk W2 u1.heap.size true (.slice a1 (ws X).length c1) e1:=by rw[hW2];exact Dk.new u1 _ _ _
 have V2:Wk W2 (w.heap.size+1) 53 (-1074) 1024:=(DW.below hb).below hbW;have hB2:An w W2:=(hB.trans (hb.mono ae)).trans (hbW.mono (by have:=hb.size;omega));have H2:=hid (HP.o W2 a1 c1 ((hN.below hbW).bS ae).2);obtain⟨x0,x1,x2,fA,fB,fC⟩:=D2.facts;obtain⟨y0,y1,y2⟩:=V2.facts;obtain⟨t0,t1,t2⟩:=(DW.below hb).facts;have hzu:w.heap.size+1<u1.heap.size:=by have:=hb.size;omega
 have hzz:w.heap.size<=u1.heap.size:=by have:=hb.size;omega
 have Og:u1.heap.size<W2.heap.size:=D2.lt;have S2:=(bA hB2 D2);clear hN hb H1 hB hz1 DW SB hbW D2 V2 hB2 HP;go_wp2_with fail;rw[<-hW2];clear hW2;refine H2.o.mono ?_;rintro r u2 ⟨rfl,hb⟩;obtain⟨W3,hW3⟩:=ah (u2.alloc (.cells #[.int .u64 (F:Nat),.int .i64 ex,.bool true,.int .i64 mid] 214));have hbW:An u2 W3:=by rw[hW3];exact af u2 _
 have P3:Pk W3 u2.heap.size (F:Nat) ex true mid:=by rw[hW3];exact iF _ _
 have D3:=(S2.o.2.below hb).below hbW;have hB3:An w W3:=(S2.o.1.trans (hb.mono ae)).trans (hbW.mono (by have:=hb.size;omega));have hz6:u1.heap.size<u2.heap.size:=by have:=hb.size;omega
 obtain⟨q0,q1,q2,q3,Gc,Gd,Gf,WK⟩:=P3.facts;obtain⟨d0,d1,d2,WL,WM,df2⟩:=D3.facts;have Oh:w.heap.size<=u2.heap.size:=ae
 have hz7:u2.heap.size<W3.heap.size:=P3.lt;have S3:=(gp hB3 P3 D3);clear hb hbW P3 D3 hB3 S2 H2 x0 x1 x2 fA fB fC y0 y1 y2
 go_upto_region 7 with fail
 rw[<-hW3];clear hW3;go_wp2_with fail
 try simp only[BA]
 refine(eG (HD.o _)) ?_;rintro r ww ⟨rfl,hw⟩;rw[hw];clear hw ww HD;go_wp2_with fail;refine(eG (HC.o _)) ?_;rintro r ww ⟨rfl,hw⟩;rw[hw];clear hw ww HC;go_wp2
 go_ret2
 exact⟨rfl,S3.o.1⟩
theorem OP {w:World}{a:Option Addr}{l c:Nat}(n:Bool) (e mode:Int) (X:Nat) (e1:Int) (lX:(ws X).length<=8192) (hX:((((ws X).length:Nat):Int)==0)=false) (hm0:0<=mode) (qM:mode<=4)
 (F cw K K2:Nat) (ex mid:Int) (hF:F<=9007199254740991) (BA:floatOfInt .f64 (F:Int)=cw)
 (HF:Hid (∀u,An w u->As 128 #[.agg #[.bool n,.slice a l c,.int .i64 e]] u λr w'=>(∃v,r=.returned (.tuple #[.agg #[.bool false,v,.int .i64 e1],.int .i64 0])/\Nt u.heap.size w' v X)/\An u w'))
 (HP:Hid (∀(u:World) (p:Option Addr) (q:Nat),Arg u p (ws X).length q (ws X)->At 184 #[.agg #[.bool false,.slice p (ws X).length q,.int .i64 e1],.agg #[.int .i64 53,.int .i64 (-1074),.int .i64 1024]] u (.agg #[.int .u64 (F:Nat),.int .i64 ex,.bool false,.int .i64 mid])))
 (HG:Hid (∀u,At 185 #[.agg #[.int .u64 (F:Nat),.int .i64 ex,.bool false,.int .i64 mid],.int .i64 mode,.bool false] u (.bool false)))
 (HD:Hid (∀u,Ax 186 #[.float .f64 cw,.int .i64 ex] u (.float .f64 K))) :
 At 145 #[.agg #[.bool n,.slice a l c,.int .i64 e],.int .i64 mode,.agg #[.int .i64 53,.int .i64 (-1074),.int .i64 1024]] w (.tuple #[.float .f64 K,.int .i64 0]):=by
 obtain⟨W1,hW1⟩:=ah ((w.alloc (.cells #[.bool n,.slice a l c,.int .i64 e] 79)).alloc (.cells #[.int .i64 53,.int .i64 (-1074),.int .i64 1024] 175));obtain⟨hB,hz1,DD,DW⟩:=gH w n (.slice a l c) e 53 (-1074) 1024 W1 hW1;have H1:=hid (HF.o W1 hB);have SB:=(gp hB hz1 DW);clear hB hz1 DD DW HF;go_enter Tryz.func145,Tryz.ntmps145;go_wp2_with fail;rw[<-hW1];clear hW1;refine H1.o.mono ?_;rintro r u1 ⟨⟨v,rfl,hN⟩,hb⟩;obtain⟨a1,c1,rfl,_⟩:=hN.arg ae;obtain⟨hB,hz1,DW⟩:=SB.o;obtain⟨W2,hW2⟩:=ah (u1.alloc (.cells #[.bool false,.slice a1 (ws X).length c1,.int .i64 e1] 79));have hbW:An u1 W2:=by rw[hW2];exact af u1 _
 have D2:Dk W2 u1.heap.size false (.slice a1 (ws X).length c1) e1:=by rw[hW2];exact Dk.new u1 _ _ _
 have V2:Wk W2 (w.heap.size+1) 53 (-1074) 1024:=(DW.below hb).below hbW;have hB2:An w W2:=(hB.trans (hb.mono ae)).trans (hbW.mono (by have:=hb.size;omega));have H2:=hid (HP.o W2 a1 c1 ((hN.below hbW).bS ae).2);obtain⟨x0,x1,x2,fA,fB,fC⟩:=D2.facts;obtain⟨y0,y1,y2⟩:=V2.facts;obtain⟨t0,t1,t2⟩:=(DW.below hb).facts;have hzu:w.heap.size+1<u1.heap.size:=by have:=hb.size;omega
 have hzz:w.heap.size<=u1.heap.size:=by have:=hb.size;omega
 have Og:u1.heap.size<W2.heap.size:=D2.lt;have S2:=(bA hB2 D2);clear hN hb H1 hB hz1 DW SB hbW D2 V2 hB2 HP;go_wp2_with fail;rw[<-hW2];clear hW2;refine H2.o.mono ?_;rintro r u2 ⟨rfl,hb⟩;obtain⟨W3,hW3⟩:=ah (u2.alloc (.cells #[.int .u64 (F:Nat),.int .i64 ex,.bool false,.int .i64 mid] 214));have hbW:An u2 W3:=by rw[hW3];exact af u2 _
 have P3:Pk W3 u2.heap.size (F:Nat) ex false mid:=by rw[hW3];exact iF _ _
 have D3:=(S2.o.2.below hb).below hbW;have hB3:An w W3:=(S2.o.1.trans (hb.mono ae)).trans (hbW.mono (by have:=hb.size;omega));have hz6:u1.heap.size<u2.heap.size:=by have:=hb.size;omega
 obtain⟨q0,q1,q2,q3,Gc,Gd,Gf,WK⟩:=P3.facts;obtain⟨d0,d1,d2,WL,WM,df2⟩:=D3.facts;have Oh:w.heap.size<=u2.heap.size:=ae
 have hz7:u2.heap.size<W3.heap.size:=P3.lt;have S3:=(gp hB3 P3 D3);clear hb hbW P3 D3 hB3 S2 H2 x0 x1 x2 fA fB fC y0 y1 y2
 go_upto_region 7 with fail
 rw[<-hW3];clear hW3;go_wp2_with fail;refine(eG (HG.o _)) ?_;rintro r u3 ⟨rfl,hb⟩;have P4:=S3.o.2.1.below hb;have D4:=S3.o.r2.below hb;have hB4:An w u3:=S3.o.1.trans (hb.mono ae);have hz8:w.heap.size<=u3.heap.size:=by have:=hb.size;omega
 obtain⟨r0,r1,r2,r3,gK,gL,gM,rf3⟩:=P4.facts;obtain⟨s0,s1,s2,Bt,Bu,Bw⟩:=D4.facts;have S4:=ak hB4;clear hb P4 D4 hB4 S3 HG q0 q1 q2 q3 Gc Gd Gf WK d0 d1 d2 WL WM df2;go_wp2_with fail
 try simp only[BA]
 refine(eG (HD.o _)) ?_;rintro r ww ⟨rfl,hw⟩;rw[hw];clear hw ww HD;go_wp2
 go_ret2
 exact⟨rfl,S4.o⟩
theorem OQ {w:World}{a:Option Addr}{l c:Nat}(n:Bool) (e mode:Int) (X:Nat) (e1:Int) (lX:(ws X).length<=8192) (hX:((((ws X).length:Nat):Int)==0)=false) (hm0:0<=mode) (qM:mode<=4)
 (F cw K K2:Nat) (ex mid:Int) (hF:F<=9007199254740991) (BA:floatOfInt .f64 (F:Int)=cw)
 (HF:Hid (∀u,An w u->As 128 #[.agg #[.bool n,.slice a l c,.int .i64 e]] u λr w'=>(∃v,r=.returned (.tuple #[.agg #[.bool true,v,.int .i64 e1],.int .i64 0])/\Nt u.heap.size w' v X)/\An u w'))
 (HP:Hid (∀(u:World) (p:Option Addr) (q:Nat),Arg u p (ws X).length q (ws X)->At 184 #[.agg #[.bool true,.slice p (ws X).length q,.int .i64 e1],.agg #[.int .i64 53,.int .i64 (-1074),.int .i64 1024]] u (.agg #[.int .u64 (F:Nat),.int .i64 ex,.bool false,.int .i64 mid])))
 (HG:Hid (∀u,At 185 #[.agg #[.int .u64 (F:Nat),.int .i64 ex,.bool false,.int .i64 mid],.int .i64 mode,.bool true] u (.bool false)))
 (HD:Hid (∀u,Ax 186 #[.float .f64 cw,.int .i64 ex] u (.float .f64 K)))
 (HC:Hid (∀u,Ax 90 #[.float .f64 K,.float .f64 13830554455654793216] u (.float .f64 K2))) :
 At 145 #[.agg #[.bool n,.slice a l c,.int .i64 e],.int .i64 mode,.agg #[.int .i64 53,.int .i64 (-1074),.int .i64 1024]] w (.tuple #[.float .f64 K2,.int .i64 0]):=by
 obtain⟨W1,hW1⟩:=ah ((w.alloc (.cells #[.bool n,.slice a l c,.int .i64 e] 79)).alloc (.cells #[.int .i64 53,.int .i64 (-1074),.int .i64 1024] 175));obtain⟨hB,hz1,DD,DW⟩:=gH w n (.slice a l c) e 53 (-1074) 1024 W1 hW1;have H1:=hid (HF.o W1 hB);have SB:=(gp hB hz1 DW);clear hB hz1 DD DW HF;go_enter Tryz.func145,Tryz.ntmps145;go_wp2_with fail;rw[<-hW1];clear hW1;refine H1.o.mono ?_;rintro r u1 ⟨⟨v,rfl,hN⟩,hb⟩;obtain⟨a1,c1,rfl,_⟩:=hN.arg ae;obtain⟨hB,hz1,DW⟩:=SB.o;obtain⟨W2,hW2⟩:=ah (u1.alloc (.cells #[.bool true,.slice a1 (ws X).length c1,.int .i64 e1] 79));have hbW:An u1 W2:=by rw[hW2];exact af u1 _
 have D2:Dk W2 u1.heap.size true (.slice a1 (ws X).length c1) e1:=by rw[hW2];exact Dk.new u1 _ _ _
 have V2:Wk W2 (w.heap.size+1) 53 (-1074) 1024:=(DW.below hb).below hbW;have hB2:An w W2:=(hB.trans (hb.mono ae)).trans (hbW.mono (by have:=hb.size;omega));have H2:=hid (HP.o W2 a1 c1 ((hN.below hbW).bS ae).2);obtain⟨x0,x1,x2,fA,fB,fC⟩:=D2.facts;obtain⟨y0,y1,y2⟩:=V2.facts;obtain⟨t0,t1,t2⟩:=(DW.below hb).facts;have hzu:w.heap.size+1<u1.heap.size:=by have:=hb.size;omega
 have hzz:w.heap.size<=u1.heap.size:=by have:=hb.size;omega
 have Og:u1.heap.size<W2.heap.size:=D2.lt;have S2:=(bA hB2 D2);clear hN hb H1 hB hz1 DW SB hbW D2 V2 hB2 HP;go_wp2_with fail;rw[<-hW2];clear hW2;refine H2.o.mono ?_;rintro r u2 ⟨rfl,hb⟩;obtain⟨W3,hW3⟩:=ah (u2.alloc (.cells #[.int .u64 (F:Nat),.int .i64 ex,.bool false,.int .i64 mid] 214));have hbW:An u2 W3:=by rw[hW3];exact af u2 _
 have P3:Pk W3 u2.heap.size (F:Nat) ex false mid:=by rw[hW3];exact iF _ _
 have D3:=(S2.o.2.below hb).below hbW;have hB3:An w W3:=(S2.o.1.trans (hb.mono ae)).trans (hbW.mono (by have:=hb.size;omega));have hz6:u1.heap.size<u2.heap.size:=by have:=hb.size;omega
 obtain⟨q0,q1,q2,q3,Gc,Gd,Gf,WK⟩:=P3.facts;obtain⟨d0,d1,d2,WL,WM,df2⟩:=D3.facts;have Oh:w.heap.size<=u2.heap.size:=ae
 have hz7:u2.heap.size<W3.heap.size:=P3.lt;have S3:=(gp hB3 P3 D3);clear hb hbW P3 D3 hB3 S2 H2 x0 x1 x2 fA fB fC y0 y1 y2
 go_upto_region 7 with fail
 rw[<-hW3];clear hW3;go_wp2_with fail;refine(eG (HG.o _)) ?_;rintro r u3 ⟨rfl,hb⟩;have P4:=S3.o.2.1.below hb;have D4:=S3.o.r2.below hb;have hB4:An w u3:=S3.o.1.trans (hb.mono ae);have hz8:w.heap.size<=u3.heap.size:=by have:=hb.size;omega
 obtain⟨r0,r1,r2,r3,gK,gL,gM,rf3⟩:=P4.facts;obtain⟨s0,s1,s2,Bt,Bu,Bw⟩:=D4.facts;have S4:=ak hB4;clear hb P4 D4 hB4 S3 HG q0 q1 q2 q3 Gc Gd Gf WK d0 d1 d2 WL WM df2;go_wp2_with fail
 try simp only[BA]
 refine(eG (HD.o _)) ?_;rintro r ww ⟨rfl,hw⟩;rw[hw];clear hw ww HD;go_wp2_with fail;refine(eG (HC.o _)) ?_;rintro r ww ⟨rfl,hw⟩;rw[hw];clear hw ww HC;go_wp2
 go_ret2
 exact⟨rfl,S4.o⟩
theorem OT {w:World}{a:Option Addr}{l c:Nat}(n:Bool) (e mode:Int) (X:Nat) (e1:Int) (lX:(ws X).length<=8192) (hX:((((ws X).length:Nat):Int)==0)=false) (hm0:0<=mode) (qM:mode<=4)
 (F cw K K2:Nat) (ex mid:Int) (hF:F<=9007199254740991) (BA:floatOfInt .f64 ((F:Int)+1)=cw)
 (HF:Hid (∀u,An w u->As 128 #[.agg #[.bool n,.slice a l c,.int .i64 e]] u λr w'=>(∃v,r=.returned (.tuple #[.agg #[.bool false,v,.int .i64 e1],.int .i64 0])/\Nt u.heap.size w' v X)/\An u w'))
 (HP:Hid (∀(u:World) (p:Option Addr) (q:Nat),Arg u p (ws X).length q (ws X)->At 184 #[.agg #[.bool false,.slice p (ws X).length q,.int .i64 e1],.agg #[.int .i64 53,.int .i64 (-1074),.int .i64 1024]] u (.agg #[.int .u64 (F:Nat),.int .i64 ex,.bool false,.int .i64 mid])))
 (HG:Hid (∀u,At 185 #[.agg #[.int .u64 (F:Nat),.int .i64 ex,.bool false,.int .i64 mid],.int .i64 mode,.bool false] u (.bool true)))
 (HD:Hid (∀u,Ax 186 #[.float .f64 cw,.int .i64 ex] u (.float .f64 K))) :
 At 145 #[.agg #[.bool n,.slice a l c,.int .i64 e],.int .i64 mode,.agg #[.int .i64 53,.int .i64 (-1074),.int .i64 1024]] w (.tuple #[.float .f64 K,.int .i64 0]):=by
 obtain⟨W1,hW1⟩:=ah ((w.alloc (.cells #[.bool n,.slice a l c,.int .i64 e] 79)).alloc (.cells #[.int .i64 53,.int .i64 (-1074),.int .i64 1024] 175));obtain⟨hB,hz1,DD,DW⟩:=gH w n (.slice a l c) e 53 (-1074) 1024 W1 hW1;have H1:=hid (HF.o W1 hB);have SB:=(gp hB hz1 DW);clear hB hz1 DD DW HF;go_enter Tryz.func145,Tryz.ntmps145;go_wp2_with fail;rw[<-hW1];clear hW1;refine H1.o.mono ?_;rintro r u1 ⟨⟨v,rfl,hN⟩,hb⟩;obtain⟨a1,c1,rfl,_⟩:=hN.arg ae;obtain⟨hB,hz1,DW⟩:=SB.o;obtain⟨W2,hW2⟩:=ah (u1.alloc (.cells #[.bool false,.slice a1 (ws X).length c1,.int .i64 e1] 79));have hbW:An u1 W2:=by rw[hW2];exact af u1 _
 have D2:Dk W2 u1.heap.size false (.slice a1 (ws X).length c1) e1:=by rw[hW2];exact Dk.new u1 _ _ _
 have V2:Wk W2 (w.heap.size+1) 53 (-1074) 1024:=(DW.below hb).below hbW;have hB2:An w W2:=(hB.trans (hb.mono ae)).trans (hbW.mono (by have:=hb.size;omega));have H2:=hid (HP.o W2 a1 c1 ((hN.below hbW).bS ae).2);obtain⟨x0,x1,x2,fA,fB,fC⟩:=D2.facts;obtain⟨y0,y1,y2⟩:=V2.facts;obtain⟨t0,t1,t2⟩:=(DW.below hb).facts;have hzu:w.heap.size+1<u1.heap.size:=by have:=hb.size;omega
 have hzz:w.heap.size<=u1.heap.size:=by have:=hb.size;omega
 have Og:u1.heap.size<W2.heap.size:=D2.lt;have S2:=(bA hB2 D2);clear hN hb H1 hB hz1 DW SB hbW D2 V2 hB2 HP;go_wp2_with fail;rw[<-hW2];clear hW2;refine H2.o.mono ?_;rintro r u2 ⟨rfl,hb⟩;obtain⟨W3,hW3⟩:=ah (u2.alloc (.cells #[.int .u64 (F:Nat),.int .i64 ex,.bool false,.int .i64 mid] 214));have hbW:An u2 W3:=by rw[hW3];exact af u2 _
 have P3:Pk W3 u2.heap.size (F:Nat) ex false mid:=by rw[hW3];exact iF _ _
 have D3:=(S2.o.2.below hb).below hbW;have hB3:An w W3:=(S2.o.1.trans (hb.mono ae)).trans (hbW.mono (by have:=hb.size;omega));have hz6:u1.heap.size<u2.heap.size:=by have:=hb.size;omega
 obtain⟨q0,q1,q2,q3,Gc,Gd,Gf,WK⟩:=P3.facts;obtain⟨d0,d1,d2,WL,WM,df2⟩:=D3.facts;have Oh:w.heap.size<=u2.heap.size:=ae
 have hz7:u2.heap.size<W3.heap.size:=P3.lt;have S3:=(gp hB3 P3 D3);clear hb hbW P3 D3 hB3 S2 H2 x0 x1 x2 fA fB fC y0 y1 y2
 go_upto_region 7 with fail
 rw[<-hW3];clear hW3;go_wp2_with fail;refine(eG (HG.o _)) ?_;rintro r u3 ⟨rfl,hb⟩;have P4:=S3.o.2.1.below hb;have D4:=S3.o.r2.below hb;have hB4:An w u3:=S3.o.1.trans (hb.mono ae);have hz8:w.heap.size<=u3.heap.size:=by have:=hb.size;omega
 obtain⟨r0,r1,r2,r3,gK,gL,gM,rf3⟩:=P4.facts;obtain⟨s0,s1,s2,Bt,Bu,Bw⟩:=D4.facts;have S4:=ak hB4;clear hb P4 D4 hB4 S3 HG q0 q1 q2 q3 Gc Gd Gf WK d0 d1 d2 WL WM df2;go_wp2_with fail
 try simp only[BA]
 refine(eG (HD.o _)) ?_;rintro r ww ⟨rfl,hw⟩;rw[hw];clear hw ww HD;go_wp2
 go_ret2
 exact⟨rfl,Below.ru S4.o _ _ _ Oh hz8⟩
theorem OU {w:World}{a:Option Addr}{l c:Nat}(n:Bool) (e mode:Int) (X:Nat) (e1:Int) (lX:(ws X).length<=8192) (hX:((((ws X).length:Nat):Int)==0)=false) (hm0:0<=mode) (qM:mode<=4)
 (F cw K K2:Nat) (ex mid:Int) (hF:F<=9007199254740991) (BA:floatOfInt .f64 ((F:Int)+1)=cw)
 (HF:Hid (∀u,An w u->As 128 #[.agg #[.bool n,.slice a l c,.int .i64 e]] u λr w'=>(∃v,r=.returned (.tuple #[.agg #[.bool true,v,.int .i64 e1],.int .i64 0])/\Nt u.heap.size w' v X)/\An u w'))
 (HP:Hid (∀(u:World) (p:Option Addr) (q:Nat),Arg u p (ws X).length q (ws X)->At 184 #[.agg #[.bool true,.slice p (ws X).length q,.int .i64 e1],.agg #[.int .i64 53,.int .i64 (-1074),.int .i64 1024]] u (.agg #[.int .u64 (F:Nat),.int .i64 ex,.bool false,.int .i64 mid])))
 (HG:Hid (∀u,At 185 #[.agg #[.int .u64 (F:Nat),.int .i64 ex,.bool false,.int .i64 mid],.int .i64 mode,.bool true] u (.bool true)))
 (HD:Hid (∀u,Ax 186 #[.float .f64 cw,.int .i64 ex] u (.float .f64 K)))
 (HC:Hid (∀u,Ax 90 #[.float .f64 K,.float .f64 13830554455654793216] u (.float .f64 K2))) :
 At 145 #[.agg #[.bool n,.slice a l c,.int .i64 e],.int .i64 mode,.agg #[.int .i64 53,.int .i64 (-1074),.int .i64 1024]] w (.tuple #[.float .f64 K2,.int .i64 0]):=by
 obtain⟨W1,hW1⟩:=ah ((w.alloc (.cells #[.bool n,.slice a l c,.int .i64 e] 79)).alloc (.cells #[.int .i64 53,.int .i64 (-1074),.int .i64 1024] 175));obtain⟨hB,hz1,DD,DW⟩:=gH w n (.slice a l c) e 53 (-1074) 1024 W1 hW1;have H1:=hid (HF.o W1 hB);have SB:=(gp hB hz1 DW);clear hB hz1 DD DW HF;go_enter Tryz.func145,Tryz.ntmps145;go_wp2_with fail;rw[<-hW1];clear hW1;refine H1.o.mono ?_;rintro r u1 ⟨⟨v,rfl,hN⟩,hb⟩;obtain⟨a1,c1,rfl,_⟩:=hN.arg ae;obtain⟨hB,hz1,DW⟩:=SB.o;obtain⟨W2,hW2⟩:=ah (u1.alloc (.cells #[.bool true,.slice a1 (ws X).length c1,.int .i64 e1] 79));have hbW:An u1 W2:=by rw[hW2];exact af u1 _
 have D2:Dk W2 u1.heap.size true (.slice a1 (ws X).length c1) e1:=by rw[hW2];exact Dk.new u1 _ _ _
 have V2:Wk W2 (w.heap.size+1) 53 (-1074) 1024:=(DW.below hb).below hbW;have hB2:An w W2:=(hB.trans (hb.mono ae)).trans (hbW.mono (by have:=hb.size;omega));have H2:=hid (HP.o W2 a1 c1 ((hN.below hbW).bS ae).2);obtain⟨x0,x1,x2,fA,fB,fC⟩:=D2.facts;obtain⟨y0,y1,y2⟩:=V2.facts;obtain⟨t0,t1,t2⟩:=(DW.below hb).facts;have hzu:w.heap.size+1<u1.heap.size:=by have:=hb.size;omega
 have hzz:w.heap.size<=u1.heap.size:=by have:=hb.size;omega
 have Og:u1.heap.size<W2.heap.size:=D2.lt;have S2:=(bA hB2 D2);clear hN hb H1 hB hz1 DW SB hbW D2 V2 hB2 HP;go_wp2_with fail;rw[<-hW2];clear hW2;refine H2.o.mono ?_;rintro r u2 ⟨rfl,hb⟩;obtain⟨W3,hW3⟩:=ah (u2.alloc (.cells #[.int .u64 (F:Nat),.int .i64 ex,.bool false,.int .i64 mid] 214));have hbW:An u2 W3:=by rw[hW3];exact af u2 _
 have P3:Pk W3 u2.heap.size (F:Nat) ex false mid:=by rw[hW3];exact iF _ _
 have D3:=(S2.o.2.below hb).below hbW;have hB3:An w W3:=(S2.o.1.trans (hb.mono ae)).trans (hbW.mono (by have:=hb.size;omega));have hz6:u1.heap.size<u2.heap.size:=by have:=hb.size;omega
 obtain⟨q0,q1,q2,q3,Gc,Gd,Gf,WK⟩:=P3.facts;obtain⟨d0,d1,d2,WL,WM,df2⟩:=D3.facts;have Oh:w.heap.size<=u2.heap.size:=ae
 have hz7:u2.heap.size<W3.heap.size:=P3.lt;have S3:=(gp hB3 P3 D3);clear hb hbW P3 D3 hB3 S2 H2 x0 x1 x2 fA fB fC y0 y1 y2
 go_upto_region 7 with fail
 rw[<-hW3];clear hW3;go_wp2_with fail;refine(eG (HG.o _)) ?_;rintro r u3 ⟨rfl,hb⟩;have P4:=S3.o.2.1.below hb;have D4:=S3.o.r2.below hb;have hB4:An w u3:=S3.o.1.trans (hb.mono ae);have hz8:w.heap.size<=u3.heap.size:=by have:=hb.size;omega
 obtain⟨r0,r1,r2,r3,gK,gL,gM,rf3⟩:=P4.facts;obtain⟨s0,s1,s2,Bt,Bu,Bw⟩:=D4.facts;have S4:=ak hB4;clear hb P4 D4 hB4 S3 HG q0 q1 q2 q3 Gc Gd Gf WK d0 d1 d2 WL WM df2;go_wp2_with fail
 try simp only[BA]
 refine(eG (HD.o _)) ?_;rintro r ww ⟨rfl,hw⟩;rw[hw];clear hw ww HD;go_wp2_with fail;refine(eG (HC.o _)) ?_;rintro r ww ⟨rfl,hw⟩;rw[hw];clear hw ww HC;go_wp2
 go_ret2
 exact⟨rfl,Below.ru S4.o _ _ _ Oh hz8⟩
def WO(mode:Int)(n:Bool)(X:Nat)(e:Int):Nat :=
 let p:=jf 53 (-1074) 1024 X e
 (p.2.1+1074).toNat*4503599627370496+(if p.2.2.1 then p.1 else if lU mode p.1 p.2.2.2 n then p.1+1 else p.1)
def jJ(o:Option (Bool×Nat×Int))(mode:Int):Nat×Int :=
 if mode<0\/4<mode then(0,1)
 else match o with
  | none=>(0,2)
  | some (n,X,e)=>if X=0 then(0,0) else(WO mode n X e+(if n then 9223372036854775808 else 0),0)
theorem WQ(X:Nat)(e:Int):(jf 53 (-1074) 1024 X e).2.2.2=-1\/(jf 53 (-1074) 1024 X e).2.2.2=0\/(jf 53 (-1074) 1024 X e).2.2.2=1:=by
 unfold jf
 split
 . simp
 . simp only
   split
   . simp
   . simp only
     split
     . simp
     . split <;> simp
theorem r9(F:Nat)(ex:Int)(hF:F<=9007199254740992)(h0:-1074<=ex)(h1:ex<=971)(hn:ex=-1074\/4503599627370496<=F) :
 ∃cw,floatOfInt .f64 (F:Int)=cw/\∀u,Ax 186 #[.float .f64 cw,.int .i64 ex] u (.float .f64 ((ex+1074).toNat*4503599627370496+F)):=by
 by_cases hz:F=0
 . subst hz;obtain rfl:ex=-1074:=ae
   exact⟨0,aM,λu=>B.Dx _ u⟩
 . obtain⟨e,g,hw⟩:=B.Sz F ae hF;exact⟨_,B.Gh F e g hw,λu=>B.OH F e g ex u hw ae hF h0 h1 hn⟩
theorem vw(K:Nat)(hK:K<=9218868437227405312)(u:World):Ax 90 #[.float .f64 K,.float .f64 13830554455654793216] u (.float .f64 (K+9223372036854775808)):=by
 have h:=B.Dv (K/4503599627370496) (K%4503599627370496) ae ae u;have e1:B.bw false (K/4503599627370496) (K%4503599627370496)=K:=by unfold B.bw;simp;omega
 have e2:B.bw true (K/4503599627370496) (K%4503599627370496)=K+9223372036854775808:=by unfold B.bw;simp;omega
 rw[e1,e2] at h;exact h
theorem OW{w:World}{a:Option Addr}{l c:Nat}{xs:List Nat}(hA:Arg w a l c xs)(hT:gP w)(n:Bool)(e mode:Int)(he0:-9223372036854775808<=e)(he1:e<=9223372036854775807) :
 At 145 #[.agg #[.bool n,.slice a l c,.int .i64 e],.int .i64 mode,.agg #[.int .i64 53,.int .i64 (-1074),.int .i64 1024]] w (.tuple #[.float .f64 (jJ (mkS n (val xs) e) mode).1,.int .i64 (jJ (mkS n (val xs) e) mode).2]):=by
 unfold jJ
 by_cases hm:mode<0\/4<mode
 . rw[if_pos hm];exact JG n a l c e mode w hm
 . rw[if_neg hm];have HF:Hid (∀u,An w u->As 128 #[.agg #[.bool n,.slice a l c,.int .i64 e]] u λr w'=>dm u.heap.size w' r (mkS n (val xs) e)/\An u w'):=λu hu=>nG (hA.below hu) (hT.belows hu) n e he0 he1
   cases ho:mkS n (val xs) e with
   | none =>
     rw[ho] at HF;exact OO n e mode false 0 0 2 (by rw[cB];simp) ae ae rfl HF
   | some d =>
     obtain⟨n1,X,e1⟩:=d;rw[ho] at HF;have FX:=cO ho;simp only
     by_cases hX:X=0
     . rw[if_pos hX];exact JH n e mode n1 X e1 ((bT X).2 hX) ae ae HF
     . rw[if_neg hX];have pf:=vo X e1 hX FX.down FX.up;have pm:=WQ X e1;have HP:∀(u:World) (p:Option Addr) (q:Nat),Arg u p (ws X).length q (ws X)->At 184 #[.agg #[.bool n1,.slice p (ws X).length q,.int .i64 e1],.agg #[.int .i64 53,.int .i64 (-1074),.int .i64 1024]] u (.agg #[.int .u64 ((jf 53 (-1074) 1024 X e1).1:Nat),.int .i64 (jf 53 (-1074) 1024 X e1).2.1,.bool (jf 53 (-1074) 1024 X e1).2.2.1,.int .i64 (jf 53 (-1074) 1024 X e1).2.2.2]):=λu p q hA=>JF hA n1 e1 FX.down FX.up hX FX.size;unfold WO;simp only;generalize jf 53 (-1074) 1024 X e1=P at pf pm HP |-;obtain⟨F,ex,t,mid⟩:=P;simp only at pf pm HP |-;obtain⟨p1,p2,p3,p4⟩:=pf;have HG:∀u,At 185 #[.agg #[.int .u64 (F:Nat),.int .i64 ex,.bool false,.int .i64 mid],.int .i64 mode,.bool n1] u (.bool (lU mode F mid n1)):=λu=>Gm F ex false mid mode n1 u ae pm ae ae;have lX:=fw FX
       cases t with
       | true =>
         simp only[if_true];obtain⟨cw,BA,HD⟩:=r9 F ex ae p2 p3 p4
         cases n1 with
         | false =>
           simp only[eX,if_false,il];exact SQ n e mode X e1 lX (dD hX) ae ae F cw _ 0 ex mid p1 BA HF (hid HP) (hid HD)
         | true =>
           simp only[if_true];exact SV n e mode X e1 lX (dD hX) ae ae F cw _ _ ex mid p1 BA HF (hid HP) (hid HD) (hid λu=>vw _ ae u)
       | false =>
         simp only[eX,if_false]
         cases hob:lU mode F mid n1 with
         | false =>
           rw[hob] at HG;simp only[eX,if_false];obtain⟨cw,BA,HD⟩:=r9 F ex ae p2 p3 p4
           cases n1 with
           | false =>
             simp only[eX,if_false,il];exact OP n e mode X e1 lX (dD hX) ae ae F cw _ 0 ex mid p1 BA HF (hid HP) (hid HG) (hid HD)
           | true =>
             simp only[if_true];exact OQ n e mode X e1 lX (dD hX) ae ae F cw _ _ ex mid p1 BA HF (hid HP) (hid HG) (hid HD) (hid λu=>vw _ ae u)
         | true =>
           rw[hob] at HG;simp only[if_true];obtain⟨cw,BA,HD⟩:=r9 (F+1) ex ae p2 p3 ae
           cases n1 with
           | false =>
             simp only[eX,if_false,il];exact OT n e mode X e1 lX (dD hX) ae ae F cw _ 0 ex mid p1 (by simpa using BA) HF (hid HP) (hid HG) (hid HD)
           | true =>
             simp only[if_true];exact OU n e mode X e1 lX (dD hX) ae ae F cw _ _ ex mid p1 (by simpa using BA) HF (hid HP) (hid HG) (hid HD) (hid λu=>vw _ ae u)
theorem OX{w:World}{a:Option Addr}{l c:Nat}{xs:List Nat}(hA:Arg w a l c xs)(hT:gP w)(n:Bool)(e mode:Int)(he0:-9223372036854775808<=e)(he1:e<=9223372036854775807) :
 At 93 #[.agg #[.bool n,.slice a l c,.int .i64 e],.int .i64 mode] w (.tuple #[.float .f64 (jJ (mkS n (val xs) e) mode).1,.int .i64 (jJ (mkS n (val xs) e) mode).2]):=by
 have hb0:=af w (.cells #[.bool n,.slice a l c,.int .i64 e] 79);have H:=hid (OW (hA.below hb0) (hT.belows hb0) n e mode he0 he1);have S0:=ak hb0;obtain⟨⟨K,er⟩,hK⟩:∃K,jJ (mkS n (val xs) e) mode=K:=⟨_,rfl⟩;rw[hK] at H |-;simp only at H |-;clear hA hT hb0 hK;go_enter Tryz.func93,Tryz.ntmps93;go_wp2_with fail;refine H.o.mono ?_;rintro r u1 ⟨rfl,hb⟩;have S1:=ak hb;clear hb;go_wp2
 go_ret2
 exact⟨rfl,S0.o.trans (S1.o.mono aN)⟩
theorem Tryz.SY:Tryz.zeroCells200=((List.replicate 133 0).map U++Sp.cells ⟨0,0,0,0,0,0⟩).toArray:=by kernel_rfl
theorem OY{w:World}{g:Nat}(h:Bl w g 200 ((List.replicate 133 0).map U++Sp.cells ⟨0,0,0,0,0,0⟩)):ry w g 0 ⟨0,0,0,0,0,0⟩ :=
 ⟨List.replicate 133 0,aN,Wf.zeros 133,by rw[kX];simp,by have:=uW;omega,by have:=uW;omega,h⟩
theorem New7(w:World):As 123 #[] w λr w'=>r=.returned (.pointer (some ⟨w.heap.size,0,none⟩))/\ry w' w.heap.size 0 ⟨0,0,0,0,0,0⟩/\An w w':=by
 go_enter Tryz.func123,Tryz.ntmps123;go_wp2;go_ret;refine⟨rfl,?_,aC _ _⟩;rw[Tryz.SY];exact OY (Bl.new _ _ _)
end
end Go.Proofs.YtjppdacikihpdaaGreatDoor
