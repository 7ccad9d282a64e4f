import Derived.Test.YtblkpkgebigojaaGreatDoorD32cx
import Derived.Test.YtblkpkgebigojaaGreatDoorBIeeex
import Derived.Test.YtblkpkgebigojaaGreatDoorD21x
import Derived.Deep.RegionWith
import Derived.Deep.RegionHeld3
import Derived.Deep.CutRange
import Derived.Test.YtblkpkgebigojaaGreatDoorD10x
import Derived.Test.YtblkpkgebigojaaGreatDoorS10x
import Derived.Test.YtblkpkgebigojaaGreatDoorM1x
import Derived.Test.YtblkpkgebigojaaGreatDoorW24x
import Derived.Laws.IdiomStrings
import Derived.BigQuiet
import Derived.Deep.Cut
set_option linter.unusedVariables false
set_option linter.unusedSimpArgs false
set_option maxHeartbeats 16000000
set_option maxRecDepth 20000
namespace Go.Proofs.YtblkpkgebigojaaGreatDoor
namespace J
end J
section
open Go.RowKit
theorem EZ {w:World}{a:Option Addr}{n c:Nat}{xs:List Nat}(h1:Arg w a n c xs) (ng:Bool) (e:Int) :
 Calls Tryz.prog 209 #[.agg #[.bool ng,.slice a n c,.int .i64 e]] w fun r w'=>r=.returned (.int .i64 (qN ng (val xs)))/\Below w.heap.size w w':=by
 have hB:Below w.heap.size w (w.alloc (.cells #[.bool ng,.slice a n c,.int .i64 e] 62)):=af w _;have A1:=h1.below hB;have hbig:=h1.big;have H1:=hid (nD xs a n c _ _ A1.len ae A1.wf A1.rd);obtain ⟨X,hX⟩:∃ X,val xs=X:=⟨_,rfl⟩;rw [hX] at H1 |-;have SB:=ay hB;clear hB A1 h1 hX hbig;unfold qN
 by_cases h0:X=0
 · rw [if_pos h0];have hb:bl X=0:=by rw [h0,dJ]
   rw [hb] at H1;clear h0 hb;go_enter Tryz.func209,Tryz.ntmps209;go_wp2_with fail;refine H1.o.mono ?_;rintro r w1 ⟨rfl,rfl⟩;go_wp2;go_ret;exact ⟨rfl,SB.o⟩
 · rw [if_neg h0];obtain ⟨b,hb⟩:∃ b,bl X=b:=⟨_,rfl⟩;have hb0:((b:Int)==0)=false:=by have:=dL X h0;simp;omega
   rw [hb] at H1;clear h0 hb
   cases ng
   · simp only [fw,if_false];go_enter Tryz.func209,Tryz.ntmps209;go_wp2_with fail;refine H1.o.mono ?_;rintro r w1 ⟨rfl,rfl⟩;go_wp2;go_ret;exact ⟨rfl,SB.o⟩
   · simp only [if_true];go_enter Tryz.func209,Tryz.ntmps209;go_wp2_with fail;refine H1.o.mono ?_;rintro r w1 ⟨rfl,rfl⟩;go_wp2;go_ret;exact ⟨rfl,SB.o⟩
theorem Kq {w:World}{a:Option Addr}{l c:Nat}{xs:List Nat}{X:Nat}(k:Nat) (h1:Arg w a l c xs) (hX:val xs=X) (hl:l<=2000000) (hk:k<=64000000) :
 Calls Tryz.prog 123 #[.slice a l c,.int .i64 (k:Nat)] w fun r w'=>∃ v,r=.returned v/\Nt w.heap.size w' v (X*2^k)/\Below w.heap.size w w':=by
 obtain ⟨q,hq⟩:=ah (k/32);obtain ⟨s,hs⟩:=ah (k%32);have e1:(k:Int)/32=(q:Int):=ae
 have e2:(k:Int)%32=(s:Int):=ae
 have hqb:q<=2000000:=ae
 have MR:s<32:=ae
 obtain ⟨W1,hW1⟩:=ah (w.alloc (.cells (madeCells #[.int .u32 0] q) 147));have lU:Own W1 w.heap.size (List.replicate q 0):=by rw [hW1];exact Own.made w q
 have hB1:Below w.heap.size w W1:=by rw [hW1];exact (ak _ _).alloc (aH _) _
 have hmk:=dK (q:Int) q rfl ae w;rw [<-hW1] at hmk;have hR:=qy lU (by simp;omega);simp only [xh] at hR;have A1:=h1.below hB1;obtain ⟨v',w2,hap,hown,hgrow⟩:=jV W1 w.heap.size _ q (List.replicate q 0) xs a l c W1.heap.size 60 hR A1.len A1.rd A1.nil ae hB1.size;have hB2:Below w.heap.size w w2:=hB1.grown hgrow hB1.size (fun k hk=>by simp [Value.ownBlock] at hk;omega);obtain ⟨a2,c2,rfl,hc2,hl2,sQ,Bz⟩:=Rw.words hown;have AO:Arg w2 a2 (q+l) c2 (List.replicate q 0++xs):=⟨hl2,hc2,ae,(Wf.zeros q).append h1.wf,Bz,sQ⟩
 have hval:val (List.replicate q 0++xs)=X*pw q:=by
  rw [val_append,j5,hX,xh,dI,dh]
 have hpw:pw q*2^s=2^k:=by
  have:pw q=2^(32*q):=by unfold pw;rw [mW]
  rw [this,<-aR];congr 1;omega
 have hps:=rA s MR;obtain ⟨p,hp⟩:=ah (2^s)
 have e3:(2:Int)^s=(p:Int):=by
  have h5:((2^s:Nat):Int)=(2:Int)^s:=by simp
  rw [<-h5,<-hp]
 have hpl:p<4294967296:=ae
 have T1:=hid (kE (V:=X*2^k) (AO.below (af w2 _)) (qw w2 p ae) ae (by rw [hval];simp only [val];rw [<-hpw,hp,aU];simp));have IQ:=hid hap;have hs2:=hB2.size;have S1:=ay hB2;clear hap hown hgrow hB2 hl2 sQ Bz AO hval hpw A1 hR lU hB1 h1 hW1 hq hs hps hp hX;go_enter Tryz.func123,Tryz.ntmps123
 go_wp2_with (at_builtin;refine dF rfl (.tmp 39) (.tmp 40) 60 rfl _ _ rfl rfl _ _ IQ.o ?_)
 refine T1.o.mono ?_;rintro r u3 ⟨v3,rfl,qY,hb3⟩;have S2:=(bB qY hb3);clear qY hb3;go_wp2;go_ret;obtain ⟨qY,hb3⟩:=S2.o;exact ⟨v3,rfl,qY.mono (by simp;omega),S1.o.trans (((af w2 _).trans (hb3.mono aW)).mono hs2)⟩
theorem Oo {w:World}{a b:Option Addr}{n c m d:Nat}(e f:Int) (x y:Nat) (bx:x<=1125899906842624) (by':y<=1125899906842624) (hx:x=0) (z:Int)
 (H1:Hid (Calls Tryz.prog 229 #[.slice a n c] w fun r w'=>r=.returned (.int .i64 (x:Nat))/\w'=w))
 (H2:Hid (Calls Tryz.prog 229 #[.slice b m d] w fun r w'=>r=.returned (.int .i64 (y:Nat))/\w'=w))
 (HC:Hid (Calls Tryz.prog 137 #[.slice a n c,.slice b m d] w fun r w'=>r=.returned (.int .i64 z)/\Below w.heap.size w w')):Calls Tryz.prog 230 #[.slice a n c,.int .i64 e,.slice b m d,.int .i64 f] w fun r w'=>r=.returned (.int .i64 z)/\Below w.heap.size w w':=by
 have ex:IntKind.u64.wrap (x:Int)=(x:Int):=by rw [ky];omega
 have ey:IntKind.u64.wrap (y:Int)=(y:Int):=by rw [ky];omega
 subst hx;go_enter Tryz.func230,Tryz.ntmps230;go_wp2_with fail;refine H1.o.mono ?_;rintro r ww ⟨rfl,hw⟩;rw [hw];clear hw ww;go_wp2_with fail;refine H2.o.mono ?_;rintro r ww ⟨rfl,hw⟩;rw [hw];clear hw ww;go_wp2_with fail;refine HC.o.mono ?_;rintro r u1 ⟨rfl,hb⟩;have S1:=ay hb;clear hb;go_wp2;go_ret;exact ⟨rfl,S1.o⟩
theorem Oq {w:World}{a b:Option Addr}{n c m d:Nat}(e f:Int) (x y:Nat) (bx:x<=1125899906842624) (by':y<=1125899906842624) (hx:((x:Int)==0)=false) (hy:y=0) (z:Int)
 (H1:Hid (Calls Tryz.prog 229 #[.slice a n c] w fun r w'=>r=.returned (.int .i64 (x:Nat))/\w'=w))
 (H2:Hid (Calls Tryz.prog 229 #[.slice b m d] w fun r w'=>r=.returned (.int .i64 (y:Nat))/\w'=w))
 (HC:Hid (Calls Tryz.prog 137 #[.slice a n c,.slice b m d] w fun r w'=>r=.returned (.int .i64 z)/\Below w.heap.size w w')):Calls Tryz.prog 230 #[.slice a n c,.int .i64 e,.slice b m d,.int .i64 f] w fun r w'=>r=.returned (.int .i64 z)/\Below w.heap.size w w':=by
 have ex:IntKind.u64.wrap (x:Int)=(x:Int):=by rw [ky];omega
 have ey:IntKind.u64.wrap (y:Int)=(y:Int):=by rw [ky];omega
 subst hy;go_enter Tryz.func230,Tryz.ntmps230;go_wp2_with fail;refine H1.o.mono ?_;rintro r ww ⟨rfl,hw⟩;rw [hw];clear hw ww;go_wp2_with fail;refine H2.o.mono ?_;rintro r ww ⟨rfl,hw⟩;rw [hw];clear hw ww;go_wp2_with fail;refine HC.o.mono ?_;rintro r u1 ⟨rfl,hb⟩;have S1:=ay hb;clear hb;go_wp2;go_ret;exact ⟨rfl,S1.o⟩
theorem Q5 {w:World}{a b:Option Addr}{n c m d:Nat}(e f:Int) (x y:Nat) (bx:x<=1125899906842624) (by':y<=1125899906842624) (hx:((x:Int)==0)=false) (hy:((y:Int)==0)=false) (hlt:e<f) (z:Int) (hz0:-1<=z) (hz1:z<=1)
 (H1:Hid (Calls Tryz.prog 229 #[.slice a n c] w fun r w'=>r=.returned (.int .i64 (x:Nat))/\w'=w))
 (H2:Hid (Calls Tryz.prog 229 #[.slice b m d] w fun r w'=>r=.returned (.int .i64 (y:Nat))/\w'=w))
 (HR:Hid (Calls Tryz.prog 230 #[.slice b m d,.int .i64 f,.slice a n c,.int .i64 e] w fun r w'=>r=.returned (.int .i64 z)/\Below w.heap.size w w')):Calls Tryz.prog 230 #[.slice a n c,.int .i64 e,.slice b m d,.int .i64 f] w fun r w'=>r=.returned (.int .i64 (-z))/\Below w.heap.size w w':=by
 have ex:IntKind.u64.wrap (x:Int)=(x:Int):=by rw [ky];omega
 have ey:IntKind.u64.wrap (y:Int)=(y:Int):=by rw [ky];omega
 go_enter Tryz.func230,Tryz.ntmps230;go_wp2_with fail;refine H1.o.mono ?_;rintro r ww ⟨rfl,hw⟩;rw [hw];clear hw ww;go_wp2_with fail;refine H2.o.mono ?_;rintro r ww ⟨rfl,hw⟩;rw [hw];clear hw ww;go_wp2_with fail;refine HR.o.mono ?_;rintro r u1 ⟨rfl,hb⟩;have S1:=ay hb;clear hb;go_wp2;go_ret;exact ⟨rfl,S1.o⟩
theorem Ux {w:World}{a b:Option Addr}{n c m d:Nat}(e f:Int) (x y:Nat) (bx:x<=1125899906842624) (by':y<=1125899906842624) (hx:((x:Int)==0)=false) (hy:((y:Int)==0)=false) (hge:decide (e<f)=false) (dd:Nat) (hap:IntKind.u64.wrap (IntKind.u64.wrap e-IntKind.u64.wrap f)=(dd:Int)) (hd:1099511627776<dd)
 (H1:Hid (Calls Tryz.prog 229 #[.slice a n c] w fun r w'=>r=.returned (.int .i64 (x:Nat))/\w'=w))
 (H2:Hid (Calls Tryz.prog 229 #[.slice b m d] w fun r w'=>r=.returned (.int .i64 (y:Nat))/\w'=w)):Calls Tryz.prog 230 #[.slice a n c,.int .i64 e,.slice b m d,.int .i64 f] w fun r w'=>r=.returned (.int .i64 1)/\Below w.heap.size w w':=by
 have hd2:(1099511627776:Int)<(dd:Int):=ae
 have ex:IntKind.u64.wrap (x:Int)=(x:Int):=by rw [ky];omega
 have ey:IntKind.u64.wrap (y:Int)=(y:Int):=by rw [ky];omega
 go_enter Tryz.func230,Tryz.ntmps230;go_wp2_with fail;refine H1.o.mono ?_;rintro r ww ⟨rfl,hw⟩;rw [hw];clear hw ww;go_wp2_with fail;refine H2.o.mono ?_;rintro r ww ⟨rfl,hw⟩;rw [hw];clear hw ww;go_wp2;go_ret;exact ⟨rfl,ak _ _⟩
theorem Q6 {w:World}{a b:Option Addr}{n c m d:Nat}(e f:Int) (x y:Nat) (bx:x<=1125899906842624) (by':y<=1125899906842624) (hx:((x:Int)==0)=false) (hy:((y:Int)==0)=false) (hge:decide (e<f)=false) (dd:Nat) (hap:IntKind.u64.wrap (IntKind.u64.wrap e-IntKind.u64.wrap f)=(dd:Int)) (hd:dd<=1099511627776) (h1:y<x+dd)
 (H1:Hid (Calls Tryz.prog 229 #[.slice a n c] w fun r w'=>r=.returned (.int .i64 (x:Nat))/\w'=w))
 (H2:Hid (Calls Tryz.prog 229 #[.slice b m d] w fun r w'=>r=.returned (.int .i64 (y:Nat))/\w'=w)):Calls Tryz.prog 230 #[.slice a n c,.int .i64 e,.slice b m d,.int .i64 f] w fun r w'=>r=.returned (.int .i64 1)/\Below w.heap.size w w':=by
 have hd2:decide ((1099511627776:Int)<(dd:Int))=false:=decide_eq_false ae;have hd3:decide (1099511627776<dd)=false:=decide_eq_false ae;have es:IntKind.u64.wrap ((x:Int)+(dd:Int))=(x:Int)+(dd:Int):=by rw [ky];omega
 have h2:(y:Int)<(x:Int)+(dd:Int):=ae
 have ex:IntKind.u64.wrap (x:Int)=(x:Int):=by rw [ky];omega
 have ey:IntKind.u64.wrap (y:Int)=(y:Int):=by rw [ky];omega
 go_enter Tryz.func230,Tryz.ntmps230;go_wp2_with fail;refine H1.o.mono ?_;rintro r ww ⟨rfl,hw⟩;rw [hw];clear hw ww;go_wp2_with fail;refine H2.o.mono ?_;rintro r ww ⟨rfl,hw⟩;rw [hw];clear hw ww;go_wp2;go_ret;exact ⟨rfl,ak _ _⟩
theorem Q7 {w:World}{a b:Option Addr}{n c m d:Nat}(e f:Int) (x y:Nat) (bx:x<=1125899906842624) (by':y<=1125899906842624) (hx:((x:Int)==0)=false) (hy:((y:Int)==0)=false) (hge:decide (e<f)=false) (dd:Nat) (hap:IntKind.u64.wrap (IntKind.u64.wrap e-IntKind.u64.wrap f)=(dd:Int)) (hd:dd<=1099511627776) (h1:x+dd<y)
 (H1:Hid (Calls Tryz.prog 229 #[.slice a n c] w fun r w'=>r=.returned (.int .i64 (x:Nat))/\w'=w))
 (H2:Hid (Calls Tryz.prog 229 #[.slice b m d] w fun r w'=>r=.returned (.int .i64 (y:Nat))/\w'=w)):Calls Tryz.prog 230 #[.slice a n c,.int .i64 e,.slice b m d,.int .i64 f] w fun r w'=>r=.returned (.int .i64 (-1))/\Below w.heap.size w w':=by
 have hd2:decide ((1099511627776:Int)<(dd:Int))=false:=decide_eq_false ae;have hd3:decide (1099511627776<dd)=false:=decide_eq_false ae;have es:IntKind.u64.wrap ((x:Int)+(dd:Int))=(x:Int)+(dd:Int):=by rw [ky];omega
 have h2:(x:Int)+(dd:Int)<(y:Int):=ae
 have h3:decide ((y:Int)<(x:Int)+(dd:Int))=false:=decide_eq_false ae;have h4:decide (y<x+dd)=false:=decide_eq_false ae;have ex:IntKind.u64.wrap (x:Int)=(x:Int):=by rw [ky];omega
 have ey:IntKind.u64.wrap (y:Int)=(y:Int):=by rw [ky];omega
 go_enter Tryz.func230,Tryz.ntmps230;go_wp2_with fail;refine H1.o.mono ?_;rintro r ww ⟨rfl,hw⟩;rw [hw];clear hw ww;go_wp2_with fail;refine H2.o.mono ?_;rintro r ww ⟨rfl,hw⟩;rw [hw];clear hw ww;go_wp2;go_ret;exact ⟨rfl,ak _ _⟩
theorem Q8 {w:World}{a b:Option Addr}{n c m d:Nat}(e f:Int) (x y:Nat) (bx:x<=1125899906842624) (by':y<=1125899906842624) (hx:((x:Int)==0)=false) (hy:((y:Int)==0)=false) (hge:decide (e<f)=false) (dd:Nat) (hap:IntKind.u64.wrap (IntKind.u64.wrap e-IntKind.u64.wrap f)=(dd:Int)) (hd:dd<=64000000) (h1:x+dd=y) (P:Nat) (lP:(ws P).length<=35184372088832) (z:Int)
 (H1:Hid (Calls Tryz.prog 229 #[.slice a n c] w fun r w'=>r=.returned (.int .i64 (x:Nat))/\w'=w))
 (H2:Hid (Calls Tryz.prog 229 #[.slice b m d] w fun r w'=>r=.returned (.int .i64 (y:Nat))/\w'=w))
 (HM:Hid (Calls Tryz.prog 123 #[.slice a n c,.int .i64 (dd:Nat)] w fun r w'=>∃ v,r=.returned v/\Nt w.heap.size w' v P/\Below w.heap.size w w'))
 (HC:Hid (∀ u p q,Below w.heap.size w u->Arg u p (ws P).length q (ws P)->Calls Tryz.prog 137 #[.slice p (ws P).length q,.slice b m d] u fun r w'=>r=.returned (.int .i64 z)/\Below u.heap.size u w')):Calls Tryz.prog 230 #[.slice a n c,.int .i64 e,.slice b m d,.int .i64 f] w fun r w'=>r=.returned (.int .i64 z)/\Below w.heap.size w w':=by
 have hd2:decide ((1099511627776:Int)<(dd:Int))=false:=decide_eq_false ae;have hd3:decide (1099511627776<dd)=false:=decide_eq_false ae;have es:IntKind.u64.wrap ((x:Int)+(dd:Int))=(x:Int)+(dd:Int):=by rw [ky];omega
 have h2:decide ((x:Int)+(dd:Int)<(y:Int))=false:=decide_eq_false ae;have h3:decide ((y:Int)<(x:Int)+(dd:Int))=false:=decide_eq_false ae;have h4:decide (y<x+dd)=false:=decide_eq_false ae;have h5:decide (x+dd<y)=false:=decide_eq_false ae;have ed:IntKind.i64.wrap (dd:Int)=(dd:Int):=by rw [Pw];omega
 clear h1;have ex:IntKind.u64.wrap (x:Int)=(x:Int):=by rw [ky];omega
 have ey:IntKind.u64.wrap (y:Int)=(y:Int):=by rw [ky];omega
 go_enter Tryz.func230,Tryz.ntmps230;go_wp2_with fail;refine H1.o.mono ?_;rintro r ww ⟨rfl,hw⟩;rw [hw];clear hw ww;go_wp2_with fail;refine H2.o.mono ?_;rintro r ww ⟨rfl,hw⟩;rw [hw];clear hw ww;go_wp2_with fail;refine HM.o.mono ?_;rintro r u1 ⟨v,rfl,hN,hb⟩;obtain ⟨a1,c1,rfl,A1⟩:=hN.arg lP;have zF:=hid (HC.o u1 a1 c1 hb A1);have hs1:=hb.size;have S1:=ay hb;clear hN hb A1;go_wp2_with fail;refine zF.o.mono ?_;rintro r u2 ⟨rfl,hb⟩;have S2:=ay (S1.o.trans (hb.mono hs1));clear hb;go_wp2;go_ret;exact ⟨rfl,S2.o⟩
def Tj (X:Nat) (e:Int) (Y:Nat) (f:Int):Int:=if X=0\/Y=0 then bE X Y else rH X e Y f
theorem vQ {w:World}{a b:Option Addr}{n c m d:Nat}{xs ys:List Nat}(h1:Arg w a n c xs) (h2:Arg w b m d ys) (hn:n<=2000000) (hm:m<=2000000) (e f:Int) (he0:-9223372036854775808<=e) (he1:e<=9223372036854775807) (hf0:-9223372036854775808<=f) (hf1:f<=9223372036854775807) (h:f<=e) (hX:val xs≠0) (hY:val ys≠0) :
 Calls Tryz.prog 230 #[.slice a n c,.int .i64 e,.slice b m d,.int .i64 f] w fun r w'=>r=.returned (.int .i64 (rH (val xs) e (val ys) f))/\Below w.heap.size w w':=by
 have b1:=h1.big;have b2:=h2.big;have L1:=hid (nD xs a n c w.heap.size w h1.len ae h1.wf h1.rd);have L2:=hid (nD ys b m d w.heap.size w h2.len ae h2.wf h2.rd);have x0:(((bl (val xs):Nat):Int)==0)=false:=by have:=dL _ hX;simp;omega
 have y0:(((bl (val ys):Nat):Int)==0)=false:=by have:=dL _ hY;simp;omega
 have hap:=Kh e f he0 he1 hf0 hf1 h;have hge:decide (e<f)=false:=decide_eq_false ae;have c1:=EY h1
 have c2:bl (val ys)<=64000000:=by
  have:=cK ys h2.wf;rw [<-h2.len] at this;have:=MG _ _ this;omega
 unfold rH;rw [if_neg ae];obtain ⟨dd,hdd⟩:∃ dd,(e-f).toNat=dd:=⟨_,rfl⟩;rw [hdd] at hap |-;have hb:=Ch (val xs) dd hX
 by_cases k1:1099511627776<dd
 · have:bE (val xs*2^dd) (val ys)=1:=by
    rw [zD ae,hb];unfold bE;rw [if_neg ae,if_pos ae]
   rw [this];exact Ux e f _ _ c1 ae x0 y0 hge dd hap k1 L1 L2
 · by_cases k2:bl (val ys)<bl (val xs)+dd
   · have:bE (val xs*2^dd) (val ys)=1:=by
      rw [zD ae,hb];unfold bE;rw [if_neg ae,if_pos ae]
     rw [this];exact Q6 e f _ _ c1 ae x0 y0 hge dd hap ae k2 L1 L2
   · by_cases k3:bl (val xs)+dd<bl (val ys)
     · have:bE (val xs*2^dd) (val ys)=-1:=by
        rw [zD ae,hb];unfold bE;rw [if_pos ae]
       rw [this];exact Q7 e f _ _ c1 ae x0 y0 hge dd hap ae k3 L1 L2
     · have lP:(ws (val xs*2^dd)).length<=35184372088832:=by rw [gW,hb];omega
       obtain ⟨P,hP⟩:∃ P,val xs*2^dd=P:=⟨_,rfl⟩;have HM:=hid (Kq (X:=val xs) dd h1 rfl hn ae);rw [hP] at HM lP |-;exact Q8 e f _ _ c1 ae x0 y0 hge dd hap ae ae P lP _ L1 L2 HM (hid fun u p q hu hA=>jH hA (h2.below hu) _ (by rw [ax]))
theorem Cs {w:World}{a b:Option Addr}{n c m d:Nat}{xs ys:List Nat}(h1:Arg w a n c xs) (h2:Arg w b m d ys) (hn:n<=2000000) (hm:m<=2000000) (e f:Int) (he0:-9223372036854775808<=e) (he1:e<=9223372036854775807) (hf0:-9223372036854775808<=f) (hf1:f<=9223372036854775807) :
 Calls Tryz.prog 230 #[.slice a n c,.int .i64 e,.slice b m d,.int .i64 f] w fun r w'=>r=.returned (.int .i64 (Tj (val xs) e (val ys) f))/\Below w.heap.size w w':=by
 have b1:=h1.big;have b2:=h2.big;have L1:=hid (nD xs a n c w.heap.size w h1.len ae h1.wf h1.rd);have L2:=hid (nD ys b m d w.heap.size w h2.len ae h2.wf h2.rd);have c1:=EY h1;have c2:=EY h2;unfold Tj
 by_cases hX:val xs=0
 · rw [if_pos (.inl hX)];exact Oo e f _ _ c1 c2 (by rw [hX,dJ]) _ L1 L2 (hid (jH h1 h2 _ rfl))
 · have x0:(((bl (val xs):Nat):Int)==0)=false:=by have:=dL _ hX;simp;omega
   by_cases hY:val ys=0
   · rw [if_pos (.inr hY)];exact Oq e f _ _ c1 c2 x0 (by rw [hY,dJ]) _ L1 L2 (hid (jH h1 h2 _ rfl))
   · have y0:(((bl (val ys):Nat):Int)==0)=false:=by have:=dL _ hY;simp;omega
     rw [if_neg (fun h=>h.elim hX hY)]
     by_cases h:e<f
     · have hr:=EX (val ys) f (val xs) e;have:=Q5 e f _ _ c1 c2 x0 y0 h (rH (val ys) f (val xs) e) ae ae L1 L2 (hid (vQ h2 h1 hm hn f e hf0 hf1 he0 he1 ae hY hX));rw [Oe] at this;exact this
     · exact vQ h1 h2 hn hm e f he0 he1 hf0 hf1 ae hX hY
theorem Xu (X:Nat) (e:Int) (Y:Nat) (f B:Int) (h1:B<=e) (h2:B<=f):Tj X e Y f=jg ((X*2^(e-B).toNat:Nat):Int) ((Y*2^(f-B).toNat:Nat):Int):=by
 rw [Og];unfold Tj
 by_cases h:X=0\/Y=0
 · rw [if_pos h];have p1:=Ho X (e-B).toNat;have p2:=Ho Y (f-B).toNat;generalize X*2^(e-B).toNat=P at p1 |-;generalize Y*2^(f-B).toNat=Q at p2 |-
   have q1:X=0/\P=0\/X≠0/\P≠0:=by
    by_cases h:X=0
    · exact .inl ⟨h,p1.2 h⟩
    · exact .inr ⟨h,fun k=>h (p1.1 k)⟩
   have q2:Y=0/\Q=0\/Y≠0/\Q≠0:=by
    by_cases h:Y=0
    · exact .inl ⟨h,p2.2 h⟩
    · exact .inr ⟨h,fun k=>h (p2.1 k)⟩
   clear p1 p2;unfold bE;rcases h with h|h
   · rcases q1 with ⟨a,b⟩ | ⟨a,b⟩
     · rcases q2 with ⟨c,d⟩ | ⟨c,d⟩
       · rw [a,b,c,d]
       · rw [a,b,if_pos ae,if_pos ae]
     · exact absurd h a
   · rcases q2 with ⟨c,d⟩ | ⟨c,d⟩
     · rcases q1 with ⟨a,b⟩ | ⟨a,b⟩
       · rw [a,b,c,d]
       · rw [c,d,if_neg ae,if_pos ae,if_neg ae,if_pos ae]
     · exact absurd h c
 · rw [if_neg h];exact Kl X e Y f B h1 h2
theorem Ot (k:Nat) (B:Int) (hB:B<=-1074):(gK k).1*2^((gK k).2-B).toNat=vK k*2^(-1074-B).toNat/\(gK k).1<9007199254740992/\B<=(gK k).2/\((gK k).1=0↔k=0):=by
 unfold gK
 by_cases h:k/4503599627370496=0
 · rw [if_pos h];refine ⟨?_,by simp only;omega,by simp only;omega,by simp only;omega⟩;simp only;have:=iQ 0 k (.inl rfl) ae;rw [dZ,dI,fG,dU] at this;rw [this,show k%4503599627370496=k by omega]
 · rw [if_neg h];obtain ⟨q,hq⟩:∃ q,k/4503599627370496=q:=⟨_,rfl⟩;obtain ⟨f,hf⟩:∃ f,k%4503599627370496=f:=⟨_,rfl⟩;rw [hq,hf];refine ⟨?_,by simp only;omega,by simp only;omega,by simp only;omega⟩;simp only;have:=iQ (q-1) (4503599627370496+f) (.inr ae) ae;rw [show (q-1)*4503599627370496+(4503599627370496+f)=k by omega] at this;rw [this,aU,<-aR,show (-1074+(q:Int)-1-B).toNat=q-1+(-1074-B).toNat by omega]
end
section
open Go.RowKit J
theorem Uy (s:Bool) (v:Nat):o7 s*(v:Int)=B.sg s v:=by unfold o7 B.sg;cases s <;> simp
theorem Ou (K:Nat) (hK:K<9218868437227405312) (a:Nat) (ha:a=2045):vK K<9007199254740992*2^a:=by
 have h:=iQ a 9007199254740992 (.inr ae) ae;have h2:a*4503599627370496+9007199254740992=9218868437227405312:=by rw [ha]
 rw [<-h,h2];exact Tg.2 hK
theorem Xv (s:Bool) (K:Nat) (hK:K<9218868437227405312):∃ n X e,Uv s K=some (n,X,e)/\Fo (some (n,X,e)) (B.sg s (vK K)*(UU:Int)) (-1074) 1024/\(X=0↔K=0):=by
 obtain ⟨n,X,e,h1,F,h2,h3,h4⟩:=Q0 s K hK;refine ⟨n,X,e,h1,⟨n,X,e,rfl,F,?_,?_⟩,h3⟩
 · obtain ⟨a,ha⟩:∃ a:Nat,(-1074 - -2097152:Int).toNat=a:=⟨_,rfl⟩;have h5:=h4 (-2097152) ae;rw [ha] at h5;rw [h5,US a ae,fq,fq,<-kN,<-kN,Uy]
 · by_cases hX:X=0
   · exact .inl hX
   · right
     have ho:=QZ F hX;have hd:=F.down
     -- in units of the form's own place
     have h5:=h4 (min e (-1074)) ae;unfold zv at h5;simp only at h5;rw [h2 hX] at h5
     have h6:X*2^(e-min e (-1074)).toNat=vK K*2^(-1074-min e (-1074)).toNat:=by
      unfold o7 at h5
      cases s
      · simp only [fw,if_false,Int.one_mul] at h5;exact_mod_cast h5
      · simp only [if_true] at h5;have:=Int.eq_of_mul_eq_mul_left aO h5;exact_mod_cast this
     have he:-1074<=e:=by
      apply Int.le_of_not_gt;intro hlt;rw [show (e-min e (-1074)).toNat=0 by omega,fG,dU] at h6;obtain ⟨q,hq⟩:∃ q,(-1074-min e (-1074)).toNat=q+1:=⟨(-1074-min e (-1074)).toNat-1,ae⟩;rw [hq,dS,<-aU] at h6;omega
     refine ⟨he,?_⟩;rw [show (-1074-min e (-1074)).toNat=0 by omega,fG,dU] at h6;obtain ⟨q,hq⟩:∃ q,(e-min e (-1074)).toNat=q:=⟨_,rfl⟩;rw [hq] at h6;obtain ⟨c,hc⟩:∃ c:Nat,c=2045:=⟨_,rfl⟩;have h7:=Ou K hK c hc;have h8:=iG X hX;have h9:=dL X hX;obtain ⟨b,hb⟩:∃ b,bl X=b+1:=⟨bl X-1,ae⟩;rw [hb,lg] at h8;have h10:2^b*2^q<9007199254740992*2^c:=iy (gF _ h8) (by rw [h6];exact h7);rw [<-aR,show (9007199254740992:Nat)=2^53 from rfl,<-aR] at h10;have h11:=(jP (by decide:1<2)).1 h10;omega
theorem Xw (s:Bool) (v:Nat):(B.sg s v).natAbs=v:=by unfold B.sg;cases s <;> simp
abbrev Wd (x:Nat):Prop:=x<18446744073709551616
abbrev jC (x:Nat):Prop:=eu x<9218868437227405312
def dm (x:Nat):Int:=B.sg (iO x) (vK (eu x))
theorem Uz (s:Bool) (v:Nat):(B.sg s v).natAbs=v:=Xw s v
theorem ym {x:Nat}(hx:x<18446744073709551616) (fx:jC x):SX x=iO x/\vK (eu x)=ve x*2^(Dq x+1074).toNat/\-1074<=Dq x/\((o6 x=0/\ve x=0)\/((o6 x=1\/o6 x=2)/\ve x≠0)):=by
 have hm:eu x=eW x*4503599627370496+fW x:=by unfold eu eW fW;omega
 have he:eW x<2047:=by have h:eu x<9218868437227405312:=fx;omega
 have hf:fW x<4503599627370496:=jl _ aO;refine ⟨by unfold SX B.ng;rw [if_neg ae];rfl,?_⟩
 by_cases h0:eW x=0
 · have hfr:ve x=fW x:=by unfold ve B.fr;rw [if_neg ae,if_pos h0];simp
   have hxp:Dq x=-1074:=by unfold Dq B.xp;rw [if_neg ae,if_pos h0]
   have hv:vK (eu x)=fW x:=by
    have:=iQ 0 (fW x) (.inl rfl) ae;rw [hm,h0];simpa using this
   refine ⟨by rw [hv,hfr,hxp];simp,ae,?_⟩
   by_cases hz:fW x=0
   · exact .inl ⟨by unfold o6 B.cls;rw [if_neg ae,if_pos h0,if_pos hz],ae⟩
   · exact .inr ⟨.inl (by unfold o6 B.cls;rw [if_neg ae,if_pos h0,if_neg hz]),ae⟩
 · have hfr:ve x=fW x+4503599627370496:=by unfold ve B.fr;rw [if_neg ae,if_neg h0];omega
   have hxp:Dq x=(eW x:Int)-1075:=by unfold Dq B.xp;rw [if_neg ae,if_neg h0]
   have hv:vK (eu x)=(fW x+4503599627370496)*2^(eW x-1):=by
    have:=iQ (eW x-1) (fW x+4503599627370496) (.inr ae) ae;rw [<-this,hm,show eW x*4503599627370496+fW x=(eW x-1)*4503599627370496+(fW x+4503599627370496) by omega]
   refine ⟨by rw [hv,hfr,hxp,show ((eW x:Int)-1075+1074).toNat=eW x-1 by omega],ae,.inr ⟨.inr (by unfold o6 B.cls;rw [if_neg ae,if_neg h0]),ae⟩⟩
theorem Q9 (a b:Bool) (f g i j:Nat):kD (!(a==b)) (f*g*2^(i+j))=B.sg a (f*2^i)*B.sg b (g*2^j):=by
 have e:f*g*2^(i+j)=(f*2^i)*(g*2^j):=by
  rw [aR,sH]
 rw [e];generalize f*2^i=P;generalize g*2^j=Q;unfold kD B.sg
 cases a <;> cases b <;> simp [Int.neg_mul,Int.mul_neg]
theorem Ov {x y:Nat}(hx:x<18446744073709551616) (hy:y<18446744073709551616) (fx:jC x) (fy:jC y):pT x y=dm x*dm y/\(pK x y=0\/pK x y=4\/pK x y=5):=by
 obtain ⟨n1,v1,x1,c1⟩:=ym hx fx;obtain ⟨n2,v2,x2,c2⟩:=ym hy fy;unfold pT pK dm;rw [n1,n2,v1,v2]
 by_cases hz:o6 x=0\/o6 y=0
 · have hmin:min (o6 x) (o6 y)=0:=ae
   have hmax:max (o6 x) (o6 y)<=2:=ae
   have hpk:pk (max (o6 x) (o6 y)) (min (o6 x) (o6 y)) (!iO x==iO y)=4\/pk (max (o6 x) (o6 y)) (min (o6 x) (o6 y)) (!iO x==iO y)=5:=by
    unfold pk;rw [hmin,if_neg ae,if_neg ae,if_pos rfl]
    split
    · exact .inl rfl
    · exact .inr rfl
   refine ⟨?_,.inr hpk⟩;rw [pF ae];rcases c1 with ⟨_,f1⟩|⟨k1,_⟩
   · rw [f1];simp [B.sg]
   · rcases c2 with ⟨_,f2⟩ | ⟨k2,_⟩
     · rw [f2];simp [B.sg]
     · omega
 · have hpk:pk (max (o6 x) (o6 y)) (min (o6 x) (o6 y)) (!iO x==iO y)=0:=by
    unfold pk;rw [if_neg ae,if_neg ae,if_neg ae]
   refine ⟨?_,.inl hpk⟩;rw [GG hpk,show (Dq x+Dq y+2148).toNat=(Dq x+1074).toNat+(Dq y+1074).toNat by omega];have e:(!iO x==iO y)=!(iO x==iO y):=by cases iO x <;> cases iO y <;> rfl
   rw [e];exact Q9 _ _ _ _ _ _
end
section
open Go.RowKit
theorem iW {n a b:Nat}(hn:0<n):a^n<b^n↔a<b:=Nat.pow_lt_pow_iff_left ae
theorem Ct {n a b:Nat}(hn:0<n):a^n=b^n↔a=b:=by
 constructor
 · intro h;rcases mY a b with k|k|k
   · have:=(iW hn).2 k;omega
   · exact k
   · have:=(iW hn).2 k;omega
 · intro h;rw [h]
structure Ow (v:Nat->Nat) (top:Nat):Prop where
 one:1<top
 zero:v 0=0
 mono:∀ {k l},k<l->v k<v l
 step:∀ k,k<top->∃ c j,v k=c*2^j/\v (k+1)=(c+1)*2^j/\c<9007199254740992/\j<=2045
structure iP (v:Nat->Nat) (top n:Nat) (K:Nat) (t:Bool) (m:Int) (V S:Nat):Prop where
 fin:K<top
 pos:0<S
 one:t=true->V=v K^n*S
 low:t=false->v K^n*S<V
 QX:t=false->V<v (K+1)^n*S->(m=-1/\2^n*V<(v K+v (K+1))^n*S\/m=0/\2^n*V=(v K+v (K+1))^n*S\/m=1/\(v K+v (K+1))^n*S<2^n*V)
 high:t=false->V<v (K+1)^n*S\/(K+1=top/\m=1)
def Alike (n P Q V S:Nat):Prop:=∀ c j,c<=18014398509481984->j<=2046->((c*2^j)*Q<2*P↔(c*2^j)^n*S<2^n*V)/\((c*2^j)*Q=2*P↔(c*2^j)^n*S=2^n*V)
theorem tC (n a S V:Nat):((2*a)^n*S<2^n*V↔a^n*S<V)/\((2*a)^n*S=2^n*V↔a^n*S=V):=by
 have h:(2*a)^n*S=2^n*(a^n*S):=by rw [xA,aU]
 have hp:0<2^n:=bK n;rw [h];exact ⟨Nat.mul_lt_mul_left hp,⟨fun h=>Nat.eq_of_mul_eq_mul_left hp h,fun h=>by rw [h]⟩⟩
theorem iP.Ox {v:Nat->Nat}{top n K:Nat}{t:Bool}{m:Int}{P Q V S:Nat}(G:Ow v top) (hn:0<n) (h:iP v top 1 K t m P Q) (hS:0<S) (hA:Alike n P Q V S):iP v top n K t m V S:=by
 obtain ⟨c,j,e1,e2,hc,hj⟩:=G.step K h.fin;have a1:=hA (2*c) j ae ae;have a2:=hA (2*(c+1)) j ae ae;have a3:=hA (2*c+1) j ae ae;have g1:2*c*2^j=2*v K:=by rw [e1,aU]
 have g2:2*(c+1)*2^j=2*v (K+1):=by rw [e2,aU]
 have g3:(2*c+1)*2^j=v K+v (K+1):=by rw [e1,e2,<-fU];congr 1;omega
 rw [g1] at a1;rw [g2] at a2;rw [g3] at a3;have b1:=tC n (v K) S V;have b2:=tC n (v (K+1)) S V;rw [b1.1,b1.2] at a1;rw [b2.1,b2.2] at a2;have d1:2*v K*Q=2*(v K*Q):=aU _ _ _;have d2:2*v (K+1)*Q=2*(v (K+1)*Q):=aU _ _ _;rw [d1] at a1;rw [d2] at a2;have h1:=h.one;have h2:=h.low;have h3:=h.QX;have h4:=h.high;simp only [ku] at h1 h2 h3 h4;generalize v K*Q=A at *;generalize v (K+1)*Q=B at *;generalize (v K+v (K+1))*Q=C at *
 have ge:∀ {x y x' y':Nat},((x<y↔x'<y')/\(x=y↔x'=y'))->(y<x↔y'<x'):=by
  intro x y x' y' ⟨p,q⟩;constructor
  · intro hh;rcases mY x' y' with k|k|k
    · have:=p.2 k;omega
    · have:=q.2 k;omega
    · exact k
  · intro hh;rcases mY x y with k|k|k
    · have:=p.1 k;omega
    · have:=q.1 k;omega
    · exact k
 have a2':=ge a2;have a3':=ge a3;refine ⟨h.fin,hS,fun ht=>?_,fun ht=>?_,fun ht hlt=>?_,fun ht=>?_⟩
 · have:=h1 ht;exact (a1.2.1 ae).symm
 · exact a1.1.1 (by have:=h2 ht;omega)
 · have hb:P<B:=by have:=a2'.2 hlt;omega
   rcases h3 ht hb with ⟨q,r⟩|⟨q,r⟩|⟨q,r⟩
   · exact .inl ⟨q,a3'.1 r⟩
   · exact .inr (.inl ⟨q,(a3.2.1 r.symm).symm⟩)
   · exact .inr (.inr ⟨q,a3.1.1 r⟩)
 · rcases h4 ht with q | q
   · exact .inl (a2'.1 ae)
   · exact .inr q
theorem E5 (n R p q V S d:Nat) (hn:0<n) (hS:0<S) (hR:9007199254740992<=R) (hd:d<=1)
 (h0:d=0->V*(2^q)^n=(R*2^p)^n*S) (h1:d=1->(R*2^p)^n*S<V*(2^q)^n/\V*(2^q)^n<((R+1)*2^p)^n*S) :
 Alike n ((2*R+d)*2^p) (2*2^q) V S:=by
 intro c j hc hj;have hq:0<(2^q)^n:=si (bK q)
 -- both sides times 2^q
 have f1:(c*2^j)^n*S<2^n*V↔(c*2^(j+q))^n*S<2^n*(V*(2^q)^n):=by
  rw [<-mI hq]
  have:(c*2^j)^n*S*(2^q)^n=(c*2^(j+q))^n*S:=by
   rw [xz,<-xA,aU c,<-aR]
  rw [this,aU]
 have f2:(c*2^j)^n*S=2^n*V↔(c*2^(j+q))^n*S=2^n*(V*(2^q)^n):=by
  have e:(c*2^j)^n*S*(2^q)^n=(c*2^(j+q))^n*S:=by
   rw [xz,<-xA,aU c,<-aR]
  rw [<-e,<-aU (2^n)];exact ⟨fun h=>by rw [h],fun h=>oU hq h⟩
 have f3:c*2^j*(2*2^q)=2*(c*2^(j+q)):=by rw [aR,<-aU c,Nat.mul_left_comm]
 rw [f1,f2,f3];generalize V*(2^q)^n=U at *;have g0:∀ a:Nat,(2*a)^n*S=2^n*(a^n*S):=fun a=>by rw [xA,aU]
 have hp2:0<2^n:=bK n;have hlt2:(c*2^(j+q)<(2*R+d)*2^p↔2*(c*2^(j+q))<2*((2*R+d)*2^p)):=ae
 have heq2:(c*2^(j+q)=(2*R+d)*2^p↔2*(c*2^(j+q))=2*((2*R+d)*2^p)):=ae
 rw [<-hlt2,<-heq2]
 -- powers times S
 have L:∀ a b:Nat,(a^n*S<b^n*S↔a<b):=fun a b=>by rw [mI hS,iW hn]
 have E:∀ a b:Nat,(a^n*S=b^n*S↔a=b):=fun a b=>⟨fun h=>(Ct hn).1 (oU hS h),fun h=>by rw [h]⟩;rcases jO d with hd0|hd1
 · subst hd0;have hU:=h0 rfl;have k1:(2*(R*2^p))^n*S=2^n*U:=by rw [g0,<-hU]
   have k2:(2*R+0)*2^p=2*(R*2^p):=by rw [iw,aU]
   rw [k2,<-k1,L,E];exact ⟨Iff.rfl,Iff.rfl⟩
 · obtain rfl:d=1:=ae
   obtain ⟨u1,u2⟩:=h1 rfl;have k1:(2*(R*2^p))^n*S<2^n*U:=by rw [g0];exact w9 u1 hp2
   have k2:2^n*U<(2*((R+1)*2^p))^n*S:=by rw [g0];exact w9 u2 hp2
   have below:∀ x,x<=2*(R*2^p)->(x<(2*R+1)*2^p↔x^n*S<2^n*U)/\(x=(2*R+1)*2^p↔x^n*S=2^n*U):=by
    intro x hx
    have y1:x<(2*R+1)*2^p:=by
     have:=bK p;rw [fU,aU,iq];omega
    have y2:x^n*S<2^n*U:=by
     refine iy ?_ k1;exact gF _ (Nat.pow_le_pow_left hx n)
    exact ⟨⟨fun _=>y2,fun _=>y1⟩,⟨fun h=>by omega,fun h=>by omega⟩⟩
   have above:∀ x,2*((R+1)*2^p)<=x->(x<(2*R+1)*2^p↔x^n*S<2^n*U)/\(x=(2*R+1)*2^p↔x^n*S=2^n*U):=by
    intro x hx
    have y1:(2*R+1)*2^p<x:=by
     have:=bK p;refine iF ?_ hx;rw [<-aU];exact fM ae this
    have y2:2^n*U<x^n*S:=by
     refine iF k2 ?_;exact gF _ (Nat.pow_le_pow_left hx n)
    exact ⟨⟨fun h=>by omega,fun h=>by omega⟩,⟨fun h=>by omega,fun h=>by omega⟩⟩
   by_cases hjp:p<j+q
   · obtain ⟨i,hi⟩:∃ i,j+q=i+1+p:=⟨j+q-1-p,ae⟩
     have e:c*2^(j+q)=2*((c*2^i)*2^p):=by
      rw [hi,aR,dS,<-aU,<-aU,dh (c*2^i) 2,aU 2]
     rw [e];rcases mH R (c*2^i) with k|k
     · exact above _ (fu _ (gF _ k))
     · exact below _ (fu _ (gF _ k))
   · refine below _ ?_
     calc c*2^(j+q)<=18014398509481984*2^p:=kM hc (fE aO ae)
      _<=(2*R)*2^p:=gF _ ae
      _=2*(R*2^p):=aU _ _ _
theorem Kr (n P Q V S:Nat) (hn:0<n) (hP:∀ c j,c<=18014398509481984->j<=2046->c*2^j*Q<2*P) (hV:∀ c j,c<=18014398509481984->j<=2046->(c*2^j)^n*S<2^n*V):Alike n P Q V S:=by
 intro c j hc hj;have h1:=hP c j hc hj;have h2:=hV c j hc hj;exact ⟨⟨fun _=>h2,fun _=>h1⟩,⟨fun h=>by omega,fun h=>by omega⟩⟩
theorem E8 (n P Q V S:Nat) (hn:0<n) (hP0:0<P) (hV0:0<V) (hS:0<S) (hP:2*P<Q) (hV:2^n*V<S):Alike n P Q V S:=by
 intro c j hc hj;rcases jO (c*2^j) with h0|h0
 · rw [h0,dZ,Nat.zero_pow hn,dZ];have:=jm (bK n) hV0;exact ⟨⟨fun _=>this,fun _=>by omega⟩,⟨fun h=>by omega,fun h=>by omega⟩⟩
 · have h1:Q<=c*2^j*Q:=uF _ h0;have h2:S<=(c*2^j)^n*S:=uF _ (si h0);exact ⟨⟨fun h=>by omega,fun h=>by omega⟩,⟨fun h=>by omega,fun h=>by omega⟩⟩
def Ra (x y:Nat):Int:=if x<y then -1 else if y<x then 1 else 0
theorem iP.doc {v:Nat->Nat}{top n K:Nat}{t:Bool}{m:Int}{V S:Nat}(G:Ow v top) (hn:0<n) (h:iP v top n K t m V S) (k:Nat) (hk:k<top) (h1:v k^n*S<=V) (h2:k+1=top\/V<v (k+1)^n*S) :
 k=K/\t=decide (V=v K^n*S)/\(t=false->m=Ra (2^n*V) ((v K+v (K+1))^n*S)):=by
 have L:∀ {a b:Nat},a<b->v a^n*S<v b^n*S:=fun {a b} q=>fM ((iW hn).2 (G.mono q)) h.pos
 have Le:∀ {a b:Nat},a<=b->v a^n*S<=v b^n*S:=fun {a b} q=>by
  rcases mH a b with k|k
  · exact jN (L k)
  · rw [show a=b by omega];exact aH _
 have hge:v K^n*S<=V:=by
  cases ht:t
  · exact jN (h.low ht)
  · rw [h.one ht];exact aH _
 have hfin:=h.fin
 have hkK:k=K:=by
  rcases mY k K with q|q|q
  · exfalso;rcases h2 with e|e
    · omega
    · have:=Le (show k+1<=K by omega);omega
  · exact q
  · exfalso;have a1:=Le (show K+1<=k by omega);have a2:=L (show K<K+1 by omega)
    cases t with
    | true=>have:=h.one rfl;omega
    | false =>
      rcases h.high rfl with e|e
      · omega
      · omega
 subst hkK;refine ⟨rfl,?_,?_⟩
 · cases t with
   | true=>exact (decide_eq_true (h.one rfl)).symm
   | false=>have:=h.low rfl;exact (decide_eq_false ae).symm
 · intro ht
   by_cases hb:V<v (k+1)^n*S
   · have hm:=h.QX ht hb;generalize 2^n*V=V2 at *;generalize (v k+v (k+1))^n*S=C at *;unfold Ra;rcases hm with ⟨e,q⟩|⟨e,q⟩|⟨e,q⟩
     · rw [if_pos q,e]
     · rw [if_neg ae,if_neg ae,e]
     · rw [if_neg ae,if_pos q,e]
   · rcases h.high ht with e | ⟨_,e⟩
     · exact absurd e hb
     · have hmid:(v k+v (k+1))^n*S<2^n*V:=by
        have q1:v k+v (k+1)<2*v (k+1):=by have:=G.mono (show k<k+1 by omega);omega
        have q2:(v k+v (k+1))^n*S<(2*v (k+1))^n*S:=fM ((iW hn).2 q1) h.pos;rw [xA,aU] at q2;have q3:=fu (2^n) (yD hb);omega
       unfold Ra;rw [if_neg ae,if_pos hmid,e]
theorem qE (a b i k i' k':Nat) (h:i'+k=k'+i):a*2^i<b*2^k↔a*2^i'<b*2^k':=by
 rcases Nat.le_total i i' with q|q
 · obtain ⟨d,rfl⟩:∃ d,i'=i+d:=⟨i'-i,ae⟩;obtain rfl:k'=k+d:=ae
   rw [aR,aR,<-aU,<-aU,mI (bK d)]
 · obtain ⟨d,rfl⟩:∃ d,i=i'+d:=⟨i-i',ae⟩;obtain rfl:k=k'+d:=ae
   rw [aR,aR,<-aU,<-aU,mI (bK d)]
theorem Oy (a b i k i' k':Nat) (h:i'+k=k'+i):a*2^i=b*2^k↔a*2^i'=b*2^k':=by
 have h1:=qE a b i k i' k' h;have h2:=qE b a k i k' i' ae;generalize a*2^i=A at *;generalize a*2^i'=A' at *;generalize b*2^k=B at *;generalize b*2^k'=B' at *;constructor
 · intro e;rcases mY A' B' with q | q | q
   · have:=h1.2 q;omega
   · exact q
   · have:=h2.2 q;omega
 · intro e;rcases mY A B with q | q | q
   · have:=h1.1 q;omega
   · exact q
   · have:=h2.1 q;omega
def fI (Y size:Nat):Nat:=bl Y+size-262144
def ja (Y size:Nat):Nat:=Y/2^fI Y size
def l6 (X Y size:Nat):Int:=(bl (ja Y size):Int)+size-bl X
def oF (X Y size:Nat):Nat:=if l6 X Y size<0 then X/2^(-l6 X Y size).toNat else X*2^(l6 X Y size).toNat
def lI (X Y size:Nat):Nat:=oF X Y size/ja Y size
def oG (X Y size:Nat):Nat:=oF X Y size%ja Y size
def Cu (Y size:Nat):Nat:=Y-ja Y size*2^fI Y size
def pI (X Y size:Nat):Nat:=oG X Y size*2^fI Y size
def nK (X Y size:Nat):Nat:=lI X Y size*Cu Y size
def jb (X Y size:Nat):Nat:=if pI X Y size<nK X Y size then lI X Y size-1 else lI X Y size
def uy (X Y size:Nat):Bool:=decide (pI X Y size=nK X Y size)&&decide (0<=l6 X Y size)
structure Xx (X Y size:Nat):Prop where
 one:uy X Y size=true->X*2^((l6 X Y size).toNat+fI Y size)=jb X Y size*Y*2^(-l6 X Y size).toNat
 low:uy X Y size=false->jb X Y size*Y*2^(-l6 X Y size).toNat<X*2^((l6 X Y size).toNat+fI Y size)
 high:uy X Y size=false->X*2^((l6 X Y size).toNat+fI Y size)<(jb X Y size+1)*Y*2^(-l6 X Y size).toNat
 least:X≠0->2^(size-1)<=jb X Y size+1
 most:jb X Y size<2^(size+1)
 less:pI X Y size<nK X Y size->1<=lI X Y size
 hig:ja Y size≠0
 low':ja Y size*2^fI Y size<=Y
 Xy:Cu Y size<2^fI Y size
 w0:lI X Y size<2^(size+1)
 UA:bl (ja Y size)=bl Y-fI Y size
 rJ:oF X Y size<2^(bl (ja Y size)+size)
 lef:oG X Y size<ja Y size
theorem Kt {X k:Nat}(h1:2^k<=X) (h2:X<2^(k+1)):bl X=k+1:=by
 have h0:X≠0:=by have:=bK k;omega
 have a:=iL X;have b:=iG X h0;have c:=dL X h0;have d1:=(jP (a:=2) aO).1 (iy h1 a);have d2:=(jP (a:=2) aO).1 (iy b h2);omega
theorem kH (X Y size:Nat) (hX:X=0\/X%2=1) (hY:Y≠0) (hs0:1<=size) (hs:size<=1000) (hbX:bl X<=262144) (hbY:bl Y<=262144):Xx X Y size:=by
 obtain ⟨cut,wU⟩:∃ c,fI Y size=c:=⟨_,rfl⟩;obtain ⟨H,eH⟩:∃ c,ja Y size=c:=⟨_,rfl⟩;have Zo:Y/2^cut=H:=by rw [<-eH,<-wU];rfl
 have hD:0<2^cut:=bK cut;have hYlt:=iL Y;have Xz:=iG Y hY;have hYpos:=dL Y hY;have hcut:cut<bl Y/\(0<cut->cut=bl Y+size-262144):=by unfold fI at wU;omega
 have hH1:2^(bl Y-1-cut)<=H:=by
  rw [<-Zo,Ar hD,<-aR,show bl Y-1-cut+cut=bl Y-1 by omega];exact Xz
 have hH2:H<2^(bl Y-1-cut+1):=by
  rw [<-Zo,uC hD,<-aR,show bl Y-1-cut+1+cut=bl Y by omega];exact hYlt
 have hblH:bl H=bl Y-cut:=by rw [Kt hH1 hH2];omega
 have hH0:0<H:=iF (bK _) hH1;have hHD:H*2^cut<=Y:=by rw [<-Zo];exact Nat.div_mul_le_self _ _
 have hYdm:H*2^cut+Y%2^cut=Y:=by rw [<-Zo,dh];exact oJ Y _
 have Z4:=jl Y hD;obtain ⟨Lo,eLo⟩:∃ c,Cu Y size=c:=⟨_,rfl⟩;have eLo':Y-H*2^cut=Lo:=by rw [<-eLo];unfold Cu;rw [eH,wU]
 have hLo:Lo<2^cut:=ae
 have hYs:Y=H*2^cut+Lo:=ae
 obtain ⟨b,eb⟩:∃ b,l6 X Y size=b:=⟨_,rfl⟩;have eb':(bl H:Int)+size-bl X=b:=by rw [<-eb];unfold l6;rw [eH]
 obtain ⟨rJ,Rb⟩:∃ c,oF X Y size=c:=⟨_,rfl⟩;have vR:(if b<0 then X/2^(-b).toNat else X*2^b.toNat)=rJ:=by rw [<-Rb];unfold oF;rw [eb]
 obtain ⟨W0,XA⟩:∃ c,lI X Y size=c:=⟨_,rfl⟩;have UB:rJ/H=W0:=by rw [<-XA];unfold lI;rw [Rb,eH]
 obtain ⟨Lf,eLf⟩:∃ c,oG X Y size=c:=⟨_,rfl⟩;have XB:rJ%H=Lf:=by rw [<-eLf];unfold oG;rw [Rb,eH]
 have Td:H*W0+Lf=rJ:=by rw [<-UB,<-XB];exact oJ rJ H
 have hLf:Lf<H:=by rw [<-XB];exact jl _ hH0
 have Rc:pI X Y size=Lf*2^cut:=by unfold pI;rw [eLf,wU]
 have Re:nK X Y size=W0*Lo:=by unfold nK;rw [XA,eLo]
 have hXlt:=iL X
 have Oz:rJ<2^(bl H+size):=by
  rw [<-vR]
  split
  · rename_i hb;rw [uC (bK _),<-aR,show bl H+size+(-b).toNat=bl X by omega];exact hXlt
  · rename_i hb;refine iF (fM hXlt (bK _)) ?_;rw [<-aR];exact fE aO ae
 have Tm:W0<2^(size+1):=by
  rw [<-UB,uC hH0];refine iF Oz ?_;have:2^(size+1)*2^(bl Y-1-cut)<=2^(size+1)*H:=fu _ hH1;rw [<-aR,show size+1+(bl Y-1-cut)=bl H+size by omega] at this;exact this
 have XC:X≠0->2^(size-1)<=W0:=by
  intro h0;have XD:=iG X h0;have Z5:=dL X h0
  have hl:2^(bl H+size-1)<=rJ:=by
   rw [<-vR]
   split
   · rename_i hb;rw [Ar (bK _),<-aR,show bl H+size-1+(-b).toNat=bl X-1 by omega];exact XD
   · rename_i hb;refine dD ?_ (gF _ XD);rw [<-aR];exact fE aO ae
  rw [<-UB,Ar hH0];refine dD ?_ hl;have:2^(size-1)*H<=2^(size-1)*2^(bl H):=fu _ (jN (iL H));rw [<-aR,show size-1+bl H=bl H+size-1 by omega] at this;exact this
 -- whole times the low end is below Y
 have hWL:W0*Lo<Y:=by
  by_cases hc:cut=0
  · subst hc;have:Lo=0:=by simpa using hLo
    rw [this,mX];omega
  · have h1:W0*Lo<2^(size+1)*2^cut:=Aq Tm hLo;rw [<-aR] at h1;refine iF h1 (dD ?_ Xz);exact fE aO ae
 -- what the level is,by whole
 have hsum:rJ*2^cut+W0*Lo=W0*Y+Lf*2^cut:=by
  rw [<-Td,hYs,fU,mG,dh H W0,aU];omega
 have hLfD:Lf*2^cut<Y:=iF (fM hLf hD) hHD
 have hless:pI X Y size<nK X Y size->1<=W0:=by
  intro h;rw [Rc,Re] at h;rcases jO W0 with q|q
  · rw [q,dZ] at h;omega
  · exact q
 have UC:jb X Y size=if Lf*2^cut<W0*Lo then W0-1 else W0:=by unfold jb;rw [Rc,Re,XA]
 have eAt:uy X Y size=(decide (Lf*2^cut=W0*Lo)&&decide (0<=b)):=by unfold uy;rw [Rc,Re,eb]
 have key:(uy X Y size=true->X*2^(b.toNat+cut)=jb X Y size*Y*2^(-b).toNat)/\(uy X Y size=false->jb X Y size*Y*2^(-b).toNat<X*2^(b.toNat+cut)/\X*2^(b.toNat+cut)<(jb X Y size+1)*Y*2^(-b).toNat):=by
  rw [eAt,UC]
  by_cases hb:b<0
  · have hc0:cut=0:=ae
    have hX0:X≠0:=by intro h;rw [h,dJ] at eb';omega
    have hXo:X%2=1:=ae
    rw [if_pos hb] at vR;subst hc0;have hL0:Lo=0:=by simpa using hLo
    have hb1:b.toNat=0:=ae
    rw [hL0,mX,if_neg ae,hb1,iw,fG,dU];rw [hL0,fG,dU,dU,mX] at hsum;rw [decide_eq_false (show ¬ 0<=b by omega),Bool.and_false];refine ⟨fun h=>(by cases h),fun _=>?_⟩;obtain ⟨k,hk⟩:∃ k,(-b).toNat=k:=⟨_,rfl⟩;have hk0:0<k:=ae
    rw [hk] at vR |-;have hP:=bK k;have hxm:2^k*rJ+X%2^k=X:=by rw [<-vR];exact oJ X _
    have hxl:=jl X hP
    have hx0:X%2^k≠0:=by
     intro h;rw [h] at hxm;rw [show k=k-1+1 by omega,dS,dh _ 2,aU] at hxm;omega
    have h1:W0*Y<=rJ:=ae
    have h2:rJ+1<=(W0+1)*Y:=by
     rw [fU,iq];rw [fG,dU] at hLfD;omega
    have h3:=gF (2^k) h1;have h4:=gF (2^k) h2;rw [fU,iq] at h4;rw [dh] at hxm;omega
  · rw [if_neg hb] at vR;have hb1:(-b).toNat=0:=ae
    rw [hb1,fG,dU,dU,decide_eq_true (show 0<=b by omega),Bool.and_true];have e1:X*2^(b.toNat+cut)=rJ*2^cut:=by rw [aR,<-aU,vR]
    rw [e1];generalize rJ*2^cut=L at *;generalize Lf*2^cut=A at *;generalize hT:W0*Lo=T at *
    by_cases hlt:A<T
    · rw [if_pos hlt];have hW1:1<=W0:=hless (by rw [Rc,Re];exact hlt);obtain ⟨W,rfl⟩:∃ W,W0=W+1:=⟨W0-1,ae⟩;rw [lg];rw [fU,iq] at hsum |-;refine ⟨fun h=>?_,fun _=>by omega⟩;have:=of_decide_eq_true h;omega
    · rw [if_neg hlt];rw [fU,iq];refine ⟨fun h=>?_,fun h=>?_⟩
      · have:=of_decide_eq_true h;omega
      · have:=of_decide_eq_false h;omega
 refine ⟨?_,?_,?_,?_,?_,?_,?_,?_,?_,?_,?_,?_,?_⟩
 · rw [eb,wU];exact key.1
 · rw [eb,wU];exact fun h=>(key.2 h).1
 · rw [eb,wU];exact fun h=>(key.2 h).2
 · intro h;have:=XC h;rw [UC];split <;> omega
 · rw [UC];split <;> omega
 · rw [XA];exact hless
 · rw [eH];omega
 · rw [eH,wU];exact hHD
 · rw [eLo,wU];exact hLo
 · rw [XA];exact Tm
 · rw [eH,wU];exact hblH
 · rw [Rb,eH];exact Oz
 · rw [eLf,eH];exact hLf
theorem Alike.scale {n P Q P' Q' V S:Nat}(h:Alike n P' Q' V S) (hQ:0<Q) (hQ':0<Q') (e:P*Q'=P'*Q):Alike n P Q V S:=by
 intro c j hc hj;obtain ⟨h1,h2⟩:=h c j hc hj;rw [<-h1,<-h2];generalize c*2^j=g;have e1:g*Q*Q'=g*Q'*Q:=xz _ _ _;have e2:2*P*Q'=2*P'*Q:=by rw [aU,e,aU]
 constructor
 · rw [<-mI hQ',e1,e2,mI hQ]
 · constructor
   · intro k;have:=congrArg (·*Q') k;simp only [e1,e2] at this;exact oU hQ this
   · intro k;have:=congrArg (·*Q) k;simp only [<-e1,<-e2] at this;exact oU hQ' this
structure OA (n R d V S u:Nat) (h:Int):Prop where
 pos:0<S
 one:d=0->V*(2^(-(h+u)).toNat)^n=(R*2^(h+u).toNat)^n*S
 in':d=1->(R*2^(h+u).toNat)^n*S<V*(2^(-(h+u)).toNat)^n/\V*(2^(-(h+u)).toNat)^n<((R+1)*2^(h+u).toNat)^n*S
def fo (h:Int):Int:=min (max (h-1) (-4096)) 4096
theorem Cv (n R d V S u:Nat) (h:Int) (hn:0<n) (Ba:9007199254740992<=R) (hR2:R<2^100) (hd:d<=1) (hu0:149<=u) (hu1:u<=1074) (hI:OA n R d V S u h) :
 Alike n ((2*R+d)*2^(fo h+u).toNat) (2^(-(fo h+u)).toNat) V S:=by
 have hS:=hI.pos
 have hlo:(R*2^(h+u).toNat)^n*S<=V*(2^(-(h+u)).toNat)^n:=by
  rcases jO d with q|q
  · rw [hI.one q];exact aH _
  · exact jN (hI.in' ae).1
 have hhi:V*(2^(-(h+u)).toNat)^n<((R+1)*2^(h+u).toNat)^n*S:=by
  rcases jO d with q|q
  · rw [hI.one q];exact fM ((iW hn).2 (fM ae (bK _))) hS
  · exact (hI.in' ae).2
 by_cases h1:h-1 < -4096
 · have hc:fo h=-4096:=by unfold fo;omega
   rw [hc];have e1:((-4096:Int)+u).toNat=0:=ae
   have e2:(h+u).toNat=0:=ae
   rw [e1,fG,dU];rw [e2,fG,dU] at hlo hhi;obtain ⟨q,hq⟩:∃ q,(-(h+u)).toNat=q:=⟨_,rfl⟩;have hq1:3000<=q:=ae
   rw [hq] at hlo hhi;obtain ⟨q',hq'⟩:∃ q',(-((-4096:Int)+u)).toNat=q':=⟨_,rfl⟩;have hq'1:3000<=q':=ae
   rw [hq'];have hbig:∀ k,103<=k->2^103<=2^k:=fun k hk=>fE aO hk;have b1:=hbig q ae;have b2:=hbig q' ae;have e103:(2:Nat)^103=8*2^100:=aO
   have hqn:0<(2^q)^n:=si (bK q);refine E8 n _ _ V S hn ae ?_ hS ae ?_
   · rcases jO V with z | z
     · rw [z,dZ] at hlo;have:=jm (si (n:=n) (show 0<R by omega)) hS;omega
     · exact z
   · have s1:2^n*V*(2^q)^n<(2*(R+1))^n*S:=by
      rw [xA,aU,aU];exact w9 hhi (bK n)
     have s2:(2*(R+1))^n*S<=(2^q)^n*S:=gF _ (Nat.pow_le_pow_left ae n);have s3:2^n*V*(2^q)^n<S*(2^q)^n:=by rw [dh S];exact iF s1 s2
     exact (mI hqn).1 s3
 · by_cases h2:4096<h-1
   · have hc:fo h=4096:=by unfold fo;omega
     rw [hc];have e1:(-((4096:Int)+u)).toNat=0:=ae
     have e2:(-(h+u)).toNat=0:=ae
     rw [e1,fG];rw [e2,fG,Nat.one_pow,dU] at hlo hhi;obtain ⟨A,hA⟩:∃ A,((4096:Int)+u).toNat=A:=⟨_,rfl⟩;obtain ⟨p,hp⟩:∃ p,(h+u).toNat=p:=⟨_,rfl⟩;rw [hA];rw [hp] at hlo hhi;have hA1:2101<=A:=ae
     have hp1:2101<=p:=ae
     have top:∀ c j k,c<=18014398509481984->j<=2046->2101<=k->c*2^j<2^k:=by
      intro c j k hcc hj hk;have h54:(18014398509481984:Nat)=2^54:=aO
      calc c*2^j<=2^54*2^j:=gF _ ae
       _=2^(54+j):=(aR _ _ _).symm
       _<2^k:=Nat.pow_lt_pow_right aO ae
     refine Kr n _ _ V S hn ?_ ?_
     · intro c j hcc hj;have t:=top c j A hcc hj hA1;have:2^A<=(2*R+d)*2^A:=uF _ ae;rw [dU];omega
     · intro c j hcc hj;have t:=top c j p hcc hj hp1;have t2:2^p<=R*2^p:=uF _ ae;have t3:(c*2^j)^n*S<(R*2^p)^n*S:=fM ((iW hn).2 ae) hS;have t4:V<=2^n*V:=uF _ (bK n);omega
   · have hc:fo h=h-1:=by unfold fo;omega
     rw [hc];have sp:=E5 n R (h+u).toNat (-(h+u)).toNat V S d hn hS Ba hd hI.one hI.in';refine sp.scale (bK _) (jm aO (bK _)) ?_
     have e:∀ a b c k:Nat,a+1+b=c+k->(2*R+d)*2^a*(2*2^b)=(2*R+d)*2^c*2^k:=by
      intro a b c k hh;rw [aU,aU,<-aR,<-hh,aR,dS,aU (2^a)]
     exact e _ _ _ _ ae
def kK (X:Nat) (e f:Int) (u n:Nat):Nat:=X*2^(e-f+(n*u:Nat)).toNat
def kL (Y:Nat) (e f:Int) (u n:Nat):Nat:=Y*2^(-(e-f+(n*u:Nat))).toNat
theorem OB (X Y:Nat) (e f:Int) (u:Nat) (hY:Y≠0) (hD:Xx X Y 64) :
 OA 1 (jb X Y 64) (if uy X Y 64 then 0 else 1) (kK X e f u 1) (kL Y e f u 1) u (e-f-l6 X Y 64-fI Y 64):=by
 have h1:=hD.one;have h2:=hD.low;have h3:=hD.high;generalize jb X Y 64=W at *;generalize l6 X Y 64=b at *;generalize fI Y 64=cut at *;generalize uy X Y 64=t at *;have hY0:0<Y:=ae
 have sides:∀ R:Nat,(R*2^(e-f-b-cut+u).toNat)^1*kL Y e f u 1=R*Y*2^((e-f-b-cut+u).toNat+(-(e-f+(1*u:Nat))).toNat):=by
  intro R;unfold kL;rw [ku,aR,aU R,aU R,<-aU (2^_) Y,dh (2^_) Y,aU Y]
 have left:kK X e f u 1*(2^(-(e-f-b-cut+u)).toNat)^1=X*2^((e-f+(1*u:Nat)).toNat+(-(e-f-b-cut+u)).toNat):=by
  unfold kK;rw [ku,aR,aU]
 refine ⟨jm hY0 (bK _),fun hd=>?_,fun hd=>?_⟩
 · have ht:t=true:=by cases t with
    | true=>rfl
    | false=>simp at hd
   rw [left,sides];exact (Oy X (W*Y) _ _ _ _ ae).1 (h1 ht)
 · have ht:t=false:=by cases t with
    | true=>simp at hd
    | false=>rfl
   rw [left,sides,sides];exact ⟨(qE (W*Y) X _ _ _ _ ae).1 (h2 ht),(qE X ((W+1)*Y) _ _ _ _ ae).1 (h3 ht)⟩
theorem Hr {w:World}{a b:Option Addr}{n c m d:Nat}{xs ys:List Nat}{V U:Nat}{z:Int}(h1:Arg w a n c xs) (h2:Arg w b m d ys) (e:nA (val xs) (val ys)=(V,U,z)) :
 Calls Tryz.prog 207 #[.slice a n c,.slice b m d] w fun r w'=>∃ v u,r=.returned (.tuple #[v,u,.int .i64 z])/\Nt w.heap.size w' v V/\Nt w.heap.size w' u U/\Below w.heap.size w w' :=
 (PV xs ys a b n c m d w.heap.size w h1.len h2.len h1.cap h2.cap (by have:=h1.big;omega) (by have:=h2.big;omega) h1.wf h2.wf h1.rd h2.rd (aH _)).mono
  fun r w' ⟨⟨v,u,h3,h4,h5,h6⟩,hb⟩=>by rw [e] at h3 h4 h5;exact ⟨v,u,h3,h4,h5,hb⟩
theorem om {w:World}{a:Option Addr}{n c:Nat}{xs:List Nat}{k:Nat}(h1:Arg w a n c xs) (e:bl (val xs)=k) :
 Calls Tryz.prog 97 #[.slice a n c] w fun r w'=>r=.returned (.int .i64 (k:Nat))/\Below w.heap.size w w':=by
 subst e;exact (qg xs a n c w.heap.size w h1.len h1.cap (by have:=h1.big;omega) h1.wf h1.rd).mono fun r w' ⟨h,e⟩=>⟨h,by rw [e];exact ak _ _⟩
theorem oo {X V:Nat}{k:Nat}(hX:¬ LG X) (hb:X=0\/bl X+k<=262144) (e:X*2^k=V):bF X (k:Int)=(V,0):=by
 unfold bF;rw [if_neg hX]
 by_cases h0:X=0
 · rw [if_pos h0,<-e,h0,dZ]
 · rw [if_neg h0,if_neg ae,if_neg ae];simp [e]
theorem yn {X V:Nat}{k:Nat}(hX:¬ LG X) (e:X/2^k=V):bF X (-(k:Int))=(V,0):=by
 unfold bF;rw [if_neg hX]
 by_cases h0:X=0
 · rw [if_pos h0,<-e,h0,Nat.zero_div]
 · rw [if_neg h0]
   by_cases hk:k=0
   · subst hk;rw [if_neg aW,if_neg (by have:=mt (nE X).2 hX;omega)];simp at e;simp [e]
   · rw [if_pos ae];simp [e]
theorem Rf {X Y:Nat}(h1:¬ LG X) (h2:¬ LG Y) (h:Y≠0) {V U:Nat}(e1:X/Y=V) (e2:X%Y=U):nA X Y=(V,U,0):=by
 unfold nA;rw [if_neg (by simp [h1,h2]),if_neg h,e1,e2]
theorem E9 {w:World}{a b q h:Option Addr}{ca cb cq ch:Nat}(W0 Lf Y H cut Bk Lo Zp Hs:Nat) (z:Int) (AW:Arg w a (ws W0).length ca (ws W0)) (AL:Arg w b (ws Lf).length cb (ws Lf)) (AY:Arg w q (ws Y).length cq (ws Y)) (AH:Arg w h (ws H).length ch (ws H))
 (hc:cut<=4611686018427387904) (e1:bF H (cut:Int)=(Bk,0)) (e2:nz Y Bk=(Lo,0)) (e3:ji W0 Lo=(Zp,0)) (e4:bF Lf (cut:Int)=(Hs,0)) (e5:bE Hs Zp=z)
 (l1:(ws Bk).length<=8192) (l2:(ws Lo).length<=8192) (l3:(ws Zp).length<=8192) (l4:(ws Hs).length<=8192) :
 Calls Tryz.prog 208 #[.slice a (ws W0).length ca,.slice b (ws Lf).length cb,.slice q (ws Y).length cq,.slice h (ws H).length ch,.int .i64 (cut:Nat)] w fun r w'=>r=.returned (.int .i64 z)/\Below w.heap.size w w':=by
 rw [<-ax H] at e1;rw [<-ax Y,<-ax Bk] at e2;rw [<-ax W0,<-ax Lo] at e3;rw [<-ax Lf] at e4;rw [<-ax Hs,<-ax Zp] at e5;have E:=(gZ e1 e2 e3 e4 e5);clear e1 e2 e3 e4 e5;have hbel:=ak w.heap.size w;have S0:=(gZ hbel AW AL AY AH);clear hbel;clear AW AL AY AH;go_enter Tryz.func208,Tryz.ntmps208;obtain ⟨aF,AW,AL,AY,AH⟩:=S0.o;have HC:=hid (fO (cut:Int) AH E.o.1 ae ae);clear aF AW AL AY AH;go_wp2_with fail;refine HC.o.mono ?_;rintro r u1 ⟨v,rfl,hN,hb⟩;obtain ⟨a1,c1,rfl,_⟩:=hN.arg ae;clear HC;obtain ⟨aF,AW,AL,AY,AH⟩:=S0.o;have hbn:=aF.trans (hb.mono aF.size);have S1:=jE hbn (AW.below hb) (AL.below hb) (AY.below hb) (AH.below hb) (hN.mono aF.size);clear aF AW AL AY AH;clear hb hbn S0;clear hN;obtain ⟨aF,AW,AL,AY,AH,NB⟩:=S1.o;have HC:=hid (uj AY (NB.bR ae).2 E.o.2.1);clear aF AW AL AY AH NB;go_wp2_with fail;refine HC.o.mono ?_;rintro r u2 ⟨v,rfl,hN,hb⟩;obtain ⟨a2,c2,rfl,_⟩:=hN.arg ae;clear HC;obtain ⟨aF,AW,AL,AY,AH,NB⟩:=S1.o;have hbn:=aF.trans (hb.mono aF.size);have S2:=rZ hbn (AW.below hb) (AL.below hb) (AY.below hb) (AH.below hb) (NB.below hb) (hN.mono aF.size);clear aF AW AL AY AH NB;clear hb hbn S1;clear hN;obtain ⟨aF,AW,AL,AY,AH,NB,NL⟩:=S2.o;have HC:=hid (Gq AW (NL.bR ae).2 E.o.r2.1);clear aF AW AL AY AH NB NL;go_wp2_with fail;refine HC.o.mono ?_;rintro r u3 ⟨v,rfl,hN,hb⟩;obtain ⟨a3,c3,rfl,_⟩:=hN.arg ae;clear HC;obtain ⟨aF,AW,AL,AY,AH,NB,NL⟩:=S2.o;have hbn:=aF.trans (hb.mono aF.size);have S3:=r9 hbn (AW.below hb) (AL.below hb) (AY.below hb) (AH.below hb) (NB.below hb) (NL.below hb) (hN.mono aF.size);clear aF AW AL AY AH NB NL;clear hb hbn S2;clear hN;obtain ⟨aF,AW,AL,AY,AH,NB,NL,NT⟩:=S3.o;have HC:=hid (fO (cut:Int) AL E.o.r3.1 ae ae);clear aF AW AL AY AH NB NL NT;go_wp2_with fail;refine HC.o.mono ?_;rintro r u4 ⟨v,rfl,hN,hb⟩;obtain ⟨a4,c4,rfl,_⟩:=hN.arg ae;clear HC;obtain ⟨aF,AW,AL,AY,AH,NB,NL,NT⟩:=S3.o;have hbn:=aF.trans (hb.mono aF.size);have S4:=Af hbn (AW.below hb) (AL.below hb) (AY.below hb) (AH.below hb) (NB.below hb) (NL.below hb) (NT.below hb) (hN.mono aF.size);clear aF AW AL AY AH NB NL NT;clear hb hbn S3;clear hN;obtain ⟨aF,AW,AL,AY,AH,NB,NL,NT,NS⟩:=S4.o;have HC:=hid (yV (NS.bR ae).2 (NT.bR ae).2 z E.o.r4);clear aF AW AL AY AH NB NL NT NS;go_wp2_with fail;refine HC.o.mono ?_;rintro r u5 ⟨rfl,hb⟩;clear HC;obtain ⟨aF,AW,AL,AY,AH,NB,NL,NT,NS⟩:=S4.o;have hbn:=aF.trans (hb.mono aF.size);have S5:=Af hbn (AW.below hb) (AL.below hb) (AY.below hb) (AH.below hb) (NB.below hb) (NL.below hb) (NT.below hb) (NS.below hb);clear aF AW AL AY AH NB NL NT NS;clear hb hbn S4;have hbW:=hid S5.o.1;clear S5 E;go_wp2;go_ret;exact ⟨rfl,hbW.o⟩
def Tk (w:World) (g T:Nat) (x y z:Value):Prop:=w.heap[g]?=some (.cells #[x,y,z] T (0,0))
theorem Tk.lt {w:World}{g T:Nat}{x y z:Value}(h:Tk w g T x y z):g<w.heap.size:=(fJ.1 h).1
theorem Tk.below {w w':World}{g T:Nat}{x y z:Value}(h:Tk w g T x y z) (hb:Below w.heap.size w w'):Tk w' g T x y z:=by
 unfold Tk;rw [hb.block g h.lt];exact h
theorem Tk.alloc {w:World}{g T:Nat}{x y z:Value}(h:Tk w g T x y z) (o:Obj):Tk (w.alloc o) g T x y z:=h.below (af w o)
theorem Tk.new (w:World) (T:Nat) (x y z:Value):Tk (w.alloc (.cells #[x,y,z] T)) w.heap.size T x y z:=iJ _ _
theorem Tk.facts {w:World}{g T:Nat}{x y z:Value}(h:Tk w g T x y z) :
 w.cell? ⟨g,0,none⟩=some x/\w.cell? ⟨g,1,none⟩=some y/\w.cell? ⟨g,2,none⟩=some z/\w.frozen? ⟨g,0,none⟩=false/\w.frozen? ⟨g,1,none⟩=false/\w.frozen? ⟨g,2,none⟩=false:=by
 unfold Tk at h;simp [World.cell?,World.frozen?,h]
theorem Tk.set {w:World}{g T:Nat}{x y z:Value}(h:Tk w g T x y z) (a b c:Value):Tk (dW w g a b c) g T a b c:=by
 unfold Tk at h |-;simp [dW,World.setCell,jM,h]
def Rq (w:World) (g:Nat) (n:Bool) (v:Value) (e:Int) (m:Bool) (u:Value) (f:Int):Prop:=w.heap[g]?=some (.cells #[.bool n,v,.int .i64 e,.bool m,u,.int .i64 f] 98 (0,0))
theorem Rq.lt {w:World}{g:Nat}{n:Bool}{v:Value}{e:Int}{m:Bool}{u:Value}{f:Int}(h:Rq w g n v e m u f):g<w.heap.size:=(fJ.1 h).1
theorem Rq.below {w w':World}{g:Nat}{n:Bool}{v:Value}{e:Int}{m:Bool}{u:Value}{f:Int}(h:Rq w g n v e m u f) (hb:Below w.heap.size w w'):Rq w' g n v e m u f:=by
 unfold Rq;rw [hb.block g h.lt];exact h
theorem Rq.alloc {w:World}{g:Nat}{n:Bool}{v:Value}{e:Int}{m:Bool}{u:Value}{f:Int}(h:Rq w g n v e m u f) (o:Obj):Rq (w.alloc o) g n v e m u f:=h.below (af w o)
theorem Rq.new (w:World) (n:Bool) (v:Value) (e:Int) (m:Bool) (u:Value) (f:Int):Rq (w.alloc (.cells #[.bool n,v,.int .i64 e,.bool m,u,.int .i64 f] 98)) w.heap.size n v e m u f:=iJ _ _
theorem Rq.facts {w:World}{g:Nat}{n:Bool}{v:Value}{e:Int}{m:Bool}{u:Value}{f:Int}(h:Rq w g n v e m u f) :
 w.cell? ⟨g,0,none⟩=some (.bool n)/\w.cell? ⟨g,1,none⟩=some v/\w.cell? ⟨g,2,none⟩=some (.int .i64 e)/\w.cell? ⟨g,3,none⟩=some (.bool m)/\w.cell? ⟨g,4,none⟩=some u/\w.cell? ⟨g,5,none⟩=some (.int .i64 f):=by
 unfold Rq at h;simp [World.cell?,h]
theorem Rq.frz {w:World}{g:Nat}{n:Bool}{v:Value}{e:Int}{m:Bool}{u:Value}{f:Int}(h:Rq w g n v e m u f) :
 w.frozen? ⟨g,0,none⟩=false/\w.frozen? ⟨g,1,none⟩=false/\w.frozen? ⟨g,2,none⟩=false/\w.frozen? ⟨g,3,none⟩=false/\w.frozen? ⟨g,4,none⟩=false/\w.frozen? ⟨g,5,none⟩=false:=by
 unfold Rq at h;simp [World.frozen?,h]
abbrev XE (w:World) (g:Nat) (a b c d e f:Value):World:=(((((w.setCell ⟨g,0,none⟩ a).setCell ⟨g,1,none⟩ b).setCell ⟨g,2,none⟩ c).setCell ⟨g,3,none⟩ d).setCell ⟨g,4,none⟩ e).setCell ⟨g,5,none⟩ f
theorem Ht (g:Nat) (w:World) (a b c d e f:Value):But g w (XE w g a b c d e f):=((((((But.refl g w).set _ _).set _ _).set _ _).set _ _).set _ _).set _ _
theorem Rq.set {w:World}{g:Nat}{n:Bool}{v:Value}{e:Int}{m:Bool}{u:Value}{f:Int}(h:Rq w g n v e m u f) (n':Bool) (v':Value) (e':Int) (m':Bool) (u':Value) (f':Int) :
 Rq (XE w g (.bool n') v' (.int .i64 e') (.bool m') u' (.int .i64 f')) g n' v' e' m' u' f':=by
 unfold Rq at h |-;simp [XE,World.setCell,jM,h]
theorem Nt.off {lo:Nat}{w w':World}{v:Value}{X g:Nat}(h:Nt lo w v X) (hb:But g w w') (hg:v.ownBlock≠Option.some g):Nt lo w' v X:=by
 refine ⟨h.1,?_⟩;rcases h.2 with hn|⟨g',cap,cur,rfl,hlo,hg',rest⟩
 · exact .inl hn
 · refine .inr ⟨g',cap,cur,rfl,hlo,?_,rest⟩;rw [hb.block g' (fJ.1 hg').1 (by intro e;subst e;exact hg (by simp [Value.ownBlock]))];exact hg'
theorem Nt.bU {lo:Nat}{w:World}{v:Value}{X g T:Nat}{C:Array Value}{fz:Nat×Nat}(h:Nt lo w v X) (hT:T≠147) (hg:w.heap[g]?=Option.some (.cells C T fz)):v.ownBlock≠Option.some g:=by
 intro e;rcases h.2 with ⟨rfl,_⟩|⟨g',cap,cur,rfl,_,h2,_⟩
 · simp [Value.ownBlock] at e
 · simp [Value.ownBlock] at e;subst e;rw [hg] at h2;simp at h2;exact hT h2.2.1
theorem Nt.Ku {lo:Nat}{w:World}{v:Value}{X g T:Nat}{x y z:Value}(h:Nt lo w v X) (D:Tk w g T x y z) (hT:T≠147) (a b c:Value):Nt lo (dW w g a b c) v X:=h.off (nG g w a b c) (h.bU hT D)
theorem Nt.XF {lo:Nat}{w:World}{v:Value}{X g:Nat}{n:Bool}{p:Value}{e:Int}{m:Bool}{u:Value}{f:Int}(h:Nt lo w v X) (D:Rq w g n p e m u f) (a b c d q r:Value):Nt lo (XE w g a b c d q r) v X:=h.off (Ht g w a b c d q r) (h.bU aO D)
theorem kg {B g:Nat}{a w:World}(h:Below B a w) (hB:B<=w.heap.size) (hg:B<=g) (x y z:Value):Below B a (dW w g x y z):=But.below h (nG g w x y z) hB hg
theorem rM {B g:Nat}{a w:World}(h:Below B a w) (hB:B<=w.heap.size) (hg:B<=g) (x y z p q r:Value):Below B a (XE w g x y z p q r):=But.below h (Ht g w x y z p q r) hB hg
def Ap (v u:Value):Prop:=∀ g,v.ownBlock=some g->u.ownBlock≠some g
theorem Nt.blk {lo:Nat}{w:World}{v:Value}{X g:Nat}(h:Nt lo w v X) (hg:v.ownBlock=Option.some g):lo<=g/\g<w.heap.size:=by
 rcases h.2 with ⟨rfl,_⟩|⟨g',cap,cur,rfl,h1,h2,_⟩
 · simp [Value.ownBlock] at hg
 · simp [Value.ownBlock] at hg;subst hg;exact ⟨h1,(fJ.1 h2).1⟩
theorem Nt.ap {lo:Nat}{w w':World}{v u:Value}{X Y:Nat}(h:Nt lo w v X) (k:Nt w.heap.size w' u Y):Ap v u:=by
 intro g hg hu;have:=(h.blk hg).2;have:=(k.blk hu).1;omega
theorem ws0:(ws 0).length=0:=by rw [bN];rfl
theorem tF (W:World) (g:Nat) (v:Value) (x:Int) (t:Bool) (tmps:Array Value) (ht:tmps[4]?.getD undef=.pointer (some ⟨g,0,none⟩)) (D:Tk W g 192 v (.int .i64 x) (.bool t)) :
 (results Tryz.f164 tmps).run Tryz.prog W=.ok (.agg #[v,.int .i64 x,.bool t]) W:=by
 obtain ⟨x0,x1,x2,_,_,_⟩:=D.facts;simp [results,Tryz.results164,ht,go_sem,x0,x1,x2]
theorem yo (w:World) (n:Bool) (v:Value) (e:Int) (m:Bool) (u:Value) (f:Int) (W:World) (hW:W=(w.alloc (.cells #[.bool n,v,.int .i64 e,.bool m,u,.int .i64 f] 98)).alloc (.cells #[.slice none 0 0,.int .i64 0,.bool false] 192)) :
 Below w.heap.size w W/\W.heap.size=w.heap.size+2/\Rq W w.heap.size n v e m u f/\Tk W (w.heap.size+1) 192 (.slice none 0 0) (.int .i64 0) (.bool false):=by
 rw [hW];refine ⟨(af w _).alloc aW _,aW,(Rq.new _ _ _ _ _ _ _).alloc _,?_⟩;have:=Tk.new (w.alloc (.cells #[.bool n,v,.int .i64 e,.bool m,u,.int .i64 f] 98)) 192 (.slice none 0 0) (.int .i64 0) (.bool false);simpa using this
theorem Cw {w:World}{a b:Option Addr}{ca cb:Nat}(n m:Bool) (X Y:Nat) (e f:Int) (size lX lY lH cut H rJ W0 Lf WH:Nat) (t bb z x y1 y2:Int) (tt:Bool)
 (AX:Arg w a (ws X).length ca (ws X)) (AY:Arg w b (ws Y).length cb (ws Y))
 (he0:-1048576<=e) (he1:e<=1048576) (hf0:-1048576<=f) (hf1:f<=1048576) (hs:size<=1000) (XG:bl Y=lY) (XH:bl X=lX) (XI:bl H=lH) (bX:lX<=262144) (bY:lY<=262144) (bH:lH<=262144)
 (ht:(lY:Int)+(size:Int)-262144=t) (hcut:max t 0=(cut:Int)) (bcut:cut<=2000)
 (e1:bF Y (-(cut:Int))=(H,0)) (hbb:(lH:Int)+(size:Int)-(lX:Int)=bb) (e2:bF X bb=(rJ,0)) (e3:nA rJ H=(W0,Lf,0))
 (HL:Hid (∀ (u:World) (p q r s:Option Addr) (cp cq cr cs:Nat),Arg u p (ws W0).length cp (ws W0)->Arg u q (ws Lf).length cq (ws Lf)->Arg u r (ws Y).length cr (ws Y)->Arg u s (ws H).length cs (ws H)->Calls Tryz.prog 208 #[.slice p (ws W0).length cp,.slice q (ws Lf).length cq,.slice r (ws Y).length cr,.slice s (ws H).length cs,.int .i64 (cut:Nat)] u fun r w'=>r=.returned (.int .i64 z)/\Below u.heap.size u w'))
 (hz:decide (z<0)=false)
 (h1:e-f=y1) (h2:y1-bb=y2) (h3:y2-(cut:Int)=x) (Gt:(decide (z=0)&&decide (0<=bb))=tt)
 (l1:(ws H).length<=8192) (l2:(ws rJ).length<=8192) (l3:(ws W0).length<=8192) (l4:(ws Lf).length<=8192) :
 Calls Tryz.prog 164 #[.agg #[.bool n,.slice a (ws X).length ca,.int .i64 e,.bool m,.slice b (ws Y).length cb,.int .i64 f],.int .i64 (size:Nat)] w fun r w'=>(∃ v,r=.returned (.agg #[v,.int .i64 x,.bool tt])/\Nt w.heap.size w' v W0)/\Below w.heap.size w w':=by
 obtain ⟨W1,hW1⟩:=ah ((w.alloc (.cells #[.bool n,.slice a (ws X).length ca,.int .i64 e,.bool m,.slice b (ws Y).length cb,.int .i64 f] 98)).alloc (.cells #[.slice none 0 0,.int .i64 0,.bool false] 192));obtain ⟨hB,hz1,RQ,SK⟩:=yo w n _ e m _ f W1 hW1;have OD:bF (val (ws Y)) (-(cut:Int))=(H,0):=by rw [ax];exact e1
 have e2':bF (val (ws X)) bb=(rJ,0):=by rw [ax];exact e2
 have e3':nA (val (ws rJ)) (val (ws H))=(W0,Lf,0):=by rw [ax,ax];exact e3
 have XJ:bl (val (ws Y))=lY:=by rw [ax];exact XG
 have XK:bl (val (ws X))=lX:=by rw [ax];exact XH
 have XL:bl (val (ws H))=lH:=by rw [ax];exact XI
 have E:=(jE OD e2' e3' XJ XK XL);have SZ:=(bB hz1 hB);have hs2:w.heap.size+2<=W1.heap.size:=ae
 have hbel:=hB;have S0:=(gZ hbel (AX.below hB) (AY.below hB) RQ SK);clear hbel;clear e1 e2 e3 OD e2' e3' XJ XK XL XG XH XI AX AY hB RQ SK hz1;go_enter Tryz.func164,Tryz.ntmps164
 go_upto_region 1 with fail
 rw [<-hW1];clear hW1;obtain ⟨x0,x1,x2,x3,x4,x5⟩:=S0.o.r3.1.facts
 go_quiet (fail)
 clear x0 x1 x2 x3 x4 x5;generalize hV:World.drewN W1 _=V1;have hb:Below W1.heap.size W1 V1:=by rw [<-hV];exact Below.drewN' (ak _ _) _
 clear hV;obtain ⟨aF,AX,AY,RQ,SK⟩:=S0.o;have hbn:=aF.trans (hb.mono aF.size);have S1:=gZ hbn (AX.below hb) (AY.below hb) (RQ.below hb) (SK.below hb);clear aF AX AY RQ SK;clear hb hbn S0;obtain ⟨aF,AX,AY,RQ,SK⟩:=S1.o;have HC:=hid (om AY E.o.r3.1);clear aF AX AY RQ SK;go_wp2_with fail;refine HC.o.mono ?_;rintro r u2 ⟨rfl,hb⟩;clear HC;obtain ⟨aF,AX,AY,RQ,SK⟩:=S1.o;have hbn:=aF.trans (hb.mono aF.size);have S2:=gZ hbn (AX.below hb) (AY.below hb) (RQ.below hb) (SK.below hb);clear aF AX AY RQ SK;clear hb hbn S1;obtain ⟨aF,AX,AY,RQ,SK⟩:=S2.o;have HC:=hid (fO (-(cut:Int)) AY E.o.1 ae ae);clear aF AX AY RQ SK;go_wp2_with fail;refine HC.o.mono ?_;rintro r u3 ⟨v,rfl,hN,hb⟩;obtain ⟨a1,c1,rfl,_⟩:=hN.arg ae;clear HC;obtain ⟨aF,AX,AY,RQ,SK⟩:=S2.o;have hbn:=aF.trans (hb.mono aF.size);have S3:=jE hbn (AX.below hb) (AY.below hb) (RQ.below hb) (SK.below hb) (hN.mono aF.size);clear aF AX AY RQ SK;clear hb hbn S2;clear hN;obtain ⟨aF,AX,AY,RQ,SK,NH⟩:=S3.o;have HC:=hid (om (NH.bR ae).2 E.o.r5);clear aF AX AY RQ SK NH;go_wp2_with fail;refine HC.o.mono ?_;rintro r u4 ⟨rfl,hb⟩;clear HC;obtain ⟨aF,AX,AY,RQ,SK,NH⟩:=S3.o;have hbn:=aF.trans (hb.mono aF.size);have S4:=jE hbn (AX.below hb) (AY.below hb) (RQ.below hb) (SK.below hb) (NH.below hb);clear aF AX AY RQ SK NH;clear hb hbn S3;obtain ⟨aF,AX,AY,RQ,SK,NH⟩:=S4.o;have HC:=hid (om AX E.o.r4.1);clear aF AX AY RQ SK NH;go_wp2_with fail;refine HC.o.mono ?_;rintro r u5 ⟨rfl,hb⟩;clear HC;obtain ⟨aF,AX,AY,RQ,SK,NH⟩:=S4.o;have hbn:=aF.trans (hb.mono aF.size);have S5:=jE hbn (AX.below hb) (AY.below hb) (RQ.below hb) (SK.below hb) (NH.below hb);clear aF AX AY RQ SK NH;clear hb hbn S4;obtain ⟨aF,AX,AY,RQ,SK,NH⟩:=S5.o;have HC:=hid (fO bb AX E.o.2.1 ae ae);clear aF AX AY RQ SK NH;go_wp2_with fail;refine HC.o.mono ?_;rintro r u6 ⟨v,rfl,hN,hb⟩;obtain ⟨a2,c2,rfl,_⟩:=hN.arg ae;clear HC;obtain ⟨aF,AX,AY,RQ,SK,NH⟩:=S5.o;have hbn:=aF.trans (hb.mono aF.size);have S6:=rZ hbn (AX.below hb) (AY.below hb) (RQ.below hb) (SK.below hb) (NH.below hb) (hN.mono aF.size);clear aF AX AY RQ SK NH;clear hb hbn S5;clear hN;obtain ⟨aF,AX,AY,RQ,SK,NH,NV⟩:=S6.o;have HC:=hid (Hr (NV.bR ae).2 (NH.bR ae).2 E.o.r2.1);clear aF AX AY RQ SK NH NV;go_wp2_with fail;refine HC.o.mono ?_;rintro r u7 ⟨v,v2,rfl,hN,hM,hb⟩;obtain ⟨a3,c3,rfl,_⟩:=hN.arg ae;obtain ⟨a4,c4,rfl,_⟩:=hM.arg ae;clear HC;obtain ⟨aF,AX,AY,RQ,SK,NH,NV⟩:=S6.o;have hbn:=aF.trans (hb.mono aF.size);have S7:=r9 hbn (AX.below hb) (AY.below hb) (RQ.below hb) (SK.below hb) (NH.below hb) (hN.mono aF.size) (hM.mono aF.size);clear aF AX AY RQ SK NH NV;clear hb hbn S6;clear hN hM;obtain ⟨aF,AX,AY,RQ,SK,NH,NW,NL⟩:=S7.o;have HC:=hid (HL.o u7 _ _ _ _ _ _ _ _ (NW.bR ae).2 (NL.bR ae).2 AY (NH.bR ae).2);clear aF AX AY RQ SK NH NW NL;go_wp2_with fail;refine HC.o.mono ?_;rintro r u8 ⟨rfl,hb⟩;clear HC;obtain ⟨aF,AX,AY,RQ,SK,NH,NW,NL⟩:=S7.o;have hbn:=aF.trans (hb.mono aF.size);have S8:=r9 hbn (AX.below hb) (AY.below hb) (RQ.below hb) (SK.below hb) (NH.below hb) (NW.below hb) (NL.below hb);clear aF AX AY RQ SK NH NW NL;clear hb hbn S7;obtain ⟨aF,AX,AY,RQ,SK,NH,NW,NL⟩:=S8.o;have hlast:=fB aF NW SK;obtain ⟨x0,x1,x2,x3,x4,x5⟩:=RQ.facts;obtain ⟨s0,s1,s2,wM,wN,wO⟩:=SK.facts;have hsz:=ay (SK.lt);clear aF AX AY RQ SK NH NW NL;clear S8 E HL;have htA:=ay Gt;clear Gt;go_wp2
 all_goals (
  obtain ⟨aF,NZ,SK⟩:=hlast.o;have hsz:=aF.size;refine aI (tF _ (w.heap.size+1) (.slice a3 (ws W0).length c3) x _ _ rfl (SK.set _ _ _)) rfl ⟨⟨.slice a3 (ws W0).length c3,?_,NZ.Ku SK aO _ _ _⟩,kg aF hsz ae _ _ _⟩;rw [<-htA.o]
  first | rfl | simp [*])
theorem Cx {w:World}{a b:Option Addr}{ca cb:Nat}(n m:Bool) (X Y:Nat) (e f:Int) (size lX lY lH cut H rJ W0 Lf WH:Nat) (t bb z x y1 y2:Int) (tt:Bool)
 (AX:Arg w a (ws X).length ca (ws X)) (AY:Arg w b (ws Y).length cb (ws Y))
 (he0:-1048576<=e) (he1:e<=1048576) (hf0:-1048576<=f) (hf1:f<=1048576) (hs:size<=1000) (XG:bl Y=lY) (XH:bl X=lX) (XI:bl H=lH) (bX:lX<=262144) (bY:lY<=262144) (bH:lH<=262144)
 (ht:(lY:Int)+(size:Int)-262144=t) (hcut:max t 0=(cut:Int)) (bcut:cut<=2000)
 (e1:bF Y (-(cut:Int))=(H,0)) (hbb:(lH:Int)+(size:Int)-(lX:Int)=bb) (e2:bF X bb=(rJ,0)) (e3:nA rJ H=(W0,Lf,0))
 (HL:Hid (∀ (u:World) (p q r s:Option Addr) (cp cq cr cs:Nat),Arg u p (ws W0).length cp (ws W0)->Arg u q (ws Lf).length cq (ws Lf)->Arg u r (ws Y).length cr (ws Y)->Arg u s (ws H).length cs (ws H)->Calls Tryz.prog 208 #[.slice p (ws W0).length cp,.slice q (ws Lf).length cq,.slice r (ws Y).length cr,.slice s (ws H).length cs,.int .i64 (cut:Nat)] u fun r w'=>r=.returned (.int .i64 z)/\Below u.heap.size u w'))
 (hz:decide (z<0)=true) (e4:nz W0 1=(WH,0))
 (h1:e-f=y1) (h2:y1-bb=y2) (h3:y2-(cut:Int)=x) (Gt:(decide (z=0)&&decide (0<=bb))=tt)
 (l1:(ws H).length<=8192) (l2:(ws rJ).length<=8192) (l3:(ws W0).length<=8192) (l4:(ws Lf).length<=8192) (l5:(ws WH).length<=8192) :
 Calls Tryz.prog 164 #[.agg #[.bool n,.slice a (ws X).length ca,.int .i64 e,.bool m,.slice b (ws Y).length cb,.int .i64 f],.int .i64 (size:Nat)] w fun r w'=>(∃ v,r=.returned (.agg #[v,.int .i64 x,.bool tt])/\Nt w.heap.size w' v WH)/\Below w.heap.size w w':=by
 obtain ⟨W1,hW1⟩:=ah ((w.alloc (.cells #[.bool n,.slice a (ws X).length ca,.int .i64 e,.bool m,.slice b (ws Y).length cb,.int .i64 f] 98)).alloc (.cells #[.slice none 0 0,.int .i64 0,.bool false] 192));obtain ⟨hB,hz1,RQ,SK⟩:=yo w n _ e m _ f W1 hW1;have OD:bF (val (ws Y)) (-(cut:Int))=(H,0):=by rw [ax];exact e1
 have e2':bF (val (ws X)) bb=(rJ,0):=by rw [ax];exact e2
 have e3':nA (val (ws rJ)) (val (ws H))=(W0,Lf,0):=by rw [ax,ax];exact e3
 have XJ:bl (val (ws Y))=lY:=by rw [ax];exact XG
 have XK:bl (val (ws X))=lX:=by rw [ax];exact XH
 have XL:bl (val (ws H))=lH:=by rw [ax];exact XI
 have E:=(jE OD e2' e3' XJ XK XL);have SZ:=(bB hz1 hB);have hs2:w.heap.size+2<=W1.heap.size:=ae
 have e4':nz (val (ws W0)) (val (ws 1))=(WH,0):=by rw [ax,ax];exact e4
 have E4:=ay e4';have l1s:(ws 1).length<=8192:=by rw [yR];simp
 clear e4 e4';have hbel:=hB;have S0:=(gZ hbel (AX.below hB) (AY.below hB) RQ SK);clear hbel;clear e1 e2 e3 OD e2' e3' XJ XK XL XG XH XI AX AY hB RQ SK hz1;go_enter Tryz.func164,Tryz.ntmps164
 go_upto_region 1 with fail
 rw [<-hW1];clear hW1;obtain ⟨x0,x1,x2,x3,x4,x5⟩:=S0.o.r3.1.facts
 go_quiet (fail)
 clear x0 x1 x2 x3 x4 x5;generalize hV:World.drewN W1 _=V1;have hb:Below W1.heap.size W1 V1:=by rw [<-hV];exact Below.drewN' (ak _ _) _
 clear hV;obtain ⟨aF,AX,AY,RQ,SK⟩:=S0.o;have hbn:=aF.trans (hb.mono aF.size);have S1:=gZ hbn (AX.below hb) (AY.below hb) (RQ.below hb) (SK.below hb);clear aF AX AY RQ SK;clear hb hbn S0;obtain ⟨aF,AX,AY,RQ,SK⟩:=S1.o;have HC:=hid (om AY E.o.r3.1);clear aF AX AY RQ SK;go_wp2_with fail;refine HC.o.mono ?_;rintro r u2 ⟨rfl,hb⟩;clear HC;obtain ⟨aF,AX,AY,RQ,SK⟩:=S1.o;have hbn:=aF.trans (hb.mono aF.size);have S2:=gZ hbn (AX.below hb) (AY.below hb) (RQ.below hb) (SK.below hb);clear aF AX AY RQ SK;clear hb hbn S1;obtain ⟨aF,AX,AY,RQ,SK⟩:=S2.o;have HC:=hid (fO (-(cut:Int)) AY E.o.1 ae ae);clear aF AX AY RQ SK;go_wp2_with fail;refine HC.o.mono ?_;rintro r u3 ⟨v,rfl,hN,hb⟩;obtain ⟨a1,c1,rfl,_⟩:=hN.arg ae;clear HC;obtain ⟨aF,AX,AY,RQ,SK⟩:=S2.o;have hbn:=aF.trans (hb.mono aF.size);have S3:=jE hbn (AX.below hb) (AY.below hb) (RQ.below hb) (SK.below hb) (hN.mono aF.size);clear aF AX AY RQ SK;clear hb hbn S2;clear hN;obtain ⟨aF,AX,AY,RQ,SK,NH⟩:=S3.o;have HC:=hid (om (NH.bR ae).2 E.o.r5);clear aF AX AY RQ SK NH;go_wp2_with fail;refine HC.o.mono ?_;rintro r u4 ⟨rfl,hb⟩;clear HC;obtain ⟨aF,AX,AY,RQ,SK,NH⟩:=S3.o;have hbn:=aF.trans (hb.mono aF.size);have S4:=jE hbn (AX.below hb) (AY.below hb) (RQ.below hb) (SK.below hb) (NH.below hb);clear aF AX AY RQ SK NH;clear hb hbn S3;obtain ⟨aF,AX,AY,RQ,SK,NH⟩:=S4.o;have HC:=hid (om AX E.o.r4.1);clear aF AX AY RQ SK NH;go_wp2_with fail;refine HC.o.mono ?_;rintro r u5 ⟨rfl,hb⟩;clear HC;obtain ⟨aF,AX,AY,RQ,SK,NH⟩:=S4.o;have hbn:=aF.trans (hb.mono aF.size);have S5:=jE hbn (AX.below hb) (AY.below hb) (RQ.below hb) (SK.below hb) (NH.below hb);clear aF AX AY RQ SK NH;clear hb hbn S4;obtain ⟨aF,AX,AY,RQ,SK,NH⟩:=S5.o;have HC:=hid (fO bb AX E.o.2.1 ae ae);clear aF AX AY RQ SK NH;go_wp2_with fail;refine HC.o.mono ?_;rintro r u6 ⟨v,rfl,hN,hb⟩;obtain ⟨a2,c2,rfl,_⟩:=hN.arg ae;clear HC;obtain ⟨aF,AX,AY,RQ,SK,NH⟩:=S5.o;have hbn:=aF.trans (hb.mono aF.size);have S6:=rZ hbn (AX.below hb) (AY.below hb) (RQ.below hb) (SK.below hb) (NH.below hb) (hN.mono aF.size);clear aF AX AY RQ SK NH;clear hb hbn S5;clear hN;obtain ⟨aF,AX,AY,RQ,SK,NH,NV⟩:=S6.o;have HC:=hid (Hr (NV.bR ae).2 (NH.bR ae).2 E.o.r2.1);clear aF AX AY RQ SK NH NV;go_wp2_with fail;refine HC.o.mono ?_;rintro r u7 ⟨v,v2,rfl,hN,hM,hb⟩;obtain ⟨a3,c3,rfl,_⟩:=hN.arg ae;obtain ⟨a4,c4,rfl,_⟩:=hM.arg ae;clear HC;obtain ⟨aF,AX,AY,RQ,SK,NH,NV⟩:=S6.o;have hbn:=aF.trans (hb.mono aF.size);have S7:=r9 hbn (AX.below hb) (AY.below hb) (RQ.below hb) (SK.below hb) (NH.below hb) (hN.mono aF.size) (hM.mono aF.size);clear aF AX AY RQ SK NH NV;clear hb hbn S6;clear hN hM;obtain ⟨aF,AX,AY,RQ,SK,NH,NW,NL⟩:=S7.o;have HC:=hid (HL.o u7 _ _ _ _ _ _ _ _ (NW.bR ae).2 (NL.bR ae).2 AY (NH.bR ae).2);clear aF AX AY RQ SK NH NW NL;go_wp2_with fail;refine HC.o.mono ?_;rintro r u8 ⟨rfl,hb⟩;clear HC;obtain ⟨aF,AX,AY,RQ,SK,NH,NW,NL⟩:=S7.o;have hbn:=aF.trans (hb.mono aF.size);have S8:=r9 hbn (AX.below hb) (AY.below hb) (RQ.below hb) (SK.below hb) (NH.below hb) (NW.below hb) (NL.below hb);clear aF AX AY RQ SK NH NW NL;clear hb hbn S7;obtain ⟨aF,AX,AY,RQ,SK,NH,NW,NL⟩:=S8.o;have HC:=hid (mf 1 u8 ae);clear aF AX AY RQ SK NH NW NL;go_wp2_with fail;refine HC.o.mono ?_;rintro r u9 ⟨v,rfl,hN,hb⟩;obtain ⟨a5,c5,rfl,_⟩:=hN.arg ae;clear HC;obtain ⟨aF,AX,AY,RQ,SK,NH,NW,NL⟩:=S8.o;have hbn:=aF.trans (hb.mono aF.size);have S9:=Af hbn (AX.below hb) (AY.below hb) (RQ.below hb) (SK.below hb) (NH.below hb) (NW.below hb) (NL.below hb) (hN.mono aF.size);clear aF AX AY RQ SK NH NW NL;clear hb hbn S8;clear hN;obtain ⟨aF,AX,AY,RQ,SK,NH,NW,NL,NO⟩:=S9.o;have HC:=hid (uj (NW.bR ae).2 (NO.bR ae).2 E4.o);clear aF AX AY RQ SK NH NW NL NO;go_wp2_with fail;refine HC.o.mono ?_;rintro r u10 ⟨v,rfl,hN,hb⟩;obtain ⟨a6,c6,rfl,_⟩:=hN.arg ae;clear HC;obtain ⟨aF,AX,AY,RQ,SK,NH,NW,NL,NO⟩:=S9.o;have hbn:=aF.trans (hb.mono aF.size);have Hm:=ow hbn (AX.below hb) (AY.below hb) (RQ.below hb) (SK.below hb) (NH.below hb) (NW.below hb) (NL.below hb) (NO.below hb) (hN.mono aF.size);clear aF AX AY RQ SK NH NW NL NO;clear hb hbn S9;clear hN;obtain ⟨aF,AX,AY,RQ,SK,NH,NW,NL,NO,NR⟩:=Hm.o;have hlast:=fB aF NR SK;obtain ⟨x0,x1,x2,x3,x4,x5⟩:=RQ.facts;obtain ⟨s0,s1,s2,wM,wN,wO⟩:=SK.facts;have hsz:=ay (SK.lt);clear aF AX AY RQ SK NH NW NL NO NR;clear Hm E HL;have htA:=ay Gt;clear Gt;go_wp2
 all_goals (
  obtain ⟨aF,NZ,SK⟩:=hlast.o;have hsz:=aF.size;refine aI (tF _ (w.heap.size+1) (.slice a6 (ws WH).length c6) x _ _ rfl (SK.set _ _ _)) rfl ⟨⟨.slice a6 (ws WH).length c6,?_,NZ.Ku SK aO _ _ _⟩,kg aF hsz ae _ _ _⟩;rw [<-htA.o]
  first | rfl | simp [*])
end
end Go.Proofs.YtblkpkgebigojaaGreatDoor
