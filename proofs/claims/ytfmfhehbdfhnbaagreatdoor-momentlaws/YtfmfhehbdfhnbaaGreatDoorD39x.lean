import Derived.Test.YtfmfhehbdfhnbaaGreatDoorD32cx
import Derived.Test.YtfmfhehbdfhnbaaGreatDoorJ11x
import Derived.Test.YtfmfhehbdfhnbaaGreatDoorD8x
import Derived.Test.YtfmfhehbdfhnbaaGreatDoorBIeeex
import Derived.Test.YtfmfhehbdfhnbaaGreatDoorM7x
import Derived.BigQuiet
import Derived.Test.YtfmfhehbdfhnbaaGreatDoorW50x
import Derived.OwnWalk
import Derived.ArgAppend
import Derived.Maps.AppendAt
import Derived.WalkMore
import Derived.Test.YtfmfhehbdfhnbaaGreatDoorW25x
import Derived.Deep.MidRow
import Derived.Deep.RegionWith
set_option linter.unusedVariables false
set_option linter.unusedSimpArgs false
set_option maxHeartbeats 16000000
set_option maxRecDepth 20000
namespace Go.Proofs.YtfmfhehbdfhnbaaGreatDoor
namespace J
end J
section
open Go.RowKit
theorem Oo{w:World}{a:Option Addr}{l c:Nat}{xs:List Nat}{X:Nat}(k:Nat)(h1:Arg w a l c xs)(hX:val xs=X)(hl:l<=2000000)(hk:k<=64000000) :
 Calls Tryz.prog 97 #[.slice a l c,.int .i64 (k:Nat)] w fun r w'=>∃ v,r=.returned v/\Nt w.heap.size w' v (X*2^k)/\Below w.heap.size w w':=by
 obtain⟨q,hq⟩:=ah (k/32);obtain⟨s,hs⟩:=ah (k%32);have e1:(k:Int)/32=(q:Int):=ae
 have e2:(k:Int)%32=(s:Int):=ae
 have hqb:q<=2000000:=ae
 have QA:s<32:=ae
 obtain⟨W1,hW1⟩:=ah (w.alloc (.cells (madeCells #[.int .u32 0] q) 51));have oM:Own W1 w.heap.size (List.replicate q 0):=by rw[hW1];exact Own.made w q
 have hB1:Below w.heap.size w W1:=by rw[hW1];exact(aD _ _).alloc (aC _) _
 have hmk:=eF (q:Int) q rfl ae w;rw[<-hW1] at hmk;have hR:=tV oM (by simp;omega);simp only[yz] at hR;have A1:=h1.below hB1;obtain⟨v',w2,hap,hown,hgrow⟩:=mg W1 w.heap.size _ q (List.replicate q 0) xs a l c W1.heap.size 23 hR A1.len A1.rd A1.nil ae hB1.size;have hB2:Below w.heap.size w w2:=hB1.grown hgrow hB1.size (fun k hk=>by simp[Value.ownBlock] at hk;omega);obtain⟨a2,c2,rfl,hc2,hl2,wC,EW⟩:=Rw.words hown;have AO:Arg w2 a2 (q+l) c2 (List.replicate q 0++xs):=⟨hl2,hc2,ae,(Wf.zeros q).append h1.wf,EW,wC⟩
 have hval:val (List.replicate q 0++xs)=X*pw q:=by
  rw[val_append,qM,hX,yz,eP,cu]
 have hpw:pw q*2^s=2^k:=by
  exact Qbe
 have hps:=uY s QA;obtain⟨p,hp⟩:=ah (2^s)
 have e3:(2:Int)^s=(p:Int):=by
  exact Qae
 have hpl:p<4294967296:=ae
 have T1:=hid (mR (V:=X*2^k) (AO.below (af w2 _)) (qR w2 p ae) ae (by rw[hval];simp only[val];rw[<-hpw,hp,aM];simp));have Mj:=hid hap;have hs2:=hB2.size;have S1:=aA hB2;clear hap hown hgrow hB2 hl2 wC EW AO hval hpw A1 hR oM hB1 h1 hW1 hq hs hps hp hX;go_enter Tryz.func97,Tryz.ntmps97
 go_wp2_with (at_builtin;refine dV rfl (.tmp 39) (.tmp 40) 23 rfl _ _ rfl rfl _ _ Mj.o ?_)
 refine T1.o.mono ?_;rintro r u3 ⟨v3,rfl,fV,hb3⟩;have S2:=(aP fV hb3);clear fV hb3;go_wp2;go_ret;obtain⟨fV,hb3⟩:=S2.o;exact⟨v3,rfl,fV.mono (by simp;omega),S1.o.trans (((af w2 _).trans (hb3.mono aQ)).mono hs2)⟩
theorem Rs {w:World}{a b:Option Addr}{n c m d:Nat}(e f:Int) (x y:Nat) (bx:x<=1125899906842624) (by':y<=1125899906842624) (hx:x=0) (z:Int)
 (H1:Hid (Calls Tryz.prog 177 #[.slice a n c] w fun r w'=>r=.returned (.int .i64 (x:Nat))/\w'=w))
 (H2:Hid (Calls Tryz.prog 177 #[.slice b m d] w fun r w'=>r=.returned (.int .i64 (y:Nat))/\w'=w))
 (HC:Hid (Calls Tryz.prog 107 #[.slice a n c,.slice b m d] w fun r w'=>r=.returned (.int .i64 z)/\Below w.heap.size w w')):Calls Tryz.prog 155 #[.slice a n c,.int .i64 e,.slice b m d,.int .i64 f] w fun r w'=>r=.returned (.int .i64 z)/\Below w.heap.size w w':=by
 have ex:IntKind.u64.wrap (x:Int)=(x:Int):=by rw[nJ];omega
 have ey:IntKind.u64.wrap (y:Int)=(y:Int):=by rw[nJ];omega
 subst hx;go_enter Tryz.func155,Tryz.ntmps155;go_wp2_with fail;refine H1.o.mono ?_;rintro r ww ⟨rfl,hw⟩;rw[hw];clear hw ww;go_wp2_with fail;refine H2.o.mono ?_;rintro r ww ⟨rfl,hw⟩;rw[hw];clear hw ww;go_wp2_with fail;refine HC.o.mono ?_;rintro r u1 ⟨rfl,hb⟩;have S1:=aA hb;clear hb;go_wp2;go_ret;exact⟨rfl,S1.o⟩
theorem Rt {w:World}{a b:Option Addr}{n c m d:Nat}(e f:Int) (x y:Nat) (bx:x<=1125899906842624) (by':y<=1125899906842624) (hx:((x:Int)==0)=false) (hy:y=0) (z:Int)
 (H1:Hid (Calls Tryz.prog 177 #[.slice a n c] w fun r w'=>r=.returned (.int .i64 (x:Nat))/\w'=w))
 (H2:Hid (Calls Tryz.prog 177 #[.slice b m d] w fun r w'=>r=.returned (.int .i64 (y:Nat))/\w'=w))
 (HC:Hid (Calls Tryz.prog 107 #[.slice a n c,.slice b m d] w fun r w'=>r=.returned (.int .i64 z)/\Below w.heap.size w w')):Calls Tryz.prog 155 #[.slice a n c,.int .i64 e,.slice b m d,.int .i64 f] w fun r w'=>r=.returned (.int .i64 z)/\Below w.heap.size w w':=by
 have ex:IntKind.u64.wrap (x:Int)=(x:Int):=by rw[nJ];omega
 have ey:IntKind.u64.wrap (y:Int)=(y:Int):=by rw[nJ];omega
 subst hy;go_enter Tryz.func155,Tryz.ntmps155;go_wp2_with fail;refine H1.o.mono ?_;rintro r ww ⟨rfl,hw⟩;rw[hw];clear hw ww;go_wp2_with fail;refine H2.o.mono ?_;rintro r ww ⟨rfl,hw⟩;rw[hw];clear hw ww;go_wp2_with fail;refine HC.o.mono ?_;rintro r u1 ⟨rfl,hb⟩;have S1:=aA hb;clear hb;go_wp2;go_ret;exact⟨rfl,S1.o⟩
theorem VT {w:World}{a b:Option Addr}{n c m d:Nat}(e f:Int) (x y:Nat) (bx:x<=1125899906842624) (by':y<=1125899906842624) (hx:((x:Int)==0)=false) (hy:((y:Int)==0)=false) (hlt:e<f) (z:Int) (hz0:-1<=z) (hz1:z<=1)
 (H1:Hid (Calls Tryz.prog 177 #[.slice a n c] w fun r w'=>r=.returned (.int .i64 (x:Nat))/\w'=w))
 (H2:Hid (Calls Tryz.prog 177 #[.slice b m d] w fun r w'=>r=.returned (.int .i64 (y:Nat))/\w'=w))
 (HR:Hid (Calls Tryz.prog 155 #[.slice b m d,.int .i64 f,.slice a n c,.int .i64 e] w fun r w'=>r=.returned (.int .i64 z)/\Below w.heap.size w w')):Calls Tryz.prog 155 #[.slice a n c,.int .i64 e,.slice b m d,.int .i64 f] w fun r w'=>r=.returned (.int .i64 (-z))/\Below w.heap.size w w':=by
 have ex:IntKind.u64.wrap (x:Int)=(x:Int):=by rw[nJ];omega
 have ey:IntKind.u64.wrap (y:Int)=(y:Int):=by rw[nJ];omega
 go_enter Tryz.func155,Tryz.ntmps155;go_wp2_with fail;refine H1.o.mono ?_;rintro r ww ⟨rfl,hw⟩;rw[hw];clear hw ww;go_wp2_with fail;refine H2.o.mono ?_;rintro r ww ⟨rfl,hw⟩;rw[hw];clear hw ww;go_wp2_with fail;refine HR.o.mono ?_;rintro r u1 ⟨rfl,hb⟩;have S1:=aA hb;clear hb;go_wp2;go_ret;exact⟨rfl,S1.o⟩
theorem Zj {w:World}{a b:Option Addr}{n c m d:Nat}(e f:Int) (x y:Nat) (bx:x<=1125899906842624) (by':y<=1125899906842624) (hx:((x:Int)==0)=false) (hy:((y:Int)==0)=false) (hge:decide (e<f)=false) (dd:Nat) (hap:IntKind.u64.wrap (IntKind.u64.wrap e-IntKind.u64.wrap f)=(dd:Int)) (hd:1099511627776<dd)
 (H1:Hid (Calls Tryz.prog 177 #[.slice a n c] w fun r w'=>r=.returned (.int .i64 (x:Nat))/\w'=w))
 (H2:Hid (Calls Tryz.prog 177 #[.slice b m d] w fun r w'=>r=.returned (.int .i64 (y:Nat))/\w'=w)):Calls Tryz.prog 155 #[.slice a n c,.int .i64 e,.slice b m d,.int .i64 f] w fun r w'=>r=.returned (.int .i64 1)/\Below w.heap.size w w':=by
 have hd2:(1099511627776:Int)<(dd:Int):=ae
 have ex:IntKind.u64.wrap (x:Int)=(x:Int):=by rw[nJ];omega
 have ey:IntKind.u64.wrap (y:Int)=(y:Int):=by rw[nJ];omega
 go_enter Tryz.func155,Tryz.ntmps155;go_wp2_with fail;refine H1.o.mono ?_;rintro r ww ⟨rfl,hw⟩;rw[hw];clear hw ww;go_wp2_with fail;refine H2.o.mono ?_;rintro r ww ⟨rfl,hw⟩;rw[hw];clear hw ww;go_wp2;go_ret;exact⟨rfl,aD _ _⟩
theorem VU {w:World}{a b:Option Addr}{n c m d:Nat}(e f:Int) (x y:Nat) (bx:x<=1125899906842624) (by':y<=1125899906842624) (hx:((x:Int)==0)=false) (hy:((y:Int)==0)=false) (hge:decide (e<f)=false) (dd:Nat) (hap:IntKind.u64.wrap (IntKind.u64.wrap e-IntKind.u64.wrap f)=(dd:Int)) (hd:dd<=1099511627776) (h1:y<x+dd)
 (H1:Hid (Calls Tryz.prog 177 #[.slice a n c] w fun r w'=>r=.returned (.int .i64 (x:Nat))/\w'=w))
 (H2:Hid (Calls Tryz.prog 177 #[.slice b m d] w fun r w'=>r=.returned (.int .i64 (y:Nat))/\w'=w)):Calls Tryz.prog 155 #[.slice a n c,.int .i64 e,.slice b m d,.int .i64 f] w fun r w'=>r=.returned (.int .i64 1)/\Below w.heap.size w w':=by
 have hd2:decide ((1099511627776:Int)<(dd:Int))=false:=decide_eq_false ae;have hd3:decide (1099511627776<dd)=false:=decide_eq_false ae;have es:IntKind.u64.wrap ((x:Int)+(dd:Int))=(x:Int)+(dd:Int):=by rw[nJ];omega
 have h2:(y:Int)<(x:Int)+(dd:Int):=ae
 have ex:IntKind.u64.wrap (x:Int)=(x:Int):=by rw[nJ];omega
 have ey:IntKind.u64.wrap (y:Int)=(y:Int):=by rw[nJ];omega
 go_enter Tryz.func155,Tryz.ntmps155;go_wp2_with fail;refine H1.o.mono ?_;rintro r ww ⟨rfl,hw⟩;rw[hw];clear hw ww;go_wp2_with fail;refine H2.o.mono ?_;rintro r ww ⟨rfl,hw⟩;rw[hw];clear hw ww;go_wp2;go_ret;exact⟨rfl,aD _ _⟩
theorem VV {w:World}{a b:Option Addr}{n c m d:Nat}(e f:Int) (x y:Nat) (bx:x<=1125899906842624) (by':y<=1125899906842624) (hx:((x:Int)==0)=false) (hy:((y:Int)==0)=false) (hge:decide (e<f)=false) (dd:Nat) (hap:IntKind.u64.wrap (IntKind.u64.wrap e-IntKind.u64.wrap f)=(dd:Int)) (hd:dd<=1099511627776) (h1:x+dd<y)
 (H1:Hid (Calls Tryz.prog 177 #[.slice a n c] w fun r w'=>r=.returned (.int .i64 (x:Nat))/\w'=w))
 (H2:Hid (Calls Tryz.prog 177 #[.slice b m d] w fun r w'=>r=.returned (.int .i64 (y:Nat))/\w'=w)):Calls Tryz.prog 155 #[.slice a n c,.int .i64 e,.slice b m d,.int .i64 f] w fun r w'=>r=.returned (.int .i64 (-1))/\Below w.heap.size w w':=by
 have hd2:decide ((1099511627776:Int)<(dd:Int))=false:=decide_eq_false ae;have hd3:decide (1099511627776<dd)=false:=decide_eq_false ae;have es:IntKind.u64.wrap ((x:Int)+(dd:Int))=(x:Int)+(dd:Int):=by rw[nJ];omega
 have h2:(x:Int)+(dd:Int)<(y:Int):=ae
 have h3:decide ((y:Int)<(x:Int)+(dd:Int))=false:=decide_eq_false ae;have h4:decide (y<x+dd)=false:=decide_eq_false ae;have ex:IntKind.u64.wrap (x:Int)=(x:Int):=by rw[nJ];omega
 have ey:IntKind.u64.wrap (y:Int)=(y:Int):=by rw[nJ];omega
 go_enter Tryz.func155,Tryz.ntmps155;go_wp2_with fail;refine H1.o.mono ?_;rintro r ww ⟨rfl,hw⟩;rw[hw];clear hw ww;go_wp2_with fail;refine H2.o.mono ?_;rintro r ww ⟨rfl,hw⟩;rw[hw];clear hw ww;go_wp2;go_ret;exact⟨rfl,aD _ _⟩
theorem VW {w:World}{a b:Option Addr}{n c m d:Nat}(e f:Int) (x y:Nat) (bx:x<=1125899906842624) (by':y<=1125899906842624) (hx:((x:Int)==0)=false) (hy:((y:Int)==0)=false) (hge:decide (e<f)=false) (dd:Nat) (hap:IntKind.u64.wrap (IntKind.u64.wrap e-IntKind.u64.wrap f)=(dd:Int)) (hd:dd<=64000000) (h1:x+dd=y) (P:Nat) (lP:(ws P).length<=35184372088832) (z:Int)
 (H1:Hid (Calls Tryz.prog 177 #[.slice a n c] w fun r w'=>r=.returned (.int .i64 (x:Nat))/\w'=w))
 (H2:Hid (Calls Tryz.prog 177 #[.slice b m d] w fun r w'=>r=.returned (.int .i64 (y:Nat))/\w'=w))
 (HM:Hid (Calls Tryz.prog 97 #[.slice a n c,.int .i64 (dd:Nat)] w fun r w'=>∃ v,r=.returned v/\Nt w.heap.size w' v P/\Below w.heap.size w w'))
 (HC:Hid (∀ u p q,Below w.heap.size w u->Arg u p (ws P).length q (ws P)->Calls Tryz.prog 107 #[.slice p (ws P).length q,.slice b m d] u fun r w'=>r=.returned (.int .i64 z)/\Below u.heap.size u w')):Calls Tryz.prog 155 #[.slice a n c,.int .i64 e,.slice b m d,.int .i64 f] w fun r w'=>r=.returned (.int .i64 z)/\Below w.heap.size w w':=by
 have hd2:decide ((1099511627776:Int)<(dd:Int))=false:=decide_eq_false ae;have hd3:decide (1099511627776<dd)=false:=decide_eq_false ae;have es:IntKind.u64.wrap ((x:Int)+(dd:Int))=(x:Int)+(dd:Int):=by rw[nJ];omega
 have h2:decide ((x:Int)+(dd:Int)<(y:Int))=false:=decide_eq_false ae;have h3:decide ((y:Int)<(x:Int)+(dd:Int))=false:=decide_eq_false ae;have h4:decide (y<x+dd)=false:=decide_eq_false ae;have h5:decide (x+dd<y)=false:=decide_eq_false ae;have ed:IntKind.i64.wrap (dd:Int)=(dd:Int):=by rw[Em];omega
 clear h1;have ex:IntKind.u64.wrap (x:Int)=(x:Int):=by rw[nJ];omega
 have ey:IntKind.u64.wrap (y:Int)=(y:Int):=by rw[nJ];omega
 go_enter Tryz.func155,Tryz.ntmps155;go_wp2_with fail;refine H1.o.mono ?_;rintro r ww ⟨rfl,hw⟩;rw[hw];clear hw ww;go_wp2_with fail;refine H2.o.mono ?_;rintro r ww ⟨rfl,hw⟩;rw[hw];clear hw ww;go_wp2_with fail;refine HM.o.mono ?_;rintro r u1 ⟨v,rfl,hN,hb⟩;obtain⟨a1,c1,rfl,A1⟩:=hN.arg lP;have Am:=hid (HC.o u1 a1 c1 hb A1);have hs1:=hb.size;have S1:=aA hb;clear hN hb A1;go_wp2_with fail;refine Am.o.mono ?_;rintro r u2 ⟨rfl,hb⟩;have S2:=aA (S1.o.trans (hb.mono hs1));clear hb;go_wp2;go_ret;exact⟨rfl,S2.o⟩
def agV(X:Nat)(e:Int)(Y:Nat)(f:Int):Int:=if X=0\/Y=0 then bJ X Y else vz X e Y f
theorem zo{w:World}{a b:Option Addr}{n c m d:Nat}{xs ys:List Nat}(h1:Arg w a n c xs)(h2:Arg w b m d ys)(hn:n<=2000000)(hm:m<=2000000)(e f:Int)(he0:-9223372036854775808<=e)(he1:e<=9223372036854775807)(hf0:-9223372036854775808<=f)(hf1:f<=9223372036854775807)(h:f<=e)(hX:val xs≠0)(hY:val ys≠0) :
 Calls Tryz.prog 155 #[.slice a n c,.int .i64 e,.slice b m d,.int .i64 f] w fun r w'=>r=.returned (.int .i64 (vz (val xs) e (val ys) f))/\Below w.heap.size w w':=by
 have b1:=h1.big;have b2:=h2.big;have L1:=hid (tO xs a n c w.heap.size w h1.len ae h1.wf h1.rd);have L2:=hid (tO ys b m d w.heap.size w h2.len ae h2.wf h2.rd);have x0:(((bl (val xs):Nat):Int)==0)=false:=by have:=eu _ hX;simp;omega
 have y0:(((bl (val ys):Nat):Int)==0)=false:=by have:=eu _ hY;simp;omega
 have hap:=Nz e f he0 he1 hf0 hf1 h;have hge:decide (e<f)=false:=decide_eq_false ae;have c1:=I4 h1
 have c2:bl (val ys)<=64000000:=by
  have:=bM ys h2.wf;rw[<-h2.len] at this;have:=Qt _ _ this;omega
 unfold vz;rw[if_neg ae];obtain⟨dd,hdd⟩:∃ dd,(e-f).toNat=dd:=⟨_,rfl⟩;rw[hdd] at hap |-;have hb:=Ff (val xs) dd hX
 by_cases k1:1099511627776<dd
 · have:bJ (val xs*2^dd) (val ys)=1:=by
    rw[Dy ae,hb];unfold bJ;rw[if_neg ae,if_pos ae]
   rw[this];exact Zj e f _ _ c1 ae x0 y0 hge dd hap k1 L1 L2
 · by_cases k2:bl (val ys)<bl (val xs)+dd
   · have:bJ (val xs*2^dd) (val ys)=1:=by
      rw[Dy ae,hb];unfold bJ;rw[if_neg ae,if_pos ae]
     rw[this];exact VU e f _ _ c1 ae x0 y0 hge dd hap ae k2 L1 L2
   · by_cases k3:bl (val xs)+dd<bl (val ys)
     · have:bJ (val xs*2^dd) (val ys)=-1:=by
        rw[Dy ae,hb];unfold bJ;rw[if_pos ae]
       rw[this];exact VV e f _ _ c1 ae x0 y0 hge dd hap ae k3 L1 L2
     · have lP:(ws (val xs*2^dd)).length<=35184372088832:=by rw[jg,hb];omega
       obtain⟨P,hP⟩:∃ P,val xs*2^dd=P:=⟨_,rfl⟩;have HM:=hid (Oo (X:=val xs) dd h1 rfl hn ae);rw[hP] at HM lP |-;exact VW e f _ _ c1 ae x0 y0 hge dd hap ae ae P lP _ L1 L2 HM (hid fun u p q hu hA=>lg hA (h2.below hu) _ (by rw[ak]))
theorem wH{w:World}{a b:Option Addr}{n c m d:Nat}{xs ys:List Nat}(h1:Arg w a n c xs)(h2:Arg w b m d ys)(hn:n<=2000000)(hm:m<=2000000)(e f:Int)(he0:-9223372036854775808<=e)(he1:e<=9223372036854775807)(hf0:-9223372036854775808<=f)(hf1:f<=9223372036854775807) :
 Calls Tryz.prog 155 #[.slice a n c,.int .i64 e,.slice b m d,.int .i64 f] w fun r w'=>r=.returned (.int .i64 (agV (val xs) e (val ys) f))/\Below w.heap.size w w':=by
 have b1:=h1.big;have b2:=h2.big;have L1:=hid (tO xs a n c w.heap.size w h1.len ae h1.wf h1.rd);have L2:=hid (tO ys b m d w.heap.size w h2.len ae h2.wf h2.rd);have c1:=I4 h1;have c2:=I4 h2;unfold agV
 by_cases hX:val xs=0
 · rw[if_pos (.inl hX)];exact Rs e f _ _ c1 c2 (by rw[hX,dZ]) _ L1 L2 (hid (lg h1 h2 _ rfl))
 · have x0:(((bl (val xs):Nat):Int)==0)=false:=by have:=eu _ hX;simp;omega
   by_cases hY:val ys=0
   · rw[if_pos (.inr hY)];exact Rt e f _ _ c1 c2 x0 (by rw[hY,dZ]) _ L1 L2 (hid (lg h1 h2 _ rfl))
   · have y0:(((bl (val ys):Nat):Int)==0)=false:=by have:=eu _ hY;simp;omega
     rw[if_neg (fun h=>h.elim hX hY)]
     by_cases h:e<f
     · have hr:=IZ (val ys) f (val xs) e;have:=VT e f _ _ c1 c2 x0 y0 h (vz (val ys) f (val xs) e) ae ae L1 L2 (hid (zo h2 h1 hm hn f e hf0 hf1 he0 he1 ae hY hX));rw[Rf] at this;exact this
     · exact zo h1 h2 hn hm e f he0 he1 hf0 hf1 ae hX hY
theorem X3(X:Nat)(e:Int)(Y:Nat)(f B:Int)(h1:B<=e)(h2:B<=f):agV X e Y f=qg ((X*2^(e-B).toNat:Nat):Int) ((Y*2^(f-B).toNat:Nat):Int):=by
 rw[Rh];unfold agV
 by_cases h:X=0\/Y=0
 · rw[if_pos h];have p1:=KH X (e-B).toNat;have p2:=KH Y (f-B).toNat;generalize X*2^(e-B).toNat=P at p1 |-;generalize Y*2^(f-B).toNat=Q at p2 |-
   have q1:X=0/\P=0\/X≠0/\P≠0:=by
    by_cases h:X=0
    · exact .inl ⟨h,p1.2 h⟩
    · exact .inr ⟨h,fun k=>h (p1.1 k)⟩
   have q2:Y=0/\Q=0\/Y≠0/\Q≠0:=by
    by_cases h:Y=0
    · exact .inl ⟨h,p2.2 h⟩
    · exact .inr ⟨h,fun k=>h (p2.1 k)⟩
   clear p1 p2;unfold bJ;rcases h with h|h
   · rcases q1 with ⟨a,b⟩ | ⟨a,b⟩
     · rcases q2 with ⟨c,d⟩ | ⟨c,d⟩
       · rw[a,b,c,d]
       · rw[a,b,if_pos ae,if_pos ae]
     · exact absurd h a
   · rcases q2 with ⟨c,d⟩ | ⟨c,d⟩
     · rcases q1 with ⟨a,b⟩ | ⟨a,b⟩
       · rw[a,b,c,d]
       · rw[c,d,if_neg ae,if_pos ae,if_neg ae,if_pos ae]
     · exact absurd h c
 · rw[if_neg h];exact NF X e Y f B h1 h2
theorem om(k:Nat)(B:Int)(hB:B<=-1074):(aO k).1*2^((aO k).2-B).toNat=vK k*2^(-1074-B).toNat/\(aO k).1<9007199254740992/\B<=(aO k).2/\((aO k).1=0↔k=0):=by
 unfold aO
 by_cases h:k/4503599627370496=0
 · rw[if_pos h];refine⟨?_,by simp only;omega,by simp only;omega,by simp only;omega⟩;simp only;have:=gm 0 k (.inl rfl) ae;rw[dL,eP,gK,fU] at this;rw[this,show k%4503599627370496=k by omega]
 · rw[if_neg h];obtain⟨q,hq⟩:∃ q,k/4503599627370496=q:=⟨_,rfl⟩;obtain⟨f,hf⟩:∃ f,k%4503599627370496=f:=⟨_,rfl⟩;rw[hq,hf];refine⟨?_,by simp only;omega,by simp only;omega,by simp only;omega⟩;simp only;have:=gm (q-1) (4503599627370496+f) (.inr ae) ae;rw[show(q-1)*4503599627370496+(4503599627370496+f)=k by omega] at this;rw[this,aM,<-aJ,show(-1074+(q:Int)-1-B).toNat=q-1+(-1074-B).toNat by omega]
theorem kI(k:Nat):(ws (aO k).1).length<=8192:=len8 (by have:=tX _ (om k (-1074) (Br _)).2.1;omega)
theorem zt(k:Nat):(aO k).2<=(aO (k+1)).2/\(aO (k+1)).2<=(aO k).2+1/\-1074<=(aO k).2:=by
 unfold aO
 by_cases h:k/4503599627370496=0
 · rw[if_pos h]
   by_cases h':(k+1)/4503599627370496=0
   · rw[if_pos h'];simp only;omega
   · rw[if_neg h'];simp only;omega
 · rw[if_neg h,if_neg ae];simp only;omega
theorem I9(x y:Int):qg x y=-1\/qg x y=0\/qg x y=1:=by
 unfold qg
 exact Qa3
theorem DC{x y:Int}:qg x y=0↔x=y:=by
 unfold qg
 split
 · omega
 · split
   · omega
   · omega
theorem Ru{x y:Int}:0<qg x y↔y<x:=by
 unfold qg
 split
 · omega
 · split
   · omega
   · omega
def xh(X:Nat)(e:Int):Nat:=if X=0 then 0 else I5 X e
def Ja(X:Nat)(e:Int)(k:Nat):Int:=agV (aO k).1 (aO k).2 X e
def Jb(X:Nat)(e:Int)(k:Nat):Int:=agV (X*2) e ((aO k).1+(aO (k+1)).1*2^((aO (k+1)).2-(aO k).2).toNat) (aO k).2
theorem Jc(X:Nat)(e:Int)(he:-1048576<=e)(k:Nat):Ja X e k=qg ((vK k*2^(-1074 - -1048576:Int).toNat:Nat):Int) ((X*2^(e - -1048576).toNat:Nat):Int):=by
 have h:=om k (-1048576) ae;unfold Ja;rw[X3 _ _ _ _ (-1048576) h.2.2.1 he,h.1]
theorem Rx(X:Nat)(e:Int)(he:-1048576<=e)(k:Nat):Jb X e k=qg ((2*(X*2^(e - -1048576).toNat):Nat):Int) ((vK k*2^(-1074 - -1048576:Int).toNat+vK (k+1)*2^(-1074 - -1048576:Int).toNat:Nat):Int):=by
 have h:=om k (-1048576) ae;have h1:=om (k+1) (-1048576) ae;have hs:=zt k;unfold Jb;rw[X3 _ _ _ _ (-1048576) he h.2.2.1,<-h.1,<-h1.1,fI,aM (aO (k+1)).1,<-aJ,show((aO (k+1)).2-(aO k).2).toNat+((aO k).2 - -1048576).toNat=((aO (k+1)).2 - -1048576).toNat by omega,cu X 2,aM 2]
theorem Ry{n:Bool}{X:Nat}{e:Int}(F:o8 n X e)(k:Nat)(hk:k<9218868437227405312)(h1:k=0\/Ja X e k<=0)(h2:k+1=9218868437227405312\/0<Ja X e (k+1)):k=xh X e:=by
 have a1:vK k*2^(-1074 - -1048576:Int).toNat<=X*2^(e - -1048576).toNat:=by
  rcases h1 with rfl|h1
  · rw[show vK 0=0 from B.val_zero _,dL];exact nV _
  · rw[Jc X e F.down,VP] at h1;exact Int.ofNat_le.1 h1
 unfold xh
 by_cases hX:X=0
 · rw[if_pos hX];rw[hX,dL] at a1
   by_cases h0:k=0
   · exact h0
   · have:=KI (K:=0) (L:=k) (aZ (-1074 - -1048576:Int).toNat) ae;omega
 · rw[if_neg hX];have L:=lies X e (ug F hX) F.down F.up (-1048576) F.down ae;refine(L.doc k hk a1 ?_).1;rcases h2 with h2|h2
   · exact .inl h2
   · rw[Jc X e F.down,Ru] at h2;exact .inr (Int.ofNat_lt.1 h2)
theorem VX{n:Bool}{X:Nat}{e:Int}(F:o8 n X e):xh X e<9218868437227405312:=by
 unfold xh
 split
 · omega
 · rename_i hX;exact(lies X e (ug F hX) F.down F.up (-1048576) F.down ae).fin
theorem Zl(mode:Int){n:Bool}{X:Nat}{e:Int}(F:o8 n X e):Oi mode n (xh X e) (Ja X e (xh X e)) (Jb X e (xh X e))=rW mode n X e:=by
 unfold Oi rW;rw[Jc X e F.down,Rx X e F.down]
 by_cases hX:X=0
 · rw[if_pos hX];have hk:xh X e=0:=by unfold xh;rw[if_pos hX]
   rw[hk,if_pos];rw[DC,hX,show vK 0=0 from B.val_zero _,dL,dL]
 · rw[if_neg hX];have L:=lies X e (ug F hX) F.down F.up (-1048576) F.down ae;have hk:xh X e=I5 X e:=by unfold xh;rw[if_neg hX]
   rw[hk,xS]
   have hd:=L.doc (I5 X e) L.fin L.ge (by
    cases ht:(jw 53 (-1074) 1024 X e).2.2.1 with
    | true =>
      have:=L.one ht
      right
      rw[this];exact KI L.pos ae
    | false =>
      rcases L.high ht with h|h
      · exact .inr h
      · exact .inl ae)
   unfold rK
   cases ht:(jw 53 (-1074) 1024 X e).2.2.1 with
   | true =>
     have:=L.one ht;rw[if_pos (DC.2 (by rw[this])),if_pos rfl]
   | false =>
     have h1:=L.low ht;have h2:=hd.2.2 ht;rw[if_neg (fun q=>by have:=Int.ofNat.inj (DC.1 q);omega),<-h2];rfl
theorem Rz{u:World}{p:Option Addr}{s:Nat}{n:Bool}{X:Nat}{e:Int}(A:Arg u p (ws X).length s (ws X))(F:o8 n X e)(mode:Int)(hm0:0<=mode)(sU:mode<=4) :
 Calls Tryz.prog 112 #[.agg #[.int .i64 53,.int .i64 (-1074),.int .u64 9218868437227405312],.bool n,.slice p (ws X).length s,.int .i64 e,.int .i64 mode] u fun r w'=>r=.returned (.int .u64 (rW mode n X e:Nat))/\Below u.heap.size u w':=by
 have hd:=F.down;have hu:=F.up;have lX:=dS F;have hsz:=F.size;have hK:=VX F;rw[<-Zl mode F];obtain⟨K,hKK⟩:∃ K,xh X e=K:=⟨_,rfl⟩;rw[hKK] at hK |-;have b0:=om K (-1074) (Br _);have b1:=om (K+1) (-1074) (Br _);have st:=zt K;have fr:(aO K).2<=1000:=by unfold aO;split <;> simp only <;> omega
 have t2:(ws (X*2)).length<=8193:=by
  rw[jg];have h:=Kw (X:=X*2) (k:=bl X+1) (by have:=iT X;rw[fC];omega);omega
 have hMV:(aO (K+1)).1*2^((aO (K+1)).2-(aO K).2).toNat<2^54:=by
  have hp:2^((aO (K+1)).2-(aO K).2).toNat<=2:=by
   have:((aO (K+1)).2-(aO K).2).toNat<=1:=ae
   exact dW (fe ae this) ae
  have:=iw (aO (K+1)).1 hp;have:=b1.2.1;omega
 have lM:=len8 (X:=(aO (K+1)).1*2^((aO (K+1)).2-(aO K).2).toNat) (by have:=Kw hMV;omega);have lS:=len8 (X:=(aO K).1+(aO (K+1)).1*2^((aO (K+1)).2-(aO K).2).toNat) (by have:=Kw (X:=(aO K).1+(aO (K+1)).1*2^((aO (K+1)).2-(aO K).2).toNat) (k:=55) (by have:=b0.2.1;omega);omega);have hv3:Jb X e K=-1\/Jb X e K=0\/Jb X e K=1:=by rw[Rx X e hd];exact I9 _ _
 have HAg:∀ (k:Nat) (v:World) (q:Option Addr) (t:Nat),k<9218868437227405312->Below u.heap.size u v->Arg v q (ws (aO k).1).length t (ws (aO k).1)->Calls Tryz.prog 155 #[.slice q (ws (aO k).1).length t,.int .i64 (aO k).2,.slice p (ws X).length s,.int .i64 e] v fun r w'=>r=.returned (.int .i64 (Ja X e k))/\Below v.heap.size v w':=fun k v q t hk hb hA=>by
  have hl:=kI k;have hr:-1074<=(aO k).2/\(aO k).2<=1000:=by unfold aO;split <;> simp only <;> omega
  have:=wH hA (A.below hb) ae ae (aO k).2 e ae ae ae ae;rw[ak,ak] at this;exact this
 refine Fz 53 (-1074) 9218868437227405312 n K e (aO K).2 mode (aO K).1 _ _ (kI K) ae hm0 sU hv3 ?_ (hid fun v=>oh K ae v) (hid fun v q t hb hA=>HAg K v q t hK hb hA) ?_
 · refine hid fun v hb=>?_;refine(I8 53 (-1074) 9218868437227405312 e ae ae aO (Ja X e) kI (hid fun k v hk=>oh k ae v) (hid fun k v' q t hk hb' hA=>HAg k v' q t hk (hb.trans (hb'.mono hb.size)) hA)).mono ?_;rintro r w' ⟨⟨k,rfl,hk,h1,h2⟩,hb2⟩;rw[Ry F k hk h1 h2,hKK];exact⟨rfl,hb2⟩
 · refine hid fun v hb=>?_;refine Oh 53 (-1074) 9218868437227405312 (K:Int) ((K+1:Nat):Int) e (aO K).2 (aO (K+1)).2 ((aO (K+1)).2-(aO K).2) (aO K).1 (aO (K+1)).1 ((aO (K+1)).1*2^((aO (K+1)).2-(aO K).2).toNat) ((aO K).1+(aO (K+1)).1*2^((aO (K+1)).2-(aO K).2).toNat) (X*2) (Jb X e K) (kI K) (kI _) lM lS ae ?_ (decide_eq_false ae) ?_ (hid fun v=>oh K ae v) (hid fun v=>oh (K+1) ae v) ?_ ?_ ?_ ?_
   · simp[IntKind.wrap,IntKind.bits,IntKind.signed];omega
   · simp[IntKind.wrap,IntKind.bits,IntKind.signed];omega
   · refine hid fun v' q t lo hN=>?_;have:=qU hN ((aO (K+1)).2-(aO K).2) ae ae (fun h=>by have:=b1.2.2.2.1 h;omega) (by have:=kI (K+1);omega);rw[if_neg ae] at this;exact this
   · exact hid fun v' q t q2 t2 h1 h2=>BM h1 h2 (by have:=kI K;omega) ae (by rw[ak,ak])
   · exact hid fun v' q hb' hA=>mR (A.below (hb.trans (hb'.mono hb.size))) hA ae (by rw[ak];rfl)
   · refine hid fun v' q t q2 t3 h1 h2=>?_;have:=wH h1 h2 ae ae e (aO K).2 ae ae ae ae;rw[ak,ak] at this;exact this
theorem Jd{w:World}{a:Option Addr}{l c:Nat}{xs:List Nat}(h1:Arg w a l c xs)(hl:l<=2000000)(n:Bool)(e mode:Int)(he0:-9223372036854775808<=e)(he1:e<=9223372036854775807) :
 Calls Tryz.prog 78 #[.agg #[.bool n,.slice a l c,.int .i64 e],.int .i64 mode] w fun r w'=>r=.returned (.tuple #[.float .f64 (iC (mkS n (val xs) e) mode).1,.int .i64 (iC (mkS n (val xs) e) mode).2])/\Below w.heap.size w w':=by
 have HM:=hid fun u (hu:Below w.heap.size w u)=>og (h1.below hu) hl n e he0 he1
 by_cases hm0:mode<0
 · have hr:iC (mkS n (val xs) e) mode=(0,1):=by unfold iC;rw[if_pos (.inl hm0)]
   rw[hr];exact Oj n e mode hm0
 · by_cases sU:4<mode
   · have hr:iC (mkS n (val xs) e) mode=(0,1):=by unfold iC;rw[if_pos (.inr sU)]
     rw[hr];exact Ol n e mode (decide_eq_false hm0) sU
   · have lX:=aR n (val xs) e
     cases ho:mkS n (val xs) e with
     | none =>
       rw[ho] at HM lX;have hr:iC none mode=(0,2):=by unfold iC;rw[if_neg ae]
       rw[hr];exact Om n e mode (dN none) (dE none) (dX none) ae ae lX HM
     | some x =>
       obtain⟨nD,XD,eD⟩:=x;have F:=cK ho;rw[ho] at HM lX;rw[qZ mode nD XD eD ae ae];have hle:=rW_le mode nD XD eD F;have HB:=hid fun(u:World) (p:Option Addr) (s:Nat) (hA:Arg u p (ws XD).length s (ws XD))=>Rz hA F mode ae ae
       cases nD with
       | false =>
         refine Ro n e mode eD XD _ _ 0 ae ae lX ae ?_ HM (hid fun u=>tY u) HB;unfold dI rS
         split <;> simp
       | true =>
         have hX:XD≠0:=fun h=>by rcases F.odd with k | ⟨_,k,_⟩;omega;cases k
         refine Rp n e mode eD XD _ _ ((rW mode true XD eD:Nat)+9223372036854775808) ae ae lX ae ?_ ?_ HM (hid fun u=>tY u) HB
         · simp[IntKind.wrap,IntKind.bits,IntKind.signed];omega
         · unfold dI rS;rw[if_neg hX,if_pos rfl];omega
end
section
open Go.RowKit J
theorem Zm(s:Bool)(v:Nat):qX s*(v:Int)=B.sg s v:=by unfold qX B.sg;cases s <;> simp
theorem RA(K:Nat)(hK:K<9218868437227405312)(a:Nat)(ha:a=2045):vK K<9007199254740992*2^a:=by
 have h:=gm a 9007199254740992 (.inr ae) ae;have h2:a*4503599627370496+9007199254740992=9218868437227405312:=by rw[ha]
 rw[<-h,h2];exact qE.2 hK
theorem RB(s:Bool)(K:Nat)(hK:K<9218868437227405312):∃ n X e,XZ s K=some (n,X,e)/\Fo (some (n,X,e)) (B.sg s (vK K)*(UU:Int)) (-1074) 1024/\(X=0↔K=0):=by
 obtain⟨n,X,e,h1,F,h2,h3,h4⟩:=VQ s K hK;refine⟨n,X,e,h1,⟨n,X,e,rfl,F,?_,?_⟩,h3⟩
 · obtain⟨a,ha⟩:∃ a:Nat,(-1074 - -2097152:Int).toNat=a:=⟨_,rfl⟩;have h5:=h4 (-2097152) ae;rw[ha] at h5;rw[h5,US a ae,gM,gM,<-kE,<-kE,Zm]
 · by_cases hX:X=0
   · exact .inl hX
   · right
     have ho:=ug F hX;have hd:=F.down
     -- in units of the form's own place
     have h5:=h4 (min e (-1074)) ae;unfold zv at h5;simp only at h5;rw[h2 hX] at h5
     have h6:X*2^(e-min e (-1074)).toNat=vK K*2^(-1074-min e (-1074)).toNat:=by
      unfold qX at h5
      cases s
      · simp only[fJ,if_false,Int.one_mul] at h5;exact_mod_cast h5
      · simp only[if_true] at h5;have:=Int.eq_of_mul_eq_mul_left aj h5;exact_mod_cast this
     have he:-1074<=e:=by
      apply Int.le_of_not_gt;intro hlt;rw[show(e-min e (-1074)).toNat=0 by omega,gK,fU] at h6;obtain⟨q,hq⟩:∃ q,(-1074-min e (-1074)).toNat=q+1:=⟨(-1074-min e (-1074)).toNat-1,ae⟩;rw[hq,fC,<-aM] at h6;omega
     refine⟨he,?_⟩;rw[show(-1074-min e (-1074)).toNat=0 by omega,gK,fU] at h6;obtain⟨q,hq⟩:∃ q,(e-min e (-1074)).toNat=q:=⟨_,rfl⟩;rw[hq] at h6;obtain⟨c,hc⟩:∃ c:Nat,c=2045:=⟨_,rfl⟩;have h7:=RA K hK c hc;have h8:=iU X hX;have h9:=eu X hX;obtain⟨b,hb⟩:∃ b,bl X=b+1:=⟨bl X-1,ae⟩;rw[hb,mI] at h8;have h10:2^b*2^q<9007199254740992*2^c:=iP (eZ _ h8) (by rw[h6];exact h7);rw[<-aJ,show(9007199254740992:Nat)=2^53 from rfl,<-aJ] at h10;have h11:=(ku (by decide:1<2)).1 h10;omega
theorem RD{n:Bool}{X:Nat}{e T L H:Int}(h:Fo (some (n,X,e)) T L H)(hT:T≠0):X≠0/\n=decide (T<0)/\∀ R,NE R T.natAbs UU->rW 0 n X e=min R 9218868437227405312:=by
 obtain⟨F,hv,_⟩:=h.Zi;have hS:=S_pos;unfold zv at hv;simp only at hv
 have hX:X≠0:=by
  intro h0;rw[h0,dL] at hv;have:T*(SS:Int)=0:=by rw[<-hv];simp
  rcases yD.1 this with h|h <;> omega
 obtain⟨q,hq⟩:∃ q,X*2^(e - -2097152).toNat=q:=⟨_,rfl⟩;have hq0:0<q:=by rw[<-hq];exact iq ae (aZ _)
 rw[hq] at hv
 have hab:q=T.natAbs*SS:=by
  have:=congrArg Int.natAbs hv;rw[yj,yj,CK,CK] at this;rw[<-this];unfold qX;cases n <;> simp
 refine⟨hX,?_,fun R hR=>?_⟩
 · have hTS:T<0->T*(SS:Int)<0:=fun h=>Int.mul_neg_of_neg_of_pos h ae;have hTP:0<T->0<T*(SS:Int):=fun h=>tu h ae;unfold qX at hv
   cases n
   · simp only[fJ,if_false,Int.one_mul] at hv;rw[decide_eq_false (by intro h;have:=hTS h;omega)]
   · simp only[if_true] at hv;rw[decide_eq_true (by apply Int.lt_of_not_ge;intro h;have:=hTP ae;omega)]
 · exact rW_ne F hX (-2097152) ae (V:=T.natAbs) (U:=UU) (S:=SS) (by rw[hq,hab]) (US _ ae) hR
theorem X4(s:Bool)(K:Nat)(hK:K<9218868437227405312){n:Bool}{X:Nat}{e:Int}(h:XZ s K=some (n,X,e))(u:World) :
 Calls Tryz.prog 77 #[.float .f64 (dI s K)] u fun r w'=>(∃ v,r=.returned (.tuple #[.agg #[.bool n,v,.int .i64 e],.int .i64 0])/\Nt u.heap.size w' v X)/\Below u.heap.size u w':=by
 obtain⟨a1,a2,a3,_,_⟩:=mD s K ae;rw[a1];refine(E9 s _ _ a2 a3 u).mono ?_;rintro r w' ⟨⟨v,hr,hN⟩,hb⟩;have h':Vj s (K/4503599627370496) (K%4503599627370496)=some (n,X,e):=h;rw[h'] at hr hN;refine⟨⟨v,?_,hN⟩,hb⟩;rw[hr];unfold QF;rw[if_neg ae];rfl
theorem vC{n:Bool}{X:Nat}{e:Int}(F:o8 n X e):(ws X).length<=8192:=by
 have:=aR n X e;rw[iW F] at this;exact this
theorem Zn{n m:Bool}{X Y:Nat}{e f:Int}(F:o8 n X e)(G:o8 m Y f){o:Option (Bool×Nat×Int)}(ho:fu (some (n,X,e)) (some (m,Y,f))=o)(hs:o.isSome=true)(u:World)(a b:Option Addr)(c d:Nat)(A:Arg u a (ws X).length c (ws X))(C:Arg u b (ws Y).length d (ws Y)) :
 Calls Tryz.prog 31 #[.agg #[.bool n,.slice a (ws X).length c,.int .i64 e],.agg #[.bool m,.slice b (ws Y).length d,.int .i64 f]] u fun r w'=>(∃ v,r=.returned (.tuple #[.agg #[.bool (dN o),v,.int .i64 (dE o)],.int .i64 0])/\Nt u.heap.size w' v (dX o))/\Below u.heap.size u w':=by
 have l1:=vC F;have l2:=vC G;have:=F.down;have:=F.up;have:=G.down;have:=G.up;refine(Cb A C ae ae n m e f ae ae ae ae).mono ?_;rintro r w' ⟨⟨v,hr,hN⟩,hb⟩;rw[ak,ak,iW F,iW G,ho] at hr hN;refine⟨⟨v,?_,hN⟩,hb⟩;rw[hr];unfold o7;rw[if_pos hs]
theorem RF{n:Bool}{X:Nat}{e:Int}(F:o8 n X e){z:Nat}(hz:dI (rS n X) (rW 0 n X e)=z)(u:World)(a:Option Addr)(c:Nat)(A:Arg u a (ws X).length c (ws X)) :
 Calls Tryz.prog 78 #[.agg #[.bool n,.slice a (ws X).length c,.int .i64 e],.int .i64 0] u fun r w'=>r=.returned (.tuple #[.float .f64 z,.int .i64 0])/\Below u.heap.size u w':=by
 have l1:=vC F;have:=F.down;have:=F.up;have h:=Jd A ae n e 0 ae ae;rw[ak,iW F,qZ 0 n X e ae ae,hz] at h;exact h
theorem kinds(x:Nat)(hx:x<18446744073709551616):(qf x=true/\(aK x==9218868437227405312)=false/\(aK x==0)=false/\9218868437227405312<aK x)\/(qf x=false/\(aK x==9218868437227405312)=true/\(aK x==0)=false/\aK x=9218868437227405312)\/(qf x=false/\(aK x==9218868437227405312)=false/\aK x<9218868437227405312):=by
 have e:qf x=decide (9218868437227405312<aK x):=rfl;rcases lZ (aK x) 9218868437227405312 with h|h|h
 · refine .inr (.inr ⟨?_,?_,h⟩)
   · rw[e];simp;omega
   · simp;omega
 · refine .inr (.inl ⟨?_,?_,?_,h⟩)
   · rw[e];simp;omega
   · simp;omega
   · simp;omega
 · refine .inl ⟨?_,?_,?_,h⟩
   · rw[e];simp;omega
   · simp;omega
   · simp;omega
theorem jQ(x:Nat)(h:9218868437227405312<aK x):∃ s t,Ieee.double.read x=.nan s t:=⟨_,_,B.Eo Ieee.double x (by rw[B.oO,B.Er];exact h) hBin⟩
theorem jR(x:Nat)(hx:x<18446744073709551616)(h:aK x=9218868437227405312):Ieee.double.read x=.infinity (aV x):=by
 have e:=qd x hx;rw[h,kR,<-B.oO] at e;rw[e,B.qo Ieee.double _ VR hBin,<-e]
theorem fM(x:Nat)(hx:x<18446744073709551616)(h:aK x<9218868437227405312):∃ m k,Ieee.double.read x=.number (aV x) m (Ieee.double.leastPlace+(k:Nat))/\m*2^k=vK (aK x):=by
 have e:=qd x hx;rw[kR] at e;obtain⟨m,k,h1,h2⟩:=B.jM Ieee.double (aV x) (aK x) (by rw[B.oO];exact h) VR;rw[<-e] at h1;exact⟨m,k,h1,h2⟩
theorem sF(s:Bool):Ieee.double.write (.infinity s)=dI s 9218868437227405312:=by
 rw[kR,<-B.oO];rfl
theorem iK(x y:Nat):sS .mul x y=(((Ieee.double.read x).product (Ieee.double.read y)).map Ieee.double.write).getD jh:=rfl
theorem VY(s:Bool)(K:Nat)(h:K<9223372036854775808):nH (dI s K)=dI (!s) K:=by
 unfold nH dI
 cases s <;> simp <;> omega
end
section
open Go.RowKit
def Fs(B:Nat)(w:World)(ao:Option Addr)(xs:List Nat):Prop :=
 xs≠[]->∃ b off,b<B/\ao=some ⟨b,off,none⟩/\∀ i,i<xs.length->w.cell? ⟨b,off+i,none⟩=some (.float .f64 (xs.getD i 0))
theorem xf{P:Prop}(h:P:=by
 obtain⟨b,off,h1,h2,h3⟩:=h (by intro e;subst e;simp at hi);exact⟨b,off,h2,(hb.cell (p:=⟨b,off+i,none⟩) h1).trans (h3 i hi)⟩):P:=h
theorem Fs.at{B:Nat}{w w':World}{ao:Option Addr}{xs:List Nat}(h:Fs B w ao xs)(hb:Below B w w')(i:Nat)(hi:i<xs.length):∃ b off,ao=some ⟨b,off,none⟩/\w'.cell? ⟨b,off+i,none⟩=some (.float .f64 (xs.getD i 0)):=by
 exact xf
theorem Fs.below{B:Nat}{w w':World}{ao:Option Addr}{xs:List Nat}(h:Fs B w ao xs)(hb:Below B w w'):Fs B w' ao xs:=by
 intro hne;obtain⟨b,off,h1,h2,h3⟩:=h hne;exact⟨b,off,h1,h2,fun i hi=>(hb.cell (p:=⟨b,off+i,none⟩) h1).trans (h3 i hi)⟩
theorem Fs.mono{B B':Nat}{w:World}{ao:Option Addr}{xs:List Nat}(h:Fs B w ao xs)(hb:B<=B'):Fs B' w ao xs:=by
 intro hne;obtain⟨b,off,h1,h2,h3⟩:=h hne;exact⟨b,off,iQ h1 hb,h2,h3⟩
theorem Fs.nil(B:Nat)(w:World)(ao:Option Addr):Fs B w ao []:=fun h=>absurd rfl h
def mE(xs:List Nat):Prop:=∀ x ∈ xs,x<18446744073709551616
theorem mE.get{xs:List Nat}(h:mE xs)(i:Nat):xs.getD i 0<18446744073709551616:=by
 by_cases hi:i<xs.length
 · rw[fF,gD hi];exact h _ (nu hi)
 · rw[fF,qi ae];simp
end
section
open Go.RowKit J

def vD(n:Nat):Value:=.float .f64 n
theorem Tryz.Je:Tryz.prog.underlying 35=some (.slice 28):=by kernel_rfl
theorem Tryz.RG:(Tryz.prog.info? 28).map (fun i=>(i.zero,i.size,i.bytes))=some (some (.float .f64 0),1,8):=by kernel_rfl
def VZ(w:World)(g:Nat)(L:List Nat):Prop:=w.heap[g]?=some (.cells (L.map vD).toArray 28 (0,0))
theorem VZ.cell{w:World}{g:Nat}{L:List Nat}(h:VZ w g L)(i:Nat)(hi:i<L.length):w.cell? ⟨g,i,none⟩=some (.float .f64 (L.getD i 0)):=by
 unfold VZ at h;simp[World.cell?,h,vD,hi]

theorem gW {w:World}{ops:Array Oper}{rest:List Oper}{o:Oper}{a:Act}{Q:Exit->Act->World->Prop}(hgd:o.guard=none) (s x:Operand) (t:TypeId)
 (ho:o.op=.call { callee:=.builtin .append,args:=#[s,x],argTypes:=#[t,t] }) (v u:Value) (hs:a.eval s=v) (hx:a.eval x=u) (v':Value) (w':World)
 (hrun:(Builtin.append_ #[t,t] o.type #[v,u]).run Tryz.prog w=.ok v' w') (h:wpList Tryz.prog ops Q rest (a.put o.dst v') w'):wpList Tryz.prog ops Q (o::rest) a w:=by
 refine wpList_plain hgd fun K hK=>?_;unfold Oper.wp;simp[execOp,ho,resolve,invoke,builtin,hs,hx,hrun,Result.andThen];exact hK _ _ h
theorem zu(lo:Nat)(v:Value)(K:List Nat)(x:Nat)(w:World)(hb:w.ownsRow lo 28 1 v K.length (K.map vD))(hlo:lo<=w.heap.size)(hk:K.length<=1000000) :
 ∃ v' w',(Builtin.append_ #[35,35] 35 #[v,.slice (some ⟨w.heap.size,0,none⟩) 1 1]).run Tryz.prog (w.alloc (.cells #[.float .f64 x] 28))=.ok v' w'/\w'.ownsRow lo 28 1 v' (K++[x]).length ((K++[x]).map vD)/\Below lo w w'/\w.heap.size<=w'.heap.size:=by
 obtain⟨i0,hi,hz0,hz1,hz2⟩:=info_parts Tryz.RG;obtain⟨W,hW⟩:=ah (w.alloc (.cells #[.float .f64 x] 28));have hcx:W.cell? ⟨w.heap.size,0,none⟩=some (.float .f64 x):=by subst hW;unfold World.cell?;simp only[gY];rfl
 have hWb:W.ownsRow lo 28 1 v K.length (K.map vD):=by subst hW;exact World.ownsRow.alloc hb _
 have hWs:w.heap.size<=W.heap.size:=by subst hW;simp
 obtain⟨v',w',r1,r2,r3,_,r5⟩:=run_append_own_at (P:=Tryz.prog) W lo 35 35 28 i0 (.float .f64 0) 1 8 Tryz.Je hi hz0 hz1 hz2 rfl aj v K.length (K.map vD) hWb ⟨w.heap.size,0,none⟩ 1 1 [.float .f64 x] rfl (by
  intro j u hj
  match j,hj with
  | 0,hj=>simp at hj;subst hj;simpa [Addr.add] using hcx) (by intro u hu;simp at hu;subst hu;rfl) (by unfold maxLen;omega) ae ae
 rw[<-hW];refine⟨v',w',r1,?_,?_,?_⟩
 · rw[wh,yg];exact r2
 · have hlw:Below lo w W:=by subst hW;exact(aD _ _).alloc hlo _
   refine⟨r3.os.trans hlw.os,r3.tape.trans hlw.tape,r3.output.trans hlw.output,dW hlw.size r3.size,fun k hkl=>?_⟩
   rw[r3.block k ae (fun e=>by
    rcases hWb.2 with ⟨e2,_⟩|⟨g,cap,cur,e2,hlo2,_⟩
    · rw[e2] at e;simp[Value.ownBlock] at e
    · rw[e2] at e;simp[Value.ownBlock] at e;omega)]
   exact hlw.block k hkl
 · exact dW hWs r3.size
theorem yW{P:Prop}(h:P:=by
 refine⟨h.1,?_⟩;rcases h.2 with hn|⟨g,cap,cur,rfl,hlo,hgc,rest⟩
 · exact .inl hn
 · refine .inr ⟨g,cap,cur,rfl,hlo,?_,rest⟩;rw[hb.block g (gL.1 hgc).1];exact hgc):P:=h
theorem wI{lo:Nat}{w w':World}{v:Value}{n:Nat}{L:List Value}(h:w.ownsRow lo 28 1 v n L)(hb:Below w.heap.size w w'):w'.ownsRow lo 28 1 v n L:=by
 exact yW
theorem fw{w:World}{lo n:Nat}{v:Value}{xs:List Nat}(h:w.ownsRow lo 28 1 v n (xs.map vD))(hn:n=xs.length):∃ a c,v=.slice a n c/\n<=c/\Fs w.heap.size w a xs:=by
 have h':=h;rcases h.2 with ⟨rfl,hn0⟩|⟨g,cap,cur,rfl,hlo,hg,hn1,hm,hs,ht⟩
 · have e:xs=[]:=l7 (by rw[<-hn];simpa using hn0);subst e;have:n=0:=by simpa using hn
   subst this;exact⟨none,0,rfl,aC _,Fs.nil _ _ _⟩
 · refine⟨some ⟨g,0,none⟩,cap,rfl,hn1,fun _=>⟨g,0,(gL.1 hg).1,rfl,fun i hi=>?_⟩⟩;have:=World.ownsRow.cellAt h' i ae;rw[eP,this,List.getElem?_map,gD hi,fF,gD hi];rfl
end
section
open Go.RowKit
def Bl(w:World)(g T:Nat)(C:List Value):Prop:=w.heap[g]?=some (.cells C.toArray T (0,0))
theorem Bl.lt{w:World}{g T:Nat}{C:List Value}(h:Bl w g T C):g<w.heap.size:=(gL.1 h).1
theorem Bl.cell{w:World}{g T:Nat}{C:List Value}(h:Bl w g T C)(i:Nat)(v:Value)(hv:C[i]?=some v):w.cell? ⟨g,i,none⟩=some v:=by
 unfold Bl at h;simp[World.cell?,h,hv]
theorem Bl.frozen{w:World}{g T:Nat}{C:List Value}(h:Bl w g T C)(i:Nat):w.frozen? ⟨g,i,none⟩=false:=by
 unfold Bl at h;simp[World.frozen?,h]
theorem Bl.set{w:World}{g T:Nat}{C:List Value}(h:Bl w g T C)(i:Nat)(v:Value):Bl (w.setCell ⟨g,i,none⟩ v) g T (C.set i v):=by
 unfold Bl at h |-;simp[World.setCell,mJ,h]
theorem Bl.below{w w':World}{g T B:Nat}{C:List Value}(h:Bl w g T C)(hb:Below B w w')(hg:g<B):Bl w' g T C:=by
 unfold Bl at h |-;rw[hb.block g hg];exact h
theorem Bl.but{w w':World}{g g' T:Nat}{C:List Value}(h:Bl w g T C)(hb:But g' w w')(hg:g≠g'):Bl w' g T C:=by
 unfold Bl at h |-;rw[hb.block g (Bl.lt h) hg];exact h
theorem aN(w:World)(o:Obj):Below w.heap.size w (w.alloc o):=(aD _ _).alloc (aC _) _
theorem Bl.alloc{w:World}{g T:Nat}{C:List Value}(h:Bl w g T C)(o:Obj):Bl (w.alloc o) g T C:=by
 unfold Bl at h |-;rw[(aN w o).block g (Bl.lt h)];exact h
theorem Bl.new(w:World)(T:Nat)(C:List Value):Bl (w.alloc (.cells C.toArray T)) w.heap.size T C:=by
 unfold Bl;rw[gY]
end
section
open Go.RowKit
open Go.Proofs.YtfmfhehbdfhnbaaGreatDoor.B (bF aH bw)
attribute [local go_sem] bF aH
def kn(a:Int):Bool:=decide (0<=a)&&decide (a<=2)
def may(a b:Int):Bool:=kn a&&kn b
def ct(a:Int):Bool:=decide (0<=a)&&decide (a<=1099511627776)
theorem jz{P:Prop}(h:P:=by
 go_wp2;go_ret;exact⟨by first | rfl | simp,rfl⟩):P:=h
theorem vE(a:Int)(w:World):Calls Tryz.prog 157 #[.int .i64 a] w fun r w'=>r=.returned (.bool (kn a))/\w'=w:=by
 unfold kn
 by_cases h:0<=a
 · have hd:decide (0<=a)=true:=decide_eq_true h;rw[hd];go_enter Tryz.func157,Tryz.ntmps157;exact jz
 · have hd:decide (0<=a)=false:=decide_eq_false h;rw[hd];go_enter Tryz.func157,Tryz.ntmps157;exact jz
theorem rQ(a:Int)(w:World):Calls Tryz.prog 159 #[.int .i64 a] w fun r w'=>r=.returned (.bool (ct a))/\w'=w:=by
 unfold ct
 by_cases h:0<=a
 · have hd:decide (0<=a)=true:=decide_eq_true h;rw[hd];go_enter Tryz.func159,Tryz.ntmps159;exact jz
 · have hd:decide (0<=a)=false:=decide_eq_false h;rw[hd];go_enter Tryz.func159,Tryz.ntmps159;exact jz
theorem xU(a b:Int)(w:World):Calls Tryz.prog 113 #[.agg #[.int .i64 a,.int .i64 b]] w fun r w'=>r=.returned (.bool (may a b))/\Below w.heap.size w w':=by
 unfold may;rcases ha:kn a with _|_
 · have H:=hid (fun w=>ha ▸ vE a w);clear ha;go_enter Tryz.func113,Tryz.ntmps113;go_wp2_with fail;refine(H.o _).mono ?_;rintro r w1 ⟨rfl,rfl⟩;go_wp2;go_ret;exact⟨rfl,(aD _ _).alloc (aC _) _⟩
 · have H:=hid (fun w=>ha ▸ vE a w);have H2:=hid (fun w=>vE b w);obtain⟨kb,hkb⟩:∃ k,kn b=k:=⟨_,rfl⟩;rw[hkb] at H2 |-;clear ha hkb;go_enter Tryz.func113,Tryz.ntmps113;go_wp2_with fail;refine(H.o _).mono ?_;rintro r w1 ⟨rfl,rfl⟩;go_wp2_with fail;refine(H2.o _).mono ?_;rintro r w1 ⟨rfl,rfl⟩;go_wp2;go_ret;exact⟨by first | rfl | simp,(aD _ _).alloc (aC _) _⟩
theorem V8(w:World):Calls Tryz.prog 119 #[.int .i64 1] w fun r w'=>r=.returned (.float .f64 9218868437227405312)/\w'=w:=by
 go_enter Tryz.func119,Tryz.ntmps119;exact XS
theorem Oq(w:World):Calls Tryz.prog 119 #[.int .i64 (-1)] w fun r w'=>r=.returned (.float .f64 18442240474082181120)/\w'=w:=by
 go_enter Tryz.func119,Tryz.ntmps119;exact XS
open Go.RowKit
open Go.Proofs.YtfmfhehbdfhnbaaGreatDoor.B (bF aH bw aU)
attribute [local go_sem] bF aH
def snd(n u d m p a:Int):Bool:=ct n&&ct u&&ct d&&(ct m&&ct p&&ct a)&&decide (n+u+d+m+p<=a)
theorem We{n:Int}(h:ct n=true):0<=n/\n<=1099511627776:=by unfold ct at h;simpa using h
theorem Wh{n u d m p:Int}(i:Nat)(hi:i<5)(h:ct ([n,u,d,m,p].getD i 0)=false)(a:Int):snd n u d m p a=false:=by
 unfold snd;obtain rfl|rfl|rfl|rfl|rfl:i=0\/i=1\/i=2\/i=3\/i=4:=ae
 all_goals (simp at h;simp[h])
def ps(L:List Int)(i:Nat):Int:=(L.take i).sum
theorem Wi(L:List Int)(i:Nat)(h:i<L.length):ps L (i+1)=ps L i+L.getD i 0:=by
 unfold ps;rw[Cv h,List.sum_append,fF,gD h];simp
theorem jx{P:Prop}(h:P:=by
 rw[ha] at HA HS;clear ha;go_wp2_with fail;refine(HA.o _).mono ?_;rintro r w1 ⟨rfl,rfl⟩;go_wp2;go_ret;exact⟨by rw[HS.o];first | rfl | simp,hbel⟩):P:=h
theorem Ot(n u d m p a:Int)(w:World):Calls Tryz.prog 117 #[.agg #[.int .i64 n,.int .i64 u,.int .i64 d,.int .i64 m,.int .i64 p,.int .i64 a]] w fun r w'=>r=.returned (.bool (snd n u d m p a))/\Below w.heap.size w w':=by
 obtain⟨L,hL⟩:∃ L:List Int,L=[n,u,d,m,p]:=⟨_,rfl⟩;have hlen:L.length=5:=by rw[hL];rfl
 have HL:=(aP hL hlen);obtain⟨W,hW⟩:=ah ((w.alloc (.cells #[.int .i64 n,.int .i64 u,.int .i64 d,.int .i64 m,.int .i64 p,.int .i64 a] 106)).alloc (.cells #[.int .i64 n,.int .i64 u,.int .i64 d,.int .i64 m,.int .i64 p] 177))
 have hcell:∀ i,i<5->W.cell? ⟨w.heap.size+1,i,none⟩=some (.int .i64 (L.getD i 0)):=by
  intro i hi;have h1:=gY (w.alloc (.cells #[.int .i64 n,.int .i64 u,.int .i64 d,.int .i64 m,.int .i64 p,.int .i64 a] 106)) (.cells #[.int .i64 n,.int .i64 u,.int .i64 d,.int .i64 m,.int .i64 p] 177);rw[<-hW] at h1;simp only[dD] at h1;subst hL;simp only[World.cell?,h1];obtain rfl|rfl|rfl|rfl|rfl:i=0\/i=1\/i=2\/i=3\/i=4:=ae
  all_goals simp
 have ha5:W.cell? ⟨w.heap.size,5,none⟩=some (.int .i64 a):=by rw[hW];simp[go_sem]
 have hbel:Below w.heap.size w W:=by rw[hW];exact((aD _ _).alloc (aC _) _).alloc aQ _
 have HC:=(ic hcell hbel hW ha5);clear hL hlen hcell hbel hW ha5;have HA:=hid (rQ a);go_enter Tryz.func117,Tryz.ntmps117;go_wp2
 go_loopg [4,17] 5 (fun gk sv iv wr=>∃ i:Nat,gk+i=5/\sv=.int .i64 (ps L i)/\iv=.int .i64 (i:Nat)/\wr=W/\Aside (∀ j,j<i->ct (L.getD j 0)=true)/\0<=ps L i/\ps L i<=(i:Int)*1099511627776)
 case atStart=>exact⟨0,rfl,rfl,rfl,by rw[HC.o.r2.1],fun j hj=>absurd hj ae,by simp[ps],by simp[ps]⟩
 case round =>
  obtain⟨i,hi,rfl,rfl,rfl,HT,hp0,hp1⟩:=hrel;obtain⟨hcell,hbel,hW,ha5⟩:=HC.o
  by_cases hi5:i=5
  · obtain rfl:gk=0:=ae
    subst hi5
    have hs:snd n u d m p a=(ct a&&decide (ps L 5<=a)):=by
     have h0:=HT.o 0 ae;have h1:=HT.o 1 ae;have h2:=HT.o 2 ae;have h3:=HT.o 3 ae;have h4:=HT.o 4 ae;have e:=HL.o.1;subst e;have e2:ps [n,u,d,m,p] 5=n+u+d+m+p:=by simp[ps];omega
     rw[e2];simp at h0 h1 h2 h3 h4;unfold snd;rw[h0,h1,h2,h3,h4];simp
    obtain⟨q,hq⟩:∃ q,ps L 5=q:=⟨_,rfl⟩;rw[hq] at hp0 hp1 hs |-;have HS:=aA hs;clear hcell hW hs hq;rcases ha:ct a with _|_
    · exact jx
    · exact jx
  · have hil:i<5:=ae
    have hci:=hcell i hil;have HK:=hid (rQ (L.getD i 0));have hps:=Wi L i (by rw[HL.o.2];exact hil);obtain⟨x,hx⟩:∃ x,L.getD i 0=x:=⟨_,rfl⟩;rw[hx] at hci HK hps;rcases hc:ct x with _|_
    · rw[hc] at HK
      have HS:Aside (snd n u d m p a=false):=by
       have h1:=hc;rw[<-hx,HL.o.1] at h1;exact Wh i hil h1 a
      have HB:=aA hbel;clear hcell hbel hW ha5 hps hx hc hi5 HC HL;go_wp2_with fail;refine(HK.o _).mono ?_;rintro r w1 ⟨rfl,rfl⟩;go_wp2;go_ret;exact⟨by rw[HS.o];rfl,HB.o⟩
    · rw[hc] at HK;have hb:=We hc;obtain⟨q,hq⟩:∃ q,ps L i=q:=⟨_,rfl⟩;obtain⟨q2,hq2⟩:∃ q,ps L (i+1)=q:=⟨_,rfl⟩;rw[hq,hq2] at hps;rw[hq] at hp0 hp1 |-;have hq3:q+x=q2:=hps.symm
      have hq4:0<=q2/\q2<=((i:Int)+1)*1099511627776:=by
       have:((i:Int)+1)*1099511627776=(i:Int)*1099511627776+1099511627776:=ae
       omega
      have hq5:q2<=9223372036854775807:=ae
      have hq6:-9223372036854775808<=q2:=ae
      have HR:=(fO hq2 hq4 hx hc hq3);clear hcell hbel hW ha5 hps hx hc hi5 HC hq2 hq hp0 hp1 hb hq4;go_wp2_with fail;refine(HK.o _).mono ?_;rintro r w1 ⟨rfl,rfl⟩;go_wp2;go_roundg (5-(i+1))
      case measure=>omega
      case rel =>
       obtain⟨hq2,hq4,hx,hc,hq3⟩:=HR.o;refine⟨i+1,ae,?_,by first | go_num | (congr 1;omega),rfl,?_,by rw[hq2];exact hq4.1,by rw[hq2];have:=hq4.2;push_cast;exact this⟩
       · first | (rw[hq2];done) | (rw[hq2,<-hq3];done)
       · intro j hj
         by_cases hji:j=i
         · subst hji;rw[hx];exact hc
         · exact HT.o j ae
def vd(ok:Bool)(n u d a b:Int):Nat×Bool :=
 if ok=false then(0,false) else if 0<n/\a=0 then(9221120237041090560,true) else if ¬ b=0 then(0,false)
 else if 0<u/\0<d then(9221120237041090560,true) else if 0<u then(9218868437227405312,true) else if 0<d then(18442240474082181120,true) else(0,false)
end
section
open Go.RowKit
open Go.Proofs.YtfmfhehbdfhnbaaGreatDoor.B (bF aH bw aU)
attribute [local go_sem] bF aH
theorem Xs{P:Prop}(h:P:=by
 go_ret2
 exact⟨by first | rfl | simp,((((aD _ w).alloc (aC _) _).alloc aQ _).trans (B1.o.mono (by simp;omega))).trans (B2.o.mono ae)⟩):P:=h
theorem Jx{P:Prop}(h:P:=by
 go_enter Tryz.func80,Tryz.ntmps80;go_wp2_with fail;refine(HS.o _).mono ?_;rintro r w1 ⟨rfl,hb1⟩;have hz1:=hb1.size;simp at hz1;obtain⟨hc1,hf1⟩:=aU hb1;have B1:=aA hb1;clear hb1;go_wp2_with fail;refine(HM.o _).mono ?_;rintro r w2 ⟨rfl,hb2⟩;have hz2:=hb2.size;obtain⟨hc2,hf2⟩:=aU hb2;have hc3:∀ b o,b<w.heap.size+1+1->w2.cell? ⟨b,o,none⟩=w1.cell? ⟨b,o,none⟩:=fun b o h=>hc2 b o ae;have B2:=aA hb2;clear hb2 hc2 hf2;go_wp2
 go_ret2
 exact⟨by first | rfl | simp,((((aD _ w).alloc (aC _) _).alloc aQ _).trans (B1.o.mono (by simp;omega))).trans (B2.o.mono ae)⟩):P:=h
theorem FH(n u d m p l a b:Int)(w:World):Calls Tryz.prog 80 #[.agg #[.int .i64 n,.int .i64 u,.int .i64 d,.int .i64 m,.int .i64 p,.int .i64 l],.agg #[.int .i64 a,.int .i64 b]] w fun r w'=>r=.returned (.tuple #[.float .f64 (vd (snd n u d m p l&&may a b) n u d a b).1,.bool (vd (snd n u d m p l&&may a b) n u d a b).2])/\Below w.heap.size w w':=by
 have HS:=hid (Ot n u d m p l);have HM:=hid (xU a b);have HN:=hid (B.UE);have HU:=hid (V8);have HD:=hid (Oq);rcases hs:snd n u d m p l with _|_
 · rw[hs] at HS;rw[qj];have hv:vd false n u d a b=(0,false):=by unfold vd;rw[if_pos rfl]
   rw[hv];clear hs hv;go_enter Tryz.func80,Tryz.ntmps80;go_wp2_with fail;refine(HS.o _).mono ?_;rintro r w1 ⟨rfl,hb1⟩;have hz1:=hb1.size;simp at hz1;obtain⟨hc1,hf1⟩:=aU hb1;have B1:=aA hb1;clear hb1;go_wp2
   go_ret2
   exact⟨by first | rfl | simp,(((aD _ w).alloc (aC _) _).alloc aQ _).trans (B1.o.mono (by simp;omega))⟩
 rcases hm:may a b with _|_
 · rw[hs] at HS;rw[hm] at HM;have hv:vd (true&&false) n u d a b=(0,false):=if_pos rfl;rw[hv];clear hs hm hv;exact Jx
 rw[hs] at HS;rw[hm] at HM;rw[tC];clear hs hm
 have way1:0<n->a=0->Calls Tryz.prog 80 #[.agg #[.int .i64 n,.int .i64 u,.int .i64 d,.int .i64 m,.int .i64 p,.int .i64 l],.agg #[.int .i64 a,.int .i64 b]] w fun r w'=>r=.returned (.tuple #[.float .f64 (vd true n u d a b).1,.bool (vd true n u d a b).2])/\Below w.heap.size w w':=by
  intro p1 p2;have hv:vd true n u d a b=(9221120237041090560,true):=by unfold vd;rw[if_neg aj,if_pos ⟨p1,p2⟩]
  rw[hv];clear hv;have q1:0<n:=p1;have q2:a=0:=p2;subst q2;go_enter Tryz.func80,Tryz.ntmps80;go_wp2_with fail;refine(HS.o _).mono ?_;rintro r w1 ⟨rfl,hb1⟩;have hz1:=hb1.size;simp at hz1;obtain⟨hc1,hf1⟩:=aU hb1;have B1:=aA hb1;clear hb1;go_wp2_with fail;refine(HM.o _).mono ?_;rintro r w2 ⟨rfl,hb2⟩;have hz2:=hb2.size;obtain⟨hc2,hf2⟩:=aU hb2;have hc3:∀ b o,b<w.heap.size+1+1->w2.cell? ⟨b,o,none⟩=w1.cell? ⟨b,o,none⟩:=fun b o h=>hc2 b o ae;have B2:=aA hb2;clear hb2 hc2 hf2;go_wp2_with fail;refine(HN.o _).mono ?_;rintro r w3 ⟨rfl,rfl⟩;go_wp2
  exact Xs
 have way2:0<n->¬ (a=0)->¬ (b=0)->Calls Tryz.prog 80 #[.agg #[.int .i64 n,.int .i64 u,.int .i64 d,.int .i64 m,.int .i64 p,.int .i64 l],.agg #[.int .i64 a,.int .i64 b]] w fun r w'=>r=.returned (.tuple #[.float .f64 (vd true n u d a b).1,.bool (vd true n u d a b).2])/\Below w.heap.size w w':=by
  intro p1 p2 p3;have hv:vd true n u d a b=(0,false):=by unfold vd;rw[if_neg aj,if_neg (fun h=>p2 h.2),if_pos p3]
  rw[hv];clear hv;have q1:0<n:=p1;have q2:(a==0)=false:=by rw[beq_eq_false_iff_ne];exact p2
  have q3:(b==0)=false:=by rw[beq_eq_false_iff_ne];exact p3
  exact Jx
 have way3:0<n->¬ (a=0)->b=0->0<u->0<d->Calls Tryz.prog 80 #[.agg #[.int .i64 n,.int .i64 u,.int .i64 d,.int .i64 m,.int .i64 p,.int .i64 l],.agg #[.int .i64 a,.int .i64 b]] w fun r w'=>r=.returned (.tuple #[.float .f64 (vd true n u d a b).1,.bool (vd true n u d a b).2])/\Below w.heap.size w w':=by
  intro p1 p2 p3 p4 p5;have hv:vd true n u d a b=(9221120237041090560,true):=by unfold vd;rw[if_neg aj,if_neg (fun h=>p2 h.2),if_neg (not_not_intro p3),if_pos ⟨p4,p5⟩]
  rw[hv];clear hv;have q1:0<n:=p1;have q2:(a==0)=false:=by rw[beq_eq_false_iff_ne];exact p2
  have q3:b=0:=p3;have q4:0<u:=p4;have q5:0<d:=p5;subst q3;go_enter Tryz.func80,Tryz.ntmps80;go_wp2_with fail;refine(HS.o _).mono ?_;rintro r w1 ⟨rfl,hb1⟩;have hz1:=hb1.size;simp at hz1;obtain⟨hc1,hf1⟩:=aU hb1;have B1:=aA hb1;clear hb1;go_wp2_with fail;refine(HM.o _).mono ?_;rintro r w2 ⟨rfl,hb2⟩;have hz2:=hb2.size;obtain⟨hc2,hf2⟩:=aU hb2;have hc3:∀ b o,b<w.heap.size+1+1->w2.cell? ⟨b,o,none⟩=w1.cell? ⟨b,o,none⟩:=fun b o h=>hc2 b o ae;have B2:=aA hb2;clear hb2 hc2 hf2;go_wp2_with fail;refine(HN.o _).mono ?_;rintro r w3 ⟨rfl,rfl⟩;go_wp2
  exact Xs
 have way4:0<n->¬ (a=0)->b=0->0<u->¬ (0<d)->Calls Tryz.prog 80 #[.agg #[.int .i64 n,.int .i64 u,.int .i64 d,.int .i64 m,.int .i64 p,.int .i64 l],.agg #[.int .i64 a,.int .i64 b]] w fun r w'=>r=.returned (.tuple #[.float .f64 (vd true n u d a b).1,.bool (vd true n u d a b).2])/\Below w.heap.size w w':=by
  intro p1 p2 p3 p4 p5;have hv:vd true n u d a b=(9218868437227405312,true):=by unfold vd;rw[if_neg aj,if_neg (fun h=>p2 h.2),if_neg (not_not_intro p3),if_neg (fun h=>p5 h.2),if_pos p4]
  rw[hv];clear hv;have q1:0<n:=p1;have q2:(a==0)=false:=by rw[beq_eq_false_iff_ne];exact p2
  have q3:b=0:=p3;have q4:0<u:=p4;have q5:decide (0<d)=false:=decide_eq_false p5;subst q3;go_enter Tryz.func80,Tryz.ntmps80;go_wp2_with fail;refine(HS.o _).mono ?_;rintro r w1 ⟨rfl,hb1⟩;have hz1:=hb1.size;simp at hz1;obtain⟨hc1,hf1⟩:=aU hb1;have B1:=aA hb1;clear hb1;go_wp2_with fail;refine(HM.o _).mono ?_;rintro r w2 ⟨rfl,hb2⟩;have hz2:=hb2.size;obtain⟨hc2,hf2⟩:=aU hb2;have hc3:∀ b o,b<w.heap.size+1+1->w2.cell? ⟨b,o,none⟩=w1.cell? ⟨b,o,none⟩:=fun b o h=>hc2 b o ae;have B2:=aA hb2;clear hb2 hc2 hf2;go_wp2_with fail;refine(HU.o _).mono ?_;rintro r w3 ⟨rfl,rfl⟩;go_wp2
  exact Xs
 have way5:0<n->¬ (a=0)->b=0->¬ (0<u)->0<d->Calls Tryz.prog 80 #[.agg #[.int .i64 n,.int .i64 u,.int .i64 d,.int .i64 m,.int .i64 p,.int .i64 l],.agg #[.int .i64 a,.int .i64 b]] w fun r w'=>r=.returned (.tuple #[.float .f64 (vd true n u d a b).1,.bool (vd true n u d a b).2])/\Below w.heap.size w w':=by
  intro p1 p2 p3 p4 p5;have hv:vd true n u d a b=(18442240474082181120,true):=by unfold vd;rw[if_neg aj,if_neg (fun h=>p2 h.2),if_neg (not_not_intro p3),if_neg (fun h=>p4 h.1),if_neg p4,if_pos p5]
  rw[hv];clear hv;have q1:0<n:=p1;have q2:(a==0)=false:=by rw[beq_eq_false_iff_ne];exact p2
  have q3:b=0:=p3;have q4:decide (0<u)=false:=decide_eq_false p4;have q5:0<d:=p5;subst q3;go_enter Tryz.func80,Tryz.ntmps80;go_wp2_with fail;refine(HS.o _).mono ?_;rintro r w1 ⟨rfl,hb1⟩;have hz1:=hb1.size;simp at hz1;obtain⟨hc1,hf1⟩:=aU hb1;have B1:=aA hb1;clear hb1;go_wp2_with fail;refine(HM.o _).mono ?_;rintro r w2 ⟨rfl,hb2⟩;have hz2:=hb2.size;obtain⟨hc2,hf2⟩:=aU hb2;have hc3:∀ b o,b<w.heap.size+1+1->w2.cell? ⟨b,o,none⟩=w1.cell? ⟨b,o,none⟩:=fun b o h=>hc2 b o ae;have B2:=aA hb2;clear hb2 hc2 hf2;go_wp2_with fail;refine(HD.o _).mono ?_;rintro r w3 ⟨rfl,rfl⟩;go_wp2
  exact Xs
 have way6:0<n->¬ (a=0)->b=0->¬ (0<u)->¬ (0<d)->Calls Tryz.prog 80 #[.agg #[.int .i64 n,.int .i64 u,.int .i64 d,.int .i64 m,.int .i64 p,.int .i64 l],.agg #[.int .i64 a,.int .i64 b]] w fun r w'=>r=.returned (.tuple #[.float .f64 (vd true n u d a b).1,.bool (vd true n u d a b).2])/\Below w.heap.size w w':=by
  intro p1 p2 p3 p4 p5;have hv:vd true n u d a b=(0,false):=by unfold vd;rw[if_neg aj,if_neg (fun h=>p2 h.2),if_neg (not_not_intro p3),if_neg (fun h=>p4 h.1),if_neg p4,if_neg p5]
  rw[hv];clear hv;have q1:0<n:=p1;have q2:(a==0)=false:=by rw[beq_eq_false_iff_ne];exact p2
  have q3:b=0:=p3;have q4:decide (0<u)=false:=decide_eq_false p4;have q5:decide (0<d)=false:=decide_eq_false p5;subst q3;exact Jx
 have way7:¬ (0<n)->¬ (b=0)->Calls Tryz.prog 80 #[.agg #[.int .i64 n,.int .i64 u,.int .i64 d,.int .i64 m,.int .i64 p,.int .i64 l],.agg #[.int .i64 a,.int .i64 b]] w fun r w'=>r=.returned (.tuple #[.float .f64 (vd true n u d a b).1,.bool (vd true n u d a b).2])/\Below w.heap.size w w':=by
  intro p1 p3;have hv:vd true n u d a b=(0,false):=by unfold vd;rw[if_neg aj,if_neg (fun h=>p1 h.1),if_pos p3]
  rw[hv];clear hv;have q1:decide (0<n)=false:=decide_eq_false p1;have q3:(b==0)=false:=by rw[beq_eq_false_iff_ne];exact p3
  exact Jx
 have way8:¬ (0<n)->b=0->0<u->0<d->Calls Tryz.prog 80 #[.agg #[.int .i64 n,.int .i64 u,.int .i64 d,.int .i64 m,.int .i64 p,.int .i64 l],.agg #[.int .i64 a,.int .i64 b]] w fun r w'=>r=.returned (.tuple #[.float .f64 (vd true n u d a b).1,.bool (vd true n u d a b).2])/\Below w.heap.size w w':=by
  intro p1 p3 p4 p5;have hv:vd true n u d a b=(9221120237041090560,true):=by unfold vd;rw[if_neg aj,if_neg (fun h=>p1 h.1),if_neg (not_not_intro p3),if_pos ⟨p4,p5⟩]
  rw[hv];clear hv;have q1:decide (0<n)=false:=decide_eq_false p1;have q3:b=0:=p3;have q4:0<u:=p4;have q5:0<d:=p5;subst q3;go_enter Tryz.func80,Tryz.ntmps80;go_wp2_with fail;refine(HS.o _).mono ?_;rintro r w1 ⟨rfl,hb1⟩;have hz1:=hb1.size;simp at hz1;obtain⟨hc1,hf1⟩:=aU hb1;have B1:=aA hb1;clear hb1;go_wp2_with fail;refine(HM.o _).mono ?_;rintro r w2 ⟨rfl,hb2⟩;have hz2:=hb2.size;obtain⟨hc2,hf2⟩:=aU hb2;have hc3:∀ b o,b<w.heap.size+1+1->w2.cell? ⟨b,o,none⟩=w1.cell? ⟨b,o,none⟩:=fun b o h=>hc2 b o ae;have B2:=aA hb2;clear hb2 hc2 hf2;go_wp2_with fail;refine(HN.o _).mono ?_;rintro r w3 ⟨rfl,rfl⟩;go_wp2
  exact Xs
 have way9:¬ (0<n)->b=0->0<u->¬ (0<d)->Calls Tryz.prog 80 #[.agg #[.int .i64 n,.int .i64 u,.int .i64 d,.int .i64 m,.int .i64 p,.int .i64 l],.agg #[.int .i64 a,.int .i64 b]] w fun r w'=>r=.returned (.tuple #[.float .f64 (vd true n u d a b).1,.bool (vd true n u d a b).2])/\Below w.heap.size w w':=by
  intro p1 p3 p4 p5;have hv:vd true n u d a b=(9218868437227405312,true):=by unfold vd;rw[if_neg aj,if_neg (fun h=>p1 h.1),if_neg (not_not_intro p3),if_neg (fun h=>p5 h.2),if_pos p4]
  rw[hv];clear hv;have q1:decide (0<n)=false:=decide_eq_false p1;have q3:b=0:=p3;have q4:0<u:=p4;have q5:decide (0<d)=false:=decide_eq_false p5;subst q3;go_enter Tryz.func80,Tryz.ntmps80;go_wp2_with fail;refine(HS.o _).mono ?_;rintro r w1 ⟨rfl,hb1⟩;have hz1:=hb1.size;simp at hz1;obtain⟨hc1,hf1⟩:=aU hb1;have B1:=aA hb1;clear hb1;go_wp2_with fail;refine(HM.o _).mono ?_;rintro r w2 ⟨rfl,hb2⟩;have hz2:=hb2.size;obtain⟨hc2,hf2⟩:=aU hb2;have hc3:∀ b o,b<w.heap.size+1+1->w2.cell? ⟨b,o,none⟩=w1.cell? ⟨b,o,none⟩:=fun b o h=>hc2 b o ae;have B2:=aA hb2;clear hb2 hc2 hf2;go_wp2_with fail;refine(HU.o _).mono ?_;rintro r w3 ⟨rfl,rfl⟩;go_wp2
  exact Xs
 have way10:¬ (0<n)->b=0->¬ (0<u)->0<d->Calls Tryz.prog 80 #[.agg #[.int .i64 n,.int .i64 u,.int .i64 d,.int .i64 m,.int .i64 p,.int .i64 l],.agg #[.int .i64 a,.int .i64 b]] w fun r w'=>r=.returned (.tuple #[.float .f64 (vd true n u d a b).1,.bool (vd true n u d a b).2])/\Below w.heap.size w w':=by
  intro p1 p3 p4 p5;have hv:vd true n u d a b=(18442240474082181120,true):=by unfold vd;rw[if_neg aj,if_neg (fun h=>p1 h.1),if_neg (not_not_intro p3),if_neg (fun h=>p4 h.1),if_neg p4,if_pos p5]
  rw[hv];clear hv;have q1:decide (0<n)=false:=decide_eq_false p1;have q3:b=0:=p3;have q4:decide (0<u)=false:=decide_eq_false p4;have q5:0<d:=p5;subst q3;go_enter Tryz.func80,Tryz.ntmps80;go_wp2_with fail;refine(HS.o _).mono ?_;rintro r w1 ⟨rfl,hb1⟩;have hz1:=hb1.size;simp at hz1;obtain⟨hc1,hf1⟩:=aU hb1;have B1:=aA hb1;clear hb1;go_wp2_with fail;refine(HM.o _).mono ?_;rintro r w2 ⟨rfl,hb2⟩;have hz2:=hb2.size;obtain⟨hc2,hf2⟩:=aU hb2;have hc3:∀ b o,b<w.heap.size+1+1->w2.cell? ⟨b,o,none⟩=w1.cell? ⟨b,o,none⟩:=fun b o h=>hc2 b o ae;have B2:=aA hb2;clear hb2 hc2 hf2;go_wp2_with fail;refine(HD.o _).mono ?_;rintro r w3 ⟨rfl,rfl⟩;go_wp2
  exact Xs
 have way11:¬ (0<n)->b=0->¬ (0<u)->¬ (0<d)->Calls Tryz.prog 80 #[.agg #[.int .i64 n,.int .i64 u,.int .i64 d,.int .i64 m,.int .i64 p,.int .i64 l],.agg #[.int .i64 a,.int .i64 b]] w fun r w'=>r=.returned (.tuple #[.float .f64 (vd true n u d a b).1,.bool (vd true n u d a b).2])/\Below w.heap.size w w':=by
  intro p1 p3 p4 p5;have hv:vd true n u d a b=(0,false):=by unfold vd;rw[if_neg aj,if_neg (fun h=>p1 h.1),if_neg (not_not_intro p3),if_neg (fun h=>p4 h.1),if_neg p4,if_neg p5]
  rw[hv];clear hv;have q1:decide (0<n)=false:=decide_eq_false p1;have q3:b=0:=p3;have q4:decide (0<u)=false:=decide_eq_false p4;have q5:decide (0<d)=false:=decide_eq_false p5;subst q3;exact Jx
 by_cases p1:0<n
 · by_cases p2:a=0
   · exact way1 p1 p2
   · by_cases p3:b=0
     · by_cases p4:0<u <;> by_cases p5:0<d
       · exact way3 p1 p2 p3 p4 p5
       · exact way4 p1 p2 p3 p4 p5
       · exact way5 p1 p2 p3 p4 p5
       · exact way6 p1 p2 p3 p4 p5
     · exact way2 p1 p2 p3
 · by_cases p3:b=0
   · by_cases p4:0<u <;> by_cases p5:0<d
     · exact way8 p1 p3 p4 p5
     · exact way9 p1 p3 p4 p5
     · exact way10 p1 p3 p4 p5
     · exact way11 p1 p3 p4 p5
   · exact way7 p1 p3
end
section
open Go.RowKit J
theorem RH(s:Bool)(v:Nat):(B.sg s v).natAbs=v:=by unfold B.sg;cases s <;> simp
theorem j7{P:Prop}(h:P:=by
 rw[iK,qx,qy];show Ieee.double.nearest (aV x ^^ aV y) (mx*my) _=_;unfold Ieee.Format.nearest;rw[if_pos (by rw[(nz mx kx _ vx).2 a4];exact dL _),bx,kR]):P:=h
theorem sG(x y:Nat)(hx:x<18446744073709551616)(hy:y<18446744073709551616)(w:World) :
 Calls Tryz.prog 41 #[.float .f64 x,.float .f64 y] w fun r w'=>r=.returned (.float .f64 (sS .mul x y))/\Below w.heap.size w w':=by
 have P1:=fun u=>Cf x hx u;have P2:=fun u=>Cf y hy u;have P3:=fun u=>zn x hx u;have P4:=fun u=>zn y hy u;have P5:=fun u=>qF x hx u;have P6:=fun u=>qF y hy u;have P7:=fun u=>nN x hx u;have P8:=fun u=>nN y hy u;have bx:∀ a b:Bool,(a ^^ b)=(a != b):=by intro a b;cases a <;> cases b <;> rfl
 have kx:((qf x=true/\(aK x==9218868437227405312)=false/\(aK x==0)=false)/\9218868437227405312<aK x)\/((qf x=false/\(aK x==9218868437227405312)=true/\(aK x==0)=false)/\aK x=9218868437227405312)\/((qf x=false/\(aK x==9218868437227405312)=false/\(aK x==0)=true)/\aK x=0)\/((qf x=false/\(aK x==9218868437227405312)=false/\(aK x==0)=false)/\aK x<9218868437227405312/\aK x≠0):=by
  rcases kinds x hx with ⟨a1,a2,a3,a4⟩|⟨a1,a2,a3,a4⟩|⟨a1,a2,a4⟩
  · exact .inl ⟨⟨a1,a2,a3⟩,a4⟩
  · exact .inr (.inl ⟨⟨a1,a2,a3⟩,a4⟩)
  · by_cases h0:aK x=0
    · exact .inr (.inr (.inl ⟨⟨a1,a2,by simp[h0]⟩,h0⟩))
    · exact .inr (.inr (.inr ⟨⟨a1,a2,by simp[h0]⟩,a4,h0⟩))
 have ky:((qf y=true/\(aK y==9218868437227405312)=false/\(aK y==0)=false)/\9218868437227405312<aK y)\/((qf y=false/\(aK y==9218868437227405312)=true/\(aK y==0)=false)/\aK y=9218868437227405312)\/((qf y=false/\(aK y==9218868437227405312)=false/\(aK y==0)=true)/\aK y=0)\/((qf y=false/\(aK y==9218868437227405312)=false/\(aK y==0)=false)/\aK y<9218868437227405312/\aK y≠0):=by
  rcases kinds y hy with ⟨a1,a2,a3,a4⟩|⟨a1,a2,a3,a4⟩|⟨a1,a2,a4⟩
  · exact .inl ⟨⟨a1,a2,a3⟩,a4⟩
  · exact .inr (.inl ⟨⟨a1,a2,a3⟩,a4⟩)
  · by_cases h0:aK y=0
    · exact .inr (.inr (.inl ⟨⟨a1,a2,by simp[h0]⟩,h0⟩))
    · exact .inr (.inr (.inr ⟨⟨a1,a2,by simp[h0]⟩,a4,h0⟩))
 -- numbers: mantissas
 have nz:∀ m k K:Nat,m*2^k=vK K->(m=0↔K=0):=by
  intro m k K h;constructor
  · intro h0;rw[h0,dL] at h;apply Nat.eq_zero_of_not_pos;intro hp;have:vK 0<vK K:=qE.2 hp;rw[show vK 0=0 from B.val_zero _] at this;omega
  · intro h0;rw[h0,show vK 0=0 from B.val_zero _] at h;rcases Nat.mul_eq_zero.1 h with h|h
    · exact h
    · have:=aZ k;omega
 rcases kx with ⟨⟨a1,a2,a3⟩,a4⟩|⟨⟨a1,a2,a3⟩,a4⟩|⟨⟨a1,a2,a3⟩,a4⟩|⟨⟨a1,a2,a3⟩,a4,a5⟩ <;> rcases ky with ⟨⟨b1,b2,b3⟩,b4⟩|⟨⟨b1,b2,b3⟩,b4⟩|⟨⟨b1,b2,b3⟩,b4⟩|⟨⟨b1,b2,b3⟩,b4,b5⟩ <;> simp only[a1,a2,a3,b1,b2,b3] at P3 P4 P5 P6 P7 P8
 · obtain⟨sx,tx,qx⟩:=jQ x a4;obtain⟨sy,ty,qy⟩:=jQ y b4;have e:sS .mul x y=jh:=by rw[iK,qx,qy];rfl
   rw[e];exact NJ x y (aV x) (aV y) w (hid P1) (hid P2) (hid P3) (hid P4) (hid P5) (hid P6) (hid P7) (hid P8)
 · obtain⟨sx,tx,qx⟩:=jQ x a4;have qy:=jR y hy b4;have e:sS .mul x y=jh:=by rw[iK,qx,qy];rfl
   rw[e];exact NK x y (aV x) (aV y) w (hid P1) (hid P2) (hid P3) (hid P4) (hid P5) (hid P6) (hid P7) (hid P8)
 · obtain⟨sx,tx,qx⟩:=jQ x a4;obtain⟨my,ky,qy,vy⟩:=fM y hy ae;have e:sS .mul x y=jh:=by rw[iK,qx,qy];rfl
   rw[e];exact NM x y (aV x) (aV y) w (hid P1) (hid P2) (hid P3) (hid P4) (hid P5) (hid P6) (hid P7) (hid P8)
 · obtain⟨sx,tx,qx⟩:=jQ x a4;obtain⟨my,ky,qy,vy⟩:=fM y hy b4;have e:sS .mul x y=jh:=by rw[iK,qx,qy];rfl
   rw[e];exact NN x y (aV x) (aV y) w (hid P1) (hid P2) (hid P3) (hid P4) (hid P5) (hid P6) (hid P7) (hid P8)
 · have qx:=jR x hx a4;obtain⟨sy,ty,qy⟩:=jQ y b4;have e:sS .mul x y=jh:=by rw[iK,qx,qy];rfl
   rw[e];exact NP x y (aV x) (aV y) w (hid P1) (hid P2) (hid P3) (hid P4) (hid P5) (hid P6) (hid P7) (hid P8)
 · have qx:=jR x hx a4;have qy:=jR y hy b4
   have e:sS .mul x y=dI (aV x != aV y) 9218868437227405312:=by
    rw[iK,qx,qy];show Ieee.double.write (.infinity (aV x ^^ aV y))=_;rw[sF,bx]
   rw[e];exact NU x y (aV x) (aV y) w (hid P1) (hid P2) (hid P3) (hid P4) (hid P5) (hid P6) (hid P7) (hid P8)
 · have qx:=jR x hx a4;obtain⟨my,ky,qy,vy⟩:=fM y hy ae
   have e:sS .mul x y=jh:=by
    rw[iK,qx,qy];unfold Ieee.Datum.product;simp only;rw[if_pos ((nz my ky _ vy).2 b4)];rfl
   rw[e];exact N7 x y (aV x) (aV y) w (hid P1) (hid P2) (hid P3) (hid P4) (hid P5) (hid P6) (hid P7) (hid P8)
 · have qx:=jR x hx a4;obtain⟨my,ky,qy,vy⟩:=fM y hy b4
   have e:sS .mul x y=dI (aV x != aV y) 9218868437227405312:=by
    rw[iK,qx,qy];unfold Ieee.Datum.product;simp only;rw[if_neg (fun h=>b5 ((nz my ky _ vy).1 h))];show Ieee.double.write (.infinity (aV x ^^ aV y))=_;rw[sF,bx]
   rw[e];exact N8 x y (aV x) (aV y) w (hid P1) (hid P2) (hid P3) (hid P4) (hid P5) (hid P6) (hid P7) (hid P8)
 · obtain⟨mx,kx,qx,vx⟩:=fM x hx ae;obtain⟨sy,ty,qy⟩:=jQ y b4;have e:sS .mul x y=jh:=by rw[iK,qx,qy];rfl
   rw[e];exact N9 x y (aV x) (aV y) w (hid P1) (hid P2) (hid P3) (hid P4) (hid P5) (hid P6) (hid P7) (hid P8)
 · obtain⟨mx,kx,qx,vx⟩:=fM x hx ae;have qy:=jR y hy b4
   have e:sS .mul x y=jh:=by
    rw[iK,qx,qy];unfold Ieee.Datum.product;simp only;rw[if_pos ((nz mx kx _ vx).2 a4)];rfl
   rw[e];exact Oa x y (aV x) (aV y) w (hid P1) (hid P2) (hid P3) (hid P4) (hid P5) (hid P6) (hid P7) (hid P8)
 · obtain⟨mx,kx,qx,vx⟩:=fM x hx ae;obtain⟨my,ky,qy,vy⟩:=fM y hy ae
   have e:sS .mul x y=dI (aV x != aV y) 0:=by
    exact j7
   rw[e];exact Ob x y (aV x) (aV y) w (hid P1) (hid P2) (hid P3) (hid P4) (hid P5) (hid P6) (hid P7) (hid P8)
 · obtain⟨mx,kx,qx,vx⟩:=fM x hx ae;obtain⟨my,ky,qy,vy⟩:=fM y hy b4
   have e:sS .mul x y=dI (aV x != aV y) 0:=by
    exact j7
   rw[e];exact Oc x y (aV x) (aV y) w (hid P1) (hid P2) (hid P3) (hid P4) (hid P5) (hid P6) (hid P7) (hid P8)
 · obtain⟨mx,kx,qx,vx⟩:=fM x hx a4;obtain⟨sy,ty,qy⟩:=jQ y b4;have e:sS .mul x y=jh:=by rw[iK,qx,qy];rfl
   rw[e];exact Od x y (aV x) (aV y) w (hid P1) (hid P2) (hid P3) (hid P4) (hid P5) (hid P6) (hid P7) (hid P8)
 · obtain⟨mx,kx,qx,vx⟩:=fM x hx a4;have qy:=jR y hy b4
   have e:sS .mul x y=dI (aV x != aV y) 9218868437227405312:=by
    rw[iK,qx,qy];unfold Ieee.Datum.product;simp only;rw[if_neg (fun h=>a5 ((nz mx kx _ vx).1 h))];show Ieee.double.write (.infinity (aV y ^^ aV x))=_;rw[sF,bx,show(aV y != aV x)=(aV x != aV y) by cases aV x <;> cases aV y <;> rfl]
   rw[e];exact Oe x y (aV x) (aV y) w (hid P1) (hid P2) (hid P3) (hid P4) (hid P5) (hid P6) (hid P7) (hid P8)
 · obtain⟨mx,kx,qx,vx⟩:=fM x hx a4;obtain⟨my,ky,qy,vy⟩:=fM y hy ae
   have e:sS .mul x y=dI (aV x != aV y) 0:=by
    rw[iK,qx,qy];show Ieee.double.nearest (aV x ^^ aV y) (mx*my) _=_;unfold Ieee.Format.nearest;rw[if_pos (by rw[(nz my ky _ vy).2 b4];exact jY _),bx,kR]
   rw[e];exact Og x y (aV x) (aV y) w (hid P1) (hid P2) (hid P3) (hid P4) (hid P5) (hid P6) (hid P7) (hid P8)
 · have ex:=qd x hx;have ey:=qd y hy;obtain⟨nX,X,eX,o1,F1,_⟩:=RB (aV x) (aK x) a4;obtain⟨nY,Y,eY,o2,F2,_⟩:=RB (aV y) (aK y) b4;have FA:=F1.mul F2 ae ae ae;obtain⟨R,hR,hA⟩:=Rm EU rfl (aV x) (aV y) (aK x) (aK y) a4 b4;rw[<-ex,<-ey] at hA;rw[<-Zh] at hR;obtain⟨T,hT⟩:∃ T,B.sg (aV x) (vK (aK x))*B.sg (aV y) (vK (aK y))=T:=⟨_,rfl⟩;rw[hT] at FA;have hTa:T.natAbs=vK (aK x)*vK (aK y):=by rw[<-hT,yj,RH,RH]
   have p1:0<vK (aK x):=by have:vK 0<vK (aK x):=qE.2 ae;rw[show vK 0=0 from B.val_zero _] at this;exact this
   have p2:0<vK (aK y):=by have:vK 0<vK (aK y):=qE.2 ae;rw[show vK 0=0 from B.val_zero _] at this;exact this
   have p3:=iq p1 p2;have hTn:T≠0:=by intro h;rw[h] at hTa;simp at hTa;omega
   have hsg:decide (T<0)=(aV x != aV y):=by
    have q:(0:Int)<(vK (aK x):Int)*(vK (aK y):Int):=by rw[<-gM];omega
    rw[<-hT];unfold B.sg
    cases aV x <;> cases aV y <;> simp[Int.neg_mul,Int.mul_neg] <;> omega
   obtain⟨nS,S,eS,hS,_⟩:=FA.ex;have HA:=hid fun u a b c d A C=>Zn F1.Zi.1 F2.Zi.1 hS rfl u a b c d A C;have HX:=hid fun u=>X4 (aV x) (aK x) a4 o1 u;have HY:=hid fun u=>X4 (aV y) (aK y) b4 o2 u;rw[hS] at FA;rw[<-ex] at HX;rw[<-ey] at HY
   have e:sS .mul x y=dI (aV x != aV y) (min R 9218868437227405312):=by
    show(Ieee.double.mul x y).getD jh=_;rw[hA];rfl
   rw[e];obtain⟨k1,k2,k3⟩:=RD FA hTn;have k4:=k3 R (by rw[hTa];exact hR)
   have hz:dI (rS nS S) (rW 0 nS S eS)=dI (aV x != aV y) (min R 9218868437227405312):=by
    unfold rS;rw[if_neg k1,k4,k2,hsg]
   exact I7 x y _ (aV x) (aV y) nX nY nS X Y S eX eY eS w (vC F1.Zi.1) (vC F2.Zi.1) (vC FA.Zi.1) (hid P1) (hid P2) (hid P3) (hid P4) (hid P5) (hid P6) (hid P7) (hid P8) HX HY HA (hid fun u a c A=>RF FA.Zi.1 hz u a c A)
abbrev Wd(x:Nat):Prop:=x<18446744073709551616
abbrev dR(x:Nat):Prop:=aK x<9218868437227405312
def q8(x:Nat):Int:=B.sg (aV x) (vK (aK x))
theorem Zo(s:Bool)(v:Nat):(B.sg s v).natAbs=v:=RH s v
theorem X5(s:Bool)(K:Nat)(h:K<9218868437227405312):dR (dI s K)/\q8 (dI s K)=B.sg s (vK K):=by
 obtain⟨h1,h2,_⟩:=Dz s K ae;unfold q8;rw[h1,h2];exact⟨by unfold dR;rw[h1];exact h,rfl⟩
end
end Go.Proofs.YtfmfhehbdfhnbaaGreatDoor
