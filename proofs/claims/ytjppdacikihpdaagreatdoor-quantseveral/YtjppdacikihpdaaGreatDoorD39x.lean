import Derived.Test.YtjppdacikihpdaaGreatDoorD32cx
import Derived.Test.YtjppdacikihpdaaGreatDoorBIeeex
import Derived.Test.YtjppdacikihpdaaGreatDoorD19x
import Derived.Deep.RegionWith
import Derived.Deep.RegionHeld3
import Derived.Deep.CutRange
import Derived.Test.YtjppdacikihpdaaGreatDoorD8x
import Derived.Test.YtjppdacikihpdaaGreatDoorU1x
import Derived.Test.YtjppdacikihpdaaGreatDoorS10x
import Derived.Test.YtjppdacikihpdaaGreatDoorM1x
import Derived.Test.YtjppdacikihpdaaGreatDoorW24x
import Derived.Laws.IdiomStrings
import Derived.Test.YtjppdacikihpdaaGreatDoorD15x
import Derived.BigQuiet
import Derived.Deep.Cut
set_option linter.unusedVariables false
set_option linter.unusedSimpArgs false
set_option maxHeartbeats 16000000
set_option maxRecDepth 20000
namespace Go.Proofs.YtjppdacikihpdaaGreatDoor
namespace J
end J
section
open Go.RowKit
theorem JN{w:World}{a:Option Addr}{n c:Nat}{xs:List Nat}(h1:Arg w a n c xs)(ng:Bool)(e:Int) :
 At 197 #[.agg #[.bool ng,.slice a n c,.int .i64 e]] w (.int .i64 (qN ng (val xs))):=by
 have hB:An w (w.alloc (.cells #[.bool ng,.slice a n c,.int .i64 e] 79)):=af w _;have A1:=h1.below hB;have hbig:=h1.big;have H1:=hid (nk xs a n c _ _ A1.len ae A1.wf A1.rd);obtain⟨X,hX⟩:∃X,val xs=X:=⟨_,rfl⟩;rw[hX] at H1 |-;have SB:=ak hB;clear hB A1 h1 hX hbig;unfold qN
 by_cases h0:X=0
 . rw[if_pos h0];have hb:bl X=0:=by rw[h0,dI]
   rw[hb] at H1;clear h0 hb;go_enter Tryz.func197,Tryz.ntmps197;exact qu
 . rw[if_neg h0];obtain⟨b,hb⟩:∃b,bl X=b:=⟨_,rfl⟩;have hb0:((b:Int)==0)=false:=by have:=dM X h0;simp;omega
   rw[hb] at H1;clear h0 hb
   cases ng
   . simp only[eX,if_false];go_enter Tryz.func197,Tryz.ntmps197;exact qu
   . simp only[if_true];go_enter Tryz.func197,Tryz.ntmps197;exact qu
theorem O9{w:World}{a:Option Addr}{l c:Nat}{xs:List Nat}{X:Nat}(k:Nat)(h1:Arg w a l c xs)(hX:val xs=X)(hl:l<=2000000)(hk:k<=64000000) :
 As 113 #[.slice a l c,.int .i64 (k:Nat)] w λr w'=>∃v,r=.returned v/\Nt w.heap.size w' v (X*2^k)/\An w w':=by
 obtain⟨q,hq⟩:=ah (k/32);obtain⟨s,hs⟩:=ah (k%32);have e1:(k:Int)/32=(q:Int):=ae
 have e2:(k:Int)%32=(s:Int):=ae
 have hqb:q<=2000000:=ae
 have RJ:s<32:=ae
 obtain⟨W1,hW1⟩:=ah (w.alloc (.cells (madeCells #[.int .u32 0] q) 162));have kD:Own W1 w.heap.size (List.replicate q 0):=by rw[hW1];exact Own.made w q
 have hB1:An w W1:=by rw[hW1];exact(aD _ _).alloc (aA _) _
 have hmk:=dO (q:Int) q rfl ae w;rw[<-hW1] at hmk;have hR:=tX kD (by simp;omega);simp only[xN] at hR;have A1:=h1.below hB1;obtain⟨v',w2,hap,hown,hgrow⟩:=kP W1 w.heap.size _ q (List.replicate q 0) xs a l c W1.heap.size 77 hR A1.len A1.rd A1.nil ae hB1.size;have hB2:An w w2:=hB1.grown hgrow hB1.size (λk hk=>by simp[Value.ownBlock] at hk;omega);obtain⟨a2,c2,rfl,hc2,hl2,wN,FM⟩:=Rw.words hown;have AO:Arg w2 a2 (q+l) c2 (List.replicate q 0++xs):=⟨hl2,hc2,ae,(Wf.zeros q).append h1.wf,FM,wN⟩
 have hval:val (List.replicate q 0++xs)=X*pw q:=by
  rw[val_append,kX,hX,xN,dA,cK]
 have hpw:pw q*2^s=2^k:=by
  exact Qb5
 have hps:=uZ s RJ;obtain⟨p,hp⟩:=ah (2^s)
 have e3:(2:Int)^s=(p:Int):=by
  exact Qa1
 have hpl:p<4294967296:=ae
 have T1:=hid (lN (V:=X*2^k) (AO.below (af w2 _)) (tT w2 p ae) ae (by rw[hval];simp only[val];rw[<-hpw,hp,aQ];simp));have Nf:=hid hap;have hs2:=hB2.size;have S1:=ak hB2;clear hap hown hgrow hB2 hl2 wN FM AO hval hpw A1 hR kD hB1 h1 hW1 hq hs hps hp hX;go_enter Tryz.func113,Tryz.ntmps113
 go_wp2_with (at_builtin;refine dC rfl (.tmp 39) (.tmp 40) 77 rfl _ _ rfl rfl _ _ Nf.o ?_)
 refine T1.o.mono ?_;rintro r u3 ⟨v3,rfl,uT,hb3⟩;have S2:=(bA uT hb3);clear uT hb3;go_wp2;go_ret;obtain⟨uT,hb3⟩:=S2.o;exact⟨v3,rfl,uT.mono (by simp;omega),S1.o.trans (((af w2 _).trans (hb3.mono aN)).mono hs2)⟩
theorem Tq {w:World}{a b:Option Addr}{n c m d:Nat}(e f:Int) (x y:Nat) (bx:x<=1125899906842624) (by':y<=1125899906842624) (hx:x=0) (z:Int)
 (H1:Hid (Ax 194 #[.slice a n c] w (.int .i64 (x:Nat))))
 (H2:Hid (Ax 194 #[.slice b m d] w (.int .i64 (y:Nat))))
 (HC:Hid (At 115 #[.slice a n c,.slice b m d] w (.int .i64 z))):At 216 #[.slice a n c,.int .i64 e,.slice b m d,.int .i64 f] w (.int .i64 z):=by
 have ex:IntKind.u64.wrap (x:Int)=(x:Int):=by rw[kC];omega
 have ey:IntKind.u64.wrap (y:Int)=(y:Int):=by rw[kC];omega
 subst hx;go_enter Tryz.func216,Tryz.ntmps216;go_wp2_with fail;refine H1.o.mono ?_;rintro r ww ⟨rfl,hw⟩;rw[hw];clear hw ww;go_wp2_with fail;refine H2.o.mono ?_;rintro r ww ⟨rfl,hw⟩;rw[hw];clear hw ww;go_wp2_with fail;refine HC.o.mono ?_;rintro r u1 ⟨rfl,hb⟩;have S1:=ak hb;clear hb;go_wp2;go_ret;exact⟨rfl,S1.o⟩
theorem Tt {w:World}{a b:Option Addr}{n c m d:Nat}(e f:Int) (x y:Nat) (bx:x<=1125899906842624) (by':y<=1125899906842624) (hx:((x:Int)==0)=false) (hy:y=0) (z:Int)
 (H1:Hid (Ax 194 #[.slice a n c] w (.int .i64 (x:Nat))))
 (H2:Hid (Ax 194 #[.slice b m d] w (.int .i64 (y:Nat))))
 (HC:Hid (At 115 #[.slice a n c,.slice b m d] w (.int .i64 z))):At 216 #[.slice a n c,.int .i64 e,.slice b m d,.int .i64 f] w (.int .i64 z):=by
 have ex:IntKind.u64.wrap (x:Int)=(x:Int):=by rw[kC];omega
 have ey:IntKind.u64.wrap (y:Int)=(y:Int):=by rw[kC];omega
 subst hy;go_enter Tryz.func216,Tryz.ntmps216;go_wp2_with fail;refine H1.o.mono ?_;rintro r ww ⟨rfl,hw⟩;rw[hw];clear hw ww;go_wp2_with fail;refine H2.o.mono ?_;rintro r ww ⟨rfl,hw⟩;rw[hw];clear hw ww;go_wp2_with fail;refine HC.o.mono ?_;rintro r u1 ⟨rfl,hb⟩;have S1:=ak hb;clear hb;go_wp2;go_ret;exact⟨rfl,S1.o⟩
theorem Xp {w:World}{a b:Option Addr}{n c m d:Nat}(e f:Int) (x y:Nat) (bx:x<=1125899906842624) (by':y<=1125899906842624) (hx:((x:Int)==0)=false) (hy:((y:Int)==0)=false) (hlt:e<f) (z:Int) (hz0:-1<=z) (hz1:z<=1)
 (H1:Hid (Ax 194 #[.slice a n c] w (.int .i64 (x:Nat))))
 (H2:Hid (Ax 194 #[.slice b m d] w (.int .i64 (y:Nat))))
 (HR:Hid (At 216 #[.slice b m d,.int .i64 f,.slice a n c,.int .i64 e] w (.int .i64 z))):At 216 #[.slice a n c,.int .i64 e,.slice b m d,.int .i64 f] w (.int .i64 (-z)):=by
 have ex:IntKind.u64.wrap (x:Int)=(x:Int):=by rw[kC];omega
 have ey:IntKind.u64.wrap (y:Int)=(y:Int):=by rw[kC];omega
 go_enter Tryz.func216,Tryz.ntmps216;go_wp2_with fail;refine H1.o.mono ?_;rintro r ww ⟨rfl,hw⟩;rw[hw];clear hw ww;go_wp2_with fail;refine H2.o.mono ?_;rintro r ww ⟨rfl,hw⟩;rw[hw];clear hw ww;go_wp2_with fail;refine HR.o.mono ?_;rintro r u1 ⟨rfl,hb⟩;have S1:=ak hb;clear hb;go_wp2;go_ret;exact⟨rfl,S1.o⟩
theorem ag_far {w:World}{a b:Option Addr}{n c m d:Nat}(e f:Int) (x y:Nat) (bx:x<=1125899906842624) (by':y<=1125899906842624) (hx:((x:Int)==0)=false) (hy:((y:Int)==0)=false) (hge:decide (e<f)=false) (dd:Nat) (hap:IntKind.u64.wrap (IntKind.u64.wrap e-IntKind.u64.wrap f)=(dd:Int)) (hd:1099511627776<dd)
 (H1:Hid (Ax 194 #[.slice a n c] w (.int .i64 (x:Nat))))
 (H2:Hid (Ax 194 #[.slice b m d] w (.int .i64 (y:Nat)))):At 216 #[.slice a n c,.int .i64 e,.slice b m d,.int .i64 f] w (.int .i64 1):=by
 have hd2:(1099511627776:Int)<(dd:Int):=ae
 have ex:IntKind.u64.wrap (x:Int)=(x:Int):=by rw[kC];omega
 have ey:IntKind.u64.wrap (y:Int)=(y:Int):=by rw[kC];omega
 go_enter Tryz.func216,Tryz.ntmps216;go_wp2_with fail;refine H1.o.mono ?_;rintro r ww ⟨rfl,hw⟩;rw[hw];clear hw ww;go_wp2_with fail;refine H2.o.mono ?_;rintro r ww ⟨rfl,hw⟩;rw[hw];clear hw ww;go_wp2;go_ret;exact⟨rfl,aD _ _⟩
theorem Xq {w:World}{a b:Option Addr}{n c m d:Nat}(e f:Int) (x y:Nat) (bx:x<=1125899906842624) (by':y<=1125899906842624) (hx:((x:Int)==0)=false) (hy:((y:Int)==0)=false) (hge:decide (e<f)=false) (dd:Nat) (hap:IntKind.u64.wrap (IntKind.u64.wrap e-IntKind.u64.wrap f)=(dd:Int)) (hd:dd<=1099511627776) (h1:y<x+dd)
 (H1:Hid (Ax 194 #[.slice a n c] w (.int .i64 (x:Nat))))
 (H2:Hid (Ax 194 #[.slice b m d] w (.int .i64 (y:Nat)))):At 216 #[.slice a n c,.int .i64 e,.slice b m d,.int .i64 f] w (.int .i64 1):=by
 have hd2:decide ((1099511627776:Int)<(dd:Int))=false:=decide_eq_false ae;have hd3:decide (1099511627776<dd)=false:=decide_eq_false ae;have es:IntKind.u64.wrap ((x:Int)+(dd:Int))=(x:Int)+(dd:Int):=by rw[kC];omega
 have h2:(y:Int)<(x:Int)+(dd:Int):=ae
 have ex:IntKind.u64.wrap (x:Int)=(x:Int):=by rw[kC];omega
 have ey:IntKind.u64.wrap (y:Int)=(y:Int):=by rw[kC];omega
 go_enter Tryz.func216,Tryz.ntmps216;go_wp2_with fail;refine H1.o.mono ?_;rintro r ww ⟨rfl,hw⟩;rw[hw];clear hw ww;go_wp2_with fail;refine H2.o.mono ?_;rintro r ww ⟨rfl,hw⟩;rw[hw];clear hw ww;go_wp2;go_ret;exact⟨rfl,aD _ _⟩
theorem Xr {w:World}{a b:Option Addr}{n c m d:Nat}(e f:Int) (x y:Nat) (bx:x<=1125899906842624) (by':y<=1125899906842624) (hx:((x:Int)==0)=false) (hy:((y:Int)==0)=false) (hge:decide (e<f)=false) (dd:Nat) (hap:IntKind.u64.wrap (IntKind.u64.wrap e-IntKind.u64.wrap f)=(dd:Int)) (hd:dd<=1099511627776) (h1:x+dd<y)
 (H1:Hid (Ax 194 #[.slice a n c] w (.int .i64 (x:Nat))))
 (H2:Hid (Ax 194 #[.slice b m d] w (.int .i64 (y:Nat)))):At 216 #[.slice a n c,.int .i64 e,.slice b m d,.int .i64 f] w (.int .i64 (-1)):=by
 have hd2:decide ((1099511627776:Int)<(dd:Int))=false:=decide_eq_false ae;have hd3:decide (1099511627776<dd)=false:=decide_eq_false ae;have es:IntKind.u64.wrap ((x:Int)+(dd:Int))=(x:Int)+(dd:Int):=by rw[kC];omega
 have h2:(x:Int)+(dd:Int)<(y:Int):=ae
 have h3:decide ((y:Int)<(x:Int)+(dd:Int))=false:=decide_eq_false ae;have h4:decide (y<x+dd)=false:=decide_eq_false ae;have ex:IntKind.u64.wrap (x:Int)=(x:Int):=by rw[kC];omega
 have ey:IntKind.u64.wrap (y:Int)=(y:Int):=by rw[kC];omega
 go_enter Tryz.func216,Tryz.ntmps216;go_wp2_with fail;refine H1.o.mono ?_;rintro r ww ⟨rfl,hw⟩;rw[hw];clear hw ww;go_wp2_with fail;refine H2.o.mono ?_;rintro r ww ⟨rfl,hw⟩;rw[hw];clear hw ww;go_wp2;go_ret;exact⟨rfl,aD _ _⟩
theorem Xt {w:World}{a b:Option Addr}{n c m d:Nat}(e f:Int) (x y:Nat) (bx:x<=1125899906842624) (by':y<=1125899906842624) (hx:((x:Int)==0)=false) (hy:((y:Int)==0)=false) (hge:decide (e<f)=false) (dd:Nat) (hap:IntKind.u64.wrap (IntKind.u64.wrap e-IntKind.u64.wrap f)=(dd:Int)) (hd:dd<=64000000) (h1:x+dd=y) (P:Nat) (lP:(ws P).length<=35184372088832) (z:Int)
 (H1:Hid (Ax 194 #[.slice a n c] w (.int .i64 (x:Nat))))
 (H2:Hid (Ax 194 #[.slice b m d] w (.int .i64 (y:Nat))))
 (HM:Hid (As 113 #[.slice a n c,.int .i64 (dd:Nat)] w λr w'=>∃v,r=.returned v/\Nt w.heap.size w' v P/\An w w'))
 (HC:Hid (∀u p q,An w u->Arg u p (ws P).length q (ws P)->At 115 #[.slice p (ws P).length q,.slice b m d] u (.int .i64 z))):At 216 #[.slice a n c,.int .i64 e,.slice b m d,.int .i64 f] w (.int .i64 z):=by
 have hd2:decide ((1099511627776:Int)<(dd:Int))=false:=decide_eq_false ae;have hd3:decide (1099511627776<dd)=false:=decide_eq_false ae;have es:IntKind.u64.wrap ((x:Int)+(dd:Int))=(x:Int)+(dd:Int):=by rw[kC];omega
 have h2:decide ((x:Int)+(dd:Int)<(y:Int))=false:=decide_eq_false ae;have h3:decide ((y:Int)<(x:Int)+(dd:Int))=false:=decide_eq_false ae;have h4:decide (y<x+dd)=false:=decide_eq_false ae;have h5:decide (x+dd<y)=false:=decide_eq_false ae;have ed:IntKind.i64.wrap (dd:Int)=(dd:Int):=by rw[QD];omega
 clear h1;have ex:IntKind.u64.wrap (x:Int)=(x:Int):=by rw[kC];omega
 have ey:IntKind.u64.wrap (y:Int)=(y:Int):=by rw[kC];omega
 go_enter Tryz.func216,Tryz.ntmps216;go_wp2_with fail;refine H1.o.mono ?_;rintro r ww ⟨rfl,hw⟩;rw[hw];clear hw ww;go_wp2_with fail;refine H2.o.mono ?_;rintro r ww ⟨rfl,hw⟩;rw[hw];clear hw ww;go_wp2_with fail;refine HM.o.mono ?_;rintro r u1 ⟨v,rfl,hN,hb⟩;obtain⟨a1,c1,rfl,A1⟩:=hN.arg lP;have HC1:=hid (HC.o u1 a1 c1 hb A1);have hs1:=hb.size;have S1:=ak hb;clear hN hb A1;go_wp2_with fail;refine HC1.o.mono ?_;rintro r u2 ⟨rfl,hb⟩;have S2:=ak (S1.o.trans (hb.mono hs1));clear hb;go_wp2;go_ret;exact⟨rfl,S2.o⟩
def Zb(X:Nat)(e:Int)(Y:Nat)(f:Int):Int:=if X=0\/Y=0 then bI X Y else vz X e Y f
theorem zu{w:World}{a b:Option Addr}{n c m d:Nat}{xs ys:List Nat}(h1:Arg w a n c xs)(h2:Arg w b m d ys)(hn:n<=2000000)(hm:m<=2000000)(e f:Int)(he0:-9223372036854775808<=e)(he1:e<=9223372036854775807)(hf0:-9223372036854775808<=f)(hf1:f<=9223372036854775807)(h:f<=e)(hX:val xs≠0)(hY:val ys≠0) :
 At 216 #[.slice a n c,.int .i64 e,.slice b m d,.int .i64 f] w (.int .i64 (vz (val xs) e (val ys) f)):=by
 have b1:=h1.big;have b2:=h2.big;have L1:=hid (nk xs a n c w.heap.size w h1.len ae h1.wf h1.rd);have L2:=hid (nk ys b m d w.heap.size w h2.len ae h2.wf h2.rd);have x0:(((bl (val xs):Nat):Int)==0)=false:=by have:=dM _ hX;simp;omega
 have y0:(((bl (val ys):Nat):Int)==0)=false:=by have:=dM _ hY;simp;omega
 have hap:=O3 e f he0 he1 hf0 hf1 h;have hge:decide (e<f)=false:=decide_eq_false ae;have c1:=JM h1
 have c2:bl (val ys)<=64000000:=by
  have:=dh ys h2.wf;rw[<-h2.len] at this;have:=RA _ _ this;omega
 unfold vz;rw[if_neg ae];obtain⟨dd,hdd⟩:∃dd,(e-f).toNat=dd:=⟨_,rfl⟩;rw[hdd] at hap |-;have hb:=Gg (val xs) dd hX
 by_cases k1:1099511627776<dd
 . have:bI (val xs*2^dd) (val ys)=1:=by
    rw[DT ae,hb];unfold bI;rw[if_neg ae,if_pos ae]
   rw[this];exact ag_far e f _ _ c1 ae x0 y0 hge dd hap k1 L1 L2
 . by_cases k2:bl (val ys)<bl (val xs)+dd
   . have:bI (val xs*2^dd) (val ys)=1:=by
      rw[DT ae,hb];unfold bI;rw[if_neg ae,if_pos ae]
     rw[this];exact Xq e f _ _ c1 ae x0 y0 hge dd hap ae k2 L1 L2
   . by_cases k3:bl (val xs)+dd<bl (val ys)
     . have:bI (val xs*2^dd) (val ys)=-1:=by
        rw[DT ae,hb];unfold bI;rw[if_pos ae]
       rw[this];exact Xr e f _ _ c1 ae x0 y0 hge dd hap ae k3 L1 L2
     . have lP:(ws (val xs*2^dd)).length<=35184372088832:=by rw[ic,hb];omega
       obtain⟨P,hP⟩:∃P,val xs*2^dd=P:=⟨_,rfl⟩;have HM:=hid (O9 (X:=val xs) dd h1 rfl hn ae);rw[hP] at HM lP |-;exact Xt e f _ _ c1 ae x0 y0 hge dd hap ae ae P lP _ L1 L2 HM (hid λu p q hu hA=>jZ hA (h2.below hu) _ (by rw[aB]))
theorem Gq{w:World}{a b:Option Addr}{n c m d:Nat}{xs ys:List Nat}(h1:Arg w a n c xs)(h2:Arg w b m d ys)(hn:n<=2000000)(hm:m<=2000000)(e f:Int)(he0:-9223372036854775808<=e)(he1:e<=9223372036854775807)(hf0:-9223372036854775808<=f)(hf1:f<=9223372036854775807) :
 At 216 #[.slice a n c,.int .i64 e,.slice b m d,.int .i64 f] w (.int .i64 (Zb (val xs) e (val ys) f)):=by
 have b1:=h1.big;have b2:=h2.big;have L1:=hid (nk xs a n c w.heap.size w h1.len ae h1.wf h1.rd);have L2:=hid (nk ys b m d w.heap.size w h2.len ae h2.wf h2.rd);have c1:=JM h1;have c2:=JM h2;unfold Zb
 by_cases hX:val xs=0
 . rw[if_pos (.inl hX)];exact Tq e f _ _ c1 c2 (by rw[hX,dI]) _ L1 L2 (hid (jZ h1 h2 _ rfl))
 . have x0:(((bl (val xs):Nat):Int)==0)=false:=by have:=dM _ hX;simp;omega
   by_cases hY:val ys=0
   . rw[if_pos (.inr hY)];exact Tt e f _ _ c1 c2 x0 (by rw[hY,dI]) _ L1 L2 (hid (jZ h1 h2 _ rfl))
   . have y0:(((bl (val ys):Nat):Int)==0)=false:=by have:=dM _ hY;simp;omega
     rw[if_neg (λh=>h.elim hX hY)]
     by_cases h:e<f
     . have hr:=JL (val ys) f (val xs) e;have:=Xp e f _ _ c1 c2 x0 y0 h (vz (val ys) f (val xs) e) ae ae L1 L2 (hid (zu h2 h1 hm hn f e hf0 hf1 he0 he1 ae hY hX));rw[Te] at this;exact this
     . exact zu h1 h2 hn hm e f he0 he1 hf0 hf1 ae hX hY
theorem agV_z(X:Nat)(e:Int)(Y:Nat)(f B:Int)(h1:B<=e)(h2:B<=f):Zb X e Y f=jC ((X*2^(e-B).toNat:Nat):Int) ((Y*2^(f-B).toNat:Nat):Int):=by
 rw[Tf];unfold Zb
 by_cases h:X=0\/Y=0
 . rw[if_pos h];have p1:=Me X (e-B).toNat;have p2:=Me Y (f-B).toNat;generalize X*2^(e-B).toNat=P at p1 |-;generalize Y*2^(f-B).toNat=Q at p2 |-
   have q1:X=0/\P=0\/X≠0/\P≠0:=by
    by_cases h:X=0
    . exact .inl ⟨h,p1.2 h⟩
    . exact .inr ⟨h,λk=>h (p1.1 k)⟩
   have q2:Y=0/\Q=0\/Y≠0/\Q≠0:=by
    by_cases h:Y=0
    . exact .inl ⟨h,p2.2 h⟩
    . exact .inr ⟨h,λk=>h (p2.1 k)⟩
   clear p1 p2;unfold bI;rcases h with h|h
   . rcases q1 with ⟨a,b⟩ | ⟨a,b⟩
     . rcases q2 with ⟨c,d⟩ | ⟨c,d⟩
       . rw[a,b,c,d]
       . rw[a,b,if_pos ae,if_pos ae]
     . exact absurd h a
   . rcases q2 with ⟨c,d⟩ | ⟨c,d⟩
     . rcases q1 with ⟨a,b⟩ | ⟨a,b⟩
       . rw[a,b,c,d]
       . rw[c,d,if_neg ae,if_pos ae,if_neg ae,if_pos ae]
     . exact absurd h c
 . rw[if_neg h];exact O7 X e Y f B h1 h2
theorem Tu(k:Nat)(B:Int)(hB:B<=-1074):(gX k).1*2^((gX k).2-B).toNat=vK k*2^(-1074-B).toNat/\(gX k).1<9007199254740992/\B<=(gX k).2/\((gX k).1=0↔k=0):=by
 unfold gX
 by_cases h:k/4503599627370496=0
 . rw[if_pos h];refine⟨?_,by simp only;omega,by simp only;omega,by simp only;omega⟩;simp only;have:=iO 0 k (.inl rfl) ae;rw[fe,dA,fO,eQ] at this;rw[this,show k%4503599627370496=k by omega]
 . rw[if_neg h];obtain⟨q,hq⟩:∃q,k/4503599627370496=q:=⟨_,rfl⟩;obtain⟨f,hf⟩:∃f,k%4503599627370496=f:=⟨_,rfl⟩;rw[hq,hf];refine⟨?_,by simp only;omega,by simp only;omega,by simp only;omega⟩;simp only;have:=iO (q-1) (4503599627370496+f) (.inr ae) ae;rw[show(q-1)*4503599627370496+(4503599627370496+f)=k by omega] at this;rw[this,aQ,<-aP,show(-1074+(q:Int)-1-B).toNat=q-1+(-1074-B).toNat by omega]
end
section
open Go.RowKit J
theorem sg1_sg(s:Bool)(v:Nat):oH s*(v:Int)=B.sg s v:=by unfold oH B.sg;cases s <;> simp
theorem Tv(K:Nat)(hK:K<9218868437227405312)(a:Nat)(ha:a=2045):vK K<9007199254740992*2^a:=by
 have h:=iO a 9007199254740992 (.inr ae) ae;have h2:a*4503599627370496+9007199254740992=9218868437227405312:=by rw[ha]
 rw[<-h,h2];exact Gp.2 hK
theorem of_fo(s:Bool)(K:Nat)(hK:K<9218868437227405312):∃n X e,Vz s K=some (n,X,e)/\Fo (some (n,X,e)) (B.sg s (vK K)*(UU:Int)) (-1074) 1024/\(X=0↔K=0):=by
 obtain⟨n,X,e,h1,F,h2,h3,h4⟩:=Xo s K hK;refine⟨n,X,e,h1,⟨n,X,e,rfl,F,?_,?_⟩,h3⟩
 . obtain⟨a,ha⟩:∃a:Nat,(-1074 - -2097152:Int).toNat=a:=⟨_,rfl⟩;have h5:=h4 (-2097152) ae;rw[ha] at h5;rw[h5,US a ae,eD,eD,<-mD,<-mD,sg1_sg]
 . by_cases hX:X=0
   . exact .inl hX
   . right
     have ho:=Xn F hX;have hd:=F.down
     -- in units of the form's own place
     have h5:=h4 (min e (-1074)) ae;unfold zv at h5;simp only at h5;rw[h2 hX] at h5
     have h6:X*2^(e-min e (-1074)).toNat=vK K*2^(-1074-min e (-1074)).toNat:=by
      unfold oH at h5
      cases s
      . simp only[eX,if_false,Int.one_mul] at h5;exact_mod_cast h5
      . simp only[if_true] at h5;have:=Int.eq_of_mul_eq_mul_left aM h5;exact_mod_cast this
     have he:-1074<=e:=by
      apply Int.le_of_not_gt;intro hlt;rw[show(e-min e (-1074)).toNat=0 by omega,fO,eQ] at h6;obtain⟨q,hq⟩:∃q,(-1074-min e (-1074)).toNat=q+1:=⟨(-1074-min e (-1074)).toNat-1,ae⟩;rw[hq,dS,<-aQ] at h6;omega
     refine⟨he,?_⟩;rw[show(-1074-min e (-1074)).toNat=0 by omega,fO,eQ] at h6;obtain⟨q,hq⟩:∃q,(e-min e (-1074)).toNat=q:=⟨_,rfl⟩;rw[hq] at h6;obtain⟨c,hc⟩:∃c:Nat,c=2045:=⟨_,rfl⟩;have h7:=Tv K hK c hc;have h8:=iw X hX;have h9:=dM X hX;obtain⟨b,hb⟩:∃b,bl X=b+1:=⟨bl X-1,ae⟩;rw[hb,mX] at h8;have h10:2^b*2^q<9007199254740992*2^c:=iC (dL _ h8) (by rw[h6];exact h7);rw[<-aP,show(9007199254740992:Nat)=2^53 from rfl,<-aP] at h10;have h11:=(kH (by decide:1<2)).1 h10;omega
theorem absSg(s:Bool)(v:Nat):(B.sg s v).natAbs=v:=by unfold B.sg;cases s <;> simp
abbrev Wd(x:Nat):Prop:=x<18446744073709551616
abbrev bO(x:Nat):Prop:=bB x<9218868437227405312
def vC(x:Nat):Int:=B.sg (dH x) (vK (bB x))
theorem sg_abs(s:Bool)(v:Nat):(B.sg s v).natAbs=v:=absSg s v
theorem iP{x:Nat}(hx:x<18446744073709551616)(fx:bO x):LF x=dH x/\vK (bB x)=wT x*2^(Ez x+1074).toNat/\-1074<=Ez x/\((j5 x=0/\wT x=0)\/((j5 x=1\/j5 x=2)/\wT x≠0)):=by
 have hm:bB x=eW x*4503599627370496+fW x:=by unfold bB eW fW;omega
 have he:eW x<2047:=by have h:bB x<9218868437227405312:=fx;omega
 have hf:fW x<4503599627370496:=iB _ aM;refine⟨by unfold LF B.ng;rw[if_neg ae];rfl,?_⟩
 by_cases h0:eW x=0
 . have hfr:wT x=fW x:=by unfold wT B.fr;rw[if_neg ae,if_pos h0];simp
   have hxp:Ez x=-1074:=by unfold Ez B.xp;rw[if_neg ae,if_pos h0]
   have hv:vK (bB x)=fW x:=by
    have:=iO 0 (fW x) (.inl rfl) ae;rw[hm,h0];simpa using this
   refine⟨by rw[hv,hfr,hxp];simp,ae,?_⟩
   by_cases hz:fW x=0
   . exact .inl ⟨by unfold j5 B.cls;rw[if_neg ae,if_pos h0,if_pos hz],ae⟩
   . exact .inr ⟨.inl (by unfold j5 B.cls;rw[if_neg ae,if_pos h0,if_neg hz]),ae⟩
 . have hfr:wT x=fW x+4503599627370496:=by unfold wT B.fr;rw[if_neg ae,if_neg h0];omega
   have hxp:Ez x=(eW x:Int)-1075:=by unfold Ez B.xp;rw[if_neg ae,if_neg h0]
   have hv:vK (bB x)=(fW x+4503599627370496)*2^(eW x-1):=by
    have:=iO (eW x-1) (fW x+4503599627370496) (.inr ae) ae;rw[<-this,hm,show eW x*4503599627370496+fW x=(eW x-1)*4503599627370496+(fW x+4503599627370496) by omega]
   refine⟨by rw[hv,hfr,hxp,show((eW x:Int)-1075+1074).toNat=eW x-1 by omega],ae,.inr ⟨.inr (by unfold j5 B.cls;rw[if_neg ae,if_neg h0]),ae⟩⟩
theorem Xu(a b:Bool)(f g i j:Nat):lJ (!(a==b)) (f*g*2^(i+j))=B.sg a (f*2^i)*B.sg b (g*2^j):=by
 have e:f*g*2^(i+j)=(f*2^i)*(g*2^j):=by
  rw[aP,rH]
 rw[e];generalize f*2^i=P;generalize g*2^j=Q;unfold lJ B.sg
 cases a <;> cases b <;> simp[Int.neg_mul,Int.mul_neg]
theorem pT_mul{x y:Nat}(hx:x<18446744073709551616)(hy:y<18446744073709551616)(fx:bO x)(fy:bO y):pT x y=vC x*vC y/\(pK x y=0\/pK x y=4\/pK x y=5):=by
 obtain⟨n1,v1,x1,c1⟩:=iP hx fx;obtain⟨n2,v2,x2,c2⟩:=iP hy fy;unfold pT pK vC;rw[n1,n2,v1,v2]
 by_cases hz:j5 x=0\/j5 y=0
 . have hmin:min (j5 x) (j5 y)=0:=ae
   have hmax:max (j5 x) (j5 y)<=2:=ae
   have hpk:pk (max (j5 x) (j5 y)) (min (j5 x) (j5 y)) (!dH x==dH y)=4\/pk (max (j5 x) (j5 y)) (min (j5 x) (j5 y)) (!dH x==dH y)=5:=by
    unfold pk;rw[hmin,if_neg ae,if_neg ae,if_pos rfl]
    split
    . exact .inl rfl
    . exact .inr rfl
   refine⟨?_,.inr hpk⟩;rw[p8 ae];rcases c1 with ⟨_,f1⟩|⟨k1,_⟩
   . rw[f1];simp[B.sg]
   . rcases c2 with ⟨_,f2⟩ | ⟨k2,_⟩
     . rw[f2];simp[B.sg]
     . omega
 . have hpk:pk (max (j5 x) (j5 y)) (min (j5 x) (j5 y)) (!dH x==dH y)=0:=by
    unfold pk;rw[if_neg ae,if_neg ae,if_neg ae]
   refine⟨?_,.inl hpk⟩;rw[LB hpk,show(Ez x+Ez y+2148).toNat=(Ez x+1074).toNat+(Ez y+1074).toNat by omega];have e:(!dH x==dH y)=!(dH x==dH y):=by cases dH x <;> cases dH y <;> rfl
   rw[e];exact Xu _ _ _ _ _ _
theorem DU{x:Nat}(h:9218868437227405312<bB x):j5 x=4:=by
 have hm:bB x=eW x*4503599627370496+fW x:=by unfold bB eW fW;omega
 have hf:fW x<4503599627370496:=iB _ aM;have he:eW x<2048:=by have:bB x<9223372036854775808:=iB _ aM;omega
 unfold j5 B.cls;rw[if_pos ae,if_neg ae]
theorem vD{x:Nat}(h:bB x=9218868437227405312):j5 x=3/\LF x=dH x:=by
 have hm:bB x=eW x*4503599627370496+fW x:=by unfold bB eW fW;omega
 have hf:fW x<4503599627370496:=iB _ aM;unfold j5 B.cls LF B.ng;rw[if_pos ae,if_pos ae,if_neg ae];exact Xs
theorem Tw(x:Nat):0<=j5 x/\j5 x<=4:=by unfold j5 B.cls;(repeat' split) <;> omega
end
section
open Go.RowKit
theorem jg{n a b:Nat}(hn:0<n):a^n<b^n↔a<b:=Nat.pow_lt_pow_iff_left ae
theorem Gr{n a b:Nat}(hn:0<n):a^n=b^n↔a=b:=by
 constructor
 . intro h;rcases ni a b with k|k|k
   . have:=(jg hn).2 k;omega
   . exact k
   . have:=(jg hn).2 k;omega
 . intro h;rw[h]
structure Tx (v:Nat->Nat) (top:Nat):Prop where
 one:1<top
 zero:v 0=0
 mono:∀{k l},k<l->v k<v l
 step:∀k,k<top->∃c j,v k=c*2^j/\v (k+1)=(c+1)*2^j/\c<9007199254740992/\j<=2045
structure kg (v:Nat->Nat) (top n:Nat) (K:Nat) (t:Bool) (m:Int) (V S:Nat):Prop where
 fin:K<top
 pos:0<S
 one:t=true->V=v K^n*S
 low:t=false->v K^n*S<V
 Xk:t=false->V<v (K+1)^n*S->(m=-1/\2^n*V<(v K+v (K+1))^n*S\/m=0/\2^n*V=(v K+v (K+1))^n*S\/m=1/\(v K+v (K+1))^n*S<2^n*V)
 high:t=false->V<v (K+1)^n*S\/(K+1=top/\m=1)
def Alike(n P Q V S:Nat):Prop:=∀c j,c<=18014398509481984->j<=2046->((c*2^j)*Q<2*P↔(c*2^j)^n*S<2^n*V)/\((c*2^j)*Q=2*P↔(c*2^j)^n*S=2^n*V)
theorem wW(n a S V:Nat):((2*a)^n*S<2^n*V↔a^n*S<V)/\((2*a)^n*S=2^n*V↔a^n*S=V):=by
 have h:(2*a)^n*S=2^n*(a^n*S):=by rw[Aw,aQ]
 have hp:0<2^n:=bG n;rw[h];exact⟨Nat.mul_lt_mul_left hp,⟨λh=>Nat.eq_of_mul_eq_mul_left hp h,λh=>by rw[h]⟩⟩
theorem kg.Ty{v:Nat->Nat}{top n K:Nat}{t:Bool}{m:Int}{P Q V S:Nat}(G:Tx v top)(hn:0<n)(h:kg v top 1 K t m P Q)(hS:0<S)(hA:Alike n P Q V S):kg v top n K t m V S:=by
 obtain⟨c,j,e1,e2,hc,hj⟩:=G.step K h.fin;have a1:=hA (2*c) j ae ae;have a2:=hA (2*(c+1)) j ae ae;have a3:=hA (2*c+1) j ae ae;have g1:2*c*2^j=2*v K:=by rw[e1,aQ]
 have g2:2*(c+1)*2^j=2*v (K+1):=by rw[e2,aQ]
 have g3:(2*c+1)*2^j=v K+v (K+1):=by rw[e1,e2,<-fT];congr 1;omega
 rw[g1] at a1;rw[g2] at a2;rw[g3] at a3;have b1:=wW n (v K) S V;have b2:=wW n (v (K+1)) S V;rw[b1.1,b1.2] at a1;rw[b2.1,b2.2] at a2;have d1:2*v K*Q=2*(v K*Q):=aQ _ _ _;have d2:2*v (K+1)*Q=2*(v (K+1)*Q):=aQ _ _ _;rw[d1] at a1;rw[d2] at a2;have h1:=h.one;have h2:=h.low;have h3:=h.Xk;have h4:=h.high;simp only[mr] at h1 h2 h3 h4;generalize v K*Q=A at *;generalize v (K+1)*Q=B at *;generalize (v K+v (K+1))*Q=C at *
 have ge:∀{x y x' y':Nat},((x<y↔x'<y')/\(x=y↔x'=y'))->(y<x↔y'<x'):=by
  intro x y x' y' ⟨p,q⟩;constructor
  . intro hh;rcases ni x' y' with k|k|k
    . have:=p.2 k;omega
    . have:=q.2 k;omega
    . exact k
  . intro hh;rcases ni x y with k|k|k
    . have:=p.1 k;omega
    . have:=q.1 k;omega
    . exact k
 have Xv:=ge a2;have a3':=ge a3;refine⟨h.fin,hS,λht=>?_,λht=>?_,λht hlt=>?_,λht=>?_⟩
 . have:=h1 ht;exact(a1.2.1 ae).symm
 . exact a1.1.1 (by have:=h2 ht;omega)
 . have hb:P<B:=by have:=Xv.2 hlt;omega
   rcases h3 ht hb with ⟨q,r⟩|⟨q,r⟩|⟨q,r⟩
   . exact .inl ⟨q,a3'.1 r⟩
   . exact .inr (.inl ⟨q,(a3.2.1 r.symm).symm⟩)
   . exact .inr (.inr ⟨q,a3.1.1 r⟩)
 . rcases h4 ht with q | q
   . exact .inl (Xv.1 ae)
   . exact .inr q
theorem Qbq{P:Prop}(h:P:=by
 exact⟨⟨λh=>by omega,λh=>by omega⟩,⟨λh=>by omega,λh=>by omega⟩⟩):P:=h
theorem JO (n R p q V S d:Nat) (hn:0<n) (hS:0<S) (hR:9007199254740992<=R) (hd:d<=1)
 (h0:d=0->V*(2^q)^n=(R*2^p)^n*S) (h1:d=1->(R*2^p)^n*S<V*(2^q)^n/\V*(2^q)^n<((R+1)*2^p)^n*S) :
 Alike n ((2*R+d)*2^p) (2*2^q) V S:=by
 intro c j hc hj;have hq:0<(2^q)^n:=wy (bG q)
 -- both sides times 2^q
 have f1:(c*2^j)^n*S<2^n*V↔(c*2^(j+q))^n*S<2^n*(V*(2^q)^n):=by
  rw[<-kI hq]
  have:(c*2^j)^n*S*(2^q)^n=(c*2^(j+q))^n*S:=by
   rw[Au,<-Aw,aQ c,<-aP]
  rw[this,aQ]
 have f2:(c*2^j)^n*S=2^n*V↔(c*2^(j+q))^n*S=2^n*(V*(2^q)^n):=by
  have e:(c*2^j)^n*S*(2^q)^n=(c*2^(j+q))^n*S:=by
   rw[Au,<-Aw,aQ c,<-aP]
  rw[<-e,<-aQ (2^n)];exact⟨λh=>by rw[h],λh=>pz hq h⟩
 have f3:c*2^j*(2*2^q)=2*(c*2^(j+q)):=by rw[aP,<-aQ c,Nat.mul_left_comm]
 rw[f1,f2,f3];generalize V*(2^q)^n=U at *;have g0:∀a:Nat,(2*a)^n*S=2^n*(a^n*S):=λa=>by rw[Aw,aQ]
 have hp2:0<2^n:=bG n;have hlt2:(c*2^(j+q)<(2*R+d)*2^p↔2*(c*2^(j+q))<2*((2*R+d)*2^p)):=ae
 have heq2:(c*2^(j+q)=(2*R+d)*2^p↔2*(c*2^(j+q))=2*((2*R+d)*2^p)):=ae
 rw[<-hlt2,<-heq2]
 -- powers times S
 have L:∀a b:Nat,(a^n*S<b^n*S↔a<b):=λa b=>by rw[kI hS,jg hn]
 have E:∀a b:Nat,(a^n*S=b^n*S↔a=b):=λa b=>⟨λh=>(Gr hn).1 (pz hS h),λh=>by rw[h]⟩;rcases kG d with hd0|hd1
 . subst hd0;have hU:=h0 rfl;have k1:(2*(R*2^p))^n*S=2^n*U:=by rw[g0,<-hU]
   have k2:(2*R+0)*2^p=2*(R*2^p):=by rw[il,aQ]
   rw[k2,<-k1,L,E];exact⟨Iff.rfl,Iff.rfl⟩
 . obtain rfl:d=1:=ae
   obtain⟨u1,u2⟩:=h1 rfl;have k1:(2*(R*2^p))^n*S<2^n*U:=by rw[g0];exact Ao u1 hp2
   have k2:2^n*U<(2*((R+1)*2^p))^n*S:=by rw[g0];exact Ao u2 hp2
   have below:∀x,x<=2*(R*2^p)->(x<(2*R+1)*2^p↔x^n*S<2^n*U)/\(x=(2*R+1)*2^p↔x^n*S=2^n*U):=by
    intro x hx
    have y1:x<(2*R+1)*2^p:=by
     have:=bG p;rw[fT,aQ,ik];omega
    have y2:x^n*S<2^n*U:=by
     refine iC ?_ k1;exact dL _ (Nat.pow_le_pow_left hx n)
    exact⟨⟨λ_=>y2,λ_=>y1⟩,⟨λh=>by omega,λh=>by omega⟩⟩
   have above:∀x,2*((R+1)*2^p)<=x->(x<(2*R+1)*2^p↔x^n*S<2^n*U)/\(x=(2*R+1)*2^p↔x^n*S=2^n*U):=by
    intro x hx
    have y1:(2*R+1)*2^p<x:=by
     have:=bG p;refine gT ?_ hx;rw[<-aQ];exact fK ae this
    have y2:2^n*U<x^n*S:=by
     refine gT k2 ?_;exact dL _ (Nat.pow_le_pow_left hx n)
    exact Qbq
   by_cases hjp:p<j+q
   . obtain⟨i,hi⟩:∃i,j+q=i+1+p:=⟨j+q-1-p,ae⟩
     have e:c*2^(j+q)=2*((c*2^i)*2^p):=by
      rw[hi,aP,dS,<-aQ,<-aQ,cK (c*2^i) 2,aQ 2]
     rw[e];rcases iE R (c*2^i) with k|k
     . exact above _ (fG _ (dL _ k))
     . exact below _ (fG _ (dL _ k))
   . refine below _ ?_
     calc c*2^(j+q)<=18014398509481984*2^p:=kF hc (fD aM ae)
      _<=(2*R)*2^p:=dL _ ae
      _=2*(R*2^p):=aQ _ _ _
theorem Pb(n P Q V S:Nat)(hn:0<n)(hP:∀c j,c<=18014398509481984->j<=2046->c*2^j*Q<2*P)(hV:∀c j,c<=18014398509481984->j<=2046->(c*2^j)^n*S<2^n*V):Alike n P Q V S:=by
 intro c j hc hj;have h1:=hP c j hc hj;have h2:=hV c j hc hj;exact⟨⟨λ_=>h2,λ_=>h1⟩,⟨λh=>by omega,λh=>by omega⟩⟩
theorem JP(n P Q V S:Nat)(hn:0<n)(hP0:0<P)(hV0:0<V)(hS:0<S)(hP:2*P<Q)(hV:2^n*V<S):Alike n P Q V S:=by
 intro c j hc hj;rcases kG (c*2^j) with h0|h0
 . rw[h0,fe,Nat.zero_pow hn,fe];have:=jh (bG n) hV0;exact⟨⟨λ_=>this,λ_=>by omega⟩,⟨λh=>by omega,λh=>by omega⟩⟩
 . have h1:Q<=c*2^j*Q:=yn _ h0;have h2:S<=(c*2^j)^n*S:=yn _ (wy h0);exact Qbq
def Xw(x y:Nat):Int:=if x<y then -1 else if y<x then 1 else 0
theorem kg.doc{v:Nat->Nat}{top n K:Nat}{t:Bool}{m:Int}{V S:Nat}(G:Tx v top)(hn:0<n)(h:kg v top n K t m V S)(k:Nat)(hk:k<top)(h1:v k^n*S<=V)(h2:k+1=top\/V<v (k+1)^n*S) :
 k=K/\t=decide (V=v K^n*S)/\(t=false->m=Xw (2^n*V) ((v K+v (K+1))^n*S)):=by
 have L:∀{a b:Nat},a<b->v a^n*S<v b^n*S:=λ{a b} q=>fK ((jg hn).2 (G.mono q)) h.pos
 have Le:∀{a b:Nat},a<=b->v a^n*S<=v b^n*S:=λ{a b} q=>by
  rcases iE a b with k|k
  . exact fU (L k)
  . rw[show a=b by omega];exact aA _
 have hge:v K^n*S<=V:=by
  cases ht:t
  . exact fU (h.low ht)
  . rw[h.one ht];exact aA _
 have hfin:=h.fin
 have hkK:k=K:=by
  rcases ni k K with q|q|q
  . exfalso;rcases h2 with e|e
    . omega
    . have:=Le (show k+1<=K by omega);omega
  . exact q
  . exfalso;have a1:=Le (show K+1<=k by omega);have a2:=L (show K<K+1 by omega)
    cases t with
    | true=>have:=h.one rfl;omega
    | false =>
      rcases h.high rfl with e|e
      . omega
      . omega
 subst hkK;refine⟨rfl,?_,?_⟩
 . cases t with
   | true=>exact(decide_eq_true (h.one rfl)).symm
   | false=>have:=h.low rfl;exact(decide_eq_false ae).symm
 . intro ht
   by_cases hb:V<v (k+1)^n*S
   . have hm:=h.Xk ht hb;generalize 2^n*V=V2 at *;generalize (v k+v (k+1))^n*S=C at *;unfold Xw;rcases hm with ⟨e,q⟩|⟨e,q⟩|⟨e,q⟩
     . rw[if_pos q,e]
     . rw[if_neg ae,if_neg ae,e]
     . rw[if_neg ae,if_pos q,e]
   . rcases h.high ht with e | ⟨_,e⟩
     . exact absurd e hb
     . have hmid:(v k+v (k+1))^n*S<2^n*V:=by
        have q1:v k+v (k+1)<2*v (k+1):=by have:=G.mono (show k<k+1 by omega);omega
        have q2:(v k+v (k+1))^n*S<(2*v (k+1))^n*S:=fK ((jg hn).2 q1) h.pos;rw[Aw,aQ] at q2;have q3:=fG (2^n) (mq hb);omega
       unfold Xw;rw[if_neg ae,if_pos hmid,e]
theorem uk(a b i k i' k':Nat)(h:i'+k=k'+i):a*2^i<b*2^k↔a*2^i'<b*2^k':=by
 rcases Nat.le_total i i' with q|q
 . obtain⟨d,rfl⟩:∃d,i'=i+d:=⟨i'-i,ae⟩;obtain rfl:k'=k+d:=ae
   rw[aP,aP,<-aQ,<-aQ,kI (bG d)]
 . obtain⟨d,rfl⟩:∃d,i=i'+d:=⟨i-i',ae⟩;obtain rfl:k=k'+d:=ae
   rw[aP,aP,<-aQ,<-aQ,kI (bG d)]
theorem Tz(a b i k i' k':Nat)(h:i'+k=k'+i):a*2^i=b*2^k↔a*2^i'=b*2^k':=by
 have h1:=uk a b i k i' k' h;have h2:=uk b a k i k' i' ae;generalize a*2^i=A at *;generalize a*2^i'=A' at *;generalize b*2^k=B at *;generalize b*2^k'=B' at *;constructor
 . intro e;rcases ni A' B' with q | q | q
   . have:=h1.2 q;omega
   . exact q
   . have:=h2.2 q;omega
 . intro e;rcases ni A B with q | q | q
   . have:=h1.1 q;omega
   . exact q
   . have:=h2.1 q;omega
def fQ(Y size:Nat):Nat:=bl Y+size-262144
def jq(Y size:Nat):Nat:=Y/2^fQ Y size
def nP(X Y size:Nat):Int:=(bl (jq Y size):Int)+size-bl X
def rz(X Y size:Nat):Nat:=if nP X Y size<0 then X/2^(-nP X Y size).toNat else X*2^(nP X Y size).toNat
def nH(X Y size:Nat):Nat:=rz X Y size/jq Y size
def rA(X Y size:Nat):Nat:=rz X Y size%jq Y size
def Gs(Y size:Nat):Nat:=Y-jq Y size*2^fQ Y size
def si(X Y size:Nat):Nat:=rA X Y size*2^fQ Y size
def qf(X Y size:Nat):Nat:=nH X Y size*Gs Y size
def jr(X Y size:Nat):Nat:=if si X Y size<qf X Y size then nH X Y size-1 else nH X Y size
def xH(X Y size:Nat):Bool:=decide (si X Y size=qf X Y size)&&decide (0<=nP X Y size)
structure DivS (X Y size:Nat):Prop where
 one:xH X Y size=true->X*2^((nP X Y size).toNat+fQ Y size)=jr X Y size*Y*2^(-nP X Y size).toNat
 low:xH X Y size=false->jr X Y size*Y*2^(-nP X Y size).toNat<X*2^((nP X Y size).toNat+fQ Y size)
 high:xH X Y size=false->X*2^((nP X Y size).toNat+fQ Y size)<(jr X Y size+1)*Y*2^(-nP X Y size).toNat
 least:X≠0->2^(size-1)<=jr X Y size+1
 most:jr X Y size<2^(size+1)
 less:si X Y size<qf X Y size->1<=nH X Y size
 hig:jq Y size≠0
 low':jq Y size*2^fQ Y size<=Y
 lowlt:Gs Y size<2^fQ Y size
 w0:nH X Y size<2^(size+1)
 blh:bl (jq Y size)=bl Y-fQ Y size
 vE:rz X Y size<2^(bl (jq Y size)+size)
 lef:rA X Y size<jq Y size
theorem Pd{X k:Nat}(h1:2^k<=X)(h2:X<2^(k+1)):bl X=k+1:=by
 have h0:X≠0:=by have:=bG k;omega
 have a:=iT X;have b:=iw X h0;have c:=dM X h0;have d1:=(kH (a:=2) aM).1 (iC h1 a);have d2:=(kH (a:=2) aM).1 (iC b h2);omega
theorem l6(X Y size:Nat)(hX:X=0\/X%2=1)(hY:Y≠0)(hs0:1<=size)(hs:size<=1000)(hbX:bl X<=262144)(hbY:bl Y<=262144):DivS X Y size:=by
 obtain⟨cut,Ai⟩:∃c,fQ Y size=c:=⟨_,rfl⟩;obtain⟨H,eH⟩:∃c,jq Y size=c:=⟨_,rfl⟩;have eH':Y/2^cut=H:=by rw[<-eH,<-Ai];rfl
 have hD:0<2^cut:=bG cut;have hYlt:=iT Y;have hYge:=iw Y hY;have hYpos:=dM Y hY;have hcut:cut<bl Y/\(0<cut->cut=bl Y+size-262144):=by unfold fQ at Ai;omega
 have hH1:2^(bl Y-1-cut)<=H:=by
  rw[<-eH',yl hD,<-aP,show bl Y-1-cut+cut=bl Y-1 by omega];exact hYge
 have hH2:H<2^(bl Y-1-cut+1):=by
  rw[<-eH',xM hD,<-aP,show bl Y-1-cut+1+cut=bl Y by omega];exact hYlt
 have hblH:bl H=bl Y-cut:=by rw[Pd hH1 hH2];omega
 have hH0:0<H:=gT (bG _) hH1;have hHD:H*2^cut<=Y:=by rw[<-eH'];exact Nat.div_mul_le_self _ _
 have hYdm:H*2^cut+Y%2^cut=Y:=by rw[<-eH',cK];exact oz Y _
 have hYm:=iB Y hD;obtain⟨Lo,eLo⟩:∃c,Gs Y size=c:=⟨_,rfl⟩;have eLo':Y-H*2^cut=Lo:=by rw[<-eLo];unfold Gs;rw[eH,Ai]
 have hLo:Lo<2^cut:=ae
 have hYs:Y=H*2^cut+Lo:=ae
 obtain⟨b,eb⟩:∃b,nP X Y size=b:=⟨_,rfl⟩;have eb':(bl H:Int)+size-bl X=b:=by rw[<-eb];unfold nP;rw[eH]
 obtain⟨vE,Xx⟩:∃c,rz X Y size=c:=⟨_,rfl⟩;have zw:(if b<0 then X/2^(-b).toNat else X*2^b.toNat)=vE:=by rw[<-Xx];unfold rz;rw[eb]
 obtain⟨W0,eW0⟩:∃c,nH X Y size=c:=⟨_,rfl⟩;have eW0':vE/H=W0:=by rw[<-eW0];unfold nH;rw[Xx,eH]
 obtain⟨Lf,eLf⟩:∃c,rA X Y size=c:=⟨_,rfl⟩;have eLf':vE%H=Lf:=by rw[<-eLf];unfold rA;rw[Xx,eH]
 have OA:H*W0+Lf=vE:=by rw[<-eW0',<-eLf'];exact oz vE H
 have hLf:Lf<H:=by rw[<-eLf'];exact iB _ hH0
 have Xy:si X Y size=Lf*2^cut:=by unfold si;rw[eLf,Ai]
 have Xz:qf X Y size=W0*Lo:=by unfold qf;rw[eW0,eLo]
 have hXlt:=iT X
 have TA:vE<2^(bl H+size):=by
  rw[<-zw]
  split
  . rename_i hb;rw[xM (bG _),<-aP,show bl H+size+(-b).toNat=bl X by omega];exact hXlt
  . rename_i hb;refine gT (fK hXlt (bG _)) ?_;rw[<-aP];exact fD aM ae
 have Zc:W0<2^(size+1):=by
  rw[<-eW0',xM hH0];refine gT TA ?_;have:2^(size+1)*2^(bl Y-1-cut)<=2^(size+1)*H:=fG _ hH1;rw[<-aP,show size+1+(bl Y-1-cut)=bl H+size by omega] at this;exact this
 have hW0ge:X≠0->2^(size-1)<=W0:=by
  intro h0;have hXge:=iw X h0;have hXp:=dM X h0
  have hl:2^(bl H+size-1)<=vE:=by
   rw[<-zw]
   split
   . rename_i hb;rw[yl (bG _),<-aP,show bl H+size-1+(-b).toNat=bl X-1 by omega];exact hXge
   . rename_i hb;refine dB ?_ (dL _ hXge);rw[<-aP];exact fD aM ae
  rw[<-eW0',yl hH0];refine dB ?_ hl;have:2^(size-1)*H<=2^(size-1)*2^(bl H):=fG _ (fU (iT H));rw[<-aP,show size-1+bl H=bl H+size-1 by omega] at this;exact this
 -- whole times the low end is below Y
 have hWL:W0*Lo<Y:=by
  by_cases hc:cut=0
  . subst hc;have:Lo=0:=by simpa using hLo
    rw[this,o9];omega
  . have h1:W0*Lo<2^(size+1)*2^cut:=x8 Zc hLo;rw[<-aP] at h1;refine gT h1 (dB ?_ hYge);exact fD aM ae
 -- what the level is,by whole
 have hsum:vE*2^cut+W0*Lo=W0*Y+Lf*2^cut:=by
  rw[<-OA,hYs,fT,oq,cK H W0,aQ];omega
 have hLfD:Lf*2^cut<Y:=gT (fK hLf hD) hHD
 have hless:si X Y size<qf X Y size->1<=W0:=by
  intro h;rw[Xy,Xz] at h;rcases kG W0 with q|q
  . rw[q,fe] at h;omega
  . exact q
 have eWho:jr X Y size=if Lf*2^cut<W0*Lo then W0-1 else W0:=by unfold jr;rw[Xy,Xz,eW0]
 have eAt:xH X Y size=(decide (Lf*2^cut=W0*Lo)&&decide (0<=b)):=by unfold xH;rw[Xy,Xz,eb]
 have key:(xH X Y size=true->X*2^(b.toNat+cut)=jr X Y size*Y*2^(-b).toNat)/\(xH X Y size=false->jr X Y size*Y*2^(-b).toNat<X*2^(b.toNat+cut)/\X*2^(b.toNat+cut)<(jr X Y size+1)*Y*2^(-b).toNat):=by
  rw[eAt,eWho]
  by_cases hb:b<0
  . have hc0:cut=0:=ae
    have hX0:X≠0:=by intro h;rw[h,dI] at eb';omega
    have hXo:X%2=1:=ae
    rw[if_pos hb] at zw;subst hc0;have hL0:Lo=0:=by simpa using hLo
    have hb1:b.toNat=0:=ae
    rw[hL0,o9,if_neg ae,hb1,il,fO,eQ];rw[hL0,fO,eQ,eQ,o9] at hsum;rw[decide_eq_false (show ¬ 0<=b by omega),Bool.and_false];refine⟨λh=>(by cases h),λ_=>?_⟩;obtain⟨k,hk⟩:∃k,(-b).toNat=k:=⟨_,rfl⟩;have hk0:0<k:=ae
    rw[hk] at zw |-;have hP:=bG k;have hxm:2^k*vE+X%2^k=X:=by rw[<-zw];exact oz X _
    have hxl:=iB X hP
    have hx0:X%2^k≠0:=by
     intro h;rw[h] at hxm;rw[show k=k-1+1 by omega,dS,cK _ 2,aQ] at hxm;omega
    have h1:W0*Y<=vE:=ae
    have h2:vE+1<=(W0+1)*Y:=by
     rw[fT,ik];rw[fO,eQ] at hLfD;omega
    have h3:=dL (2^k) h1;have h4:=dL (2^k) h2;rw[fT,ik] at h4;rw[cK] at hxm;omega
  . rw[if_neg hb] at zw;have hb1:(-b).toNat=0:=ae
    rw[hb1,fO,eQ,eQ,decide_eq_true (show 0<=b by omega),Bool.and_true];have e1:X*2^(b.toNat+cut)=vE*2^cut:=by rw[aP,<-aQ,zw]
    rw[e1];generalize vE*2^cut=L at *;generalize Lf*2^cut=A at *;generalize hT:W0*Lo=T at *
    by_cases hlt:A<T
    . rw[if_pos hlt];have hW1:1<=W0:=hless (by rw[Xy,Xz];exact hlt);obtain⟨W,rfl⟩:∃W,W0=W+1:=⟨W0-1,ae⟩;rw[mX];rw[fT,ik] at hsum |-;refine⟨λh=>?_,λ_=>by omega⟩;have:=of_decide_eq_true h;omega
    . rw[if_neg hlt];rw[fT,ik];refine⟨λh=>?_,λh=>?_⟩
      . have:=of_decide_eq_true h;omega
      . have:=of_decide_eq_false h;omega
 refine⟨?_,?_,?_,?_,?_,?_,?_,?_,?_,?_,?_,?_,?_⟩
 . rw[eb,Ai];exact key.1
 . rw[eb,Ai];exactλh=>(key.2 h).1
 . rw[eb,Ai];exactλh=>(key.2 h).2
 . intro h;have:=hW0ge h;rw[eWho];split <;> omega
 . rw[eWho];split <;> omega
 . rw[eW0];exact hless
 . rw[eH];omega
 . rw[eH,Ai];exact hHD
 . rw[eLo,Ai];exact hLo
 . rw[eW0];exact Zc
 . rw[eH,Ai];exact hblH
 . rw[Xx,eH];exact TA
 . rw[eLf,eH];exact hLf
theorem Alike.scale{n P Q P' Q' V S:Nat}(h:Alike n P' Q' V S)(hQ:0<Q)(hQ':0<Q')(e:P*Q'=P'*Q):Alike n P Q V S:=by
 intro c j hc hj;obtain⟨h1,h2⟩:=h c j hc hj;rw[<-h1,<-h2];generalize c*2^j=g;have e1:g*Q*Q'=g*Q'*Q:=Au _ _ _;have e2:2*P*Q'=2*P'*Q:=by rw[aQ,e,aQ]
 constructor
 . rw[<-kI hQ',e1,e2,kI hQ]
 . constructor
   . intro k;have:=congrArg (·*Q') k;simp only[e1,e2] at this;exact pz hQ this
   . intro k;have:=congrArg (·*Q) k;simp only[<-e1,<-e2] at this;exact pz hQ' this
structure TB (n R d V S u:Nat) (h:Int):Prop where
 pos:0<S
 one:d=0->V*(2^(-(h+u)).toNat)^n=(R*2^(h+u).toNat)^n*S
 in':d=1->(R*2^(h+u).toNat)^n*S<V*(2^(-(h+u)).toNat)^n/\V*(2^(-(h+u)).toNat)^n<((R+1)*2^(h+u).toNat)^n*S
def fM(h:Int):Int:=min (max (h-1) (-4096)) 4096
theorem Gt(n R d V S u:Nat)(h:Int)(hn:0<n)(EZ:9007199254740992<=R)(hR2:R<2^100)(hd:d<=1)(hu0:149<=u)(hu1:u<=1074)(hI:TB n R d V S u h) :
 Alike n ((2*R+d)*2^(fM h+u).toNat) (2^(-(fM h+u)).toNat) V S:=by
 have hS:=hI.pos
 have hlo:(R*2^(h+u).toNat)^n*S<=V*(2^(-(h+u)).toNat)^n:=by
  rcases kG d with q|q
  . rw[hI.one q];exact aA _
  . exact fU (hI.in' ae).1
 have hhi:V*(2^(-(h+u)).toNat)^n<((R+1)*2^(h+u).toNat)^n*S:=by
  rcases kG d with q|q
  . rw[hI.one q];exact fK ((jg hn).2 (fK ae (bG _))) hS
  . exact(hI.in' ae).2
 by_cases h1:h-1 < -4096
 . have hc:fM h=-4096:=by unfold fM;omega
   rw[hc];have e1:((-4096:Int)+u).toNat=0:=ae
   have e2:(h+u).toNat=0:=ae
   rw[e1,fO,eQ];rw[e2,fO,eQ] at hlo hhi;obtain⟨q,hq⟩:∃q,(-(h+u)).toNat=q:=⟨_,rfl⟩;have hq1:3000<=q:=ae
   rw[hq] at hlo hhi;obtain⟨q',hq'⟩:∃q',(-((-4096:Int)+u)).toNat=q':=⟨_,rfl⟩;have hq'1:3000<=q':=ae
   rw[hq'];have hbig:∀k,103<=k->2^103<=2^k:=λk hk=>fD aM hk;have b1:=hbig q ae;have b2:=hbig q' ae;have e103:(2:Nat)^103=8*2^100:=aM
   have XA:0<(2^q)^n:=wy (bG q);refine JP n _ _ V S hn ae ?_ hS ae ?_
   . rcases kG V with z | z
     . rw[z,fe] at hlo;have:=jh (wy (n:=n) (show 0<R by omega)) hS;omega
     . exact z
   . have s1:2^n*V*(2^q)^n<(2*(R+1))^n*S:=by
      rw[Aw,aQ,aQ];exact Ao hhi (bG n)
     have s2:(2*(R+1))^n*S<=(2^q)^n*S:=dL _ (Nat.pow_le_pow_left ae n);have s3:2^n*V*(2^q)^n<S*(2^q)^n:=by rw[cK S];exact gT s1 s2
     exact(kI XA).1 s3
 . by_cases h2:4096<h-1
   . have hc:fM h=4096:=by unfold fM;omega
     rw[hc];have e1:(-((4096:Int)+u)).toNat=0:=ae
     have e2:(-(h+u)).toNat=0:=ae
     rw[e1,fO];rw[e2,fO,Nat.one_pow,eQ] at hlo hhi;obtain⟨A,hA⟩:∃A,((4096:Int)+u).toNat=A:=⟨_,rfl⟩;obtain⟨p,hp⟩:∃p,(h+u).toNat=p:=⟨_,rfl⟩;rw[hA];rw[hp] at hlo hhi;have hA1:2101<=A:=ae
     have hp1:2101<=p:=ae
     have top:∀c j k,c<=18014398509481984->j<=2046->2101<=k->c*2^j<2^k:=by
      intro c j k hcc hj hk;have h54:(18014398509481984:Nat)=2^54:=aM
      calc c*2^j<=2^54*2^j:=dL _ ae
       _=2^(54+j):=(aP _ _ _).symm
       _<2^k:=Nat.pow_lt_pow_right aM ae
     refine Pb n _ _ V S hn ?_ ?_
     . intro c j hcc hj;have t:=top c j A hcc hj hA1;have:2^A<=(2*R+d)*2^A:=yn _ ae;rw[eQ];omega
     . intro c j hcc hj;have t:=top c j p hcc hj hp1;have t2:2^p<=R*2^p:=yn _ ae;have t3:(c*2^j)^n*S<(R*2^p)^n*S:=fK ((jg hn).2 ae) hS;have t4:V<=2^n*V:=yn _ (bG n);omega
   . have hc:fM h=h-1:=by unfold fM;omega
     rw[hc];have sp:=JO n R (h+u).toNat (-(h+u)).toNat V S d hn hS EZ hd hI.one hI.in';refine sp.scale (bG _) (jh aM (bG _)) ?_
     have e:∀a b c k:Nat,a+1+b=c+k->(2*R+d)*2^a*(2*2^b)=(2*R+d)*2^c*2^k:=by
      intro a b c k hh;rw[aQ,aQ,<-aP,<-hh,aP,dS,aQ (2^a)]
     exact e _ _ _ _ ae
def l7(X:Nat)(e f:Int)(u n:Nat):Nat:=X*2^(e-f+(n*u:Nat)).toNat
def l9(Y:Nat)(e f:Int)(u n:Nat):Nat:=Y*2^(-(e-f+(n*u:Nat))).toNat
theorem TC(X Y:Nat)(e f:Int)(u:Nat)(hY:Y≠0)(hD:DivS X Y 64) :
 TB 1 (jr X Y 64) (if xH X Y 64 then 0 else 1) (l7 X e f u 1) (l9 Y e f u 1) u (e-f-nP X Y 64-fQ Y 64):=by
 have h1:=hD.one;have h2:=hD.low;have h3:=hD.high;generalize jr X Y 64=W at *;generalize nP X Y 64=b at *;generalize fQ Y 64=cut at *;generalize xH X Y 64=t at *;have hY0:0<Y:=ae
 have sides:∀R:Nat,(R*2^(e-f-b-cut+u).toNat)^1*l9 Y e f u 1=R*Y*2^((e-f-b-cut+u).toNat+(-(e-f+(1*u:Nat))).toNat):=by
  intro R;unfold l9;rw[mr,aP,aQ R,aQ R,<-aQ (2^_) Y,cK (2^_) Y,aQ Y]
 have left:l7 X e f u 1*(2^(-(e-f-b-cut+u)).toNat)^1=X*2^((e-f+(1*u:Nat)).toNat+(-(e-f-b-cut+u)).toNat):=by
  unfold l7;rw[mr,aP,aQ]
 refine⟨jh hY0 (bG _),λhd=>?_,λhd=>?_⟩
 . have ht:t=true:=by cases t with
    | true=>rfl
    | false=>simp at hd
   rw[left,sides];exact(Tz X (W*Y) _ _ _ _ ae).1 (h1 ht)
 . have ht:t=false:=by cases t with
    | true=>simp at hd
    | false=>rfl
   rw[left,sides,sides];exact⟨(uk (W*Y) X _ _ _ _ ae).1 (h2 ht),(uk X ((W+1)*Y) _ _ _ _ ae).1 (h3 ht)⟩
theorem Mh{w:World}{a b:Option Addr}{n c m d:Nat}{xs ys:List Nat}{V U:Nat}{z:Int}(h1:Arg w a n c xs)(h2:Arg w b m d ys)(e:pO (val xs) (val ys)=(V,U,z)) :
 As 182 #[.slice a n c,.slice b m d] w λr w'=>∃v u,r=.returned (.tuple #[v,u,.int .i64 z])/\Nt w.heap.size w' v V/\Nt w.heap.size w' u U/\An w w' :=
 (VT xs ys a b n c m d w.heap.size w h1.len h2.len h1.cap h2.cap (by have:=h1.big;omega) (by have:=h2.big;omega) h1.wf h2.wf h1.rd h2.rd (aA _)).mono
  λr w' ⟨⟨v,u,h3,h4,h5,h6⟩,hb⟩=>by rw[e] at h3 h4 h5;exact⟨v,u,h3,h4,h5,hb⟩
theorem qP{w:World}{a:Option Addr}{n c:Nat}{xs:List Nat}{k:Nat}(h1:Arg w a n c xs)(e:bl (val xs)=k) :
 At 84 #[.slice a n c] w (.int .i64 (k:Nat)):=by
 subst e;exact(tH xs a n c w.heap.size w h1.len h1.cap (by have:=h1.big;omega) h1.wf h1.rd).mono λr w' ⟨h,e⟩=>⟨h,by rw[e];exact aD _ _⟩
theorem qQ{X V:Nat}{k:Nat}(hX:¬ LG X)(hb:X=0\/bl X+k<=262144)(e:X*2^k=V):bJ X (k:Int)=(V,0):=by
 unfold bJ;rw[if_neg hX]
 by_cases h0:X=0
 . rw[if_pos h0,<-e,h0,fe]
 . rw[if_neg h0,if_neg ae,if_neg ae];simp[e]
theorem BH{X V:Nat}{k:Nat}(hX:¬ LG X)(e:X/2^k=V):bJ X (-(k:Int))=(V,0):=by
 unfold bJ;rw[if_neg hX]
 by_cases h0:X=0
 . rw[if_pos h0,<-e,h0,Nat.zero_div]
 . rw[if_neg h0]
   by_cases hk:k=0
   . subst hk;rw[if_neg aN,if_neg (by have:=mt (pV X).2 hX;omega)];simp at e;simp[e]
   . rw[if_pos ae];simp[e]
theorem XB{X Y:Nat}(h1:¬ LG X)(h2:¬ LG Y)(h:Y≠0){V U:Nat}(e1:X/Y=V)(e2:X%Y=U):pO X Y=(V,U,0):=by
 unfold pO;rw[if_neg (by simp[h1,h2]),if_neg h,e1,e2]
theorem JQ {w:World}{a b q h:Option Addr}{ca cb cq ch:Nat}(W0 Lf Y H cut Bk Lo Tk' Hs:Nat) (z:Int) (AW:Arg w a (ws W0).length ca (ws W0)) (AL:Arg w b (ws Lf).length cb (ws Lf)) (AY:Arg w q (ws Y).length cq (ws Y)) (AH:Arg w h (ws H).length ch (ws H))
 (hc:cut<=4611686018427387904) (e1:bJ H (cut:Int)=(Bk,0)) (e2:pM Y Bk=(Lo,0)) (e3:jI W0 Lo=(Tk',0)) (e4:bJ Lf (cut:Int)=(Hs,0)) (e5:bI Hs Tk'=z)
 (l1:(ws Bk).length<=8192) (l2:(ws Lo).length<=8192) (l3:(ws Tk').length<=8192) (l4:(ws Hs).length<=8192) :
 At 183 #[.slice a (ws W0).length ca,.slice b (ws Lf).length cb,.slice q (ws Y).length cq,.slice h (ws H).length ch,.int .i64 (cut:Nat)] w (.int .i64 z):=by
 rw[<-aB H] at e1;rw[<-aB Y,<-aB Bk] at e2;rw[<-aB W0,<-aB Lo] at e3;rw[<-aB Lf] at e4;rw[<-aB Hs,<-aB Tk'] at e5;have E:=(gy e1 e2 e3 e4 e5);clear e1 e2 e3 e4 e5;have hbel:=aD w.heap.size w;have S0:=(gy hbel AW AL AY AH);clear hbel;clear AW AL AY AH;go_enter Tryz.func183,Tryz.ntmps183;obtain⟨aF,AW,AL,AY,AH⟩:=S0.o;have HC:=hid (fV (cut:Int) AH E.o.1 ae ae);clear aF AW AL AY AH;go_wp2_with fail;refine HC.o.mono ?_;rintro r u1 ⟨v,rfl,hN,hb⟩;obtain⟨a1,c1,rfl,_⟩:=hN.arg ae;clear HC;obtain⟨aF,AW,AL,AY,AH⟩:=S0.o;have hbn:=aF.trans (hb.mono aF.size);have S1:=kz hbn (AW.below hb) (AL.below hb) (AY.below hb) (AH.below hb) (hN.mono aF.size);clear aF AW AL AY AH;clear hb hbn S0;clear hN;obtain⟨aF,AW,AL,AY,AH,NB⟩:=S1.o;have HC:=hid (xA AY (NB.bS ae).2 E.o.2.1);clear aF AW AL AY AH NB;go_wp2_with fail;refine HC.o.mono ?_;rintro r u2 ⟨v,rfl,hN,hb⟩;obtain⟨a2,c2,rfl,_⟩:=hN.arg ae;clear HC;obtain⟨aF,AW,AL,AY,AH,NB⟩:=S1.o;have hbn:=aF.trans (hb.mono aF.size);have S2:=Ew hbn (AW.below hb) (AL.below hb) (AY.below hb) (AH.below hb) (NB.below hb) (hN.mono aF.size);clear aF AW AL AY AH NB;clear hb hbn S1;clear hN;obtain⟨aF,AW,AL,AY,AH,NB,NL⟩:=S2.o;have HC:=hid (Ll AW (NL.bS ae).2 E.o.r2.1);clear aF AW AL AY AH NB NL;go_wp2_with fail;refine HC.o.mono ?_;rintro r u3 ⟨v,rfl,hN,hb⟩;obtain⟨a3,c3,rfl,_⟩:=hN.arg ae;clear HC;obtain⟨aF,AW,AL,AY,AH,NB,NL⟩:=S2.o;have hbn:=aF.trans (hb.mono aF.size);have S3:=Ck hbn (AW.below hb) (AL.below hb) (AY.below hb) (AH.below hb) (NB.below hb) (NL.below hb) (hN.mono aF.size);clear aF AW AL AY AH NB NL;clear hb hbn S2;clear hN;obtain⟨aF,AW,AL,AY,AH,NB,NL,NT⟩:=S3.o;have HC:=hid (fV (cut:Int) AL E.o.r3.1 ae ae);clear aF AW AL AY AH NB NL NT;go_wp2_with fail;refine HC.o.mono ?_;rintro r u4 ⟨v,rfl,hN,hb⟩;obtain⟨a4,c4,rfl,_⟩:=hN.arg ae;clear HC;obtain⟨aF,AW,AL,AY,AH,NB,NL,NT⟩:=S3.o;have hbn:=aF.trans (hb.mono aF.size);have S4:=QC hbn (AW.below hb) (AL.below hb) (AY.below hb) (AH.below hb) (NB.below hb) (NL.below hb) (NT.below hb) (hN.mono aF.size);clear aF AW AL AY AH NB NL NT;clear hb hbn S3;clear hN;obtain⟨aF,AW,AL,AY,AH,NB,NL,NT,NS⟩:=S4.o;have HC:=hid (CZ (NS.bS ae).2 (NT.bS ae).2 z E.o.r4);clear aF AW AL AY AH NB NL NT NS;go_wp2_with fail;refine HC.o.mono ?_;rintro r u5 ⟨rfl,hb⟩;clear HC;obtain⟨aF,AW,AL,AY,AH,NB,NL,NT,NS⟩:=S4.o;have hbn:=aF.trans (hb.mono aF.size);have S5:=QC hbn (AW.below hb) (AL.below hb) (AY.below hb) (AH.below hb) (NB.below hb) (NL.below hb) (NT.below hb) (NS.below hb);clear aF AW AL AY AH NB NL NT NS;clear hb hbn S4;have hbW:=hid S5.o.1;clear S5 E;go_wp2;go_ret;exact⟨rfl,hbW.o⟩
def Tk(w:World)(g T:Nat)(x y z:Value):Prop:=w.heap[g]?=some (.cells #[x,y,z] T (0,0))
theorem Tk.lt{w:World}{g T:Nat}{x y z:Value}(h:Tk w g T x y z):g<w.heap.size:=(dQ.1 h).1
theorem Tk.below{w w':World}{g T:Nat}{x y z:Value}(h:Tk w g T x y z)(hb:An w w'):Tk w' g T x y z:=by
 unfold Tk;exact Qa3
theorem Tk.alloc{w:World}{g T:Nat}{x y z:Value}(h:Tk w g T x y z)(o:Obj):Tk (w.alloc o) g T x y z:=h.below (af w o)
theorem Tk.new(w:World)(T:Nat)(x y z:Value):Tk (w.alloc (.cells #[x,y,z] T)) w.heap.size T x y z:=iF _ _
theorem Tk.facts{w:World}{g T:Nat}{x y z:Value}(h:Tk w g T x y z) :
 w.cell? ⟨g,0,none⟩=some x/\w.cell? ⟨g,1,none⟩=some y/\w.cell? ⟨g,2,none⟩=some z/\w.frozen? ⟨g,0,none⟩=false/\w.frozen? ⟨g,1,none⟩=false/\w.frozen? ⟨g,2,none⟩=false:=by
 unfold Tk at h;simp[World.cell?,World.frozen?,h]
theorem Tk.set{w:World}{g T:Nat}{x y z:Value}(h:Tk w g T x y z)(a b c:Value):Tk (dW w g a b c) g T a b c:=by
 unfold Tk at h |-;simp[dW,World.setCell,gz,h]
def Rq(w:World)(g:Nat)(n:Bool)(v:Value)(e:Int)(m:Bool)(u:Value)(f:Int):Prop:=w.heap[g]?=some (.cells #[.bool n,v,.int .i64 e,.bool m,u,.int .i64 f] 93 (0,0))
theorem Rq.lt{w:World}{g:Nat}{n:Bool}{v:Value}{e:Int}{m:Bool}{u:Value}{f:Int}(h:Rq w g n v e m u f):g<w.heap.size:=(dQ.1 h).1
theorem Rq.below{w w':World}{g:Nat}{n:Bool}{v:Value}{e:Int}{m:Bool}{u:Value}{f:Int}(h:Rq w g n v e m u f)(hb:An w w'):Rq w' g n v e m u f:=by
 unfold Rq;exact Qa3
theorem Rq.alloc{w:World}{g:Nat}{n:Bool}{v:Value}{e:Int}{m:Bool}{u:Value}{f:Int}(h:Rq w g n v e m u f)(o:Obj):Rq (w.alloc o) g n v e m u f:=h.below (af w o)
theorem Rq.new(w:World)(n:Bool)(v:Value)(e:Int)(m:Bool)(u:Value)(f:Int):Rq (w.alloc (.cells #[.bool n,v,.int .i64 e,.bool m,u,.int .i64 f] 93)) w.heap.size n v e m u f:=iF _ _
theorem Rq.facts{w:World}{g:Nat}{n:Bool}{v:Value}{e:Int}{m:Bool}{u:Value}{f:Int}(h:Rq w g n v e m u f) :
 w.cell? ⟨g,0,none⟩=some (.bool n)/\w.cell? ⟨g,1,none⟩=some v/\w.cell? ⟨g,2,none⟩=some (.int .i64 e)/\w.cell? ⟨g,3,none⟩=some (.bool m)/\w.cell? ⟨g,4,none⟩=some u/\w.cell? ⟨g,5,none⟩=some (.int .i64 f):=by
 unfold Rq at h;simp[World.cell?,h]
theorem Rq.frz{w:World}{g:Nat}{n:Bool}{v:Value}{e:Int}{m:Bool}{u:Value}{f:Int}(h:Rq w g n v e m u f) :
 w.frozen? ⟨g,0,none⟩=false/\w.frozen? ⟨g,1,none⟩=false/\w.frozen? ⟨g,2,none⟩=false/\w.frozen? ⟨g,3,none⟩=false/\w.frozen? ⟨g,4,none⟩=false/\w.frozen? ⟨g,5,none⟩=false:=by
 unfold Rq at h;simp[World.frozen?,h]
abbrev st6(w:World)(g:Nat)(a b c d e f:Value):World:=(((((w.setCell ⟨g,0,none⟩ a).setCell ⟨g,1,none⟩ b).setCell ⟨g,2,none⟩ c).setCell ⟨g,3,none⟩ d).setCell ⟨g,4,none⟩ e).setCell ⟨g,5,none⟩ f
theorem Mi(g:Nat)(w:World)(a b c d e f:Value):But g w (st6 w g a b c d e f):=((((((But.refl g w).set _ _).set _ _).set _ _).set _ _).set _ _).set _ _
theorem Rq.set{w:World}{g:Nat}{n:Bool}{v:Value}{e:Int}{m:Bool}{u:Value}{f:Int}(h:Rq w g n v e m u f)(n':Bool)(v':Value)(e':Int)(m':Bool)(u':Value)(f':Int) :
 Rq (st6 w g (.bool n') v' (.int .i64 e') (.bool m') u' (.int .i64 f')) g n' v' e' m' u' f':=by
 unfold Rq at h |-;simp[st6,World.setCell,gz,h]
theorem Nt.off{lo:Nat}{w w':World}{v:Value}{X g:Nat}(h:Nt lo w v X)(hb:But g w w')(hg:v.ownBlock≠Option.some g):Nt lo w' v X:=by
 refine⟨h.1,?_⟩;rcases h.2 with hn|⟨g',cap,cur,rfl,hlo,hg',rest⟩
 . exact .inl hn
 . refine .inr ⟨g',cap,cur,rfl,hlo,?_,rest⟩;rw[hb.block g' (dQ.1 hg').1 (by intro e;subst e;exact hg (by simp[Value.ownBlock]))];exact hg'
theorem Nt.BI{lo:Nat}{w:World}{v:Value}{X g T:Nat}{C:Array Value}{fz:Nat×Nat}(h:Nt lo w v X)(hT:T≠162)(hg:w.heap[g]?=Option.some (.cells C T fz)):v.ownBlock≠Option.some g:=by
 intro e;rcases h.2 with ⟨rfl,_⟩|⟨g',cap,cur,rfl,_,h2,_⟩
 . simp[Value.ownBlock] at e
 . simp[Value.ownBlock] at e;subst e;rw[hg] at h2;simp at h2;exact hT h2.2.1
theorem Nt.Pe{lo:Nat}{w:World}{v:Value}{X g T:Nat}{x y z:Value}(h:Nt lo w v X)(D:Tk w g T x y z)(hT:T≠162)(a b c:Value):Nt lo (dW w g a b c) v X:=h.off (pW g w a b c) (h.BI hT D)
theorem Nt.st6k{lo:Nat}{w:World}{v:Value}{X g:Nat}{n:Bool}{p:Value}{e:Int}{m:Bool}{u:Value}{f:Int}(h:Nt lo w v X)(D:Rq w g n p e m u f)(a b c d q r:Value):Nt lo (st6 w g a b c d q r) v X:=h.off (Mi g w a b c d q r) (h.BI aM D)
theorem kZ{B g:Nat}{a w:World}(h:Below B a w)(hB:B<=w.heap.size)(hg:B<=g)(x y z:Value):Below B a (dW w g x y z):=But.below h (pW g w x y z) hB hg
theorem vF{B g:Nat}{a w:World}(h:Below B a w)(hB:B<=w.heap.size)(hg:B<=g)(x y z p q r:Value):Below B a (st6 w g x y z p q r):=But.below h (Mi g w x y z p q r) hB hg
def Ap(v u:Value):Prop:=∀g,v.ownBlock=some g->u.ownBlock≠some g
theorem Nt.blk{lo:Nat}{w:World}{v:Value}{X g:Nat}(h:Nt lo w v X)(hg:v.ownBlock=Option.some g):lo<=g/\g<w.heap.size:=by
 rcases h.2 with ⟨rfl,_⟩|⟨g',cap,cur,rfl,h1,h2,_⟩
 . simp[Value.ownBlock] at hg
 . simp[Value.ownBlock] at hg;subst hg;exact⟨h1,(dQ.1 h2).1⟩
theorem Nt.ap{lo:Nat}{w w':World}{v u:Value}{X Y:Nat}(h:Nt lo w v X)(k:Nt w.heap.size w' u Y):Ap v u:=by
 intro g hg hu;have:=(h.blk hg).2;have:=(k.blk hu).1;omega
theorem ws0:(ws 0).length=0:=by rw[cB];rfl
theorem wX(W:World)(g:Nat)(v:Value)(x:Int)(t:Bool)(tmps:Array Value)(ht:tmps[4]?.getD undef=.pointer (some ⟨g,0,none⟩))(D:Tk W g 171 v (.int .i64 x) (.bool t)) :
 (results Tryz.f144 tmps).run Tryz.prog W=.ok (.agg #[v,.int .i64 x,.bool t]) W:=by
 obtain⟨x0,x1,x2,_,_,_⟩:=D.facts;simp[results,Tryz.results144,ht,go_sem,x0,x1,x2]
theorem BJ(w:World)(n:Bool)(v:Value)(e:Int)(m:Bool)(u:Value)(f:Int)(W:World)(hW:W=(w.alloc (.cells #[.bool n,v,.int .i64 e,.bool m,u,.int .i64 f] 93)).alloc (.cells #[.slice none 0 0,.int .i64 0,.bool false] 171)) :
 An w W/\W.heap.size=w.heap.size+2/\Rq W w.heap.size n v e m u f/\Tk W (w.heap.size+1) 171 (.slice none 0 0) (.int .i64 0) (.bool false):=by
 rw[hW];refine⟨(af w _).alloc aN _,aN,(Rq.new _ _ _ _ _ _ _).alloc _,?_⟩;have:=Tk.new (w.alloc (.cells #[.bool n,v,.int .i64 e,.bool m,u,.int .i64 f] 93)) 171 (.slice none 0 0) (.int .i64 0) (.bool false);simpa using this
theorem Gu {w:World}{a b:Option Addr}{ca cb:Nat}(n m:Bool) (X Y:Nat) (e f:Int) (size lX lY lH cut H vE W0 Lf WH:Nat) (t bb z x y1 y2:Int) (tt:Bool)
 (AX:Arg w a (ws X).length ca (ws X)) (AY:Arg w b (ws Y).length cb (ws Y))
 (he0:-1048576<=e) (he1:e<=1048576) (hf0:-1048576<=f) (hf1:f<=1048576) (hs:size<=1000) (hlY:bl Y=lY) (hlX:bl X=lX) (hlH:bl H=lH) (bX:lX<=262144) (bY:lY<=262144) (bH:lH<=262144)
 (ht:(lY:Int)+(size:Int)-262144=t) (hcut:max t 0=(cut:Int)) (bcut:cut<=2000)
 (e1:bJ Y (-(cut:Int))=(H,0)) (hbb:(lH:Int)+(size:Int)-(lX:Int)=bb) (e2:bJ X bb=(vE,0)) (e3:pO vE H=(W0,Lf,0))
 (HL:Hid (∀(u:World) (p q r s:Option Addr) (cp cq cr cs:Nat),Arg u p (ws W0).length cp (ws W0)->Arg u q (ws Lf).length cq (ws Lf)->Arg u r (ws Y).length cr (ws Y)->Arg u s (ws H).length cs (ws H)->At 183 #[.slice p (ws W0).length cp,.slice q (ws Lf).length cq,.slice r (ws Y).length cr,.slice s (ws H).length cs,.int .i64 (cut:Nat)] u (.int .i64 z)))
 (hz:decide (z<0)=false)
 (h1:e-f=y1) (h2:y1-bb=y2) (h3:y2-(cut:Int)=x) (Ey:(decide (z=0)&&decide (0<=bb))=tt)
 (l1:(ws H).length<=8192) (l2:(ws vE).length<=8192) (l3:(ws W0).length<=8192) (l4:(ws Lf).length<=8192) :
 As 144 #[.agg #[.bool n,.slice a (ws X).length ca,.int .i64 e,.bool m,.slice b (ws Y).length cb,.int .i64 f],.int .i64 (size:Nat)] w λr w'=>(∃v,r=.returned (.agg #[v,.int .i64 x,.bool tt])/\Nt w.heap.size w' v W0)/\An w w':=by
 obtain⟨W1,hW1⟩:=ah ((w.alloc (.cells #[.bool n,.slice a (ws X).length ca,.int .i64 e,.bool m,.slice b (ws Y).length cb,.int .i64 f] 93)).alloc (.cells #[.slice none 0 0,.int .i64 0,.bool false] 171));obtain⟨hB,hz1,RQ,SK⟩:=BJ w n _ e m _ f W1 hW1;have TE:bJ (val (ws Y)) (-(cut:Int))=(H,0):=by rw[aB];exact e1
 have e2':bJ (val (ws X)) bb=(vE,0):=by rw[aB];exact e2
 have e3':pO (val (ws vE)) (val (ws H))=(W0,Lf,0):=by rw[aB,aB];exact e3
 have lY':bl (val (ws Y))=lY:=by rw[aB];exact hlY
 have lX':bl (val (ws X))=lX:=by rw[aB];exact hlX
 have lH':bl (val (ws H))=lH:=by rw[aB];exact hlH
 have E:=(kz TE e2' e3' lY' lX' lH');have SZ:=(bA hz1 hB);have hs2:w.heap.size+2<=W1.heap.size:=ae
 have hbel:=hB;have S0:=(gy hbel (AX.below hB) (AY.below hB) RQ SK);clear hbel;clear e1 e2 e3 TE e2' e3' lY' lX' lH' hlY hlX hlH AX AY hB RQ SK hz1;go_enter Tryz.func144,Tryz.ntmps144
 go_upto_region 1 with fail
 rw[<-hW1];clear hW1;obtain⟨x0,x1,x2,x3,x4,x5⟩:=S0.o.r3.1.facts
 go_quiet (fail)
 clear x0 x1 x2 x3 x4 x5;generalize hV:World.drewN W1 _=V1;have hb:An W1 V1:=by rw[<-hV];exact Below.drewN' (aD _ _) _
 clear hV;obtain⟨aF,AX,AY,RQ,SK⟩:=S0.o;have hbn:=aF.trans (hb.mono aF.size);have S1:=gy hbn (AX.below hb) (AY.below hb) (RQ.below hb) (SK.below hb);clear aF AX AY RQ SK;clear hb hbn S0;obtain⟨aF,AX,AY,RQ,SK⟩:=S1.o;have HC:=hid (qP AY E.o.r3.1);clear aF AX AY RQ SK;go_wp2_with fail;refine HC.o.mono ?_;rintro r u2 ⟨rfl,hb⟩;clear HC;obtain⟨aF,AX,AY,RQ,SK⟩:=S1.o;have hbn:=aF.trans (hb.mono aF.size);have S2:=gy hbn (AX.below hb) (AY.below hb) (RQ.below hb) (SK.below hb);clear aF AX AY RQ SK;clear hb hbn S1;obtain⟨aF,AX,AY,RQ,SK⟩:=S2.o;have HC:=hid (fV (-(cut:Int)) AY E.o.1 ae ae);clear aF AX AY RQ SK;go_wp2_with fail;refine HC.o.mono ?_;rintro r u3 ⟨v,rfl,hN,hb⟩;obtain⟨a1,c1,rfl,_⟩:=hN.arg ae;clear HC;obtain⟨aF,AX,AY,RQ,SK⟩:=S2.o;have hbn:=aF.trans (hb.mono aF.size);have S3:=kz hbn (AX.below hb) (AY.below hb) (RQ.below hb) (SK.below hb) (hN.mono aF.size);clear aF AX AY RQ SK;clear hb hbn S2;clear hN;obtain⟨aF,AX,AY,RQ,SK,NH⟩:=S3.o;have HC:=hid (qP (NH.bS ae).2 E.o.r5);clear aF AX AY RQ SK NH;go_wp2_with fail;refine HC.o.mono ?_;rintro r u4 ⟨rfl,hb⟩;clear HC;obtain⟨aF,AX,AY,RQ,SK,NH⟩:=S3.o;have hbn:=aF.trans (hb.mono aF.size);have S4:=kz hbn (AX.below hb) (AY.below hb) (RQ.below hb) (SK.below hb) (NH.below hb);clear aF AX AY RQ SK NH;clear hb hbn S3;obtain⟨aF,AX,AY,RQ,SK,NH⟩:=S4.o;have HC:=hid (qP AX E.o.r4.1);clear aF AX AY RQ SK NH;go_wp2_with fail;refine HC.o.mono ?_;rintro r u5 ⟨rfl,hb⟩;clear HC;obtain⟨aF,AX,AY,RQ,SK,NH⟩:=S4.o;have hbn:=aF.trans (hb.mono aF.size);have S5:=kz hbn (AX.below hb) (AY.below hb) (RQ.below hb) (SK.below hb) (NH.below hb);clear aF AX AY RQ SK NH;clear hb hbn S4;obtain⟨aF,AX,AY,RQ,SK,NH⟩:=S5.o;have HC:=hid (fV bb AX E.o.2.1 ae ae);clear aF AX AY RQ SK NH;go_wp2_with fail;refine HC.o.mono ?_;rintro r u6 ⟨v,rfl,hN,hb⟩;obtain⟨a2,c2,rfl,_⟩:=hN.arg ae;clear HC;obtain⟨aF,AX,AY,RQ,SK,NH⟩:=S5.o;have hbn:=aF.trans (hb.mono aF.size);have S6:=Ew hbn (AX.below hb) (AY.below hb) (RQ.below hb) (SK.below hb) (NH.below hb) (hN.mono aF.size);clear aF AX AY RQ SK NH;clear hb hbn S5;clear hN;obtain⟨aF,AX,AY,RQ,SK,NH,NV⟩:=S6.o;have HC:=hid (Mh (NV.bS ae).2 (NH.bS ae).2 E.o.r2.1);clear aF AX AY RQ SK NH NV;go_wp2_with fail;refine HC.o.mono ?_;rintro r u7 ⟨v,v2,rfl,hN,hM,hb⟩;obtain⟨a3,c3,rfl,_⟩:=hN.arg ae;obtain⟨a4,c4,rfl,_⟩:=hM.arg ae;clear HC;obtain⟨aF,AX,AY,RQ,SK,NH,NV⟩:=S6.o;have hbn:=aF.trans (hb.mono aF.size);have S7:=Ck hbn (AX.below hb) (AY.below hb) (RQ.below hb) (SK.below hb) (NH.below hb) (hN.mono aF.size) (hM.mono aF.size);clear aF AX AY RQ SK NH NV;clear hb hbn S6;clear hN hM;obtain⟨aF,AX,AY,RQ,SK,NH,NW,NL⟩:=S7.o;have HC:=hid (HL.o u7 _ _ _ _ _ _ _ _ (NW.bS ae).2 (NL.bS ae).2 AY (NH.bS ae).2);clear aF AX AY RQ SK NH NW NL;go_wp2_with fail;refine HC.o.mono ?_;rintro r u8 ⟨rfl,hb⟩;clear HC;obtain⟨aF,AX,AY,RQ,SK,NH,NW,NL⟩:=S7.o;have hbn:=aF.trans (hb.mono aF.size);have S8:=Ck hbn (AX.below hb) (AY.below hb) (RQ.below hb) (SK.below hb) (NH.below hb) (NW.below hb) (NL.below hb);clear aF AX AY RQ SK NH NW NL;clear hb hbn S7;obtain⟨aF,AX,AY,RQ,SK,NH,NW,NL⟩:=S8.o;have hlast:=gp aF NW SK;obtain⟨x0,x1,x2,x3,x4,x5⟩:=RQ.facts;obtain⟨s0,s1,s2,Bt,Bu,Bw⟩:=SK.facts;have hsz:=ak (SK.lt);clear aF AX AY RQ SK NH NW NL;clear S8 E HL;have htA:=ak Ey;clear Ey;go_wp2
 all_goals (
  obtain⟨aF,NZ,SK⟩:=hlast.o;have hsz:=aF.size;refine aH (wX _ (w.heap.size+1) (.slice a3 (ws W0).length c3) x _ _ rfl (SK.set _ _ _)) rfl ⟨⟨.slice a3 (ws W0).length c3,?_,NZ.Pe SK aM _ _ _⟩,kZ aF hsz ae _ _ _⟩;rw[<-htA.o]
  first | rfl | simp[*])
theorem Gv {w:World}{a b:Option Addr}{ca cb:Nat}(n m:Bool) (X Y:Nat) (e f:Int) (size lX lY lH cut H vE W0 Lf WH:Nat) (t bb z x y1 y2:Int) (tt:Bool)
 (AX:Arg w a (ws X).length ca (ws X)) (AY:Arg w b (ws Y).length cb (ws Y))
 (he0:-1048576<=e) (he1:e<=1048576) (hf0:-1048576<=f) (hf1:f<=1048576) (hs:size<=1000) (hlY:bl Y=lY) (hlX:bl X=lX) (hlH:bl H=lH) (bX:lX<=262144) (bY:lY<=262144) (bH:lH<=262144)
 (ht:(lY:Int)+(size:Int)-262144=t) (hcut:max t 0=(cut:Int)) (bcut:cut<=2000)
 (e1:bJ Y (-(cut:Int))=(H,0)) (hbb:(lH:Int)+(size:Int)-(lX:Int)=bb) (e2:bJ X bb=(vE,0)) (e3:pO vE H=(W0,Lf,0))
 (HL:Hid (∀(u:World) (p q r s:Option Addr) (cp cq cr cs:Nat),Arg u p (ws W0).length cp (ws W0)->Arg u q (ws Lf).length cq (ws Lf)->Arg u r (ws Y).length cr (ws Y)->Arg u s (ws H).length cs (ws H)->At 183 #[.slice p (ws W0).length cp,.slice q (ws Lf).length cq,.slice r (ws Y).length cr,.slice s (ws H).length cs,.int .i64 (cut:Nat)] u (.int .i64 z)))
 (hz:decide (z<0)=true) (e4:pM W0 1=(WH,0))
 (h1:e-f=y1) (h2:y1-bb=y2) (h3:y2-(cut:Int)=x) (Ey:(decide (z=0)&&decide (0<=bb))=tt)
 (l1:(ws H).length<=8192) (l2:(ws vE).length<=8192) (l3:(ws W0).length<=8192) (l4:(ws Lf).length<=8192) (l5:(ws WH).length<=8192) :
 As 144 #[.agg #[.bool n,.slice a (ws X).length ca,.int .i64 e,.bool m,.slice b (ws Y).length cb,.int .i64 f],.int .i64 (size:Nat)] w λr w'=>(∃v,r=.returned (.agg #[v,.int .i64 x,.bool tt])/\Nt w.heap.size w' v WH)/\An w w':=by
 obtain⟨W1,hW1⟩:=ah ((w.alloc (.cells #[.bool n,.slice a (ws X).length ca,.int .i64 e,.bool m,.slice b (ws Y).length cb,.int .i64 f] 93)).alloc (.cells #[.slice none 0 0,.int .i64 0,.bool false] 171));obtain⟨hB,hz1,RQ,SK⟩:=BJ w n _ e m _ f W1 hW1;have TE:bJ (val (ws Y)) (-(cut:Int))=(H,0):=by rw[aB];exact e1
 have e2':bJ (val (ws X)) bb=(vE,0):=by rw[aB];exact e2
 have e3':pO (val (ws vE)) (val (ws H))=(W0,Lf,0):=by rw[aB,aB];exact e3
 have lY':bl (val (ws Y))=lY:=by rw[aB];exact hlY
 have lX':bl (val (ws X))=lX:=by rw[aB];exact hlX
 have lH':bl (val (ws H))=lH:=by rw[aB];exact hlH
 have E:=(kz TE e2' e3' lY' lX' lH');have SZ:=(bA hz1 hB);have hs2:w.heap.size+2<=W1.heap.size:=ae
 have e4':pM (val (ws W0)) (val (ws 1))=(WH,0):=by rw[aB,aB];exact e4
 have E4:=ak e4';have l1s:(ws 1).length<=8192:=by rw[CW];simp
 clear e4 e4';have hbel:=hB;have S0:=(gy hbel (AX.below hB) (AY.below hB) RQ SK);clear hbel;clear e1 e2 e3 TE e2' e3' lY' lX' lH' hlY hlX hlH AX AY hB RQ SK hz1;go_enter Tryz.func144,Tryz.ntmps144
 go_upto_region 1 with fail
 rw[<-hW1];clear hW1;obtain⟨x0,x1,x2,x3,x4,x5⟩:=S0.o.r3.1.facts
 go_quiet (fail)
 clear x0 x1 x2 x3 x4 x5;generalize hV:World.drewN W1 _=V1;have hb:An W1 V1:=by rw[<-hV];exact Below.drewN' (aD _ _) _
 clear hV;obtain⟨aF,AX,AY,RQ,SK⟩:=S0.o;have hbn:=aF.trans (hb.mono aF.size);have S1:=gy hbn (AX.below hb) (AY.below hb) (RQ.below hb) (SK.below hb);clear aF AX AY RQ SK;clear hb hbn S0;obtain⟨aF,AX,AY,RQ,SK⟩:=S1.o;have HC:=hid (qP AY E.o.r3.1);clear aF AX AY RQ SK;go_wp2_with fail;refine HC.o.mono ?_;rintro r u2 ⟨rfl,hb⟩;clear HC;obtain⟨aF,AX,AY,RQ,SK⟩:=S1.o;have hbn:=aF.trans (hb.mono aF.size);have S2:=gy hbn (AX.below hb) (AY.below hb) (RQ.below hb) (SK.below hb);clear aF AX AY RQ SK;clear hb hbn S1;obtain⟨aF,AX,AY,RQ,SK⟩:=S2.o;have HC:=hid (fV (-(cut:Int)) AY E.o.1 ae ae);clear aF AX AY RQ SK;go_wp2_with fail;refine HC.o.mono ?_;rintro r u3 ⟨v,rfl,hN,hb⟩;obtain⟨a1,c1,rfl,_⟩:=hN.arg ae;clear HC;obtain⟨aF,AX,AY,RQ,SK⟩:=S2.o;have hbn:=aF.trans (hb.mono aF.size);have S3:=kz hbn (AX.below hb) (AY.below hb) (RQ.below hb) (SK.below hb) (hN.mono aF.size);clear aF AX AY RQ SK;clear hb hbn S2;clear hN;obtain⟨aF,AX,AY,RQ,SK,NH⟩:=S3.o;have HC:=hid (qP (NH.bS ae).2 E.o.r5);clear aF AX AY RQ SK NH;go_wp2_with fail;refine HC.o.mono ?_;rintro r u4 ⟨rfl,hb⟩;clear HC;obtain⟨aF,AX,AY,RQ,SK,NH⟩:=S3.o;have hbn:=aF.trans (hb.mono aF.size);have S4:=kz hbn (AX.below hb) (AY.below hb) (RQ.below hb) (SK.below hb) (NH.below hb);clear aF AX AY RQ SK NH;clear hb hbn S3;obtain⟨aF,AX,AY,RQ,SK,NH⟩:=S4.o;have HC:=hid (qP AX E.o.r4.1);clear aF AX AY RQ SK NH;go_wp2_with fail;refine HC.o.mono ?_;rintro r u5 ⟨rfl,hb⟩;clear HC;obtain⟨aF,AX,AY,RQ,SK,NH⟩:=S4.o;have hbn:=aF.trans (hb.mono aF.size);have S5:=kz hbn (AX.below hb) (AY.below hb) (RQ.below hb) (SK.below hb) (NH.below hb);clear aF AX AY RQ SK NH;clear hb hbn S4;obtain⟨aF,AX,AY,RQ,SK,NH⟩:=S5.o;have HC:=hid (fV bb AX E.o.2.1 ae ae);clear aF AX AY RQ SK NH;go_wp2_with fail;refine HC.o.mono ?_;rintro r u6 ⟨v,rfl,hN,hb⟩;obtain⟨a2,c2,rfl,_⟩:=hN.arg ae;clear HC;obtain⟨aF,AX,AY,RQ,SK,NH⟩:=S5.o;have hbn:=aF.trans (hb.mono aF.size);have S6:=Ew hbn (AX.below hb) (AY.below hb) (RQ.below hb) (SK.below hb) (NH.below hb) (hN.mono aF.size);clear aF AX AY RQ SK NH;clear hb hbn S5;clear hN;obtain⟨aF,AX,AY,RQ,SK,NH,NV⟩:=S6.o;have HC:=hid (Mh (NV.bS ae).2 (NH.bS ae).2 E.o.r2.1);clear aF AX AY RQ SK NH NV;go_wp2_with fail;refine HC.o.mono ?_;rintro r u7 ⟨v,v2,rfl,hN,hM,hb⟩;obtain⟨a3,c3,rfl,_⟩:=hN.arg ae;obtain⟨a4,c4,rfl,_⟩:=hM.arg ae;clear HC;obtain⟨aF,AX,AY,RQ,SK,NH,NV⟩:=S6.o;have hbn:=aF.trans (hb.mono aF.size);have S7:=Ck hbn (AX.below hb) (AY.below hb) (RQ.below hb) (SK.below hb) (NH.below hb) (hN.mono aF.size) (hM.mono aF.size);clear aF AX AY RQ SK NH NV;clear hb hbn S6;clear hN hM;obtain⟨aF,AX,AY,RQ,SK,NH,NW,NL⟩:=S7.o;have HC:=hid (HL.o u7 _ _ _ _ _ _ _ _ (NW.bS ae).2 (NL.bS ae).2 AY (NH.bS ae).2);clear aF AX AY RQ SK NH NW NL;go_wp2_with fail;refine HC.o.mono ?_;rintro r u8 ⟨rfl,hb⟩;clear HC;obtain⟨aF,AX,AY,RQ,SK,NH,NW,NL⟩:=S7.o;have hbn:=aF.trans (hb.mono aF.size);have S8:=Ck hbn (AX.below hb) (AY.below hb) (RQ.below hb) (SK.below hb) (NH.below hb) (NW.below hb) (NL.below hb);clear aF AX AY RQ SK NH NW NL;clear hb hbn S7;obtain⟨aF,AX,AY,RQ,SK,NH,NW,NL⟩:=S8.o;have HC:=hid (nS 1 u8 ae);clear aF AX AY RQ SK NH NW NL;go_wp2_with fail;refine HC.o.mono ?_;rintro r u9 ⟨v,rfl,hN,hb⟩;obtain⟨a5,c5,rfl,_⟩:=hN.arg ae;clear HC;obtain⟨aF,AX,AY,RQ,SK,NH,NW,NL⟩:=S8.o;have hbn:=aF.trans (hb.mono aF.size);have S9:=QC hbn (AX.below hb) (AY.below hb) (RQ.below hb) (SK.below hb) (NH.below hb) (NW.below hb) (NL.below hb) (hN.mono aF.size);clear aF AX AY RQ SK NH NW NL;clear hb hbn S8;clear hN;obtain⟨aF,AX,AY,RQ,SK,NH,NW,NL,NO⟩:=S9.o;have HC:=hid (xA (NW.bS ae).2 (NO.bS ae).2 E4.o);clear aF AX AY RQ SK NH NW NL NO;go_wp2_with fail;refine HC.o.mono ?_;rintro r u10 ⟨v,rfl,hN,hb⟩;obtain⟨a6,c6,rfl,_⟩:=hN.arg ae;clear HC;obtain⟨aF,AX,AY,RQ,SK,NH,NW,NL,NO⟩:=S9.o;have hbn:=aF.trans (hb.mono aF.size);have Qx:=Cm hbn (AX.below hb) (AY.below hb) (RQ.below hb) (SK.below hb) (NH.below hb) (NW.below hb) (NL.below hb) (NO.below hb) (hN.mono aF.size);clear aF AX AY RQ SK NH NW NL NO;clear hb hbn S9;clear hN;obtain⟨aF,AX,AY,RQ,SK,NH,NW,NL,NO,NR⟩:=Qx.o;have hlast:=gp aF NR SK;obtain⟨x0,x1,x2,x3,x4,x5⟩:=RQ.facts;obtain⟨s0,s1,s2,Bt,Bu,Bw⟩:=SK.facts;have hsz:=ak (SK.lt);clear aF AX AY RQ SK NH NW NL NO NR;clear Qx E HL;have htA:=ak Ey;clear Ey;go_wp2
 all_goals (
  obtain⟨aF,NZ,SK⟩:=hlast.o;have hsz:=aF.size;refine aH (wX _ (w.heap.size+1) (.slice a6 (ws WH).length c6) x _ _ rfl (SK.set _ _ _)) rfl ⟨⟨.slice a6 (ws WH).length c6,?_,NZ.Pe SK aM _ _ _⟩,kZ aF hsz ae _ _ _⟩;rw[<-htA.o]
  first | rfl | simp[*])
end
end Go.Proofs.YtjppdacikihpdaaGreatDoor
