import Derived.Test.YtjppdacikihpdaaGreatDoorD32cx
import Derived.Test.YtjppdacikihpdaaGreatDoorBIeeex
import Derived.Test.YtjppdacikihpdaaGreatDoorD19x
import Derived.Deep.RegionWith
import Derived.Deep.RegionHeld3
import Derived.Deep.CutRange
import Derived.Test.YtjppdacikihpdaaGreatDoorD8x
import Derived.Test.YtjppdacikihpdaaGreatDoorU1x
import Derived.Test.YtjppdacikihpdaaGreatDoorS10x
import Derived.Test.YtjppdacikihpdaaGreatDoorM1x
import Derived.Test.YtjppdacikihpdaaGreatDoorW24x
import Derived.Laws.IdiomStrings
import Derived.Test.YtjppdacikihpdaaGreatDoorD15x
import Derived.BigQuiet
import Derived.Deep.Cut
set_option linter.unusedVariables false
set_option linter.unusedSimpArgs false
set_option maxHeartbeats 16000000
set_option maxRecDepth 20000
namespace Go.Proofs.YtjppdacikihpdaaGreatDoor
namespace J
end J
section
open Go.RowKit
theorem IU{w:World}{a:Option Addr}{n c:Nat}{xs:List Nat}(h1:Arg w a n c xs)(ng:Bool)(e:Int) :
 Calls Tryz.prog 197 #[.agg #[.bool ng,.slice a n c,.int .i64 e]] w fun r w'=>r=.returned (.int .i64 (pV ng (val xs)))/\Below w.heap.size w w':=by
 have hB:Below w.heap.size w (w.alloc (.cells #[.bool ng,.slice a n c,.int .i64 e] 79)):=ae w _;have A1:=h1.below hB;have hbig:=h1.big;have H1:=hid (l7 xs a n c _ _ A1.len (by omega) A1.wf A1.rd);obtain⟨X,hX⟩:∃ X,val xs=X:=⟨_,rfl⟩;rw[hX] at H1 |-;have SB:=ah hB;clear hB A1 h1 hX hbig;unfold pV
 by_cases h0:X=0
 · rw[if_pos h0];have hb:bl X=0:=by rw[h0,df]
   rw[hb] at H1;clear h0 hb;go_enter Tryz.func197,Tryz.ntmps197;exact qs
 · rw[if_neg h0];obtain⟨b,hb⟩:∃ b,bl X=b:=⟨_,rfl⟩;have hb0:((b:Int)==0)=false:=by have:=dm X h0;simp;omega
   rw[hb] at H1;clear h0 hb
   cases ng
   · simp only[dP,if_false];go_enter Tryz.func197,Tryz.ntmps197;exact qs
   · simp only[if_true];go_enter Tryz.func197,Tryz.ntmps197;exact qs
theorem NF{w:World}{a:Option Addr}{l c:Nat}{xs:List Nat}{X:Nat}(k:Nat)(h1:Arg w a l c xs)(hX:val xs=X)(hl:l<=2000000)(hk:k<=64000000) :
 Calls Tryz.prog 113 #[.slice a l c,.int .i64 (k:Nat)] w fun r w'=>∃ v,r=.returned v/\Nt w.heap.size w' v (X*2^k)/\Below w.heap.size w w':=by
 obtain⟨q,hq⟩:=af (k/32);obtain⟨s,hs⟩:=af (k%32);have e1:(k:Int)/32=(q:Int):=by omega
 have e2:(k:Int)%32=(s:Int):=by omega
 have hqb:q<=2000000:=by omega
 have Qp:s<32:=by omega
 obtain⟨W1,hW1⟩:=af (w.alloc (.cells (madeCells #[.int .u32 0] q) 162));have lD:Own W1 w.heap.size (List.replicate q 0):=by rw[hW1];exact Own.made w q
 have hB1:Below w.heap.size w W1:=by rw[hW1];exact(ay _ _).alloc (ak _) _
 have hmk:=dw (q:Int) q rfl (by omega) w;rw[<-hW1] at hmk;have hR:=rG lD (by simp;omega);simp only[wB] at hR;have A1:=h1.below hB1;obtain⟨v',w2,hap,hown,hgrow⟩:=jQ W1 w.heap.size _ q (List.replicate q 0) xs a l c W1.heap.size 77 hR A1.len A1.rd A1.nil (by omega) hB1.size;have hB2:Below w.heap.size w w2:=hB1.grown hgrow hB1.size (fun k hk=>by simp[Value.ownBlock] at hk;omega);obtain⟨a2,c2,rfl,hc2,hl2,ve,Ei⟩:=Rw.words hown;have AO:Arg w2 a2 (q+l) c2 (List.replicate q 0++xs):=⟨hl2,hc2,by omega,(Wf.zeros q).append h1.wf,Ei,ve⟩
 have hval:val (List.replicate q 0++xs)=X*pw q:=by
  rw[val_append,jV,hX,wB,cO,bJ]
 have hpw:pw q*2^s=2^k:=by
  exact Qbu
 have hps:=tC s Qp;obtain⟨p,hp⟩:=af (2^s)
 have e3:(2:Int)^s=(p:Int):=by
  exact Qas
 have hpl:p<4294967296:=by omega
 have T1:=hid (kD (V:=X*2^k) (AO.below (ae w2 _)) (rE w2 p (by omega)) (by omega) (by rw[hval];simp only[val];rw[<-hpw,hp,aJ];simp));have Lx:=hid hap;have hs2:=hB2.size;have S1:=ah hB2;clear hap hown hgrow hB2 hl2 ve Ei AO hval hpw A1 hR lD hB1 h1 hW1 hq hs hps hp hX;go_enter Tryz.func113,Tryz.ntmps113
 go_wp2_with (at_builtin;refine cu rfl (.tmp 39) (.tmp 40) 77 rfl _ _ rfl rfl _ _ Lx.o ?_)
 refine T1.o.mono ?_;rintro r u3 ⟨v3,rfl,sP,hb3⟩;have S2:=(aZ sP hb3);clear sP hb3;go_wp2;go_ret;obtain⟨sP,hb3⟩:=S2.o;exact⟨v3,rfl,sP.mono (by simp;omega),S1.o.trans (((ae w2 _).trans (hb3.mono (by simp))).mono hs2)⟩
theorem Rs {w:World}{a b:Option Addr}{n c m d:Nat}(e f:Int) (x y:Nat) (bx:x<=1125899906842624) (by':y<=1125899906842624) (hx:x=0) (z:Int)
 (H1:Hid (Calls Tryz.prog 194 #[.slice a n c] w fun r w'=>r=.returned (.int .i64 (x:Nat))/\w'=w))
 (H2:Hid (Calls Tryz.prog 194 #[.slice b m d] w fun r w'=>r=.returned (.int .i64 (y:Nat))/\w'=w))
 (HC:Hid (Calls Tryz.prog 115 #[.slice a n c,.slice b m d] w fun r w'=>r=.returned (.int .i64 z)/\Below w.heap.size w w')):Calls Tryz.prog 216 #[.slice a n c,.int .i64 e,.slice b m d,.int .i64 f] w fun r w'=>r=.returned (.int .i64 z)/\Below w.heap.size w w':=by
 have ex:IntKind.u64.wrap (x:Int)=(x:Int):=by rw[jE];omega
 have ey:IntKind.u64.wrap (y:Int)=(y:Int):=by rw[jE];omega
 subst hx;go_enter Tryz.func216,Tryz.ntmps216;go_wp2_with fail;refine H1.o.mono ?_;rintro r ww ⟨rfl,hw⟩;rw[hw];clear hw ww;go_wp2_with fail;refine H2.o.mono ?_;rintro r ww ⟨rfl,hw⟩;rw[hw];clear hw ww;go_wp2_with fail;refine HC.o.mono ?_;rintro r u1 ⟨rfl,hb⟩;have S1:=ah hb;clear hb;go_wp2;go_ret;exact⟨rfl,S1.o⟩
theorem Rt {w:World}{a b:Option Addr}{n c m d:Nat}(e f:Int) (x y:Nat) (bx:x<=1125899906842624) (by':y<=1125899906842624) (hx:((x:Int)==0)=false) (hy:y=0) (z:Int)
 (H1:Hid (Calls Tryz.prog 194 #[.slice a n c] w fun r w'=>r=.returned (.int .i64 (x:Nat))/\w'=w))
 (H2:Hid (Calls Tryz.prog 194 #[.slice b m d] w fun r w'=>r=.returned (.int .i64 (y:Nat))/\w'=w))
 (HC:Hid (Calls Tryz.prog 115 #[.slice a n c,.slice b m d] w fun r w'=>r=.returned (.int .i64 z)/\Below w.heap.size w w')):Calls Tryz.prog 216 #[.slice a n c,.int .i64 e,.slice b m d,.int .i64 f] w fun r w'=>r=.returned (.int .i64 z)/\Below w.heap.size w w':=by
 have ex:IntKind.u64.wrap (x:Int)=(x:Int):=by rw[jE];omega
 have ey:IntKind.u64.wrap (y:Int)=(y:Int):=by rw[jE];omega
 subst hy;go_enter Tryz.func216,Tryz.ntmps216;go_wp2_with fail;refine H1.o.mono ?_;rintro r ww ⟨rfl,hw⟩;rw[hw];clear hw ww;go_wp2_with fail;refine H2.o.mono ?_;rintro r ww ⟨rfl,hw⟩;rw[hw];clear hw ww;go_wp2_with fail;refine HC.o.mono ?_;rintro r u1 ⟨rfl,hb⟩;have S1:=ah hb;clear hb;go_wp2;go_ret;exact⟨rfl,S1.o⟩
theorem VL {w:World}{a b:Option Addr}{n c m d:Nat}(e f:Int) (x y:Nat) (bx:x<=1125899906842624) (by':y<=1125899906842624) (hx:((x:Int)==0)=false) (hy:((y:Int)==0)=false) (hlt:e<f) (z:Int) (hz0:-1<=z) (hz1:z<=1)
 (H1:Hid (Calls Tryz.prog 194 #[.slice a n c] w fun r w'=>r=.returned (.int .i64 (x:Nat))/\w'=w))
 (H2:Hid (Calls Tryz.prog 194 #[.slice b m d] w fun r w'=>r=.returned (.int .i64 (y:Nat))/\w'=w))
 (HR:Hid (Calls Tryz.prog 216 #[.slice b m d,.int .i64 f,.slice a n c,.int .i64 e] w fun r w'=>r=.returned (.int .i64 z)/\Below w.heap.size w w')):Calls Tryz.prog 216 #[.slice a n c,.int .i64 e,.slice b m d,.int .i64 f] w fun r w'=>r=.returned (.int .i64 (-z))/\Below w.heap.size w w':=by
 have ex:IntKind.u64.wrap (x:Int)=(x:Int):=by rw[jE];omega
 have ey:IntKind.u64.wrap (y:Int)=(y:Int):=by rw[jE];omega
 go_enter Tryz.func216,Tryz.ntmps216;go_wp2_with fail;refine H1.o.mono ?_;rintro r ww ⟨rfl,hw⟩;rw[hw];clear hw ww;go_wp2_with fail;refine H2.o.mono ?_;rintro r ww ⟨rfl,hw⟩;rw[hw];clear hw ww;go_wp2_with fail;refine HR.o.mono ?_;rintro r u1 ⟨rfl,hb⟩;have S1:=ah hb;clear hb;go_wp2;go_ret;exact⟨rfl,S1.o⟩
theorem YT {w:World}{a b:Option Addr}{n c m d:Nat}(e f:Int) (x y:Nat) (bx:x<=1125899906842624) (by':y<=1125899906842624) (hx:((x:Int)==0)=false) (hy:((y:Int)==0)=false) (hge:decide (e<f)=false) (dd:Nat) (hap:IntKind.u64.wrap (IntKind.u64.wrap e-IntKind.u64.wrap f)=(dd:Int)) (hd:1099511627776<dd)
 (H1:Hid (Calls Tryz.prog 194 #[.slice a n c] w fun r w'=>r=.returned (.int .i64 (x:Nat))/\w'=w))
 (H2:Hid (Calls Tryz.prog 194 #[.slice b m d] w fun r w'=>r=.returned (.int .i64 (y:Nat))/\w'=w)):Calls Tryz.prog 216 #[.slice a n c,.int .i64 e,.slice b m d,.int .i64 f] w fun r w'=>r=.returned (.int .i64 1)/\Below w.heap.size w w':=by
 have hd2:(1099511627776:Int)<(dd:Int):=by omega
 have ex:IntKind.u64.wrap (x:Int)=(x:Int):=by rw[jE];omega
 have ey:IntKind.u64.wrap (y:Int)=(y:Int):=by rw[jE];omega
 go_enter Tryz.func216,Tryz.ntmps216;go_wp2_with fail;refine H1.o.mono ?_;rintro r ww ⟨rfl,hw⟩;rw[hw];clear hw ww;go_wp2_with fail;refine H2.o.mono ?_;rintro r ww ⟨rfl,hw⟩;rw[hw];clear hw ww;go_wp2;go_ret;exact⟨rfl,ay _ _⟩
theorem VM {w:World}{a b:Option Addr}{n c m d:Nat}(e f:Int) (x y:Nat) (bx:x<=1125899906842624) (by':y<=1125899906842624) (hx:((x:Int)==0)=false) (hy:((y:Int)==0)=false) (hge:decide (e<f)=false) (dd:Nat) (hap:IntKind.u64.wrap (IntKind.u64.wrap e-IntKind.u64.wrap f)=(dd:Int)) (hd:dd<=1099511627776) (h1:y<x+dd)
 (H1:Hid (Calls Tryz.prog 194 #[.slice a n c] w fun r w'=>r=.returned (.int .i64 (x:Nat))/\w'=w))
 (H2:Hid (Calls Tryz.prog 194 #[.slice b m d] w fun r w'=>r=.returned (.int .i64 (y:Nat))/\w'=w)):Calls Tryz.prog 216 #[.slice a n c,.int .i64 e,.slice b m d,.int .i64 f] w fun r w'=>r=.returned (.int .i64 1)/\Below w.heap.size w w':=by
 have hd2:decide ((1099511627776:Int)<(dd:Int))=false:=decide_eq_false (by omega);have hd3:decide (1099511627776<dd)=false:=decide_eq_false (by omega);have es:IntKind.u64.wrap ((x:Int)+(dd:Int))=(x:Int)+(dd:Int):=by rw[jE];omega
 have h2:(y:Int)<(x:Int)+(dd:Int):=by omega
 have ex:IntKind.u64.wrap (x:Int)=(x:Int):=by rw[jE];omega
 have ey:IntKind.u64.wrap (y:Int)=(y:Int):=by rw[jE];omega
 go_enter Tryz.func216,Tryz.ntmps216;go_wp2_with fail;refine H1.o.mono ?_;rintro r ww ⟨rfl,hw⟩;rw[hw];clear hw ww;go_wp2_with fail;refine H2.o.mono ?_;rintro r ww ⟨rfl,hw⟩;rw[hw];clear hw ww;go_wp2;go_ret;exact⟨rfl,ay _ _⟩
theorem VN {w:World}{a b:Option Addr}{n c m d:Nat}(e f:Int) (x y:Nat) (bx:x<=1125899906842624) (by':y<=1125899906842624) (hx:((x:Int)==0)=false) (hy:((y:Int)==0)=false) (hge:decide (e<f)=false) (dd:Nat) (hap:IntKind.u64.wrap (IntKind.u64.wrap e-IntKind.u64.wrap f)=(dd:Int)) (hd:dd<=1099511627776) (h1:x+dd<y)
 (H1:Hid (Calls Tryz.prog 194 #[.slice a n c] w fun r w'=>r=.returned (.int .i64 (x:Nat))/\w'=w))
 (H2:Hid (Calls Tryz.prog 194 #[.slice b m d] w fun r w'=>r=.returned (.int .i64 (y:Nat))/\w'=w)):Calls Tryz.prog 216 #[.slice a n c,.int .i64 e,.slice b m d,.int .i64 f] w fun r w'=>r=.returned (.int .i64 (-1))/\Below w.heap.size w w':=by
 have hd2:decide ((1099511627776:Int)<(dd:Int))=false:=decide_eq_false (by omega);have hd3:decide (1099511627776<dd)=false:=decide_eq_false (by omega);have es:IntKind.u64.wrap ((x:Int)+(dd:Int))=(x:Int)+(dd:Int):=by rw[jE];omega
 have h2:(x:Int)+(dd:Int)<(y:Int):=by omega
 have h3:decide ((y:Int)<(x:Int)+(dd:Int))=false:=decide_eq_false (by omega);have h4:decide (y<x+dd)=false:=decide_eq_false (by omega);have ex:IntKind.u64.wrap (x:Int)=(x:Int):=by rw[jE];omega
 have ey:IntKind.u64.wrap (y:Int)=(y:Int):=by rw[jE];omega
 go_enter Tryz.func216,Tryz.ntmps216;go_wp2_with fail;refine H1.o.mono ?_;rintro r ww ⟨rfl,hw⟩;rw[hw];clear hw ww;go_wp2_with fail;refine H2.o.mono ?_;rintro r ww ⟨rfl,hw⟩;rw[hw];clear hw ww;go_wp2;go_ret;exact⟨rfl,ay _ _⟩
theorem VO {w:World}{a b:Option Addr}{n c m d:Nat}(e f:Int) (x y:Nat) (bx:x<=1125899906842624) (by':y<=1125899906842624) (hx:((x:Int)==0)=false) (hy:((y:Int)==0)=false) (hge:decide (e<f)=false) (dd:Nat) (hap:IntKind.u64.wrap (IntKind.u64.wrap e-IntKind.u64.wrap f)=(dd:Int)) (hd:dd<=64000000) (h1:x+dd=y) (P:Nat) (lP:(ws P).length<=35184372088832) (z:Int)
 (H1:Hid (Calls Tryz.prog 194 #[.slice a n c] w fun r w'=>r=.returned (.int .i64 (x:Nat))/\w'=w))
 (H2:Hid (Calls Tryz.prog 194 #[.slice b m d] w fun r w'=>r=.returned (.int .i64 (y:Nat))/\w'=w))
 (HM:Hid (Calls Tryz.prog 113 #[.slice a n c,.int .i64 (dd:Nat)] w fun r w'=>∃ v,r=.returned v/\Nt w.heap.size w' v P/\Below w.heap.size w w'))
 (HC:Hid (∀ u p q,Below w.heap.size w u->Arg u p (ws P).length q (ws P)->Calls Tryz.prog 115 #[.slice p (ws P).length q,.slice b m d] u fun r w'=>r=.returned (.int .i64 z)/\Below u.heap.size u w')):Calls Tryz.prog 216 #[.slice a n c,.int .i64 e,.slice b m d,.int .i64 f] w fun r w'=>r=.returned (.int .i64 z)/\Below w.heap.size w w':=by
 have hd2:decide ((1099511627776:Int)<(dd:Int))=false:=decide_eq_false (by omega);have hd3:decide (1099511627776<dd)=false:=decide_eq_false (by omega);have es:IntKind.u64.wrap ((x:Int)+(dd:Int))=(x:Int)+(dd:Int):=by rw[jE];omega
 have h2:decide ((x:Int)+(dd:Int)<(y:Int))=false:=decide_eq_false (by omega);have h3:decide ((y:Int)<(x:Int)+(dd:Int))=false:=decide_eq_false (by omega);have h4:decide (y<x+dd)=false:=decide_eq_false (by omega);have h5:decide (x+dd<y)=false:=decide_eq_false (by omega);have ed:IntKind.i64.wrap (dd:Int)=(dd:Int):=by rw[Pg];omega
 clear h1;have ex:IntKind.u64.wrap (x:Int)=(x:Int):=by rw[jE];omega
 have ey:IntKind.u64.wrap (y:Int)=(y:Int):=by rw[jE];omega
 go_enter Tryz.func216,Tryz.ntmps216;go_wp2_with fail;refine H1.o.mono ?_;rintro r ww ⟨rfl,hw⟩;rw[hw];clear hw ww;go_wp2_with fail;refine H2.o.mono ?_;rintro r ww ⟨rfl,hw⟩;rw[hw];clear hw ww;go_wp2_with fail;refine HM.o.mono ?_;rintro r u1 ⟨v,rfl,hN,hb⟩;obtain⟨a1,c1,rfl,A1⟩:=hN.arg lP;have HC1:=hid (HC.o u1 a1 c1 hb A1);have hs1:=hb.size;have S1:=ah hb;clear hN hb A1;go_wp2_with fail;refine HC1.o.mono ?_;rintro r u2 ⟨rfl,hb⟩;have S2:=ah (S1.o.trans (hb.mono hs1));clear hb;go_wp2;go_ret;exact⟨rfl,S2.o⟩
def XK(X:Nat)(e:Int)(Y:Nat)(f:Int):Int:=if X=0\/Y=0 then aW X Y else tN X e Y f
theorem yo{w:World}{a b:Option Addr}{n c m d:Nat}{xs ys:List Nat}(h1:Arg w a n c xs)(h2:Arg w b m d ys)(hn:n<=2000000)(hm:m<=2000000)(e f:Int)(he0:-9223372036854775808<=e)(he1:e<=9223372036854775807)(hf0:-9223372036854775808<=f)(hf1:f<=9223372036854775807)(h:f<=e)(hX:val xs≠0)(hY:val ys≠0) :
 Calls Tryz.prog 216 #[.slice a n c,.int .i64 e,.slice b m d,.int .i64 f] w fun r w'=>r=.returned (.int .i64 (tN (val xs) e (val ys) f))/\Below w.heap.size w w':=by
 have b1:=h1.big;have b2:=h2.big;have L1:=hid (l7 xs a n c w.heap.size w h1.len (by omega) h1.wf h1.rd);have L2:=hid (l7 ys b m d w.heap.size w h2.len (by omega) h2.wf h2.rd);have x0:(((bl (val xs):Nat):Int)==0)=false:=by have:=dm _ hX;simp;omega
 have y0:(((bl (val ys):Nat):Int)==0)=false:=by have:=dm _ hY;simp;omega
 have hap:=Nw e f he0 he1 hf0 hf1 h;have hge:decide (e<f)=false:=decide_eq_false (by omega);have c1:=IQ h1
 have c2:bl (val ys)<=64000000:=by
  have:=bN ys h2.wf;rw[<-h2.len] at this;have:=Qi _ _ this;omega
 unfold tN;rw[if_neg (by omega)];obtain⟨dd,hdd⟩:∃ dd,(e-f).toNat=dd:=⟨_,rfl⟩;rw[hdd] at hap |-;have hb:=EI (val xs) dd hX
 by_cases k1:1099511627776<dd
 · have:aW (val xs*2^dd) (val ys)=1:=by
    rw[Cs (by omega),hb];unfold aW;rw[if_neg (by omega),if_pos (by omega)]
   rw[this];exact YT e f _ _ c1 (by omega) x0 y0 hge dd hap k1 L1 L2
 · by_cases k2:bl (val ys)<bl (val xs)+dd
   · have:aW (val xs*2^dd) (val ys)=1:=by
      rw[Cs (by omega),hb];unfold aW;rw[if_neg (by omega),if_pos (by omega)]
     rw[this];exact VM e f _ _ c1 (by omega) x0 y0 hge dd hap (by omega) k2 L1 L2
   · by_cases k3:bl (val xs)+dd<bl (val ys)
     · have:aW (val xs*2^dd) (val ys)=-1:=by
        rw[Cs (by omega),hb];unfold aW;rw[if_pos (by omega)]
       rw[this];exact VN e f _ _ c1 (by omega) x0 y0 hge dd hap (by omega) k3 L1 L2
     · have lP:(ws (val xs*2^dd)).length<=35184372088832:=by rw[gG,hb];omega
       obtain⟨P,hP⟩:∃ P,val xs*2^dd=P:=⟨_,rfl⟩;have HM:=hid (NF (X:=val xs) dd h1 rfl hn (by omega));rw[hP] at HM lP |-;exact VO e f _ _ c1 (by omega) x0 y0 hge dd hap (by omega) (by omega) P lP _ L1 L2 HM (hid fun u p q hu hA=>jr hA (h2.below hu) _ (by rw[au]))
theorem EW{w:World}{a b:Option Addr}{n c m d:Nat}{xs ys:List Nat}(h1:Arg w a n c xs)(h2:Arg w b m d ys)(hn:n<=2000000)(hm:m<=2000000)(e f:Int)(he0:-9223372036854775808<=e)(he1:e<=9223372036854775807)(hf0:-9223372036854775808<=f)(hf1:f<=9223372036854775807) :
 Calls Tryz.prog 216 #[.slice a n c,.int .i64 e,.slice b m d,.int .i64 f] w fun r w'=>r=.returned (.int .i64 (XK (val xs) e (val ys) f))/\Below w.heap.size w w':=by
 have b1:=h1.big;have b2:=h2.big;have L1:=hid (l7 xs a n c w.heap.size w h1.len (by omega) h1.wf h1.rd);have L2:=hid (l7 ys b m d w.heap.size w h2.len (by omega) h2.wf h2.rd);have c1:=IQ h1;have c2:=IQ h2;unfold XK
 by_cases hX:val xs=0
 · rw[if_pos (.inl hX)];exact Rs e f _ _ c1 c2 (by rw[hX,df]) _ L1 L2 (hid (jr h1 h2 _ rfl))
 · have x0:(((bl (val xs):Nat):Int)==0)=false:=by have:=dm _ hX;simp;omega
   by_cases hY:val ys=0
   · rw[if_pos (.inr hY)];exact Rt e f _ _ c1 c2 x0 (by rw[hY,df]) _ L1 L2 (hid (jr h1 h2 _ rfl))
   · have y0:(((bl (val ys):Nat):Int)==0)=false:=by have:=dm _ hY;simp;omega
     rw[if_neg (fun h=>h.elim hX hY)]
     by_cases h:e<f
     · have hr:=IP (val ys) f (val xs) e;have:=VL e f _ _ c1 c2 x0 y0 h (tN (val ys) f (val xs) e) (by omega) (by omega) L1 L2 (hid (yo h2 h1 hm hn f e hf0 hf1 he0 he1 (by omega) hY hX));rw[Rh] at this;exact this
     · exact yo h1 h2 hn hm e f he0 he1 hf0 hf1 (by omega) hX hY
theorem agV_z(X:Nat)(e:Int)(Y:Nat)(f B:Int)(h1:B<=e)(h2:B<=f):XK X e Y f=iT ((X*2^(e-B).toNat:Nat):Int) ((Y*2^(f-B).toNat:Nat):Int):=by
 rw[Rj];unfold XK
 by_cases h:X=0\/Y=0
 · rw[if_pos h];have p1:=Kz X (e-B).toNat;have p2:=Kz Y (f-B).toNat;generalize X*2^(e-B).toNat=P at p1 |-;generalize Y*2^(f-B).toNat=Q at p2 |-
   have q1:X=0/\P=0\/X≠0/\P≠0:=by
    by_cases h:X=0
    · exact .inl ⟨h,p1.2 h⟩
    · exact .inr ⟨h,fun k=>h (p1.1 k)⟩
   have q2:Y=0/\Q=0\/Y≠0/\Q≠0:=by
    by_cases h:Y=0
    · exact .inl ⟨h,p2.2 h⟩
    · exact .inr ⟨h,fun k=>h (p2.1 k)⟩
   clear p1 p2;unfold aW;rcases h with h|h
   · rcases q1 with ⟨a,b⟩ | ⟨a,b⟩
     · rcases q2 with ⟨c,d⟩ | ⟨c,d⟩
       · rw[a,b,c,d]
       · rw[a,b,if_pos (by omega),if_pos (by omega)]
     · exact absurd h a
   · rcases q2 with ⟨c,d⟩ | ⟨c,d⟩
     · rcases q1 with ⟨a,b⟩ | ⟨a,b⟩
       · rw[a,b,c,d]
       · rw[c,d,if_neg (by omega),if_pos (by omega),if_neg (by omega),if_pos (by omega)]
     · exact absurd h c
 · rw[if_neg h];exact NC X e Y f B h1 h2
theorem Ru(k:Nat)(B:Int)(hB:B<=-1074):(gp k).1*2^((gp k).2-B).toNat=vK k*2^(-1074-B).toNat/\(gp k).1<9007199254740992/\B<=(gp k).2/\((gp k).1=0↔k=0):=by
 unfold gp
 by_cases h:k/4503599627370496=0
 · rw[if_pos h];refine⟨?_,by simp only;omega,by simp only;omega,by simp only;omega⟩;simp only;have:=ic 0 k (.inl rfl) (by omega);rw[dS,cO,fw,dM] at this;rw[this,show k%4503599627370496=k by omega]
 · rw[if_neg h];obtain⟨q,hq⟩:∃ q,k/4503599627370496=q:=⟨_,rfl⟩;obtain⟨f,hf⟩:∃ f,k%4503599627370496=f:=⟨_,rfl⟩;rw[hq,hf];refine⟨?_,by simp only;omega,by simp only;omega,by simp only;omega⟩;simp only;have:=ic (q-1) (4503599627370496+f) (.inr (by omega)) (by omega);rw[show(q-1)*4503599627370496+(4503599627370496+f)=k by omega] at this;rw[this,aJ,<-aI,show(-1074+(q:Int)-1-B).toNat=q-1+(-1074-B).toNat by omega]
end
section
open Go.RowKit J
theorem YU(s:Bool)(v:Nat):nD s*(v:Int)=B.sg s v:=by unfold nD B.sg;cases s <;> simp
theorem Rx(K:Nat)(hK:K<9218868437227405312)(a:Nat)(ha:a=2045):vK K<9007199254740992*2^a:=by
 have h:=ic a 9007199254740992 (.inr (by omega)) (by omega);have h2:a*4503599627370496+9007199254740992=9218868437227405312:=by rw[ha]
 rw[<-h,h2];exact ET.2 hK
theorem of_fo(s:Bool)(K:Nat)(hK:K<9218868437227405312):∃ n X e,Uf s K=some (n,X,e)/\Fo (some (n,X,e)) (B.sg s (vK K)*(UU:Int)) (-1074) 1024/\(X=0↔K=0):=by
 obtain⟨n,X,e,h1,F,h2,h3,h4⟩:=VK s K hK;refine⟨n,X,e,h1,⟨n,X,e,rfl,F,?_,?_⟩,h3⟩
 · obtain⟨a,ha⟩:∃ a:Nat,(-1074 - -2097152:Int).toNat=a:=⟨_,rfl⟩;have h5:=h4 (-2097152) (by omega);rw[ha] at h5;rw[h5,US a (by omega),dK,dK,<-kV,<-kV,YU]
 · by_cases hX:X=0
   · exact .inl hX
   · right
     have ho:=VJ F hX;have hd:=F.down
     -- in units of the form's own place
     have h5:=h4 (min e (-1074)) (by omega);unfold zv at h5;simp only at h5;rw[h2 hX] at h5
     have h6:X*2^(e-min e (-1074)).toNat=vK K*2^(-1074-min e (-1074)).toNat:=by
      unfold nD at h5
      cases s
      · simp only[dP,if_false,Int.one_mul] at h5;exact_mod_cast h5
      · simp only[if_true] at h5;have:=Int.eq_of_mul_eq_mul_left (by decide) h5;exact_mod_cast this
     have he:-1074<=e:=by
      apply Int.le_of_not_gt;intro hlt;rw[show(e-min e (-1074)).toNat=0 by omega,fw,dM] at h6;obtain⟨q,hq⟩:∃ q,(-1074-min e (-1074)).toNat=q+1:=⟨(-1074-min e (-1074)).toNat-1,by omega⟩;rw[hq,dC,<-aJ] at h6;omega
     refine⟨he,?_⟩;rw[show(-1074-min e (-1074)).toNat=0 by omega,fw,dM] at h6;obtain⟨q,hq⟩:∃ q,(e-min e (-1074)).toNat=q:=⟨_,rfl⟩;rw[hq] at h6;obtain⟨c,hc⟩:∃ c:Nat,c=2045:=⟨_,rfl⟩;have h7:=Rx K hK c hc;have h8:=gL X hX;have h9:=dm X hX;obtain⟨b,hb⟩:∃ b,bl X=b+1:=⟨bl X-1,by omega⟩;rw[hb,lZ] at h8;have h10:2^b*2^q<9007199254740992*2^c:=gQ (di _ h8) (by rw[h6];exact h7);rw[<-aI,show(9007199254740992:Nat)=2^53 from rfl,<-aI] at h10;have h11:=(jI (by decide:1<2)).1 h10;omega
theorem absSg(s:Bool)(v:Nat):(B.sg s v).natAbs=v:=by unfold B.sg;cases s <;> simp
abbrev Wd(x:Nat):Prop:=x<18446744073709551616
abbrev aY(x:Nat):Prop:=aQ x<9218868437227405312
def tQ(x:Nat):Int:=B.sg (cZ x) (vK (aQ x))
theorem YV(s:Bool)(v:Nat):(B.sg s v).natAbs=v:=absSg s v
theorem ig{x:Nat}(hx:x<18446744073709551616)(fx:aY x):Ke x=cZ x/\vK (aQ x)=vw x*2^(Dl x+1074).toNat/\-1074<=Dl x/\((jy x=0/\vw x=0)\/((jy x=1\/jy x=2)/\vw x≠0)):=by
 have hm:aQ x=eW x*4503599627370496+fW x:=by unfold aQ eW fW;omega
 have he:eW x<2047:=by have h:aQ x<9218868437227405312:=fx;omega
 have hf:fW x<4503599627370496:=gP _ (by decide);refine⟨by unfold Ke B.ng;rw[if_neg (by omega)];rfl,?_⟩
 by_cases h0:eW x=0
 · have hfr:vw x=fW x:=by unfold vw B.fr;rw[if_neg (by omega),if_pos h0];simp
   have hxp:Dl x=-1074:=by unfold Dl B.xp;rw[if_neg (by omega),if_pos h0]
   have hv:vK (aQ x)=fW x:=by
    have:=ic 0 (fW x) (.inl rfl) (by omega);rw[hm,h0];simpa using this
   refine⟨by rw[hv,hfr,hxp];simp,by omega,?_⟩
   by_cases hz:fW x=0
   · exact .inl ⟨by unfold jy B.cls;rw[if_neg (by omega),if_pos h0,if_pos hz],by omega⟩
   · exact .inr ⟨.inl (by unfold jy B.cls;rw[if_neg (by omega),if_pos h0,if_neg hz]),by omega⟩
 · have hfr:vw x=fW x+4503599627370496:=by unfold vw B.fr;rw[if_neg (by omega),if_neg h0];omega
   have hxp:Dl x=(eW x:Int)-1075:=by unfold Dl B.xp;rw[if_neg (by omega),if_neg h0]
   have hv:vK (aQ x)=(fW x+4503599627370496)*2^(eW x-1):=by
    have:=ic (eW x-1) (fW x+4503599627370496) (.inr (by omega)) (by omega);rw[<-this,hm,show eW x*4503599627370496+fW x=(eW x-1)*4503599627370496+(fW x+4503599627370496) by omega]
   refine⟨by rw[hv,hfr,hxp,show((eW x:Int)-1075+1074).toNat=eW x-1 by omega],by omega,.inr ⟨.inr (by unfold jy B.cls;rw[if_neg (by omega),if_neg h0]),by omega⟩⟩
theorem VP(a b:Bool)(f g i j:Nat):kz (!(a==b)) (f*g*2^(i+j))=B.sg a (f*2^i)*B.sg b (g*2^j):=by
 have e:f*g*2^(i+j)=(f*2^i)*(g*2^j):=by
  rw[aI,qx]
 rw[e];generalize f*2^i=P;generalize g*2^j=Q;unfold kz B.sg
 cases a <;> cases b <;> simp[Int.neg_mul,Int.mul_neg]
theorem YW{x y:Nat}(hx:x<18446744073709551616)(hy:y<18446744073709551616)(fx:aY x)(fy:aY y):pT x y=tQ x*tQ y/\(pK x y=0\/pK x y=4\/pK x y=5):=by
 obtain⟨n1,v1,x1,c1⟩:=ig hx fx;obtain⟨n2,v2,x2,c2⟩:=ig hy fy;unfold pT pK tQ;rw[n1,n2,v1,v2]
 by_cases hz:jy x=0\/jy y=0
 · have hmin:min (jy x) (jy y)=0:=by omega
   have hmax:max (jy x) (jy y)<=2:=by omega
   have hpk:pk (max (jy x) (jy y)) (min (jy x) (jy y)) (!cZ x==cZ y)=4\/pk (max (jy x) (jy y)) (min (jy x) (jy y)) (!cZ x==cZ y)=5:=by
    unfold pk;rw[hmin,if_neg (by omega),if_neg (by omega),if_pos rfl]
    split
    · exact .inl rfl
    · exact .inr rfl
   refine⟨?_,.inr hpk⟩;rw[oz (by omega)];rcases c1 with ⟨_,f1⟩|⟨k1,_⟩
   · rw[f1];simp[B.sg]
   · rcases c2 with ⟨_,f2⟩ | ⟨k2,_⟩
     · rw[f2];simp[B.sg]
     · omega
 · have hpk:pk (max (jy x) (jy y)) (min (jy x) (jy y)) (!cZ x==cZ y)=0:=by
    unfold pk;rw[if_neg (by omega),if_neg (by omega),if_neg (by omega)]
   refine⟨?_,.inl hpk⟩;rw[J9 hpk,show(Dl x+Dl y+2148).toNat=(Dl x+1074).toNat+(Dl y+1074).toNat by omega];have e:(!cZ x==cZ y)=!(cZ x==cZ y):=by cases cZ x <;> cases cZ y <;> rfl
   rw[e];exact VP _ _ _ _ _ _
theorem Ct{x:Nat}(h:9218868437227405312<aQ x):jy x=4:=by
 have hm:aQ x=eW x*4503599627370496+fW x:=by unfold aQ eW fW;omega
 have hf:fW x<4503599627370496:=gP _ (by decide);have he:eW x<2048:=by have:aQ x<9223372036854775808:=gP _ (by decide);omega
 unfold jy B.cls;rw[if_pos (by omega),if_neg (by omega)]
theorem tT{x:Nat}(h:aQ x=9218868437227405312):jy x=3/\Ke x=cZ x:=by
 have hm:aQ x=eW x*4503599627370496+fW x:=by unfold aQ eW fW;omega
 have hf:fW x<4503599627370496:=gP _ (by decide);unfold jy B.cls Ke B.ng;rw[if_pos (by omega),if_pos (by omega),if_neg (by omega)];exact XS
theorem Ry(x:Nat):0<=jy x/\jy x<=4:=by unfold jy B.cls;(repeat' split) <;> omega
end
section
open Go.RowKit
theorem iK{n a b:Nat}(hn:0<n):a^n<b^n↔a<b:=Nat.pow_lt_pow_iff_left (by omega)
theorem EZ{n a b:Nat}(hn:0<n):a^n=b^n↔a=b:=by
 constructor
 · intro h;rcases l6 a b with k|k|k
   · have:=(iK hn).2 k;omega
   · exact k
   · have:=(iK hn).2 k;omega
 · intro h;rw[h]
structure Rz (v:Nat->Nat) (top:Nat):Prop where
 one:1<top
 zero:v 0=0
 mono:∀ {k l},k<l->v k<v l
 step:∀ k,k<top->∃ c j,v k=c*2^j/\v (k+1)=(c+1)*2^j/\c<9007199254740992/\j<=2045
structure jB (v:Nat->Nat) (top n:Nat) (K:Nat) (t:Bool) (m:Int) (V S:Nat):Prop where
 fin:K<top
 pos:0<S
 one:t=true->V=v K^n*S
 low:t=false->v K^n*S<V
 VG:t=false->V<v (K+1)^n*S->(m=-1/\2^n*V<(v K+v (K+1))^n*S\/m=0/\2^n*V=(v K+v (K+1))^n*S\/m=1/\(v K+v (K+1))^n*S<2^n*V)
 high:t=false->V<v (K+1)^n*S\/(K+1=top/\m=1)
def Alike(n P Q V S:Nat):Prop:=∀ c j,c<=18014398509481984->j<=2046->((c*2^j)*Q<2*P↔(c*2^j)^n*S<2^n*V)/\((c*2^j)*Q=2*P↔(c*2^j)^n*S=2^n*V)
theorem vB(n a S V:Nat):((2*a)^n*S<2^n*V↔a^n*S<V)/\((2*a)^n*S=2^n*V↔a^n*S=V):=by
 have h:(2*a)^n*S=2^n*(a^n*S):=by rw[zy,aJ]
 have hp:0<2^n:=aU n;rw[h];exact⟨Nat.mul_lt_mul_left hp,⟨fun h=>Nat.eq_of_mul_eq_mul_left hp h,fun h=>by rw[h]⟩⟩
theorem jB.RA{v:Nat->Nat}{top n K:Nat}{t:Bool}{m:Int}{P Q V S:Nat}(G:Rz v top)(hn:0<n)(h:jB v top 1 K t m P Q)(hS:0<S)(hA:Alike n P Q V S):jB v top n K t m V S:=by
 obtain⟨c,j,e1,e2,hc,hj⟩:=G.step K h.fin;have a1:=hA (2*c) j (by omega) (by omega);have a2:=hA (2*(c+1)) j (by omega) (by omega);have a3:=hA (2*c+1) j (by omega) (by omega);have g1:2*c*2^j=2*v K:=by rw[e1,aJ]
 have g2:2*(c+1)*2^j=2*v (K+1):=by rw[e2,aJ]
 have g3:(2*c+1)*2^j=v K+v (K+1):=by rw[e1,e2,<-fC];congr 1;omega
 rw[g1] at a1;rw[g2] at a2;rw[g3] at a3;have b1:=vB n (v K) S V;have b2:=vB n (v (K+1)) S V;rw[b1.1,b1.2] at a1;rw[b2.1,b2.2] at a2;have d1:2*v K*Q=2*(v K*Q):=aJ _ _ _;have d2:2*v (K+1)*Q=2*(v (K+1)*Q):=aJ _ _ _;rw[d1] at a1;rw[d2] at a2;have h1:=h.one;have h2:=h.low;have h3:=h.VG;have h4:=h.high;simp only[kU] at h1 h2 h3 h4;generalize v K*Q=A at *;generalize v (K+1)*Q=B at *;generalize (v K+v (K+1))*Q=C at *
 have ge:∀ {x y x' y':Nat},((x<y↔x'<y')/\(x=y↔x'=y'))->(y<x↔y'<x'):=by
  intro x y x' y' ⟨p,q⟩;constructor
  · intro hh;rcases l6 x' y' with k|k|k
    · have:=p.2 k;omega
    · have:=q.2 k;omega
    · exact k
  · intro hh;rcases l6 x y with k|k|k
    · have:=p.1 k;omega
    · have:=q.1 k;omega
    · exact k
 have VQ:=ge a2;have a3':=ge a3;refine⟨h.fin,hS,fun ht=>?_,fun ht=>?_,fun ht hlt=>?_,fun ht=>?_⟩
 · have:=h1 ht;exact(a1.2.1 (by omega)).symm
 · exact a1.1.1 (by have:=h2 ht;omega)
 · have hb:P<B:=by have:=VQ.2 hlt;omega
   rcases h3 ht hb with ⟨q,r⟩|⟨q,r⟩|⟨q,r⟩
   · exact .inl ⟨q,a3'.1 r⟩
   · exact .inr (.inl ⟨q,(a3.2.1 r.symm).symm⟩)
   · exact .inr (.inr ⟨q,a3.1.1 r⟩)
 · rcases h4 ht with q | q
   · exact .inl (VQ.1 (by omega))
   · exact .inr q
theorem Qbh{P:Prop}(h:P:=by
 exact⟨⟨fun h=>by omega,fun h=>by omega⟩,⟨fun h=>by omega,fun h=>by omega⟩⟩):P:=h
theorem IV (n R p q V S d:Nat) (hn:0<n) (hS:0<S) (hR:9007199254740992<=R) (hd:d<=1)
 (h0:d=0->V*(2^q)^n=(R*2^p)^n*S) (h1:d=1->(R*2^p)^n*S<V*(2^q)^n/\V*(2^q)^n<((R+1)*2^p)^n*S) :
 Alike n ((2*R+d)*2^p) (2*2^q) V S:=by
 intro c j hc hj;have hq:0<(2^q)^n:=uI (aU q)
 -- both sides times 2^q
 have f1:(c*2^j)^n*S<2^n*V↔(c*2^(j+q))^n*S<2^n*(V*(2^q)^n):=by
  rw[<-jJ hq]
  have:(c*2^j)^n*S*(2^q)^n=(c*2^(j+q))^n*S:=by
   rw[zx,<-zy,aJ c,<-aI]
  rw[this,aJ]
 have f2:(c*2^j)^n*S=2^n*V↔(c*2^(j+q))^n*S=2^n*(V*(2^q)^n):=by
  have e:(c*2^j)^n*S*(2^q)^n=(c*2^(j+q))^n*S:=by
   rw[zx,<-zy,aJ c,<-aI]
  rw[<-e,<-aJ (2^n)];exact⟨fun h=>by rw[h],fun h=>nR hq h⟩
 have f3:c*2^j*(2*2^q)=2*(c*2^(j+q)):=by rw[aI,<-aJ c,Nat.mul_left_comm]
 rw[f1,f2,f3];generalize V*(2^q)^n=U at *;have g0:∀ a:Nat,(2*a)^n*S=2^n*(a^n*S):=fun a=>by rw[zy,aJ]
 have hp2:0<2^n:=aU n;have hlt2:(c*2^(j+q)<(2*R+d)*2^p↔2*(c*2^(j+q))<2*((2*R+d)*2^p)):=by omega
 have heq2:(c*2^(j+q)=(2*R+d)*2^p↔2*(c*2^(j+q))=2*((2*R+d)*2^p)):=by omega
 rw[<-hlt2,<-heq2]
 -- powers times S
 have L:∀ a b:Nat,(a^n*S<b^n*S↔a<b):=fun a b=>by rw[jJ hS,iK hn]
 have E:∀ a b:Nat,(a^n*S=b^n*S↔a=b):=fun a b=>⟨fun h=>(EZ hn).1 (nR hS h),fun h=>by rw[h]⟩;rcases jH d with hd0|hd1
 · subst hd0;have hU:=h0 rfl;have k1:(2*(R*2^p))^n*S=2^n*U:=by rw[g0,<-hU]
   have k2:(2*R+0)*2^p=2*(R*2^p):=by rw[gJ,aJ]
   rw[k2,<-k1,L,E];exact⟨Iff.rfl,Iff.rfl⟩
 · obtain rfl:d=1:=by omega
   obtain⟨u1,u2⟩:=h1 rfl;have k1:(2*(R*2^p))^n*S<2^n*U:=by rw[g0];exact zo u1 hp2
   have k2:2^n*U<(2*((R+1)*2^p))^n*S:=by rw[g0];exact zo u2 hp2
   have below:∀ x,x<=2*(R*2^p)->(x<(2*R+1)*2^p↔x^n*S<2^n*U)/\(x=(2*R+1)*2^p↔x^n*S=2^n*U):=by
    intro x hx
    have y1:x<(2*R+1)*2^p:=by
     have:=aU p;rw[fC,aJ,gI];omega
    have y2:x^n*S<2^n*U:=by
     refine gQ ?_ k1;exact di _ (Nat.pow_le_pow_left hx n)
    exact⟨⟨fun _=>y2,fun _=>y1⟩,⟨fun h=>by omega,fun h=>by omega⟩⟩
   have above:∀ x,2*((R+1)*2^p)<=x->(x<(2*R+1)*2^p↔x^n*S<2^n*U)/\(x=(2*R+1)*2^p↔x^n*S=2^n*U):=by
    intro x hx
    have y1:(2*R+1)*2^p<x:=by
     have:=aU p;refine fZ ?_ hx;rw[<-aJ];exact fe (by omega) this
    have y2:2^n*U<x^n*S:=by
     refine fZ k2 ?_;exact di _ (Nat.pow_le_pow_left hx n)
    exact Qbh
   by_cases hjp:p<j+q
   · obtain⟨i,hi⟩:∃ i,j+q=i+1+p:=⟨j+q-1-p,by omega⟩
     have e:c*2^(j+q)=2*((c*2^i)*2^p):=by
      rw[hi,aI,dC,<-aJ,<-aJ,bJ (c*2^i) 2,aJ 2]
     rw[e];rcases gT R (c*2^i) with k|k
     · exact above _ (eO _ (di _ k))
     · exact below _ (eO _ (di _ k))
   · refine below _ ?_
     calc c*2^(j+q)<=18014398509481984*2^p:=jG hc (eB (by decide) (by omega))
      _<=(2*R)*2^p:=di _ (by omega)
      _=2*(R*2^p):=aJ _ _ _
theorem NJ(n P Q V S:Nat)(hn:0<n)(hP:∀ c j,c<=18014398509481984->j<=2046->c*2^j*Q<2*P)(hV:∀ c j,c<=18014398509481984->j<=2046->(c*2^j)^n*S<2^n*V):Alike n P Q V S:=by
 intro c j hc hj;have h1:=hP c j hc hj;have h2:=hV c j hc hj;exact⟨⟨fun _=>h2,fun _=>h1⟩,⟨fun h=>by omega,fun h=>by omega⟩⟩
theorem IW(n P Q V S:Nat)(hn:0<n)(hP0:0<P)(hV0:0<V)(hS:0<S)(hP:2*P<Q)(hV:2^n*V<S):Alike n P Q V S:=by
 intro c j hc hj;rcases jH (c*2^j) with h0|h0
 · rw[h0,dS,Nat.zero_pow hn,dS];have:=iL (aU n) hV0;exact⟨⟨fun _=>this,fun _=>by omega⟩,⟨fun h=>by omega,fun h=>by omega⟩⟩
 · have h1:Q<=c*2^j*Q:=wZ _ h0;have h2:S<=(c*2^j)^n*S:=wZ _ (uI h0);exact Qbh
def VR(x y:Nat):Int:=if x<y then -1 else if y<x then 1 else 0
theorem jB.doc{v:Nat->Nat}{top n K:Nat}{t:Bool}{m:Int}{V S:Nat}(G:Rz v top)(hn:0<n)(h:jB v top n K t m V S)(k:Nat)(hk:k<top)(h1:v k^n*S<=V)(h2:k+1=top\/V<v (k+1)^n*S) :
 k=K/\t=decide (V=v K^n*S)/\(t=false->m=VR (2^n*V) ((v K+v (K+1))^n*S)):=by
 have L:∀ {a b:Nat},a<b->v a^n*S<v b^n*S:=fun {a b} q=>fe ((iK hn).2 (G.mono q)) h.pos
 have Le:∀ {a b:Nat},a<=b->v a^n*S<=v b^n*S:=fun {a b} q=>by
  rcases gT a b with k|k
  · exact fD (L k)
  · rw[show a=b by omega];exact ak _
 have hge:v K^n*S<=V:=by
  cases ht:t
  · exact fD (h.low ht)
  · rw[h.one ht];exact ak _
 have hfin:=h.fin
 have hkK:k=K:=by
  rcases l6 k K with q|q|q
  · exfalso;rcases h2 with e|e
    · omega
    · have:=Le (show k+1<=K by omega);omega
  · exact q
  · exfalso;have a1:=Le (show K+1<=k by omega);have a2:=L (show K<K+1 by omega)
    cases t with
    | true=>have:=h.one rfl;omega
    | false =>
      rcases h.high rfl with e|e
      · omega
      · omega
 subst hkK;refine⟨rfl,?_,?_⟩
 · cases t with
   | true=>exact(decide_eq_true (h.one rfl)).symm
   | false=>have:=h.low rfl;exact(decide_eq_false (by omega)).symm
 · intro ht
   by_cases hb:V<v (k+1)^n*S
   · have hm:=h.VG ht hb;generalize 2^n*V=V2 at *;generalize (v k+v (k+1))^n*S=C at *;unfold VR;rcases hm with ⟨e,q⟩|⟨e,q⟩|⟨e,q⟩
     · rw[if_pos q,e]
     · rw[if_neg (by omega),if_neg (by omega),e]
     · rw[if_neg (by omega),if_pos q,e]
   · rcases h.high ht with e | ⟨_,e⟩
     · exact absurd e hb
     · have hmid:(v k+v (k+1))^n*S<2^n*V:=by
        have q1:v k+v (k+1)<2*v (k+1):=by have:=G.mono (show k<k+1 by omega);omega
        have q2:(v k+v (k+1))^n*S<(2*v (k+1))^n*S:=fe ((iK hn).2 q1) h.pos;rw[zy,aJ] at q2;have q3:=eO (2^n) (kT hb);omega
       unfold VR;rw[if_neg (by omega),if_pos hmid,e]
theorem rR(a b i k i' k':Nat)(h:i'+k=k'+i):a*2^i<b*2^k↔a*2^i'<b*2^k':=by
 rcases Nat.le_total i i' with q|q
 · obtain⟨d,rfl⟩:∃ d,i'=i+d:=⟨i'-i,by omega⟩;obtain rfl:k'=k+d:=by omega
   rw[aI,aI,<-aJ,<-aJ,jJ (aU d)]
 · obtain⟨d,rfl⟩:∃ d,i=i'+d:=⟨i-i',by omega⟩;obtain rfl:k=k'+d:=by omega
   rw[aI,aI,<-aJ,<-aJ,jJ (aU d)]
theorem RB(a b i k i' k':Nat)(h:i'+k=k'+i):a*2^i=b*2^k↔a*2^i'=b*2^k':=by
 have h1:=rR a b i k i' k' h;have h2:=rR b a k i k' i' (by omega);generalize a*2^i=A at *;generalize a*2^i'=A' at *;generalize b*2^k=B at *;generalize b*2^k'=B' at *;constructor
 · intro e;rcases l6 A' B' with q | q | q
   · have:=h1.2 q;omega
   · exact q
   · have:=h2.2 q;omega
 · intro e;rcases l6 A B with q | q | q
   · have:=h1.1 q;omega
   · exact q
   · have:=h2.1 q;omega
def fB(Y size:Nat):Nat:=bl Y+size-262144
def iO(Y size:Nat):Nat:=Y/2^fB Y size
def mH(X Y size:Nat):Int:=(bl (iO Y size):Int)+size-bl X
def qm(X Y size:Nat):Nat:=if mH X Y size<0 then X/2^(-mH X Y size).toNat else X*2^(mH X Y size).toNat
def mq(X Y size:Nat):Nat:=qm X Y size/iO Y size
def qo(X Y size:Nat):Nat:=qm X Y size%iO Y size
def E5(Y size:Nat):Nat:=Y-iO Y size*2^fB Y size
def qJ(X Y size:Nat):Nat:=qo X Y size*2^fB Y size
def oH(X Y size:Nat):Nat:=mq X Y size*E5 Y size
def iP(X Y size:Nat):Nat:=if qJ X Y size<oH X Y size then mq X Y size-1 else mq X Y size
def vZ(X Y size:Nat):Bool:=decide (qJ X Y size=oH X Y size)&&decide (0<=mH X Y size)
structure DivS (X Y size:Nat):Prop where
 one:vZ X Y size=true->X*2^((mH X Y size).toNat+fB Y size)=iP X Y size*Y*2^(-mH X Y size).toNat
 low:vZ X Y size=false->iP X Y size*Y*2^(-mH X Y size).toNat<X*2^((mH X Y size).toNat+fB Y size)
 high:vZ X Y size=false->X*2^((mH X Y size).toNat+fB Y size)<(iP X Y size+1)*Y*2^(-mH X Y size).toNat
 least:X≠0->2^(size-1)<=iP X Y size+1
 most:iP X Y size<2^(size+1)
 less:qJ X Y size<oH X Y size->1<=mq X Y size
 hig:iO Y size≠0
 low':iO Y size*2^fB Y size<=Y
 lowlt:E5 Y size<2^fB Y size
 w0:mq X Y size<2^(size+1)
 YZ:bl (iO Y size)=bl Y-fB Y size
 tV:qm X Y size<2^(bl (iO Y size)+size)
 lef:qo X Y size<iO Y size
theorem NK{X k:Nat}(h1:2^k<=X)(h2:X<2^(k+1)):bl X=k+1:=by
 have h0:X≠0:=by have:=aU k;omega
 have a:=iq X;have b:=gL X h0;have c:=dm X h0;have d1:=(jI (a:=2) (by decide)).1 (gQ h1 a);have d2:=(jI (a:=2) (by decide)).1 (gQ b h2);omega
theorem kH(X Y size:Nat)(hX:X=0\/X%2=1)(hY:Y≠0)(hs0:1<=size)(hs:size<=1000)(hbX:bl X<=262144)(hbY:bl Y<=262144):DivS X Y size:=by
 obtain⟨cut,zk⟩:∃ c,fB Y size=c:=⟨_,rfl⟩;obtain⟨H,eH⟩:∃ c,iO Y size=c:=⟨_,rfl⟩;have eH':Y/2^cut=H:=by rw[<-eH,<-zk];rfl
 have hD:0<2^cut:=aU cut;have hYlt:=iq Y;have hYge:=gL Y hY;have hYpos:=dm Y hY;have hcut:cut<bl Y/\(0<cut->cut=bl Y+size-262144):=by unfold fB at zk;omega
 have hH1:2^(bl Y-1-cut)<=H:=by
  rw[<-eH',wX hD,<-aI,show bl Y-1-cut+cut=bl Y-1 by omega];exact hYge
 have hH2:H<2^(bl Y-1-cut+1):=by
  rw[<-eH',wy hD,<-aI,show bl Y-1-cut+1+cut=bl Y by omega];exact hYlt
 have hblH:bl H=bl Y-cut:=by rw[NK hH1 hH2];omega
 have hH0:0<H:=fZ (aU _) hH1;have hHD:H*2^cut<=Y:=by rw[<-eH'];exact Nat.div_mul_le_self _ _
 have hYdm:H*2^cut+Y%2^cut=Y:=by rw[<-eH',bJ];exact mZ Y _
 have hYm:=gP Y hD;obtain⟨Lo,eLo⟩:∃ c,E5 Y size=c:=⟨_,rfl⟩;have eLo':Y-H*2^cut=Lo:=by rw[<-eLo];unfold E5;rw[eH,zk]
 have hLo:Lo<2^cut:=by omega
 have hYs:Y=H*2^cut+Lo:=by omega
 obtain⟨b,eb⟩:∃ b,mH X Y size=b:=⟨_,rfl⟩;have eb':(bl H:Int)+size-bl X=b:=by rw[<-eb];unfold mH;rw[eH]
 obtain⟨tV,VS⟩:∃ c,qm X Y size=c:=⟨_,rfl⟩;have yt:(if b<0 then X/2^(-b).toNat else X*2^b.toNat)=tV:=by rw[<-VS];unfold qm;rw[eb]
 obtain⟨W0,eW0⟩:∃ c,mq X Y size=c:=⟨_,rfl⟩;have Y0:tV/H=W0:=by rw[<-eW0];unfold mq;rw[VS,eH]
 obtain⟨Lf,eLf⟩:∃ c,qo X Y size=c:=⟨_,rfl⟩;have eLf':tV%H=Lf:=by rw[<-eLf];unfold qo;rw[VS,eH]
 have M5:H*W0+Lf=tV:=by rw[<-Y0,<-eLf'];exact mZ tV H
 have hLf:Lf<H:=by rw[<-eLf'];exact gP _ hH0
 have VT:qJ X Y size=Lf*2^cut:=by unfold qJ;rw[eLf,zk]
 have VU:oH X Y size=W0*Lo:=by unfold oH;rw[eW0,eLo]
 have hXlt:=iq X
 have RD:tV<2^(bl H+size):=by
  rw[<-yt]
  split
  · rename_i hb;rw[wy (aU _),<-aI,show bl H+size+(-b).toNat=bl X by omega];exact hXlt
  · rename_i hb;refine fZ (fe hXlt (aU _)) ?_;rw[<-aI];exact Qbd
 have XL:W0<2^(size+1):=by
  rw[<-Y0,wy hH0];refine fZ RD ?_;have:2^(size+1)*2^(bl Y-1-cut)<=2^(size+1)*H:=eO _ hH1;rw[<-aI,show size+1+(bl Y-1-cut)=bl H+size by omega] at this;exact this
 have hW0ge:X≠0->2^(size-1)<=W0:=by
  intro h0;have hXge:=gL X h0;have hXp:=dm X h0
  have hl:2^(bl H+size-1)<=tV:=by
   rw[<-yt]
   split
   · rename_i hb;rw[wX (aU _),<-aI,show bl H+size-1+(-b).toNat=bl X-1 by omega];exact hXge
   · rename_i hb;refine dz ?_ (di _ hXge);rw[<-aI];exact Qbd
  rw[<-Y0,wX hH0];refine dz ?_ hl;have:2^(size-1)*H<=2^(size-1)*2^(bl H):=eO _ (fD (iq H));rw[<-aI,show size-1+bl H=bl H+size-1 by omega] at this;exact this
 -- whole times the low end is below Y
 have hWL:W0*Lo<Y:=by
  by_cases hc:cut=0
  · subst hc;have:Lo=0:=by simpa using hLo
    rw[this,nP];omega
  · have h1:W0*Lo<2^(size+1)*2^cut:=wS XL hLo;rw[<-aI] at h1;refine fZ h1 (dz ?_ hYge);exact Qbd
 -- what the level is,by whole
 have hsum:tV*2^cut+W0*Lo=W0*Y+Lf*2^cut:=by
  rw[<-M5,hYs,fC,mY,bJ H W0,aJ];omega
 have hLfD:Lf*2^cut<Y:=fZ (fe hLf hD) hHD
 have hless:qJ X Y size<oH X Y size->1<=W0:=by
  intro h;rw[VT,VU] at h;rcases jH W0 with q|q
  · rw[q,dS] at h;omega
  · exact q
 have Y2:iP X Y size=if Lf*2^cut<W0*Lo then W0-1 else W0:=by unfold iP;rw[VT,VU,eW0]
 have eAt:vZ X Y size=(decide (Lf*2^cut=W0*Lo)&&decide (0<=b)):=by unfold vZ;rw[VT,VU,eb]
 have key:(vZ X Y size=true->X*2^(b.toNat+cut)=iP X Y size*Y*2^(-b).toNat)/\(vZ X Y size=false->iP X Y size*Y*2^(-b).toNat<X*2^(b.toNat+cut)/\X*2^(b.toNat+cut)<(iP X Y size+1)*Y*2^(-b).toNat):=by
  rw[eAt,Y2]
  by_cases hb:b<0
  · have hc0:cut=0:=by omega
    have hX0:X≠0:=by intro h;rw[h,df] at eb';omega
    have hXo:X%2=1:=by omega
    rw[if_pos hb] at yt;subst hc0;have hL0:Lo=0:=by simpa using hLo
    have hb1:b.toNat=0:=by omega
    rw[hL0,nP,if_neg (by omega),hb1,gJ,fw,dM];rw[hL0,fw,dM,dM,nP] at hsum;rw[decide_eq_false (show ¬ 0<=b by omega),Bool.and_false];refine⟨fun h=>(by cases h),fun _=>?_⟩;obtain⟨k,hk⟩:∃ k,(-b).toNat=k:=⟨_,rfl⟩;have hk0:0<k:=by omega
    rw[hk] at yt |-;have hP:=aU k;have hxm:2^k*tV+X%2^k=X:=by rw[<-yt];exact mZ X _
    have hxl:=gP X hP
    have hx0:X%2^k≠0:=by
     intro h;rw[h] at hxm;rw[show k=k-1+1 by omega,dC,bJ _ 2,aJ] at hxm;omega
    have h1:W0*Y<=tV:=by omega
    have h2:tV+1<=(W0+1)*Y:=by
     rw[fC,gI];rw[fw,dM] at hLfD;omega
    have h3:=di (2^k) h1;have h4:=di (2^k) h2;rw[fC,gI] at h4;rw[bJ] at hxm;omega
  · rw[if_neg hb] at yt;have hb1:(-b).toNat=0:=by omega
    rw[hb1,fw,dM,dM,decide_eq_true (show 0<=b by omega),Bool.and_true];have e1:X*2^(b.toNat+cut)=tV*2^cut:=by rw[aI,<-aJ,yt]
    rw[e1];generalize tV*2^cut=L at *;generalize Lf*2^cut=A at *;generalize hT:W0*Lo=T at *
    by_cases hlt:A<T
    · rw[if_pos hlt];have hW1:1<=W0:=hless (by rw[VT,VU];exact hlt);obtain⟨W,rfl⟩:∃ W,W0=W+1:=⟨W0-1,by omega⟩;rw[lZ];rw[fC,gI] at hsum |-;refine⟨fun h=>?_,fun _=>by omega⟩;have:=of_decide_eq_true h;omega
    · rw[if_neg hlt];rw[fC,gI];refine⟨fun h=>?_,fun h=>?_⟩
      · have:=of_decide_eq_true h;omega
      · have:=of_decide_eq_false h;omega
 refine⟨?_,?_,?_,?_,?_,?_,?_,?_,?_,?_,?_,?_,?_⟩
 · rw[eb,zk];exact key.1
 · rw[eb,zk];exact fun h=>(key.2 h).1
 · rw[eb,zk];exact fun h=>(key.2 h).2
 · intro h;have:=hW0ge h;rw[Y2];split <;> omega
 · rw[Y2];split <;> omega
 · rw[eW0];exact hless
 · rw[eH];omega
 · rw[eH,zk];exact hHD
 · rw[eLo,zk];exact hLo
 · rw[eW0];exact XL
 · rw[eH,zk];exact hblH
 · rw[VS,eH];exact RD
 · rw[eLf,eH];exact hLf
theorem Alike.scale{n P Q P' Q' V S:Nat}(h:Alike n P' Q' V S)(hQ:0<Q)(hQ':0<Q')(e:P*Q'=P'*Q):Alike n P Q V S:=by
 intro c j hc hj;obtain⟨h1,h2⟩:=h c j hc hj;rw[<-h1,<-h2];generalize c*2^j=g;have e1:g*Q*Q'=g*Q'*Q:=zx _ _ _;have e2:2*P*Q'=2*P'*Q:=by rw[aJ,e,aJ]
 constructor
 · rw[<-jJ hQ',e1,e2,jJ hQ]
 · constructor
   · intro k;have:=congrArg (·*Q') k;simp only[e1,e2] at this;exact nR hQ this
   · intro k;have:=congrArg (·*Q) k;simp only[<-e1,<-e2] at this;exact nR hQ' this
structure RF (n R d V S u:Nat) (h:Int):Prop where
 pos:0<S
 one:d=0->V*(2^(-(h+u)).toNat)^n=(R*2^(h+u).toNat)^n*S
 in':d=1->(R*2^(h+u).toNat)^n*S<V*(2^(-(h+u)).toNat)^n/\V*(2^(-(h+u)).toNat)^n<((R+1)*2^(h+u).toNat)^n*S
def fq(h:Int):Int:=min (max (h-1) (-4096)) 4096
theorem E8(n R d V S u:Nat)(h:Int)(hn:0<n)(DI:9007199254740992<=R)(hR2:R<2^100)(hd:d<=1)(hu0:149<=u)(hu1:u<=1074)(hI:RF n R d V S u h) :
 Alike n ((2*R+d)*2^(fq h+u).toNat) (2^(-(fq h+u)).toNat) V S:=by
 have hS:=hI.pos
 have hlo:(R*2^(h+u).toNat)^n*S<=V*(2^(-(h+u)).toNat)^n:=by
  rcases jH d with q|q
  · rw[hI.one q];exact ak _
  · exact fD (hI.in' (by omega)).1
 have hhi:V*(2^(-(h+u)).toNat)^n<((R+1)*2^(h+u).toNat)^n*S:=by
  rcases jH d with q|q
  · rw[hI.one q];exact fe ((iK hn).2 (fe (by omega) (aU _))) hS
  · exact(hI.in' (by omega)).2
 by_cases h1:h-1 < -4096
 · have hc:fq h=-4096:=by unfold fq;omega
   rw[hc];have e1:((-4096:Int)+u).toNat=0:=by omega
   have e2:(h+u).toNat=0:=by omega
   rw[e1,fw,dM];rw[e2,fw,dM] at hlo hhi;obtain⟨q,hq⟩:∃ q,(-(h+u)).toNat=q:=⟨_,rfl⟩;have hq1:3000<=q:=by omega
   rw[hq] at hlo hhi;obtain⟨q',hq'⟩:∃ q',(-((-4096:Int)+u)).toNat=q':=⟨_,rfl⟩;have hq'1:3000<=q':=by omega
   rw[hq'];have hbig:∀ k,103<=k->2^103<=2^k:=fun k hk=>eB (by decide) hk;have b1:=hbig q (by omega);have b2:=hbig q' (by omega);have e103:(2:Nat)^103=8*2^100:=by decide
   have VV:0<(2^q)^n:=uI (aU q);refine IW n _ _ V S hn (by omega) ?_ hS (by omega) ?_
   · rcases jH V with z | z
     · rw[z,dS] at hlo;have:=iL (uI (n:=n) (show 0<R by omega)) hS;omega
     · exact z
   · have s1:2^n*V*(2^q)^n<(2*(R+1))^n*S:=by
      rw[zy,aJ,aJ];exact zo hhi (aU n)
     have s2:(2*(R+1))^n*S<=(2^q)^n*S:=di _ (Nat.pow_le_pow_left (by omega) n);have s3:2^n*V*(2^q)^n<S*(2^q)^n:=by rw[bJ S];exact fZ s1 s2
     exact(jJ VV).1 s3
 · by_cases h2:4096<h-1
   · have hc:fq h=4096:=by unfold fq;omega
     rw[hc];have e1:(-((4096:Int)+u)).toNat=0:=by omega
     have e2:(-(h+u)).toNat=0:=by omega
     rw[e1,fw];rw[e2,fw,Nat.one_pow,dM] at hlo hhi;obtain⟨A,hA⟩:∃ A,((4096:Int)+u).toNat=A:=⟨_,rfl⟩;obtain⟨p,hp⟩:∃ p,(h+u).toNat=p:=⟨_,rfl⟩;rw[hA];rw[hp] at hlo hhi;have hA1:2101<=A:=by omega
     have hp1:2101<=p:=by omega
     have top:∀ c j k,c<=18014398509481984->j<=2046->2101<=k->c*2^j<2^k:=by
      intro c j k hcc hj hk;have h54:(18014398509481984:Nat)=2^54:=by decide
      calc c*2^j<=2^54*2^j:=di _ (by omega)
       _=2^(54+j):=(aI _ _ _).symm
       _<2^k:=Nat.pow_lt_pow_right (by decide) (by omega)
     refine NJ n _ _ V S hn ?_ ?_
     · intro c j hcc hj;have t:=top c j A hcc hj hA1;have:2^A<=(2*R+d)*2^A:=wZ _ (by omega);rw[dM];omega
     · intro c j hcc hj;have t:=top c j p hcc hj hp1;have t2:2^p<=R*2^p:=wZ _ (by omega);have t3:(c*2^j)^n*S<(R*2^p)^n*S:=fe ((iK hn).2 (by omega)) hS;have t4:V<=2^n*V:=wZ _ (aU n);omega
   · have hc:fq h=h-1:=by unfold fq;omega
     rw[hc];have sp:=IV n R (h+u).toNat (-(h+u)).toNat V S d hn hS DI hd hI.one hI.in';refine sp.scale (aU _) (iL (by decide) (aU _)) ?_
     have e:∀ a b c k:Nat,a+1+b=c+k->(2*R+d)*2^a*(2*2^b)=(2*R+d)*2^c*2^k:=by
      intro a b c k hh;rw[aJ,aJ,<-aI,<-hh,aI,dC,aJ (2^a)]
     exact e _ _ _ _ (by omega)
def kI(X:Nat)(e f:Int)(u n:Nat):Nat:=X*2^(e-f+(n*u:Nat)).toNat
def kJ(Y:Nat)(e f:Int)(u n:Nat):Nat:=Y*2^(-(e-f+(n*u:Nat))).toNat
theorem RG(X Y:Nat)(e f:Int)(u:Nat)(hY:Y≠0)(hD:DivS X Y 64) :
 RF 1 (iP X Y 64) (if vZ X Y 64 then 0 else 1) (kI X e f u 1) (kJ Y e f u 1) u (e-f-mH X Y 64-fB Y 64):=by
 have h1:=hD.one;have h2:=hD.low;have h3:=hD.high;generalize iP X Y 64=W at *;generalize mH X Y 64=b at *;generalize fB Y 64=cut at *;generalize vZ X Y 64=t at *;have hY0:0<Y:=by omega
 have sides:∀ R:Nat,(R*2^(e-f-b-cut+u).toNat)^1*kJ Y e f u 1=R*Y*2^((e-f-b-cut+u).toNat+(-(e-f+(1*u:Nat))).toNat):=by
  intro R;unfold kJ;rw[kU,aI,aJ R,aJ R,<-aJ (2^_) Y,bJ (2^_) Y,aJ Y]
 have left:kI X e f u 1*(2^(-(e-f-b-cut+u)).toNat)^1=X*2^((e-f+(1*u:Nat)).toNat+(-(e-f-b-cut+u)).toNat):=by
  unfold kI;rw[kU,aI,aJ]
 refine⟨iL hY0 (aU _),fun hd=>?_,fun hd=>?_⟩
 · have ht:t=true:=by cases t with
    | true=>rfl
    | false=>simp at hd
   rw[left,sides];exact(RB X (W*Y) _ _ _ _ (by omega)).1 (h1 ht)
 · have ht:t=false:=by cases t with
    | true=>simp at hd
    | false=>rfl
   rw[left,sides,sides];exact⟨(rR (W*Y) X _ _ _ _ (by omega)).1 (h2 ht),(rR X ((W+1)*Y) _ _ _ _ (by omega)).1 (h3 ht)⟩
theorem KC{w:World}{a b:Option Addr}{n c m d:Nat}{xs ys:List Nat}{V U:Nat}{z:Int}(h1:Arg w a n c xs)(h2:Arg w b m d ys)(e:nY (val xs) (val ys)=(V,U,z)) :
 Calls Tryz.prog 182 #[.slice a n c,.slice b m d] w fun r w'=>∃ v u,r=.returned (.tuple #[v,u,.int .i64 z])/\Nt w.heap.size w' v V/\Nt w.heap.size w' u U/\Below w.heap.size w w' :=
 (UA xs ys a b n c m d w.heap.size w h1.len h2.len h1.cap h2.cap (by have:=h1.big;omega) (by have:=h2.big;omega) h1.wf h2.wf h1.rd h2.rd (ak _)).mono
  fun r w' ⟨⟨v,u,h3,h4,h5,h6⟩,hb⟩=>by rw[e] at h3 h4 h5;exact⟨v,u,h3,h4,h5,hb⟩
theorem p8{w:World}{a:Option Addr}{n c:Nat}{xs:List Nat}{k:Nat}(h1:Arg w a n c xs)(e:bl (val xs)=k) :
 Calls Tryz.prog 84 #[.slice a n c] w fun r w'=>r=.returned (.int .i64 (k:Nat))/\Below w.heap.size w w':=by
 subst e;exact(q9 xs a n c w.heap.size w h1.len h1.cap (by have:=h1.big;omega) h1.wf h1.rd).mono fun r w' ⟨h,e⟩=>⟨h,by rw[e];exact ay _ _⟩
theorem qa{X V:Nat}{k:Nat}(hX:¬ LG X)(hb:X=0\/bl X+k<=262144)(e:X*2^k=V):aX X (k:Int)=(V,0):=by
 unfold aX;rw[if_neg hX]
 by_cases h0:X=0
 · rw[if_pos h0,<-e,h0,dS]
 · rw[if_neg h0,if_neg (by omega),if_neg (by omega)];simp[e]
theorem Ah{X V:Nat}{k:Nat}(hX:¬ LG X)(e:X/2^k=V):aX X (-(k:Int))=(V,0):=by
 unfold aX;rw[if_neg hX]
 by_cases h0:X=0
 · rw[if_pos h0,<-e,h0,Nat.zero_div]
 · rw[if_neg h0]
   by_cases hk:k=0
   · subst hk;rw[if_neg (by simp),if_neg (by have:=mt (oo X).2 hX;omega)];simp at e;simp[e]
   · rw[if_pos (by omega)];simp[e]
theorem VW{X Y:Nat}(h1:¬ LG X)(h2:¬ LG Y)(h:Y≠0){V U:Nat}(e1:X/Y=V)(e2:X%Y=U):nY X Y=(V,U,0):=by
 unfold nY;rw[if_neg (by simp[h1,h2]),if_neg h,e1,e2]
theorem IX {w:World}{a b q h:Option Addr}{ca cb cq ch:Nat}(W0 Lf Y H cut Bk Lo Tk' Hs:Nat) (z:Int) (AW:Arg w a (ws W0).length ca (ws W0)) (AL:Arg w b (ws Lf).length cb (ws Lf)) (AY:Arg w q (ws Y).length cq (ws Y)) (AH:Arg w h (ws H).length ch (ws H))
 (hc:cut<=4611686018427387904) (e1:aX H (cut:Int)=(Bk,0)) (e2:nX Y Bk=(Lo,0)) (e3:iV W0 Lo=(Tk',0)) (e4:aX Lf (cut:Int)=(Hs,0)) (e5:aW Hs Tk'=z)
 (l1:(ws Bk).length<=8192) (l2:(ws Lo).length<=8192) (l3:(ws Tk').length<=8192) (l4:(ws Hs).length<=8192) :
 Calls Tryz.prog 183 #[.slice a (ws W0).length ca,.slice b (ws Lf).length cb,.slice q (ws Y).length cq,.slice h (ws H).length ch,.int .i64 (cut:Nat)] w fun r w'=>r=.returned (.int .i64 z)/\Below w.heap.size w w':=by
 rw[<-au H] at e1;rw[<-au Y,<-au Bk] at e2;rw[<-au W0,<-au Lo] at e3;rw[<-au Lf] at e4;rw[<-au Hs,<-au Tk'] at e5;have E:=(fM e1 e2 e3 e4 e5);clear e1 e2 e3 e4 e5;have hbel:=ay w.heap.size w;have S0:=(fM hbel AW AL AY AH);clear hbel;clear AW AL AY AH;go_enter Tryz.func183,Tryz.ntmps183;obtain⟨aC,AW,AL,AY,AH⟩:=S0.o;have HC:=hid (fE (cut:Int) AH E.o.1 (by omega) (by omega));clear aC AW AL AY AH;go_wp2_with fail;refine HC.o.mono ?_;rintro r u1 ⟨v,rfl,hN,hb⟩;obtain⟨a1,c1,rfl,_⟩:=hN.arg (by omega);clear HC;obtain⟨aC,AW,AL,AY,AH⟩:=S0.o;have hbn:=aC.trans (hb.mono aC.size);have S1:=jD hbn (AW.below hb) (AL.below hb) (AY.below hb) (AH.below hb) (hN.mono aC.size);clear aC AW AL AY AH;clear hb hbn S0;clear hN;obtain⟨aC,AW,AL,AY,AH,NB⟩:=S1.o;have HC:=hid (vR AY (NB.bC (by omega)).2 E.o.2.1);clear aC AW AL AY AH NB;go_wp2_with fail;refine HC.o.mono ?_;rintro r u2 ⟨v,rfl,hN,hb⟩;obtain⟨a2,c2,rfl,_⟩:=hN.arg (by omega);clear HC;obtain⟨aC,AW,AL,AY,AH,NB⟩:=S1.o;have hbn:=aC.trans (hb.mono aC.size);have S2:=Du hbn (AW.below hb) (AL.below hb) (AY.below hb) (AH.below hb) (NB.below hb) (hN.mono aC.size);clear aC AW AL AY AH NB;clear hb hbn S1;clear hN;obtain⟨aC,AW,AL,AY,AH,NB,NL⟩:=S2.o;have HC:=hid (JW AW (NL.bC (by omega)).2 E.o.r2.1);clear aC AW AL AY AH NB NL;go_wp2_with fail;refine HC.o.mono ?_;rintro r u3 ⟨v,rfl,hN,hb⟩;obtain⟨a3,c3,rfl,_⟩:=hN.arg (by omega);clear HC;obtain⟨aC,AW,AL,AY,AH,NB,NL⟩:=S2.o;have hbn:=aC.trans (hb.mono aC.size);have S3:=Dh hbn (AW.below hb) (AL.below hb) (AY.below hb) (AH.below hb) (NB.below hb) (NL.below hb) (hN.mono aC.size);clear aC AW AL AY AH NB NL;clear hb hbn S2;clear hN;obtain⟨aC,AW,AL,AY,AH,NB,NL,NT⟩:=S3.o;have HC:=hid (fE (cut:Int) AL E.o.r3.1 (by omega) (by omega));clear aC AW AL AY AH NB NL NT;go_wp2_with fail;refine HC.o.mono ?_;rintro r u4 ⟨v,rfl,hN,hb⟩;obtain⟨a4,c4,rfl,_⟩:=hN.arg (by omega);clear HC;obtain⟨aC,AW,AL,AY,AH,NB,NL,NT⟩:=S3.o;have hbn:=aC.trans (hb.mono aC.size);have S4:=Uc hbn (AW.below hb) (AL.below hb) (AY.below hb) (AH.below hb) (NB.below hb) (NL.below hb) (NT.below hb) (hN.mono aC.size);clear aC AW AL AY AH NB NL NT;clear hb hbn S3;clear hN;obtain⟨aC,AW,AL,AY,AH,NB,NL,NT,NS⟩:=S4.o;have HC:=hid (BG (NS.bC (by omega)).2 (NT.bC (by omega)).2 z E.o.r4);clear aC AW AL AY AH NB NL NT NS;go_wp2_with fail;refine HC.o.mono ?_;rintro r u5 ⟨rfl,hb⟩;clear HC;obtain⟨aC,AW,AL,AY,AH,NB,NL,NT,NS⟩:=S4.o;have hbn:=aC.trans (hb.mono aC.size);have S5:=Uc hbn (AW.below hb) (AL.below hb) (AY.below hb) (AH.below hb) (NB.below hb) (NL.below hb) (NT.below hb) (NS.below hb);clear aC AW AL AY AH NB NL NT NS;clear hb hbn S4;have hbW:=hid S5.o.1;clear S5 E;go_wp2;go_ret;exact⟨rfl,hbW.o⟩
def Tk(w:World)(g T:Nat)(x y z:Value):Prop:=w.heap[g]?=some (.cells #[x,y,z] T (0,0))
theorem Tk.lt{w:World}{g T:Nat}{x y z:Value}(h:Tk w g T x y z):g<w.heap.size:=(eZ.1 h).1
theorem Tk.below{w w':World}{g T:Nat}{x y z:Value}(h:Tk w g T x y z)(hb:Below w.heap.size w w'):Tk w' g T x y z:=by
 unfold Tk;exact Qaw
theorem Tk.alloc{w:World}{g T:Nat}{x y z:Value}(h:Tk w g T x y z)(o:Obj):Tk (w.alloc o) g T x y z:=h.below (ae w o)
theorem Tk.new(w:World)(T:Nat)(x y z:Value):Tk (w.alloc (.cells #[x,y,z] T)) w.heap.size T x y z:=gU _ _
theorem Tk.facts{w:World}{g T:Nat}{x y z:Value}(h:Tk w g T x y z) :
 w.cell? ⟨g,0,none⟩=some x/\w.cell? ⟨g,1,none⟩=some y/\w.cell? ⟨g,2,none⟩=some z/\w.frozen? ⟨g,0,none⟩=false/\w.frozen? ⟨g,1,none⟩=false/\w.frozen? ⟨g,2,none⟩=false:=by
 unfold Tk at h;simp[World.cell?,World.frozen?,h]
theorem Tk.set{w:World}{g T:Nat}{x y z:Value}(h:Tk w g T x y z)(a b c:Value):Tk (dG w g a b c) g T a b c:=by
 unfold Tk at h |-;simp[dG,World.setCell,gN,h]
def Rq(w:World)(g:Nat)(n:Bool)(v:Value)(e:Int)(m:Bool)(u:Value)(f:Int):Prop:=w.heap[g]?=some (.cells #[.bool n,v,.int .i64 e,.bool m,u,.int .i64 f] 93 (0,0))
theorem Rq.lt{w:World}{g:Nat}{n:Bool}{v:Value}{e:Int}{m:Bool}{u:Value}{f:Int}(h:Rq w g n v e m u f):g<w.heap.size:=(eZ.1 h).1
theorem Rq.below{w w':World}{g:Nat}{n:Bool}{v:Value}{e:Int}{m:Bool}{u:Value}{f:Int}(h:Rq w g n v e m u f)(hb:Below w.heap.size w w'):Rq w' g n v e m u f:=by
 unfold Rq;exact Qaw
theorem Rq.alloc{w:World}{g:Nat}{n:Bool}{v:Value}{e:Int}{m:Bool}{u:Value}{f:Int}(h:Rq w g n v e m u f)(o:Obj):Rq (w.alloc o) g n v e m u f:=h.below (ae w o)
theorem Rq.new(w:World)(n:Bool)(v:Value)(e:Int)(m:Bool)(u:Value)(f:Int):Rq (w.alloc (.cells #[.bool n,v,.int .i64 e,.bool m,u,.int .i64 f] 93)) w.heap.size n v e m u f:=gU _ _
theorem Rq.facts{w:World}{g:Nat}{n:Bool}{v:Value}{e:Int}{m:Bool}{u:Value}{f:Int}(h:Rq w g n v e m u f) :
 w.cell? ⟨g,0,none⟩=some (.bool n)/\w.cell? ⟨g,1,none⟩=some v/\w.cell? ⟨g,2,none⟩=some (.int .i64 e)/\w.cell? ⟨g,3,none⟩=some (.bool m)/\w.cell? ⟨g,4,none⟩=some u/\w.cell? ⟨g,5,none⟩=some (.int .i64 f):=by
 unfold Rq at h;simp[World.cell?,h]
theorem Rq.frz{w:World}{g:Nat}{n:Bool}{v:Value}{e:Int}{m:Bool}{u:Value}{f:Int}(h:Rq w g n v e m u f) :
 w.frozen? ⟨g,0,none⟩=false/\w.frozen? ⟨g,1,none⟩=false/\w.frozen? ⟨g,2,none⟩=false/\w.frozen? ⟨g,3,none⟩=false/\w.frozen? ⟨g,4,none⟩=false/\w.frozen? ⟨g,5,none⟩=false:=by
 unfold Rq at h;simp[World.frozen?,h]
abbrev st6(w:World)(g:Nat)(a b c d e f:Value):World:=(((((w.setCell ⟨g,0,none⟩ a).setCell ⟨g,1,none⟩ b).setCell ⟨g,2,none⟩ c).setCell ⟨g,3,none⟩ d).setCell ⟨g,4,none⟩ e).setCell ⟨g,5,none⟩ f
theorem KD(g:Nat)(w:World)(a b c d e f:Value):But g w (st6 w g a b c d e f):=((((((But.refl g w).set _ _).set _ _).set _ _).set _ _).set _ _).set _ _
theorem Rq.set{w:World}{g:Nat}{n:Bool}{v:Value}{e:Int}{m:Bool}{u:Value}{f:Int}(h:Rq w g n v e m u f)(n':Bool)(v':Value)(e':Int)(m':Bool)(u':Value)(f':Int) :
 Rq (st6 w g (.bool n') v' (.int .i64 e') (.bool m') u' (.int .i64 f')) g n' v' e' m' u' f':=by
 unfold Rq at h |-;simp[st6,World.setCell,gN,h]
theorem Nt.off{lo:Nat}{w w':World}{v:Value}{X g:Nat}(h:Nt lo w v X)(hb:But g w w')(hg:v.ownBlock≠Option.some g):Nt lo w' v X:=by
 refine⟨h.1,?_⟩;rcases h.2 with hn|⟨g',cap,cur,rfl,hlo,hg',rest⟩
 · exact .inl hn
 · refine .inr ⟨g',cap,cur,rfl,hlo,?_,rest⟩;rw[hb.block g' (eZ.1 hg').1 (by intro e;subst e;exact hg (by simp[Value.ownBlock]))];exact hg'
theorem Nt.Ai{lo:Nat}{w:World}{v:Value}{X g T:Nat}{C:Array Value}{fz:Nat×Nat}(h:Nt lo w v X)(hT:T≠162)(hg:w.heap[g]?=Option.some (.cells C T fz)):v.ownBlock≠Option.some g:=by
 intro e;rcases h.2 with ⟨rfl,_⟩|⟨g',cap,cur,rfl,_,h2,_⟩
 · simp[Value.ownBlock] at e
 · simp[Value.ownBlock] at e;subst e;rw[hg] at h2;simp at h2;exact hT h2.2.1
theorem Nt.NN{lo:Nat}{w:World}{v:Value}{X g T:Nat}{x y z:Value}(h:Nt lo w v X)(D:Tk w g T x y z)(hT:T≠162)(a b c:Value):Nt lo (dG w g a b c) v X:=h.off (oq g w a b c) (h.Ai hT D)
theorem Nt.st6k{lo:Nat}{w:World}{v:Value}{X g:Nat}{n:Bool}{p:Value}{e:Int}{m:Bool}{u:Value}{f:Int}(h:Nt lo w v X)(D:Rq w g n p e m u f)(a b c d q r:Value):Nt lo (st6 w g a b c d q r) v X:=h.off (KD g w a b c d q r) (h.Ai (by decide) D)
theorem jX{B g:Nat}{a w:World}(h:Below B a w)(hB:B<=w.heap.size)(hg:B<=g)(x y z:Value):Below B a (dG w g x y z):=But.below h (oq g w x y z) hB hg
theorem tX{B g:Nat}{a w:World}(h:Below B a w)(hB:B<=w.heap.size)(hg:B<=g)(x y z p q r:Value):Below B a (st6 w g x y z p q r):=But.below h (KD g w x y z p q r) hB hg
def Ap(v u:Value):Prop:=∀ g,v.ownBlock=some g->u.ownBlock≠some g
theorem Nt.blk{lo:Nat}{w:World}{v:Value}{X g:Nat}(h:Nt lo w v X)(hg:v.ownBlock=Option.some g):lo<=g/\g<w.heap.size:=by
 rcases h.2 with ⟨rfl,_⟩|⟨g',cap,cur,rfl,h1,h2,_⟩
 · simp[Value.ownBlock] at hg
 · simp[Value.ownBlock] at hg;subst hg;exact⟨h1,(eZ.1 h2).1⟩
theorem Nt.ap{lo:Nat}{w w':World}{v u:Value}{X Y:Nat}(h:Nt lo w v X)(k:Nt w.heap.size w' u Y):Ap v u:=by
 intro g hg hu;have:=(h.blk hg).2;have:=(k.blk hu).1;omega
theorem ws0:(ws 0).length=0:=by rw[bI];rfl
theorem vC(W:World)(g:Nat)(v:Value)(x:Int)(t:Bool)(tmps:Array Value)(ht:tmps[4]?.getD undef=.pointer (some ⟨g,0,none⟩))(D:Tk W g 171 v (.int .i64 x) (.bool t)) :
 (results Tryz.f144 tmps).run Tryz.prog W=.ok (.agg #[v,.int .i64 x,.bool t]) W:=by
 obtain⟨x0,x1,x2,_,_,_⟩:=D.facts;simp[results,Tryz.results144,ht,go_sem,x0,x1,x2]
theorem Aj(w:World)(n:Bool)(v:Value)(e:Int)(m:Bool)(u:Value)(f:Int)(W:World)(hW:W=(w.alloc (.cells #[.bool n,v,.int .i64 e,.bool m,u,.int .i64 f] 93)).alloc (.cells #[.slice none 0 0,.int .i64 0,.bool false] 171)) :
 Below w.heap.size w W/\W.heap.size=w.heap.size+2/\Rq W w.heap.size n v e m u f/\Tk W (w.heap.size+1) 171 (.slice none 0 0) (.int .i64 0) (.bool false):=by
 rw[hW];refine⟨(ae w _).alloc (by simp) _,by simp,(Rq.new _ _ _ _ _ _ _).alloc _,?_⟩;have:=Tk.new (w.alloc (.cells #[.bool n,v,.int .i64 e,.bool m,u,.int .i64 f] 93)) 171 (.slice none 0 0) (.int .i64 0) (.bool false);simpa using this
theorem E9 {w:World}{a b:Option Addr}{ca cb:Nat}(n m:Bool) (X Y:Nat) (e f:Int) (size lX lY lH cut H tV W0 Lf WH:Nat) (t bb z x y1 y2:Int) (tt:Bool)
 (AX:Arg w a (ws X).length ca (ws X)) (AY:Arg w b (ws Y).length cb (ws Y))
 (he0:-1048576<=e) (he1:e<=1048576) (hf0:-1048576<=f) (hf1:f<=1048576) (hs:size<=1000) (hlY:bl Y=lY) (hlX:bl X=lX) (hlH:bl H=lH) (bX:lX<=262144) (bY:lY<=262144) (bH:lH<=262144)
 (ht:(lY:Int)+(size:Int)-262144=t) (hcut:max t 0=(cut:Int)) (bcut:cut<=2000)
 (e1:aX Y (-(cut:Int))=(H,0)) (hbb:(lH:Int)+(size:Int)-(lX:Int)=bb) (e2:aX X bb=(tV,0)) (e3:nY tV H=(W0,Lf,0))
 (HL:Hid (∀ (u:World) (p q r s:Option Addr) (cp cq cr cs:Nat),Arg u p (ws W0).length cp (ws W0)->Arg u q (ws Lf).length cq (ws Lf)->Arg u r (ws Y).length cr (ws Y)->Arg u s (ws H).length cs (ws H)->Calls Tryz.prog 183 #[.slice p (ws W0).length cp,.slice q (ws Lf).length cq,.slice r (ws Y).length cr,.slice s (ws H).length cs,.int .i64 (cut:Nat)] u fun r w'=>r=.returned (.int .i64 z)/\Below u.heap.size u w'))
 (hz:decide (z<0)=false)
 (h1:e-f=y1) (h2:y1-bb=y2) (h3:y2-(cut:Int)=x) (Dj:(decide (z=0)&&decide (0<=bb))=tt)
 (l1:(ws H).length<=8192) (l2:(ws tV).length<=8192) (l3:(ws W0).length<=8192) (l4:(ws Lf).length<=8192) :
 Calls Tryz.prog 144 #[.agg #[.bool n,.slice a (ws X).length ca,.int .i64 e,.bool m,.slice b (ws Y).length cb,.int .i64 f],.int .i64 (size:Nat)] w fun r w'=>(∃ v,r=.returned (.agg #[v,.int .i64 x,.bool tt])/\Nt w.heap.size w' v W0)/\Below w.heap.size w w':=by
 obtain⟨W1,hW1⟩:=af ((w.alloc (.cells #[.bool n,.slice a (ws X).length ca,.int .i64 e,.bool m,.slice b (ws Y).length cb,.int .i64 f] 93)).alloc (.cells #[.slice none 0 0,.int .i64 0,.bool false] 171));obtain⟨hB,hz1,RQ,SK⟩:=Aj w n _ e m _ f W1 hW1;have RH:aX (val (ws Y)) (-(cut:Int))=(H,0):=by rw[au];exact e1
 have e2':aX (val (ws X)) bb=(tV,0):=by rw[au];exact e2
 have e3':nY (val (ws tV)) (val (ws H))=(W0,Lf,0):=by rw[au,au];exact e3
 have lY':bl (val (ws Y))=lY:=by rw[au];exact hlY
 have lX':bl (val (ws X))=lX:=by rw[au];exact hlX
 have lH':bl (val (ws H))=lH:=by rw[au];exact hlH
 have E:=(jD RH e2' e3' lY' lX' lH');have SZ:=(aZ hz1 hB);have hs2:w.heap.size+2<=W1.heap.size:=by omega
 have hbel:=hB;have S0:=(fM hbel (AX.below hB) (AY.below hB) RQ SK);clear hbel;clear e1 e2 e3 RH e2' e3' lY' lX' lH' hlY hlX hlH AX AY hB RQ SK hz1;go_enter Tryz.func144,Tryz.ntmps144
 go_upto_region 1 with fail
 rw[<-hW1];clear hW1;obtain⟨x0,x1,x2,x3,x4,x5⟩:=S0.o.r3.1.facts
 go_quiet (fail)
 clear x0 x1 x2 x3 x4 x5;generalize hV:World.drewN W1 _=V1;have hb:Below W1.heap.size W1 V1:=by rw[<-hV];exact Below.drewN' (ay _ _) _
 clear hV;obtain⟨aC,AX,AY,RQ,SK⟩:=S0.o;have hbn:=aC.trans (hb.mono aC.size);have S1:=fM hbn (AX.below hb) (AY.below hb) (RQ.below hb) (SK.below hb);clear aC AX AY RQ SK;clear hb hbn S0;obtain⟨aC,AX,AY,RQ,SK⟩:=S1.o;have HC:=hid (p8 AY E.o.r3.1);clear aC AX AY RQ SK;go_wp2_with fail;refine HC.o.mono ?_;rintro r u2 ⟨rfl,hb⟩;clear HC;obtain⟨aC,AX,AY,RQ,SK⟩:=S1.o;have hbn:=aC.trans (hb.mono aC.size);have S2:=fM hbn (AX.below hb) (AY.below hb) (RQ.below hb) (SK.below hb);clear aC AX AY RQ SK;clear hb hbn S1;obtain⟨aC,AX,AY,RQ,SK⟩:=S2.o;have HC:=hid (fE (-(cut:Int)) AY E.o.1 (by omega) (by omega));clear aC AX AY RQ SK;go_wp2_with fail;refine HC.o.mono ?_;rintro r u3 ⟨v,rfl,hN,hb⟩;obtain⟨a1,c1,rfl,_⟩:=hN.arg (by omega);clear HC;obtain⟨aC,AX,AY,RQ,SK⟩:=S2.o;have hbn:=aC.trans (hb.mono aC.size);have S3:=jD hbn (AX.below hb) (AY.below hb) (RQ.below hb) (SK.below hb) (hN.mono aC.size);clear aC AX AY RQ SK;clear hb hbn S2;clear hN;obtain⟨aC,AX,AY,RQ,SK,NH⟩:=S3.o;have HC:=hid (p8 (NH.bC (by omega)).2 E.o.r5);clear aC AX AY RQ SK NH;go_wp2_with fail;refine HC.o.mono ?_;rintro r u4 ⟨rfl,hb⟩;clear HC;obtain⟨aC,AX,AY,RQ,SK,NH⟩:=S3.o;have hbn:=aC.trans (hb.mono aC.size);have S4:=jD hbn (AX.below hb) (AY.below hb) (RQ.below hb) (SK.below hb) (NH.below hb);clear aC AX AY RQ SK NH;clear hb hbn S3;obtain⟨aC,AX,AY,RQ,SK,NH⟩:=S4.o;have HC:=hid (p8 AX E.o.r4.1);clear aC AX AY RQ SK NH;go_wp2_with fail;refine HC.o.mono ?_;rintro r u5 ⟨rfl,hb⟩;clear HC;obtain⟨aC,AX,AY,RQ,SK,NH⟩:=S4.o;have hbn:=aC.trans (hb.mono aC.size);have S5:=jD hbn (AX.below hb) (AY.below hb) (RQ.below hb) (SK.below hb) (NH.below hb);clear aC AX AY RQ SK NH;clear hb hbn S4;obtain⟨aC,AX,AY,RQ,SK,NH⟩:=S5.o;have HC:=hid (fE bb AX E.o.2.1 (by omega) (by omega));clear aC AX AY RQ SK NH;go_wp2_with fail;refine HC.o.mono ?_;rintro r u6 ⟨v,rfl,hN,hb⟩;obtain⟨a2,c2,rfl,_⟩:=hN.arg (by omega);clear HC;obtain⟨aC,AX,AY,RQ,SK,NH⟩:=S5.o;have hbn:=aC.trans (hb.mono aC.size);have S6:=Du hbn (AX.below hb) (AY.below hb) (RQ.below hb) (SK.below hb) (NH.below hb) (hN.mono aC.size);clear aC AX AY RQ SK NH;clear hb hbn S5;clear hN;obtain⟨aC,AX,AY,RQ,SK,NH,NV⟩:=S6.o;have HC:=hid (KC (NV.bC (by omega)).2 (NH.bC (by omega)).2 E.o.r2.1);clear aC AX AY RQ SK NH NV;go_wp2_with fail;refine HC.o.mono ?_;rintro r u7 ⟨v,v2,rfl,hN,hM,hb⟩;obtain⟨a3,c3,rfl,_⟩:=hN.arg (by omega);obtain⟨a4,c4,rfl,_⟩:=hM.arg (by omega);clear HC;obtain⟨aC,AX,AY,RQ,SK,NH,NV⟩:=S6.o;have hbn:=aC.trans (hb.mono aC.size);have S7:=Dh hbn (AX.below hb) (AY.below hb) (RQ.below hb) (SK.below hb) (NH.below hb) (hN.mono aC.size) (hM.mono aC.size);clear aC AX AY RQ SK NH NV;clear hb hbn S6;clear hN hM;obtain⟨aC,AX,AY,RQ,SK,NH,NW,NL⟩:=S7.o;have HC:=hid (HL.o u7 _ _ _ _ _ _ _ _ (NW.bC (by omega)).2 (NL.bC (by omega)).2 AY (NH.bC (by omega)).2);clear aC AX AY RQ SK NH NW NL;go_wp2_with fail;refine HC.o.mono ?_;rintro r u8 ⟨rfl,hb⟩;clear HC;obtain⟨aC,AX,AY,RQ,SK,NH,NW,NL⟩:=S7.o;have hbn:=aC.trans (hb.mono aC.size);have S8:=Dh hbn (AX.below hb) (AY.below hb) (RQ.below hb) (SK.below hb) (NH.below hb) (NW.below hb) (NL.below hb);clear aC AX AY RQ SK NH NW NL;clear hb hbn S7;obtain⟨aC,AX,AY,RQ,SK,NH,NW,NL⟩:=S8.o;have hlast:=fG aC NW SK;obtain⟨x0,x1,x2,x3,x4,x5⟩:=RQ.facts;obtain⟨s0,s1,s2,zZ,z8,Aa⟩:=SK.facts;have hsz:=ah (SK.lt);clear aC AX AY RQ SK NH NW NL;clear S8 E HL;have htA:=ah Dj;clear Dj;go_wp2
 all_goals (
  obtain⟨aC,NZ,SK⟩:=hlast.o;have hsz:=aC.size;refine aB (vC _ (w.heap.size+1) (.slice a3 (ws W0).length c3) x _ _ rfl (SK.set _ _ _)) rfl ⟨⟨.slice a3 (ws W0).length c3,?_,NZ.NN SK (by decide) _ _ _⟩,jX aC hsz (by omega) _ _ _⟩;rw[<-htA.o]
  first | rfl | simp[*])
theorem Fe {w:World}{a b:Option Addr}{ca cb:Nat}(n m:Bool) (X Y:Nat) (e f:Int) (size lX lY lH cut H tV W0 Lf WH:Nat) (t bb z x y1 y2:Int) (tt:Bool)
 (AX:Arg w a (ws X).length ca (ws X)) (AY:Arg w b (ws Y).length cb (ws Y))
 (he0:-1048576<=e) (he1:e<=1048576) (hf0:-1048576<=f) (hf1:f<=1048576) (hs:size<=1000) (hlY:bl Y=lY) (hlX:bl X=lX) (hlH:bl H=lH) (bX:lX<=262144) (bY:lY<=262144) (bH:lH<=262144)
 (ht:(lY:Int)+(size:Int)-262144=t) (hcut:max t 0=(cut:Int)) (bcut:cut<=2000)
 (e1:aX Y (-(cut:Int))=(H,0)) (hbb:(lH:Int)+(size:Int)-(lX:Int)=bb) (e2:aX X bb=(tV,0)) (e3:nY tV H=(W0,Lf,0))
 (HL:Hid (∀ (u:World) (p q r s:Option Addr) (cp cq cr cs:Nat),Arg u p (ws W0).length cp (ws W0)->Arg u q (ws Lf).length cq (ws Lf)->Arg u r (ws Y).length cr (ws Y)->Arg u s (ws H).length cs (ws H)->Calls Tryz.prog 183 #[.slice p (ws W0).length cp,.slice q (ws Lf).length cq,.slice r (ws Y).length cr,.slice s (ws H).length cs,.int .i64 (cut:Nat)] u fun r w'=>r=.returned (.int .i64 z)/\Below u.heap.size u w'))
 (hz:decide (z<0)=true) (e4:nX W0 1=(WH,0))
 (h1:e-f=y1) (h2:y1-bb=y2) (h3:y2-(cut:Int)=x) (Dj:(decide (z=0)&&decide (0<=bb))=tt)
 (l1:(ws H).length<=8192) (l2:(ws tV).length<=8192) (l3:(ws W0).length<=8192) (l4:(ws Lf).length<=8192) (l5:(ws WH).length<=8192) :
 Calls Tryz.prog 144 #[.agg #[.bool n,.slice a (ws X).length ca,.int .i64 e,.bool m,.slice b (ws Y).length cb,.int .i64 f],.int .i64 (size:Nat)] w fun r w'=>(∃ v,r=.returned (.agg #[v,.int .i64 x,.bool tt])/\Nt w.heap.size w' v WH)/\Below w.heap.size w w':=by
 obtain⟨W1,hW1⟩:=af ((w.alloc (.cells #[.bool n,.slice a (ws X).length ca,.int .i64 e,.bool m,.slice b (ws Y).length cb,.int .i64 f] 93)).alloc (.cells #[.slice none 0 0,.int .i64 0,.bool false] 171));obtain⟨hB,hz1,RQ,SK⟩:=Aj w n _ e m _ f W1 hW1;have RH:aX (val (ws Y)) (-(cut:Int))=(H,0):=by rw[au];exact e1
 have e2':aX (val (ws X)) bb=(tV,0):=by rw[au];exact e2
 have e3':nY (val (ws tV)) (val (ws H))=(W0,Lf,0):=by rw[au,au];exact e3
 have lY':bl (val (ws Y))=lY:=by rw[au];exact hlY
 have lX':bl (val (ws X))=lX:=by rw[au];exact hlX
 have lH':bl (val (ws H))=lH:=by rw[au];exact hlH
 have E:=(jD RH e2' e3' lY' lX' lH');have SZ:=(aZ hz1 hB);have hs2:w.heap.size+2<=W1.heap.size:=by omega
 have e4':nX (val (ws W0)) (val (ws 1))=(WH,0):=by rw[au,au];exact e4
 have E4:=ah e4';have l1s:(ws 1).length<=8192:=by rw[BA];simp
 clear e4 e4';have hbel:=hB;have S0:=(fM hbel (AX.below hB) (AY.below hB) RQ SK);clear hbel;clear e1 e2 e3 RH e2' e3' lY' lX' lH' hlY hlX hlH AX AY hB RQ SK hz1;go_enter Tryz.func144,Tryz.ntmps144
 go_upto_region 1 with fail
 rw[<-hW1];clear hW1;obtain⟨x0,x1,x2,x3,x4,x5⟩:=S0.o.r3.1.facts
 go_quiet (fail)
 clear x0 x1 x2 x3 x4 x5;generalize hV:World.drewN W1 _=V1;have hb:Below W1.heap.size W1 V1:=by rw[<-hV];exact Below.drewN' (ay _ _) _
 clear hV;obtain⟨aC,AX,AY,RQ,SK⟩:=S0.o;have hbn:=aC.trans (hb.mono aC.size);have S1:=fM hbn (AX.below hb) (AY.below hb) (RQ.below hb) (SK.below hb);clear aC AX AY RQ SK;clear hb hbn S0;obtain⟨aC,AX,AY,RQ,SK⟩:=S1.o;have HC:=hid (p8 AY E.o.r3.1);clear aC AX AY RQ SK;go_wp2_with fail;refine HC.o.mono ?_;rintro r u2 ⟨rfl,hb⟩;clear HC;obtain⟨aC,AX,AY,RQ,SK⟩:=S1.o;have hbn:=aC.trans (hb.mono aC.size);have S2:=fM hbn (AX.below hb) (AY.below hb) (RQ.below hb) (SK.below hb);clear aC AX AY RQ SK;clear hb hbn S1;obtain⟨aC,AX,AY,RQ,SK⟩:=S2.o;have HC:=hid (fE (-(cut:Int)) AY E.o.1 (by omega) (by omega));clear aC AX AY RQ SK;go_wp2_with fail;refine HC.o.mono ?_;rintro r u3 ⟨v,rfl,hN,hb⟩;obtain⟨a1,c1,rfl,_⟩:=hN.arg (by omega);clear HC;obtain⟨aC,AX,AY,RQ,SK⟩:=S2.o;have hbn:=aC.trans (hb.mono aC.size);have S3:=jD hbn (AX.below hb) (AY.below hb) (RQ.below hb) (SK.below hb) (hN.mono aC.size);clear aC AX AY RQ SK;clear hb hbn S2;clear hN;obtain⟨aC,AX,AY,RQ,SK,NH⟩:=S3.o;have HC:=hid (p8 (NH.bC (by omega)).2 E.o.r5);clear aC AX AY RQ SK NH;go_wp2_with fail;refine HC.o.mono ?_;rintro r u4 ⟨rfl,hb⟩;clear HC;obtain⟨aC,AX,AY,RQ,SK,NH⟩:=S3.o;have hbn:=aC.trans (hb.mono aC.size);have S4:=jD hbn (AX.below hb) (AY.below hb) (RQ.below hb) (SK.below hb) (NH.below hb);clear aC AX AY RQ SK NH;clear hb hbn S3;obtain⟨aC,AX,AY,RQ,SK,NH⟩:=S4.o;have HC:=hid (p8 AX E.o.r4.1);clear aC AX AY RQ SK NH;go_wp2_with fail;refine HC.o.mono ?_;rintro r u5 ⟨rfl,hb⟩;clear HC;obtain⟨aC,AX,AY,RQ,SK,NH⟩:=S4.o;have hbn:=aC.trans (hb.mono aC.size);have S5:=jD hbn (AX.below hb) (AY.below hb) (RQ.below hb) (SK.below hb) (NH.below hb);clear aC AX AY RQ SK NH;clear hb hbn S4;obtain⟨aC,AX,AY,RQ,SK,NH⟩:=S5.o;have HC:=hid (fE bb AX E.o.2.1 (by omega) (by omega));clear aC AX AY RQ SK NH;go_wp2_with fail;refine HC.o.mono ?_;rintro r u6 ⟨v,rfl,hN,hb⟩;obtain⟨a2,c2,rfl,_⟩:=hN.arg (by omega);clear HC;obtain⟨aC,AX,AY,RQ,SK,NH⟩:=S5.o;have hbn:=aC.trans (hb.mono aC.size);have S6:=Du hbn (AX.below hb) (AY.below hb) (RQ.below hb) (SK.below hb) (NH.below hb) (hN.mono aC.size);clear aC AX AY RQ SK NH;clear hb hbn S5;clear hN;obtain⟨aC,AX,AY,RQ,SK,NH,NV⟩:=S6.o;have HC:=hid (KC (NV.bC (by omega)).2 (NH.bC (by omega)).2 E.o.r2.1);clear aC AX AY RQ SK NH NV;go_wp2_with fail;refine HC.o.mono ?_;rintro r u7 ⟨v,v2,rfl,hN,hM,hb⟩;obtain⟨a3,c3,rfl,_⟩:=hN.arg (by omega);obtain⟨a4,c4,rfl,_⟩:=hM.arg (by omega);clear HC;obtain⟨aC,AX,AY,RQ,SK,NH,NV⟩:=S6.o;have hbn:=aC.trans (hb.mono aC.size);have S7:=Dh hbn (AX.below hb) (AY.below hb) (RQ.below hb) (SK.below hb) (NH.below hb) (hN.mono aC.size) (hM.mono aC.size);clear aC AX AY RQ SK NH NV;clear hb hbn S6;clear hN hM;obtain⟨aC,AX,AY,RQ,SK,NH,NW,NL⟩:=S7.o;have HC:=hid (HL.o u7 _ _ _ _ _ _ _ _ (NW.bC (by omega)).2 (NL.bC (by omega)).2 AY (NH.bC (by omega)).2);clear aC AX AY RQ SK NH NW NL;go_wp2_with fail;refine HC.o.mono ?_;rintro r u8 ⟨rfl,hb⟩;clear HC;obtain⟨aC,AX,AY,RQ,SK,NH,NW,NL⟩:=S7.o;have hbn:=aC.trans (hb.mono aC.size);have S8:=Dh hbn (AX.below hb) (AY.below hb) (RQ.below hb) (SK.below hb) (NH.below hb) (NW.below hb) (NL.below hb);clear aC AX AY RQ SK NH NW NL;clear hb hbn S7;obtain⟨aC,AX,AY,RQ,SK,NH,NW,NL⟩:=S8.o;have HC:=hid (mK 1 u8 (by omega));clear aC AX AY RQ SK NH NW NL;go_wp2_with fail;refine HC.o.mono ?_;rintro r u9 ⟨v,rfl,hN,hb⟩;obtain⟨a5,c5,rfl,_⟩:=hN.arg (by omega);clear HC;obtain⟨aC,AX,AY,RQ,SK,NH,NW,NL⟩:=S8.o;have hbn:=aC.trans (hb.mono aC.size);have S9:=Uc hbn (AX.below hb) (AY.below hb) (RQ.below hb) (SK.below hb) (NH.below hb) (NW.below hb) (NL.below hb) (hN.mono aC.size);clear aC AX AY RQ SK NH NW NL;clear hb hbn S8;clear hN;obtain⟨aC,AX,AY,RQ,SK,NH,NW,NL,NO⟩:=S9.o;have HC:=hid (vR (NW.bC (by omega)).2 (NO.bC (by omega)).2 E4.o);clear aC AX AY RQ SK NH NW NL NO;go_wp2_with fail;refine HC.o.mono ?_;rintro r u10 ⟨v,rfl,hN,hb⟩;obtain⟨a6,c6,rfl,_⟩:=hN.arg (by omega);clear HC;obtain⟨aC,AX,AY,RQ,SK,NH,NW,NL,NO⟩:=S9.o;have hbn:=aC.trans (hb.mono aC.size);have O9:=Ba hbn (AX.below hb) (AY.below hb) (RQ.below hb) (SK.below hb) (NH.below hb) (NW.below hb) (NL.below hb) (NO.below hb) (hN.mono aC.size);clear aC AX AY RQ SK NH NW NL NO;clear hb hbn S9;clear hN;obtain⟨aC,AX,AY,RQ,SK,NH,NW,NL,NO,NR⟩:=O9.o;have hlast:=fG aC NR SK;obtain⟨x0,x1,x2,x3,x4,x5⟩:=RQ.facts;obtain⟨s0,s1,s2,zZ,z8,Aa⟩:=SK.facts;have hsz:=ah (SK.lt);clear aC AX AY RQ SK NH NW NL NO NR;clear O9 E HL;have htA:=ah Dj;clear Dj;go_wp2
 all_goals (
  obtain⟨aC,NZ,SK⟩:=hlast.o;have hsz:=aC.size;refine aB (vC _ (w.heap.size+1) (.slice a6 (ws WH).length c6) x _ _ rfl (SK.set _ _ _)) rfl ⟨⟨.slice a6 (ws WH).length c6,?_,NZ.NN SK (by decide) _ _ _⟩,jX aC hsz (by omega) _ _ _⟩;rw[<-htA.o]
  first | rfl | simp[*])
end
end Go.Proofs.YtjppdacikihpdaaGreatDoor
