import Derived.Test.YteginbngplldaaaGreatDoorD32cx
import Derived.Test.YteginbngplldaaaGreatDoorW40x
import Derived.Test.YteginbngplldaaaGreatDoorD19x
import Derived.Deep.RegionWith
import Derived.Deep.RegionHeld3
import Derived.Deep.CutRange
import Derived.Test.YteginbngplldaaaGreatDoorW17x
import Derived.Test.YteginbngplldaaaGreatDoorD8x
import Derived.Test.YteginbngplldaaaGreatDoorM1x
import Derived.Test.YteginbngplldaaaGreatDoorW7x
import Derived.Laws.IdiomStrings
import Derived.Test.YteginbngplldaaaGreatDoorD15x
set_option linter.unusedVariables false
set_option linter.unusedSimpArgs false
set_option maxHeartbeats 16000000
set_option maxRecDepth 20000
namespace Go.Proofs.YteginbngplldaaaGreatDoor
namespace J
end J
section
open Go.RowKit
theorem Gr{w:World}{a:Option Addr}{n c:Nat}{xs:List Nat}(h1:Arg w a n c xs)(ng:Bool)(e:Int) :
 At 184 #[.agg #[.bool ng,.slice a n c,.int .i64 e]] w (.int .i64 (rO ng (val xs))):=by
 have hB:An w (w.alloc (.cells #[.bool ng,.slice a n c,.int .i64 e] 37)):=ae w _;have A1:=h1.below hB;have hbig:=h1.big;have H1:=hid (oH xs a n c _ _ A1.len (by omega) A1.wf A1.rd);obtain⟨X,hX⟩:∃ X,val xs=X:=⟨_,rfl⟩;rw[hX] at H1 |-;have SB:=ak hB;clear hB A1 h1 hX hbig;unfold rO
 by_cases h0:X=0
 · rw[if_pos h0];have hb:bl X=0:=by rw[h0,dD]
   rw[hb] at H1;clear h0 hb;go_enter Tryz.func184,Tryz.ntmps184;exact K0
 · rw[if_neg h0];obtain⟨b,hb⟩:∃ b,bl X=b:=⟨_,rfl⟩;have hb0:((b:Int)==0)=false:=by have:=dG X h0;simp;omega
   rw[hb] at H1;clear h0 hb
   cases ng
   · simp only[fe,if_false];go_enter Tryz.func184,Tryz.ntmps184;exact K0
   · simp only[if_true];go_enter Tryz.func184,Tryz.ntmps184;exact K0
theorem LA{w:World}{a:Option Addr}{l c:Nat}{xs:List Nat}{X:Nat}(k:Nat)(h1:Arg w a l c xs)(hX:val xs=X)(hl:l<=2000000)(hk:k<=64000000) :
 As 91 #[.slice a l c,.int .i64 (k:Nat)] w fun r w'=>∃ v,r=.returned v/\Nt w.heap.size w' v (X*2^k)/\An w w':=by
 obtain⟨q,hq⟩:=af (k/32);obtain⟨s,hs⟩:=af (k%32);have e1:(k:Int)/32=(q:Int):=by omega
 have e2:(k:Int)%32=(s:Int):=by omega
 have hqb:q<=2000000:=by omega
 have Oq:s<32:=by omega
 obtain⟨W1,hW1⟩:=af (w.alloc (.cells (madeCells #[.int .u32 0] q) 91));have ni:Own W1 w.heap.size (List.replicate q 0):=by rw[hW1];exact Own.made w q
 have hB1:An w W1:=by rw[hW1];exact(aB _ _).alloc (aA _) _
 have hmk:=dI (q:Int) q rfl (by omega) w;rw[<-hW1] at hmk;have hR:=rG ni (by simp;omega);simp only[Cf] at hR;have A1:=h1.below hB1;obtain⟨v',w2,hap,hown,hgrow⟩:=kD W1 w.heap.size _ q (List.replicate q 0) xs a l c W1.heap.size 35 hR A1.len A1.rd A1.nil (by omega) hB1.size;have hB2:An w w2:=hB1.grown hgrow hB1.size (fun k hk=>by simp[Value.ownBlock] at hk;omega);obtain⟨a2,c2,rfl,hc2,hl2,uC,CL⟩:=Rw.words hown;have AO:Arg w2 a2 (q+l) c2 (List.replicate q 0++xs):=⟨hl2,hc2,by omega,(Wf.zeros q).append h1.wf,CL,uC⟩
 have hval:val (List.replicate q 0++xs)=X*pw q:=by
  rw[val_append,o8,hX,Cf,dK,cZ]
 have hpw:pw q*2^s=2^k:=by
  exact Qa0
 have hps:=tu s Oq;obtain⟨p,hp⟩:=af (2^s)
 have e3:(2:Int)^s=(p:Int):=by
  exact Qaa
 have hpl:p<4294967296:=by omega
 have T1:=hid (lg (V:=X*2^k) (AO.below (ae w2 _)) (rE w2 p (by omega)) (by omega) (by rw[hval];simp only[val];rw[<-hpw,hp,aM];simp));have J5:=hid hap;have hs2:=hB2.size;have S1:=ak hB2;clear hap hown hgrow hB2 hl2 uC CL AO hval hpw A1 hR ni hB1 h1 hW1 hq hs hps hp hX;go_enter Tryz.func91,Tryz.ntmps91
 go_wp2_with (at_builtin;refine dB rfl (.tmp 39) (.tmp 40) 35 rfl _ _ rfl rfl _ _ J5.o ?_)
 refine T1.o.mono ?_;rintro r u3 ⟨v3,rfl,eu,hb3⟩;have S2:=(aJ eu hb3);clear eu hb3;go_wp2;go_ret;obtain⟨eu,hb3⟩:=S2.o;exact⟨v3,rfl,eu.mono (by simp;omega),S1.o.trans (((ae w2 _).trans (hb3.mono (by simp))).mono hs2)⟩
theorem Pj {w:World}{a b:Option Addr}{n c m d:Nat}(e f:Int) (x y:Nat) (bx:x<=1125899906842624) (by':y<=1125899906842624) (hx:x=0) (z:Int)
 (H1:Hid (Ax 206 #[.slice a n c] w (.int .i64 (x:Nat))))
 (H2:Hid (Ax 206 #[.slice b m d] w (.int .i64 (y:Nat))))
 (HC:Hid (At 154 #[.slice a n c,.slice b m d] w (.int .i64 z))):At 190 #[.slice a n c,.int .i64 e,.slice b m d,.int .i64 f] w (.int .i64 z):=by
 have ex:IntKind.u64.wrap (x:Int)=(x:Int):=by rw[kW];omega
 have ey:IntKind.u64.wrap (y:Int)=(y:Int):=by rw[kW];omega
 subst hx;go_enter Tryz.func190,Tryz.ntmps190;go_wp2_with fail;refine H1.o.mono ?_;rintro r ww ⟨rfl,hw⟩;rw[hw];clear hw ww;go_wp2_with fail;refine H2.o.mono ?_;rintro r ww ⟨rfl,hw⟩;rw[hw];clear hw ww;go_wp2_with fail;refine HC.o.mono ?_;rintro r u1 ⟨rfl,hb⟩;have S1:=ak hb;clear hb;go_wp2;go_ret;exact⟨rfl,S1.o⟩
theorem Pm {w:World}{a b:Option Addr}{n c m d:Nat}(e f:Int) (x y:Nat) (bx:x<=1125899906842624) (by':y<=1125899906842624) (hx:((x:Int)==0)=false) (hy:y=0) (z:Int)
 (H1:Hid (Ax 206 #[.slice a n c] w (.int .i64 (x:Nat))))
 (H2:Hid (Ax 206 #[.slice b m d] w (.int .i64 (y:Nat))))
 (HC:Hid (At 154 #[.slice a n c,.slice b m d] w (.int .i64 z))):At 190 #[.slice a n c,.int .i64 e,.slice b m d,.int .i64 f] w (.int .i64 z):=by
 have ex:IntKind.u64.wrap (x:Int)=(x:Int):=by rw[kW];omega
 have ey:IntKind.u64.wrap (y:Int)=(y:Int):=by rw[kW];omega
 subst hy;go_enter Tryz.func190,Tryz.ntmps190;go_wp2_with fail;refine H1.o.mono ?_;rintro r ww ⟨rfl,hw⟩;rw[hw];clear hw ww;go_wp2_with fail;refine H2.o.mono ?_;rintro r ww ⟨rfl,hw⟩;rw[hw];clear hw ww;go_wp2_with fail;refine HC.o.mono ?_;rintro r u1 ⟨rfl,hb⟩;have S1:=ak hb;clear hb;go_wp2;go_ret;exact⟨rfl,S1.o⟩
theorem Tv {w:World}{a b:Option Addr}{n c m d:Nat}(e f:Int) (x y:Nat) (bx:x<=1125899906842624) (by':y<=1125899906842624) (hx:((x:Int)==0)=false) (hy:((y:Int)==0)=false) (hlt:e<f) (z:Int) (hz0:-1<=z) (hz1:z<=1)
 (H1:Hid (Ax 206 #[.slice a n c] w (.int .i64 (x:Nat))))
 (H2:Hid (Ax 206 #[.slice b m d] w (.int .i64 (y:Nat))))
 (HR:Hid (At 190 #[.slice b m d,.int .i64 f,.slice a n c,.int .i64 e] w (.int .i64 z))):At 190 #[.slice a n c,.int .i64 e,.slice b m d,.int .i64 f] w (.int .i64 (-z)):=by
 have ex:IntKind.u64.wrap (x:Int)=(x:Int):=by rw[kW];omega
 have ey:IntKind.u64.wrap (y:Int)=(y:Int):=by rw[kW];omega
 go_enter Tryz.func190,Tryz.ntmps190;go_wp2_with fail;refine H1.o.mono ?_;rintro r ww ⟨rfl,hw⟩;rw[hw];clear hw ww;go_wp2_with fail;refine H2.o.mono ?_;rintro r ww ⟨rfl,hw⟩;rw[hw];clear hw ww;go_wp2_with fail;refine HR.o.mono ?_;rintro r u1 ⟨rfl,hb⟩;have S1:=ak hb;clear hb;go_wp2;go_ret;exact⟨rfl,S1.o⟩
theorem WT {w:World}{a b:Option Addr}{n c m d:Nat}(e f:Int) (x y:Nat) (bx:x<=1125899906842624) (by':y<=1125899906842624) (hx:((x:Int)==0)=false) (hy:((y:Int)==0)=false) (hge:decide (e<f)=false) (dd:Nat) (hap:IntKind.u64.wrap (IntKind.u64.wrap e-IntKind.u64.wrap f)=(dd:Int)) (hd:1099511627776<dd)
 (H1:Hid (Ax 206 #[.slice a n c] w (.int .i64 (x:Nat))))
 (H2:Hid (Ax 206 #[.slice b m d] w (.int .i64 (y:Nat)))):At 190 #[.slice a n c,.int .i64 e,.slice b m d,.int .i64 f] w (.int .i64 1):=by
 have hd2:(1099511627776:Int)<(dd:Int):=by omega
 have ex:IntKind.u64.wrap (x:Int)=(x:Int):=by rw[kW];omega
 have ey:IntKind.u64.wrap (y:Int)=(y:Int):=by rw[kW];omega
 go_enter Tryz.func190,Tryz.ntmps190;go_wp2_with fail;refine H1.o.mono ?_;rintro r ww ⟨rfl,hw⟩;rw[hw];clear hw ww;go_wp2_with fail;refine H2.o.mono ?_;rintro r ww ⟨rfl,hw⟩;rw[hw];clear hw ww;go_wp2;go_ret;exact⟨rfl,aB _ _⟩
theorem Tw {w:World}{a b:Option Addr}{n c m d:Nat}(e f:Int) (x y:Nat) (bx:x<=1125899906842624) (by':y<=1125899906842624) (hx:((x:Int)==0)=false) (hy:((y:Int)==0)=false) (hge:decide (e<f)=false) (dd:Nat) (hap:IntKind.u64.wrap (IntKind.u64.wrap e-IntKind.u64.wrap f)=(dd:Int)) (hd:dd<=1099511627776) (h1:y<x+dd)
 (H1:Hid (Ax 206 #[.slice a n c] w (.int .i64 (x:Nat))))
 (H2:Hid (Ax 206 #[.slice b m d] w (.int .i64 (y:Nat)))):At 190 #[.slice a n c,.int .i64 e,.slice b m d,.int .i64 f] w (.int .i64 1):=by
 have hd2:decide ((1099511627776:Int)<(dd:Int))=false:=decide_eq_false (by omega);have hd3:decide (1099511627776<dd)=false:=decide_eq_false (by omega);have es:IntKind.u64.wrap ((x:Int)+(dd:Int))=(x:Int)+(dd:Int):=by rw[kW];omega
 have h2:(y:Int)<(x:Int)+(dd:Int):=by omega
 have ex:IntKind.u64.wrap (x:Int)=(x:Int):=by rw[kW];omega
 have ey:IntKind.u64.wrap (y:Int)=(y:Int):=by rw[kW];omega
 go_enter Tryz.func190,Tryz.ntmps190;go_wp2_with fail;refine H1.o.mono ?_;rintro r ww ⟨rfl,hw⟩;rw[hw];clear hw ww;go_wp2_with fail;refine H2.o.mono ?_;rintro r ww ⟨rfl,hw⟩;rw[hw];clear hw ww;go_wp2;go_ret;exact⟨rfl,aB _ _⟩
theorem Tx {w:World}{a b:Option Addr}{n c m d:Nat}(e f:Int) (x y:Nat) (bx:x<=1125899906842624) (by':y<=1125899906842624) (hx:((x:Int)==0)=false) (hy:((y:Int)==0)=false) (hge:decide (e<f)=false) (dd:Nat) (hap:IntKind.u64.wrap (IntKind.u64.wrap e-IntKind.u64.wrap f)=(dd:Int)) (hd:dd<=1099511627776) (h1:x+dd<y)
 (H1:Hid (Ax 206 #[.slice a n c] w (.int .i64 (x:Nat))))
 (H2:Hid (Ax 206 #[.slice b m d] w (.int .i64 (y:Nat)))):At 190 #[.slice a n c,.int .i64 e,.slice b m d,.int .i64 f] w (.int .i64 (-1)):=by
 have hd2:decide ((1099511627776:Int)<(dd:Int))=false:=decide_eq_false (by omega);have hd3:decide (1099511627776<dd)=false:=decide_eq_false (by omega);have es:IntKind.u64.wrap ((x:Int)+(dd:Int))=(x:Int)+(dd:Int):=by rw[kW];omega
 have h2:(x:Int)+(dd:Int)<(y:Int):=by omega
 have h3:decide ((y:Int)<(x:Int)+(dd:Int))=false:=decide_eq_false (by omega);have h4:decide (y<x+dd)=false:=decide_eq_false (by omega);have ex:IntKind.u64.wrap (x:Int)=(x:Int):=by rw[kW];omega
 have ey:IntKind.u64.wrap (y:Int)=(y:Int):=by rw[kW];omega
 go_enter Tryz.func190,Tryz.ntmps190;go_wp2_with fail;refine H1.o.mono ?_;rintro r ww ⟨rfl,hw⟩;rw[hw];clear hw ww;go_wp2_with fail;refine H2.o.mono ?_;rintro r ww ⟨rfl,hw⟩;rw[hw];clear hw ww;go_wp2;go_ret;exact⟨rfl,aB _ _⟩
theorem Ty {w:World}{a b:Option Addr}{n c m d:Nat}(e f:Int) (x y:Nat) (bx:x<=1125899906842624) (by':y<=1125899906842624) (hx:((x:Int)==0)=false) (hy:((y:Int)==0)=false) (hge:decide (e<f)=false) (dd:Nat) (hap:IntKind.u64.wrap (IntKind.u64.wrap e-IntKind.u64.wrap f)=(dd:Int)) (hd:dd<=64000000) (h1:x+dd=y) (P:Nat) (lP:(ws P).length<=35184372088832) (z:Int)
 (H1:Hid (Ax 206 #[.slice a n c] w (.int .i64 (x:Nat))))
 (H2:Hid (Ax 206 #[.slice b m d] w (.int .i64 (y:Nat))))
 (HM:Hid (As 91 #[.slice a n c,.int .i64 (dd:Nat)] w fun r w'=>∃ v,r=.returned v/\Nt w.heap.size w' v P/\An w w'))
 (HC:Hid (∀ u p q,An w u->Arg u p (ws P).length q (ws P)->At 154 #[.slice p (ws P).length q,.slice b m d] u (.int .i64 z))):At 190 #[.slice a n c,.int .i64 e,.slice b m d,.int .i64 f] w (.int .i64 z):=by
 have hd2:decide ((1099511627776:Int)<(dd:Int))=false:=decide_eq_false (by omega);have hd3:decide (1099511627776<dd)=false:=decide_eq_false (by omega);have es:IntKind.u64.wrap ((x:Int)+(dd:Int))=(x:Int)+(dd:Int):=by rw[kW];omega
 have h2:decide ((x:Int)+(dd:Int)<(y:Int))=false:=decide_eq_false (by omega);have h3:decide ((y:Int)<(x:Int)+(dd:Int))=false:=decide_eq_false (by omega);have h4:decide (y<x+dd)=false:=decide_eq_false (by omega);have h5:decide (x+dd<y)=false:=decide_eq_false (by omega);have ed:IntKind.i64.wrap (dd:Int)=(dd:Int):=by rw[zY];omega
 clear h1;have ex:IntKind.u64.wrap (x:Int)=(x:Int):=by rw[kW];omega
 have ey:IntKind.u64.wrap (y:Int)=(y:Int):=by rw[kW];omega
 go_enter Tryz.func190,Tryz.ntmps190;go_wp2_with fail;refine H1.o.mono ?_;rintro r ww ⟨rfl,hw⟩;rw[hw];clear hw ww;go_wp2_with fail;refine H2.o.mono ?_;rintro r ww ⟨rfl,hw⟩;rw[hw];clear hw ww;go_wp2_with fail;refine HM.o.mono ?_;rintro r u1 ⟨v,rfl,hN,hb⟩;obtain⟨a1,c1,rfl,A1⟩:=hN.arg lP;have EL:=hid (HC.o u1 a1 c1 hb A1);have hs1:=hb.size;have S1:=ak hb;clear hN hb A1;go_wp2_with fail;refine EL.o.mono ?_;rintro r u2 ⟨rfl,hb⟩;have S2:=ak (S1.o.trans (hb.mono hs1));clear hb;go_wp2;go_ret;exact⟨rfl,S2.o⟩
def Vk(X:Nat)(e:Int)(Y:Nat)(f:Int):Int:=if X=0\/Y=0 then bu X Y else tL X e Y f
theorem w9{w:World}{a b:Option Addr}{n c m d:Nat}{xs ys:List Nat}(h1:Arg w a n c xs)(h2:Arg w b m d ys)(hn:n<=2000000)(hm:m<=2000000)(e f:Int)(he0:-9223372036854775808<=e)(he1:e<=9223372036854775807)(hf0:-9223372036854775808<=f)(hf1:f<=9223372036854775807)(h:f<=e)(hX:val xs≠0)(hY:val ys≠0) :
 At 190 #[.slice a n c,.int .i64 e,.slice b m d,.int .i64 f] w (.int .i64 (tL (val xs) e (val ys) f)):=by
 have b1:=h1.big;have b2:=h2.big;have L1:=hid (oH xs a n c w.heap.size w h1.len (by omega) h1.wf h1.rd);have L2:=hid (oH ys b m d w.heap.size w h2.len (by omega) h2.wf h2.rd);have x0:(((bl (val xs):Nat):Int)==0)=false:=by have:=dG _ hX;simp;omega
 have y0:(((bl (val ys):Nat):Int)==0)=false:=by have:=dG _ hY;simp;omega
 have hap:=Ll e f he0 he1 hf0 hf1 h;have hge:decide (e<f)=false:=decide_eq_false (by omega);have c1:=Gq h1
 have c2:bl (val ys)<=64000000:=by
  have:=df ys h2.wf;rw[<-h2.len] at this;have:=Og _ _ this;omega
 unfold tL;rw[if_neg (by omega)];obtain⟨dd,hdd⟩:∃ dd,(e-f).toNat=dd:=⟨_,rfl⟩;rw[hdd] at hap |-;have hb:=C8 (val xs) dd hX
 by_cases k1:1099511627776<dd
 · have:bu (val xs*2^dd) (val ys)=1:=by
    rw[Bc (by omega),hb];unfold bu;rw[if_neg (by omega),if_pos (by omega)]
   rw[this];exact WT e f _ _ c1 (by omega) x0 y0 hge dd hap k1 L1 L2
 · by_cases k2:bl (val ys)<bl (val xs)+dd
   · have:bu (val xs*2^dd) (val ys)=1:=by
      rw[Bc (by omega),hb];unfold bu;rw[if_neg (by omega),if_pos (by omega)]
     rw[this];exact Tw e f _ _ c1 (by omega) x0 y0 hge dd hap (by omega) k2 L1 L2
   · by_cases k3:bl (val xs)+dd<bl (val ys)
     · have:bu (val xs*2^dd) (val ys)=-1:=by
        rw[Bc (by omega),hb];unfold bu;rw[if_pos (by omega)]
       rw[this];exact Tx e f _ _ c1 (by omega) x0 y0 hge dd hap (by omega) k3 L1 L2
     · have lP:(ws (val xs*2^dd)).length<=35184372088832:=by rw[il,hb];omega
       obtain⟨P,hP⟩:∃ P,val xs*2^dd=P:=⟨_,rfl⟩;have HM:=hid (LA (X:=val xs) dd h1 rfl hn (by omega));rw[hP] at HM lP |-;exact Ty e f _ _ c1 (by omega) x0 y0 hge dd hap (by omega) (by omega) P lP _ L1 L2 HM (hid fun u p q hu hA=>jQ hA (h2.below hu) _ (by rw[aj]))
theorem Dj{w:World}{a b:Option Addr}{n c m d:Nat}{xs ys:List Nat}(h1:Arg w a n c xs)(h2:Arg w b m d ys)(hn:n<=2000000)(hm:m<=2000000)(e f:Int)(he0:-9223372036854775808<=e)(he1:e<=9223372036854775807)(hf0:-9223372036854775808<=f)(hf1:f<=9223372036854775807) :
 At 190 #[.slice a n c,.int .i64 e,.slice b m d,.int .i64 f] w (.int .i64 (Vk (val xs) e (val ys) f)):=by
 have b1:=h1.big;have b2:=h2.big;have L1:=hid (oH xs a n c w.heap.size w h1.len (by omega) h1.wf h1.rd);have L2:=hid (oH ys b m d w.heap.size w h2.len (by omega) h2.wf h2.rd);have c1:=Gq h1;have c2:=Gq h2;unfold Vk
 by_cases hX:val xs=0
 · rw[if_pos (.inl hX)];exact Pj e f _ _ c1 c2 (by rw[hX,dD]) _ L1 L2 (hid (jQ h1 h2 _ rfl))
 · have x0:(((bl (val xs):Nat):Int)==0)=false:=by have:=dG _ hX;simp;omega
   by_cases hY:val ys=0
   · rw[if_pos (.inr hY)];exact Pm e f _ _ c1 c2 x0 (by rw[hY,dD]) _ L1 L2 (hid (jQ h1 h2 _ rfl))
   · have y0:(((bl (val ys):Nat):Int)==0)=false:=by have:=dG _ hY;simp;omega
     rw[if_neg (fun h=>h.elim hX hY)]
     by_cases h:e<f
     · have hr:=Gp (val ys) f (val xs) e;have:=Tv e f _ _ c1 c2 x0 y0 h (tL (val ys) f (val xs) e) (by omega) (by omega) L1 L2 (hid (w9 h2 h1 hm hn f e hf0 hf1 he0 he1 (by omega) hY hX));rw[Pb] at this;exact this
     · exact w9 h1 h2 hn hm e f he0 he1 hf0 hf1 (by omega) hX hY
theorem YV(X:Nat)(e:Int)(Y:Nat)(f B:Int)(h1:B<=e)(h2:B<=f):Vk X e Y f=jq ((X*2^(e-B).toNat:Nat):Int) ((Y*2^(f-B).toNat:Nat):Int):=by
 rw[Pd];unfold Vk
 by_cases h:X=0\/Y=0
 · rw[if_pos h];have p1:=I6 X (e-B).toNat;have p2:=I6 Y (f-B).toNat;generalize X*2^(e-B).toNat=P at p1 |-;generalize Y*2^(f-B).toNat=Q at p2 |-
   have q1:X=0/\P=0\/X≠0/\P≠0:=by
    by_cases h:X=0
    · exact .inl ⟨h,p1.2 h⟩
    · exact .inr ⟨h,fun k=>h (p1.1 k)⟩
   have q2:Y=0/\Q=0\/Y≠0/\Q≠0:=by
    by_cases h:Y=0
    · exact .inl ⟨h,p2.2 h⟩
    · exact .inr ⟨h,fun k=>h (p2.1 k)⟩
   clear p1 p2;unfold bu;rcases h with h|h
   · rcases q1 with ⟨a,b⟩ | ⟨a,b⟩
     · rcases q2 with ⟨c,d⟩ | ⟨c,d⟩
       · rw[a,b,c,d]
       · rw[a,b,if_pos (by omega),if_pos (by omega)]
     · exact absurd h a
   · rcases q2 with ⟨c,d⟩ | ⟨c,d⟩
     · rcases q1 with ⟨a,b⟩ | ⟨a,b⟩
       · rw[a,b,c,d]
       · rw[c,d,if_neg (by omega),if_pos (by omega),if_neg (by omega),if_pos (by omega)]
     · exact absurd h c
 · rw[if_neg h];exact Ls X e Y f B h1 h2
theorem Pn(k:Nat)(B:Int)(hB:B<=-1074):(ig k).1*2^((ig k).2-B).toNat=vK k*2^(-1074-B).toNat/\(ig k).1<9007199254740992/\B<=(ig k).2/\((ig k).1=0↔k=0):=by
 unfold ig
 by_cases h:k/4503599627370496=0
 · rw[if_pos h];refine⟨?_,by simp only;omega,by simp only;omega,by simp only;omega⟩;simp only;have:=jr 0 k (.inl rfl) (by omega);rw[eG,dK,fw,eO] at this;rw[this,show k%4503599627370496=k by omega]
 · rw[if_neg h];obtain⟨q,hq⟩:∃ q,k/4503599627370496=q:=⟨_,rfl⟩;obtain⟨f,hf⟩:∃ f,k%4503599627370496=f:=⟨_,rfl⟩;rw[hq,hf];refine⟨?_,by simp only;omega,by simp only;omega,by simp only;omega⟩;simp only;have:=jr (q-1) (4503599627370496+f) (.inr (by omega)) (by omega);rw[show(q-1)*4503599627370496+(4503599627370496+f)=k by omega] at this;rw[this,aM,<-aL,show(-1074+(q:Int)-1-B).toNat=q-1+(-1074-B).toNat by omega]
end
section
open Go.RowKit J
theorem WU(s:Bool)(v:Nat):qm s*(v:Int)=B.sg s v:=by unfold qm B.sg;cases s <;> simp
theorem Po(K:Nat)(hK:K<9218868437227405312)(a:Nat)(ha:a=2045):vK K<9007199254740992*2^a:=by
 have h:=jr a 9007199254740992 (.inr (by omega)) (by omega);have h2:a*4503599627370496+9007199254740992=9218868437227405312:=by rw[ha]
 rw[<-h,h2];exact Vi.2 hK
theorem YW(s:Bool)(K:Nat)(hK:K<9218868437227405312):∃ n X e,WR s K=some (n,X,e)/\Fo (some (n,X,e)) (B.sg s (vK K)*(UU:Int)) (-1074) 1024/\(X=0↔K=0):=by
 obtain⟨n,X,e,h1,F,h2,h3,h4⟩:=Tu s K hK;refine⟨n,X,e,h1,⟨n,X,e,rfl,F,?_,?_⟩,h3⟩
 · obtain⟨a,ha⟩:∃ a:Nat,(-1074 - -2097152:Int).toNat=a:=⟨_,rfl⟩;have h5:=h4 (-2097152) (by omega);rw[ha] at h5;rw[h5,US a (by omega),fZ,fZ,<-mH,<-mH,WU]
 · by_cases hX:X=0
   · exact .inl hX
   · right
     have ho:=Tt F hX;have hd:=F.down
     -- in units of the form's own place
     have h5:=h4 (min e (-1074)) (by omega);unfold zv at h5;simp only at h5;rw[h2 hX] at h5
     have h6:X*2^(e-min e (-1074)).toNat=vK K*2^(-1074-min e (-1074)).toNat:=by
      unfold qm at h5
      cases s
      · simp only[fe,if_false,Int.one_mul] at h5;exact_mod_cast h5
      · simp only[if_true] at h5;have:=Int.eq_of_mul_eq_mul_left (by decide) h5;exact_mod_cast this
     have he:-1074<=e:=by
      apply Int.le_of_not_gt;intro hlt;rw[show(e-min e (-1074)).toNat=0 by omega,fw,eO] at h6;obtain⟨q,hq⟩:∃ q,(-1074-min e (-1074)).toNat=q+1:=⟨(-1074-min e (-1074)).toNat-1,by omega⟩;rw[hq,iq,<-aM] at h6;omega
     refine⟨he,?_⟩;rw[show(-1074-min e (-1074)).toNat=0 by omega,fw,eO] at h6;obtain⟨q,hq⟩:∃ q,(e-min e (-1074)).toNat=q:=⟨_,rfl⟩;rw[hq] at h6;obtain⟨c,hc⟩:∃ c:Nat,c=2045:=⟨_,rfl⟩;have h7:=Po K hK c hc;have h8:=ib X hX;have h9:=dG X hX;obtain⟨b,hb⟩:∃ b,bl X=b+1:=⟨bl X-1,by omega⟩;rw[hb,kQ] at h8;have h10:2^b*2^q<9007199254740992*2^c:=fu (fQ _ h8) (by rw[h6];exact h7);rw[<-aL,show(9007199254740992:Nat)=2^53 from rfl,<-aL] at h10;have h11:=(jD (by decide:1<2)).1 h10;omega
theorem YX(s:Bool)(v:Nat):(B.sg s v).natAbs=v:=by unfold B.sg;cases s <;> simp
abbrev Wd(x:Nat):Prop:=x<18446744073709551616
abbrev fD(x:Nat):Prop:=gI x<9218868437227405312
def zn(x:Nat):Int:=B.sg (nE x) (vK (gI x))
theorem WV(s:Bool)(v:Nat):(B.sg s v).natAbs=v:=YX s v
end
section
open Go.RowKit
theorem iZ{n a b:Nat}(hn:0<n):a^n<b^n↔a<b:=Nat.pow_lt_pow_iff_left (by omega)
theorem Dl{n a b:Nat}(hn:0<n):a^n=b^n↔a=b:=by
 constructor
 · intro h;rcases nQ a b with k|k|k
   · have:=(iZ hn).2 k;omega
   · exact k
   · have:=(iZ hn).2 k;omega
 · intro h;rw[h]
structure Pp (v:Nat->Nat) (top:Nat):Prop where
 one:1<top
 zero:v 0=0
 mono:∀ {k l},k<l->v k<v l
 step:∀ k,k<top->∃ c j,v k=c*2^j/\v (k+1)=(c+1)*2^j/\c<9007199254740992/\j<=2045
structure ik (v:Nat->Nat) (top n:Nat) (K:Nat) (t:Bool) (m:Int) (V S:Nat):Prop where
 fin:K<top
 pos:0<S
 one:t=true->V=v K^n*S
 low:t=false->v K^n*S<V
 Tp:t=false->V<v (K+1)^n*S->(m=-1/\2^n*V<(v K+v (K+1))^n*S\/m=0/\2^n*V=(v K+v (K+1))^n*S\/m=1/\(v K+v (K+1))^n*S<2^n*V)
 high:t=false->V<v (K+1)^n*S\/(K+1=top/\m=1)
def Alike(n P Q V S:Nat):Prop:=∀ c j,c<=18014398509481984->j<=2046->((c*2^j)*Q<2*P↔(c*2^j)^n*S<2^n*V)/\((c*2^j)*Q=2*P↔(c*2^j)^n*S=2^n*V)
theorem uH(n a S V:Nat):((2*a)^n*S<2^n*V↔a^n*S<V)/\((2*a)^n*S=2^n*V↔a^n*S=V):=by
 have h:(2*a)^n*S=2^n*(a^n*S):=by rw[qY,aM]
 have hp:0<2^n:=bz n;rw[h];exact⟨Nat.mul_lt_mul_left hp,⟨fun h=>Nat.eq_of_mul_eq_mul_left hp h,fun h=>by rw[h]⟩⟩
theorem ik.Dm{v:Nat->Nat}{top n K:Nat}{t:Bool}{m:Int}{P Q V S:Nat}(G:Pp v top)(hn:0<n)(h:ik v top 1 K t m P Q)(hS:0<S)(hA:Alike n P Q V S):ik v top n K t m V S:=by
 obtain⟨c,j,e1,e2,hc,hj⟩:=G.step K h.fin;have a1:=hA (2*c) j (by omega) (by omega);have a2:=hA (2*(c+1)) j (by omega) (by omega);have a3:=hA (2*c+1) j (by omega) (by omega);have g1:2*c*2^j=2*v K:=by rw[e1,aM]
 have g2:2*(c+1)*2^j=2*v (K+1):=by rw[e2,aM]
 have g3:(2*c+1)*2^j=v K+v (K+1):=by rw[e1,e2,<-fF];congr 1;omega
 rw[g1] at a1;rw[g2] at a2;rw[g3] at a3;have b1:=uH n (v K) S V;have b2:=uH n (v (K+1)) S V;rw[b1.1,b1.2] at a1;rw[b2.1,b2.2] at a2;have d1:2*v K*Q=2*(v K*Q):=aM _ _ _;have d2:2*v (K+1)*Q=2*(v (K+1)*Q):=aM _ _ _;rw[d1] at a1;rw[d2] at a2;have h1:=h.one;have h2:=h.low;have h3:=h.Tp;have h4:=h.high;simp only[mG] at h1 h2 h3 h4;generalize v K*Q=A at *;generalize v (K+1)*Q=B at *;generalize (v K+v (K+1))*Q=C at *
 have ge:∀ {x y x' y':Nat},((x<y↔x'<y')/\(x=y↔x'=y'))->(y<x↔y'<x'):=by
  intro x y x' y' ⟨p,q⟩;constructor
  · intro hh;rcases nQ x' y' with k|k|k
    · have:=p.2 k;omega
    · have:=q.2 k;omega
    · exact k
  · intro hh;rcases nQ x y with k|k|k
    · have:=p.1 k;omega
    · have:=q.1 k;omega
    · exact k
 have a2':=ge a2;have a3':=ge a3;refine⟨h.fin,hS,fun ht=>?_,fun ht=>?_,fun ht hlt=>?_,fun ht=>?_⟩
 · have:=h1 ht;exact(a1.2.1 (by omega)).symm
 · exact a1.1.1 (by have:=h2 ht;omega)
 · have hb:P<B:=by have:=a2'.2 hlt;omega
   rcases h3 ht hb with ⟨q,r⟩|⟨q,r⟩|⟨q,r⟩
   · exact .inl ⟨q,a3'.1 r⟩
   · exact .inr (.inl ⟨q,(a3.2.1 r.symm).symm⟩)
   · exact .inr (.inr ⟨q,a3.1.1 r⟩)
 · rcases h4 ht with q | q
   · exact .inl (a2'.1 (by omega))
   · exact .inr q
theorem Qas{P:Prop}(h:P:=by
 exact⟨⟨fun h=>by omega,fun h=>by omega⟩,⟨fun h=>by omega,fun h=>by omega⟩⟩):P:=h
theorem Gs (n R p q V S d:Nat) (hn:0<n) (hS:0<S) (hR:9007199254740992<=R) (hd:d<=1)
 (h0:d=0->V*(2^q)^n=(R*2^p)^n*S) (h1:d=1->(R*2^p)^n*S<V*(2^q)^n/\V*(2^q)^n<((R+1)*2^p)^n*S) :
 Alike n ((2*R+d)*2^p) (2*2^q) V S:=by
 intro c j hc hj;have hq:0<(2^q)^n:=nY (bz q)
 -- both sides times 2^q
 have f1:(c*2^j)^n*S<2^n*V↔(c*2^(j+q))^n*S<2^n*(V*(2^q)^n):=by
  rw[<-nS hq]
  have:(c*2^j)^n*S*(2^q)^n=(c*2^(j+q))^n*S:=by
   rw[yJ,<-qY,aM c,<-aL]
  rw[this,aM]
 have f2:(c*2^j)^n*S=2^n*V↔(c*2^(j+q))^n*S=2^n*(V*(2^q)^n):=by
  have e:(c*2^j)^n*S*(2^q)^n=(c*2^(j+q))^n*S:=by
   rw[yJ,<-qY,aM c,<-aL]
  rw[<-e,<-aM (2^n)];exact⟨fun h=>by rw[h],fun h=>qg hq h⟩
 have f3:c*2^j*(2*2^q)=2*(c*2^(j+q)):=by rw[aL,<-aM c,Nat.mul_left_comm]
 rw[f1,f2,f3];generalize V*(2^q)^n=U at *;have g0:∀ a:Nat,(2*a)^n*S=2^n*(a^n*S):=fun a=>by rw[qY,aM]
 have hp2:0<2^n:=bz n;have hlt2:(c*2^(j+q)<(2*R+d)*2^p↔2*(c*2^(j+q))<2*((2*R+d)*2^p)):=by omega
 have heq2:(c*2^(j+q)=(2*R+d)*2^p↔2*(c*2^(j+q))=2*((2*R+d)*2^p)):=by omega
 rw[<-hlt2,<-heq2]
 -- powers times S
 have L:∀ a b:Nat,(a^n*S<b^n*S↔a<b):=fun a b=>by rw[nS hS,iZ hn]
 have E:∀ a b:Nat,(a^n*S=b^n*S↔a=b):=fun a b=>⟨fun h=>(Dl hn).1 (qg hS h),fun h=>by rw[h]⟩;rcases kU d with hd0|hd1
 · subst hd0;have hU:=h0 rfl;have k1:(2*(R*2^p))^n*S=2^n*U:=by rw[g0,<-hU]
   have k2:(2*R+0)*2^p=2*(R*2^p):=by rw[gW,aM]
   rw[k2,<-k1,L,E];exact⟨Iff.rfl,Iff.rfl⟩
 · obtain rfl:d=1:=by omega
   obtain⟨u1,u2⟩:=h1 rfl;have k1:(2*(R*2^p))^n*S<2^n*U:=by rw[g0];exact yB u1 hp2
   have k2:2^n*U<(2*((R+1)*2^p))^n*S:=by rw[g0];exact yB u2 hp2
   have below:∀ x,x<=2*(R*2^p)->(x<(2*R+1)*2^p↔x^n*S<2^n*U)/\(x=(2*R+1)*2^p↔x^n*S=2^n*U):=by
    intro x hx
    have y1:x<(2*R+1)*2^p:=by
     have:=bz p;rw[fF,aM,iK];omega
    have y2:x^n*S<2^n*U:=by
     refine fu ?_ k1;exact fQ _ (Nat.pow_le_pow_left hx n)
    exact⟨⟨fun _=>y2,fun _=>y1⟩,⟨fun h=>by omega,fun h=>by omega⟩⟩
   have above:∀ x,2*((R+1)*2^p)<=x->(x<(2*R+1)*2^p↔x^n*S<2^n*U)/\(x=(2*R+1)*2^p↔x^n*S=2^n*U):=by
    intro x hx
    have y1:(2*R+1)*2^p<x:=by
     have:=bz p;refine iJ ?_ hx;rw[<-aM];exact fA (by omega) this
    have y2:2^n*U<x^n*S:=by
     refine iJ k2 ?_;exact fQ _ (Nat.pow_le_pow_left hx n)
    exact Qas
   by_cases hjp:p<j+q
   · obtain⟨i,hi⟩:∃ i,j+q=i+1+p:=⟨j+q-1-p,by omega⟩
     have e:c*2^(j+q)=2*((c*2^i)*2^p):=by
      rw[hi,aL,iq,<-aM,<-aM,cZ (c*2^i) 2,aM 2]
     rw[e];rcases kV R (c*2^i) with k|k
     · exact above _ (gX _ (fQ _ k))
     · exact below _ (gX _ (fQ _ k))
   · refine below _ ?_
     calc c*2^(j+q)<=18014398509481984*2^p:=jC hc (fq (by decide) (by omega))
      _<=(2*R)*2^p:=fQ _ (by omega)
      _=2*(R*2^p):=aM _ _ _
theorem LC(n P Q V S:Nat)(hn:0<n)(hP:∀ c j,c<=18014398509481984->j<=2046->c*2^j*Q<2*P)(hV:∀ c j,c<=18014398509481984->j<=2046->(c*2^j)^n*S<2^n*V):Alike n P Q V S:=by
 intro c j hc hj;have h1:=hP c j hc hj;have h2:=hV c j hc hj;exact⟨⟨fun _=>h2,fun _=>h1⟩,⟨fun h=>by omega,fun h=>by omega⟩⟩
theorem Gt(n P Q V S:Nat)(hn:0<n)(hP0:0<P)(hV0:0<V)(hS:0<S)(hP:2*P<Q)(hV:2^n*V<S):Alike n P Q V S:=by
 intro c j hc hj;rcases kU (c*2^j) with h0|h0
 · rw[h0,eG,Nat.zero_pow hn,eG];have:=iE (bz n) hV0;exact⟨⟨fun _=>this,fun _=>by omega⟩,⟨fun h=>by omega,fun h=>by omega⟩⟩
 · have h1:Q<=c*2^j*Q:=yF _ h0;have h2:S<=(c*2^j)^n*S:=yF _ (nY h0);exact Qas
def Tz(x y:Nat):Int:=if x<y then -1 else if y<x then 1 else 0
theorem ik.doc{v:Nat->Nat}{top n K:Nat}{t:Bool}{m:Int}{V S:Nat}(G:Pp v top)(hn:0<n)(h:ik v top n K t m V S)(k:Nat)(hk:k<top)(h1:v k^n*S<=V)(h2:k+1=top\/V<v (k+1)^n*S) :
 k=K/\t=decide (V=v K^n*S)/\(t=false->m=Tz (2^n*V) ((v K+v (K+1))^n*S)):=by
 have L:∀ {a b:Nat},a<b->v a^n*S<v b^n*S:=fun {a b} q=>fA ((iZ hn).2 (G.mono q)) h.pos
 have Le:∀ {a b:Nat},a<=b->v a^n*S<=v b^n*S:=fun {a b} q=>by
  rcases kV a b with k|k
  · exact jf (L k)
  · rw[show a=b by omega];exact aA _
 have hge:v K^n*S<=V:=by
  cases ht:t
  · exact jf (h.low ht)
  · rw[h.one ht];exact aA _
 have hfin:=h.fin
 have hkK:k=K:=by
  rcases nQ k K with q|q|q
  · exfalso;rcases h2 with e|e
    · omega
    · have:=Le (show k+1<=K by omega);omega
  · exact q
  · exfalso;have a1:=Le (show K+1<=k by omega);have a2:=L (show K<K+1 by omega)
    cases t with
    | true=>have:=h.one rfl;omega
    | false =>
      rcases h.high rfl with e|e
      · omega
      · omega
 subst hkK;refine⟨rfl,?_,?_⟩
 · cases t with
   | true=>exact(decide_eq_true (h.one rfl)).symm
   | false=>have:=h.low rfl;exact(decide_eq_false (by omega)).symm
 · intro ht
   by_cases hb:V<v (k+1)^n*S
   · have hm:=h.Tp ht hb;generalize 2^n*V=V2 at *;generalize (v k+v (k+1))^n*S=C at *;unfold Tz;rcases hm with ⟨e,q⟩|⟨e,q⟩|⟨e,q⟩
     · rw[if_pos q,e]
     · rw[if_neg (by omega),if_neg (by omega),e]
     · rw[if_neg (by omega),if_pos q,e]
   · rcases h.high ht with e | ⟨_,e⟩
     · exact absurd e hb
     · have hmid:(v k+v (k+1))^n*S<2^n*V:=by
        have q1:v k+v (k+1)<2*v (k+1):=by have:=G.mono (show k<k+1 by omega);omega
        have q2:(v k+v (k+1))^n*S<(2*v (k+1))^n*S:=fA ((iZ hn).2 q1) h.pos;rw[qY,aM] at q2;have q3:=gX (2^n) (zJ hb);omega
       unfold Tz;rw[if_neg (by omega),if_pos hmid,e]
theorem jS(a b i k i' k':Nat)(h:i'+k=k'+i):a*2^i<b*2^k↔a*2^i'<b*2^k':=by
 rcases Nat.le_total i i' with q|q
 · obtain⟨d,rfl⟩:∃ d,i'=i+d:=⟨i'-i,by omega⟩;obtain rfl:k'=k+d:=by omega
   rw[aL,aL,<-aM,<-aM,nS (bz d)]
 · obtain⟨d,rfl⟩:∃ d,i=i'+d:=⟨i-i',by omega⟩;obtain rfl:k=k'+d:=by omega
   rw[aL,aL,<-aM,<-aM,nS (bz d)]
theorem xc(a b i k i' k':Nat)(h:i'+k=k'+i):a*2^i=b*2^k↔a*2^i'=b*2^k':=by
 have h1:=jS a b i k i' k' h;have h2:=jS b a k i k' i' (by omega);generalize a*2^i=A at *;generalize a*2^i'=A' at *;generalize b*2^k=B at *;generalize b*2^k'=B' at *;constructor
 · intro e;rcases nQ A' B' with q | q | q
   · have:=h1.2 q;omega
   · exact q
   · have:=h2.2 q;omega
 · intro e;rcases nQ A B with q | q | q
   · have:=h1.1 q;omega
   · exact q
   · have:=h2.1 q;omega
def fB(Y size:Nat):Nat:=bl Y+size-262144
def jk(Y size:Nat):Nat:=Y/2^fB Y size
def lJ(X Y size:Nat):Int:=(bl (jk Y size):Int)+size-bl X
def pW(X Y size:Nat):Nat:=if lJ X Y size<0 then X/2^(-lJ X Y size).toNat else X*2^(lJ X Y size).toNat
def mQ(X Y size:Nat):Nat:=pW X Y size/jk Y size
def p8(X Y size:Nat):Nat:=pW X Y size%jk Y size
def Dn(Y size:Nat):Nat:=Y-jk Y size*2^fB Y size
def qG(X Y size:Nat):Nat:=p8 X Y size*2^fB Y size
def oM(X Y size:Nat):Nat:=mQ X Y size*Dn Y size
def dS(X Y size:Nat):Nat:=if qG X Y size<oM X Y size then mQ X Y size-1 else mQ X Y size
def oO(X Y size:Nat):Bool:=decide (qG X Y size=oM X Y size)&&decide (0<=lJ X Y size)
structure Pq (X Y size:Nat):Prop where
 one:oO X Y size=true->X*2^((lJ X Y size).toNat+fB Y size)=dS X Y size*Y*2^(-lJ X Y size).toNat
 low:oO X Y size=false->dS X Y size*Y*2^(-lJ X Y size).toNat<X*2^((lJ X Y size).toNat+fB Y size)
 high:oO X Y size=false->X*2^((lJ X Y size).toNat+fB Y size)<(dS X Y size+1)*Y*2^(-lJ X Y size).toNat
 least:X≠0->2^(size-1)<=dS X Y size+1
 most:dS X Y size<2^(size+1)
 less:qG X Y size<oM X Y size->1<=mQ X Y size
 hig:jk Y size≠0
 low':jk Y size*2^fB Y size<=Y
 YY:Dn Y size<2^fB Y size
 w0:mQ X Y size<2^(size+1)
 Vl:bl (jk Y size)=bl Y-fB Y size
 tO:pW X Y size<2^(bl (jk Y size)+size)
 lef:p8 X Y size<jk Y size
theorem LF{X k:Nat}(h1:2^k<=X)(h2:X<2^(k+1)):bl X=k+1:=by
 have h0:X≠0:=by have:=bz k;omega
 have a:=iF X;have b:=ib X h0;have c:=dG X h0;have d1:=(jD (a:=2) (by decide)).1 (fu h1 a);have d2:=(jD (a:=2) (by decide)).1 (fu b h2);omega
theorem iI(X Y size:Nat)(hX:X=0\/X%2=1)(hY:Y≠0)(hs0:1<=size)(hs:size<=1000)(hbX:bl X<=262144)(hbY:bl Y<=262144):Pq X Y size:=by
 obtain⟨cut,yt⟩:∃ c,fB Y size=c:=⟨_,rfl⟩;obtain⟨H,eH⟩:∃ c,jk Y size=c:=⟨_,rfl⟩;have eH':Y/2^cut=H:=by rw[<-eH,<-yt];rfl
 have hD:0<2^cut:=bz cut;have hYlt:=iF Y;have YZ:=ib Y hY;have hYpos:=dG Y hY;have hcut:cut<bl Y/\(0<cut->cut=bl Y+size-262144):=by unfold fB at yt;omega
 have hH1:2^(bl Y-1-cut)<=H:=by
  rw[<-eH',qX hD,<-aL,show bl Y-1-cut+cut=bl Y-1 by omega];exact YZ
 have hH2:H<2^(bl Y-1-cut+1):=by
  rw[<-eH',qU hD,<-aL,show bl Y-1-cut+1+cut=bl Y by omega];exact hYlt
 have hblH:bl H=bl Y-cut:=by rw[LF hH1 hH2];omega
 have hH0:0<H:=iJ (bz _) hH1;have hHD:H*2^cut<=Y:=by rw[<-eH'];exact Nat.div_mul_le_self _ _
 have hYdm:H*2^cut+Y%2^cut=Y:=by rw[<-eH',cZ];exact qd Y _
 have hYm:=mD Y hD;obtain⟨Lo,eLo⟩:∃ c,Dn Y size=c:=⟨_,rfl⟩;have eLo':Y-H*2^cut=Lo:=by rw[<-eLo];unfold Dn;rw[eH,yt]
 have hLo:Lo<2^cut:=by omega
 have hYs:Y=H*2^cut+Lo:=by omega
 obtain⟨b,eb⟩:∃ b,lJ X Y size=b:=⟨_,rfl⟩;have eb':(bl H:Int)+size-bl X=b:=by rw[<-eb];unfold lJ;rw[eH]
 obtain⟨tO,TA⟩:∃ c,pW X Y size=c:=⟨_,rfl⟩;have xe:(if b<0 then X/2^(-b).toNat else X*2^b.toNat)=tO:=by rw[<-TA];unfold pW;rw[eb]
 obtain⟨W0,Y0⟩:∃ c,mQ X Y size=c:=⟨_,rfl⟩;have WW:tO/H=W0:=by rw[<-Y0];unfold mQ;rw[TA,eH]
 obtain⟨Lf,eLf⟩:∃ c,p8 X Y size=c:=⟨_,rfl⟩;have Y2:tO%H=Lf:=by rw[<-eLf];unfold p8;rw[TA,eH]
 have Vg:H*W0+Lf=tO:=by rw[<-WW,<-Y2];exact qd tO H
 have hLf:Lf<H:=by rw[<-Y2];exact mD _ hH0
 have TB:qG X Y size=Lf*2^cut:=by unfold qG;rw[eLf,yt]
 have TC:oM X Y size=W0*Lo:=by unfold oM;rw[Y0,eLo]
 have hXlt:=iF X
 have Pt:tO<2^(bl H+size):=by
  rw[<-xe]
  split
  · rename_i hb;rw[qU (bz _),<-aL,show bl H+size+(-b).toNat=bl X by omega];exact hXlt
  · rename_i hb;refine iJ (fA hXlt (bz _)) ?_;rw[<-aL];exact Qap
 have Vm:W0<2^(size+1):=by
  rw[<-WW,qU hH0];refine iJ Pt ?_;have:2^(size+1)*2^(bl Y-1-cut)<=2^(size+1)*H:=gX _ hH1;rw[<-aL,show size+1+(bl Y-1-cut)=bl H+size by omega] at this;exact this
 have Y3:X≠0->2^(size-1)<=W0:=by
  intro h0;have Y4:=ib X h0;have hXp:=dG X h0
  have hl:2^(bl H+size-1)<=tO:=by
   rw[<-xe]
   split
   · rename_i hb;rw[qX (bz _),<-aL,show bl H+size-1+(-b).toNat=bl X-1 by omega];exact Y4
   · rename_i hb;refine cB ?_ (fQ _ Y4);rw[<-aL];exact Qap
  rw[<-WW,qX hH0];refine cB ?_ hl;have:2^(size-1)*H<=2^(size-1)*2^(bl H):=gX _ (jf (iF H));rw[<-aL,show size-1+bl H=bl H+size-1 by omega] at this;exact this
 -- whole times the low end is below Y
 have hWL:W0*Lo<Y:=by
  by_cases hc:cut=0
  · subst hc;have:Lo=0:=by simpa using hLo
    rw[this,mE];omega
  · have h1:W0*Lo<2^(size+1)*2^cut:=qW Vm hLo;rw[<-aL] at h1;refine iJ h1 (cB ?_ YZ);exact Qap
 -- what the level is,by whole
 have hsum:tO*2^cut+W0*Lo=W0*Y+Lf*2^cut:=by
  rw[<-Vg,hYs,fF,jM,cZ H W0,aM];omega
 have hLfD:Lf*2^cut<Y:=iJ (fA hLf hD) hHD
 have hless:qG X Y size<oM X Y size->1<=W0:=by
  intro h;rw[TB,TC] at h;rcases kU W0 with q|q
  · rw[q,eG] at h;omega
  · exact q
 have WX:dS X Y size=if Lf*2^cut<W0*Lo then W0-1 else W0:=by unfold dS;rw[TB,TC,Y0]
 have eAt:oO X Y size=(decide (Lf*2^cut=W0*Lo)&&decide (0<=b)):=by unfold oO;rw[TB,TC,eb]
 have key:(oO X Y size=true->X*2^(b.toNat+cut)=dS X Y size*Y*2^(-b).toNat)/\(oO X Y size=false->dS X Y size*Y*2^(-b).toNat<X*2^(b.toNat+cut)/\X*2^(b.toNat+cut)<(dS X Y size+1)*Y*2^(-b).toNat):=by
  rw[eAt,WX]
  by_cases hb:b<0
  · have hc0:cut=0:=by omega
    have hX0:X≠0:=by intro h;rw[h,dD] at eb';omega
    have hXo:X%2=1:=by omega
    rw[if_pos hb] at xe;subst hc0;have hL0:Lo=0:=by simpa using hLo
    have hb1:b.toNat=0:=by omega
    rw[hL0,mE,if_neg (by omega),hb1,gW,fw,eO];rw[hL0,fw,eO,eO,mE] at hsum;rw[decide_eq_false (show ¬ 0<=b by omega),Ck];refine⟨fun h=>(by cases h),fun _=>?_⟩;obtain⟨k,hk⟩:∃ k,(-b).toNat=k:=⟨_,rfl⟩;have hk0:0<k:=by omega
    rw[hk] at xe |-;have hP:=bz k;have hxm:2^k*tO+X%2^k=X:=by rw[<-xe];exact qd X _
    have hxl:=mD X hP
    have hx0:X%2^k≠0:=by
     intro h;rw[h] at hxm;rw[show k=k-1+1 by omega,iq,cZ _ 2,aM] at hxm;omega
    have h1:W0*Y<=tO:=by omega
    have h2:tO+1<=(W0+1)*Y:=by
     rw[fF,iK];rw[fw,eO] at hLfD;omega
    have h3:=fQ (2^k) h1;have h4:=fQ (2^k) h2;rw[fF,iK] at h4;rw[cZ] at hxm;omega
  · rw[if_neg hb] at xe;have hb1:(-b).toNat=0:=by omega
    rw[hb1,fw,eO,eO,decide_eq_true (show 0<=b by omega),Bool.and_true];have e1:X*2^(b.toNat+cut)=tO*2^cut:=by rw[aL,<-aM,xe]
    rw[e1];generalize tO*2^cut=L at *;generalize Lf*2^cut=A at *;generalize hT:W0*Lo=T at *
    by_cases hlt:A<T
    · rw[if_pos hlt];have hW1:1<=W0:=hless (by rw[TB,TC];exact hlt);obtain⟨W,rfl⟩:∃ W,W0=W+1:=⟨W0-1,by omega⟩;rw[kQ];rw[fF,iK] at hsum |-;refine⟨fun h=>?_,fun _=>by omega⟩;have:=of_decide_eq_true h;omega
    · rw[if_neg hlt];rw[fF,iK];refine⟨fun h=>?_,fun h=>?_⟩
      · have:=of_decide_eq_true h;omega
      · have:=of_decide_eq_false h;omega
 refine⟨?_,?_,?_,?_,?_,?_,?_,?_,?_,?_,?_,?_,?_⟩
 · rw[eb,yt];exact key.1
 · rw[eb,yt];exact fun h=>(key.2 h).1
 · rw[eb,yt];exact fun h=>(key.2 h).2
 · intro h;have:=Y3 h;rw[WX];split <;> omega
 · rw[WX];split <;> omega
 · rw[Y0];exact hless
 · rw[eH];omega
 · rw[eH,yt];exact hHD
 · rw[eLo,yt];exact hLo
 · rw[Y0];exact Vm
 · rw[eH,yt];exact hblH
 · rw[TA,eH];exact Pt
 · rw[eLf,eH];exact hLf
theorem Alike.scale{n P Q P' Q' V S:Nat}(h:Alike n P' Q' V S)(hQ:0<Q)(hQ':0<Q')(e:P*Q'=P'*Q):Alike n P Q V S:=by
 intro c j hc hj;obtain⟨h1,h2⟩:=h c j hc hj;rw[<-h1,<-h2];generalize c*2^j=g;have e1:g*Q*Q'=g*Q'*Q:=yJ _ _ _;have e2:2*P*Q'=2*P'*Q:=by rw[aM,e,aM]
 constructor
 · rw[<-nS hQ',e1,e2,nS hQ]
 · constructor
   · intro k;have:=congrArg (·*Q') k;simp only[e1,e2] at this;exact qg hQ this
   · intro k;have:=congrArg (·*Q) k;simp only[<-e1,<-e2] at this;exact qg hQ' this
structure Gu (n R d V S u:Nat) (h:Int):Prop where
 pos:0<S
 one:d=0->V*(2^(-(h+u)).toNat)^n=(R*2^(h+u).toNat)^n*S
 in':d=1->(R*2^(h+u).toNat)^n*S<V*(2^(-(h+u)).toNat)^n/\V*(2^(-(h+u)).toNat)^n<((R+1)*2^(h+u).toNat)^n*S
def eF(h:Int):Int:=min (max (h-1) (-4096)) 4096
theorem uI(n R d V S u:Nat)(h:Int)(hn:0<n)(qO:9007199254740992<=R)(hR2:R<2^100)(hd:d<=1)(hu0:149<=u)(hu1:u<=1074)(hI:Gu n R d V S u h) :
 Alike n ((2*R+d)*2^(eF h+u).toNat) (2^(-(eF h+u)).toNat) V S:=by
 have hS:=hI.pos
 have hlo:(R*2^(h+u).toNat)^n*S<=V*(2^(-(h+u)).toNat)^n:=by
  rcases kU d with q|q
  · rw[hI.one q];exact aA _
  · exact jf (hI.in' (by omega)).1
 have hhi:V*(2^(-(h+u)).toNat)^n<((R+1)*2^(h+u).toNat)^n*S:=by
  rcases kU d with q|q
  · rw[hI.one q];exact fA ((iZ hn).2 (fA (by omega) (bz _))) hS
  · exact(hI.in' (by omega)).2
 by_cases h1:h-1 < -4096
 · have hc:eF h=-4096:=by unfold eF;omega
   rw[hc];have e1:((-4096:Int)+u).toNat=0:=by omega
   have e2:(h+u).toNat=0:=by omega
   rw[e1,fw,eO];rw[e2,fw,eO] at hlo hhi;obtain⟨q,hq⟩:∃ q,(-(h+u)).toNat=q:=⟨_,rfl⟩;have hq1:3000<=q:=by omega
   rw[hq] at hlo hhi;obtain⟨q',hq'⟩:∃ q',(-((-4096:Int)+u)).toNat=q':=⟨_,rfl⟩;have hq'1:3000<=q':=by omega
   rw[hq'];have hbig:∀ k,103<=k->2^103<=2^k:=fun k hk=>fq (by decide) hk;have b1:=hbig q (by omega);have b2:=hbig q' (by omega);have e103:(2:Nat)^103=8*2^100:=by decide
   have hqn:0<(2^q)^n:=nY (bz q);refine Gt n _ _ V S hn (by omega) ?_ hS (by omega) ?_
   · rcases kU V with z | z
     · rw[z,eG] at hlo;have:=iE (nY (n:=n) (show 0<R by omega)) hS;omega
     · exact z
   · have s1:2^n*V*(2^q)^n<(2*(R+1))^n*S:=by
      rw[qY,aM,aM];exact yB hhi (bz n)
     have s2:(2*(R+1))^n*S<=(2^q)^n*S:=fQ _ (Nat.pow_le_pow_left (by omega) n);have s3:2^n*V*(2^q)^n<S*(2^q)^n:=by rw[cZ S];exact iJ s1 s2
     exact(nS hqn).1 s3
 · by_cases h2:4096<h-1
   · have hc:eF h=4096:=by unfold eF;omega
     rw[hc];have e1:(-((4096:Int)+u)).toNat=0:=by omega
     have e2:(-(h+u)).toNat=0:=by omega
     rw[e1,fw];rw[e2,fw,Nat.one_pow,eO] at hlo hhi;obtain⟨A,hA⟩:∃ A,((4096:Int)+u).toNat=A:=⟨_,rfl⟩;obtain⟨p,hp⟩:∃ p,(h+u).toNat=p:=⟨_,rfl⟩;rw[hA];rw[hp] at hlo hhi;have hA1:2101<=A:=by omega
     have hp1:2101<=p:=by omega
     have top:∀ c j k,c<=18014398509481984->j<=2046->2101<=k->c*2^j<2^k:=by
      intro c j k hcc hj hk;have h54:(18014398509481984:Nat)=2^54:=by decide
      calc c*2^j<=2^54*2^j:=fQ _ (by omega)
       _=2^(54+j):=(aL _ _ _).symm
       _<2^k:=Nat.pow_lt_pow_right (by decide) (by omega)
     refine LC n _ _ V S hn ?_ ?_
     · intro c j hcc hj;have t:=top c j A hcc hj hA1;have:2^A<=(2*R+d)*2^A:=yF _ (by omega);rw[eO];omega
     · intro c j hcc hj;have t:=top c j p hcc hj hp1;have t2:2^p<=R*2^p:=yF _ (by omega);have t3:(c*2^j)^n*S<(R*2^p)^n*S:=fA ((iZ hn).2 (by omega)) hS;have t4:V<=2^n*V:=yF _ (bz n);omega
   · have hc:eF h=h-1:=by unfold eF;omega
     rw[hc];have sp:=Gs n R (h+u).toNat (-(h+u)).toNat V S d hn hS qO hd hI.one hI.in';refine sp.scale (bz _) (iE (by decide) (bz _)) ?_
     have e:∀ a b c k:Nat,a+1+b=c+k->(2*R+d)*2^a*(2*2^b)=(2*R+d)*2^c*2^k:=by
      intro a b c k hh;rw[aM,aM,<-aL,<-hh,aL,iq,aM (2^a)]
     exact e _ _ _ _ (by omega)
def iQ(X:Nat)(e f:Int)(u n:Nat):Nat:=X*2^(e-f+(n*u:Nat)).toNat
def gQ(Y:Nat)(e f:Int)(u n:Nat):Nat:=Y*2^(-(e-f+(n*u:Nat))).toNat
theorem Pv(X Y:Nat)(e f:Int)(u:Nat)(hY:Y≠0)(hD:Pq X Y 64) :
 Gu 1 (dS X Y 64) (if oO X Y 64 then 0 else 1) (iQ X e f u 1) (gQ Y e f u 1) u (e-f-lJ X Y 64-fB Y 64):=by
 have h1:=hD.one;have h2:=hD.low;have h3:=hD.high;generalize dS X Y 64=W at *;generalize lJ X Y 64=b at *;generalize fB Y 64=cut at *;generalize oO X Y 64=t at *;have hY0:0<Y:=by omega
 have sides:∀ R:Nat,(R*2^(e-f-b-cut+u).toNat)^1*gQ Y e f u 1=R*Y*2^((e-f-b-cut+u).toNat+(-(e-f+(1*u:Nat))).toNat):=by
  intro R;unfold gQ;rw[mG,aL,aM R,aM R,<-aM (2^_) Y,cZ (2^_) Y,aM Y]
 have left:iQ X e f u 1*(2^(-(e-f-b-cut+u)).toNat)^1=X*2^((e-f+(1*u:Nat)).toNat+(-(e-f-b-cut+u)).toNat):=by
  unfold iQ;rw[mG,aL,aM]
 refine⟨iE hY0 (bz _),fun hd=>?_,fun hd=>?_⟩
 · have ht:t=true:=by cases t with
    | true=>rfl
    | false=>simp at hd
   rw[left,sides];exact(xc X (W*Y) _ _ _ _ (by omega)).1 (h1 ht)
 · have ht:t=false:=by cases t with
    | true=>simp at hd
    | false=>rfl
   rw[left,sides,sides];exact⟨(jS (W*Y) X _ _ _ _ (by omega)).1 (h2 ht),(jS X ((W+1)*Y) _ _ _ _ (by omega)).1 (h3 ht)⟩
theorem Y5(W Y k:Nat):W*Y*2^(k+1)=2*W*Y*2^k:=by
 rw[iq,cZ (2^k) 2,<-aM,cZ (W*Y) 2,<-aM]
def Pw(W:Nat)(x:Int):Nat:=if x%2=0 then W else W/2
def vU(x:Int):Int:=if x%2=0 then x else x+1
def Vn(W:Nat)(x:Int)(t:Bool):Bool:=if x%2=0 then t else t&&decide (W%2=0)
theorem LH(X Y:Nat)(e f:Int)(u R:Nat)(hY:Y≠0)(hD:Pq X Y 129)(x:Int)(hx:x=e-f-lJ X Y 129-fB Y 129)(hR:nz (Pw (dS X Y 129) x) R) :
 Gu 2 R (if Vn (dS X Y 129) x (oO X Y 129)&&decide (Pw (dS X Y 129) x=R*R) then 0 else 1) (iQ X e f u 2) (gQ Y e f u 2) u (vU x/2):=by
 have h1:=hD.one;have h2:=hD.low;have h3:=hD.high;generalize dS X Y 129=W at *;generalize lJ X Y 129=b at *;generalize fB Y 129=cut at *;generalize oO X Y 129=t at *;have hY0:0<Y:=by omega
 -- the halved span
 obtain⟨W',hW'⟩:∃ W',Pw W x=W':=⟨_,rfl⟩;obtain⟨t',ht'⟩:∃ t',Vn W x t=t':=⟨_,rfl⟩;obtain⟨hh,ehh⟩:∃ hh,vU x/2=hh:=⟨_,rfl⟩;rw[hW'] at hR;rw[hW',ht',ehh]
 -- V (2^q)^2 against W' (2^p)^2 S,all as powers
 have sides:∀ R:Nat,R*((2^(hh+u).toNat)^2)*gQ Y e f u 2=R*Y*2^(2*(hh+u).toNat+(-(e-f+(2*u:Nat))).toNat):=by
  intro R;unfold gQ;rw[<-kR,cZ (hh+u).toNat 2,aL,aM R,aM R,<-aM (2^_) Y,cZ (2^_) Y,aM Y]
 have left:iQ X e f u 2*(2^(-(hh+u)).toNat)^2=X*2^((e-f+(2*u:Nat)).toNat+2*(-(hh+u)).toNat):=by
  unfold iQ;rw[<-kR,cZ (-(hh+u)).toNat 2,aL,aM]
 have base:(t'=true->iQ X e f u 2*(2^(-(hh+u)).toNat)^2=W'*((2^(hh+u).toNat)^2)*gQ Y e f u 2) /\
  (t'=false->W'*((2^(hh+u).toNat)^2)*gQ Y e f u 2<iQ X e f u 2*(2^(-(hh+u)).toNat)^2/\iQ X e f u 2*(2^(-(hh+u)).toNat)^2<(W'+1)*((2^(hh+u).toNat)^2)*gQ Y e f u 2):=by
  rw[left,sides,sides]
  by_cases hev:x%2=0
  · have q1:W=W':=by rw[<-hW'];unfold Pw;rw[if_pos hev]
    have q2:t=t':=by rw[<-ht'];unfold Vn;rw[if_pos hev]
    have q3:2*hh=x:=by rw[<-ehh];unfold vU;rw[if_pos hev];omega
    subst q1 q2;refine⟨fun ht=>(xc X (W*Y) _ _ _ _ (by omega)).1 (h1 ht),fun ht=>⟨(jS (W*Y) X _ _ _ _ (by omega)).1 (h2 ht),(jS X ((W+1)*Y) _ _ _ _ (by omega)).1 (h3 ht)⟩⟩
  · have q1:W/2=W':=by rw[<-hW'];unfold Pw;rw[if_neg hev]
    have q2:(t&&decide (W%2=0))=t':=by rw[<-ht'];unfold Vn;rw[if_neg hev]
    have q3:2*hh=x+1:=by rw[<-ehh];unfold vU;rw[if_neg hev];omega
    have two:∀ R,R*Y*2^(2*(hh+u).toNat+(-(e-f+(2*u:Nat))).toNat)=R*Y*2^(2*(hh+u).toNat+(-(e-f+(2*u:Nat))).toNat):=fun R=>rfl;refine⟨fun ht=>?_,fun ht=>?_⟩
    · rw[<-q2] at ht;simp only[oo,decide_eq_true_eq] at ht;have hw:W=2*W':=by omega
      have b1:=h1 ht.1;rw[hw,show 2*W'*Y*2^(-b).toNat=W'*Y*2^((-b).toNat+1) from(Y5 _ _ _).symm] at b1;exact(xc X (W'*Y) _ _ _ _ (by omega)).1 b1
    · have lo:W'*Y*2^((-b).toNat+1)<=W*Y*2^(-b).toNat:=by
       rw[show W'*Y*2^((-b).toNat+1)=2*W'*Y*2^(-b).toNat from Y5 _ _ _];exact fQ _ (fQ _ (by omega))
      have hi:(W+1)*Y*2^(-b).toNat<=(W'+1)*Y*2^((-b).toNat+1):=by
       rw[show(W'+1)*Y*2^((-b).toNat+1)=2*(W'+1)*Y*2^(-b).toNat from Y5 _ _ _];exact fQ _ (fQ _ (by omega))
      have key:W'*Y*2^((-b).toNat+1)<X*2^(b.toNat+cut)/\X*2^(b.toNat+cut)<(W'+1)*Y*2^((-b).toNat+1):=by
       cases ht2:t with
       | false=>have k1:=h2 ht2;have k2:=h3 ht2;omega
       | true =>
         have k1:=h1 ht2;rw[ht2] at q2
         have hodd:W%2=1:=by
          rw[<-q2] at ht;simp at ht;omega
         have st1:W'*Y*2^((-b).toNat+1)<W*Y*2^(-b).toNat:=by
          rw[show W'*Y*2^((-b).toNat+1)=2*W'*Y*2^(-b).toNat from Y5 _ _ _];exact fA (fA (by omega) hY0) (bz _)
         have st2:W*Y*2^(-b).toNat<(W'+1)*Y*2^((-b).toNat+1):=by
          rw[show(W'+1)*Y*2^((-b).toNat+1)=2*(W'+1)*Y*2^(-b).toNat from Y5 _ _ _];exact fA (fA (by omega) hY0) (bz _)
         omega
      exact⟨(jS (W'*Y) X _ _ _ _ (by omega)).1 key.1,(jS X ((W'+1)*Y) _ _ _ _ (by omega)).1 key.2⟩
 have Vo:0<gQ Y e f u 2:=iE hY0 (bz _);obtain⟨qO,hR2⟩:=hR;have hpp:0<(2^(hh+u).toNat)^2:=nY (bz _)
 have sq:∀ a:Nat,(a*2^(hh+u).toNat)^2*gQ Y e f u 2=a*a*((2^(hh+u).toNat)^2)*gQ Y e f u 2:=by
  intro a;rw[qY,Nat.pow_two a]
 have mono:∀ a b:Nat,a<=b->a*((2^(hh+u).toNat)^2)*gQ Y e f u 2<=b*((2^(hh+u).toNat)^2)*gQ Y e f u 2:=fun a b q=>fQ _ (fQ _ q);have Vp:∀ a b:Nat,a<b->a*((2^(hh+u).toNat)^2)*gQ Y e f u 2<b*((2^(hh+u).toNat)^2)*gQ Y e f u 2:=fun a b q=>fA (fA q hpp) Vo;refine⟨Vo,fun hd=>?_,fun hd=>?_⟩
 · have hc:t'=true/\W'=R*R:=by
    by_cases q:(t'&&decide (W'=R*R))=true
    · simpa using q
    · rw[if_neg q] at hd;omega
   rw[sq,<-hc.2];exact base.1 hc.1
 · have hc:¬ (t'=true/\W'=R*R):=by
    intro q;rw[if_pos (by simp[q.1,q.2])] at hd;omega
   rw[sq,sq]
   cases ht2:t' with
   | false =>
     obtain⟨k1,k2⟩:=base.2 ht2;have k3:=mono (R*R) W' qO;have k4:=mono (W'+1) ((R+1)*(R+1)) hR2;omega
   | true =>
     have k1:=base.1 ht2
     have hne:R*R<W':=by
      rcases kV (R*R) W' with q|q
      · exact q
      · exact absurd ⟨ht2,by omega⟩ hc
     rw[k1];exact⟨Vp _ _ hne,Vp _ _ hR2⟩
theorem I9{w:World}{a b:Option Addr}{n c m d:Nat}{xs ys:List Nat}{V U:Nat}{z:Int}(h1:Arg w a n c xs)(h2:Arg w b m d ys)(e:oG (val xs) (val ys)=(V,U,z)) :
 As 163 #[.slice a n c,.slice b m d] w fun r w'=>∃ v u,r=.returned (.tuple #[v,u,.int .i64 z])/\Nt w.heap.size w' v V/\Nt w.heap.size w' u U/\An w w' :=
 (RF xs ys a b n c m d w.heap.size w h1.len h2.len h1.cap h2.cap (by have:=h1.big;omega) (by have:=h2.big;omega) h1.wf h2.wf h1.rd h2.rd (aA _)).mono
  fun r w' ⟨⟨v,u,h3,h4,h5,h6⟩,hb⟩=>by rw[e] at h3 h4 h5;exact⟨v,u,h3,h4,h5,hb⟩
theorem Px{w:World}{a:Option Addr}{n c:Nat}{xs:List Nat}{q l:Nat}(h1:Arg w a n c xs)(hq:nz (val xs) q)(hl:val xs-q*q=l) :
 As 146 #[.slice a n c] w fun r w'=>∃ v u,r=.returned (.tuple #[v,u])/\Nt w.heap.size w' v q/\Nt w.heap.size w' u l/\An w w' :=
 (NF xs a n c w.heap.size w h1.len h1.cap h1.big h1.wf h1.rd (aA _)).mono
  fun r w' ⟨q',hq',⟨v,u,h3,h4,h5,h6⟩,hb⟩=>by
   have:=hq'.unique hq;subst this;rw[hl] at h5;exact⟨v,u,h3,h4,h5,hb⟩
theorem nG{w:World}{a:Option Addr}{n c:Nat}{xs:List Nat}{k:Nat}(h1:Arg w a n c xs)(e:bl (val xs)=k) :
 At 86 #[.slice a n c] w (.int .i64 (k:Nat)):=by
 subst e;exact(pg xs a n c w.heap.size w h1.len h1.cap (by have:=h1.big;omega) h1.wf h1.rd).mono fun r w' ⟨h,e⟩=>⟨h,by rw[e];exact aB _ _⟩
theorem pK{X V:Nat}{k:Nat}(hX:¬ LG X)(hb:X=0\/bl X+k<=262144)(e:X*2^k=V):aV X (k:Int)=(V,0):=by
 unfold aV;rw[if_neg hX]
 by_cases h0:X=0
 · rw[if_pos h0,<-e,h0,eG]
 · rw[if_neg h0,if_neg (by omega),if_neg (by omega)];simp[e]
theorem tQ{X V:Nat}{k:Nat}(hX:¬ LG X)(e:X/2^k=V):aV X (-(k:Int))=(V,0):=by
 unfold aV;rw[if_neg hX]
 by_cases h0:X=0
 · rw[if_pos h0,<-e,h0,Nat.zero_div]
 · rw[if_neg h0]
   by_cases hk:k=0
   · subst hk;rw[if_neg (by simp),if_neg (by have:=mt (uE X).2 hX;omega)];simp at e;simp[e]
   · rw[if_pos (by omega)];simp[e]
theorem TE{X Y:Nat}(h1:¬ LG X)(h2:¬ LG Y)(h:Y≠0){V U:Nat}(e1:X/Y=V)(e2:X%Y=U):oG X Y=(V,U,0):=by
 unfold oG;rw[if_neg (by simp[h1,h2]),if_neg h,e1,e2]
theorem Gv {w:World}{a b q h:Option Addr}{ca cb cq ch:Nat}(W0 Lf Y H cut Bk Lo Tk' Hs:Nat) (z:Int) (AW:Arg w a (ws W0).length ca (ws W0)) (AL:Arg w b (ws Lf).length cb (ws Lf)) (AY:Arg w q (ws Y).length cq (ws Y)) (AH:Arg w h (ws H).length ch (ws H))
 (hc:cut<=4611686018427387904) (e1:aV H (cut:Int)=(Bk,0)) (e2:oF Y Bk=(Lo,0)) (e3:j6 W0 Lo=(Tk',0)) (e4:aV Lf (cut:Int)=(Hs,0)) (e5:bu Hs Tk'=z)
 (l1:(ws Bk).length<=8192) (l2:(ws Lo).length<=8192) (l3:(ws Tk').length<=8192) (l4:(ws Hs).length<=8192) :
 At 164 #[.slice a (ws W0).length ca,.slice b (ws Lf).length cb,.slice q (ws Y).length cq,.slice h (ws H).length ch,.int .i64 (cut:Nat)] w (.int .i64 z):=by
 rw[<-aj H] at e1;rw[<-aj Y,<-aj Bk] at e2;rw[<-aj W0,<-aj Lo] at e3;rw[<-aj Lf] at e4;rw[<-aj Hs,<-aj Tk'] at e5;have E:=(dJ e1 e2 e3 e4 e5);clear e1 e2 e3 e4 e5;have hbel:=aB w.heap.size w;have S0:=(dJ hbel AW AL AY AH);clear hbel;clear AW AL AY AH;go_enter Tryz.func164,Tryz.ntmps164;obtain⟨au,AW,AL,AY,AH⟩:=S0.o;have HC:=hid (fo (cut:Int) AH E.o.1 (by omega) (by omega));clear au AW AL AY AH;go_wp2_with fail;refine HC.o.mono ?_;rintro r u1 ⟨v,rfl,hN,hb⟩;obtain⟨a1,c1,rfl,_⟩:=hN.arg (by omega);clear HC;obtain⟨au,AW,AL,AY,AH⟩:=S0.o;have hbn:=au.trans (hb.mono au.size);have S1:=iC hbn (AW.below hb) (AL.below hb) (AY.below hb) (AH.below hb) (hN.mono au.size);clear au AW AL AY AH;clear hb hbn S0;clear hN;obtain⟨au,AW,AL,AY,AH,NB⟩:=S1.o;have HC:=hid (vP AY (NB.aR (by omega)).2 E.o.2.1);clear au AW AL AY AH NB;go_wp2_with fail;refine HC.o.mono ?_;rintro r u2 ⟨v,rfl,hN,hb⟩;obtain⟨a2,c2,rfl,_⟩:=hN.arg (by omega);clear HC;obtain⟨au,AW,AL,AY,AH,NB⟩:=S1.o;have hbn:=au.trans (hb.mono au.size);have S2:=jY hbn (AW.below hb) (AL.below hb) (AY.below hb) (AH.below hb) (NB.below hb) (hN.mono au.size);clear au AW AL AY AH NB;clear hb hbn S1;clear hN;obtain⟨au,AW,AL,AY,AH,NB,NL⟩:=S2.o;have HC:=hid (RH AW (NL.aR (by omega)).2 E.o.r2.1);clear au AW AL AY AH NB NL;go_wp2_with fail;refine HC.o.mono ?_;rintro r u3 ⟨v,rfl,hN,hb⟩;obtain⟨a3,c3,rfl,_⟩:=hN.arg (by omega);clear HC;obtain⟨au,AW,AL,AY,AH,NB,NL⟩:=S2.o;have hbn:=au.trans (hb.mono au.size);have S3:=qb hbn (AW.below hb) (AL.below hb) (AY.below hb) (AH.below hb) (NB.below hb) (NL.below hb) (hN.mono au.size);clear au AW AL AY AH NB NL;clear hb hbn S2;clear hN;obtain⟨au,AW,AL,AY,AH,NB,NL,NT⟩:=S3.o;have HC:=hid (fo (cut:Int) AL E.o.r3.1 (by omega) (by omega));clear au AW AL AY AH NB NL NT;go_wp2_with fail;refine HC.o.mono ?_;rintro r u4 ⟨v,rfl,hN,hb⟩;obtain⟨a4,c4,rfl,_⟩:=hN.arg (by omega);clear HC;obtain⟨au,AW,AL,AY,AH,NB,NL,NT⟩:=S3.o;have hbn:=au.trans (hb.mono au.size);have S4:=Rj hbn (AW.below hb) (AL.below hb) (AY.below hb) (AH.below hb) (NB.below hb) (NL.below hb) (NT.below hb) (hN.mono au.size);clear au AW AL AY AH NB NL NT;clear hb hbn S3;clear hN;obtain⟨au,AW,AL,AY,AH,NB,NL,NT,NS⟩:=S4.o;have HC:=hid (Aj (NS.aR (by omega)).2 (NT.aR (by omega)).2 z E.o.r4);clear au AW AL AY AH NB NL NT NS;go_wp2_with fail;refine HC.o.mono ?_;rintro r u5 ⟨rfl,hb⟩;clear HC;obtain⟨au,AW,AL,AY,AH,NB,NL,NT,NS⟩:=S4.o;have hbn:=au.trans (hb.mono au.size);have S5:=Rj hbn (AW.below hb) (AL.below hb) (AY.below hb) (AH.below hb) (NB.below hb) (NL.below hb) (NT.below hb) (NS.below hb);clear au AW AL AY AH NB NL NT NS;clear hb hbn S4;have hbW:=hid S5.o.1;clear S5 E;go_wp2;go_ret;exact⟨rfl,hbW.o⟩
def Tk(w:World)(g T:Nat)(x y z:Value):Prop:=w.heap[g]?=some (.cells #[x,y,z] T (0,0))
theorem Tk.lt{w:World}{g T:Nat}{x y z:Value}(h:Tk w g T x y z):g<w.heap.size:=(fV.1 h).1
theorem Tk.below{w w':World}{g T:Nat}{x y z:Value}(h:Tk w g T x y z)(hb:An w w'):Tk w' g T x y z:=by
 unfold Tk;exact Qac
theorem Tk.alloc{w:World}{g T:Nat}{x y z:Value}(h:Tk w g T x y z)(o:Obj):Tk (w.alloc o) g T x y z:=h.below (ae w o)
theorem Tk.new(w:World)(T:Nat)(x y z:Value):Tk (w.alloc (.cells #[x,y,z] T)) w.heap.size T x y z:=gZ _ _
theorem Tk.facts{w:World}{g T:Nat}{x y z:Value}(h:Tk w g T x y z) :
 w.cell? ⟨g,0,none⟩=some x/\w.cell? ⟨g,1,none⟩=some y/\w.cell? ⟨g,2,none⟩=some z/\w.frozen? ⟨g,0,none⟩=false/\w.frozen? ⟨g,1,none⟩=false/\w.frozen? ⟨g,2,none⟩=false:=by
 unfold Tk at h;simp[World.cell?,World.frozen?,h]
theorem Tk.set{w:World}{g T:Nat}{x y z:Value}(h:Tk w g T x y z)(a b c:Value):Tk (dh w g a b c) g T a b c:=by
 unfold Tk at h |-;simp[dh,World.setCell,kP,h]
theorem Tk.but{w w':World}{g g' T:Nat}{x y z:Value}(h:Tk w g T x y z)(hb:But g' w w')(hg:g≠g'):Tk w' g T x y z:=by
 unfold Tk;rw[hb.block g h.lt hg];exact h
def Rq(w:World)(g:Nat)(n:Bool)(v:Value)(e:Int)(m:Bool)(u:Value)(f:Int):Prop:=w.heap[g]?=some (.cells #[.bool n,v,.int .i64 e,.bool m,u,.int .i64 f] 73 (0,0))
theorem Rq.lt{w:World}{g:Nat}{n:Bool}{v:Value}{e:Int}{m:Bool}{u:Value}{f:Int}(h:Rq w g n v e m u f):g<w.heap.size:=(fV.1 h).1
theorem Rq.below{w w':World}{g:Nat}{n:Bool}{v:Value}{e:Int}{m:Bool}{u:Value}{f:Int}(h:Rq w g n v e m u f)(hb:An w w'):Rq w' g n v e m u f:=by
 unfold Rq;exact Qac
theorem Rq.alloc{w:World}{g:Nat}{n:Bool}{v:Value}{e:Int}{m:Bool}{u:Value}{f:Int}(h:Rq w g n v e m u f)(o:Obj):Rq (w.alloc o) g n v e m u f:=h.below (ae w o)
theorem Rq.new(w:World)(n:Bool)(v:Value)(e:Int)(m:Bool)(u:Value)(f:Int):Rq (w.alloc (.cells #[.bool n,v,.int .i64 e,.bool m,u,.int .i64 f] 73)) w.heap.size n v e m u f:=gZ _ _
theorem Rq.facts{w:World}{g:Nat}{n:Bool}{v:Value}{e:Int}{m:Bool}{u:Value}{f:Int}(h:Rq w g n v e m u f) :
 w.cell? ⟨g,0,none⟩=some (.bool n)/\w.cell? ⟨g,1,none⟩=some v/\w.cell? ⟨g,2,none⟩=some (.int .i64 e)/\w.cell? ⟨g,3,none⟩=some (.bool m)/\w.cell? ⟨g,4,none⟩=some u/\w.cell? ⟨g,5,none⟩=some (.int .i64 f):=by
 unfold Rq at h;simp[World.cell?,h]
theorem Rq.frz{w:World}{g:Nat}{n:Bool}{v:Value}{e:Int}{m:Bool}{u:Value}{f:Int}(h:Rq w g n v e m u f) :
 w.frozen? ⟨g,0,none⟩=false/\w.frozen? ⟨g,1,none⟩=false/\w.frozen? ⟨g,2,none⟩=false/\w.frozen? ⟨g,3,none⟩=false/\w.frozen? ⟨g,4,none⟩=false/\w.frozen? ⟨g,5,none⟩=false:=by
 unfold Rq at h;simp[World.frozen?,h]
abbrev Y6(w:World)(g:Nat)(a b c d e f:Value):World:=(((((w.setCell ⟨g,0,none⟩ a).setCell ⟨g,1,none⟩ b).setCell ⟨g,2,none⟩ c).setCell ⟨g,3,none⟩ d).setCell ⟨g,4,none⟩ e).setCell ⟨g,5,none⟩ f
theorem Ja(g:Nat)(w:World)(a b c d e f:Value):But g w (Y6 w g a b c d e f):=((((((But.refl g w).set _ _).set _ _).set _ _).set _ _).set _ _).set _ _
theorem Rq.set{w:World}{g:Nat}{n:Bool}{v:Value}{e:Int}{m:Bool}{u:Value}{f:Int}(h:Rq w g n v e m u f)(n':Bool)(v':Value)(e':Int)(m':Bool)(u':Value)(f':Int) :
 Rq (Y6 w g (.bool n') v' (.int .i64 e') (.bool m') u' (.int .i64 f')) g n' v' e' m' u' f':=by
 unfold Rq at h |-;simp[Y6,World.setCell,kP,h]
theorem Nt.off{lo:Nat}{w w':World}{v:Value}{X g:Nat}(h:Nt lo w v X)(hb:But g w w')(hg:v.ownBlock≠Option.some g):Nt lo w' v X:=by
 refine⟨h.1,?_⟩;rcases h.2 with hn|⟨g',cap,cur,rfl,hlo,hg',rest⟩
 · exact .inl hn
 · refine .inr ⟨g',cap,cur,rfl,hlo,?_,rest⟩;rw[hb.block g' (fV.1 hg').1 (by intro e;subst e;exact hg (by simp[Value.ownBlock]))];exact hg'
theorem Nt.fJ{lo:Nat}{w:World}{v:Value}{X g T:Nat}{C:Array Value}{fz:Nat×Nat}(h:Nt lo w v X)(hT:T≠91)(hg:w.heap[g]?=Option.some (.cells C T fz)):v.ownBlock≠Option.some g:=by
 intro e;rcases h.2 with ⟨rfl,_⟩|⟨g',cap,cur,rfl,_,h2,_⟩
 · simp[Value.ownBlock] at e
 · simp[Value.ownBlock] at e;subst e;rw[hg] at h2;simp at h2;exact hT h2.2.1
theorem Nt.mR{lo:Nat}{w:World}{v:Value}{X g T:Nat}{x y z:Value}(h:Nt lo w v X)(D:Tk w g T x y z)(hT:T≠91)(a b c:Value):Nt lo (dh w g a b c) v X:=h.off (lh g w a b c) (h.fJ hT D)
theorem Nt.Y7{lo:Nat}{w:World}{v:Value}{X g:Nat}{n:Bool}{p:Value}{e:Int}{m:Bool}{u:Value}{f:Int}(h:Nt lo w v X)(D:Rq w g n p e m u f)(a b c d q r:Value):Nt lo (Y6 w g a b c d q r) v X:=h.off (Ja g w a b c d q r) (h.fJ (by decide) D)
theorem cK{B g:Nat}{a w:World}(h:Below B a w)(hB:B<=w.heap.size)(hg:B<=g)(x y z:Value):Below B a (dh w g x y z):=But.below h (lh g w x y z) hB hg
theorem tT{B g:Nat}{a w:World}(h:Below B a w)(hB:B<=w.heap.size)(hg:B<=g)(x y z p q r:Value):Below B a (Y6 w g x y z p q r):=But.below h (Ja g w x y z p q r) hB hg
def Ap(v u:Value):Prop:=∀ g,v.ownBlock=some g->u.ownBlock≠some g
theorem Nt.blk{lo:Nat}{w:World}{v:Value}{X g:Nat}(h:Nt lo w v X)(hg:v.ownBlock=Option.some g):lo<=g/\g<w.heap.size:=by
 rcases h.2 with ⟨rfl,_⟩|⟨g',cap,cur,rfl,h1,h2,_⟩
 · simp[Value.ownBlock] at hg
 · simp[Value.ownBlock] at hg;subst hg;exact⟨h1,(fV.1 h2).1⟩
theorem Nt.ap{lo:Nat}{w w':World}{v u:Value}{X Y:Nat}(h:Nt lo w v X)(k:Nt w.heap.size w' u Y):Ap v u:=by
 intro g hg hu;have:=(h.blk hg).2;have:=(k.blk hu).1;omega
theorem XT:(ws 0).length=0:=by rw[aY];rfl
end
end Go.Proofs.YteginbngplldaaaGreatDoor
