import Derived.Test.YteginbngplldaaaGreatDoorD32cx
import Derived.Test.YteginbngplldaaaGreatDoorW40x
import Derived.Test.YteginbngplldaaaGreatDoorD19x
import Derived.Deep.RegionWith
import Derived.Deep.RegionHeld3
import Derived.Deep.CutRange
import Derived.Test.YteginbngplldaaaGreatDoorW17x
import Derived.Test.YteginbngplldaaaGreatDoorD8x
import Derived.Test.YteginbngplldaaaGreatDoorM1x
import Derived.Test.YteginbngplldaaaGreatDoorW7x
import Derived.Laws.IdiomStrings
import Derived.Test.YteginbngplldaaaGreatDoorD15x
set_option linter.unusedVariables false
set_option linter.unusedSimpArgs false
set_option maxHeartbeats 16000000
set_option maxRecDepth 20000
namespace Go.Proofs.YteginbngplldaaaGreatDoor
namespace J
end J
section
open Go.RowKit
theorem Gi {w:World}{a:Option Addr}{n c:Nat}{xs:List Nat}(h1:Arg w a n c xs) (ng:Bool) (e:Int) :
 Calls Tryz.prog 184 #[.agg #[.bool ng,.slice a n c,.int .i64 e]] w fun r w'=>r=.returned (.int .i64 (rF ng (val xs)))/\Below w.heap.size w w':=by
 have hB:Below w.heap.size w (w.alloc (.cells #[.bool ng,.slice a n c,.int .i64 e] 37)):=ae w _;have A1:=h1.below hB;have hbig:=h1.big;have H1:=hid (om xs a n c _ _ A1.len (by omega) A1.wf A1.rd);obtain ⟨X,hX⟩:∃ X,val xs=X:=⟨_,rfl⟩;rw [hX] at H1 |-;have SB:=ak hB;clear hB A1 h1 hX hbig;unfold rF
 by_cases h0:X=0
 · rw [if_pos h0];have hb:bl X=0:=by rw [h0,dA]
   rw [hb] at H1;clear h0 hb;go_enter Tryz.func184,Tryz.ntmps184;exact qe
 · rw [if_neg h0];obtain ⟨b,hb⟩:∃ b,bl X=b:=⟨_,rfl⟩;have hb0:((b:Int)==0)=false:=by have:=dD X h0;simp;omega
   rw [hb] at H1;clear h0 hb
   cases ng
   · simp only [eY,if_false];go_enter Tryz.func184,Tryz.ntmps184;exact qe
   · simp only [if_true];go_enter Tryz.func184,Tryz.ntmps184;exact qe
theorem K8 {w:World}{a:Option Addr}{l c:Nat}{xs:List Nat}{X:Nat}(k:Nat) (h1:Arg w a l c xs) (hX:val xs=X) (hl:l<=2000000) (hk:k<=64000000) :
 Calls Tryz.prog 91 #[.slice a l c,.int .i64 (k:Nat)] w fun r w'=>∃ v,r=.returned v/\Nt w.heap.size w' v (X*2^k)/\Below w.heap.size w w':=by
 obtain ⟨q,hq⟩:=af (k/32);obtain ⟨s,hs⟩:=af (k%32);have e1:(k:Int)/32=(q:Int):=by omega
 have e2:(k:Int)%32=(s:Int):=by omega
 have hqb:q<=2000000:=by omega
 have NF:s<32:=by omega
 obtain ⟨W1,hW1⟩:=af (w.alloc (.cells (madeCells #[.int .u32 0] q) 91));have mV:Own W1 w.heap.size (List.replicate q 0):=by rw [hW1];exact Own.made w q
 have hB1:Below w.heap.size w W1:=by rw [hW1];exact (aB _ _).alloc (aA _) _
 have hmk:=dG (q:Int) q rfl (by omega) w;rw [<-hW1] at hmk;have hR:=rz mV (by simp;omega);simp only [Cf] at hR;have A1:=h1.below hB1;obtain ⟨v',w2,hap,hown,hgrow⟩:=j6 W1 w.heap.size _ q (List.replicate q 0) xs a l c W1.heap.size 35 hR A1.len A1.rd A1.nil (by omega) hB1.size;have hB2:Below w.heap.size w w2:=hB1.grown hgrow hB1.size (fun k hk=>by simp [Value.ownBlock] at hk;omega);obtain ⟨a2,c2,rfl,hc2,hl2,uy,CK⟩:=Rw.words hown;have AO:Arg w2 a2 (q+l) c2 (List.replicate q 0++xs):=⟨hl2,hc2,by omega,(Wf.zeros q).append h1.wf,CK,uy⟩
 have hval:val (List.replicate q 0++xs)=X*pw q:=by
  rw [val_append,oH,hX,Cf,dL,cB]
 have hpw:pw q*2^s=2^k:=by
  exact Qax
 have hps:=sZ s NF;obtain ⟨p,hp⟩:=af (2^s)
 have e3:(2:Int)^s=(p:Int):=by
  exact xF
 have hpl:p<4294967296:=by omega
 have T1:=hid (kR (V:=X*2^k) (AO.below (ae w2 _)) (q9 w2 p (by omega)) (by omega) (by rw [hval];simp only [val];rw [<-hpw,hp,aL];simp));have Fg:=hid hap;have hs2:=hB2.size;have S1:=ak hB2;clear hap hown hgrow hB2 hl2 uy CK AO hval hpw A1 hR mV hB1 h1 hW1 hq hs hps hp hX;go_enter Tryz.func91,Tryz.ntmps91
 go_wp2_with (at_builtin;refine cZ rfl (.tmp 39) (.tmp 40) 35 rfl _ _ rfl rfl _ _ Fg.o ?_)
 refine T1.o.mono ?_;rintro r u3 ⟨v3,rfl,dV,hb3⟩;have S2:=(aK dV hb3);clear dV hb3;go_wp2;go_ret;obtain ⟨dV,hb3⟩:=S2.o;exact ⟨v3,rfl,dV.mono (by simp;omega),S1.o.trans (((ae w2 _).trans (hb3.mono (by simp))).mono hs2)⟩
theorem OQ {w:World}{a b:Option Addr}{n c m d:Nat}(e f:Int) (x y:Nat) (bx:x<=1125899906842624) (by':y<=1125899906842624) (hx:x=0) (z:Int)
 (H1:Hid (Calls Tryz.prog 206 #[.slice a n c] w fun r w'=>r=.returned (.int .i64 (x:Nat))/\w'=w))
 (H2:Hid (Calls Tryz.prog 206 #[.slice b m d] w fun r w'=>r=.returned (.int .i64 (y:Nat))/\w'=w))
 (HC:Hid (Calls Tryz.prog 154 #[.slice a n c,.slice b m d] w fun r w'=>r=.returned (.int .i64 z)/\Below w.heap.size w w')):Calls Tryz.prog 190 #[.slice a n c,.int .i64 e,.slice b m d,.int .i64 f] w fun r w'=>r=.returned (.int .i64 z)/\Below w.heap.size w w':=by
 have ex:IntKind.u64.wrap (x:Int)=(x:Int):=by rw [kL];omega
 have ey:IntKind.u64.wrap (y:Int)=(y:Int):=by rw [kL];omega
 subst hx;go_enter Tryz.func190,Tryz.ntmps190;go_wp2_with fail;refine H1.o.mono ?_;rintro r ww ⟨rfl,hw⟩;rw [hw];clear hw ww;go_wp2_with fail;refine H2.o.mono ?_;rintro r ww ⟨rfl,hw⟩;rw [hw];clear hw ww;go_wp2_with fail;refine HC.o.mono ?_;rintro r u1 ⟨rfl,hb⟩;have S1:=ak hb;clear hb;go_wp2;go_ret;exact ⟨rfl,S1.o⟩
theorem OT {w:World}{a b:Option Addr}{n c m d:Nat}(e f:Int) (x y:Nat) (bx:x<=1125899906842624) (by':y<=1125899906842624) (hx:((x:Int)==0)=false) (hy:y=0) (z:Int)
 (H1:Hid (Calls Tryz.prog 206 #[.slice a n c] w fun r w'=>r=.returned (.int .i64 (x:Nat))/\w'=w))
 (H2:Hid (Calls Tryz.prog 206 #[.slice b m d] w fun r w'=>r=.returned (.int .i64 (y:Nat))/\w'=w))
 (HC:Hid (Calls Tryz.prog 154 #[.slice a n c,.slice b m d] w fun r w'=>r=.returned (.int .i64 z)/\Below w.heap.size w w')):Calls Tryz.prog 190 #[.slice a n c,.int .i64 e,.slice b m d,.int .i64 f] w fun r w'=>r=.returned (.int .i64 z)/\Below w.heap.size w w':=by
 have ex:IntKind.u64.wrap (x:Int)=(x:Int):=by rw [kL];omega
 have ey:IntKind.u64.wrap (y:Int)=(y:Int):=by rw [kL];omega
 subst hy;go_enter Tryz.func190,Tryz.ntmps190;go_wp2_with fail;refine H1.o.mono ?_;rintro r ww ⟨rfl,hw⟩;rw [hw];clear hw ww;go_wp2_with fail;refine H2.o.mono ?_;rintro r ww ⟨rfl,hw⟩;rw [hw];clear hw ww;go_wp2_with fail;refine HC.o.mono ?_;rintro r u1 ⟨rfl,hb⟩;have S1:=ak hb;clear hb;go_wp2;go_ret;exact ⟨rfl,S1.o⟩
theorem SN {w:World}{a b:Option Addr}{n c m d:Nat}(e f:Int) (x y:Nat) (bx:x<=1125899906842624) (by':y<=1125899906842624) (hx:((x:Int)==0)=false) (hy:((y:Int)==0)=false) (hlt:e<f) (z:Int) (hz0:-1<=z) (hz1:z<=1)
 (H1:Hid (Calls Tryz.prog 206 #[.slice a n c] w fun r w'=>r=.returned (.int .i64 (x:Nat))/\w'=w))
 (H2:Hid (Calls Tryz.prog 206 #[.slice b m d] w fun r w'=>r=.returned (.int .i64 (y:Nat))/\w'=w))
 (HR:Hid (Calls Tryz.prog 190 #[.slice b m d,.int .i64 f,.slice a n c,.int .i64 e] w fun r w'=>r=.returned (.int .i64 z)/\Below w.heap.size w w')):Calls Tryz.prog 190 #[.slice a n c,.int .i64 e,.slice b m d,.int .i64 f] w fun r w'=>r=.returned (.int .i64 (-z))/\Below w.heap.size w w':=by
 have ex:IntKind.u64.wrap (x:Int)=(x:Int):=by rw [kL];omega
 have ey:IntKind.u64.wrap (y:Int)=(y:Int):=by rw [kL];omega
 go_enter Tryz.func190,Tryz.ntmps190;go_wp2_with fail;refine H1.o.mono ?_;rintro r ww ⟨rfl,hw⟩;rw [hw];clear hw ww;go_wp2_with fail;refine H2.o.mono ?_;rintro r ww ⟨rfl,hw⟩;rw [hw];clear hw ww;go_wp2_with fail;refine HR.o.mono ?_;rintro r u1 ⟨rfl,hb⟩;have S1:=ak hb;clear hb;go_wp2;go_ret;exact ⟨rfl,S1.o⟩
theorem Wp {w:World}{a b:Option Addr}{n c m d:Nat}(e f:Int) (x y:Nat) (bx:x<=1125899906842624) (by':y<=1125899906842624) (hx:((x:Int)==0)=false) (hy:((y:Int)==0)=false) (hge:decide (e<f)=false) (dd:Nat) (hap:IntKind.u64.wrap (IntKind.u64.wrap e-IntKind.u64.wrap f)=(dd:Int)) (hd:1099511627776<dd)
 (H1:Hid (Calls Tryz.prog 206 #[.slice a n c] w fun r w'=>r=.returned (.int .i64 (x:Nat))/\w'=w))
 (H2:Hid (Calls Tryz.prog 206 #[.slice b m d] w fun r w'=>r=.returned (.int .i64 (y:Nat))/\w'=w)):Calls Tryz.prog 190 #[.slice a n c,.int .i64 e,.slice b m d,.int .i64 f] w fun r w'=>r=.returned (.int .i64 1)/\Below w.heap.size w w':=by
 have hd2:(1099511627776:Int)<(dd:Int):=by omega
 have ex:IntKind.u64.wrap (x:Int)=(x:Int):=by rw [kL];omega
 have ey:IntKind.u64.wrap (y:Int)=(y:Int):=by rw [kL];omega
 go_enter Tryz.func190,Tryz.ntmps190;go_wp2_with fail;refine H1.o.mono ?_;rintro r ww ⟨rfl,hw⟩;rw [hw];clear hw ww;go_wp2_with fail;refine H2.o.mono ?_;rintro r ww ⟨rfl,hw⟩;rw [hw];clear hw ww;go_wp2;go_ret;exact ⟨rfl,aB _ _⟩
theorem SQ {w:World}{a b:Option Addr}{n c m d:Nat}(e f:Int) (x y:Nat) (bx:x<=1125899906842624) (by':y<=1125899906842624) (hx:((x:Int)==0)=false) (hy:((y:Int)==0)=false) (hge:decide (e<f)=false) (dd:Nat) (hap:IntKind.u64.wrap (IntKind.u64.wrap e-IntKind.u64.wrap f)=(dd:Int)) (hd:dd<=1099511627776) (h1:y<x+dd)
 (H1:Hid (Calls Tryz.prog 206 #[.slice a n c] w fun r w'=>r=.returned (.int .i64 (x:Nat))/\w'=w))
 (H2:Hid (Calls Tryz.prog 206 #[.slice b m d] w fun r w'=>r=.returned (.int .i64 (y:Nat))/\w'=w)):Calls Tryz.prog 190 #[.slice a n c,.int .i64 e,.slice b m d,.int .i64 f] w fun r w'=>r=.returned (.int .i64 1)/\Below w.heap.size w w':=by
 have hd2:decide ((1099511627776:Int)<(dd:Int))=false:=decide_eq_false (by omega);have hd3:decide (1099511627776<dd)=false:=decide_eq_false (by omega);have es:IntKind.u64.wrap ((x:Int)+(dd:Int))=(x:Int)+(dd:Int):=by rw [kL];omega
 have h2:(y:Int)<(x:Int)+(dd:Int):=by omega
 have ex:IntKind.u64.wrap (x:Int)=(x:Int):=by rw [kL];omega
 have ey:IntKind.u64.wrap (y:Int)=(y:Int):=by rw [kL];omega
 go_enter Tryz.func190,Tryz.ntmps190;go_wp2_with fail;refine H1.o.mono ?_;rintro r ww ⟨rfl,hw⟩;rw [hw];clear hw ww;go_wp2_with fail;refine H2.o.mono ?_;rintro r ww ⟨rfl,hw⟩;rw [hw];clear hw ww;go_wp2;go_ret;exact ⟨rfl,aB _ _⟩
theorem SV {w:World}{a b:Option Addr}{n c m d:Nat}(e f:Int) (x y:Nat) (bx:x<=1125899906842624) (by':y<=1125899906842624) (hx:((x:Int)==0)=false) (hy:((y:Int)==0)=false) (hge:decide (e<f)=false) (dd:Nat) (hap:IntKind.u64.wrap (IntKind.u64.wrap e-IntKind.u64.wrap f)=(dd:Int)) (hd:dd<=1099511627776) (h1:x+dd<y)
 (H1:Hid (Calls Tryz.prog 206 #[.slice a n c] w fun r w'=>r=.returned (.int .i64 (x:Nat))/\w'=w))
 (H2:Hid (Calls Tryz.prog 206 #[.slice b m d] w fun r w'=>r=.returned (.int .i64 (y:Nat))/\w'=w)):Calls Tryz.prog 190 #[.slice a n c,.int .i64 e,.slice b m d,.int .i64 f] w fun r w'=>r=.returned (.int .i64 (-1))/\Below w.heap.size w w':=by
 have hd2:decide ((1099511627776:Int)<(dd:Int))=false:=decide_eq_false (by omega);have hd3:decide (1099511627776<dd)=false:=decide_eq_false (by omega);have es:IntKind.u64.wrap ((x:Int)+(dd:Int))=(x:Int)+(dd:Int):=by rw [kL];omega
 have h2:(x:Int)+(dd:Int)<(y:Int):=by omega
 have h3:decide ((y:Int)<(x:Int)+(dd:Int))=false:=decide_eq_false (by omega);have h4:decide (y<x+dd)=false:=decide_eq_false (by omega);have ex:IntKind.u64.wrap (x:Int)=(x:Int):=by rw [kL];omega
 have ey:IntKind.u64.wrap (y:Int)=(y:Int):=by rw [kL];omega
 go_enter Tryz.func190,Tryz.ntmps190;go_wp2_with fail;refine H1.o.mono ?_;rintro r ww ⟨rfl,hw⟩;rw [hw];clear hw ww;go_wp2_with fail;refine H2.o.mono ?_;rintro r ww ⟨rfl,hw⟩;rw [hw];clear hw ww;go_wp2;go_ret;exact ⟨rfl,aB _ _⟩
theorem SX {w:World}{a b:Option Addr}{n c m d:Nat}(e f:Int) (x y:Nat) (bx:x<=1125899906842624) (by':y<=1125899906842624) (hx:((x:Int)==0)=false) (hy:((y:Int)==0)=false) (hge:decide (e<f)=false) (dd:Nat) (hap:IntKind.u64.wrap (IntKind.u64.wrap e-IntKind.u64.wrap f)=(dd:Int)) (hd:dd<=64000000) (h1:x+dd=y) (P:Nat) (lP:(ws P).length<=35184372088832) (z:Int)
 (H1:Hid (Calls Tryz.prog 206 #[.slice a n c] w fun r w'=>r=.returned (.int .i64 (x:Nat))/\w'=w))
 (H2:Hid (Calls Tryz.prog 206 #[.slice b m d] w fun r w'=>r=.returned (.int .i64 (y:Nat))/\w'=w))
 (HM:Hid (Calls Tryz.prog 91 #[.slice a n c,.int .i64 (dd:Nat)] w fun r w'=>∃ v,r=.returned v/\Nt w.heap.size w' v P/\Below w.heap.size w w'))
 (HC:Hid (∀ u p q,Below w.heap.size w u->Arg u p (ws P).length q (ws P)->Calls Tryz.prog 154 #[.slice p (ws P).length q,.slice b m d] u fun r w'=>r=.returned (.int .i64 z)/\Below u.heap.size u w')):Calls Tryz.prog 190 #[.slice a n c,.int .i64 e,.slice b m d,.int .i64 f] w fun r w'=>r=.returned (.int .i64 z)/\Below w.heap.size w w':=by
 have hd2:decide ((1099511627776:Int)<(dd:Int))=false:=decide_eq_false (by omega);have hd3:decide (1099511627776<dd)=false:=decide_eq_false (by omega);have es:IntKind.u64.wrap ((x:Int)+(dd:Int))=(x:Int)+(dd:Int):=by rw [kL];omega
 have h2:decide ((x:Int)+(dd:Int)<(y:Int))=false:=decide_eq_false (by omega);have h3:decide ((y:Int)<(x:Int)+(dd:Int))=false:=decide_eq_false (by omega);have h4:decide (y<x+dd)=false:=decide_eq_false (by omega);have h5:decide (x+dd<y)=false:=decide_eq_false (by omega);have ed:IntKind.i64.wrap (dd:Int)=(dd:Int):=by rw [yc];omega
 clear h1;have ex:IntKind.u64.wrap (x:Int)=(x:Int):=by rw [kL];omega
 have ey:IntKind.u64.wrap (y:Int)=(y:Int):=by rw [kL];omega
 go_enter Tryz.func190,Tryz.ntmps190;go_wp2_with fail;refine H1.o.mono ?_;rintro r ww ⟨rfl,hw⟩;rw [hw];clear hw ww;go_wp2_with fail;refine H2.o.mono ?_;rintro r ww ⟨rfl,hw⟩;rw [hw];clear hw ww;go_wp2_with fail;refine HM.o.mono ?_;rintro r u1 ⟨v,rfl,hN,hb⟩;obtain ⟨a1,c1,rfl,A1⟩:=hN.arg lP;have EG:=hid (HC.o u1 a1 c1 hb A1);have hs1:=hb.size;have S1:=ak hb;clear hN hb A1;go_wp2_with fail;refine EG.o.mono ?_;rintro r u2 ⟨rfl,hb⟩;have S2:=ak (S1.o.trans (hb.mono hs1));clear hb;go_wp2;go_ret;exact ⟨rfl,S2.o⟩
def UQ (X:Nat) (e:Int) (Y:Nat) (f:Int):Int:=if X=0\/Y=0 then aX X Y else tJ X e Y f
theorem wY {w:World}{a b:Option Addr}{n c m d:Nat}{xs ys:List Nat}(h1:Arg w a n c xs) (h2:Arg w b m d ys) (hn:n<=2000000) (hm:m<=2000000) (e f:Int) (he0:-9223372036854775808<=e) (he1:e<=9223372036854775807) (hf0:-9223372036854775808<=f) (hf1:f<=9223372036854775807) (h:f<=e) (hX:val xs≠0) (hY:val ys≠0) :
 Calls Tryz.prog 190 #[.slice a n c,.int .i64 e,.slice b m d,.int .i64 f] w fun r w'=>r=.returned (.int .i64 (tJ (val xs) e (val ys) f))/\Below w.heap.size w w':=by
 have b1:=h1.big;have b2:=h2.big;have L1:=hid (om xs a n c w.heap.size w h1.len (by omega) h1.wf h1.rd);have L2:=hid (om ys b m d w.heap.size w h2.len (by omega) h2.wf h2.rd);have x0:(((bl (val xs):Nat):Int)==0)=false:=by have:=dD _ hX;simp;omega
 have y0:(((bl (val ys):Nat):Int)==0)=false:=by have:=dD _ hY;simp;omega
 have hap:=KU e f he0 he1 hf0 hf1 h;have hge:decide (e<f)=false:=decide_eq_false (by omega);have c1:=Gh h1
 have c2:bl (val ys)<=64000000:=by
  have:=cO ys h2.wf;rw [<-h2.len] at this;have:=Nu _ _ this;omega
 unfold tJ;rw [if_neg (by omega)];obtain ⟨dd,hdd⟩:∃ dd,(e-f).toNat=dd:=⟨_,rfl⟩;rw [hdd] at hap |-;have hb:=CY (val xs) dd hX
 by_cases k1:1099511627776<dd
 · have:aX (val xs*2^dd) (val ys)=1:=by
    rw [Be (by omega),hb];unfold aX;rw [if_neg (by omega),if_pos (by omega)]
   rw [this];exact Wp e f _ _ c1 (by omega) x0 y0 hge dd hap k1 L1 L2
 · by_cases k2:bl (val ys)<bl (val xs)+dd
   · have:aX (val xs*2^dd) (val ys)=1:=by
      rw [Be (by omega),hb];unfold aX;rw [if_neg (by omega),if_pos (by omega)]
     rw [this];exact SQ e f _ _ c1 (by omega) x0 y0 hge dd hap (by omega) k2 L1 L2
   · by_cases k3:bl (val xs)+dd<bl (val ys)
     · have:aX (val xs*2^dd) (val ys)=-1:=by
        rw [Be (by omega),hb];unfold aX;rw [if_pos (by omega)]
       rw [this];exact SV e f _ _ c1 (by omega) x0 y0 hge dd hap (by omega) k3 L1 L2
     · have lP:(ws (val xs*2^dd)).length<=35184372088832:=by rw [ic,hb];omega
       obtain ⟨P,hP⟩:∃ P,val xs*2^dd=P:=⟨_,rfl⟩;have HM:=hid (K8 (X:=val xs) dd h1 rfl hn (by omega));rw [hP] at HM lP |-;exact SX e f _ _ c1 (by omega) x0 y0 hge dd hap (by omega) (by omega) P lP _ L1 L2 HM (hid fun u p q hu hA=>jM hA (h2.below hu) _ (by rw [ah]))
theorem Dh {w:World}{a b:Option Addr}{n c m d:Nat}{xs ys:List Nat}(h1:Arg w a n c xs) (h2:Arg w b m d ys) (hn:n<=2000000) (hm:m<=2000000) (e f:Int) (he0:-9223372036854775808<=e) (he1:e<=9223372036854775807) (hf0:-9223372036854775808<=f) (hf1:f<=9223372036854775807) :
 Calls Tryz.prog 190 #[.slice a n c,.int .i64 e,.slice b m d,.int .i64 f] w fun r w'=>r=.returned (.int .i64 (UQ (val xs) e (val ys) f))/\Below w.heap.size w w':=by
 have b1:=h1.big;have b2:=h2.big;have L1:=hid (om xs a n c w.heap.size w h1.len (by omega) h1.wf h1.rd);have L2:=hid (om ys b m d w.heap.size w h2.len (by omega) h2.wf h2.rd);have c1:=Gh h1;have c2:=Gh h2;unfold UQ
 by_cases hX:val xs=0
 · rw [if_pos (.inl hX)];exact OQ e f _ _ c1 c2 (by rw [hX,dA]) _ L1 L2 (hid (jM h1 h2 _ rfl))
 · have x0:(((bl (val xs):Nat):Int)==0)=false:=by have:=dD _ hX;simp;omega
   by_cases hY:val ys=0
   · rw [if_pos (.inr hY)];exact OT e f _ _ c1 c2 x0 (by rw [hY,dA]) _ L1 L2 (hid (jM h1 h2 _ rfl))
   · have y0:(((bl (val ys):Nat):Int)==0)=false:=by have:=dD _ hY;simp;omega
     rw [if_neg (fun h=>h.elim hX hY)]
     by_cases h:e<f
     · have hr:=Gg (val ys) f (val xs) e;have:=SN e f _ _ c1 c2 x0 y0 h (tJ (val ys) f (val xs) e) (by omega) (by omega) L1 L2 (hid (wY h2 h1 hm hn f e hf0 hf1 he0 he1 (by omega) hY hX));rw [OI] at this;exact this
     · exact wY h1 h2 hn hm e f he0 he1 hf0 hf1 (by omega) hX hY
theorem YJ (X:Nat) (e:Int) (Y:Nat) (f B:Int) (h1:B<=e) (h2:B<=f):UQ X e Y f=jl ((X*2^(e-B).toNat:Nat):Int) ((Y*2^(f-B).toNat:Nat):Int):=by
 rw [OJ];unfold UQ
 by_cases h:X=0\/Y=0
 · rw [if_pos h];have p1:=IU X (e-B).toNat;have p2:=IU Y (f-B).toNat;generalize X*2^(e-B).toNat=P at p1 |-;generalize Y*2^(f-B).toNat=Q at p2 |-
   have q1:X=0/\P=0\/X≠0/\P≠0:=by
    by_cases h:X=0
    · exact .inl ⟨h,p1.2 h⟩
    · exact .inr ⟨h,fun k=>h (p1.1 k)⟩
   have q2:Y=0/\Q=0\/Y≠0/\Q≠0:=by
    by_cases h:Y=0
    · exact .inl ⟨h,p2.2 h⟩
    · exact .inr ⟨h,fun k=>h (p2.1 k)⟩
   clear p1 p2;unfold aX;rcases h with h|h
   · rcases q1 with ⟨a,b⟩ | ⟨a,b⟩
     · rcases q2 with ⟨c,d⟩ | ⟨c,d⟩
       · rw [a,b,c,d]
       · rw [a,b,if_pos (by omega),if_pos (by omega)]
     · exact absurd h a
   · rcases q2 with ⟨c,d⟩ | ⟨c,d⟩
     · rcases q1 with ⟨a,b⟩ | ⟨a,b⟩
       · rw [a,b,c,d]
       · rw [c,d,if_neg (by omega),if_pos (by omega),if_neg (by omega),if_pos (by omega)]
     · exact absurd h c
 · rw [if_neg h];exact K4 X e Y f B h1 h2
theorem OU (k:Nat) (B:Int) (hB:B<=-1074):(gY k).1*2^((gY k).2-B).toNat=vK k*2^(-1074-B).toNat/\(gY k).1<9007199254740992/\B<=(gY k).2/\((gY k).1=0↔k=0):=by
 unfold gY
 by_cases h:k/4503599627370496=0
 · rw [if_pos h];refine ⟨?_,by simp only;omega,by simp only;omega,by simp only;omega⟩;simp only;have:=jm 0 k (.inl rfl) (by omega);rw [eF,dL,fo,eG] at this;rw [this,show k%4503599627370496=k by omega]
 · rw [if_neg h];obtain ⟨q,hq⟩:∃ q,k/4503599627370496=q:=⟨_,rfl⟩;obtain ⟨f,hf⟩:∃ f,k%4503599627370496=f:=⟨_,rfl⟩;rw [hq,hf];refine ⟨?_,by simp only;omega,by simp only;omega,by simp only;omega⟩;simp only;have:=jm (q-1) (4503599627370496+f) (.inr (by omega)) (by omega);rw [show (q-1)*4503599627370496+(4503599627370496+f)=k by omega] at this;rw [this,aL,<-aJ,show (-1074+(q:Int)-1-B).toNat=q-1+(-1074-B).toNat by omega]
end
section
open Go.RowKit J
theorem Wq (s:Bool) (v:Nat):p9 s*(v:Int)=B.sg s v:=by unfold p9 B.sg;cases s <;> simp
theorem OV (K:Nat) (hK:K<9218868437227405312) (a:Nat) (ha:a=2045):vK K<9007199254740992*2^a:=by
 have h:=jm a 9007199254740992 (.inr (by omega)) (by omega);have h2:a*4503599627370496+9007199254740992=9218868437227405312:=by rw [ha]
 rw [<-h,h2];exact UN.2 hK
theorem YK (s:Bool) (K:Nat) (hK:K<9218868437227405312):∃ n X e,Wn s K=some (n,X,e)/\Fo (some (n,X,e)) (B.sg s (vK K)*(UU:Int)) (-1074) 1024/\(X=0↔K=0):=by
 obtain ⟨n,X,e,h1,F,h2,h3,h4⟩:=SL s K hK;refine ⟨n,X,e,h1,⟨n,X,e,rfl,F,?_,?_⟩,h3⟩
 · obtain ⟨a,ha⟩:∃ a:Nat,(-1074 - -2097152:Int).toNat=a:=⟨_,rfl⟩;have h5:=h4 (-2097152) (by omega);rw [ha] at h5;rw [h5,US a (by omega),fQ,fQ,<-mq,<-mq,Wq]
 · by_cases hX:X=0
   · exact .inl hX
   · right
     have ho:=SH F hX;have hd:=F.down
     -- in units of the form's own place
     have h5:=h4 (min e (-1074)) (by omega);unfold zv at h5;simp only at h5;rw [h2 hX] at h5
     have h6:X*2^(e-min e (-1074)).toNat=vK K*2^(-1074-min e (-1074)).toNat:=by
      unfold p9 at h5
      cases s
      · simp only [eY,if_false,Int.one_mul] at h5;exact_mod_cast h5
      · simp only [if_true] at h5;have:=Int.eq_of_mul_eq_mul_left (by decide) h5;exact_mod_cast this
     have he:-1074<=e:=by
      apply Int.le_of_not_gt;intro hlt;rw [show (e-min e (-1074)).toNat=0 by omega,fo,eG] at h6;obtain ⟨q,hq⟩:∃ q,(-1074-min e (-1074)).toNat=q+1:=⟨(-1074-min e (-1074)).toNat-1,by omega⟩;rw [hq,dM,<-aL] at h6;omega
     refine ⟨he,?_⟩;rw [show (-1074-min e (-1074)).toNat=0 by omega,fo,eG] at h6;obtain ⟨q,hq⟩:∃ q,(e-min e (-1074)).toNat=q:=⟨_,rfl⟩;rw [hq] at h6;obtain ⟨c,hc⟩:∃ c:Nat,c=2045:=⟨_,rfl⟩;have h7:=OV K hK c hc;have h8:=gW X hX;have h9:=dD X hX;obtain ⟨b,hb⟩:∃ b,bl X=b+1:=⟨bl X-1,by omega⟩;rw [hb,kE] at h8;have h10:2^b*2^q<9007199254740992*2^c:=gQ (fK _ h8) (by rw [h6];exact h7);rw [<-aJ,show (9007199254740992:Nat)=2^53 from rfl,<-aJ] at h10;have h11:=(jv (by decide:1<2)).1 h10;omega
theorem YL (s:Bool) (v:Nat):(B.sg s v).natAbs=v:=by unfold B.sg;cases s <;> simp
abbrev Wd (x:Nat):Prop:=x<18446744073709551616
abbrev fZ (x:Nat):Prop:=jf x<9218868437227405312
def zt (x:Nat):Int:=B.sg (rG x) (vK (jf x))
theorem Ws (s:Bool) (v:Nat):(B.sg s v).natAbs=v:=YL s v
end
section
open Go.RowKit
theorem iX {n a b:Nat}(hn:0<n):a^n<b^n↔a<b:=Nat.pow_lt_pow_iff_left (by omega)
theorem Di {n a b:Nat}(hn:0<n):a^n=b^n↔a=b:=by
 constructor
 · intro h;rcases nJ a b with k|k|k
   · have:=(iX hn).2 k;omega
   · exact k
   · have:=(iX hn).2 k;omega
 · intro h;rw [h]
structure OW (v:Nat->Nat) (top:Nat):Prop where
 one:1<top
 zero:v 0=0
 mono:∀ {k l},k<l->v k<v l
 step:∀ k,k<top->∃ c j,v k=c*2^j/\v (k+1)=(c+1)*2^j/\c<9007199254740992/\j<=2045
structure gZ (v:Nat->Nat) (top n:Nat) (K:Nat) (t:Bool) (m:Int) (V S:Nat):Prop where
 fin:K<top
 pos:0<S
 one:t=true->V=v K^n*S
 low:t=false->v K^n*S<V
 SA:t=false->V<v (K+1)^n*S->(m=-1/\2^n*V<(v K+v (K+1))^n*S\/m=0/\2^n*V=(v K+v (K+1))^n*S\/m=1/\(v K+v (K+1))^n*S<2^n*V)
 high:t=false->V<v (K+1)^n*S\/(K+1=top/\m=1)
def Alike (n P Q V S:Nat):Prop:=∀ c j,c<=18014398509481984->j<=2046->((c*2^j)*Q<2*P↔(c*2^j)^n*S<2^n*V)/\((c*2^j)*Q=2*P↔(c*2^j)^n*S=2^n*V)
theorem uE (n a S V:Nat):((2*a)^n*S<2^n*V↔a^n*S<V)/\((2*a)^n*S=2^n*V↔a^n*S=V):=by
 have h:(2*a)^n*S=2^n*(a^n*S):=by rw [qQ,aL]
 have hp:0<2^n:=aY n;rw [h];exact ⟨Nat.mul_lt_mul_left hp,⟨fun h=>Nat.eq_of_mul_eq_mul_left hp h,fun h=>by rw [h]⟩⟩
theorem gZ.Dj {v:Nat->Nat}{top n K:Nat}{t:Bool}{m:Int}{P Q V S:Nat}(G:OW v top) (hn:0<n) (h:gZ v top 1 K t m P Q) (hS:0<S) (hA:Alike n P Q V S):gZ v top n K t m V S:=by
 obtain ⟨c,j,e1,e2,hc,hj⟩:=G.step K h.fin;have a1:=hA (2*c) j (by omega) (by omega);have a2:=hA (2*(c+1)) j (by omega) (by omega);have a3:=hA (2*c+1) j (by omega) (by omega);have g1:2*c*2^j=2*v K:=by rw [e1,aL]
 have g2:2*(c+1)*2^j=2*v (K+1):=by rw [e2,aL]
 have g3:(2*c+1)*2^j=v K+v (K+1):=by rw [e1,e2,<-fE];congr 1;omega
 rw [g1] at a1;rw [g2] at a2;rw [g3] at a3;have b1:=uE n (v K) S V;have b2:=uE n (v (K+1)) S V;rw [b1.1,b1.2] at a1;rw [b2.1,b2.2] at a2;have d1:2*v K*Q=2*(v K*Q):=aL _ _ _;have d2:2*v (K+1)*Q=2*(v (K+1)*Q):=aL _ _ _;rw [d1] at a1;rw [d2] at a2;have h1:=h.one;have h2:=h.low;have h3:=h.SA;have h4:=h.high;simp only [mo] at h1 h2 h3 h4;generalize v K*Q=A at *;generalize v (K+1)*Q=B at *;generalize (v K+v (K+1))*Q=C at *
 have ge:∀ {x y x' y':Nat},((x<y↔x'<y')/\(x=y↔x'=y'))->(y<x↔y'<x'):=by
  intro x y x' y' ⟨p,q⟩;constructor
  · intro hh;rcases nJ x' y' with k|k|k
    · have:=p.2 k;omega
    · have:=q.2 k;omega
    · exact k
  · intro hh;rcases nJ x y with k|k|k
    · have:=p.1 k;omega
    · have:=q.1 k;omega
    · exact k
 have a2':=ge a2;have a3':=ge a3;refine ⟨h.fin,hS,fun ht=>?_,fun ht=>?_,fun ht hlt=>?_,fun ht=>?_⟩
 · have:=h1 ht;exact (a1.2.1 (by omega)).symm
 · exact a1.1.1 (by have:=h2 ht;omega)
 · have hb:P<B:=by have:=a2'.2 hlt;omega
   rcases h3 ht hb with ⟨q,r⟩|⟨q,r⟩|⟨q,r⟩
   · exact .inl ⟨q,a3'.1 r⟩
   · exact .inr (.inl ⟨q,(a3.2.1 r.symm).symm⟩)
   · exact .inr (.inr ⟨q,a3.1.1 r⟩)
 · rcases h4 ht with q | q
   · exact .inl (a2'.1 (by omega))
   · exact .inr q
theorem Qap{P:Prop}(h:P:=by
 exact ⟨⟨fun h=>by omega,fun h=>by omega⟩,⟨fun h=>by omega,fun h=>by omega⟩⟩):P:=h
theorem Gj (n R p q V S d:Nat) (hn:0<n) (hS:0<S) (hR:9007199254740992<=R) (hd:d<=1)
 (h0:d=0->V*(2^q)^n=(R*2^p)^n*S) (h1:d=1->(R*2^p)^n*S<V*(2^q)^n/\V*(2^q)^n<((R+1)*2^p)^n*S) :
 Alike n ((2*R+d)*2^p) (2*2^q) V S:=by
 intro c j hc hj;have hq:0<(2^q)^n:=nR (aY q)
 -- both sides times 2^q
 have f1:(c*2^j)^n*S<2^n*V↔(c*2^(j+q))^n*S<2^n*(V*(2^q)^n):=by
  rw [<-nL hq]
  have:(c*2^j)^n*S*(2^q)^n=(c*2^(j+q))^n*S:=by
   rw [yL,<-qQ,aL c,<-aJ]
  rw [this,aL]
 have f2:(c*2^j)^n*S=2^n*V↔(c*2^(j+q))^n*S=2^n*(V*(2^q)^n):=by
  have e:(c*2^j)^n*S*(2^q)^n=(c*2^(j+q))^n*S:=by
   rw [yL,<-qQ,aL c,<-aJ]
  rw [<-e,<-aL (2^n)];exact ⟨fun h=>by rw [h],fun h=>pR hq h⟩
 have f3:c*2^j*(2*2^q)=2*(c*2^(j+q)):=by rw [aJ,<-aL c,Nat.mul_left_comm]
 rw [f1,f2,f3];generalize V*(2^q)^n=U at *;have g0:∀ a:Nat,(2*a)^n*S=2^n*(a^n*S):=fun a=>by rw [qQ,aL]
 have hp2:0<2^n:=aY n;have hlt2:(c*2^(j+q)<(2*R+d)*2^p↔2*(c*2^(j+q))<2*((2*R+d)*2^p)):=by omega
 have heq2:(c*2^(j+q)=(2*R+d)*2^p↔2*(c*2^(j+q))=2*((2*R+d)*2^p)):=by omega
 rw [<-hlt2,<-heq2]
 -- powers times S
 have L:∀ a b:Nat,(a^n*S<b^n*S↔a<b):=fun a b=>by rw [nL hS,iX hn]
 have E:∀ a b:Nat,(a^n*S=b^n*S↔a=b):=fun a b=>⟨fun h=>(Di hn).1 (pR hS h),fun h=>by rw [h]⟩;rcases kG d with hd0|hd1
 · subst hd0;have hU:=h0 rfl;have k1:(2*(R*2^p))^n*S=2^n*U:=by rw [g0,<-hU]
   have k2:(2*R+0)*2^p=2*(R*2^p):=by rw [gP,aL]
   rw [k2,<-k1,L,E];exact ⟨Iff.rfl,Iff.rfl⟩
 · obtain rfl:d=1:=by omega
   obtain ⟨u1,u2⟩:=h1 rfl;have k1:(2*(R*2^p))^n*S<2^n*U:=by rw [g0];exact yD u1 hp2
   have k2:2^n*U<(2*((R+1)*2^p))^n*S:=by rw [g0];exact yD u2 hp2
   have below:∀ x,x<=2*(R*2^p)->(x<(2*R+1)*2^p↔x^n*S<2^n*U)/\(x=(2*R+1)*2^p↔x^n*S=2^n*U):=by
    intro x hx
    have y1:x<(2*R+1)*2^p:=by
     have:=aY p;rw [fE,aL,iH];omega
    have y2:x^n*S<2^n*U:=by
     refine gQ ?_ k1;exact fK _ (Nat.pow_le_pow_left hx n)
    exact ⟨⟨fun _=>y2,fun _=>y1⟩,⟨fun h=>by omega,fun h=>by omega⟩⟩
   have above:∀ x,2*((R+1)*2^p)<=x->(x<(2*R+1)*2^p↔x^n*S<2^n*U)/\(x=(2*R+1)*2^p↔x^n*S=2^n*U):=by
    intro x hx
    have y1:(2*R+1)*2^p<x:=by
     have:=aY p;refine iG ?_ hx;rw [<-aL];exact fq (by omega) this
    have y2:2^n*U<x^n*S:=by
     refine iG k2 ?_;exact fK _ (Nat.pow_le_pow_left hx n)
    exact Qap
   by_cases hjp:p<j+q
   · obtain ⟨i,hi⟩:∃ i,j+q=i+1+p:=⟨j+q-1-p,by omega⟩
     have e:c*2^(j+q)=2*((c*2^i)*2^p):=by
      rw [hi,aJ,dM,<-aL,<-aL,cB (c*2^i) 2,aL 2]
     rw [e];rcases kJ R (c*2^i) with k|k
     · exact above _ (gT _ (fK _ k))
     · exact below _ (gT _ (fK _ k))
   · refine below _ ?_
     calc c*2^(j+q)<=18014398509481984*2^p:=jr hc (fe (by decide) (by omega))
      _<=(2*R)*2^p:=fK _ (by omega)
      _=2*(R*2^p):=aL _ _ _
theorem K9 (n P Q V S:Nat) (hn:0<n) (hP:∀ c j,c<=18014398509481984->j<=2046->c*2^j*Q<2*P) (hV:∀ c j,c<=18014398509481984->j<=2046->(c*2^j)^n*S<2^n*V):Alike n P Q V S:=by
 intro c j hc hj;have h1:=hP c j hc hj;have h2:=hV c j hc hj;exact ⟨⟨fun _=>h2,fun _=>h1⟩,⟨fun h=>by omega,fun h=>by omega⟩⟩
theorem Gl (n P Q V S:Nat) (hn:0<n) (hP0:0<P) (hV0:0<V) (hS:0<S) (hP:2*P<Q) (hV:2^n*V<S):Alike n P Q V S:=by
 intro c j hc hj;rcases kG (c*2^j) with h0|h0
 · rw [h0,eF,Nat.zero_pow hn,eF];have:=iA (aY n) hV0;exact ⟨⟨fun _=>this,fun _=>by omega⟩,⟨fun h=>by omega,fun h=>by omega⟩⟩
 · have h1:Q<=c*2^j*Q:=yH _ h0;have h2:S<=(c*2^j)^n*S:=yH _ (nR h0);exact Qap
def SY (x y:Nat):Int:=if x<y then -1 else if y<x then 1 else 0
theorem gZ.doc {v:Nat->Nat}{top n K:Nat}{t:Bool}{m:Int}{V S:Nat}(G:OW v top) (hn:0<n) (h:gZ v top n K t m V S) (k:Nat) (hk:k<top) (h1:v k^n*S<=V) (h2:k+1=top\/V<v (k+1)^n*S) :
 k=K/\t=decide (V=v K^n*S)/\(t=false->m=SY (2^n*V) ((v K+v (K+1))^n*S)):=by
 have L:∀ {a b:Nat},a<b->v a^n*S<v b^n*S:=fun {a b} q=>fq ((iX hn).2 (G.mono q)) h.pos
 have Le:∀ {a b:Nat},a<=b->v a^n*S<=v b^n*S:=fun {a b} q=>by
  rcases kJ a b with k|k
  · exact lK (L k)
  · rw [show a=b by omega];exact aA _
 have hge:v K^n*S<=V:=by
  cases ht:t
  · exact lK (h.low ht)
  · rw [h.one ht];exact aA _
 have hfin:=h.fin
 have hkK:k=K:=by
  rcases nJ k K with q|q|q
  · exfalso;rcases h2 with e|e
    · omega
    · have:=Le (show k+1<=K by omega);omega
  · exact q
  · exfalso;have a1:=Le (show K+1<=k by omega);have a2:=L (show K<K+1 by omega)
    cases t with
    | true=>have:=h.one rfl;omega
    | false =>
      rcases h.high rfl with e|e
      · omega
      · omega
 subst hkK;refine ⟨rfl,?_,?_⟩
 · cases t with
   | true=>exact (decide_eq_true (h.one rfl)).symm
   | false=>have:=h.low rfl;exact (decide_eq_false (by omega)).symm
 · intro ht
   by_cases hb:V<v (k+1)^n*S
   · have hm:=h.SA ht hb;generalize 2^n*V=V2 at *;generalize (v k+v (k+1))^n*S=C at *;unfold SY;rcases hm with ⟨e,q⟩|⟨e,q⟩|⟨e,q⟩
     · rw [if_pos q,e]
     · rw [if_neg (by omega),if_neg (by omega),e]
     · rw [if_neg (by omega),if_pos q,e]
   · rcases h.high ht with e | ⟨_,e⟩
     · exact absurd e hb
     · have hmid:(v k+v (k+1))^n*S<2^n*V:=by
        have q1:v k+v (k+1)<2*v (k+1):=by have:=G.mono (show k<k+1 by omega);omega
        have q2:(v k+v (k+1))^n*S<(2*v (k+1))^n*S:=fq ((iX hn).2 q1) h.pos;rw [qQ,aL] at q2;have q3:=gT (2^n) (zK hb);omega
       unfold SY;rw [if_neg (by omega),if_pos hmid,e]
theorem jO (a b i k i' k':Nat) (h:i'+k=k'+i):a*2^i<b*2^k↔a*2^i'<b*2^k':=by
 rcases Nat.le_total i i' with q|q
 · obtain ⟨d,rfl⟩:∃ d,i'=i+d:=⟨i'-i,by omega⟩;obtain rfl:k'=k+d:=by omega
   rw [aJ,aJ,<-aL,<-aL,nL (aY d)]
 · obtain ⟨d,rfl⟩:∃ d,i=i'+d:=⟨i-i',by omega⟩;obtain rfl:k=k'+d:=by omega
   rw [aJ,aJ,<-aL,<-aL,nL (aY d)]
theorem wZ (a b i k i' k':Nat) (h:i'+k=k'+i):a*2^i=b*2^k↔a*2^i'=b*2^k':=by
 have h1:=jO a b i k i' k' h;have h2:=jO b a k i k' i' (by omega);generalize a*2^i=A at *;generalize a*2^i'=A' at *;generalize b*2^k=B at *;generalize b*2^k'=B' at *;constructor
 · intro e;rcases nJ A' B' with q | q | q
   · have:=h1.2 q;omega
   · exact q
   · have:=h2.2 q;omega
 · intro e;rcases nJ A B with q | q | q
   · have:=h1.1 q;omega
   · exact q
   · have:=h2.1 q;omega
def fB (Y size:Nat):Nat:=bl Y+size-262144
def jg (Y size:Nat):Nat:=Y/2^fB Y size
def lq (X Y size:Nat):Int:=(bl (jg Y size):Int)+size-bl X
def pJ (X Y size:Nat):Nat:=if lq X Y size<0 then X/2^(-lq X Y size).toNat else X*2^(lq X Y size).toNat
def mH (X Y size:Nat):Nat:=pJ X Y size/jg Y size
def pK (X Y size:Nat):Nat:=pJ X Y size%jg Y size
def Dl (Y size:Nat):Nat:=Y-jg Y size*2^fB Y size
def qx (X Y size:Nat):Nat:=pK X Y size*2^fB Y size
def oq (X Y size:Nat):Nat:=mH X Y size*Dl Y size
def dO (X Y size:Nat):Nat:=if qx X Y size<oq X Y size then mH X Y size-1 else mH X Y size
def ou (X Y size:Nat):Bool:=decide (qx X Y size=oq X Y size)&&decide (0<=lq X Y size)
structure OX (X Y size:Nat):Prop where
 one:ou X Y size=true->X*2^((lq X Y size).toNat+fB Y size)=dO X Y size*Y*2^(-lq X Y size).toNat
 low:ou X Y size=false->dO X Y size*Y*2^(-lq X Y size).toNat<X*2^((lq X Y size).toNat+fB Y size)
 high:ou X Y size=false->X*2^((lq X Y size).toNat+fB Y size)<(dO X Y size+1)*Y*2^(-lq X Y size).toNat
 least:X≠0->2^(size-1)<=dO X Y size+1
 most:dO X Y size<2^(size+1)
 less:qx X Y size<oq X Y size->1<=mH X Y size
 hig:jg Y size≠0
 low':jg Y size*2^fB Y size<=Y
 YM:Dl Y size<2^fB Y size
 w0:mH X Y size<2^(size+1)
 UR:bl (jg Y size)=bl Y-fB Y size
 tL:pJ X Y size<2^(bl (jg Y size)+size)
 lef:pK X Y size<jg Y size
theorem La {X k:Nat}(h1:2^k<=X) (h2:X<2^(k+1)):bl X=k+1:=by
 have h0:X≠0:=by have:=aY k;omega
 have a:=iB X;have b:=gW X h0;have c:=dD X h0;have d1:=(jv (a:=2) (by decide)).1 (gQ h1 a);have d2:=(jv (a:=2) (by decide)).1 (gQ b h2);omega
theorem iE (X Y size:Nat) (hX:X=0\/X%2=1) (hY:Y≠0) (hs0:1<=size) (hs:size<=1000) (hbX:bl X<=262144) (hbY:bl Y<=262144):OX X Y size:=by
 obtain ⟨cut,yu⟩:∃ c,fB Y size=c:=⟨_,rfl⟩;obtain ⟨H,eH⟩:∃ c,jg Y size=c:=⟨_,rfl⟩;have Z4:Y/2^cut=H:=by rw [<-eH,<-yu];rfl
 have hD:0<2^cut:=aY cut;have hYlt:=iB Y;have YN:=gW Y hY;have hYpos:=dD Y hY;have hcut:cut<bl Y/\(0<cut->cut=bl Y+size-262144):=by unfold fB at yu;omega
 have hH1:2^(bl Y-1-cut)<=H:=by
  rw [<-Z4,qP hD,<-aJ,show bl Y-1-cut+cut=bl Y-1 by omega];exact YN
 have hH2:H<2^(bl Y-1-cut+1):=by
  rw [<-Z4,qM hD,<-aJ,show bl Y-1-cut+1+cut=bl Y by omega];exact hYlt
 have hblH:bl H=bl Y-cut:=by rw [La hH1 hH2];omega
 have hH0:0<H:=iG (aY _) hH1;have hHD:H*2^cut<=Y:=by rw [<-Z4];exact Nat.div_mul_le_self _ _
 have hYdm:H*2^cut+Y%2^cut=Y:=by rw [<-Z4,cB];exact pO Y _
 have hYm:=nE Y hD;obtain ⟨Lo,eLo⟩:∃ c,Dl Y size=c:=⟨_,rfl⟩;have eLo':Y-H*2^cut=Lo:=by rw [<-eLo];unfold Dl;rw [eH,yu]
 have hLo:Lo<2^cut:=by omega
 have hYs:Y=H*2^cut+Lo:=by omega
 obtain ⟨b,eb⟩:∃ b,lq X Y size=b:=⟨_,rfl⟩;have eb':(bl H:Int)+size-bl X=b:=by rw [<-eb];unfold lq;rw [eH]
 obtain ⟨tL,Ta⟩:∃ c,pJ X Y size=c:=⟨_,rfl⟩;have w9:(if b<0 then X/2^(-b).toNat else X*2^b.toNat)=tL:=by rw [<-Ta];unfold pJ;rw [eb]
 obtain ⟨W0,YO⟩:∃ c,mH X Y size=c:=⟨_,rfl⟩;have Wt:tL/H=W0:=by rw [<-YO];unfold mH;rw [Ta,eH]
 obtain ⟨Lf,eLf⟩:∃ c,pK X Y size=c:=⟨_,rfl⟩;have YP:tL%H=Lf:=by rw [<-eLf];unfold pK;rw [Ta,eH]
 have UL:H*W0+Lf=tL:=by rw [<-Wt,<-YP];exact pO tL H
 have hLf:Lf<H:=by rw [<-YP];exact nE _ hH0
 have Tc:qx X Y size=Lf*2^cut:=by unfold qx;rw [eLf,yu]
 have Td:oq X Y size=W0*Lo:=by unfold oq;rw [YO,eLo]
 have hXlt:=iB X
 have OY:tL<2^(bl H+size):=by
  rw [<-w9]
  split
  · rename_i hb;rw [qM (aY _),<-aJ,show bl H+size+(-b).toNat=bl X by omega];exact hXlt
  · rename_i hb;refine iG (fq hXlt (aY _)) ?_;rw [<-aJ];exact Qam
 have UT:W0<2^(size+1):=by
  rw [<-Wt,qM hH0];refine iG OY ?_;have:2^(size+1)*2^(bl Y-1-cut)<=2^(size+1)*H:=gT _ hH1;rw [<-aJ,show size+1+(bl Y-1-cut)=bl H+size by omega] at this;exact this
 have YQ:X≠0->2^(size-1)<=W0:=by
  intro h0;have YR:=gW X h0;have hXp:=dD X h0
  have hl:2^(bl H+size-1)<=tL:=by
   rw [<-w9]
   split
   · rename_i hb;rw [qP (aY _),<-aJ,show bl H+size-1+(-b).toNat=bl X-1 by omega];exact YR
   · rename_i hb;refine dC ?_ (fK _ YR);rw [<-aJ];exact Qam
  rw [<-Wt,qP hH0];refine dC ?_ hl;have:2^(size-1)*H<=2^(size-1)*2^(bl H):=gT _ (lK (iB H));rw [<-aJ,show size-1+bl H=bl H+size-1 by omega] at this;exact this
 -- whole times the low end is below Y
 have hWL:W0*Lo<Y:=by
  by_cases hc:cut=0
  · subst hc;have:Lo=0:=by simpa using hLo
    rw [this,nH];omega
  · have h1:W0*Lo<2^(size+1)*2^cut:=qO UT hLo;rw [<-aJ] at h1;refine iG h1 (dC ?_ YN);exact Qam
 -- what the level is,by whole
 have hsum:tL*2^cut+W0*Lo=W0*Y+Lf*2^cut:=by
  rw [<-UL,hYs,fE,jI,cB H W0,aL];omega
 have hLfD:Lf*2^cut<Y:=iG (fq hLf hD) hHD
 have hless:qx X Y size<oq X Y size->1<=W0:=by
  intro h;rw [Tc,Td] at h;rcases kG W0 with q|q
  · rw [q,eF] at h;omega
  · exact q
 have Wu:dO X Y size=if Lf*2^cut<W0*Lo then W0-1 else W0:=by unfold dO;rw [Tc,Td,YO]
 have eAt:ou X Y size=(decide (Lf*2^cut=W0*Lo)&&decide (0<=b)):=by unfold ou;rw [Tc,Td,eb]
 have key:(ou X Y size=true->X*2^(b.toNat+cut)=dO X Y size*Y*2^(-b).toNat)/\(ou X Y size=false->dO X Y size*Y*2^(-b).toNat<X*2^(b.toNat+cut)/\X*2^(b.toNat+cut)<(dO X Y size+1)*Y*2^(-b).toNat):=by
  rw [eAt,Wu]
  by_cases hb:b<0
  · have hc0:cut=0:=by omega
    have hX0:X≠0:=by intro h;rw [h,dA] at eb';omega
    have hXo:X%2=1:=by omega
    rw [if_pos hb] at w9;subst hc0;have hL0:Lo=0:=by simpa using hLo
    have hb1:b.toNat=0:=by omega
    rw [hL0,nH,if_neg (by omega),hb1,gP,fo,eG];rw [hL0,fo,eG,eG,nH] at hsum;rw [decide_eq_false (show ¬ 0<=b by omega),Cm];refine ⟨fun h=>(by cases h),fun _=>?_⟩;obtain ⟨k,hk⟩:∃ k,(-b).toNat=k:=⟨_,rfl⟩;have hk0:0<k:=by omega
    rw [hk] at w9 |-;have hP:=aY k;have hxm:2^k*tL+X%2^k=X:=by rw [<-w9];exact pO X _
    have hxl:=nE X hP
    have hx0:X%2^k≠0:=by
     intro h;rw [h] at hxm;rw [show k=k-1+1 by omega,dM,cB _ 2,aL] at hxm;omega
    have h1:W0*Y<=tL:=by omega
    have h2:tL+1<=(W0+1)*Y:=by
     rw [fE,iH];rw [fo,eG] at hLfD;omega
    have h3:=fK (2^k) h1;have h4:=fK (2^k) h2;rw [fE,iH] at h4;rw [cB] at hxm;omega
  · rw [if_neg hb] at w9;have hb1:(-b).toNat=0:=by omega
    rw [hb1,fo,eG,eG,decide_eq_true (show 0<=b by omega),Bool.and_true];have e1:X*2^(b.toNat+cut)=tL*2^cut:=by rw [aJ,<-aL,w9]
    rw [e1];generalize tL*2^cut=L at *;generalize Lf*2^cut=A at *;generalize hT:W0*Lo=T at *
    by_cases hlt:A<T
    · rw [if_pos hlt];have hW1:1<=W0:=hless (by rw [Tc,Td];exact hlt);obtain ⟨W,rfl⟩:∃ W,W0=W+1:=⟨W0-1,by omega⟩;rw [kE];rw [fE,iH] at hsum |-;refine ⟨fun h=>?_,fun _=>by omega⟩;have:=of_decide_eq_true h;omega
    · rw [if_neg hlt];rw [fE,iH];refine ⟨fun h=>?_,fun h=>?_⟩
      · have:=of_decide_eq_true h;omega
      · have:=of_decide_eq_false h;omega
 refine ⟨?_,?_,?_,?_,?_,?_,?_,?_,?_,?_,?_,?_,?_⟩
 · rw [eb,yu];exact key.1
 · rw [eb,yu];exact fun h=>(key.2 h).1
 · rw [eb,yu];exact fun h=>(key.2 h).2
 · intro h;have:=YQ h;rw [Wu];split <;> omega
 · rw [Wu];split <;> omega
 · rw [YO];exact hless
 · rw [eH];omega
 · rw [eH,yu];exact hHD
 · rw [eLo,yu];exact hLo
 · rw [YO];exact UT
 · rw [eH,yu];exact hblH
 · rw [Ta,eH];exact OY
 · rw [eLf,eH];exact hLf
theorem Alike.scale {n P Q P' Q' V S:Nat}(h:Alike n P' Q' V S) (hQ:0<Q) (hQ':0<Q') (e:P*Q'=P'*Q):Alike n P Q V S:=by
 intro c j hc hj;obtain ⟨h1,h2⟩:=h c j hc hj;rw [<-h1,<-h2];generalize c*2^j=g;have e1:g*Q*Q'=g*Q'*Q:=yL _ _ _;have e2:2*P*Q'=2*P'*Q:=by rw [aL,e,aL]
 constructor
 · rw [<-nL hQ',e1,e2,nL hQ]
 · constructor
   · intro k;have:=congrArg (·*Q') k;simp only [e1,e2] at this;exact pR hQ this
   · intro k;have:=congrArg (·*Q) k;simp only [<-e1,<-e2] at this;exact pR hQ' this
structure Gm (n R d V S u:Nat) (h:Int):Prop where
 pos:0<S
 one:d=0->V*(2^(-(h+u)).toNat)^n=(R*2^(h+u).toNat)^n*S
 in':d=1->(R*2^(h+u).toNat)^n*S<V*(2^(-(h+u)).toNat)^n/\V*(2^(-(h+u)).toNat)^n<((R+1)*2^(h+u).toNat)^n*S
def eu (h:Int):Int:=min (max (h-1) (-4096)) 4096
theorem uF (n R d V S u:Nat) (h:Int) (hn:0<n) (qH:9007199254740992<=R) (hR2:R<2^100) (hd:d<=1) (hu0:149<=u) (hu1:u<=1074) (hI:Gm n R d V S u h) :
 Alike n ((2*R+d)*2^(eu h+u).toNat) (2^(-(eu h+u)).toNat) V S:=by
 have hS:=hI.pos
 have hlo:(R*2^(h+u).toNat)^n*S<=V*(2^(-(h+u)).toNat)^n:=by
  rcases kG d with q|q
  · rw [hI.one q];exact aA _
  · exact lK (hI.in' (by omega)).1
 have hhi:V*(2^(-(h+u)).toNat)^n<((R+1)*2^(h+u).toNat)^n*S:=by
  rcases kG d with q|q
  · rw [hI.one q];exact fq ((iX hn).2 (fq (by omega) (aY _))) hS
  · exact (hI.in' (by omega)).2
 by_cases h1:h-1 < -4096
 · have hc:eu h=-4096:=by unfold eu;omega
   rw [hc];have e1:((-4096:Int)+u).toNat=0:=by omega
   have e2:(h+u).toNat=0:=by omega
   rw [e1,fo,eG];rw [e2,fo,eG] at hlo hhi;obtain ⟨q,hq⟩:∃ q,(-(h+u)).toNat=q:=⟨_,rfl⟩;have hq1:3000<=q:=by omega
   rw [hq] at hlo hhi;obtain ⟨q',hq'⟩:∃ q',(-((-4096:Int)+u)).toNat=q':=⟨_,rfl⟩;have hq'1:3000<=q':=by omega
   rw [hq'];have hbig:∀ k,103<=k->2^103<=2^k:=fun k hk=>fe (by decide) hk;have b1:=hbig q (by omega);have b2:=hbig q' (by omega);have e103:(2:Nat)^103=8*2^100:=by decide
   have hqn:0<(2^q)^n:=nR (aY q);refine Gl n _ _ V S hn (by omega) ?_ hS (by omega) ?_
   · rcases kG V with z | z
     · rw [z,eF] at hlo;have:=iA (nR (n:=n) (show 0<R by omega)) hS;omega
     · exact z
   · have s1:2^n*V*(2^q)^n<(2*(R+1))^n*S:=by
      rw [qQ,aL,aL];exact yD hhi (aY n)
     have s2:(2*(R+1))^n*S<=(2^q)^n*S:=fK _ (Nat.pow_le_pow_left (by omega) n);have s3:2^n*V*(2^q)^n<S*(2^q)^n:=by rw [cB S];exact iG s1 s2
     exact (nL hqn).1 s3
 · by_cases h2:4096<h-1
   · have hc:eu h=4096:=by unfold eu;omega
     rw [hc];have e1:(-((4096:Int)+u)).toNat=0:=by omega
     have e2:(-(h+u)).toNat=0:=by omega
     rw [e1,fo];rw [e2,fo,Nat.one_pow,eG] at hlo hhi;obtain ⟨A,hA⟩:∃ A,((4096:Int)+u).toNat=A:=⟨_,rfl⟩;obtain ⟨p,hp⟩:∃ p,(h+u).toNat=p:=⟨_,rfl⟩;rw [hA];rw [hp] at hlo hhi;have hA1:2101<=A:=by omega
     have hp1:2101<=p:=by omega
     have top:∀ c j k,c<=18014398509481984->j<=2046->2101<=k->c*2^j<2^k:=by
      intro c j k hcc hj hk;have h54:(18014398509481984:Nat)=2^54:=by decide
      calc c*2^j<=2^54*2^j:=fK _ (by omega)
       _=2^(54+j):=(aJ _ _ _).symm
       _<2^k:=Nat.pow_lt_pow_right (by decide) (by omega)
     refine K9 n _ _ V S hn ?_ ?_
     · intro c j hcc hj;have t:=top c j A hcc hj hA1;have:2^A<=(2*R+d)*2^A:=yH _ (by omega);rw [eG];omega
     · intro c j hcc hj;have t:=top c j p hcc hj hp1;have t2:2^p<=R*2^p:=yH _ (by omega);have t3:(c*2^j)^n*S<(R*2^p)^n*S:=fq ((iX hn).2 (by omega)) hS;have t4:V<=2^n*V:=yH _ (aY n);omega
   · have hc:eu h=h-1:=by unfold eu;omega
     rw [hc];have sp:=Gj n R (h+u).toNat (-(h+u)).toNat V S d hn hS qH hd hI.one hI.in';refine sp.scale (aY _) (iA (by decide) (aY _)) ?_
     have e:∀ a b c k:Nat,a+1+b=c+k->(2*R+d)*2^a*(2*2^b)=(2*R+d)*2^c*2^k:=by
      intro a b c k hh;rw [aL,aL,<-aJ,<-hh,aJ,dM,aL (2^a)]
     exact e _ _ _ _ (by omega)
def iP (X:Nat) (e f:Int) (u n:Nat):Nat:=X*2^(e-f+(n*u:Nat)).toNat
def gL (Y:Nat) (e f:Int) (u n:Nat):Nat:=Y*2^(-(e-f+(n*u:Nat))).toNat
theorem OZ (X Y:Nat) (e f:Int) (u:Nat) (hY:Y≠0) (hD:OX X Y 64) :
 Gm 1 (dO X Y 64) (if ou X Y 64 then 0 else 1) (iP X e f u 1) (gL Y e f u 1) u (e-f-lq X Y 64-fB Y 64):=by
 have h1:=hD.one;have h2:=hD.low;have h3:=hD.high;generalize dO X Y 64=W at *;generalize lq X Y 64=b at *;generalize fB Y 64=cut at *;generalize ou X Y 64=t at *;have hY0:0<Y:=by omega
 have sides:∀ R:Nat,(R*2^(e-f-b-cut+u).toNat)^1*gL Y e f u 1=R*Y*2^((e-f-b-cut+u).toNat+(-(e-f+(1*u:Nat))).toNat):=by
  intro R;unfold gL;rw [mo,aJ,aL R,aL R,<-aL (2^_) Y,cB (2^_) Y,aL Y]
 have left:iP X e f u 1*(2^(-(e-f-b-cut+u)).toNat)^1=X*2^((e-f+(1*u:Nat)).toNat+(-(e-f-b-cut+u)).toNat):=by
  unfold iP;rw [mo,aJ,aL]
 refine ⟨iA hY0 (aY _),fun hd=>?_,fun hd=>?_⟩
 · have ht:t=true:=by cases t with
    | true=>rfl
    | false=>simp at hd
   rw [left,sides];exact (wZ X (W*Y) _ _ _ _ (by omega)).1 (h1 ht)
 · have ht:t=false:=by cases t with
    | true=>simp at hd
    | false=>rfl
   rw [left,sides,sides];exact ⟨(jO (W*Y) X _ _ _ _ (by omega)).1 (h2 ht),(jO X ((W+1)*Y) _ _ _ _ (by omega)).1 (h3 ht)⟩
theorem YS (W Y k:Nat):W*Y*2^(k+1)=2*W*Y*2^k:=by
 rw [dM,cB (2^k) 2,<-aL,cB (W*Y) 2,<-aL]
def O0 (W:Nat) (x:Int):Nat:=if x%2=0 then W else W/2
def vQ (x:Int):Int:=if x%2=0 then x else x+1
def UW (W:Nat) (x:Int) (t:Bool):Bool:=if x%2=0 then t else t&&decide (W%2=0)
theorem Lb (X Y:Nat) (e f:Int) (u R:Nat) (hY:Y≠0) (hD:OX X Y 129) (x:Int) (hx:x=e-f-lq X Y 129-fB Y 129) (hR:mY (O0 (dO X Y 129) x) R) :
 Gm 2 R (if UW (dO X Y 129) x (ou X Y 129)&&decide (O0 (dO X Y 129) x=R*R) then 0 else 1) (iP X e f u 2) (gL Y e f u 2) u (vQ x/2):=by
 have h1:=hD.one;have h2:=hD.low;have h3:=hD.high;generalize dO X Y 129=W at *;generalize lq X Y 129=b at *;generalize fB Y 129=cut at *;generalize ou X Y 129=t at *;have hY0:0<Y:=by omega
 -- the halved span
 obtain ⟨W',hW'⟩:∃ W',O0 W x=W':=⟨_,rfl⟩;obtain ⟨t',ht'⟩:∃ t',UW W x t=t':=⟨_,rfl⟩;obtain ⟨hh,ehh⟩:∃ hh,vQ x/2=hh:=⟨_,rfl⟩;rw [hW'] at hR;rw [hW',ht',ehh]
 -- V (2^q)^2 against W' (2^p)^2 S,all as powers
 have sides:∀ R:Nat,R*((2^(hh+u).toNat)^2)*gL Y e f u 2=R*Y*2^(2*(hh+u).toNat+(-(e-f+(2*u:Nat))).toNat):=by
  intro R;unfold gL;rw [<-kF,cB (hh+u).toNat 2,aJ,aL R,aL R,<-aL (2^_) Y,cB (2^_) Y,aL Y]
 have left:iP X e f u 2*(2^(-(hh+u)).toNat)^2=X*2^((e-f+(2*u:Nat)).toNat+2*(-(hh+u)).toNat):=by
  unfold iP;rw [<-kF,cB (-(hh+u)).toNat 2,aJ,aL]
 have base:(t'=true->iP X e f u 2*(2^(-(hh+u)).toNat)^2=W'*((2^(hh+u).toNat)^2)*gL Y e f u 2) /\
  (t'=false->W'*((2^(hh+u).toNat)^2)*gL Y e f u 2<iP X e f u 2*(2^(-(hh+u)).toNat)^2/\iP X e f u 2*(2^(-(hh+u)).toNat)^2<(W'+1)*((2^(hh+u).toNat)^2)*gL Y e f u 2):=by
  rw [left,sides,sides]
  by_cases hev:x%2=0
  · have q1:W=W':=by rw [<-hW'];unfold O0;rw [if_pos hev]
    have q2:t=t':=by rw [<-ht'];unfold UW;rw [if_pos hev]
    have q3:2*hh=x:=by rw [<-ehh];unfold vQ;rw [if_pos hev];omega
    subst q1 q2;refine ⟨fun ht=>(wZ X (W*Y) _ _ _ _ (by omega)).1 (h1 ht),fun ht=>⟨(jO (W*Y) X _ _ _ _ (by omega)).1 (h2 ht),(jO X ((W+1)*Y) _ _ _ _ (by omega)).1 (h3 ht)⟩⟩
  · have q1:W/2=W':=by rw [<-hW'];unfold O0;rw [if_neg hev]
    have q2:(t&&decide (W%2=0))=t':=by rw [<-ht'];unfold UW;rw [if_neg hev]
    have q3:2*hh=x+1:=by rw [<-ehh];unfold vQ;rw [if_neg hev];omega
    have two:∀ R,R*Y*2^(2*(hh+u).toNat+(-(e-f+(2*u:Nat))).toNat)=R*Y*2^(2*(hh+u).toNat+(-(e-f+(2*u:Nat))).toNat):=fun R=>rfl;refine ⟨fun ht=>?_,fun ht=>?_⟩
    · rw [<-q2] at ht;simp only [nM,decide_eq_true_eq] at ht;have hw:W=2*W':=by omega
      have b1:=h1 ht.1;rw [hw,show 2*W'*Y*2^(-b).toNat=W'*Y*2^((-b).toNat+1) from (YS _ _ _).symm] at b1;exact (wZ X (W'*Y) _ _ _ _ (by omega)).1 b1
    · have lo:W'*Y*2^((-b).toNat+1)<=W*Y*2^(-b).toNat:=by
       rw [show W'*Y*2^((-b).toNat+1)=2*W'*Y*2^(-b).toNat from YS _ _ _];exact fK _ (fK _ (by omega))
      have hi:(W+1)*Y*2^(-b).toNat<=(W'+1)*Y*2^((-b).toNat+1):=by
       rw [show (W'+1)*Y*2^((-b).toNat+1)=2*(W'+1)*Y*2^(-b).toNat from YS _ _ _];exact fK _ (fK _ (by omega))
      have key:W'*Y*2^((-b).toNat+1)<X*2^(b.toNat+cut)/\X*2^(b.toNat+cut)<(W'+1)*Y*2^((-b).toNat+1):=by
       cases ht2:t with
       | false=>have k1:=h2 ht2;have k2:=h3 ht2;omega
       | true =>
         have k1:=h1 ht2;rw [ht2] at q2
         have hodd:W%2=1:=by
          rw [<-q2] at ht;simp at ht;omega
         have st1:W'*Y*2^((-b).toNat+1)<W*Y*2^(-b).toNat:=by
          rw [show W'*Y*2^((-b).toNat+1)=2*W'*Y*2^(-b).toNat from YS _ _ _];exact fq (fq (by omega) hY0) (aY _)
         have st2:W*Y*2^(-b).toNat<(W'+1)*Y*2^((-b).toNat+1):=by
          rw [show (W'+1)*Y*2^((-b).toNat+1)=2*(W'+1)*Y*2^(-b).toNat from YS _ _ _];exact fq (fq (by omega) hY0) (aY _)
         omega
      exact ⟨(jO (W'*Y) X _ _ _ _ (by omega)).1 key.1,(jO X ((W'+1)*Y) _ _ _ _ (by omega)).1 key.2⟩
 have UX:0<gL Y e f u 2:=iA hY0 (aY _);obtain ⟨qH,hR2⟩:=hR;have ZQ:0<(2^(hh+u).toNat)^2:=nR (aY _)
 have sq:∀ a:Nat,(a*2^(hh+u).toNat)^2*gL Y e f u 2=a*a*((2^(hh+u).toNat)^2)*gL Y e f u 2:=by
  intro a;rw [qQ,Nat.pow_two a]
 have mono:∀ a b:Nat,a<=b->a*((2^(hh+u).toNat)^2)*gL Y e f u 2<=b*((2^(hh+u).toNat)^2)*gL Y e f u 2:=fun a b q=>fK _ (fK _ q);have UY:∀ a b:Nat,a<b->a*((2^(hh+u).toNat)^2)*gL Y e f u 2<b*((2^(hh+u).toNat)^2)*gL Y e f u 2:=fun a b q=>fq (fq q ZQ) UX;refine ⟨UX,fun hd=>?_,fun hd=>?_⟩
 · have hc:t'=true/\W'=R*R:=by
    by_cases q:(t'&&decide (W'=R*R))=true
    · simpa using q
    · rw [if_neg q] at hd;omega
   rw [sq,<-hc.2];exact base.1 hc.1
 · have hc:¬ (t'=true/\W'=R*R):=by
    intro q;rw [if_pos (by simp [q.1,q.2])] at hd;omega
   rw [sq,sq]
   cases ht2:t' with
   | false =>
     obtain ⟨k1,k2⟩:=base.2 ht2;have k3:=mono (R*R) W' qH;have k4:=mono (W'+1) ((R+1)*(R+1)) hR2;omega
   | true =>
     have k1:=base.1 ht2
     have hne:R*R<W':=by
      rcases kJ (R*R) W' with q|q
      · exact q
      · exact absurd ⟨ht2,by omega⟩ hc
     rw [k1];exact ⟨UY _ _ hne,UY _ _ hR2⟩
theorem IX {w:World}{a b:Option Addr}{n c m d:Nat}{xs ys:List Nat}{V U:Nat}{z:Int}(h1:Arg w a n c xs) (h2:Arg w b m d ys) (e:oh (val xs) (val ys)=(V,U,z)) :
 Calls Tryz.prog 163 #[.slice a n c,.slice b m d] w fun r w'=>∃ v u,r=.returned (.tuple #[v,u,.int .i64 z])/\Nt w.heap.size w' v V/\Nt w.heap.size w' u U/\Below w.heap.size w w' :=
 (Re xs ys a b n c m d w.heap.size w h1.len h2.len h1.cap h2.cap (by have:=h1.big;omega) (by have:=h2.big;omega) h1.wf h2.wf h1.rd h2.rd (aA _)).mono
  fun r w' ⟨⟨v,u,h3,h4,h5,h6⟩,hb⟩=>by rw [e] at h3 h4 h5;exact ⟨v,u,h3,h4,h5,hb⟩
theorem O1 {w:World}{a:Option Addr}{n c:Nat}{xs:List Nat}{q l:Nat}(h1:Arg w a n c xs) (hq:mY (val xs) q) (hl:val xs-q*q=l) :
 Calls Tryz.prog 146 #[.slice a n c] w fun r w'=>∃ v u,r=.returned (.tuple #[v,u])/\Nt w.heap.size w' v q/\Nt w.heap.size w' u l/\Below w.heap.size w w' :=
 (M9 xs a n c w.heap.size w h1.len h1.cap h1.big h1.wf h1.rd (aA _)).mono
  fun r w' ⟨q',hq',⟨v,u,h3,h4,h5,h6⟩,hb⟩=>by
   have:=hq'.unique hq;subst this;rw [hl] at h5;exact ⟨v,u,h3,h4,h5,hb⟩
theorem nu {w:World}{a:Option Addr}{n c:Nat}{xs:List Nat}{k:Nat}(h1:Arg w a n c xs) (e:bl (val xs)=k) :
 Calls Tryz.prog 86 #[.slice a n c] w fun r w'=>r=.returned (.int .i64 (k:Nat))/\Below w.heap.size w w':=by
 subst e;exact (oK xs a n c w.heap.size w h1.len h1.cap (by have:=h1.big;omega) h1.wf h1.rd).mono fun r w' ⟨h,e⟩=>⟨h,by rw [e];exact aB _ _⟩
theorem o8 {X V:Nat}{k:Nat}(hX:¬ LG X) (hb:X=0\/bl X+k<=262144) (e:X*2^k=V):aU X (k:Int)=(V,0):=by
 unfold aU;rw [if_neg hX]
 by_cases h0:X=0
 · rw [if_pos h0,<-e,h0,eF]
 · rw [if_neg h0,if_neg (by omega),if_neg (by omega)];simp [e]
theorem tN {X V:Nat}{k:Nat}(hX:¬ LG X) (e:X/2^k=V):aU X (-(k:Int))=(V,0):=by
 unfold aU;rw [if_neg hX]
 by_cases h0:X=0
 · rw [if_pos h0,<-e,h0,Nat.zero_div]
 · rw [if_neg h0]
   by_cases hk:k=0
   · subst hk;rw [if_neg (by simp),if_neg (by have:=mt (uA X).2 hX;omega)];simp at e;simp [e]
   · rw [if_pos (by omega)];simp [e]
theorem Te {X Y:Nat}(h1:¬ LG X) (h2:¬ LG Y) (h:Y≠0) {V U:Nat}(e1:X/Y=V) (e2:X%Y=U):oh X Y=(V,U,0):=by
 unfold oh;rw [if_neg (by simp [h1,h2]),if_neg h,e1,e2]
theorem Gn {w:World}{a b q h:Option Addr}{ca cb cq ch:Nat}(W0 Lf Y H cut Bk Lo Z5 Hs:Nat) (z:Int) (AW:Arg w a (ws W0).length ca (ws W0)) (AL:Arg w b (ws Lf).length cb (ws Lf)) (AY:Arg w q (ws Y).length cq (ws Y)) (AH:Arg w h (ws H).length ch (ws H))
 (hc:cut<=4611686018427387904) (e1:aU H (cut:Int)=(Bk,0)) (e2:og Y Bk=(Lo,0)) (e3:jS W0 Lo=(Z5,0)) (e4:aU Lf (cut:Int)=(Hs,0)) (e5:aX Hs Z5=z)
 (l1:(ws Bk).length<=8192) (l2:(ws Lo).length<=8192) (l3:(ws Z5).length<=8192) (l4:(ws Hs).length<=8192) :
 Calls Tryz.prog 164 #[.slice a (ws W0).length ca,.slice b (ws Lf).length cb,.slice q (ws Y).length cq,.slice h (ws H).length ch,.int .i64 (cut:Nat)] w fun r w'=>r=.returned (.int .i64 z)/\Below w.heap.size w w':=by
 rw [<-ah H] at e1;rw [<-ah Y,<-ah Bk] at e2;rw [<-ah W0,<-ah Lo] at e3;rw [<-ah Lf] at e4;rw [<-ah Hs,<-ah Z5] at e5;have E:=(dK e1 e2 e3 e4 e5);clear e1 e2 e3 e4 e5;have hbel:=aB w.heap.size w;have S0:=(dK hbel AW AL AY AH);clear hbel;clear AW AL AY AH;go_enter Tryz.func164,Tryz.ntmps164;obtain ⟨au,AW,AL,AY,AH⟩:=S0.o;have HC:=hid (eZ (cut:Int) AH E.o.1 (by omega) (by omega));clear au AW AL AY AH;go_wp2_with fail;refine HC.o.mono ?_;rintro r u1 ⟨v,rfl,hN,hb⟩;obtain ⟨a1,c1,rfl,_⟩:=hN.arg (by omega);clear HC;obtain ⟨au,AW,AL,AY,AH⟩:=S0.o;have hbn:=au.trans (hb.mono au.size);have S1:=iM hbn (AW.below hb) (AL.below hb) (AY.below hb) (AH.below hb) (hN.mono au.size);clear au AW AL AY AH;clear hb hbn S0;clear hN;obtain ⟨au,AW,AL,AY,AH,NB⟩:=S1.o;have HC:=hid (vL AY (NB.aR (by omega)).2 E.o.2.1);clear au AW AL AY AH NB;go_wp2_with fail;refine HC.o.mono ?_;rintro r u2 ⟨v,rfl,hN,hb⟩;obtain ⟨a2,c2,rfl,_⟩:=hN.arg (by omega);clear HC;obtain ⟨au,AW,AL,AY,AH,NB⟩:=S1.o;have hbn:=au.trans (hb.mono au.size);have S2:=lZ hbn (AW.below hb) (AL.below hb) (AY.below hb) (AH.below hb) (NB.below hb) (hN.mono au.size);clear au AW AL AY AH NB;clear hb hbn S1;clear hN;obtain ⟨au,AW,AL,AY,AH,NB,NL⟩:=S2.o;have HC:=hid (Rh AW (NL.aR (by omega)).2 E.o.r2.1);clear au AW AL AY AH NB NL;go_wp2_with fail;refine HC.o.mono ?_;rintro r u3 ⟨v,rfl,hN,hb⟩;obtain ⟨a3,c3,rfl,_⟩:=hN.arg (by omega);clear HC;obtain ⟨au,AW,AL,AY,AH,NB,NL⟩:=S2.o;have hbn:=au.trans (hb.mono au.size);have S3:=su hbn (AW.below hb) (AL.below hb) (AY.below hb) (AH.below hb) (NB.below hb) (NL.below hb) (hN.mono au.size);clear au AW AL AY AH NB NL;clear hb hbn S2;clear hN;obtain ⟨au,AW,AL,AY,AH,NB,NL,NT⟩:=S3.o;have HC:=hid (eZ (cut:Int) AL E.o.r3.1 (by omega) (by omega));clear au AW AL AY AH NB NL NT;go_wp2_with fail;refine HC.o.mono ?_;rintro r u4 ⟨v,rfl,hN,hb⟩;obtain ⟨a4,c4,rfl,_⟩:=hN.arg (by omega);clear HC;obtain ⟨au,AW,AL,AY,AH,NB,NL,NT⟩:=S3.o;have hbn:=au.trans (hb.mono au.size);have S4:=QL hbn (AW.below hb) (AL.below hb) (AY.below hb) (AH.below hb) (NB.below hb) (NL.below hb) (NT.below hb) (hN.mono au.size);clear au AW AL AY AH NB NL NT;clear hb hbn S3;clear hN;obtain ⟨au,AW,AL,AY,AH,NB,NL,NT,NS⟩:=S4.o;have HC:=hid (Aj (NS.aR (by omega)).2 (NT.aR (by omega)).2 z E.o.r4);clear au AW AL AY AH NB NL NT NS;go_wp2_with fail;refine HC.o.mono ?_;rintro r u5 ⟨rfl,hb⟩;clear HC;obtain ⟨au,AW,AL,AY,AH,NB,NL,NT,NS⟩:=S4.o;have hbn:=au.trans (hb.mono au.size);have S5:=QL hbn (AW.below hb) (AL.below hb) (AY.below hb) (AH.below hb) (NB.below hb) (NL.below hb) (NT.below hb) (NS.below hb);clear au AW AL AY AH NB NL NT NS;clear hb hbn S4;have hbW:=hid S5.o.1;clear S5 E;go_wp2;go_ret;exact ⟨rfl,hbW.o⟩
def Tk (w:World) (g T:Nat) (x y z:Value):Prop:=w.heap[g]?=some (.cells #[x,y,z] T (0,0))
theorem Tk.lt {w:World}{g T:Nat}{x y z:Value}(h:Tk w g T x y z):g<w.heap.size:=(fP.1 h).1
theorem Tk.below {w w':World}{g T:Nat}{x y z:Value}(h:Tk w g T x y z) (hb:Below w.heap.size w w'):Tk w' g T x y z:=by
 unfold Tk;exact xT
theorem Tk.alloc {w:World}{g T:Nat}{x y z:Value}(h:Tk w g T x y z) (o:Obj):Tk (w.alloc o) g T x y z:=h.below (ae w o)
theorem Tk.new (w:World) (T:Nat) (x y z:Value):Tk (w.alloc (.cells #[x,y,z] T)) w.heap.size T x y z:=gK _ _
theorem Tk.facts {w:World}{g T:Nat}{x y z:Value}(h:Tk w g T x y z) :
 w.cell? ⟨g,0,none⟩=some x/\w.cell? ⟨g,1,none⟩=some y/\w.cell? ⟨g,2,none⟩=some z/\w.frozen? ⟨g,0,none⟩=false/\w.frozen? ⟨g,1,none⟩=false/\w.frozen? ⟨g,2,none⟩=false:=by
 unfold Tk at h;simp [World.cell?,World.frozen?,h]
theorem Tk.set {w:World}{g T:Nat}{x y z:Value}(h:Tk w g T x y z) (a b c:Value):Tk (dh w g a b c) g T a b c:=by
 unfold Tk at h |-;simp [dh,World.setCell,jW,h]
theorem Tk.but {w w':World}{g g' T:Nat}{x y z:Value}(h:Tk w g T x y z) (hb:But g' w w') (hg:g≠g'):Tk w' g T x y z:=by
 unfold Tk;rw [hb.block g h.lt hg];exact h
def Rq (w:World) (g:Nat) (n:Bool) (v:Value) (e:Int) (m:Bool) (u:Value) (f:Int):Prop:=w.heap[g]?=some (.cells #[.bool n,v,.int .i64 e,.bool m,u,.int .i64 f] 73 (0,0))
theorem Rq.lt {w:World}{g:Nat}{n:Bool}{v:Value}{e:Int}{m:Bool}{u:Value}{f:Int}(h:Rq w g n v e m u f):g<w.heap.size:=(fP.1 h).1
theorem Rq.below {w w':World}{g:Nat}{n:Bool}{v:Value}{e:Int}{m:Bool}{u:Value}{f:Int}(h:Rq w g n v e m u f) (hb:Below w.heap.size w w'):Rq w' g n v e m u f:=by
 unfold Rq;exact xT
theorem Rq.alloc {w:World}{g:Nat}{n:Bool}{v:Value}{e:Int}{m:Bool}{u:Value}{f:Int}(h:Rq w g n v e m u f) (o:Obj):Rq (w.alloc o) g n v e m u f:=h.below (ae w o)
theorem Rq.new (w:World) (n:Bool) (v:Value) (e:Int) (m:Bool) (u:Value) (f:Int):Rq (w.alloc (.cells #[.bool n,v,.int .i64 e,.bool m,u,.int .i64 f] 73)) w.heap.size n v e m u f:=gK _ _
theorem Rq.facts {w:World}{g:Nat}{n:Bool}{v:Value}{e:Int}{m:Bool}{u:Value}{f:Int}(h:Rq w g n v e m u f) :
 w.cell? ⟨g,0,none⟩=some (.bool n)/\w.cell? ⟨g,1,none⟩=some v/\w.cell? ⟨g,2,none⟩=some (.int .i64 e)/\w.cell? ⟨g,3,none⟩=some (.bool m)/\w.cell? ⟨g,4,none⟩=some u/\w.cell? ⟨g,5,none⟩=some (.int .i64 f):=by
 unfold Rq at h;simp [World.cell?,h]
theorem Rq.frz {w:World}{g:Nat}{n:Bool}{v:Value}{e:Int}{m:Bool}{u:Value}{f:Int}(h:Rq w g n v e m u f) :
 w.frozen? ⟨g,0,none⟩=false/\w.frozen? ⟨g,1,none⟩=false/\w.frozen? ⟨g,2,none⟩=false/\w.frozen? ⟨g,3,none⟩=false/\w.frozen? ⟨g,4,none⟩=false/\w.frozen? ⟨g,5,none⟩=false:=by
 unfold Rq at h;simp [World.frozen?,h]
abbrev YT (w:World) (g:Nat) (a b c d e f:Value):World:=(((((w.setCell ⟨g,0,none⟩ a).setCell ⟨g,1,none⟩ b).setCell ⟨g,2,none⟩ c).setCell ⟨g,3,none⟩ d).setCell ⟨g,4,none⟩ e).setCell ⟨g,5,none⟩ f
theorem IY (g:Nat) (w:World) (a b c d e f:Value):But g w (YT w g a b c d e f):=((((((But.refl g w).set _ _).set _ _).set _ _).set _ _).set _ _).set _ _
theorem Rq.set {w:World}{g:Nat}{n:Bool}{v:Value}{e:Int}{m:Bool}{u:Value}{f:Int}(h:Rq w g n v e m u f) (n':Bool) (v':Value) (e':Int) (m':Bool) (u':Value) (f':Int) :
 Rq (YT w g (.bool n') v' (.int .i64 e') (.bool m') u' (.int .i64 f')) g n' v' e' m' u' f':=by
 unfold Rq at h |-;simp [YT,World.setCell,jW,h]
theorem Nt.off {lo:Nat}{w w':World}{v:Value}{X g:Nat}(h:Nt lo w v X) (hb:But g w w') (hg:v.ownBlock≠Option.some g):Nt lo w' v X:=by
 refine ⟨h.1,?_⟩;rcases h.2 with hn|⟨g',cap,cur,rfl,hlo,hg',rest⟩
 · exact .inl hn
 · refine .inr ⟨g',cap,cur,rfl,hlo,?_,rest⟩;rw [hb.block g' (fP.1 hg').1 (by intro e;subst e;exact hg (by simp [Value.ownBlock]))];exact hg'
theorem Nt.jy {lo:Nat}{w:World}{v:Value}{X g T:Nat}{C:Array Value}{fz:Nat×Nat}(h:Nt lo w v X) (hT:T≠91) (hg:w.heap[g]?=Option.some (.cells C T fz)):v.ownBlock≠Option.some g:=by
 intro e;rcases h.2 with ⟨rfl,_⟩|⟨g',cap,cur,rfl,_,h2,_⟩
 · simp [Value.ownBlock] at e
 · simp [Value.ownBlock] at e;subst e;rw [hg] at h2;simp at h2;exact hT h2.2.1
theorem Nt.mI {lo:Nat}{w:World}{v:Value}{X g T:Nat}{x y z:Value}(h:Nt lo w v X) (D:Tk w g T x y z) (hT:T≠91) (a b c:Value):Nt lo (dh w g a b c) v X:=h.off (kU g w a b c) (h.jy hT D)
theorem Nt.YU {lo:Nat}{w:World}{v:Value}{X g:Nat}{n:Bool}{p:Value}{e:Int}{m:Bool}{u:Value}{f:Int}(h:Nt lo w v X) (D:Rq w g n p e m u f) (a b c d q r:Value):Nt lo (YT w g a b c d q r) v X:=h.off (IY g w a b c d q r) (h.jy (by decide) D)
theorem bM {B g:Nat}{a w:World}(h:Below B a w) (hB:B<=w.heap.size) (hg:B<=g) (x y z:Value):Below B a (dh w g x y z):=But.below h (kU g w x y z) hB hg
theorem tO {B g:Nat}{a w:World}(h:Below B a w) (hB:B<=w.heap.size) (hg:B<=g) (x y z p q r:Value):Below B a (YT w g x y z p q r):=But.below h (IY g w x y z p q r) hB hg
def Ap (v u:Value):Prop:=∀ g,v.ownBlock=some g->u.ownBlock≠some g
theorem Nt.blk {lo:Nat}{w:World}{v:Value}{X g:Nat}(h:Nt lo w v X) (hg:v.ownBlock=Option.some g):lo<=g/\g<w.heap.size:=by
 rcases h.2 with ⟨rfl,_⟩|⟨g',cap,cur,rfl,h1,h2,_⟩
 · simp [Value.ownBlock] at hg
 · simp [Value.ownBlock] at hg;subst hg;exact ⟨h1,(fP.1 h2).1⟩
theorem Nt.ap {lo:Nat}{w w':World}{v u:Value}{X Y:Nat}(h:Nt lo w v X) (k:Nt w.heap.size w' u Y):Ap v u:=by
 intro g hg hu;have:=(h.blk hg).2;have:=(k.blk hu).1;omega
theorem XF:(ws 0).length=0:=by rw [bu];rfl
end
end Go.Proofs.YteginbngplldaaaGreatDoor
