import Derived.Test.YtfmfhehbdfhnbaaGreatDoorD32cx
import Derived.Test.YtfmfhehbdfhnbaaGreatDoorD8x
import Derived.Test.YtfmfhehbdfhnbaaGreatDoorD15x
import Derived.BigQuiet
import Derived.Deep.Cut
import Derived.Test.YtfmfhehbdfhnbaaGreatDoorW25x
import Derived.Test.YtfmfhehbdfhnbaaGreatDoorD20x
import Derived.Deep.RegionWith
import Derived.Deep.RegionHeld3
import Derived.Deep.CutRange
import Derived.Test.YtfmfhehbdfhnbaaGreatDoorBIeeex
set_option linter.unusedVariables false
set_option linter.unusedSimpArgs false
set_option maxHeartbeats 16000000
set_option maxRecDepth 20000
namespace Go.Proofs.YtfmfhehbdfhnbaaGreatDoor
namespace J
end J
section
open Go.RowKit J
theorem kR(s:Bool)(K:Nat):dI s K=Ieee.double.word s K:=by
 unfold dI;have e:Ieee.double.word s K=(if s then 9223372036854775808+K else K):=rfl;rw[e]
 cases s <;> simp;omega
theorem VR:Ieee.double.infRung<Ieee.double.signWeight:=by rw[B.oO,B.Er];omega
theorem hBin:Ieee.double.binade<=Ieee.double.infRung:=by rw[B.oO,B.Es];omega
theorem qd(x:Nat)(h:x<18446744073709551616):x=dI (aV x) (aK x):=by
 unfold dI aV aK
 by_cases hx:9223372036854775808<=x
 · rw[decide_eq_true hx,if_pos rfl];omega
 · rw[decide_eq_false hx,if_neg aQ];omega
theorem Dz(s:Bool)(K:Nat)(h:K<9223372036854775808):aK (dI s K)=K/\aV (dI s K)=s/\dI s K<18446744073709551616:=by
 unfold aK aV dI
 cases s <;> simp <;> omega
theorem Zg:Ieee.double.leastPlace=-1074:=aj
theorem Rm(a:Nat)(ha:a=1074)(s t:Bool)(K L:Nat)(hK:K<9218868437227405312)(hL:L<9218868437227405312) :
 ∃ R,NE R (vK K*vK L) (2^a)/\Ieee.double.mul (dI s K) (dI t L)=some (dI (s != t) (min R 9218868437227405312)):=by
 obtain⟨m,j,e1,v1⟩:=B.jM Ieee.double s K (by rw[B.oO];exact hK) VR;obtain⟨n,k,e2,v2⟩:=B.jM Ieee.double t L (by rw[B.oO];exact hL) VR
 have hp:vK K*vK L=m*n*2^(j+k):=by
  show B.val Ieee.double K*B.val Ieee.double L=_;rw[<-v1,<-v2,aJ,wo]
 rw[kR,kR];unfold Ieee.Format.mul;rw[e1,e2];show ∃ R,_/\some (Ieee.double.nearest (s ^^ t) (m*n) (Ieee.double.leastPlace+(j:Int)+(Ieee.double.leastPlace+(k:Int))))=_;have hx:(s ^^ t)=(s != t):=by cases s <;> cases t <;> rfl
 rw[hx]
 by_cases hm:m*n=0
 · refine⟨0,Ut.own (aZ _) (by rw[hp,hm,B.val_zero,dL,dL]),?_⟩;unfold Ieee.Format.nearest;rw[if_pos hm,kR,Nat.zero_min]
 · obtain⟨R,h1,h2⟩:=Hu (s != t) (m*n) (j+k) a hm;refine⟨R,by rw[hp];exact h2,?_⟩;rw[show Ieee.double.leastPlace+(j:Int)+(Ieee.double.leastPlace+(k:Int))=Ieee.double.leastPlace+((j+k:Nat):Int)-(a:Int) by rw[Zg,ha];omega,h1,kR,B.oO]
theorem rK_ne{K R:Nat}{t n:Bool}{m:Int}{V S:Nat}(h:I6 K t m V S)(hR:NE R V S):rK 0 n K t m=min R 9218868437227405312:=by
 have hf:=h.fin;have hS:=h.pos
 cases t with
 | true =>
   have:NE K V S:=Ut.own hS (h.one rfl);rw[hR.one this hS];unfold rK;rw[if_pos rfl,iO ae]
 | false =>
   have hlow:B.val Ieee.double K*S<V:=h.low rfl;have hmids:V<B.val Ieee.double (K+1)*S->(m=-1/\2*V<B.val Ieee.double K*S+B.val Ieee.double (K+1)*S\/m=0/\2*V=B.val Ieee.double K*S+B.val Ieee.double (K+1)*S\/m=1/\B.val Ieee.double K*S+B.val Ieee.double (K+1)*S<2*V):=h.NI rfl;have hhigh:V<B.val Ieee.double (K+1)*S\/(K=9218868437227405311/\m=1):=h.high rfl;unfold rK;rw[if_neg aQ]
   by_cases hh:V<B.val Ieee.double (K+1)*S
   · have e:(B.val Ieee.double K+B.val Ieee.double (K+1))*S=B.val Ieee.double K*S+B.val Ieee.double (K+1)*S:=fI _ _ _;have s2:B.val Ieee.double (K+1)*S<B.val Ieee.double (K+2)*S:=dO (B.jL Ieee.double (K+1)) hS;have eU:(B.val Ieee.double (K+1)+B.val Ieee.double (K+2))*S=B.val Ieee.double (K+1)*S+B.val Ieee.double (K+2)*S:=fI _ _ _
     have stay:(2*V<B.val Ieee.double K*S+B.val Ieee.double (K+1)*S\/2*V=B.val Ieee.double K*S+B.val Ieee.double (K+1)*S/\K%2=0)->NE K V S:=by
      intro hc;refine⟨by rw[e];omega,fun h1=>by rw[e] at h1;omega,fun h0=>?_,fun h0 h1=>?_⟩
      · have:=dO (B.bM Ieee.double (show K-1<K by omega)) hS;rw[fI];omega
      · have:=dO (B.bM Ieee.double (show K-1<K by omega)) hS;rw[fI] at h1;omega
     have go:(B.val Ieee.double K*S+B.val Ieee.double (K+1)*S<2*V\/2*V=B.val Ieee.double K*S+B.val Ieee.double (K+1)*S/\K%2=1)->NE (K+1) V S:=by
      intro hc;refine⟨by rw[eU];omega,fun h1=>by rw[eU] at h1;omega,fun h0=>?_,fun h0 h1=>?_⟩
      · rw[show K+1-1=K from rfl,e];omega
      · rw[show K+1-1=K from rfl,e] at h1;omega
     rcases hmids hh with ⟨h1,h2⟩|⟨h1,h2⟩|⟨h1,h2⟩
     · have ho:jU 0 K m n=false:=by unfold jU;subst h1;simp
       rw[ho,if_neg aQ,hR.one (stay (.inl h2)) hS,iO ae]
     · by_cases hp:K%2=1
       · have ho:jU 0 K m n=true:=by unfold jU;subst h1;simp[hp]
         rw[ho,if_pos rfl,hR.one (go (.inr ⟨h2,hp⟩)) hS,iO ae]
       · have ho:jU 0 K m n=false:=by unfold jU;subst h1;simp[hp]
         rw[ho,if_neg aQ,hR.one (stay (.inr ⟨h2,ae⟩)) hS,iO ae]
     · have ho:jU 0 K m n=true:=by unfold jU;subst h1;simp
       rw[ho,if_pos rfl,hR.one (go (.inl h2)) hS,iO ae]
   · obtain⟨h1,h2⟩:K=9218868437227405311/\m=1:=by
      rcases hhigh with q|q
      · exact absurd q hh
      · exact q
     have ho:jU 0 K m n=true:=by unfold jU;subst h2;simp
     rw[ho,if_pos rfl]
     have hRi:9218868437227405312<=R:=by
      apply Bg;intro hlt;have u:=hR.up;have m1:B.val Ieee.double R*S<B.val Ieee.double (R+1)*S:=dO (B.jL Ieee.double R) hS;have m2:B.val Ieee.double (R+1)*S<=B.val Ieee.double (K+1)*S:=eZ S (PI ae);rw[fI] at u;omega
     rw[Nat.min_eq_right hRi];omega
theorem rW_ne{n:Bool}{X:Nat}{e:Int}(F:o8 n X e)(hX:X≠0)(Bs:Int)(hB:Bs<=-1048576){V U S R:Nat}(h1:X*2^(e-Bs).toNat=V*S)(h2:2^(-1074-Bs).toNat=U*S)(hR:NE R V U):rW 0 n X e=min R 9218868437227405312:=by
 have ho:=ug F hX;have L:=lies X e ho F.down F.up Bs (by have:=F.down;omega) ae
 have hS:0<S:=by
  rcases jZ S with h|h
  · rw[h,jY] at h2;have:=aZ (-1074-Bs).toNat;omega
  · exact h
 unfold rW;rw[if_neg hX,xS];rw[h1,h2] at L;exact rK_ne L (hR.scale S hS)
theorem exU(a:Nat):∃ u:Nat,u=2^a:=⟨_,rfl⟩
def EU:Nat:=1074
def ES:Nat:=2095004
def EH:Nat:=1047502
noncomputable def UU:Nat:=Classical.choose (exU EU)
noncomputable def SS:Nat:=Classical.choose (exU ES)
theorem Zh:UU=2^EU:=CO (exU EU)
theorem VS:SS=2^ES:=CO (exU ES)
theorem S_pos:0<SS:=by rw[VS];exact aZ _
theorem EUS:EU+ES=2096078:=by unfold EU ES;rfl
theorem EHH:EH+EH=ES:=by unfold EH ES;rfl
theorem US(a:Nat)(h:a=2096078):2^a=UU*SS:=by
 rw[Zh,VS,<-aJ,EUS,h]
theorem mkSz(n:Bool)(e:Int):mkS n 0 e=some (false,0,0):=by unfold mkS;rw[if_pos rfl]
structure Fo (o:Option (Bool×Nat×Int)) (z:Int) (L H:Int):Prop where
 ex:∃ n X e,o=some (n,X,e)/\o8 n X e/\zv (-2097152) (n,X,e)=z*(SS:Int)/\(X=0\/L<=e/\e+(bl X:Int)<=H)
theorem Fo.Zi{n:Bool}{X:Nat}{e z L H:Int}(h:Fo (some (n,X,e)) z L H):o8 n X e/\zv (-2097152) (n,X,e)=z*(SS:Int)/\(X=0\/L<=e/\e+(bl X:Int)<=H):=by
 obtain⟨n',X',e',h1,h2,h3,h4⟩:=h.ex
 cases h1
 exact⟨h2,h3,h4⟩
theorem Rn(n:Bool)(Z:Nat)(f L H:Int)(hZ:Z≠0)(h1:L<=f)(h2:f+(bl Z:Int)<=H)(hL:-1000000<=L)(hH:H<=1000000)(hd:H-L<=262144) :
 ∃ X e,mkS n Z f=some (n,X,e)/\X≠0/\L<=e/\e+(bl X:Int)<=H:=by
 obtain⟨m,e0,e1,e2⟩:=jb Z hZ;unfold mkS;rw[if_neg hZ,if_neg ae];exact⟨_,_,rfl,ae,ae,ae⟩
theorem blLe{X m:Nat}(h:X<2^m):bl X<=m:=by
 apply Bg;intro hh;have:=(wD X m).1 hh;omega
theorem X0(X:Nat):X<2^bl X:=iT X
theorem zvUp{x:Bool×Nat×Int}(B C:Int)(hB:x.2.1=0\/B<=x.2.2)(hC:C<=B):zv C x=zv B x*((2^(B-C).toNat:Nat):Int):=by
 unfold zv;rcases hB with h|h
 · rw[h];simp
 · rw[show(x.2.2-C).toNat=(x.2.2-B).toNat+(B-C).toNat by omega,aJ,<-aM,gM,kE]
theorem wide1(a:Nat)(h:a=1048576):∀ x:Int,x*(UU:Int)*(SS:Int)=x*((2^EH:Nat):Int)*((2^a:Nat):Int):=by
 intro x;have e:EU+ES=EH+a:=by rw[h];unfold EU ES EH;rfl
 have e2:UU*SS=2^EH*2^a:=by rw[Zh,VS,<-aJ,<-aJ,e]
 rw[kE,kE,<-gM,<-gM,e2]
theorem Fo.mul{o p:Option (Bool×Nat×Int)}{x y L H:Int}(h1:Fo o (x*(UU:Int)) L H)(h2:Fo p (y*(UU:Int)) L H)(hL:-500000<=L)(hH:H<=500000)(hd:H-L<=131072):Fo (fu o p) (x*y) (2*L) (2*H):=by
 obtain⟨n1,X1,e1,r1,F1,v1,b1⟩:=h1.ex;obtain⟨n2,X2,e2,r2,F2,v2,b2⟩:=h2.ex
 have sz:∃ n Z g,fu o p=some (n,Z,g)/\(Z=0\/2*L<=g/\g+(bl Z:Int)<=2*H):=by
  rw[r1,r2];unfold fu Q5;simp only
  by_cases hZ:X1*X2=0
  · rw[hZ,mkSz];exact⟨_,_,_,rfl,.inl rfl⟩
  · have hX:X1≠0:=fun h=>hZ (by rw[h,dL]);have hY:X2≠0:=fun h=>hZ (by rw[h,jY]);have hb:bl (X1*X2)<=bl X1+bl X2:=blLe (by rw[aJ];exact rH (X0 X1) (X0 X2));obtain⟨X',e',k1,k2,k3,k4⟩:=Rn (n1 != n2) (X1*X2) (e1+e2) (2*L) (2*H) hZ ae ae ae ae ae;exact⟨_,_,_,k1,.inr ⟨k3,k4⟩⟩
 obtain⟨n,Z,g,hz,hb⟩:=sz
 have half:∀ (n:Bool) (X:Nat) (e x:Int),o8 n X e->zv (-2097152) (n,X,e)=x*(UU:Int)*(SS:Int)->zv (-1048576) (n,X,e)=x*((2^EH:Nat):Int):=by
  intro n X e x F hv;have up:=zvUp (x:=(n,X,e)) (-1048576) (-2097152) (.inr F.down) ae;rw[hv] at up;obtain⟨a,ha⟩:∃ a:Nat,(-1048576 - -2097152:Int).toNat=a:=⟨_,rfl⟩;rw[ha,wide1 a ae] at up;exact(Int.eq_of_mul_eq_mul_right (by have:=aZ a;omega) up).symm
 have V:=Fv.mul (B:=-1048576) (C:=-1048576) ae ae ⟨n1,X1,e1,r1,F1,half _ _ _ _ F1 v1⟩ ⟨n2,X2,e2,r2,F2,half _ _ _ _ F2 v2⟩ (by rw[hz];rfl);obtain⟨n',Z',g',r,F,v⟩:=V.ex;rw[hz] at r
 cases r
 refine⟨n,Z,g,hz,F,?_,hb⟩;rw[show(-2097152:Int)=-1048576+-1048576 by omega,v,VS,<-EHH,aJ,gM];simp only[kE,Int.mul_left_comm,yC]
end
section
open Go.RowKit

theorem NJ (x y:Nat) (nx ny:Bool) (w:World)
 (H1:Hid (∀ u,Calls Tryz.prog 72 #[.float .f64 x] u fun r w'=>r=.returned (.bool nx)/\w'=u))
 (H2:Hid (∀ u,Calls Tryz.prog 72 #[.float .f64 y] u fun r w'=>r=.returned (.bool ny)/\w'=u))
 (H3:Hid (∀ u,Calls Tryz.prog 73 #[.float .f64 x] u fun r w'=>r=.returned (.bool true)/\w'=u))
 (H4:Hid (∀ u,Calls Tryz.prog 73 #[.float .f64 y] u fun r w'=>r=.returned (.bool true)/\w'=u))
 (H5:Hid (∀ u,Calls Tryz.prog 74 #[.float .f64 x] u fun r w'=>r=.returned (.bool false)/\w'=u))
 (H6:Hid (∀ u,Calls Tryz.prog 74 #[.float .f64 y] u fun r w'=>r=.returned (.bool false)/\w'=u))
 (H7:Hid (∀ u,Calls Tryz.prog 36 #[.float .f64 x] u fun r w'=>r=.returned (.bool false)/\w'=u))
 (H8:Hid (∀ u,Calls Tryz.prog 36 #[.float .f64 y] u fun r w'=>r=.returned (.bool false)/\w'=u)) :
 Calls Tryz.prog 41 #[.float .f64 x,.float .f64 y] w fun r w'=>r=.returned (.float .f64 jh)/\Below w.heap.size w w':=by
 have HO:=hid fun u=>j4 u;go_enter Tryz.func41,Tryz.ntmps41;go_wp2_with fail;refine(aF (H1.o _)) ?_;rintro r wx ⟨rfl,hw⟩;rw[hw];clear hw wx H1;go_wp2_with fail;refine(aF (H2.o _)) ?_;rintro r wx ⟨rfl,hw⟩;rw[hw];clear hw wx H2;go_wp2_with fail;refine(aF (H3.o _)) ?_;rintro r wx ⟨rfl,hw⟩;rw[hw];clear hw wx H3;go_wp2_with fail;refine(aF (H4.o _)) ?_;rintro r wx ⟨rfl,hw⟩;rw[hw];clear hw wx H4;go_wp2_with fail;refine(aF (H5.o _)) ?_;rintro r wx ⟨rfl,hw⟩;rw[hw];clear hw wx H5;go_wp2_with fail;refine(aF (H6.o _)) ?_;rintro r wx ⟨rfl,hw⟩;rw[hw];clear hw wx H6;go_wp2_with fail;refine(aF (H7.o _)) ?_;rintro r wx ⟨rfl,hw⟩;rw[hw];clear hw wx H7;go_wp2_with fail;refine(aF (H8.o _)) ?_;rintro r wx ⟨rfl,hw⟩;rw[hw];clear hw wx H8;go_wp2_with fail;refine(aF (HO.o _)) ?_;rintro r wx ⟨rfl,hw⟩;rw[hw];clear hw wx HO;go_wp2;exact aG (v:=.float .f64 jh) (by simp[results,Tryz.results41,go_sem]) rfl ⟨rfl,(by repeat (first | exact aD _ _ | refine gF ?_))⟩
theorem NK (x y:Nat) (nx ny:Bool) (w:World)
 (H1:Hid (∀ u,Calls Tryz.prog 72 #[.float .f64 x] u fun r w'=>r=.returned (.bool nx)/\w'=u))
 (H2:Hid (∀ u,Calls Tryz.prog 72 #[.float .f64 y] u fun r w'=>r=.returned (.bool ny)/\w'=u))
 (H3:Hid (∀ u,Calls Tryz.prog 73 #[.float .f64 x] u fun r w'=>r=.returned (.bool true)/\w'=u))
 (H4:Hid (∀ u,Calls Tryz.prog 73 #[.float .f64 y] u fun r w'=>r=.returned (.bool false)/\w'=u))
 (H5:Hid (∀ u,Calls Tryz.prog 74 #[.float .f64 x] u fun r w'=>r=.returned (.bool false)/\w'=u))
 (H6:Hid (∀ u,Calls Tryz.prog 74 #[.float .f64 y] u fun r w'=>r=.returned (.bool true)/\w'=u))
 (H7:Hid (∀ u,Calls Tryz.prog 36 #[.float .f64 x] u fun r w'=>r=.returned (.bool false)/\w'=u))
 (H8:Hid (∀ u,Calls Tryz.prog 36 #[.float .f64 y] u fun r w'=>r=.returned (.bool false)/\w'=u)) :
 Calls Tryz.prog 41 #[.float .f64 x,.float .f64 y] w fun r w'=>r=.returned (.float .f64 jh)/\Below w.heap.size w w':=by
 have HO:=hid fun u=>j4 u;go_enter Tryz.func41,Tryz.ntmps41;go_wp2_with fail;refine(aF (H1.o _)) ?_;rintro r wx ⟨rfl,hw⟩;rw[hw];clear hw wx H1;go_wp2_with fail;refine(aF (H2.o _)) ?_;rintro r wx ⟨rfl,hw⟩;rw[hw];clear hw wx H2;go_wp2_with fail;refine(aF (H3.o _)) ?_;rintro r wx ⟨rfl,hw⟩;rw[hw];clear hw wx H3;go_wp2_with fail;refine(aF (H4.o _)) ?_;rintro r wx ⟨rfl,hw⟩;rw[hw];clear hw wx H4;go_wp2_with fail;refine(aF (H5.o _)) ?_;rintro r wx ⟨rfl,hw⟩;rw[hw];clear hw wx H5;go_wp2_with fail;refine(aF (H6.o _)) ?_;rintro r wx ⟨rfl,hw⟩;rw[hw];clear hw wx H6;go_wp2_with fail;refine(aF (H7.o _)) ?_;rintro r wx ⟨rfl,hw⟩;rw[hw];clear hw wx H7;go_wp2_with fail;refine(aF (H8.o _)) ?_;rintro r wx ⟨rfl,hw⟩;rw[hw];clear hw wx H8;go_wp2_with fail;refine(aF (HO.o _)) ?_;rintro r wx ⟨rfl,hw⟩;rw[hw];clear hw wx HO;go_wp2;exact aG (v:=.float .f64 jh) (by simp[results,Tryz.results41,go_sem]) rfl ⟨rfl,(by repeat (first | exact aD _ _ | refine gF ?_))⟩
theorem NM (x y:Nat) (nx ny:Bool) (w:World)
 (H1:Hid (∀ u,Calls Tryz.prog 72 #[.float .f64 x] u fun r w'=>r=.returned (.bool nx)/\w'=u))
 (H2:Hid (∀ u,Calls Tryz.prog 72 #[.float .f64 y] u fun r w'=>r=.returned (.bool ny)/\w'=u))
 (H3:Hid (∀ u,Calls Tryz.prog 73 #[.float .f64 x] u fun r w'=>r=.returned (.bool true)/\w'=u))
 (H4:Hid (∀ u,Calls Tryz.prog 73 #[.float .f64 y] u fun r w'=>r=.returned (.bool false)/\w'=u))
 (H5:Hid (∀ u,Calls Tryz.prog 74 #[.float .f64 x] u fun r w'=>r=.returned (.bool false)/\w'=u))
 (H6:Hid (∀ u,Calls Tryz.prog 74 #[.float .f64 y] u fun r w'=>r=.returned (.bool false)/\w'=u))
 (H7:Hid (∀ u,Calls Tryz.prog 36 #[.float .f64 x] u fun r w'=>r=.returned (.bool false)/\w'=u))
 (H8:Hid (∀ u,Calls Tryz.prog 36 #[.float .f64 y] u fun r w'=>r=.returned (.bool true)/\w'=u)) :
 Calls Tryz.prog 41 #[.float .f64 x,.float .f64 y] w fun r w'=>r=.returned (.float .f64 jh)/\Below w.heap.size w w':=by
 have HO:=hid fun u=>j4 u;go_enter Tryz.func41,Tryz.ntmps41;go_wp2_with fail;refine(aF (H1.o _)) ?_;rintro r wx ⟨rfl,hw⟩;rw[hw];clear hw wx H1;go_wp2_with fail;refine(aF (H2.o _)) ?_;rintro r wx ⟨rfl,hw⟩;rw[hw];clear hw wx H2;go_wp2_with fail;refine(aF (H3.o _)) ?_;rintro r wx ⟨rfl,hw⟩;rw[hw];clear hw wx H3;go_wp2_with fail;refine(aF (H4.o _)) ?_;rintro r wx ⟨rfl,hw⟩;rw[hw];clear hw wx H4;go_wp2_with fail;refine(aF (H5.o _)) ?_;rintro r wx ⟨rfl,hw⟩;rw[hw];clear hw wx H5;go_wp2_with fail;refine(aF (H6.o _)) ?_;rintro r wx ⟨rfl,hw⟩;rw[hw];clear hw wx H6;go_wp2_with fail;refine(aF (H7.o _)) ?_;rintro r wx ⟨rfl,hw⟩;rw[hw];clear hw wx H7;go_wp2_with fail;refine(aF (H8.o _)) ?_;rintro r wx ⟨rfl,hw⟩;rw[hw];clear hw wx H8;go_wp2_with fail;refine(aF (HO.o _)) ?_;rintro r wx ⟨rfl,hw⟩;rw[hw];clear hw wx HO;go_wp2;exact aG (v:=.float .f64 jh) (by simp[results,Tryz.results41,go_sem]) rfl ⟨rfl,(by repeat (first | exact aD _ _ | refine gF ?_))⟩
theorem NN (x y:Nat) (nx ny:Bool) (w:World)
 (H1:Hid (∀ u,Calls Tryz.prog 72 #[.float .f64 x] u fun r w'=>r=.returned (.bool nx)/\w'=u))
 (H2:Hid (∀ u,Calls Tryz.prog 72 #[.float .f64 y] u fun r w'=>r=.returned (.bool ny)/\w'=u))
 (H3:Hid (∀ u,Calls Tryz.prog 73 #[.float .f64 x] u fun r w'=>r=.returned (.bool true)/\w'=u))
 (H4:Hid (∀ u,Calls Tryz.prog 73 #[.float .f64 y] u fun r w'=>r=.returned (.bool false)/\w'=u))
 (H5:Hid (∀ u,Calls Tryz.prog 74 #[.float .f64 x] u fun r w'=>r=.returned (.bool false)/\w'=u))
 (H6:Hid (∀ u,Calls Tryz.prog 74 #[.float .f64 y] u fun r w'=>r=.returned (.bool false)/\w'=u))
 (H7:Hid (∀ u,Calls Tryz.prog 36 #[.float .f64 x] u fun r w'=>r=.returned (.bool false)/\w'=u))
 (H8:Hid (∀ u,Calls Tryz.prog 36 #[.float .f64 y] u fun r w'=>r=.returned (.bool false)/\w'=u)) :
 Calls Tryz.prog 41 #[.float .f64 x,.float .f64 y] w fun r w'=>r=.returned (.float .f64 jh)/\Below w.heap.size w w':=by
 have HO:=hid fun u=>j4 u;go_enter Tryz.func41,Tryz.ntmps41;go_wp2_with fail;refine(aF (H1.o _)) ?_;rintro r wx ⟨rfl,hw⟩;rw[hw];clear hw wx H1;go_wp2_with fail;refine(aF (H2.o _)) ?_;rintro r wx ⟨rfl,hw⟩;rw[hw];clear hw wx H2;go_wp2_with fail;refine(aF (H3.o _)) ?_;rintro r wx ⟨rfl,hw⟩;rw[hw];clear hw wx H3;go_wp2_with fail;refine(aF (H4.o _)) ?_;rintro r wx ⟨rfl,hw⟩;rw[hw];clear hw wx H4;go_wp2_with fail;refine(aF (H5.o _)) ?_;rintro r wx ⟨rfl,hw⟩;rw[hw];clear hw wx H5;go_wp2_with fail;refine(aF (H6.o _)) ?_;rintro r wx ⟨rfl,hw⟩;rw[hw];clear hw wx H6;go_wp2_with fail;refine(aF (H7.o _)) ?_;rintro r wx ⟨rfl,hw⟩;rw[hw];clear hw wx H7;go_wp2_with fail;refine(aF (H8.o _)) ?_;rintro r wx ⟨rfl,hw⟩;rw[hw];clear hw wx H8;go_wp2_with fail;refine(aF (HO.o _)) ?_;rintro r wx ⟨rfl,hw⟩;rw[hw];clear hw wx HO;go_wp2;exact aG (v:=.float .f64 jh) (by simp[results,Tryz.results41,go_sem]) rfl ⟨rfl,(by repeat (first | exact aD _ _ | refine gF ?_))⟩
theorem NP (x y:Nat) (nx ny:Bool) (w:World)
 (H1:Hid (∀ u,Calls Tryz.prog 72 #[.float .f64 x] u fun r w'=>r=.returned (.bool nx)/\w'=u))
 (H2:Hid (∀ u,Calls Tryz.prog 72 #[.float .f64 y] u fun r w'=>r=.returned (.bool ny)/\w'=u))
 (H3:Hid (∀ u,Calls Tryz.prog 73 #[.float .f64 x] u fun r w'=>r=.returned (.bool false)/\w'=u))
 (H4:Hid (∀ u,Calls Tryz.prog 73 #[.float .f64 y] u fun r w'=>r=.returned (.bool true)/\w'=u))
 (H5:Hid (∀ u,Calls Tryz.prog 74 #[.float .f64 x] u fun r w'=>r=.returned (.bool true)/\w'=u))
 (H6:Hid (∀ u,Calls Tryz.prog 74 #[.float .f64 y] u fun r w'=>r=.returned (.bool false)/\w'=u))
 (H7:Hid (∀ u,Calls Tryz.prog 36 #[.float .f64 x] u fun r w'=>r=.returned (.bool false)/\w'=u))
 (H8:Hid (∀ u,Calls Tryz.prog 36 #[.float .f64 y] u fun r w'=>r=.returned (.bool false)/\w'=u)) :
 Calls Tryz.prog 41 #[.float .f64 x,.float .f64 y] w fun r w'=>r=.returned (.float .f64 jh)/\Below w.heap.size w w':=by
 have HO:=hid fun u=>j4 u;go_enter Tryz.func41,Tryz.ntmps41;go_wp2_with fail;refine(aF (H1.o _)) ?_;rintro r wx ⟨rfl,hw⟩;rw[hw];clear hw wx H1;go_wp2_with fail;refine(aF (H2.o _)) ?_;rintro r wx ⟨rfl,hw⟩;rw[hw];clear hw wx H2;go_wp2_with fail;refine(aF (H3.o _)) ?_;rintro r wx ⟨rfl,hw⟩;rw[hw];clear hw wx H3;go_wp2_with fail;refine(aF (H4.o _)) ?_;rintro r wx ⟨rfl,hw⟩;rw[hw];clear hw wx H4;go_wp2_with fail;refine(aF (H5.o _)) ?_;rintro r wx ⟨rfl,hw⟩;rw[hw];clear hw wx H5;go_wp2_with fail;refine(aF (H6.o _)) ?_;rintro r wx ⟨rfl,hw⟩;rw[hw];clear hw wx H6;go_wp2_with fail;refine(aF (H7.o _)) ?_;rintro r wx ⟨rfl,hw⟩;rw[hw];clear hw wx H7;go_wp2_with fail;refine(aF (H8.o _)) ?_;rintro r wx ⟨rfl,hw⟩;rw[hw];clear hw wx H8;go_wp2_with fail;refine(aF (HO.o _)) ?_;rintro r wx ⟨rfl,hw⟩;rw[hw];clear hw wx HO;go_wp2;exact aG (v:=.float .f64 jh) (by simp[results,Tryz.results41,go_sem]) rfl ⟨rfl,(by repeat (first | exact aD _ _ | refine gF ?_))⟩
theorem NU (x y:Nat) (nx ny:Bool) (w:World)
 (H1:Hid (∀ u,Calls Tryz.prog 72 #[.float .f64 x] u fun r w'=>r=.returned (.bool nx)/\w'=u))
 (H2:Hid (∀ u,Calls Tryz.prog 72 #[.float .f64 y] u fun r w'=>r=.returned (.bool ny)/\w'=u))
 (H3:Hid (∀ u,Calls Tryz.prog 73 #[.float .f64 x] u fun r w'=>r=.returned (.bool false)/\w'=u))
 (H4:Hid (∀ u,Calls Tryz.prog 73 #[.float .f64 y] u fun r w'=>r=.returned (.bool false)/\w'=u))
 (H5:Hid (∀ u,Calls Tryz.prog 74 #[.float .f64 x] u fun r w'=>r=.returned (.bool true)/\w'=u))
 (H6:Hid (∀ u,Calls Tryz.prog 74 #[.float .f64 y] u fun r w'=>r=.returned (.bool true)/\w'=u))
 (H7:Hid (∀ u,Calls Tryz.prog 36 #[.float .f64 x] u fun r w'=>r=.returned (.bool false)/\w'=u))
 (H8:Hid (∀ u,Calls Tryz.prog 36 #[.float .f64 y] u fun r w'=>r=.returned (.bool false)/\w'=u)) :
 Calls Tryz.prog 41 #[.float .f64 x,.float .f64 y] w fun r w'=>r=.returned (.float .f64 (dI (nx != ny) 9218868437227405312))/\Below w.heap.size w w':=by
 have HO:=hid fun u=>jP 9218868437227405312 aj (nx != ny) u;go_enter Tryz.func41,Tryz.ntmps41;go_wp2_with fail;refine(aF (H1.o _)) ?_;rintro r wx ⟨rfl,hw⟩;rw[hw];clear hw wx H1;go_wp2_with fail;refine(aF (H2.o _)) ?_;rintro r wx ⟨rfl,hw⟩;rw[hw];clear hw wx H2;go_wp2_with fail;refine(aF (H3.o _)) ?_;rintro r wx ⟨rfl,hw⟩;rw[hw];clear hw wx H3;go_wp2_with fail;refine(aF (H4.o _)) ?_;rintro r wx ⟨rfl,hw⟩;rw[hw];clear hw wx H4;go_wp2_with fail;refine(aF (H5.o _)) ?_;rintro r wx ⟨rfl,hw⟩;rw[hw];clear hw wx H5;go_wp2_with fail;refine(aF (H6.o _)) ?_;rintro r wx ⟨rfl,hw⟩;rw[hw];clear hw wx H6;go_wp2_with fail;refine(aF (H7.o _)) ?_;rintro r wx ⟨rfl,hw⟩;rw[hw];clear hw wx H7;go_wp2_with fail;refine(aF (H8.o _)) ?_;rintro r wx ⟨rfl,hw⟩;rw[hw];clear hw wx H8;go_wp2_with fail;refine(aF (HO.o _)) ?_;rintro r wx ⟨rfl,hw⟩;rw[hw];clear hw wx HO;go_wp2;exact aG (v:=.float .f64 (dI (nx != ny) 9218868437227405312)) (by simp[results,Tryz.results41,go_sem]) rfl ⟨rfl,(by repeat (first | exact aD _ _ | refine gF ?_))⟩
theorem N7 (x y:Nat) (nx ny:Bool) (w:World)
 (H1:Hid (∀ u,Calls Tryz.prog 72 #[.float .f64 x] u fun r w'=>r=.returned (.bool nx)/\w'=u))
 (H2:Hid (∀ u,Calls Tryz.prog 72 #[.float .f64 y] u fun r w'=>r=.returned (.bool ny)/\w'=u))
 (H3:Hid (∀ u,Calls Tryz.prog 73 #[.float .f64 x] u fun r w'=>r=.returned (.bool false)/\w'=u))
 (H4:Hid (∀ u,Calls Tryz.prog 73 #[.float .f64 y] u fun r w'=>r=.returned (.bool false)/\w'=u))
 (H5:Hid (∀ u,Calls Tryz.prog 74 #[.float .f64 x] u fun r w'=>r=.returned (.bool true)/\w'=u))
 (H6:Hid (∀ u,Calls Tryz.prog 74 #[.float .f64 y] u fun r w'=>r=.returned (.bool false)/\w'=u))
 (H7:Hid (∀ u,Calls Tryz.prog 36 #[.float .f64 x] u fun r w'=>r=.returned (.bool false)/\w'=u))
 (H8:Hid (∀ u,Calls Tryz.prog 36 #[.float .f64 y] u fun r w'=>r=.returned (.bool true)/\w'=u)) :
 Calls Tryz.prog 41 #[.float .f64 x,.float .f64 y] w fun r w'=>r=.returned (.float .f64 jh)/\Below w.heap.size w w':=by
 have HO:=hid fun u=>j4 u;go_enter Tryz.func41,Tryz.ntmps41;go_wp2_with fail;refine(aF (H1.o _)) ?_;rintro r wx ⟨rfl,hw⟩;rw[hw];clear hw wx H1;go_wp2_with fail;refine(aF (H2.o _)) ?_;rintro r wx ⟨rfl,hw⟩;rw[hw];clear hw wx H2;go_wp2_with fail;refine(aF (H3.o _)) ?_;rintro r wx ⟨rfl,hw⟩;rw[hw];clear hw wx H3;go_wp2_with fail;refine(aF (H4.o _)) ?_;rintro r wx ⟨rfl,hw⟩;rw[hw];clear hw wx H4;go_wp2_with fail;refine(aF (H5.o _)) ?_;rintro r wx ⟨rfl,hw⟩;rw[hw];clear hw wx H5;go_wp2_with fail;refine(aF (H6.o _)) ?_;rintro r wx ⟨rfl,hw⟩;rw[hw];clear hw wx H6;go_wp2_with fail;refine(aF (H7.o _)) ?_;rintro r wx ⟨rfl,hw⟩;rw[hw];clear hw wx H7;go_wp2_with fail;refine(aF (H8.o _)) ?_;rintro r wx ⟨rfl,hw⟩;rw[hw];clear hw wx H8;go_wp2_with fail;refine(aF (HO.o _)) ?_;rintro r wx ⟨rfl,hw⟩;rw[hw];clear hw wx HO;go_wp2;exact aG (v:=.float .f64 jh) (by simp[results,Tryz.results41,go_sem]) rfl ⟨rfl,(by repeat (first | exact aD _ _ | refine gF ?_))⟩
theorem N8 (x y:Nat) (nx ny:Bool) (w:World)
 (H1:Hid (∀ u,Calls Tryz.prog 72 #[.float .f64 x] u fun r w'=>r=.returned (.bool nx)/\w'=u))
 (H2:Hid (∀ u,Calls Tryz.prog 72 #[.float .f64 y] u fun r w'=>r=.returned (.bool ny)/\w'=u))
 (H3:Hid (∀ u,Calls Tryz.prog 73 #[.float .f64 x] u fun r w'=>r=.returned (.bool false)/\w'=u))
 (H4:Hid (∀ u,Calls Tryz.prog 73 #[.float .f64 y] u fun r w'=>r=.returned (.bool false)/\w'=u))
 (H5:Hid (∀ u,Calls Tryz.prog 74 #[.float .f64 x] u fun r w'=>r=.returned (.bool true)/\w'=u))
 (H6:Hid (∀ u,Calls Tryz.prog 74 #[.float .f64 y] u fun r w'=>r=.returned (.bool false)/\w'=u))
 (H7:Hid (∀ u,Calls Tryz.prog 36 #[.float .f64 x] u fun r w'=>r=.returned (.bool false)/\w'=u))
 (H8:Hid (∀ u,Calls Tryz.prog 36 #[.float .f64 y] u fun r w'=>r=.returned (.bool false)/\w'=u)) :
 Calls Tryz.prog 41 #[.float .f64 x,.float .f64 y] w fun r w'=>r=.returned (.float .f64 (dI (nx != ny) 9218868437227405312))/\Below w.heap.size w w':=by
 have HO:=hid fun u=>jP 9218868437227405312 aj (nx != ny) u;go_enter Tryz.func41,Tryz.ntmps41;go_wp2_with fail;refine(aF (H1.o _)) ?_;rintro r wx ⟨rfl,hw⟩;rw[hw];clear hw wx H1;go_wp2_with fail;refine(aF (H2.o _)) ?_;rintro r wx ⟨rfl,hw⟩;rw[hw];clear hw wx H2;go_wp2_with fail;refine(aF (H3.o _)) ?_;rintro r wx ⟨rfl,hw⟩;rw[hw];clear hw wx H3;go_wp2_with fail;refine(aF (H4.o _)) ?_;rintro r wx ⟨rfl,hw⟩;rw[hw];clear hw wx H4;go_wp2_with fail;refine(aF (H5.o _)) ?_;rintro r wx ⟨rfl,hw⟩;rw[hw];clear hw wx H5;go_wp2_with fail;refine(aF (H6.o _)) ?_;rintro r wx ⟨rfl,hw⟩;rw[hw];clear hw wx H6;go_wp2_with fail;refine(aF (H7.o _)) ?_;rintro r wx ⟨rfl,hw⟩;rw[hw];clear hw wx H7;go_wp2_with fail;refine(aF (H8.o _)) ?_;rintro r wx ⟨rfl,hw⟩;rw[hw];clear hw wx H8;go_wp2_with fail;refine(aF (HO.o _)) ?_;rintro r wx ⟨rfl,hw⟩;rw[hw];clear hw wx HO;go_wp2;exact aG (v:=.float .f64 (dI (nx != ny) 9218868437227405312)) (by simp[results,Tryz.results41,go_sem]) rfl ⟨rfl,(by repeat (first | exact aD _ _ | refine gF ?_))⟩
theorem N9 (x y:Nat) (nx ny:Bool) (w:World)
 (H1:Hid (∀ u,Calls Tryz.prog 72 #[.float .f64 x] u fun r w'=>r=.returned (.bool nx)/\w'=u))
 (H2:Hid (∀ u,Calls Tryz.prog 72 #[.float .f64 y] u fun r w'=>r=.returned (.bool ny)/\w'=u))
 (H3:Hid (∀ u,Calls Tryz.prog 73 #[.float .f64 x] u fun r w'=>r=.returned (.bool false)/\w'=u))
 (H4:Hid (∀ u,Calls Tryz.prog 73 #[.float .f64 y] u fun r w'=>r=.returned (.bool true)/\w'=u))
 (H5:Hid (∀ u,Calls Tryz.prog 74 #[.float .f64 x] u fun r w'=>r=.returned (.bool false)/\w'=u))
 (H6:Hid (∀ u,Calls Tryz.prog 74 #[.float .f64 y] u fun r w'=>r=.returned (.bool false)/\w'=u))
 (H7:Hid (∀ u,Calls Tryz.prog 36 #[.float .f64 x] u fun r w'=>r=.returned (.bool true)/\w'=u))
 (H8:Hid (∀ u,Calls Tryz.prog 36 #[.float .f64 y] u fun r w'=>r=.returned (.bool false)/\w'=u)) :
 Calls Tryz.prog 41 #[.float .f64 x,.float .f64 y] w fun r w'=>r=.returned (.float .f64 jh)/\Below w.heap.size w w':=by
 have HO:=hid fun u=>j4 u;go_enter Tryz.func41,Tryz.ntmps41;go_wp2_with fail;refine(aF (H1.o _)) ?_;rintro r wx ⟨rfl,hw⟩;rw[hw];clear hw wx H1;go_wp2_with fail;refine(aF (H2.o _)) ?_;rintro r wx ⟨rfl,hw⟩;rw[hw];clear hw wx H2;go_wp2_with fail;refine(aF (H3.o _)) ?_;rintro r wx ⟨rfl,hw⟩;rw[hw];clear hw wx H3;go_wp2_with fail;refine(aF (H4.o _)) ?_;rintro r wx ⟨rfl,hw⟩;rw[hw];clear hw wx H4;go_wp2_with fail;refine(aF (H5.o _)) ?_;rintro r wx ⟨rfl,hw⟩;rw[hw];clear hw wx H5;go_wp2_with fail;refine(aF (H6.o _)) ?_;rintro r wx ⟨rfl,hw⟩;rw[hw];clear hw wx H6;go_wp2_with fail;refine(aF (H7.o _)) ?_;rintro r wx ⟨rfl,hw⟩;rw[hw];clear hw wx H7;go_wp2_with fail;refine(aF (H8.o _)) ?_;rintro r wx ⟨rfl,hw⟩;rw[hw];clear hw wx H8;go_wp2_with fail;refine(aF (HO.o _)) ?_;rintro r wx ⟨rfl,hw⟩;rw[hw];clear hw wx HO;go_wp2;exact aG (v:=.float .f64 jh) (by simp[results,Tryz.results41,go_sem]) rfl ⟨rfl,(by repeat (first | exact aD _ _ | refine gF ?_))⟩
theorem Oa (x y:Nat) (nx ny:Bool) (w:World)
 (H1:Hid (∀ u,Calls Tryz.prog 72 #[.float .f64 x] u fun r w'=>r=.returned (.bool nx)/\w'=u))
 (H2:Hid (∀ u,Calls Tryz.prog 72 #[.float .f64 y] u fun r w'=>r=.returned (.bool ny)/\w'=u))
 (H3:Hid (∀ u,Calls Tryz.prog 73 #[.float .f64 x] u fun r w'=>r=.returned (.bool false)/\w'=u))
 (H4:Hid (∀ u,Calls Tryz.prog 73 #[.float .f64 y] u fun r w'=>r=.returned (.bool false)/\w'=u))
 (H5:Hid (∀ u,Calls Tryz.prog 74 #[.float .f64 x] u fun r w'=>r=.returned (.bool false)/\w'=u))
 (H6:Hid (∀ u,Calls Tryz.prog 74 #[.float .f64 y] u fun r w'=>r=.returned (.bool true)/\w'=u))
 (H7:Hid (∀ u,Calls Tryz.prog 36 #[.float .f64 x] u fun r w'=>r=.returned (.bool true)/\w'=u))
 (H8:Hid (∀ u,Calls Tryz.prog 36 #[.float .f64 y] u fun r w'=>r=.returned (.bool false)/\w'=u)) :
 Calls Tryz.prog 41 #[.float .f64 x,.float .f64 y] w fun r w'=>r=.returned (.float .f64 jh)/\Below w.heap.size w w':=by
 have HO:=hid fun u=>j4 u;go_enter Tryz.func41,Tryz.ntmps41;go_wp2_with fail;refine(aF (H1.o _)) ?_;rintro r wx ⟨rfl,hw⟩;rw[hw];clear hw wx H1;go_wp2_with fail;refine(aF (H2.o _)) ?_;rintro r wx ⟨rfl,hw⟩;rw[hw];clear hw wx H2;go_wp2_with fail;refine(aF (H3.o _)) ?_;rintro r wx ⟨rfl,hw⟩;rw[hw];clear hw wx H3;go_wp2_with fail;refine(aF (H4.o _)) ?_;rintro r wx ⟨rfl,hw⟩;rw[hw];clear hw wx H4;go_wp2_with fail;refine(aF (H5.o _)) ?_;rintro r wx ⟨rfl,hw⟩;rw[hw];clear hw wx H5;go_wp2_with fail;refine(aF (H6.o _)) ?_;rintro r wx ⟨rfl,hw⟩;rw[hw];clear hw wx H6;go_wp2_with fail;refine(aF (H7.o _)) ?_;rintro r wx ⟨rfl,hw⟩;rw[hw];clear hw wx H7;go_wp2_with fail;refine(aF (H8.o _)) ?_;rintro r wx ⟨rfl,hw⟩;rw[hw];clear hw wx H8;go_wp2_with fail;refine(aF (HO.o _)) ?_;rintro r wx ⟨rfl,hw⟩;rw[hw];clear hw wx HO;go_wp2;exact aG (v:=.float .f64 jh) (by simp[results,Tryz.results41,go_sem]) rfl ⟨rfl,(by repeat (first | exact aD _ _ | refine gF ?_))⟩
theorem Ob (x y:Nat) (nx ny:Bool) (w:World)
 (H1:Hid (∀ u,Calls Tryz.prog 72 #[.float .f64 x] u fun r w'=>r=.returned (.bool nx)/\w'=u))
 (H2:Hid (∀ u,Calls Tryz.prog 72 #[.float .f64 y] u fun r w'=>r=.returned (.bool ny)/\w'=u))
 (H3:Hid (∀ u,Calls Tryz.prog 73 #[.float .f64 x] u fun r w'=>r=.returned (.bool false)/\w'=u))
 (H4:Hid (∀ u,Calls Tryz.prog 73 #[.float .f64 y] u fun r w'=>r=.returned (.bool false)/\w'=u))
 (H5:Hid (∀ u,Calls Tryz.prog 74 #[.float .f64 x] u fun r w'=>r=.returned (.bool false)/\w'=u))
 (H6:Hid (∀ u,Calls Tryz.prog 74 #[.float .f64 y] u fun r w'=>r=.returned (.bool false)/\w'=u))
 (H7:Hid (∀ u,Calls Tryz.prog 36 #[.float .f64 x] u fun r w'=>r=.returned (.bool true)/\w'=u))
 (H8:Hid (∀ u,Calls Tryz.prog 36 #[.float .f64 y] u fun r w'=>r=.returned (.bool true)/\w'=u)) :
 Calls Tryz.prog 41 #[.float .f64 x,.float .f64 y] w fun r w'=>r=.returned (.float .f64 (dI (nx != ny) 0))/\Below w.heap.size w w':=by
 have HO:=hid fun u=>jP 0 aj (nx != ny) u;go_enter Tryz.func41,Tryz.ntmps41;go_wp2_with fail;refine(aF (H1.o _)) ?_;rintro r wx ⟨rfl,hw⟩;rw[hw];clear hw wx H1;go_wp2_with fail;refine(aF (H2.o _)) ?_;rintro r wx ⟨rfl,hw⟩;rw[hw];clear hw wx H2;go_wp2_with fail;refine(aF (H3.o _)) ?_;rintro r wx ⟨rfl,hw⟩;rw[hw];clear hw wx H3;go_wp2_with fail;refine(aF (H4.o _)) ?_;rintro r wx ⟨rfl,hw⟩;rw[hw];clear hw wx H4;go_wp2_with fail;refine(aF (H5.o _)) ?_;rintro r wx ⟨rfl,hw⟩;rw[hw];clear hw wx H5;go_wp2_with fail;refine(aF (H6.o _)) ?_;rintro r wx ⟨rfl,hw⟩;rw[hw];clear hw wx H6;go_wp2_with fail;refine(aF (H7.o _)) ?_;rintro r wx ⟨rfl,hw⟩;rw[hw];clear hw wx H7;go_wp2_with fail;refine(aF (H8.o _)) ?_;rintro r wx ⟨rfl,hw⟩;rw[hw];clear hw wx H8;go_wp2_with fail;refine(aF (HO.o _)) ?_;rintro r wx ⟨rfl,hw⟩;rw[hw];clear hw wx HO;go_wp2;exact aG (v:=.float .f64 (dI (nx != ny) 0)) (by simp[results,Tryz.results41,go_sem]) rfl ⟨rfl,(by repeat (first | exact aD _ _ | refine gF ?_))⟩
theorem Oc (x y:Nat) (nx ny:Bool) (w:World)
 (H1:Hid (∀ u,Calls Tryz.prog 72 #[.float .f64 x] u fun r w'=>r=.returned (.bool nx)/\w'=u))
 (H2:Hid (∀ u,Calls Tryz.prog 72 #[.float .f64 y] u fun r w'=>r=.returned (.bool ny)/\w'=u))
 (H3:Hid (∀ u,Calls Tryz.prog 73 #[.float .f64 x] u fun r w'=>r=.returned (.bool false)/\w'=u))
 (H4:Hid (∀ u,Calls Tryz.prog 73 #[.float .f64 y] u fun r w'=>r=.returned (.bool false)/\w'=u))
 (H5:Hid (∀ u,Calls Tryz.prog 74 #[.float .f64 x] u fun r w'=>r=.returned (.bool false)/\w'=u))
 (H6:Hid (∀ u,Calls Tryz.prog 74 #[.float .f64 y] u fun r w'=>r=.returned (.bool false)/\w'=u))
 (H7:Hid (∀ u,Calls Tryz.prog 36 #[.float .f64 x] u fun r w'=>r=.returned (.bool true)/\w'=u))
 (H8:Hid (∀ u,Calls Tryz.prog 36 #[.float .f64 y] u fun r w'=>r=.returned (.bool false)/\w'=u)) :
 Calls Tryz.prog 41 #[.float .f64 x,.float .f64 y] w fun r w'=>r=.returned (.float .f64 (dI (nx != ny) 0))/\Below w.heap.size w w':=by
 have HO:=hid fun u=>jP 0 aj (nx != ny) u;go_enter Tryz.func41,Tryz.ntmps41;go_wp2_with fail;refine(aF (H1.o _)) ?_;rintro r wx ⟨rfl,hw⟩;rw[hw];clear hw wx H1;go_wp2_with fail;refine(aF (H2.o _)) ?_;rintro r wx ⟨rfl,hw⟩;rw[hw];clear hw wx H2;go_wp2_with fail;refine(aF (H3.o _)) ?_;rintro r wx ⟨rfl,hw⟩;rw[hw];clear hw wx H3;go_wp2_with fail;refine(aF (H4.o _)) ?_;rintro r wx ⟨rfl,hw⟩;rw[hw];clear hw wx H4;go_wp2_with fail;refine(aF (H5.o _)) ?_;rintro r wx ⟨rfl,hw⟩;rw[hw];clear hw wx H5;go_wp2_with fail;refine(aF (H6.o _)) ?_;rintro r wx ⟨rfl,hw⟩;rw[hw];clear hw wx H6;go_wp2_with fail;refine(aF (H7.o _)) ?_;rintro r wx ⟨rfl,hw⟩;rw[hw];clear hw wx H7;go_wp2_with fail;refine(aF (H8.o _)) ?_;rintro r wx ⟨rfl,hw⟩;rw[hw];clear hw wx H8;go_wp2_with fail;refine(aF (HO.o _)) ?_;rintro r wx ⟨rfl,hw⟩;rw[hw];clear hw wx HO;go_wp2;exact aG (v:=.float .f64 (dI (nx != ny) 0)) (by simp[results,Tryz.results41,go_sem]) rfl ⟨rfl,(by repeat (first | exact aD _ _ | refine gF ?_))⟩
theorem Od (x y:Nat) (nx ny:Bool) (w:World)
 (H1:Hid (∀ u,Calls Tryz.prog 72 #[.float .f64 x] u fun r w'=>r=.returned (.bool nx)/\w'=u))
 (H2:Hid (∀ u,Calls Tryz.prog 72 #[.float .f64 y] u fun r w'=>r=.returned (.bool ny)/\w'=u))
 (H3:Hid (∀ u,Calls Tryz.prog 73 #[.float .f64 x] u fun r w'=>r=.returned (.bool false)/\w'=u))
 (H4:Hid (∀ u,Calls Tryz.prog 73 #[.float .f64 y] u fun r w'=>r=.returned (.bool true)/\w'=u))
 (H5:Hid (∀ u,Calls Tryz.prog 74 #[.float .f64 x] u fun r w'=>r=.returned (.bool false)/\w'=u))
 (H6:Hid (∀ u,Calls Tryz.prog 74 #[.float .f64 y] u fun r w'=>r=.returned (.bool false)/\w'=u))
 (H7:Hid (∀ u,Calls Tryz.prog 36 #[.float .f64 x] u fun r w'=>r=.returned (.bool false)/\w'=u))
 (H8:Hid (∀ u,Calls Tryz.prog 36 #[.float .f64 y] u fun r w'=>r=.returned (.bool false)/\w'=u)) :
 Calls Tryz.prog 41 #[.float .f64 x,.float .f64 y] w fun r w'=>r=.returned (.float .f64 jh)/\Below w.heap.size w w':=by
 have HO:=hid fun u=>j4 u;go_enter Tryz.func41,Tryz.ntmps41;go_wp2_with fail;refine(aF (H1.o _)) ?_;rintro r wx ⟨rfl,hw⟩;rw[hw];clear hw wx H1;go_wp2_with fail;refine(aF (H2.o _)) ?_;rintro r wx ⟨rfl,hw⟩;rw[hw];clear hw wx H2;go_wp2_with fail;refine(aF (H3.o _)) ?_;rintro r wx ⟨rfl,hw⟩;rw[hw];clear hw wx H3;go_wp2_with fail;refine(aF (H4.o _)) ?_;rintro r wx ⟨rfl,hw⟩;rw[hw];clear hw wx H4;go_wp2_with fail;refine(aF (H5.o _)) ?_;rintro r wx ⟨rfl,hw⟩;rw[hw];clear hw wx H5;go_wp2_with fail;refine(aF (H6.o _)) ?_;rintro r wx ⟨rfl,hw⟩;rw[hw];clear hw wx H6;go_wp2_with fail;refine(aF (H7.o _)) ?_;rintro r wx ⟨rfl,hw⟩;rw[hw];clear hw wx H7;go_wp2_with fail;refine(aF (H8.o _)) ?_;rintro r wx ⟨rfl,hw⟩;rw[hw];clear hw wx H8;go_wp2_with fail;refine(aF (HO.o _)) ?_;rintro r wx ⟨rfl,hw⟩;rw[hw];clear hw wx HO;go_wp2;exact aG (v:=.float .f64 jh) (by simp[results,Tryz.results41,go_sem]) rfl ⟨rfl,(by repeat (first | exact aD _ _ | refine gF ?_))⟩
theorem Oe (x y:Nat) (nx ny:Bool) (w:World)
 (H1:Hid (∀ u,Calls Tryz.prog 72 #[.float .f64 x] u fun r w'=>r=.returned (.bool nx)/\w'=u))
 (H2:Hid (∀ u,Calls Tryz.prog 72 #[.float .f64 y] u fun r w'=>r=.returned (.bool ny)/\w'=u))
 (H3:Hid (∀ u,Calls Tryz.prog 73 #[.float .f64 x] u fun r w'=>r=.returned (.bool false)/\w'=u))
 (H4:Hid (∀ u,Calls Tryz.prog 73 #[.float .f64 y] u fun r w'=>r=.returned (.bool false)/\w'=u))
 (H5:Hid (∀ u,Calls Tryz.prog 74 #[.float .f64 x] u fun r w'=>r=.returned (.bool false)/\w'=u))
 (H6:Hid (∀ u,Calls Tryz.prog 74 #[.float .f64 y] u fun r w'=>r=.returned (.bool true)/\w'=u))
 (H7:Hid (∀ u,Calls Tryz.prog 36 #[.float .f64 x] u fun r w'=>r=.returned (.bool false)/\w'=u))
 (H8:Hid (∀ u,Calls Tryz.prog 36 #[.float .f64 y] u fun r w'=>r=.returned (.bool false)/\w'=u)) :
 Calls Tryz.prog 41 #[.float .f64 x,.float .f64 y] w fun r w'=>r=.returned (.float .f64 (dI (nx != ny) 9218868437227405312))/\Below w.heap.size w w':=by
 have HO:=hid fun u=>jP 9218868437227405312 aj (nx != ny) u;go_enter Tryz.func41,Tryz.ntmps41;go_wp2_with fail;refine(aF (H1.o _)) ?_;rintro r wx ⟨rfl,hw⟩;rw[hw];clear hw wx H1;go_wp2_with fail;refine(aF (H2.o _)) ?_;rintro r wx ⟨rfl,hw⟩;rw[hw];clear hw wx H2;go_wp2_with fail;refine(aF (H3.o _)) ?_;rintro r wx ⟨rfl,hw⟩;rw[hw];clear hw wx H3;go_wp2_with fail;refine(aF (H4.o _)) ?_;rintro r wx ⟨rfl,hw⟩;rw[hw];clear hw wx H4;go_wp2_with fail;refine(aF (H5.o _)) ?_;rintro r wx ⟨rfl,hw⟩;rw[hw];clear hw wx H5;go_wp2_with fail;refine(aF (H6.o _)) ?_;rintro r wx ⟨rfl,hw⟩;rw[hw];clear hw wx H6;go_wp2_with fail;refine(aF (H7.o _)) ?_;rintro r wx ⟨rfl,hw⟩;rw[hw];clear hw wx H7;go_wp2_with fail;refine(aF (H8.o _)) ?_;rintro r wx ⟨rfl,hw⟩;rw[hw];clear hw wx H8;go_wp2_with fail;refine(aF (HO.o _)) ?_;rintro r wx ⟨rfl,hw⟩;rw[hw];clear hw wx HO;go_wp2;exact aG (v:=.float .f64 (dI (nx != ny) 9218868437227405312)) (by simp[results,Tryz.results41,go_sem]) rfl ⟨rfl,(by repeat (first | exact aD _ _ | refine gF ?_))⟩
theorem Og (x y:Nat) (nx ny:Bool) (w:World)
 (H1:Hid (∀ u,Calls Tryz.prog 72 #[.float .f64 x] u fun r w'=>r=.returned (.bool nx)/\w'=u))
 (H2:Hid (∀ u,Calls Tryz.prog 72 #[.float .f64 y] u fun r w'=>r=.returned (.bool ny)/\w'=u))
 (H3:Hid (∀ u,Calls Tryz.prog 73 #[.float .f64 x] u fun r w'=>r=.returned (.bool false)/\w'=u))
 (H4:Hid (∀ u,Calls Tryz.prog 73 #[.float .f64 y] u fun r w'=>r=.returned (.bool false)/\w'=u))
 (H5:Hid (∀ u,Calls Tryz.prog 74 #[.float .f64 x] u fun r w'=>r=.returned (.bool false)/\w'=u))
 (H6:Hid (∀ u,Calls Tryz.prog 74 #[.float .f64 y] u fun r w'=>r=.returned (.bool false)/\w'=u))
 (H7:Hid (∀ u,Calls Tryz.prog 36 #[.float .f64 x] u fun r w'=>r=.returned (.bool false)/\w'=u))
 (H8:Hid (∀ u,Calls Tryz.prog 36 #[.float .f64 y] u fun r w'=>r=.returned (.bool true)/\w'=u)) :
 Calls Tryz.prog 41 #[.float .f64 x,.float .f64 y] w fun r w'=>r=.returned (.float .f64 (dI (nx != ny) 0))/\Below w.heap.size w w':=by
 have HO:=hid fun u=>jP 0 aj (nx != ny) u;go_enter Tryz.func41,Tryz.ntmps41;go_wp2_with fail;refine(aF (H1.o _)) ?_;rintro r wx ⟨rfl,hw⟩;rw[hw];clear hw wx H1;go_wp2_with fail;refine(aF (H2.o _)) ?_;rintro r wx ⟨rfl,hw⟩;rw[hw];clear hw wx H2;go_wp2_with fail;refine(aF (H3.o _)) ?_;rintro r wx ⟨rfl,hw⟩;rw[hw];clear hw wx H3;go_wp2_with fail;refine(aF (H4.o _)) ?_;rintro r wx ⟨rfl,hw⟩;rw[hw];clear hw wx H4;go_wp2_with fail;refine(aF (H5.o _)) ?_;rintro r wx ⟨rfl,hw⟩;rw[hw];clear hw wx H5;go_wp2_with fail;refine(aF (H6.o _)) ?_;rintro r wx ⟨rfl,hw⟩;rw[hw];clear hw wx H6;go_wp2_with fail;refine(aF (H7.o _)) ?_;rintro r wx ⟨rfl,hw⟩;rw[hw];clear hw wx H7;go_wp2_with fail;refine(aF (H8.o _)) ?_;rintro r wx ⟨rfl,hw⟩;rw[hw];clear hw wx H8;go_wp2_with fail;refine(aF (HO.o _)) ?_;rintro r wx ⟨rfl,hw⟩;rw[hw];clear hw wx HO;go_wp2;exact aG (v:=.float .f64 (dI (nx != ny) 0)) (by simp[results,Tryz.results41,go_sem]) rfl ⟨rfl,(by repeat (first | exact aD _ _ | refine gF ?_))⟩

theorem xd{P:Prop}(h:P:=by
 rw[hc2 _ _ (by simp only[dD,World.size_setCell];omega)];simp[go_sem]):P:=h
theorem I7 (x y z:Nat) (nx ny nX nY nS:Bool) (X Y S:Nat) (eX eY eS:Int) (w:World) (lX:(ws X).length<=8192) (lY:(ws Y).length<=8192) (lS:(ws S).length<=8192)
 (H1:Hid (∀ u,Calls Tryz.prog 72 #[.float .f64 x] u fun r w'=>r=.returned (.bool nx)/\w'=u))
 (H2:Hid (∀ u,Calls Tryz.prog 72 #[.float .f64 y] u fun r w'=>r=.returned (.bool ny)/\w'=u))
 (H3:Hid (∀ u,Calls Tryz.prog 73 #[.float .f64 x] u fun r w'=>r=.returned (.bool false)/\w'=u))
 (H4:Hid (∀ u,Calls Tryz.prog 73 #[.float .f64 y] u fun r w'=>r=.returned (.bool false)/\w'=u))
 (H5:Hid (∀ u,Calls Tryz.prog 74 #[.float .f64 x] u fun r w'=>r=.returned (.bool false)/\w'=u))
 (H6:Hid (∀ u,Calls Tryz.prog 74 #[.float .f64 y] u fun r w'=>r=.returned (.bool false)/\w'=u))
 (H7:Hid (∀ u,Calls Tryz.prog 36 #[.float .f64 x] u fun r w'=>r=.returned (.bool false)/\w'=u))
 (H8:Hid (∀ u,Calls Tryz.prog 36 #[.float .f64 y] u fun r w'=>r=.returned (.bool false)/\w'=u))
 (HX:Hid (∀ u,Calls Tryz.prog 77 #[.float .f64 x] u fun r w'=>(∃ v,r=.returned (.tuple #[.agg #[.bool nX,v,.int .i64 eX],.int .i64 0])/\Nt u.heap.size w' v X)/\Below u.heap.size u w'))
 (HY:Hid (∀ u,Calls Tryz.prog 77 #[.float .f64 y] u fun r w'=>(∃ v,r=.returned (.tuple #[.agg #[.bool nY,v,.int .i64 eY],.int .i64 0])/\Nt u.heap.size w' v Y)/\Below u.heap.size u w'))
 (HA:Hid (∀ u a b c d,Arg u a (ws X).length c (ws X)->Arg u b (ws Y).length d (ws Y)->Calls Tryz.prog 31 #[.agg #[.bool nX,.slice a (ws X).length c,.int .i64 eX],.agg #[.bool nY,.slice b (ws Y).length d,.int .i64 eY]] u fun r w'=>(∃ v,r=.returned (.tuple #[.agg #[.bool nS,v,.int .i64 eS],.int .i64 0])/\Nt u.heap.size w' v S)/\Below u.heap.size u w'))
 (HR:Hid (∀ u a c,Arg u a (ws S).length c (ws S)->Calls Tryz.prog 78 #[.agg #[.bool nS,.slice a (ws S).length c,.int .i64 eS],.int .i64 0] u fun r w'=>r=.returned (.tuple #[.float .f64 z,.int .i64 0])/\Below u.heap.size u w')) :
 Calls Tryz.prog 41 #[.float .f64 x,.float .f64 y] w fun r w'=>r=.returned (.float .f64 z)/\Below w.heap.size w w':=by
 go_enter Tryz.func41,Tryz.ntmps41;go_wp2_with fail;refine(aF (H1.o _)) ?_;rintro r wx ⟨rfl,hw⟩;rw[hw];clear hw wx H1;go_wp2_with fail;refine(aF (H2.o _)) ?_;rintro r wx ⟨rfl,hw⟩;rw[hw];clear hw wx H2;go_wp2_with fail;refine(aF (H3.o _)) ?_;rintro r wx ⟨rfl,hw⟩;rw[hw];clear hw wx H3;go_wp2_with fail;refine(aF (H4.o _)) ?_;rintro r wx ⟨rfl,hw⟩;rw[hw];clear hw wx H4;go_wp2_with fail;refine(aF (H5.o _)) ?_;rintro r wx ⟨rfl,hw⟩;rw[hw];clear hw wx H5;go_wp2_with fail;refine(aF (H6.o _)) ?_;rintro r wx ⟨rfl,hw⟩;rw[hw];clear hw wx H6;go_wp2_with fail;refine(aF (H7.o _)) ?_;rintro r wx ⟨rfl,hw⟩;rw[hw];clear hw wx H7;go_wp2_with fail;refine(aF (H8.o _)) ?_;rintro r wx ⟨rfl,hw⟩;rw[hw];clear hw wx H8;go_wp2_with fail;refine(aF (HX.o _)) ?_;rintro r w1 ⟨⟨v1,rfl,N1⟩,hb1⟩;clear HX;obtain⟨a1,c1,rfl,A1⟩:=N1.arg ae;clear N1;have hz1:w.heap.size<=w1.heap.size:=hb1.size;have S1:=aA hb1;clear hb1;go_wp2_with fail;refine(aF (HY.o _)) ?_;rintro r w2 ⟨⟨v2,rfl,N2⟩,hb2⟩;clear HY;obtain⟨a2,c2,rfl,A2⟩:=N2.arg ae;clear N2
 have hz2:w1.heap.size<w2.heap.size:=by
  have:=hb2.size;simp only[dD,World.size_setCell] at this;omega
 have B12:=aA (Below.trans (B:=w1.heap.size) (a:=w1) (by repeat (first | exact aD _ _ | assumption | exact aC _ | (simp only[dD,World.size_setCell];omega) | omega | refine Below.alloc ?_ ?_ _ | refine Below.setCell ?_ ?_ _ | refine gF ?_)) (hb2.mono (by simp only[dD,World.size_setCell];omega)));have A1':=A1.below B12.o;clear A1;obtain⟨hc2,hf2⟩:=aU hb2;clear hb2
 have c2_0:w2.cell? ⟨w1.heap.size,0,none⟩=some (.bool nX):=by
  exact xd
 have c2_1:w2.cell? ⟨w1.heap.size,1,none⟩=some (.slice a1 (ws X).length c1):=by
  exact xd
 have c2_2:w2.cell? ⟨w1.heap.size,2,none⟩=some (.int .i64 eX):=by
  exact xd
 clear hc2 hf2;have n12:w1.heap.size≠w2.heap.size:=ae
 go_wp2_with fail;refine(aF (HA.o _ a1 a2 c1 c2 (A1'.below (by repeat (first | exact aD _ _ | assumption | exact aC _ | (simp only[dD,World.size_setCell];omega) | omega | refine Below.alloc ?_ ?_ _ | refine Below.setCell ?_ ?_ _ | refine gF ?_))) (A2.below (by repeat (first | exact aD _ _ | assumption | exact aC _ | (simp only[dD,World.size_setCell];omega) | omega | refine Below.alloc ?_ ?_ _ | refine Below.setCell ?_ ?_ _ | refine gF ?_))))) ?_;rintro r w3 ⟨⟨v3,rfl,N3⟩,hb3⟩;clear HA A1' A2;obtain⟨a3,c3,rfl,A3⟩:=N3.arg ae;clear N3
 have hz3:w2.heap.size<w3.heap.size:=by
  have:=hb3.size;simp only[dD,World.size_setCell] at this;omega
 have B23:=aA (Below.trans (B:=w2.heap.size) (a:=w2) (by repeat (first | exact aD _ _ | assumption | exact aC _ | (simp only[dD,World.size_setCell];omega) | omega | refine Below.alloc ?_ ?_ _ | refine Below.setCell ?_ ?_ _ | refine gF ?_)) (hb3.mono (by simp only[dD,World.size_setCell];omega)));clear hb3;clear c2_0 c2_1 c2_2;go_wp2_with fail;refine(aF (HR.o _ a3 c3 (A3.below (by repeat (first | exact aD _ _ | assumption | exact aC _ | (simp only[dD,World.size_setCell];omega) | omega | refine Below.alloc ?_ ?_ _ | refine Below.setCell ?_ ?_ _ | refine gF ?_))))) ?_;rintro r w4 ⟨rfl,hb4⟩;clear HR;have B34:=aA (Below.trans (B:=w3.heap.size) (a:=w3) (by repeat (first | exact aD _ _ | assumption | exact aC _ | (simp only[dD,World.size_setCell];omega) | omega | refine Below.alloc ?_ ?_ _ | refine Below.setCell ?_ ?_ _ | refine gF ?_)) (hb4.mono (by simp only[dD,World.size_setCell];omega)));clear hb4;have F:=aA (S1.o.trans ((B12.o.mono hz1).trans ((B23.o.mono ae).trans (B34.o.mono ae))));go_wp2;exact aG (v:=.float .f64 z) (by simp[results,Tryz.results41,go_sem]) rfl ⟨rfl,(by have:=F.o;clear S1 B12 B23 B34 F;repeat (first | exact aD _ _ | assumption | exact aC _ | (simp only[dD,World.size_setCell];omega) | omega | refine Below.alloc ?_ ?_ _ | refine Below.setCell ?_ ?_ _ | refine gF ?_))⟩
theorem I6.doc{K:Nat}{t:Bool}{m:Int}{V S:Nat}(h:I6 K t m V S)(k:Nat)(hk:k<9218868437227405312)(h1:vK k*S<=V)(h2:k+1=9218868437227405312\/V<vK (k+1)*S) :
 k=K/\t=decide (V=vK K*S)/\(t=false->m=qg ((2*V:Nat):Int) ((vK K*S+vK (K+1)*S:Nat):Int)):=by
 have hge:=h.ge;have hfin:=h.fin;have hpos:=h.pos
 have hkK:k=K:=by
  rcases lZ k K with q|q|q
  · exfalso;rcases h2 with e|e
    · omega
    · have:=XY (S:=S) (show k+1<=K by omega);omega
  · exact q
  · exfalso;have a1:=XY (S:=S) (show K+1<=k by omega);have a2:=KI (K:=K) (L:=K+1) hpos ae
    cases t with
    | true =>
      have:=h.one rfl;omega
    | false =>
      rcases h.high rfl with e|e
      · omega
      · omega
 subst hkK;refine⟨rfl,?_,?_⟩
 · cases t with
   | true=>exact(decide_eq_true (h.one rfl)).symm
   | false =>
     have:=h.low rfl;exact(decide_eq_false ae).symm
 · intro ht;have a2:=KI (K:=k) (L:=k+1) hpos ae
   by_cases hb:V<vK (k+1)*S
   · have hm:=h.NI ht hb;generalize vK k*S=A at *;generalize vK (k+1)*S=C at *;unfold qg;rcases hm with ⟨e,q⟩|⟨e,q⟩|⟨e,q⟩
     · rw[if_pos ae,e]
     · rw[if_neg ae,if_neg ae,e]
     · rw[if_neg ae,if_pos ae,e]
   · rcases h.high ht with e | ⟨_,e⟩
     · exact absurd e hb
     · generalize vK k*S=A at *;generalize vK (k+1)*S=C at *;unfold qg;rw[if_neg ae,if_pos ae,e]
def Zk(w:World)(g:Nat)(dg ls En:Int):Prop:=w.heap[g]?=some (.cells #[.int .i64 dg,.int .i64 ls,.int .u64 En] 98 (0,0))
theorem Zk.lt{w:World}{g:Nat}{dg ls En:Int}(h:Zk w g dg ls En):g<w.heap.size:=(gL.1 h).1
theorem Zk.below{w w':World}{g:Nat}{dg ls En:Int}(h:Zk w g dg ls En)(hb:Below w.heap.size w w'):Zk w' g dg ls En:=by
 unfold Zk;exact Qaf
theorem Zk.facts{w:World}{g:Nat}{dg ls En:Int}(h:Zk w g dg ls En):w.cell? ⟨g,0,none⟩=some (.int .i64 dg)/\w.cell? ⟨g,1,none⟩=some (.int .i64 ls)/\w.cell? ⟨g,2,none⟩=some (.int .u64 En):=by
 unfold Zk at h;simp[World.cell?,h]
structure Half (w:World) (dg ls:Int) (En:Nat) (ag:Nat->Int) (f t:Nat) (u:World):Prop where
 aB:Below w.heap.size w u
 sz:Zk u w.heap.size dg ls En
 ft:f<t
 tE:t<=En
 lo:f=0\/ag f<=0
 hi:t=En\/0<ag t
theorem I8 {w:World}{a:Option Addr}{l c:Nat}(dg ls:Int) (En:Nat) (e:Int) (hE:0<En) (hE2:En<9223372036854775808) (num:Nat->Nat×Int) (ag:Nat->Int) (lnum:∀ k,(ws (num k).1).length<=8192)
 (HN:Hid (∀ (k:Nat) (u:World),k<En->Calls Tryz.prog 151 #[.agg #[.int .i64 dg,.int .i64 ls,.int .u64 (En:Nat)],.int .u64 (k:Nat)] u fun r w'=>∃ v,r=.returned (.tuple #[v,.int .i64 (num k).2])/\Nt u.heap.size w' v (num k).1/\Below u.heap.size u w'))
 (HA:Hid (∀ (k:Nat) (u:World) (p:Option Addr) (s:Nat),k<En->Below w.heap.size w u->Arg u p (ws (num k).1).length s (ws (num k).1)->Calls Tryz.prog 155 #[.slice p (ws (num k).1).length s,.int .i64 (num k).2,.slice a l c,.int .i64 e] u fun r w'=>r=.returned (.int .i64 (ag k))/\Below u.heap.size u w')) :
 Calls Tryz.prog 154 #[.agg #[.int .i64 dg,.int .i64 ls,.int .u64 (En:Nat)],.slice a l c,.int .i64 e] w fun r w' =>
  (∃ k:Nat,r=.returned (.int .u64 (k:Nat))/\k<En/\(k=0\/ag k<=0)/\(k+1=En\/0<ag (k+1)))/\Below w.heap.size w w':=by
 obtain⟨W1,hW1⟩:=ah (w.alloc (.cells #[.int .i64 dg,.int .i64 ls,.int .u64 (En:Nat)] 98));have Z:Zk W1 w.heap.size dg ls En:=by rw[hW1];exact gY _ _
 have hB:Below w.heap.size w W1:=by rw[hW1];exact af w _
 obtain⟨p0,p1,p2⟩:=Z.facts;have S0:Aside (Half w dg ls En ag 0 En W1):=aA ⟨hB,Z,hE,aC _,.inl rfl,.inl rfl⟩;clear Z hB;have hw:∀ n:Int,0<=n->n<18446744073709551616->IntKind.u64.wrap n=n:=fun n h1 h2=>by simp[IntKind.wrap,IntKind.bits,IntKind.signed];omega
 have HW:=aA hw;clear hw;go_enter Tryz.func154,Tryz.ntmps154
 go_upto_region 2 with fail
 rw[<-hW1];clear hW1;go_wp2_with fail;clear p0 p1 p2
 go_loopg [7,8] En (fun gk fv tv wr=>∃ f t:Nat,gk+f=t/\fv=.int .u64 (f:Nat)/\tv=.int .u64 (t:Nat)/\f<t/\t<=En/\Aside (Half w dg ls En ag f t wr))
 case atStart=>exact⟨0,En,ae,rfl,rfl,hE,aC _,S0⟩
 case round =>
  obtain⟨f,t,Ex,rfl,rfl,hft,htE,S1⟩:=hrel;have e1:=HW.o ((t:Int)-(f:Int)) ae ae
  by_cases hone:1<(t:Int)-(f:Int)
  · obtain⟨m,hm⟩:∃ m,(f+t)/2=m:=⟨_,rfl⟩;have e2:=HW.o ((f:Int)+(t:Int)) ae ae;have e3:((f:Int)+(t:Int))/2=(m:Nat):=ae
    have e4:IntKind.u64.wrap ((m:Nat):Int)=(m:Nat):=HW.o _ ae ae;have hmE:m<En:=ae
    obtain⟨p0,p1,p2⟩:=S1.o.sz.facts;obtain⟨X,hX⟩:∃ X,(num m).1=X:=⟨_,rfl⟩;obtain⟨y,hy⟩:∃ y,(num m).2=y:=⟨_,rfl⟩;have H1:=hid (HN.o m wr hmE);have H2:=hid fun u p s=>HA.o m u p s hmE;have lX:=lnum m;rw[hX,hy] at H1 H2;rw[hX] at lX;go_wp2_with fail;clear p0 p1 p2;refine H1.o.mono ?_;rintro r u1 ⟨v,rfl,hN,hb⟩;obtain⟨b1,c1,rfl,hArg⟩:=hN.arg ae;have S2:=aA (⟨S1.o.aB.trans (hb.mono S1.o.aB.size),S1.o.sz.below hb,S1.o.ft,S1.o.tE,S1.o.lo,S1.o.hi⟩:Half w dg ls En ag f t u1);have H3:=hid (H2.o u1 b1 c1 S2.o.aB hArg);clear hb hN hArg S1 H1 H2;go_wp2_with fail;refine H3.o.mono ?_;rintro r u2 ⟨rfl,hb⟩;have S3:=aA (⟨S2.o.aB.trans (hb.mono S2.o.aB.size),S2.o.sz.below hb,S2.o.ft,S2.o.tE,S2.o.lo,S2.o.hi⟩:Half w dg ls En ag f t u2);clear hb H3 S2
    by_cases hag:ag m<=0
    · go_wp2_with fail;go_roundg (t-m)
      case measure=>omega
      case rel=>exact⟨m,t,ae,rfl,rfl,ae,htE,aA ⟨S3.o.aB,S3.o.sz,ae,htE,.inr hag,S3.o.hi⟩⟩
    · have hag':decide (ag m<=0)=false:=decide_eq_false hag;go_wp2_with fail;go_roundg (m-f)
      case measure=>omega
      case rel=>exact⟨f,m,ae,rfl,rfl,ae,ae,aA ⟨S3.o.aB,S3.o.sz,ae,ae,S3.o.lo,.inr ae⟩⟩
  · have hone':decide (1<(t:Int)-(f:Int))=false:=decide_eq_false hone;obtain rfl:t=f+1:=ae
    have e5:((f+1:Nat):Int)-(f:Int)=1:=ae
    go_wp2_with fail;go_ret;exact⟨⟨f,rfl,ae,S1.o.lo,S1.o.hi⟩,S1.o.aB⟩
theorem Oh {w:World}{a:Option Addr}{l c:Nat}(dg ls En k k1 e f g q:Int) (A Bv MV SM TW:Nat) (hv:Int) (lA:(ws A).length<=8192) (lB:(ws Bv).length<=8192) (lM:(ws MV).length<=8192) (lS:(ws SM).length<=8192) (lT:(ws TW).length<=35184372088832)
 (ek:IntKind.u64.wrap (k+1)=k1) (hgf:decide (g<f)=false) (eq:IntKind.i64.wrap (g-f)=q)
 (HN:Hid (∀ (u:World),Calls Tryz.prog 151 #[.agg #[.int .i64 dg,.int .i64 ls,.int .u64 En],.int .u64 k] u fun r w'=>∃ v,r=.returned (.tuple #[v,.int .i64 f])/\Nt u.heap.size w' v A/\Below u.heap.size u w'))
 (HN1:Hid (∀ (u:World),Calls Tryz.prog 151 #[.agg #[.int .i64 dg,.int .i64 ls,.int .u64 En],.int .u64 k1] u fun r w'=>∃ v,r=.returned (.tuple #[v,.int .i64 g])/\Nt u.heap.size w' v Bv/\Below u.heap.size u w'))
 (HM:Hid (∀ (u:World) (p:Option Addr) (s lo:Nat),Nt lo u (.slice p (ws Bv).length s) Bv->Calls Tryz.prog 97 #[.slice p (ws Bv).length s,.int .i64 q] u fun r w'=>∃ v,r=.returned v/\Nt u.heap.size w' v MV/\Below u.heap.size u w'))
 (HP:Hid (∀ (u:World) (p:Option Addr) (s:Nat) (p2:Option Addr) (s2:Nat),Arg u p (ws A).length s (ws A)->Arg u p2 (ws MV).length s2 (ws MV)->Calls Tryz.prog 106 #[.slice p (ws A).length s,.slice p2 (ws MV).length s2] u fun r w'=>∃ v,r=.returned v/\Nt u.heap.size w' v SM/\Below u.heap.size u w'))
 (HT:Hid (∀ (u:World) (p:Option Addr),Below w.heap.size w u->Arg u p 1 1 [2]->Calls Tryz.prog 63 #[.slice a l c,.slice p 1 1] u fun r w'=>∃ v,r=.returned v/\Nt u.heap.size w' v TW/\Below u.heap.size u w'))
 (HA:Hid (∀ (u:World) (p:Option Addr) (s:Nat) (p2:Option Addr) (s2:Nat),Arg u p (ws TW).length s (ws TW)->Arg u p2 (ws SM).length s2 (ws SM)->Calls Tryz.prog 155 #[.slice p (ws TW).length s,.int .i64 e,.slice p2 (ws SM).length s2,.int .i64 f] u fun r w'=>r=.returned (.int .i64 hv)/\Below u.heap.size u w')) :
 Calls Tryz.prog 156 #[.agg #[.int .i64 dg,.int .i64 ls,.int .u64 En],.int .u64 k,.slice a l c,.int .i64 e] w fun r w'=>r=.returned (.int .i64 hv)/\Below w.heap.size w w':=by
 obtain⟨W1,hW1⟩:=ah (w.alloc (.cells #[.int .i64 dg,.int .i64 ls,.int .u64 En] 98));have Z:Zk W1 w.heap.size dg ls En:=by rw[hW1];exact gY _ _
 have hB:Below w.heap.size w W1:=by rw[hW1];exact af w _
 obtain⟨p0,p1,p2⟩:=Z.facts;have S0:=(aP hB Z);clear Z hB;have H1:=hid (HN.o W1);go_enter Tryz.func156,Tryz.ntmps156
 go_upto_region 1 with fail
 rw[<-hW1];clear hW1;go_wp2_with fail;clear p0 p1 p2;refine H1.o.mono ?_;rintro r u1 ⟨v,rfl,hN,hb⟩;obtain⟨a1,c1,rfl,_⟩:=hN.arg ae;have Z1:=S0.o.2.below hb;obtain⟨p0,p1,p2⟩:=Z1.facts;have B1:=S0.o.1.trans (hb.mono S0.o.1.size);have S1:=(dC B1 Z1 hN);have H2:=hid (HN1.o u1);clear hb hN Z1 B1 S0 H1;go_wp2_with fail;clear p0 p1 p2;refine H2.o.mono ?_;rintro r u2 ⟨v,rfl,hN,hb⟩;obtain⟨a2,c2,rfl,_⟩:=hN.arg ae;have B2:=S1.o.1.trans (hb.mono S1.o.1.size);have N1:=S1.o.r2.below hb;have H3:=hid (HM.o u2 a2 c2 _ hN);have S2:=(aP B2 N1);clear hb hN B2 N1 S1 H2;go_wp2_with fail;refine H3.o.mono ?_;rintro r u3 ⟨v,rfl,hN,hb⟩;obtain⟨a3,c3,rfl,hA3⟩:=hN.arg ae;have B3:=S2.o.1.trans (hb.mono S2.o.1.size);have N3:=S2.o.2.below hb;have H4:=hid (HP.o u3 a1 c1 a3 c3 (N3.aY ae).2 hA3);have S3:=aA B3;clear hb hN hA3 B3 N3 S2 H3;go_wp2_with fail;refine H4.o.mono ?_;rintro r u4 ⟨v,rfl,hN,hb⟩;obtain⟨a4,c4,rfl,_⟩:=hN.arg ae;have B4:=S3.o.trans (hb.mono S3.o.size);obtain⟨U,hU⟩:=ah (u4.alloc (.cells #[.int .u32 2] 51));have hA:Below u4.heap.size u4 U:=by rw[hU];exact af _ _
 have B5:=B4.trans (hA.mono B4.size);have AL:Arg U (some ⟨u4.heap.size,0,none⟩) 1 1 [2]:=by rw[hU];exact qR u4 2 ae
 have H5:=hid (HT.o U (some ⟨u4.heap.size,0,none⟩) B5 AL);have N5:=hN.below hA;have S5:=(aP B5 N5);clear hb hN B4 hA B5 AL N5 S3 H4;go_wp2_with fail;rw[<-hU];clear hU;refine H5.o.mono ?_;rintro r u6 ⟨v,rfl,hN,hb⟩;obtain⟨a6,c6,rfl,hA6⟩:=hN.arg ae;have B6:=S5.o.1.trans (hb.mono S5.o.1.size);have N6:=S5.o.2.below hb;have H6:=hid (HA.o u6 a6 c6 a4 c4 hA6 (N6.aY ae).2);have S6:=aA B6;clear hb hN hA6 B6 N6 S5 H5;go_wp2_with fail;refine H6.o.mono ?_;rintro r u7 ⟨rfl,hb⟩;have B7:=aA (S6.o.trans (hb.mono S6.o.size));clear hb H6 S6;go_wp2;go_ret;exact⟨rfl,B7.o⟩
def Oi(mode:Int)(n:Bool)(k:Nat)(z hv:Int):Nat:=if z=0 then k else if jU mode k hv n then k+1 else k
theorem Qa6{P:Prop}(h:P:=by
 have:=aA hR2;clear hR2;go_wp2;go_ret;exact⟨by rw[<-this.o];simp[jU,hp],B4.o⟩):P:=h
theorem Qaq{P:Prop}(h:P:=by
 cases n
 all_goals (
  have:=aA hR2;clear hR2;go_wp2;go_ret
  exact⟨by rw[<-this.o];simp[jU],B4.o⟩)):P:=h
theorem js{P:Prop}(h:P:=by
 have:=aA hR2;clear hR2;go_wp2;go_ret;exact⟨by rw[<-this.o];simp[jU],B4.o⟩):P:=h
theorem Fz {w:World}{a:Option Addr}{l c:Nat}(dg ls En:Int) (n:Bool) (k:Nat) (e f mode:Int) (A:Nat) (z hv:Int) (lA:(ws A).length<=8192) (hk:k<9223372036854775808) (hm0:0<=mode) (sU:mode<=4) (hv3:hv=-1\/hv=0\/hv=1)
 (HB:Hid (∀ (u:World),Below w.heap.size w u->Calls Tryz.prog 154 #[.agg #[.int .i64 dg,.int .i64 ls,.int .u64 En],.slice a l c,.int .i64 e] u fun r w'=>r=.returned (.int .u64 (k:Nat))/\Below u.heap.size u w'))
 (HN:Hid (∀ (u:World),Calls Tryz.prog 151 #[.agg #[.int .i64 dg,.int .i64 ls,.int .u64 En],.int .u64 (k:Nat)] u fun r w'=>∃ v,r=.returned (.tuple #[v,.int .i64 f])/\Nt u.heap.size w' v A/\Below u.heap.size u w'))
 (HA:Hid (∀ (u:World) (p:Option Addr) (s:Nat),Below w.heap.size w u->Arg u p (ws A).length s (ws A)->Calls Tryz.prog 155 #[.slice p (ws A).length s,.int .i64 f,.slice a l c,.int .i64 e] u fun r w'=>r=.returned (.int .i64 z)/\Below u.heap.size u w'))
 (HH:Hid (∀ (u:World),Below w.heap.size w u->Calls Tryz.prog 156 #[.agg #[.int .i64 dg,.int .i64 ls,.int .u64 En],.int .u64 (k:Nat),.slice a l c,.int .i64 e] u fun r w'=>r=.returned (.int .i64 hv)/\Below u.heap.size u w')) :
 Calls Tryz.prog 112 #[.agg #[.int .i64 dg,.int .i64 ls,.int .u64 En],.bool n,.slice a l c,.int .i64 e,.int .i64 mode] w fun r w'=>r=.returned (.int .u64 (Oi mode n k z hv:Nat))/\Below w.heap.size w w':=by
 obtain⟨W1,hW1⟩:=ah (w.alloc (.cells #[.int .i64 dg,.int .i64 ls,.int .u64 En] 98));have Z:Zk W1 w.heap.size dg ls En:=by rw[hW1];exact gY _ _
 have hB:Below w.heap.size w W1:=by rw[hW1];exact af w _
 obtain⟨p0,p1,p2⟩:=Z.facts;have H1:=hid (HB.o W1 hB);have S0:=(aP hB Z);clear Z hB;have ek:IntKind.u64.wrap ((k:Int)+1)=(k:Int)+1:=by simp[IntKind.wrap,IntKind.bits,IntKind.signed];omega
 obtain⟨R,hR⟩:∃ R,Oi mode n k z hv=R:=⟨_,rfl⟩;rw[hR];go_enter Tryz.func112,Tryz.ntmps112
 go_upto_region 1 with fail
 rw[<-hW1];clear hW1;go_wp2_with fail;clear p0 p1 p2;refine H1.o.mono ?_;rintro r u1 ⟨rfl,hb⟩;have Z1:=S0.o.2.below hb;obtain⟨p0,p1,p2⟩:=Z1.facts;have B1:=S0.o.1.trans (hb.mono S0.o.1.size);have S1:=(aP B1 Z1);have H2:=hid (HN.o u1);clear hb Z1 B1 S0 H1;go_wp2_with fail;clear p0 p1 p2;refine H2.o.mono ?_;rintro r u2 ⟨v,rfl,hN,hb⟩;obtain⟨a2,c2,rfl,hA2⟩:=hN.arg ae;have Z2:=S1.o.2.below hb;have B2:=S1.o.1.trans (hb.mono S1.o.1.size);have H3:=hid (HA.o u2 a2 c2 B2 hA2);have S2:=(aP B2 Z2);clear hb hN hA2 Z2 B2 S1 H2;go_wp2_with fail;refine H3.o.mono ?_;rintro r u3 ⟨rfl,hb⟩;have Z3:=S2.o.2.below hb;have B3:=S2.o.1.trans (hb.mono S2.o.1.size);have S3:=(aP B3 Z3);obtain⟨p0,p1,p2⟩:=Z3.facts;have H4:=hid (HH.o u3 B3);clear hb Z3 B3 S2 H3
 by_cases hz:z=0
 · subst hz;obtain rfl:k=R:=by rw[<-hR];unfold Oi;rw[if_pos rfl]
   clear hR;go_wp2_with fail;go_ret;exact⟨rfl,S3.o.1⟩
 · have hz':(z==0)=false:=by simpa using hz
   have hR2:(if jU mode k hv n then k+1 else k)=R:=by rw[<-hR];unfold Oi;rw[if_neg hz]
   clear hR hz;go_wp2_with fail;clear p0 p1 p2;refine H4.o.mono ?_;rintro r u4 ⟨rfl,hb⟩;have B4:=aA (S3.o.1.trans (hb.mono S3.o.1.size));clear hb S3 H4 hz';have hc:mode=0\/mode=1\/mode=2\/mode=3\/mode=4:=ae
   clear hm0 sU;rcases hc with rfl|rfl|rfl|rfl|rfl
   · rcases hv3 with rfl | rfl | rfl
     · exact js
     · by_cases hp:k%2=1
       · have hp':(k:Int)%2=1:=ae
         exact Qa6
       · have hp':(k:Int)%2=0:=ae
         exact Qa6
     · exact js
   · exact js
   · exact Qaq
   · exact Qaq
   · rcases hv3 with rfl | rfl | rfl
     all_goals (
      have:=aA hR2;clear hR2;go_wp2;go_ret
      exact⟨by rw[<-this.o];simp[jU],B4.o⟩)
attribute [local go_sem] B.aH
theorem Oj{w:World}{a:Option Addr}{l c:Nat}(n:Bool)(e mode:Int)(hm:mode<0) :
 Calls Tryz.prog 78 #[.agg #[.bool n,.slice a l c,.int .i64 e],.int .i64 mode] w fun r w'=>r=.returned (.tuple #[.float .f64 0,.int .i64 1])/\Below w.heap.size w w':=by
 obtain⟨W1,hW1⟩:=ah (w.alloc (.cells #[.bool n,.slice a l c,.int .i64 e] 25));have D0:Dk W1 w.heap.size n (.slice a l c) e:=by rw[hW1];exact Dk.new _ _ _ _
 have hB:Below w.heap.size w W1:=by rw[hW1];exact af w _
 have S0:=aA hB;clear D0 hB;go_enter Tryz.func78,Tryz.ntmps78
 go_upto_region 1 with fail
 rw[<-hW1];clear hW1;go_wp2
 go_ret2
 exact⟨rfl,S0.o⟩
theorem Ol{w:World}{a:Option Addr}{l c:Nat}(n:Bool)(e mode:Int)(hm0:decide (mode<0)=false)(hm:4<mode) :
 Calls Tryz.prog 78 #[.agg #[.bool n,.slice a l c,.int .i64 e],.int .i64 mode] w fun r w'=>r=.returned (.tuple #[.float .f64 0,.int .i64 1])/\Below w.heap.size w w':=by
 obtain⟨W1,hW1⟩:=ah (w.alloc (.cells #[.bool n,.slice a l c,.int .i64 e] 25));have D0:Dk W1 w.heap.size n (.slice a l c) e:=by rw[hW1];exact Dk.new _ _ _ _
 have hB:Below w.heap.size w W1:=by rw[hW1];exact af w _
 have S0:=aA hB;clear D0 hB;go_enter Tryz.func78,Tryz.ntmps78
 go_upto_region 1 with fail
 rw[<-hW1];clear hW1;go_wp2
 go_ret2
 exact⟨rfl,S0.o⟩
theorem Om {w:World}{a:Option Addr}{l c:Nat}(n:Bool) (e mode:Int) (nD:Bool) (eD:Int) (XD:Nat) (hm0:0<=mode) (sU:mode<=4) (lX:(ws XD).length<=8192)
 (HM:Hid (∀ (u:World),Below w.heap.size w u->Calls Tryz.prog 61 #[.agg #[.bool n,.slice a l c,.int .i64 e]] u fun r w'=>(∃ v,r=.returned (.tuple #[.agg #[.bool nD,v,.int .i64 eD],.bool false])/\Nt u.heap.size w' v XD)/\Below u.heap.size u w')) :
 Calls Tryz.prog 78 #[.agg #[.bool n,.slice a l c,.int .i64 e],.int .i64 mode] w fun r w'=>r=.returned (.tuple #[.float .f64 0,.int .i64 2])/\Below w.heap.size w w':=by
 obtain⟨W1,hW1⟩:=ah (w.alloc (.cells #[.bool n,.slice a l c,.int .i64 e] 25));have D0:Dk W1 w.heap.size n (.slice a l c) e:=by rw[hW1];exact Dk.new _ _ _ _
 have hB:Below w.heap.size w W1:=by rw[hW1];exact af w _
 obtain⟨p0,p1,p2,w9,xc,xe⟩:=D0.facts;have H1:=hid (HM.o W1 hB);have S0:=aA hB;have hm1:decide (mode<0)=false:=decide_eq_false ae;have hm2:decide (4<mode)=false:=decide_eq_false ae;clear D0 hB;go_enter Tryz.func78,Tryz.ntmps78
 go_upto_region 1 with fail
 rw[<-hW1];clear hW1;go_wp2_with fail;clear p0 p1 p2 w9 xc xe;refine H1.o.mono ?_;rintro r u1 ⟨⟨v,rfl,hN⟩,hb⟩;obtain⟨a1,c1,rfl,_⟩:=hN.arg ae;obtain⟨U1,aX⟩:=ah (u1.alloc (.cells #[.bool nD,.slice a1 (ws XD).length c1,.int .i64 eD] 25));have hA:Below u1.heap.size u1 U1:=by rw[aX];exact af _ _
 have DX:Dk U1 u1.heap.size nD (.slice a1 (ws XD).length c1) eD:=by rw[aX];exact Dk.new _ _ _ _
 have B1:=S0.o.trans (hb.mono S0.o.size);have BU:=B1.trans (hA.mono B1.size);have NX:=hN.below hA;have S1:=(dC BU DX NX);clear hb hN hA DX B1 BU NX S0 H1
 go_upto_region 4 with fail
 rw[<-aX];clear aX;go_wp2
 go_ret2
 exact⟨rfl,S1.o.1⟩
theorem xo{P:Prop}(h:P:=by
 obtain⟨rfl,S2⟩:=hcut;clear p0 p1 p2 w9 xc xe;obtain⟨p0,p1,p2,w9,xc,xe⟩:=S2.o.2.facts;go_wp2
 go_ret2
 exact⟨rfl,S2.o.1⟩):P:=h
theorem Ro {w:World}{a:Option Addr}{l c:Nat}(n:Bool) (e mode:Int) (eD:Int) (XD R:Nat) (kk k2:Int) (hm0:0<=mode) (sU:mode<=4) (lX:(ws XD).length<=8192) (hk0:0<=kk) (hR:kk.toNat=R)
 (HM:Hid (∀ (u:World),Below w.heap.size w u->Calls Tryz.prog 61 #[.agg #[.bool n,.slice a l c,.int .i64 e]] u fun r w'=>(∃ v,r=.returned (.tuple #[.agg #[.bool false,v,.int .i64 eD],.bool true])/\Nt u.heap.size w' v XD)/\Below u.heap.size u w'))
 (HO:Hid (∀ (u:World),Calls Tryz.prog 67 #[] u fun r w'=>r=.returned (.agg #[.int .i64 53,.int .i64 (-1074),.int .u64 9218868437227405312])/\Below u.heap.size u w'))
 (HB:Hid (∀ (u:World) (p:Option Addr) (s:Nat),Arg u p (ws XD).length s (ws XD)->Calls Tryz.prog 112 #[.agg #[.int .i64 53,.int .i64 (-1074),.int .u64 9218868437227405312],.bool false,.slice p (ws XD).length s,.int .i64 eD,.int .i64 mode] u fun r w'=>r=.returned (.int .u64 kk)/\Below u.heap.size u w')) :
 Calls Tryz.prog 78 #[.agg #[.bool n,.slice a l c,.int .i64 e],.int .i64 mode] w fun r w'=>r=.returned (.tuple #[.float .f64 R,.int .i64 0])/\Below w.heap.size w w':=by
 obtain⟨W1,hW1⟩:=ah (w.alloc (.cells #[.bool n,.slice a l c,.int .i64 e] 25));have D0:Dk W1 w.heap.size n (.slice a l c) e:=by rw[hW1];exact Dk.new _ _ _ _
 have hB:Below w.heap.size w W1:=by rw[hW1];exact af w _
 obtain⟨p0,p1,p2,w9,xc,xe⟩:=D0.facts;have H1:=hid (HM.o W1 hB);have S0:=aA hB;have hm1:decide (mode<0)=false:=decide_eq_false ae;have hm2:decide (4<mode)=false:=decide_eq_false ae;clear D0 hB;go_enter Tryz.func78,Tryz.ntmps78
 go_upto_region 1 with fail
 rw[<-hW1];clear hW1;go_wp2_with fail;clear p0 p1 p2 w9 xc xe;refine H1.o.mono ?_;rintro r u1 ⟨⟨v,rfl,hN⟩,hb⟩;obtain⟨a1,c1,rfl,_⟩:=hN.arg ae;obtain⟨U1,aX⟩:=ah (u1.alloc (.cells #[.bool false,.slice a1 (ws XD).length c1,.int .i64 eD] 25));have hA:Below u1.heap.size u1 U1:=by rw[aX];exact af _ _
 have DX:Dk U1 u1.heap.size false (.slice a1 (ws XD).length c1) eD:=by rw[aX];exact Dk.new _ _ _ _
 have B1:=S0.o.trans (hb.mono S0.o.size);have BU:=B1.trans (hA.mono B1.size);have NX:=hN.below hA;have S1:=(dC BU DX NX);clear hb hN hA DX B1 BU NX S0 H1
 go_upto_region 4 with fail
 rw[<-aX];clear aX;obtain⟨p0,p1,p2,w9,xc,xe⟩:=S1.o.2.1.facts
 go_upto_region 6 with fail
 go_cut [8] from 22 to 30 (fun kv wx=>kv=.int .u64 kk/\Aside (Below w.heap.size w wx/\Dk wx u1.heap.size false (.slice a1 (ws XD).length c1) eD))
 case first =>
  have O1:=hid (HO.o U1);have O2:=hid (HO.o U1.drew)
  go_region_held3 (fun w'=>w'.cell? ⟨u1.heap.size,0,none⟩=some (.bool false)/\w'.cell? ⟨u1.heap.size,1,none⟩=some (.slice a1 (ws XD).length c1)/\w'.cell? ⟨u1.heap.size,2,none⟩=some (.int .i64 eD)) (go_keep) (first
   | (go_at_call 67
      first | with_reducible refine O1.o.mono ?_ | with_reducible refine O2.o.mono ?_
      rintro r u3 ⟨rfl,hb⟩;have hb3:Below U1.heap.size U1 u3:=by first | exact hb | exact((aD _ U1).drew).trans (hb.mono (aC _))
      have KD:=S1.o.2.1.below hb3;have KN:=S1.o.r2.below hb3;have KB:=S1.o.1.trans (hb3.mono S1.o.1.size);have HB3:=hid (HB.o u3 a1 c1 (KN.aY ae).2);obtain⟨q0,q1,q2,AQ,AU,AV⟩:=KD.facts;have S9:=(aP KB KD)
      clear hb hb3 KD KN KB)
   | (go_at_call 112
      with_reducible refine HB3.o.mono ?_
      rintro r u4 ⟨rfl,hb⟩;have LD:=S9.o.2.below hb;obtain⟨t0,t1,t2,Q7,Q8,Q9⟩:=LD.facts;have LB:=S9.o.1.trans (hb.mono S9.o.1.size);have Ha:=(aP LB LD)
      clear hb LD LB))
  all_goals (
   go_wp2
   go_meet
   case rel=>exact⟨rfl,Ha⟩)
 case rest =>
  exact xo
theorem Rp {w:World}{a:Option Addr}{l c:Nat}(n:Bool) (e mode:Int) (eD:Int) (XD R:Nat) (kk k2:Int) (hm0:0<=mode) (sU:mode<=4) (lX:(ws XD).length<=8192) (hk0:0<=kk) (e1:IntKind.u64.wrap (kk+9223372036854775808)=k2) (hR:k2.toNat=R)
 (HM:Hid (∀ (u:World),Below w.heap.size w u->Calls Tryz.prog 61 #[.agg #[.bool n,.slice a l c,.int .i64 e]] u fun r w'=>(∃ v,r=.returned (.tuple #[.agg #[.bool true,v,.int .i64 eD],.bool true])/\Nt u.heap.size w' v XD)/\Below u.heap.size u w'))
 (HO:Hid (∀ (u:World),Calls Tryz.prog 67 #[] u fun r w'=>r=.returned (.agg #[.int .i64 53,.int .i64 (-1074),.int .u64 9218868437227405312])/\Below u.heap.size u w'))
 (HB:Hid (∀ (u:World) (p:Option Addr) (s:Nat),Arg u p (ws XD).length s (ws XD)->Calls Tryz.prog 112 #[.agg #[.int .i64 53,.int .i64 (-1074),.int .u64 9218868437227405312],.bool true,.slice p (ws XD).length s,.int .i64 eD,.int .i64 mode] u fun r w'=>r=.returned (.int .u64 kk)/\Below u.heap.size u w')) :
 Calls Tryz.prog 78 #[.agg #[.bool n,.slice a l c,.int .i64 e],.int .i64 mode] w fun r w'=>r=.returned (.tuple #[.float .f64 R,.int .i64 0])/\Below w.heap.size w w':=by
 obtain⟨W1,hW1⟩:=ah (w.alloc (.cells #[.bool n,.slice a l c,.int .i64 e] 25));have D0:Dk W1 w.heap.size n (.slice a l c) e:=by rw[hW1];exact Dk.new _ _ _ _
 have hB:Below w.heap.size w W1:=by rw[hW1];exact af w _
 obtain⟨p0,p1,p2,w9,xc,xe⟩:=D0.facts;have H1:=hid (HM.o W1 hB);have S0:=aA hB;have hm1:decide (mode<0)=false:=decide_eq_false ae;have hm2:decide (4<mode)=false:=decide_eq_false ae;clear D0 hB;go_enter Tryz.func78,Tryz.ntmps78
 go_upto_region 1 with fail
 rw[<-hW1];clear hW1;go_wp2_with fail;clear p0 p1 p2 w9 xc xe;refine H1.o.mono ?_;rintro r u1 ⟨⟨v,rfl,hN⟩,hb⟩;obtain⟨a1,c1,rfl,_⟩:=hN.arg ae;obtain⟨U1,aX⟩:=ah (u1.alloc (.cells #[.bool true,.slice a1 (ws XD).length c1,.int .i64 eD] 25));have hA:Below u1.heap.size u1 U1:=by rw[aX];exact af _ _
 have DX:Dk U1 u1.heap.size true (.slice a1 (ws XD).length c1) eD:=by rw[aX];exact Dk.new _ _ _ _
 have B1:=S0.o.trans (hb.mono S0.o.size);have BU:=B1.trans (hA.mono B1.size);have NX:=hN.below hA;have S1:=(dC BU DX NX);clear hb hN hA DX B1 BU NX S0 H1
 go_upto_region 4 with fail
 rw[<-aX];clear aX;obtain⟨p0,p1,p2,w9,xc,xe⟩:=S1.o.2.1.facts
 go_upto_region 6 with fail
 go_cut [8] from 22 to 30 (fun kv wx=>kv=.int .u64 kk/\Aside (Below w.heap.size w wx/\Dk wx u1.heap.size true (.slice a1 (ws XD).length c1) eD))
 case first =>
  have O1:=hid (HO.o U1);have O2:=hid (HO.o U1.drew)
  go_region_held3 (fun w'=>w'.cell? ⟨u1.heap.size,0,none⟩=some (.bool true)/\w'.cell? ⟨u1.heap.size,1,none⟩=some (.slice a1 (ws XD).length c1)/\w'.cell? ⟨u1.heap.size,2,none⟩=some (.int .i64 eD)) (go_keep) (first
   | (go_at_call 67
      first | with_reducible refine O1.o.mono ?_ | with_reducible refine O2.o.mono ?_
      rintro r u3 ⟨rfl,hb⟩;have hb3:Below U1.heap.size U1 u3:=by first | exact hb | exact((aD _ U1).drew).trans (hb.mono (aC _))
      have KD:=S1.o.2.1.below hb3;have KN:=S1.o.r2.below hb3;have KB:=S1.o.1.trans (hb3.mono S1.o.1.size);have HB3:=hid (HB.o u3 a1 c1 (KN.aY ae).2);obtain⟨q0,q1,q2,AQ,AU,AV⟩:=KD.facts;have S9:=(aP KB KD)
      clear hb hb3 KD KN KB)
   | (go_at_call 112
      with_reducible refine HB3.o.mono ?_
      rintro r u4 ⟨rfl,hb⟩;have LD:=S9.o.2.below hb;obtain⟨t0,t1,t2,Q7,Q8,Q9⟩:=LD.facts;have LB:=S9.o.1.trans (hb.mono S9.o.1.size);have Ha:=(aP LB LD)
      clear hb LD LB))
  all_goals (
   go_wp2
   go_meet
   case rel=>exact⟨rfl,Ha⟩)
 case rest =>
  exact xo
end
end Go.Proofs.YtfmfhehbdfhnbaaGreatDoor
