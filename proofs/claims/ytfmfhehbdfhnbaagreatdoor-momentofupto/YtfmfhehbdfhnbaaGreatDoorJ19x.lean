import Derived.Test.YtfmfhehbdfhnbaaGreatDoorD32ex
import Derived.Test.YtfmfhehbdfhnbaaGreatDoorM1x
import Derived.Test.YtfmfhehbdfhnbaaGreatDoorW7x
import Derived.Test.YtfmfhehbdfhnbaaGreatDoorW17x
import Derived.Laws.IdiomStrings
import Derived.Test.YtfmfhehbdfhnbaaGreatDoorW40x
import Derived.Test.YtfmfhehbdfhnbaaGreatDoorD8x
import Derived.BigQuiet
import Derived.Deep.Cut
import Derived.Test.YtfmfhehbdfhnbaaGreatDoorD2x
import Derived.Deep.RegionHeld3
set_option linter.unusedVariables false
set_option linter.unusedSimpArgs false
set_option maxHeartbeats 16000000
set_option maxRecDepth 20000
namespace Go.Proofs.YtfmfhehbdfhnbaaGreatDoor
namespace J
end J
section
open Go.RowKit J
abbrev iY (x:Nat):Prop:=jN x<9218868437227405312
def Kg (x:Nat):Int:=B.sg (uI x) (vK (jN x))
theorem Vw (s:Bool) (v:Nat):(B.sg s v).natAbs=v:=XL s v
end
section
open Go.RowKit
theorem iQ {n a b:Nat}(hn:0<n):a^n<b^n↔a<b:=Nat.pow_lt_pow_iff_left af
theorem Ct {n a b:Nat}(hn:0<n):a^n=b^n↔a=b:=by
 constructor
 · intro h;rcases nI a b with k|k|k
   · have:=(iQ hn).2 k;omega
   · exact k
   · have:=(iQ hn).2 k;omega
 · intro h;rw [h]
structure N9 (v:Nat->Nat) (top:Nat):Prop where
 one:1<top
 zero:v 0=0
 mono:∀ {k l},k<l->v k<v l
 step:∀ k,k<top->∃ c j,v k=c*2^j/\v (k+1)=(c+1)*2^j/\c<9007199254740992/\j<=2045
structure ig (v:Nat->Nat) (top n:Nat) (K:Nat) (t:Bool) (m:Int) (V S:Nat):Prop where
 fin:K<top
 pos:0<S
 one:t=true->V=v K^n*S
 low:t=false->v K^n*S<V
 Rp:t=false->V<v (K+1)^n*S->(m=-1/\2^n*V<(v K+v (K+1))^n*S\/m=0/\2^n*V=(v K+v (K+1))^n*S\/m=1/\(v K+v (K+1))^n*S<2^n*V)
 high:t=false->V<v (K+1)^n*S\/(K+1=top/\m=1)
def Alike (n P Q V S:Nat):Prop:=∀ c j,c<=18014398509481984->j<=2046->((c*2^j)*Q<2*P↔(c*2^j)^n*S<2^n*V)/\((c*2^j)*Q=2*P↔(c*2^j)^n*S=2^n*V)
theorem uw (n a S V:Nat):((2*a)^n*S<2^n*V↔a^n*S<V)/\((2*a)^n*S=2^n*V↔a^n*S=V):=by
 have h:(2*a)^n*S=2^n*(a^n*S):=by rw [qI,aN]
 have hp:0<2^n:=bu n;rw [h];exact ⟨Nat.mul_lt_mul_left hp,⟨fun h=>Nat.eq_of_mul_eq_mul_left hp h,fun h=>by rw [h]⟩⟩
theorem ig.Cu {v:Nat->Nat}{top n K:Nat}{t:Bool}{m:Int}{P Q V S:Nat}(G:N9 v top) (hn:0<n) (h:ig v top 1 K t m P Q) (hS:0<S) (hA:Alike n P Q V S):ig v top n K t m V S:=by
 obtain ⟨c,j,e1,e2,hc,hj⟩:=G.step K h.fin;have a1:=hA (2*c) j af af;have a2:=hA (2*(c+1)) j af af;have a3:=hA (2*c+1) j af af;have g1:2*c*2^j=2*v K:=by rw [e1,aN]
 have g2:2*(c+1)*2^j=2*v (K+1):=by rw [e2,aN]
 have g3:(2*c+1)*2^j=v K+v (K+1):=by rw [e1,e2,<-fF];congr 1;omega
 rw [g1] at a1;rw [g2] at a2;rw [g3] at a3;have b1:=uw n (v K) S V;have b2:=uw n (v (K+1)) S V;rw [b1.1,b1.2] at a1;rw [b2.1,b2.2] at a2;have d1:2*v K*Q=2*(v K*Q):=aN _ _ _;have d2:2*v (K+1)*Q=2*(v (K+1)*Q):=aN _ _ _;rw [d1] at a1;rw [d2] at a2;have h1:=h.one;have h2:=h.low;have h3:=h.Rp;have h4:=h.high;simp only [mf] at h1 h2 h3 h4;generalize v K*Q=A at *;generalize v (K+1)*Q=B at *;generalize (v K+v (K+1))*Q=C at *
 have ge:∀ {x y x' y':Nat},((x<y↔x'<y')/\(x=y↔x'=y'))->(y<x↔y'<x'):=by
  intro x y x' y' ⟨p,q⟩;constructor
  · intro hh;rcases nI x' y' with k|k|k
    · have:=p.2 k;omega
    · have:=q.2 k;omega
    · exact k
  · intro hh;rcases nI x y with k|k|k
    · have:=p.1 k;omega
    · have:=q.1 k;omega
    · exact k
 have a2':=ge a2;have a3':=ge a3;refine ⟨h.fin,hS,fun ht=>?_,fun ht=>?_,fun ht hlt=>?_,fun ht=>?_⟩
 · have:=h1 ht;exact (a1.2.1 af).symm
 · exact a1.1.1 (by have:=h2 ht;omega)
 · have hb:P<B:=by have:=a2'.2 hlt;omega
   rcases h3 ht hb with ⟨q,r⟩|⟨q,r⟩|⟨q,r⟩
   · exact .inl ⟨q,a3'.1 r⟩
   · exact .inr (.inl ⟨q,(a3.2.1 r.symm).symm⟩)
   · exact .inr (.inr ⟨q,a3.1.1 r⟩)
 · rcases h4 ht with q | q
   · exact .inl (a2'.1 af)
   · exact .inr q
theorem EX (n R p q V S d:Nat) (hn:0<n) (hS:0<S) (hR:9007199254740992<=R) (hd:d<=1)
 (h0:d=0->V*(2^q)^n=(R*2^p)^n*S) (h1:d=1->(R*2^p)^n*S<V*(2^q)^n/\V*(2^q)^n<((R+1)*2^p)^n*S) :
 Alike n ((2*R+d)*2^p) (2*2^q) V S:=by
 intro c j hc hj;have hq:0<(2^q)^n:=nP (bu q)
 -- both sides times 2^q
 have f1:(c*2^j)^n*S<2^n*V↔(c*2^(j+q))^n*S<2^n*(V*(2^q)^n):=by
  rw [<-nK hq]
  have:(c*2^j)^n*S*(2^q)^n=(c*2^(j+q))^n*S:=by
   rw [yf,<-qI,aN c,<-aL]
  rw [this,aN]
 have f2:(c*2^j)^n*S=2^n*V↔(c*2^(j+q))^n*S=2^n*(V*(2^q)^n):=by
  have e:(c*2^j)^n*S*(2^q)^n=(c*2^(j+q))^n*S:=by
   rw [yf,<-qI,aN c,<-aL]
  rw [<-e,<-aN (2^n)];exact ⟨fun h=>by rw [h],fun h=>pO hq h⟩
 have f3:c*2^j*(2*2^q)=2*(c*2^(j+q)):=by rw [aL,<-aN c,Nat.mul_left_comm]
 rw [f1,f2,f3];generalize V*(2^q)^n=U at *;have g0:∀ a:Nat,(2*a)^n*S=2^n*(a^n*S):=fun a=>by rw [qI,aN]
 have hp2:0<2^n:=bu n;have hlt2:(c*2^(j+q)<(2*R+d)*2^p↔2*(c*2^(j+q))<2*((2*R+d)*2^p)):=af
 have heq2:(c*2^(j+q)=(2*R+d)*2^p↔2*(c*2^(j+q))=2*((2*R+d)*2^p)):=af
 rw [<-hlt2,<-heq2]
 -- powers times S
 have L:∀ a b:Nat,(a^n*S<b^n*S↔a<b):=fun a b=>by rw [nK hS,iQ hn]
 have E:∀ a b:Nat,(a^n*S=b^n*S↔a=b):=fun a b=>⟨fun h=>(Ct hn).1 (pO hS h),fun h=>by rw [h]⟩;rcases kF d with hd0|hd1
 · subst hd0;have hU:=h0 rfl;have k1:(2*(R*2^p))^n*S=2^n*U:=by rw [g0,<-hU]
   have k2:(2*R+0)*2^p=2*(R*2^p):=by rw [gM,aN]
   rw [k2,<-k1,L,E];exact ⟨Iff.rfl,Iff.rfl⟩
 · obtain rfl:d=1:=af
   obtain ⟨u1,u2⟩:=h1 rfl;have k1:(2*(R*2^p))^n*S<2^n*U:=by rw [g0];exact xW u1 hp2
   have k2:2^n*U<(2*((R+1)*2^p))^n*S:=by rw [g0];exact xW u2 hp2
   have below:∀ x,x<=2*(R*2^p)->(x<(2*R+1)*2^p↔x^n*S<2^n*U)/\(x=(2*R+1)*2^p↔x^n*S=2^n*U):=by
    intro x hx
    have y1:x<(2*R+1)*2^p:=by
     have:=bu p;rw [fF,aN,iD];omega
    have y2:x^n*S<2^n*U:=by
     refine gN ?_ k1;exact fO _ (Nat.pow_le_pow_left hx n)
    exact ⟨⟨fun _=>y2,fun _=>y1⟩,⟨fun h=>by omega,fun h=>by omega⟩⟩
   have above:∀ x,2*((R+1)*2^p)<=x->(x<(2*R+1)*2^p↔x^n*S<2^n*U)/\(x=(2*R+1)*2^p↔x^n*S=2^n*U):=by
    intro x hx
    have y1:(2*R+1)*2^p<x:=by
     have:=bu p;refine iC ?_ hx;rw [<-aN];exact fD af this
    have y2:2^n*U<x^n*S:=by
     refine iC k2 ?_;exact fO _ (Nat.pow_le_pow_left hx n)
    exact ⟨⟨fun h=>by omega,fun h=>by omega⟩,⟨fun h=>by omega,fun h=>by omega⟩⟩
   by_cases hjp:p<j+q
   · obtain ⟨i,hi⟩:∃ i,j+q=i+1+p:=⟨j+q-1-p,af⟩
     have e:c*2^(j+q)=2*((c*2^i)*2^p):=by
      rw [hi,aL,gY,<-aN,<-aN,df (c*2^i) 2,aN 2]
     rw [e];rcases kI R (c*2^i) with k|k
     · exact above _ (gP _ (fO _ k))
     · exact below _ (gP _ (fO _ k))
   · refine below _ ?_
     calc c*2^(j+q)<=18014398509481984*2^p:=jv hc (fB au af)
      _<=(2*R)*2^p:=fO _ af
      _=2*(R*2^p):=aN _ _ _
theorem Kh (n P Q V S:Nat) (hn:0<n) (hP:∀ c j,c<=18014398509481984->j<=2046->c*2^j*Q<2*P) (hV:∀ c j,c<=18014398509481984->j<=2046->(c*2^j)^n*S<2^n*V):Alike n P Q V S:=by
 intro c j hc hj;have h1:=hP c j hc hj;have h2:=hV c j hc hj;exact ⟨⟨fun _=>h2,fun _=>h1⟩,⟨fun h=>by omega,fun h=>by omega⟩⟩
theorem EY (n P Q V S:Nat) (hn:0<n) (hP0:0<P) (hV0:0<V) (hS:0<S) (hP:2*P<Q) (hV:2^n*V<S):Alike n P Q V S:=by
 intro c j hc hj;rcases kF (c*2^j) with h0|h0
 · rw [h0,eQ,Nat.zero_pow hn,eQ];have:=ik (bu n) hV0;exact ⟨⟨fun _=>this,fun _=>by omega⟩,⟨fun h=>by omega,fun h=>by omega⟩⟩
 · have h1:Q<=c*2^j*Q:=x8 _ h0;have h2:S<=(c*2^j)^n*S:=x8 _ (nP h0);exact ⟨⟨fun h=>by omega,fun h=>by omega⟩,⟨fun h=>by omega,fun h=>by omega⟩⟩
def RD (x y:Nat):Int:=if x<y then -1 else if y<x then 1 else 0
theorem ig.doc {v:Nat->Nat}{top n K:Nat}{t:Bool}{m:Int}{V S:Nat}(G:N9 v top) (hn:0<n) (h:ig v top n K t m V S) (k:Nat) (hk:k<top) (h1:v k^n*S<=V) (h2:k+1=top\/V<v (k+1)^n*S) :
 k=K/\t=decide (V=v K^n*S)/\(t=false->m=RD (2^n*V) ((v K+v (K+1))^n*S)):=by
 have L:∀ {a b:Nat},a<b->v a^n*S<v b^n*S:=fun {a b} q=>fD ((iQ hn).2 (G.mono q)) h.pos
 have Le:∀ {a b:Nat},a<=b->v a^n*S<=v b^n*S:=fun {a b} q=>by
  rcases kI a b with k|k
  · exact mg (L k)
  · rw [show a=b by omega];exact aC _
 have hge:v K^n*S<=V:=by
  cases ht:t
  · exact mg (h.low ht)
  · rw [h.one ht];exact aC _
 have hfin:=h.fin
 have hkK:k=K:=by
  rcases nI k K with q|q|q
  · exfalso;rcases h2 with e|e
    · omega
    · have:=Le (show k+1<=K by omega);omega
  · exact q
  · exfalso;have a1:=Le (show K+1<=k by omega);have a2:=L (show K<K+1 by omega)
    cases t with
    | true=>have:=h.one rfl;omega
    | false =>
      rcases h.high rfl with e|e
      · omega
      · omega
 subst hkK;refine ⟨rfl,?_,?_⟩
 · cases t with
   | true=>exact (decide_eq_true (h.one rfl)).symm
   | false=>have:=h.low rfl;exact (decide_eq_false af).symm
 · intro ht
   by_cases hb:V<v (k+1)^n*S
   · have hm:=h.Rp ht hb;generalize 2^n*V=V2 at *;generalize (v k+v (k+1))^n*S=C at *;unfold RD;rcases hm with ⟨e,q⟩|⟨e,q⟩|⟨e,q⟩
     · rw [if_pos q,e]
     · rw [if_neg af,if_neg af,e]
     · rw [if_neg af,if_pos q,e]
   · rcases h.high ht with e | ⟨_,e⟩
     · exact absurd e hb
     · have hmid:(v k+v (k+1))^n*S<2^n*V:=by
        have q1:v k+v (k+1)<2*v (k+1):=by have:=G.mono (show k<k+1 by omega);omega
        have q2:(v k+v (k+1))^n*S<(2*v (k+1))^n*S:=fD ((iQ hn).2 q1) h.pos;rw [qI,aN] at q2;have q3:=gP (2^n) (za hb);omega
       unfold RD;rw [if_neg af,if_pos hmid,e]
theorem jO (a b i k i' k':Nat) (h:i'+k=k'+i):a*2^i<b*2^k↔a*2^i'<b*2^k':=by
 rcases Nat.le_total i i' with q|q
 · obtain ⟨d,rfl⟩:∃ d,i'=i+d:=⟨i'-i,af⟩;obtain rfl:k'=k+d:=af
   rw [aL,aL,<-aN,<-aN,nK (bu d)]
 · obtain ⟨d,rfl⟩:∃ d,i=i'+d:=⟨i-i',af⟩;obtain rfl:k=k'+d:=af
   rw [aL,aL,<-aN,<-aN,nK (bu d)]
theorem wK (a b i k i' k':Nat) (h:i'+k=k'+i):a*2^i=b*2^k↔a*2^i'=b*2^k':=by
 have h1:=jO a b i k i' k' h;have h2:=jO b a k i k' i' af;generalize a*2^i=A at *;generalize a*2^i'=A' at *;generalize b*2^k=B at *;generalize b*2^k'=B' at *;constructor
 · intro e;rcases nI A' B' with q | q | q
   · have:=h1.2 q;omega
   · exact q
   · have:=h2.2 q;omega
 · intro e;rcases nI A B with q | q | q
   · have:=h1.1 q;omega
   · exact q
   · have:=h2.1 q;omega
def fE (Y size:Nat):Nat:=bl Y+size-262144
def iZ (Y size:Nat):Nat:=Y/2^fE Y size
def lg (X Y size:Nat):Int:=(bl (iZ Y size):Int)+size-bl X
def pg (X Y size:Nat):Nat:=if lg X Y size<0 then X/2^(-lg X Y size).toNat else X*2^(lg X Y size).toNat
def mD (X Y size:Nat):Nat:=pg X Y size/iZ Y size
def pz (X Y size:Nat):Nat:=pg X Y size%iZ Y size
def Cv (Y size:Nat):Nat:=Y-iZ Y size*2^fE Y size
def qm (X Y size:Nat):Nat:=pz X Y size*2^fE Y size
def om (X Y size:Nat):Nat:=mD X Y size*Cv Y size
def dQ (X Y size:Nat):Nat:=if qm X Y size<om X Y size then mD X Y size-1 else mD X Y size
def oo (X Y size:Nat):Bool:=decide (qm X Y size=om X Y size)&&decide (0<=lg X Y size)
structure Oa (X Y size:Nat):Prop where
 one:oo X Y size=true->X*2^((lg X Y size).toNat+fE Y size)=dQ X Y size*Y*2^(-lg X Y size).toNat
 low:oo X Y size=false->dQ X Y size*Y*2^(-lg X Y size).toNat<X*2^((lg X Y size).toNat+fE Y size)
 high:oo X Y size=false->X*2^((lg X Y size).toNat+fE Y size)<(dQ X Y size+1)*Y*2^(-lg X Y size).toNat
 least:X≠0->2^(size-1)<=dQ X Y size+1
 most:dQ X Y size<2^(size+1)
 less:qm X Y size<om X Y size->1<=mD X Y size
 hig:iZ Y size≠0
 low':iZ Y size*2^fE Y size<=Y
 XM:Cv Y size<2^fE Y size
 w0:mD X Y size<2^(size+1)
 Ud:bl (iZ Y size)=bl Y-fE Y size
 tq:pg X Y size<2^(bl (iZ Y size)+size)
 lef:pz X Y size<iZ Y size
theorem Ki {X k:Nat}(h1:2^k<=X) (h2:X<2^(k+1)):bl X=k+1:=by
 have h0:X≠0:=by have:=bu k;omega
 have a:=il X;have b:=gT X h0;have c:=dI X h0;have d1:=(jw (a:=2) au).1 (gN h1 a);have d2:=(jw (a:=2) au).1 (gN b h2);omega
theorem iy (X Y size:Nat) (hX:X=0\/X%2=1) (hY:Y≠0) (hs0:1<=size) (hs:size<=1000) (hbX:bl X<=262144) (hbY:bl Y<=262144):Oa X Y size:=by
 obtain ⟨cut,xQ⟩:∃ c,fE Y size=c:=⟨_,rfl⟩;obtain ⟨H,eH⟩:∃ c,iZ Y size=c:=⟨_,rfl⟩;have Y3:Y/2^cut=H:=by rw [<-eH,<-xQ];rfl
 have hD:0<2^cut:=bu cut;have hYlt:=il Y;have XN:=gT Y hY;have hYpos:=dI Y hY;have hcut:cut<bl Y/\(0<cut->cut=bl Y+size-262144):=by unfold fE at xQ;omega
 have hH1:2^(bl Y-1-cut)<=H:=by
  rw [<-Y3,qH hD,<-aL,show bl Y-1-cut+cut=bl Y-1 by omega];exact XN
 have hH2:H<2^(bl Y-1-cut+1):=by
  rw [<-Y3,qE hD,<-aL,show bl Y-1-cut+1+cut=bl Y by omega];exact hYlt
 have hblH:bl H=bl Y-cut:=by rw [Ki hH1 hH2];omega
 have hH0:0<H:=iC (bu _) hH1;have hHD:H*2^cut<=Y:=by rw [<-Y3];exact Nat.div_mul_le_self _ _
 have hYdm:H*2^cut+Y%2^cut=Y:=by rw [<-Y3,df];exact pK Y _
 have ZK:=nD Y hD;obtain ⟨Lo,eLo⟩:∃ c,Cv Y size=c:=⟨_,rfl⟩;have eLo':Y-H*2^cut=Lo:=by rw [<-eLo];unfold Cv;rw [eH,xQ]
 have hLo:Lo<2^cut:=af
 have hYs:Y=H*2^cut+Lo:=af
 obtain ⟨b,eb⟩:∃ b,lg X Y size=b:=⟨_,rfl⟩;have eb':(bl H:Int)+size-bl X=b:=by rw [<-eb];unfold lg;rw [eH]
 obtain ⟨tq,RF⟩:∃ c,pg X Y size=c:=⟨_,rfl⟩;have wL:(if b<0 then X/2^(-b).toNat else X*2^b.toNat)=tq:=by rw [<-RF];unfold pg;rw [eb]
 obtain ⟨W0,XO⟩:∃ c,mD X Y size=c:=⟨_,rfl⟩;have Vx:tq/H=W0:=by rw [<-XO];unfold mD;rw [RF,eH]
 obtain ⟨Lf,eLf⟩:∃ c,pz X Y size=c:=⟨_,rfl⟩;have XP:tq%H=Lf:=by rw [<-eLf];unfold pz;rw [RF,eH]
 have T9:H*W0+Lf=tq:=by rw [<-Vx,<-XP];exact pK tq H
 have hLf:Lf<H:=by rw [<-XP];exact nD _ hH0
 have RG:qm X Y size=Lf*2^cut:=by unfold qm;rw [eLf,xQ]
 have RH:om X Y size=W0*Lo:=by unfold om;rw [XO,eLo]
 have hXlt:=il X
 have Ob:tq<2^(bl H+size):=by
  rw [<-wL]
  split
  · rename_i hb;rw [qE (bu _),<-aL,show bl H+size+(-b).toNat=bl X by omega];exact hXlt
  · rename_i hb;refine iC (fD hXlt (bu _)) ?_;rw [<-aL];exact fB au af
 have Ue:W0<2^(size+1):=by
  rw [<-Vx,qE hH0];refine iC Ob ?_;have:2^(size+1)*2^(bl Y-1-cut)<=2^(size+1)*H:=gP _ hH1;rw [<-aL,show size+1+(bl Y-1-cut)=bl H+size by omega] at this;exact this
 have XQ:X≠0->2^(size-1)<=W0:=by
  intro h0;have XR:=gT X h0;have ZL:=dI X h0
  have hl:2^(bl H+size-1)<=tq:=by
   rw [<-wL]
   split
   · rename_i hb;rw [qH (bu _),<-aL,show bl H+size-1+(-b).toNat=bl X-1 by omega];exact XR
   · rename_i hb;refine dP ?_ (fO _ XR);rw [<-aL];exact fB au af
  rw [<-Vx,qH hH0];refine dP ?_ hl;have:2^(size-1)*H<=2^(size-1)*2^(bl H):=gP _ (mg (il H));rw [<-aL,show size-1+bl H=bl H+size-1 by omega] at this;exact this
 -- whole times the low end is below Y
 have hWL:W0*Lo<Y:=by
  by_cases hc:cut=0
  · subst hc;have:Lo=0:=by simpa using hLo
    rw [this,nG];omega
  · have h1:W0*Lo<2^(size+1)*2^cut:=qG Ue hLo;rw [<-aL] at h1;refine iC h1 (dP ?_ XN);exact fB au af
 -- what the level is,by whole
 have hsum:tq*2^cut+W0*Lo=W0*Y+Lf*2^cut:=by
  rw [<-T9,hYs,fF,jG,df H W0,aN];omega
 have hLfD:Lf*2^cut<Y:=iC (fD hLf hD) hHD
 have hless:qm X Y size<om X Y size->1<=W0:=by
  intro h;rw [RG,RH] at h;rcases kF W0 with q|q
  · rw [q,eQ] at h;omega
  · exact q
 have Vy:dQ X Y size=if Lf*2^cut<W0*Lo then W0-1 else W0:=by unfold dQ;rw [RG,RH,XO]
 have eAt:oo X Y size=(decide (Lf*2^cut=W0*Lo)&&decide (0<=b)):=by unfold oo;rw [RG,RH,eb]
 have key:(oo X Y size=true->X*2^(b.toNat+cut)=dQ X Y size*Y*2^(-b).toNat)/\(oo X Y size=false->dQ X Y size*Y*2^(-b).toNat<X*2^(b.toNat+cut)/\X*2^(b.toNat+cut)<(dQ X Y size+1)*Y*2^(-b).toNat):=by
  rw [eAt,Vy]
  by_cases hb:b<0
  · have hc0:cut=0:=af
    have hX0:X≠0:=by intro h;rw [h,dG] at eb';omega
    have hXo:X%2=1:=af
    rw [if_pos hb] at wL;subst hc0;have hL0:Lo=0:=by simpa using hLo
    have hb1:b.toNat=0:=af
    rw [hL0,nG,if_neg af,hb1,gM,fC,fo];rw [hL0,fC,fo,fo,nG] at hsum;rw [decide_eq_false (show ¬ 0<=b by omega),Bi];refine ⟨fun h=>(by cases h),fun _=>?_⟩;obtain ⟨k,hk⟩:∃ k,(-b).toNat=k:=⟨_,rfl⟩;have hk0:0<k:=af
    rw [hk] at wL |-;have hP:=bu k;have hxm:2^k*tq+X%2^k=X:=by rw [<-wL];exact pK X _
    have hxl:=nD X hP
    have hx0:X%2^k≠0:=by
     intro h;rw [h] at hxm;rw [show k=k-1+1 by omega,gY,df _ 2,aN] at hxm;omega
    have h1:W0*Y<=tq:=af
    have h2:tq+1<=(W0+1)*Y:=by
     rw [fF,iD];rw [fC,fo] at hLfD;omega
    have h3:=fO (2^k) h1;have h4:=fO (2^k) h2;rw [fF,iD] at h4;rw [df] at hxm;omega
  · rw [if_neg hb] at wL;have hb1:(-b).toNat=0:=af
    rw [hb1,fC,fo,fo,decide_eq_true (show 0<=b by omega),Bool.and_true];have e1:X*2^(b.toNat+cut)=tq*2^cut:=by rw [aL,<-aN,wL]
    rw [e1];generalize tq*2^cut=L at *;generalize Lf*2^cut=A at *;generalize hT:W0*Lo=T at *
    by_cases hlt:A<T
    · rw [if_pos hlt];have hW1:1<=W0:=hless (by rw [RG,RH];exact hlt);obtain ⟨W,rfl⟩:∃ W,W0=W+1:=⟨W0-1,af⟩;rw [kD];rw [fF,iD] at hsum |-;refine ⟨fun h=>?_,fun _=>by omega⟩;have:=of_decide_eq_true h;omega
    · rw [if_neg hlt];rw [fF,iD];refine ⟨fun h=>?_,fun h=>?_⟩
      · have:=of_decide_eq_true h;omega
      · have:=of_decide_eq_false h;omega
 refine ⟨?_,?_,?_,?_,?_,?_,?_,?_,?_,?_,?_,?_,?_⟩
 · rw [eb,xQ];exact key.1
 · rw [eb,xQ];exact fun h=>(key.2 h).1
 · rw [eb,xQ];exact fun h=>(key.2 h).2
 · intro h;have:=XQ h;rw [Vy];split <;> omega
 · rw [Vy];split <;> omega
 · rw [XO];exact hless
 · rw [eH];omega
 · rw [eH,xQ];exact hHD
 · rw [eLo,xQ];exact hLo
 · rw [XO];exact Ue
 · rw [eH,xQ];exact hblH
 · rw [RF,eH];exact Ob
 · rw [eLf,eH];exact hLf
theorem Alike.scale {n P Q P' Q' V S:Nat}(h:Alike n P' Q' V S) (hQ:0<Q) (hQ':0<Q') (e:P*Q'=P'*Q):Alike n P Q V S:=by
 intro c j hc hj;obtain ⟨h1,h2⟩:=h c j hc hj;rw [<-h1,<-h2];generalize c*2^j=g;have e1:g*Q*Q'=g*Q'*Q:=yf _ _ _;have e2:2*P*Q'=2*P'*Q:=by rw [aN,e,aN]
 constructor
 · rw [<-nK hQ',e1,e2,nK hQ]
 · constructor
   · intro k;have:=congrArg (·*Q') k;simp only [e1,e2] at this;exact pO hQ this
   · intro k;have:=congrArg (·*Q) k;simp only [<-e1,<-e2] at this;exact pO hQ' this
structure EZ (n R d V S u:Nat) (h:Int):Prop where
 pos:0<S
 one:d=0->V*(2^(-(h+u)).toNat)^n=(R*2^(h+u).toNat)^n*S
 in':d=1->(R*2^(h+u).toNat)^n*S<V*(2^(-(h+u)).toNat)^n/\V*(2^(-(h+u)).toNat)^n<((R+1)*2^(h+u).toNat)^n*S
def dZ (h:Int):Int:=min (max (h-1) (-4096)) 4096
theorem uy (n R d V S u:Nat) (h:Int) (hn:0<n) (uf:9007199254740992<=R) (hR2:R<2^100) (hd:d<=1) (hu0:149<=u) (hu1:u<=1074) (hI:EZ n R d V S u h) :
 Alike n ((2*R+d)*2^(dZ h+u).toNat) (2^(-(dZ h+u)).toNat) V S:=by
 have hS:=hI.pos
 have hlo:(R*2^(h+u).toNat)^n*S<=V*(2^(-(h+u)).toNat)^n:=by
  rcases kF d with q|q
  · rw [hI.one q];exact aC _
  · exact mg (hI.in' af).1
 have hhi:V*(2^(-(h+u)).toNat)^n<((R+1)*2^(h+u).toNat)^n*S:=by
  rcases kF d with q|q
  · rw [hI.one q];exact fD ((iQ hn).2 (fD af (bu _))) hS
  · exact (hI.in' af).2
 by_cases h1:h-1 < -4096
 · have hc:dZ h=-4096:=by unfold dZ;omega
   rw [hc];have e1:((-4096:Int)+u).toNat=0:=af
   have e2:(h+u).toNat=0:=af
   rw [e1,fC,fo];rw [e2,fC,fo] at hlo hhi;obtain ⟨q,hq⟩:∃ q,(-(h+u)).toNat=q:=⟨_,rfl⟩;have hq1:3000<=q:=af
   rw [hq] at hlo hhi;obtain ⟨q',hq'⟩:∃ q',(-((-4096:Int)+u)).toNat=q':=⟨_,rfl⟩;have hq'1:3000<=q':=af
   rw [hq'];have hbig:∀ k,103<=k->2^103<=2^k:=fun k hk=>fB au hk;have b1:=hbig q af;have b2:=hbig q' af;have e103:(2:Nat)^103=8*2^100:=au
   have hqn:0<(2^q)^n:=nP (bu q);refine EY n _ _ V S hn af ?_ hS af ?_
   · rcases kF V with z | z
     · rw [z,eQ] at hlo;have:=ik (nP (n:=n) (show 0<R by omega)) hS;omega
     · exact z
   · have s1:2^n*V*(2^q)^n<(2*(R+1))^n*S:=by
      rw [qI,aN,aN];exact xW hhi (bu n)
     have s2:(2*(R+1))^n*S<=(2^q)^n*S:=fO _ (Nat.pow_le_pow_left af n);have s3:2^n*V*(2^q)^n<S*(2^q)^n:=by rw [df S];exact iC s1 s2
     exact (nK hqn).1 s3
 · by_cases h2:4096<h-1
   · have hc:dZ h=4096:=by unfold dZ;omega
     rw [hc];have e1:(-((4096:Int)+u)).toNat=0:=af
     have e2:(-(h+u)).toNat=0:=af
     rw [e1,fC];rw [e2,fC,Nat.one_pow,fo] at hlo hhi;obtain ⟨A,hA⟩:∃ A,((4096:Int)+u).toNat=A:=⟨_,rfl⟩;obtain ⟨p,hp⟩:∃ p,(h+u).toNat=p:=⟨_,rfl⟩;rw [hA];rw [hp] at hlo hhi;have hA1:2101<=A:=af
     have hp1:2101<=p:=af
     have top:∀ c j k,c<=18014398509481984->j<=2046->2101<=k->c*2^j<2^k:=by
      intro c j k hcc hj hk;have h54:(18014398509481984:Nat)=2^54:=au
      calc c*2^j<=2^54*2^j:=fO _ af
       _=2^(54+j):=(aL _ _ _).symm
       _<2^k:=Nat.pow_lt_pow_right au af
     refine Kh n _ _ V S hn ?_ ?_
     · intro c j hcc hj;have t:=top c j A hcc hj hA1;have:2^A<=(2*R+d)*2^A:=x8 _ af;rw [fo];omega
     · intro c j hcc hj;have t:=top c j p hcc hj hp1;have t2:2^p<=R*2^p:=x8 _ af;have t3:(c*2^j)^n*S<(R*2^p)^n*S:=fD ((iQ hn).2 af) hS;have t4:V<=2^n*V:=x8 _ (bu n);omega
   · have hc:dZ h=h-1:=by unfold dZ;omega
     rw [hc];have sp:=EX n R (h+u).toNat (-(h+u)).toNat V S d hn hS uf hd hI.one hI.in';refine sp.scale (bu _) (ik au (bu _)) ?_
     have e:∀ a b c k:Nat,a+1+b=c+k->(2*R+d)*2^a*(2*2^b)=(2*R+d)*2^c*2^k:=by
      intro a b c k hh;rw [aN,aN,<-aL,<-hh,aL,gY,aN (2^a)]
     exact e _ _ _ _ af
def iR (X:Nat) (e f:Int) (u n:Nat):Nat:=X*2^(e-f+(n*u:Nat)).toNat
def gX (Y:Nat) (e f:Int) (u n:Nat):Nat:=Y*2^(-(e-f+(n*u:Nat))).toNat
theorem Oc (X Y:Nat) (e f:Int) (u:Nat) (hY:Y≠0) (hD:Oa X Y 64) :
 EZ 1 (dQ X Y 64) (if oo X Y 64 then 0 else 1) (iR X e f u 1) (gX Y e f u 1) u (e-f-lg X Y 64-fE Y 64):=by
 have h1:=hD.one;have h2:=hD.low;have h3:=hD.high;generalize dQ X Y 64=W at *;generalize lg X Y 64=b at *;generalize fE Y 64=cut at *;generalize oo X Y 64=t at *;have hY0:0<Y:=af
 have sides:∀ R:Nat,(R*2^(e-f-b-cut+u).toNat)^1*gX Y e f u 1=R*Y*2^((e-f-b-cut+u).toNat+(-(e-f+(1*u:Nat))).toNat):=by
  intro R;unfold gX;rw [mf,aL,aN R,aN R,<-aN (2^_) Y,df (2^_) Y,aN Y]
 have left:iR X e f u 1*(2^(-(e-f-b-cut+u)).toNat)^1=X*2^((e-f+(1*u:Nat)).toNat+(-(e-f-b-cut+u)).toNat):=by
  unfold iR;rw [mf,aL,aN]
 refine ⟨ik hY0 (bu _),fun hd=>?_,fun hd=>?_⟩
 · have ht:t=true:=by cases t with
    | true=>rfl
    | false=>simp at hd
   rw [left,sides];exact (wK X (W*Y) _ _ _ _ af).1 (h1 ht)
 · have ht:t=false:=by cases t with
    | true=>simp at hd
    | false=>rfl
   rw [left,sides,sides];exact ⟨(jO (W*Y) X _ _ _ _ af).1 (h2 ht),(jO X ((W+1)*Y) _ _ _ _ af).1 (h3 ht)⟩
theorem XT (W Y k:Nat):W*Y*2^(k+1)=2*W*Y*2^k:=by
 rw [gY,df (2^k) 2,<-aN,df (W*Y) 2,<-aN]
def Od (W:Nat) (x:Int):Nat:=if x%2=0 then W else W/2
def vF (x:Int):Int:=if x%2=0 then x else x+1
def Uf (W:Nat) (x:Int) (t:Bool):Bool:=if x%2=0 then t else t&&decide (W%2=0)
theorem Kj (X Y:Nat) (e f:Int) (u R:Nat) (hY:Y≠0) (hD:Oa X Y 129) (x:Int) (hx:x=e-f-lg X Y 129-fE Y 129) (hR:mX (Od (dQ X Y 129) x) R) :
 EZ 2 R (if Uf (dQ X Y 129) x (oo X Y 129)&&decide (Od (dQ X Y 129) x=R*R) then 0 else 1) (iR X e f u 2) (gX Y e f u 2) u (vF x/2):=by
 have h1:=hD.one;have h2:=hD.low;have h3:=hD.high;generalize dQ X Y 129=W at *;generalize lg X Y 129=b at *;generalize fE Y 129=cut at *;generalize oo X Y 129=t at *;have hY0:0<Y:=af
 -- the halved span
 obtain ⟨W',hW'⟩:∃ W',Od W x=W':=⟨_,rfl⟩;obtain ⟨t',ht'⟩:∃ t',Uf W x t=t':=⟨_,rfl⟩;obtain ⟨hh,ehh⟩:∃ hh,vF x/2=hh:=⟨_,rfl⟩;rw [hW'] at hR;rw [hW',ht',ehh]
 -- V (2^q)^2 against W' (2^p)^2 S,all as powers
 have sides:∀ R:Nat,R*((2^(hh+u).toNat)^2)*gX Y e f u 2=R*Y*2^(2*(hh+u).toNat+(-(e-f+(2*u:Nat))).toNat):=by
  intro R;unfold gX;rw [<-kE,df (hh+u).toNat 2,aL,aN R,aN R,<-aN (2^_) Y,df (2^_) Y,aN Y]
 have left:iR X e f u 2*(2^(-(hh+u)).toNat)^2=X*2^((e-f+(2*u:Nat)).toNat+2*(-(hh+u)).toNat):=by
  unfold iR;rw [<-kE,df (-(hh+u)).toNat 2,aL,aN]
 have base:(t'=true->iR X e f u 2*(2^(-(hh+u)).toNat)^2=W'*((2^(hh+u).toNat)^2)*gX Y e f u 2) /\
  (t'=false->W'*((2^(hh+u).toNat)^2)*gX Y e f u 2<iR X e f u 2*(2^(-(hh+u)).toNat)^2/\iR X e f u 2*(2^(-(hh+u)).toNat)^2<(W'+1)*((2^(hh+u).toNat)^2)*gX Y e f u 2):=by
  rw [left,sides,sides]
  by_cases hev:x%2=0
  · have q1:W=W':=by rw [<-hW'];unfold Od;rw [if_pos hev]
    have q2:t=t':=by rw [<-ht'];unfold Uf;rw [if_pos hev]
    have q3:2*hh=x:=by rw [<-ehh];unfold vF;rw [if_pos hev];omega
    subst q1 q2;refine ⟨fun ht=>(wK X (W*Y) _ _ _ _ af).1 (h1 ht),fun ht=>⟨(jO (W*Y) X _ _ _ _ af).1 (h2 ht),(jO X ((W+1)*Y) _ _ _ _ af).1 (h3 ht)⟩⟩
  · have q1:W/2=W':=by rw [<-hW'];unfold Od;rw [if_neg hev]
    have q2:(t&&decide (W%2=0))=t':=by rw [<-ht'];unfold Uf;rw [if_neg hev]
    have q3:2*hh=x+1:=by rw [<-ehh];unfold vF;rw [if_neg hev];omega
    have two:∀ R,R*Y*2^(2*(hh+u).toNat+(-(e-f+(2*u:Nat))).toNat)=R*Y*2^(2*(hh+u).toNat+(-(e-f+(2*u:Nat))).toNat):=fun R=>rfl;refine ⟨fun ht=>?_,fun ht=>?_⟩
    · rw [<-q2] at ht;simp only [nT,decide_eq_true_eq] at ht;have hw:W=2*W':=af
      have b1:=h1 ht.1;rw [hw,show 2*W'*Y*2^(-b).toNat=W'*Y*2^((-b).toNat+1) from (XT _ _ _).symm] at b1;exact (wK X (W'*Y) _ _ _ _ af).1 b1
    · have lo:W'*Y*2^((-b).toNat+1)<=W*Y*2^(-b).toNat:=by
       rw [show W'*Y*2^((-b).toNat+1)=2*W'*Y*2^(-b).toNat from XT _ _ _];exact fO _ (fO _ af)
      have hi:(W+1)*Y*2^(-b).toNat<=(W'+1)*Y*2^((-b).toNat+1):=by
       rw [show (W'+1)*Y*2^((-b).toNat+1)=2*(W'+1)*Y*2^(-b).toNat from XT _ _ _];exact fO _ (fO _ af)
      have key:W'*Y*2^((-b).toNat+1)<X*2^(b.toNat+cut)/\X*2^(b.toNat+cut)<(W'+1)*Y*2^((-b).toNat+1):=by
       cases ht2:t with
       | false=>have k1:=h2 ht2;have k2:=h3 ht2;omega
       | true =>
         have k1:=h1 ht2;rw [ht2] at q2
         have hodd:W%2=1:=by
          rw [<-q2] at ht;simp at ht;omega
         have st1:W'*Y*2^((-b).toNat+1)<W*Y*2^(-b).toNat:=by
          rw [show W'*Y*2^((-b).toNat+1)=2*W'*Y*2^(-b).toNat from XT _ _ _];exact fD (fD af hY0) (bu _)
         have st2:W*Y*2^(-b).toNat<(W'+1)*Y*2^((-b).toNat+1):=by
          rw [show (W'+1)*Y*2^((-b).toNat+1)=2*(W'+1)*Y*2^(-b).toNat from XT _ _ _];exact fD (fD af hY0) (bu _)
         omega
      exact ⟨(jO (W'*Y) X _ _ _ _ af).1 key.1,(jO X ((W'+1)*Y) _ _ _ _ af).1 key.2⟩
 have Ug:0<gX Y e f u 2:=ik hY0 (bu _);obtain ⟨uf,hR2⟩:=hR;have YR:0<(2^(hh+u).toNat)^2:=nP (bu _)
 have sq:∀ a:Nat,(a*2^(hh+u).toNat)^2*gX Y e f u 2=a*a*((2^(hh+u).toNat)^2)*gX Y e f u 2:=by
  intro a;rw [qI,Nat.pow_two a]
 have mono:∀ a b:Nat,a<=b->a*((2^(hh+u).toNat)^2)*gX Y e f u 2<=b*((2^(hh+u).toNat)^2)*gX Y e f u 2:=fun a b q=>fO _ (fO _ q);have Uh:∀ a b:Nat,a<b->a*((2^(hh+u).toNat)^2)*gX Y e f u 2<b*((2^(hh+u).toNat)^2)*gX Y e f u 2:=fun a b q=>fD (fD q YR) Ug;refine ⟨Ug,fun hd=>?_,fun hd=>?_⟩
 · have hc:t'=true/\W'=R*R:=by
    by_cases q:(t'&&decide (W'=R*R))=true
    · simpa using q
    · rw [if_neg q] at hd;omega
   rw [sq,<-hc.2];exact base.1 hc.1
 · have hc:¬ (t'=true/\W'=R*R):=by
    intro q;rw [if_pos (by simp [q.1,q.2])] at hd;omega
   rw [sq,sq]
   cases ht2:t' with
   | false =>
     obtain ⟨k1,k2⟩:=base.2 ht2;have k3:=mono (R*R) W' uf;have k4:=mono (W'+1) ((R+1)*(R+1)) hR2;omega
   | true =>
     have k1:=base.1 ht2
     have hne:R*R<W':=by
      rcases kI (R*R) W' with q|q
      · exact q
      · exact absurd ⟨ht2,af⟩ hc
     rw [k1];exact ⟨Uh _ _ hne,Uh _ _ hR2⟩
theorem He {w:World}{a b:Option Addr}{n c m d:Nat}{xs ys:List Nat}{V U:Nat}{z:Int}(h1:Arg w a n c xs) (h2:Arg w b m d ys) (e:nZ (val xs) (val ys)=(V,U,z)) :
 Calls Tryz.prog 142 #[.slice a n c,.slice b m d] w fun r w'=>∃ v u,r=.returned (.tuple #[v,u,.int .i64 z])/\Nt w.heap.size w' v V/\Nt w.heap.size w' u U/\Below w.heap.size w w' :=
 (Qn xs ys a b n c m d w.heap.size w h1.len h2.len h1.cap h2.cap (by have:=h1.big;omega) (by have:=h2.big;omega) h1.wf h2.wf h1.rd h2.rd (aC _)).mono
  fun r w' ⟨⟨v,u,h3,h4,h5,h6⟩,hb⟩=>by rw [e] at h3 h4 h5;exact ⟨v,u,h3,h4,h5,hb⟩
theorem Oe {w:World}{a:Option Addr}{n c:Nat}{xs:List Nat}{q l:Nat}(h1:Arg w a n c xs) (hq:mX (val xs) q) (hl:val xs-q*q=l) :
 Calls Tryz.prog 121 #[.slice a n c] w fun r w'=>∃ v u,r=.returned (.tuple #[v,u])/\Nt w.heap.size w' v q/\Nt w.heap.size w' u l/\Below w.heap.size w w' :=
 (Mc xs a n c w.heap.size w h1.len h1.cap h1.big h1.wf h1.rd (aC _)).mono
  fun r w' ⟨q',hq',⟨v,u,h3,h4,h5,h6⟩,hb⟩=>by
   have:=hq'.unique hq;subst this;rw [hl] at h5;exact ⟨v,u,h3,h4,h5,hb⟩
theorem nk {w:World}{a:Option Addr}{n c:Nat}{xs:List Nat}{k:Nat}(h1:Arg w a n c xs) (e:bl (val xs)=k) :
 Calls Tryz.prog 93 #[.slice a n c] w fun r w'=>r=.returned (.int .i64 (k:Nat))/\Below w.heap.size w w':=by
 subst e;exact (oG xs a n c w.heap.size w h1.len h1.cap (by have:=h1.big;omega) h1.wf h1.rd).mono fun r w' ⟨h,e⟩=>⟨h,by rw [e];exact aD _ _⟩
theorem oU {X V:Nat}{k:Nat}(hX:¬ LG X) (hb:X=0\/bl X+k<=262144) (e:X*2^k=V):aW X (k:Int)=(V,0):=by
 unfold aW;rw [if_neg hX]
 by_cases h0:X=0
 · rw [if_pos h0,<-e,h0,eQ]
 · rw [if_neg h0,if_neg af,if_neg af];simp [e]
theorem tu {X V:Nat}{k:Nat}(hX:¬ LG X) (e:X/2^k=V):aW X (-(k:Int))=(V,0):=by
 unfold aW;rw [if_neg hX]
 by_cases h0:X=0
 · rw [if_pos h0,<-e,h0,Nat.zero_div]
 · rw [if_neg h0]
   by_cases hk:k=0
   · subst hk;rw [if_neg aO,if_neg (by have:=mt (uk X).2 hX;omega)];simp at e;simp [e]
   · rw [if_pos af];simp [e]
theorem RI {X Y:Nat}(h1:¬ LG X) (h2:¬ LG Y) (h:Y≠0) {V U:Nat}(e1:X/Y=V) (e2:X%Y=U):nZ X Y=(V,U,0):=by
 unfold nZ;rw [if_neg (by simp [h1,h2]),if_neg h,e1,e2]
theorem E5 {w:World}{a b q h:Option Addr}{ca cb cq ch:Nat}(W0 Lf Y H cut Bk Lo Y4 Hs:Nat) (z:Int) (AW:Arg w a (ws W0).length ca (ws W0)) (AL:Arg w b (ws Lf).length cb (ws Lf)) (AY:Arg w q (ws Y).length cq (ws Y)) (AH:Arg w h (ws H).length ch (ws H))
 (hc:cut<=4611686018427387904) (e1:aW H (cut:Int)=(Bk,0)) (e2:nY Y Bk=(Lo,0)) (e3:jR W0 Lo=(Y4,0)) (e4:aW Lf (cut:Int)=(Hs,0)) (e5:aY Hs Y4=z)
 (l1:(ws Bk).length<=8192) (l2:(ws Lo).length<=8192) (l3:(ws Y4).length<=8192) (l4:(ws Hs).length<=8192) :
 Calls Tryz.prog 143 #[.slice a (ws W0).length ca,.slice b (ws Lf).length cb,.slice q (ws Y).length cq,.slice h (ws H).length ch,.int .i64 (cut:Nat)] w fun r w'=>r=.returned (.int .i64 z)/\Below w.heap.size w w':=by
 rw [<-aj H] at e1;rw [<-aj Y,<-aj Bk] at e2;rw [<-aj W0,<-aj Lo] at e3;rw [<-aj Lf] at e4;rw [<-aj Hs,<-aj Y4] at e5;have E:=(eu e1 e2 e3 e4 e5);clear e1 e2 e3 e4 e5;have hbel:=aD w.heap.size w;have S0:=(eu hbel AW AL AY AH);clear hbel;clear AW AL AY AH;go_enter Tryz.func143,Tryz.ntmps143;obtain ⟨aB,AW,AL,AY,AH⟩:=S0.o;have HC:=hid (fA (cut:Int) AH E.o.1 af af);clear aB AW AL AY AH;go_wp2_with fail;refine HC.o.mono ?_;rintro r u1 ⟨v,rfl,hN,hb⟩;obtain ⟨a1,c1,rfl,_⟩:=hN.arg af;clear HC;obtain ⟨aB,AW,AL,AY,AH⟩:=S0.o;have hbn:=aB.trans (hb.mono aB.size);have S1:=iI hbn (AW.below hb) (AL.below hb) (AY.below hb) (AH.below hb) (hN.mono aB.size);clear aB AW AL AY AH;clear hb hbn S0;clear hN;obtain ⟨aB,AW,AL,AY,AH,NB⟩:=S1.o;have HC:=hid (vw AY (NB.aU af).2 E.o.2.1);clear aB AW AL AY AH NB;go_wp2_with fail;refine HC.o.mono ?_;rintro r u2 ⟨v,rfl,hN,hb⟩;obtain ⟨a2,c2,rfl,_⟩:=hN.arg af;clear HC;obtain ⟨aB,AW,AL,AY,AH,NB⟩:=S1.o;have hbn:=aB.trans (hb.mono aB.size);have S2:=l7 hbn (AW.below hb) (AL.below hb) (AY.below hb) (AH.below hb) (NB.below hb) (hN.mono aB.size);clear aB AW AL AY AH NB;clear hb hbn S1;clear hN;obtain ⟨aB,AW,AL,AY,AH,NB,NL⟩:=S2.o;have HC:=hid (Qp AW (NL.aU af).2 E.o.r2.1);clear aB AW AL AY AH NB NL;go_wp2_with fail;refine HC.o.mono ?_;rintro r u3 ⟨v,rfl,hN,hb⟩;obtain ⟨a3,c3,rfl,_⟩:=hN.arg af;clear HC;obtain ⟨aB,AW,AL,AY,AH,NB,NL⟩:=S2.o;have hbn:=aB.trans (hb.mono aB.size);have S3:=rT hbn (AW.below hb) (AL.below hb) (AY.below hb) (AH.below hb) (NB.below hb) (NL.below hb) (hN.mono aB.size);clear aB AW AL AY AH NB NL;clear hb hbn S2;clear hN;obtain ⟨aB,AW,AL,AY,AH,NB,NL,NT⟩:=S3.o;have HC:=hid (fA (cut:Int) AL E.o.r3.1 af af);clear aB AW AL AY AH NB NL NT;go_wp2_with fail;refine HC.o.mono ?_;rintro r u4 ⟨v,rfl,hN,hb⟩;obtain ⟨a4,c4,rfl,_⟩:=hN.arg af;clear HC;obtain ⟨aB,AW,AL,AY,AH,NB,NL,NT⟩:=S3.o;have hbn:=aB.trans (hb.mono aB.size);have S4:=P7 hbn (AW.below hb) (AL.below hb) (AY.below hb) (AH.below hb) (NB.below hb) (NL.below hb) (NT.below hb) (hN.mono aB.size);clear aB AW AL AY AH NB NL NT;clear hb hbn S3;clear hN;obtain ⟨aB,AW,AL,AY,AH,NB,NL,NT,NS⟩:=S4.o;have HC:=hid (zJ (NS.aU af).2 (NT.aU af).2 z E.o.r4);clear aB AW AL AY AH NB NL NT NS;go_wp2_with fail;refine HC.o.mono ?_;rintro r u5 ⟨rfl,hb⟩;clear HC;obtain ⟨aB,AW,AL,AY,AH,NB,NL,NT,NS⟩:=S4.o;have hbn:=aB.trans (hb.mono aB.size);have S5:=P7 hbn (AW.below hb) (AL.below hb) (AY.below hb) (AH.below hb) (NB.below hb) (NL.below hb) (NT.below hb) (NS.below hb);clear aB AW AL AY AH NB NL NT NS;clear hb hbn S4;have hbW:=hid S5.o.1;clear S5 E;go_wp2;go_ret;exact ⟨rfl,hbW.o⟩
def Tk (w:World) (g T:Nat) (x y z:Value):Prop:=w.heap[g]?=some (.cells #[x,y,z] T (0,0))
theorem Tk.lt {w:World}{g T:Nat}{x y z:Value}(h:Tk w g T x y z):g<w.heap.size:=(gD.1 h).1
theorem Tk.below {w w':World}{g T:Nat}{x y z:Value}(h:Tk w g T x y z) (hb:Below w.heap.size w w'):Tk w' g T x y z:=by
 unfold Tk;rw [hb.block g h.lt];exact h
theorem Tk.alloc {w:World}{g T:Nat}{x y z:Value}(h:Tk w g T x y z) (o:Obj):Tk (w.alloc o) g T x y z:=h.below (ae w o)
theorem Tk.new (w:World) (T:Nat) (x y z:Value):Tk (w.alloc (.cells #[x,y,z] T)) w.heap.size T x y z:=ib _ _
theorem Tk.facts {w:World}{g T:Nat}{x y z:Value}(h:Tk w g T x y z) :
 w.cell? ⟨g,0,none⟩=some x/\w.cell? ⟨g,1,none⟩=some y/\w.cell? ⟨g,2,none⟩=some z/\w.frozen? ⟨g,0,none⟩=false/\w.frozen? ⟨g,1,none⟩=false/\w.frozen? ⟨g,2,none⟩=false:=by
 unfold Tk at h;simp [World.cell?,World.frozen?,h]
theorem Tk.set {w:World}{g T:Nat}{x y z:Value}(h:Tk w g T x y z) (a b c:Value):Tk (cZ w g a b c) g T a b c:=by
 unfold Tk at h |-;simp [cZ,World.setCell,lC,h]
theorem Tk.but {w w':World}{g g' T:Nat}{x y z:Value}(h:Tk w g T x y z) (hb:But g' w w') (hg:g≠g'):Tk w' g T x y z:=by
 unfold Tk;rw [hb.block g h.lt hg];exact h
def Rq (w:World) (g:Nat) (n:Bool) (v:Value) (e:Int) (m:Bool) (u:Value) (f:Int):Prop:=w.heap[g]?=some (.cells #[.bool n,v,.int .i64 e,.bool m,u,.int .i64 f] 58 (0,0))
theorem Rq.lt {w:World}{g:Nat}{n:Bool}{v:Value}{e:Int}{m:Bool}{u:Value}{f:Int}(h:Rq w g n v e m u f):g<w.heap.size:=(gD.1 h).1
theorem Rq.below {w w':World}{g:Nat}{n:Bool}{v:Value}{e:Int}{m:Bool}{u:Value}{f:Int}(h:Rq w g n v e m u f) (hb:Below w.heap.size w w'):Rq w' g n v e m u f:=by
 unfold Rq;rw [hb.block g h.lt];exact h
theorem Rq.alloc {w:World}{g:Nat}{n:Bool}{v:Value}{e:Int}{m:Bool}{u:Value}{f:Int}(h:Rq w g n v e m u f) (o:Obj):Rq (w.alloc o) g n v e m u f:=h.below (ae w o)
theorem Rq.new (w:World) (n:Bool) (v:Value) (e:Int) (m:Bool) (u:Value) (f:Int):Rq (w.alloc (.cells #[.bool n,v,.int .i64 e,.bool m,u,.int .i64 f] 58)) w.heap.size n v e m u f:=ib _ _
theorem Rq.facts {w:World}{g:Nat}{n:Bool}{v:Value}{e:Int}{m:Bool}{u:Value}{f:Int}(h:Rq w g n v e m u f) :
 w.cell? ⟨g,0,none⟩=some (.bool n)/\w.cell? ⟨g,1,none⟩=some v/\w.cell? ⟨g,2,none⟩=some (.int .i64 e)/\w.cell? ⟨g,3,none⟩=some (.bool m)/\w.cell? ⟨g,4,none⟩=some u/\w.cell? ⟨g,5,none⟩=some (.int .i64 f):=by
 unfold Rq at h;simp [World.cell?,h]
theorem Rq.frz {w:World}{g:Nat}{n:Bool}{v:Value}{e:Int}{m:Bool}{u:Value}{f:Int}(h:Rq w g n v e m u f) :
 w.frozen? ⟨g,0,none⟩=false/\w.frozen? ⟨g,1,none⟩=false/\w.frozen? ⟨g,2,none⟩=false/\w.frozen? ⟨g,3,none⟩=false/\w.frozen? ⟨g,4,none⟩=false/\w.frozen? ⟨g,5,none⟩=false:=by
 unfold Rq at h;simp [World.frozen?,h]
abbrev XU (w:World) (g:Nat) (a b c d e f:Value):World:=(((((w.setCell ⟨g,0,none⟩ a).setCell ⟨g,1,none⟩ b).setCell ⟨g,2,none⟩ c).setCell ⟨g,3,none⟩ d).setCell ⟨g,4,none⟩ e).setCell ⟨g,5,none⟩ f
theorem Hg (g:Nat) (w:World) (a b c d e f:Value):But g w (XU w g a b c d e f):=((((((But.refl g w).set _ _).set _ _).set _ _).set _ _).set _ _).set _ _
theorem Rq.set {w:World}{g:Nat}{n:Bool}{v:Value}{e:Int}{m:Bool}{u:Value}{f:Int}(h:Rq w g n v e m u f) (n':Bool) (v':Value) (e':Int) (m':Bool) (u':Value) (f':Int) :
 Rq (XU w g (.bool n') v' (.int .i64 e') (.bool m') u' (.int .i64 f')) g n' v' e' m' u' f':=by
 unfold Rq at h |-;simp [XU,World.setCell,lC,h]
theorem Nt.off {lo:Nat}{w w':World}{v:Value}{X g:Nat}(h:Nt lo w v X) (hb:But g w w') (hg:v.ownBlock≠Option.some g):Nt lo w' v X:=by
 refine ⟨h.1,?_⟩;rcases h.2 with hn|⟨g',cap,cur,rfl,hlo,hg',rest⟩
 · exact .inl hn
 · refine .inr ⟨g',cap,cur,rfl,hlo,?_,rest⟩;rw [hb.block g' (gD.1 hg').1 (by intro e;subst e;exact hg (by simp [Value.ownBlock]))];exact hg'
theorem Nt.jA {lo:Nat}{w:World}{v:Value}{X g T:Nat}{C:Array Value}{fz:Nat×Nat}(h:Nt lo w v X) (hT:T≠51) (hg:w.heap[g]?=Option.some (.cells C T fz)):v.ownBlock≠Option.some g:=by
 intro e;rcases h.2 with ⟨rfl,_⟩|⟨g',cap,cur,rfl,_,h2,_⟩
 · simp [Value.ownBlock] at e
 · simp [Value.ownBlock] at e;subst e;rw [hg] at h2;simp at h2;exact hT h2.2.1
theorem Nt.mE {lo:Nat}{w:World}{v:Value}{X g T:Nat}{x y z:Value}(h:Nt lo w v X) (D:Tk w g T x y z) (hT:T≠51) (a b c:Value):Nt lo (cZ w g a b c) v X:=h.off (kR g w a b c) (h.jA hT D)
theorem Nt.XV {lo:Nat}{w:World}{v:Value}{X g:Nat}{n:Bool}{p:Value}{e:Int}{m:Bool}{u:Value}{f:Int}(h:Nt lo w v X) (D:Rq w g n p e m u f) (a b c d q r:Value):Nt lo (XU w g a b c d q r) v X:=h.off (Hg g w a b c d q r) (h.jA au D)
theorem cu {B g:Nat}{a w:World}(h:Below B a w) (hB:B<=w.heap.size) (hg:B<=g) (x y z:Value):Below B a (cZ w g x y z):=But.below h (kR g w x y z) hB hg
theorem tC {B g:Nat}{a w:World}(h:Below B a w) (hB:B<=w.heap.size) (hg:B<=g) (x y z p q r:Value):Below B a (XU w g x y z p q r):=But.below h (Hg g w x y z p q r) hB hg
def Ap (v u:Value):Prop:=∀ g,v.ownBlock=some g->u.ownBlock≠some g
theorem Nt.blk {lo:Nat}{w:World}{v:Value}{X g:Nat}(h:Nt lo w v X) (hg:v.ownBlock=Option.some g):lo<=g/\g<w.heap.size:=by
 rcases h.2 with ⟨rfl,_⟩|⟨g',cap,cur,rfl,h1,h2,_⟩
 · simp [Value.ownBlock] at hg
 · simp [Value.ownBlock] at hg;subst hg;exact ⟨h1,(gD.1 h2).1⟩
theorem Nt.ap {lo:Nat}{w w':World}{v u:Value}{X Y:Nat}(h:Nt lo w v X) (k:Nt w.heap.size w' u Y):Ap v u:=by
 intro g hg hu;have:=(h.blk hg).2;have:=(k.blk hu).1;omega
theorem Wx:(ws 0).length=0:=by rw [bI];rfl
theorem uz (W:World) (g:Nat) (v:Value) (x:Int) (t:Bool) (tmps:Array Value) (ht:tmps[4]?.getD undef=.pointer (some ⟨g,0,none⟩)) (D:Tk W g 125 v (.int .i64 x) (.bool t)) :
 (results Tryz.f104 tmps).run Tryz.prog W=.ok (.agg #[v,.int .i64 x,.bool t]) W:=by
 obtain ⟨x0,x1,x2,_,_,_⟩:=D.facts;simp [results,Tryz.results104,ht,go_sem,x0,x1,x2]
theorem yQ (w:World) (n:Bool) (v:Value) (e:Int) (m:Bool) (u:Value) (f:Int) (W:World) (hW:W=(w.alloc (.cells #[.bool n,v,.int .i64 e,.bool m,u,.int .i64 f] 58)).alloc (.cells #[.slice none 0 0,.int .i64 0,.bool false] 125)) :
 Below w.heap.size w W/\W.heap.size=w.heap.size+2/\Rq W w.heap.size n v e m u f/\Tk W (w.heap.size+1) 125 (.slice none 0 0) (.int .i64 0) (.bool false):=by
 rw [hW];refine ⟨(ae w _).alloc aO _,aO,(Rq.new _ _ _ _ _ _ _).alloc _,?_⟩;have:=Tk.new (w.alloc (.cells #[.bool n,v,.int .i64 e,.bool m,u,.int .i64 f] 58)) 125 (.slice none 0 0) (.int .i64 0) (.bool false);simpa using this
theorem Cw {w:World}{a b:Option Addr}{ca cb:Nat}(n m:Bool) (X Y:Nat) (e f:Int) (size lX lY lH cut H tq W0 Lf WH:Nat) (t bb z x y1 y2:Int) (tt:Bool)
 (AX:Arg w a (ws X).length ca (ws X)) (AY:Arg w b (ws Y).length cb (ws Y))
 (he0:-1048576<=e) (he1:e<=1048576) (hf0:-1048576<=f) (hf1:f<=1048576) (hs:size<=1000) (XW:bl Y=lY) (XX:bl X=lX) (XY:bl H=lH) (bX:lX<=262144) (bY:lY<=262144) (bH:lH<=262144)
 (ht:(lY:Int)+(size:Int)-262144=t) (hcut:max t 0=(cut:Int)) (bcut:cut<=2000)
 (e1:aW Y (-(cut:Int))=(H,0)) (hbb:(lH:Int)+(size:Int)-(lX:Int)=bb) (e2:aW X bb=(tq,0)) (e3:nZ tq H=(W0,Lf,0))
 (HL:Hid (∀ (u:World) (p q r s:Option Addr) (cp cq cr cs:Nat),Arg u p (ws W0).length cp (ws W0)->Arg u q (ws Lf).length cq (ws Lf)->Arg u r (ws Y).length cr (ws Y)->Arg u s (ws H).length cs (ws H)->Calls Tryz.prog 143 #[.slice p (ws W0).length cp,.slice q (ws Lf).length cq,.slice r (ws Y).length cr,.slice s (ws H).length cs,.int .i64 (cut:Nat)] u fun r w'=>r=.returned (.int .i64 z)/\Below u.heap.size u w'))
 (hz:decide (z<0)=false)
 (h1:e-f=y1) (h2:y1-bb=y2) (h3:y2-(cut:Int)=x) (JJ:(decide (z=0)&&decide (0<=bb))=tt)
 (l1:(ws H).length<=8192) (l2:(ws tq).length<=8192) (l3:(ws W0).length<=8192) (l4:(ws Lf).length<=8192) :
 Calls Tryz.prog 104 #[.agg #[.bool n,.slice a (ws X).length ca,.int .i64 e,.bool m,.slice b (ws Y).length cb,.int .i64 f],.int .i64 (size:Nat)] w fun r w'=>(∃ v,r=.returned (.agg #[v,.int .i64 x,.bool tt])/\Nt w.heap.size w' v W0)/\Below w.heap.size w w':=by
 obtain ⟨W1,hW1⟩:=ah ((w.alloc (.cells #[.bool n,.slice a (ws X).length ca,.int .i64 e,.bool m,.slice b (ws Y).length cb,.int .i64 f] 58)).alloc (.cells #[.slice none 0 0,.int .i64 0,.bool false] 125));obtain ⟨hB,hz1,RQ,SK⟩:=yQ w n _ e m _ f W1 hW1;have Cx:aW (val (ws Y)) (-(cut:Int))=(H,0):=by rw [aj];exact e1
 have e2':aW (val (ws X)) bb=(tq,0):=by rw [aj];exact e2
 have e3':nZ (val (ws tq)) (val (ws H))=(W0,Lf,0):=by rw [aj,aj];exact e3
 have XZ:bl (val (ws Y))=lY:=by rw [aj];exact XW
 have X0:bl (val (ws X))=lX:=by rw [aj];exact XX
 have X3:bl (val (ws H))=lH:=by rw [aj];exact XY
 have E:=(iI Cx e2' e3' XZ X0 X3);have SZ:=(aJ hz1 hB);have hs2:w.heap.size+2<=W1.heap.size:=af
 have hbel:=hB;have S0:=(eu hbel (AX.below hB) (AY.below hB) RQ SK);clear hbel;clear e1 e2 e3 Cx e2' e3' XZ X0 X3 XW XX XY AX AY hB RQ SK hz1;go_enter Tryz.func104,Tryz.ntmps104
 go_upto_region 1 with fail
 rw [<-hW1];clear hW1;obtain ⟨x0,x1,x2,x3,x4,x5⟩:=S0.o.r3.1.facts
 go_quiet (fail)
 clear x0 x1 x2 x3 x4 x5;generalize hV:World.drewN W1 _=V1;have hb:Below W1.heap.size W1 V1:=by rw [<-hV];exact Below.drewN' (aD _ _) _
 clear hV;obtain ⟨aB,AX,AY,RQ,SK⟩:=S0.o;have hbn:=aB.trans (hb.mono aB.size);have S1:=eu hbn (AX.below hb) (AY.below hb) (RQ.below hb) (SK.below hb);clear aB AX AY RQ SK;clear hb hbn S0;obtain ⟨aB,AX,AY,RQ,SK⟩:=S1.o;have HC:=hid (nk AY E.o.r3.1);clear aB AX AY RQ SK;go_wp2_with fail;refine HC.o.mono ?_;rintro r u2 ⟨rfl,hb⟩;clear HC;obtain ⟨aB,AX,AY,RQ,SK⟩:=S1.o;have hbn:=aB.trans (hb.mono aB.size);have S2:=eu hbn (AX.below hb) (AY.below hb) (RQ.below hb) (SK.below hb);clear aB AX AY RQ SK;clear hb hbn S1;obtain ⟨aB,AX,AY,RQ,SK⟩:=S2.o;have HC:=hid (fA (-(cut:Int)) AY E.o.1 af af);clear aB AX AY RQ SK;go_wp2_with fail;refine HC.o.mono ?_;rintro r u3 ⟨v,rfl,hN,hb⟩;obtain ⟨a1,c1,rfl,_⟩:=hN.arg af;clear HC;obtain ⟨aB,AX,AY,RQ,SK⟩:=S2.o;have hbn:=aB.trans (hb.mono aB.size);have S3:=iI hbn (AX.below hb) (AY.below hb) (RQ.below hb) (SK.below hb) (hN.mono aB.size);clear aB AX AY RQ SK;clear hb hbn S2;clear hN;obtain ⟨aB,AX,AY,RQ,SK,NH⟩:=S3.o;have HC:=hid (nk (NH.aU af).2 E.o.r5);clear aB AX AY RQ SK NH;go_wp2_with fail;refine HC.o.mono ?_;rintro r u4 ⟨rfl,hb⟩;clear HC;obtain ⟨aB,AX,AY,RQ,SK,NH⟩:=S3.o;have hbn:=aB.trans (hb.mono aB.size);have S4:=iI hbn (AX.below hb) (AY.below hb) (RQ.below hb) (SK.below hb) (NH.below hb);clear aB AX AY RQ SK NH;clear hb hbn S3;obtain ⟨aB,AX,AY,RQ,SK,NH⟩:=S4.o;have HC:=hid (nk AX E.o.r4.1);clear aB AX AY RQ SK NH;go_wp2_with fail;refine HC.o.mono ?_;rintro r u5 ⟨rfl,hb⟩;clear HC;obtain ⟨aB,AX,AY,RQ,SK,NH⟩:=S4.o;have hbn:=aB.trans (hb.mono aB.size);have S5:=iI hbn (AX.below hb) (AY.below hb) (RQ.below hb) (SK.below hb) (NH.below hb);clear aB AX AY RQ SK NH;clear hb hbn S4;obtain ⟨aB,AX,AY,RQ,SK,NH⟩:=S5.o;have HC:=hid (fA bb AX E.o.2.1 af af);clear aB AX AY RQ SK NH;go_wp2_with fail;refine HC.o.mono ?_;rintro r u6 ⟨v,rfl,hN,hb⟩;obtain ⟨a2,c2,rfl,_⟩:=hN.arg af;clear HC;obtain ⟨aB,AX,AY,RQ,SK,NH⟩:=S5.o;have hbn:=aB.trans (hb.mono aB.size);have S6:=l7 hbn (AX.below hb) (AY.below hb) (RQ.below hb) (SK.below hb) (NH.below hb) (hN.mono aB.size);clear aB AX AY RQ SK NH;clear hb hbn S5;clear hN;obtain ⟨aB,AX,AY,RQ,SK,NH,NV⟩:=S6.o;have HC:=hid (He (NV.aU af).2 (NH.aU af).2 E.o.r2.1);clear aB AX AY RQ SK NH NV;go_wp2_with fail;refine HC.o.mono ?_;rintro r u7 ⟨v,v2,rfl,hN,hM,hb⟩;obtain ⟨a3,c3,rfl,_⟩:=hN.arg af;obtain ⟨a4,c4,rfl,_⟩:=hM.arg af;clear HC;obtain ⟨aB,AX,AY,RQ,SK,NH,NV⟩:=S6.o;have hbn:=aB.trans (hb.mono aB.size);have S7:=rT hbn (AX.below hb) (AY.below hb) (RQ.below hb) (SK.below hb) (NH.below hb) (hN.mono aB.size) (hM.mono aB.size);clear aB AX AY RQ SK NH NV;clear hb hbn S6;clear hN hM;obtain ⟨aB,AX,AY,RQ,SK,NH,NW,NL⟩:=S7.o;have HC:=hid (HL.o u7 _ _ _ _ _ _ _ _ (NW.aU af).2 (NL.aU af).2 AY (NH.aU af).2);clear aB AX AY RQ SK NH NW NL;go_wp2_with fail;refine HC.o.mono ?_;rintro r u8 ⟨rfl,hb⟩;clear HC;obtain ⟨aB,AX,AY,RQ,SK,NH,NW,NL⟩:=S7.o;have hbn:=aB.trans (hb.mono aB.size);have S8:=rT hbn (AX.below hb) (AY.below hb) (RQ.below hb) (SK.below hb) (NH.below hb) (NW.below hb) (NL.below hb);clear aB AX AY RQ SK NH NW NL;clear hb hbn S7;obtain ⟨aB,AX,AY,RQ,SK,NH,NW,NL⟩:=S8.o;have hlast:=aZ aB NW SK;obtain ⟨x0,x1,x2,x3,x4,x5⟩:=RQ.facts;obtain ⟨s0,s1,s2,rX,rY,rZ⟩:=SK.facts;have hsz:=ak (SK.lt);clear aB AX AY RQ SK NH NW NL;clear S8 E HL;have htA:=ak JJ;clear JJ;go_wp2
 all_goals (
  obtain ⟨aB,NZ,SK⟩:=hlast.o;have hsz:=aB.size;refine aF (uz _ (w.heap.size+1) (.slice a3 (ws W0).length c3) x _ _ rfl (SK.set _ _ _)) rfl ⟨⟨.slice a3 (ws W0).length c3,?_,NZ.mE SK au _ _ _⟩,cu aB hsz af _ _ _⟩;rw [<-htA.o]
  first | rfl | simp [*])
theorem Cy {w:World}{a b:Option Addr}{ca cb:Nat}(n m:Bool) (X Y:Nat) (e f:Int) (size lX lY lH cut H tq W0 Lf WH:Nat) (t bb z x y1 y2:Int) (tt:Bool)
 (AX:Arg w a (ws X).length ca (ws X)) (AY:Arg w b (ws Y).length cb (ws Y))
 (he0:-1048576<=e) (he1:e<=1048576) (hf0:-1048576<=f) (hf1:f<=1048576) (hs:size<=1000) (XW:bl Y=lY) (XX:bl X=lX) (XY:bl H=lH) (bX:lX<=262144) (bY:lY<=262144) (bH:lH<=262144)
 (ht:(lY:Int)+(size:Int)-262144=t) (hcut:max t 0=(cut:Int)) (bcut:cut<=2000)
 (e1:aW Y (-(cut:Int))=(H,0)) (hbb:(lH:Int)+(size:Int)-(lX:Int)=bb) (e2:aW X bb=(tq,0)) (e3:nZ tq H=(W0,Lf,0))
 (HL:Hid (∀ (u:World) (p q r s:Option Addr) (cp cq cr cs:Nat),Arg u p (ws W0).length cp (ws W0)->Arg u q (ws Lf).length cq (ws Lf)->Arg u r (ws Y).length cr (ws Y)->Arg u s (ws H).length cs (ws H)->Calls Tryz.prog 143 #[.slice p (ws W0).length cp,.slice q (ws Lf).length cq,.slice r (ws Y).length cr,.slice s (ws H).length cs,.int .i64 (cut:Nat)] u fun r w'=>r=.returned (.int .i64 z)/\Below u.heap.size u w'))
 (hz:decide (z<0)=true) (e4:nY W0 1=(WH,0))
 (h1:e-f=y1) (h2:y1-bb=y2) (h3:y2-(cut:Int)=x) (JJ:(decide (z=0)&&decide (0<=bb))=tt)
 (l1:(ws H).length<=8192) (l2:(ws tq).length<=8192) (l3:(ws W0).length<=8192) (l4:(ws Lf).length<=8192) (l5:(ws WH).length<=8192) :
 Calls Tryz.prog 104 #[.agg #[.bool n,.slice a (ws X).length ca,.int .i64 e,.bool m,.slice b (ws Y).length cb,.int .i64 f],.int .i64 (size:Nat)] w fun r w'=>(∃ v,r=.returned (.agg #[v,.int .i64 x,.bool tt])/\Nt w.heap.size w' v WH)/\Below w.heap.size w w':=by
 obtain ⟨W1,hW1⟩:=ah ((w.alloc (.cells #[.bool n,.slice a (ws X).length ca,.int .i64 e,.bool m,.slice b (ws Y).length cb,.int .i64 f] 58)).alloc (.cells #[.slice none 0 0,.int .i64 0,.bool false] 125));obtain ⟨hB,hz1,RQ,SK⟩:=yQ w n _ e m _ f W1 hW1;have Cx:aW (val (ws Y)) (-(cut:Int))=(H,0):=by rw [aj];exact e1
 have e2':aW (val (ws X)) bb=(tq,0):=by rw [aj];exact e2
 have e3':nZ (val (ws tq)) (val (ws H))=(W0,Lf,0):=by rw [aj,aj];exact e3
 have XZ:bl (val (ws Y))=lY:=by rw [aj];exact XW
 have X0:bl (val (ws X))=lX:=by rw [aj];exact XX
 have X3:bl (val (ws H))=lH:=by rw [aj];exact XY
 have E:=(iI Cx e2' e3' XZ X0 X3);have SZ:=(aJ hz1 hB);have hs2:w.heap.size+2<=W1.heap.size:=af
 have e4':nY (val (ws W0)) (val (ws 1))=(WH,0):=by rw [aj,aj];exact e4
 have E4:=ak e4';have l1s:(ws 1).length<=8192:=by rw [sF];simp
 clear e4 e4';have hbel:=hB;have S0:=(eu hbel (AX.below hB) (AY.below hB) RQ SK);clear hbel;clear e1 e2 e3 Cx e2' e3' XZ X0 X3 XW XX XY AX AY hB RQ SK hz1;go_enter Tryz.func104,Tryz.ntmps104
 go_upto_region 1 with fail
 rw [<-hW1];clear hW1;obtain ⟨x0,x1,x2,x3,x4,x5⟩:=S0.o.r3.1.facts
 go_quiet (fail)
 clear x0 x1 x2 x3 x4 x5;generalize hV:World.drewN W1 _=V1;have hb:Below W1.heap.size W1 V1:=by rw [<-hV];exact Below.drewN' (aD _ _) _
 clear hV;obtain ⟨aB,AX,AY,RQ,SK⟩:=S0.o;have hbn:=aB.trans (hb.mono aB.size);have S1:=eu hbn (AX.below hb) (AY.below hb) (RQ.below hb) (SK.below hb);clear aB AX AY RQ SK;clear hb hbn S0;obtain ⟨aB,AX,AY,RQ,SK⟩:=S1.o;have HC:=hid (nk AY E.o.r3.1);clear aB AX AY RQ SK;go_wp2_with fail;refine HC.o.mono ?_;rintro r u2 ⟨rfl,hb⟩;clear HC;obtain ⟨aB,AX,AY,RQ,SK⟩:=S1.o;have hbn:=aB.trans (hb.mono aB.size);have S2:=eu hbn (AX.below hb) (AY.below hb) (RQ.below hb) (SK.below hb);clear aB AX AY RQ SK;clear hb hbn S1;obtain ⟨aB,AX,AY,RQ,SK⟩:=S2.o;have HC:=hid (fA (-(cut:Int)) AY E.o.1 af af);clear aB AX AY RQ SK;go_wp2_with fail;refine HC.o.mono ?_;rintro r u3 ⟨v,rfl,hN,hb⟩;obtain ⟨a1,c1,rfl,_⟩:=hN.arg af;clear HC;obtain ⟨aB,AX,AY,RQ,SK⟩:=S2.o;have hbn:=aB.trans (hb.mono aB.size);have S3:=iI hbn (AX.below hb) (AY.below hb) (RQ.below hb) (SK.below hb) (hN.mono aB.size);clear aB AX AY RQ SK;clear hb hbn S2;clear hN;obtain ⟨aB,AX,AY,RQ,SK,NH⟩:=S3.o;have HC:=hid (nk (NH.aU af).2 E.o.r5);clear aB AX AY RQ SK NH;go_wp2_with fail;refine HC.o.mono ?_;rintro r u4 ⟨rfl,hb⟩;clear HC;obtain ⟨aB,AX,AY,RQ,SK,NH⟩:=S3.o;have hbn:=aB.trans (hb.mono aB.size);have S4:=iI hbn (AX.below hb) (AY.below hb) (RQ.below hb) (SK.below hb) (NH.below hb);clear aB AX AY RQ SK NH;clear hb hbn S3;obtain ⟨aB,AX,AY,RQ,SK,NH⟩:=S4.o;have HC:=hid (nk AX E.o.r4.1);clear aB AX AY RQ SK NH;go_wp2_with fail;refine HC.o.mono ?_;rintro r u5 ⟨rfl,hb⟩;clear HC;obtain ⟨aB,AX,AY,RQ,SK,NH⟩:=S4.o;have hbn:=aB.trans (hb.mono aB.size);have S5:=iI hbn (AX.below hb) (AY.below hb) (RQ.below hb) (SK.below hb) (NH.below hb);clear aB AX AY RQ SK NH;clear hb hbn S4;obtain ⟨aB,AX,AY,RQ,SK,NH⟩:=S5.o;have HC:=hid (fA bb AX E.o.2.1 af af);clear aB AX AY RQ SK NH;go_wp2_with fail;refine HC.o.mono ?_;rintro r u6 ⟨v,rfl,hN,hb⟩;obtain ⟨a2,c2,rfl,_⟩:=hN.arg af;clear HC;obtain ⟨aB,AX,AY,RQ,SK,NH⟩:=S5.o;have hbn:=aB.trans (hb.mono aB.size);have S6:=l7 hbn (AX.below hb) (AY.below hb) (RQ.below hb) (SK.below hb) (NH.below hb) (hN.mono aB.size);clear aB AX AY RQ SK NH;clear hb hbn S5;clear hN;obtain ⟨aB,AX,AY,RQ,SK,NH,NV⟩:=S6.o;have HC:=hid (He (NV.aU af).2 (NH.aU af).2 E.o.r2.1);clear aB AX AY RQ SK NH NV;go_wp2_with fail;refine HC.o.mono ?_;rintro r u7 ⟨v,v2,rfl,hN,hM,hb⟩;obtain ⟨a3,c3,rfl,_⟩:=hN.arg af;obtain ⟨a4,c4,rfl,_⟩:=hM.arg af;clear HC;obtain ⟨aB,AX,AY,RQ,SK,NH,NV⟩:=S6.o;have hbn:=aB.trans (hb.mono aB.size);have S7:=rT hbn (AX.below hb) (AY.below hb) (RQ.below hb) (SK.below hb) (NH.below hb) (hN.mono aB.size) (hM.mono aB.size);clear aB AX AY RQ SK NH NV;clear hb hbn S6;clear hN hM;obtain ⟨aB,AX,AY,RQ,SK,NH,NW,NL⟩:=S7.o;have HC:=hid (HL.o u7 _ _ _ _ _ _ _ _ (NW.aU af).2 (NL.aU af).2 AY (NH.aU af).2);clear aB AX AY RQ SK NH NW NL;go_wp2_with fail;refine HC.o.mono ?_;rintro r u8 ⟨rfl,hb⟩;clear HC;obtain ⟨aB,AX,AY,RQ,SK,NH,NW,NL⟩:=S7.o;have hbn:=aB.trans (hb.mono aB.size);have S8:=rT hbn (AX.below hb) (AY.below hb) (RQ.below hb) (SK.below hb) (NH.below hb) (NW.below hb) (NL.below hb);clear aB AX AY RQ SK NH NW NL;clear hb hbn S7;obtain ⟨aB,AX,AY,RQ,SK,NH,NW,NL⟩:=S8.o;have HC:=hid (qf 1 u8 af);clear aB AX AY RQ SK NH NW NL;go_wp2_with fail;refine HC.o.mono ?_;rintro r u9 ⟨v,rfl,hN,hb⟩;obtain ⟨a5,c5,rfl,_⟩:=hN.arg af;clear HC;obtain ⟨aB,AX,AY,RQ,SK,NH,NW,NL⟩:=S8.o;have hbn:=aB.trans (hb.mono aB.size);have S9:=P7 hbn (AX.below hb) (AY.below hb) (RQ.below hb) (SK.below hb) (NH.below hb) (NW.below hb) (NL.below hb) (hN.mono aB.size);clear aB AX AY RQ SK NH NW NL;clear hb hbn S8;clear hN;obtain ⟨aB,AX,AY,RQ,SK,NH,NW,NL,NO⟩:=S9.o;have HC:=hid (vw (NW.aU af).2 (NO.aU af).2 E4.o);clear aB AX AY RQ SK NH NW NL NO;go_wp2_with fail;refine HC.o.mono ?_;rintro r u10 ⟨v,rfl,hN,hb⟩;obtain ⟨a6,c6,rfl,_⟩:=hN.arg af;clear HC;obtain ⟨aB,AX,AY,RQ,SK,NH,NW,NL,NO⟩:=S9.o;have hbn:=aB.trans (hb.mono aB.size);have G9:=y7 hbn (AX.below hb) (AY.below hb) (RQ.below hb) (SK.below hb) (NH.below hb) (NW.below hb) (NL.below hb) (NO.below hb) (hN.mono aB.size);clear aB AX AY RQ SK NH NW NL NO;clear hb hbn S9;clear hN;obtain ⟨aB,AX,AY,RQ,SK,NH,NW,NL,NO,NR⟩:=G9.o;have hlast:=aZ aB NR SK;obtain ⟨x0,x1,x2,x3,x4,x5⟩:=RQ.facts;obtain ⟨s0,s1,s2,rX,rY,rZ⟩:=SK.facts;have hsz:=ak (SK.lt);clear aB AX AY RQ SK NH NW NL NO NR;clear G9 E HL;have htA:=ak JJ;clear JJ;go_wp2
 all_goals (
  obtain ⟨aB,NZ,SK⟩:=hlast.o;have hsz:=aB.size;refine aF (uz _ (w.heap.size+1) (.slice a6 (ws WH).length c6) x _ _ rfl (SK.set _ _ _)) rfl ⟨⟨.slice a6 (ws WH).length c6,?_,NZ.mE SK au _ _ _⟩,cu aB hsz af _ _ _⟩;rw [<-htA.o]
  first | rfl | simp [*])
theorem fT {X:Nat}(h:bl X<=262144):¬ LG X:=fun k=>by have:=(uk X).1 k;omega
theorem Kk {X Y V:Nat}(h1:¬ LG X) (h2:¬ LG Y) (h3:¬ LG V) (e:X*Y=V):jR X Y=(V,0):=by subst e;unfold jR;rw [if_neg (by simp [h1,h2]),if_neg h3]
theorem bZ {X:Nat}(h:bl X<=262144):(ws X).length<=8192:=by have:=fT h;unfold LG at this;omega
theorem dR {X k:Nat}(h:X<2^k):bl X<=k:=by
 by_cases h0:X=0
 · subst h0;rw [dG];omega
 · have:=(jw (a:=2) au).1 (gN (gT X h0) h);have:=dI X h0;omega
theorem mF {X Y:Nat}(h:X<=Y) (k:bl Y<=262144):bl X<=262144:=by
 have:=dR (gN h (il Y));omega
theorem Cz (x y:Nat):decide (aY x y<0)=decide (x<y):=by
 unfold aY
 by_cases h:x<y
 · simp [h]
 · by_cases h2:y<x <;> simp [h,h2]
theorem Og (x y:Nat):decide (aY x y=0)=decide (x=y):=by
 unfold aY
 by_cases h:x<y
 · have:x≠y:=af
   simp [h,this]
 · by_cases h2:y<x
   · have:x≠y:=af
     simp [h,h2,this]
   · have:x=y:=af
     simp [this]
theorem yR {w:World}{a b:Option Addr}{ca cb:Nat}(n m:Bool) (X Y:Nat) (e f:Int) (size:Nat)
 (AX:Arg w a (ws X).length ca (ws X)) (AY:Arg w b (ws Y).length cb (ws Y)) (hX:X=0\/X%2=1) (hY:Y≠0)
 (he0:-1048576<=e) (he1:e<=1048576) (hf0:-1048576<=f) (hf1:f<=1048576) (hs0:1<=size) (hs:size<=1000) (bX:bl X<=262144) (bY:bl Y<=262144) :
 Calls Tryz.prog 104 #[.agg #[.bool n,.slice a (ws X).length ca,.int .i64 e,.bool m,.slice b (ws Y).length cb,.int .i64 f],.int .i64 (size:Nat)] w fun r w'=>(∃ v,r=.returned (.agg #[v,.int .i64 (e-f-lg X Y size-fE Y size),.bool (oo X Y size)])/\Nt w.heap.size w' v (dQ X Y size))/\Below w.heap.size w w':=by
 have D:=iy X Y size hX hY hs0 hs bX bY;have vX:=dI Y hY;have cutb:fE Y size<=1000/\fE Y size<bl Y:=by unfold fE;omega
 have bH:bl (iZ Y size)<=262144:=by have:=D.Ud;omega
 have hHc:bl (iZ Y size)+size<=262144\/fE Y size=0:=by have:=D.Ud;unfold fE at *;omega
 have hbyb:-262144<=lg X Y size/\lg X Y size<=264000:=by unfold lg;omega
 have Vz:bl (pg X Y size)<=262144:=by
  have:=dR D.tq;have h2:bl (iZ Y size)+size<=262144:=by have:=D.Ud;unfold fE at this;omega
  omega
 have X4:bl (mD X Y size)<=262144:=by have:=dR D.w0;omega
 have bLf:bl (pz X Y size)<=262144:=mF (mg D.lef) bH;have e1:aW Y (-((fE Y size:Nat):Int))=(iZ Y size,0):=tu (fT bY) rfl
 have e2:aW X (lg X Y size)=(pg X Y size,0):=by
  by_cases hb:lg X Y size<0
  · have:=tu (X:=X) (k:=(-lg X Y size).toNat) (V:=pg X Y size) (fT bX) (by unfold pg;rw [if_pos hb]);rw [show -(((-lg X Y size).toNat:Nat):Int)=lg X Y size by omega] at this;exact this
  · have:=oU (X:=X) (k:=(lg X Y size).toNat) (V:=pg X Y size) (fT bX) (by
     by_cases h0:X=0
     · exact .inl h0
     · right
       have h2:bl (iZ Y size)+size<=262144:=by have:=D.Ud;unfold fE at this;omega
       unfold lg at *;omega) (by unfold pg;rw [if_neg hb])
    rw [show (((lg X Y size).toNat:Nat):Int)=lg X Y size by omega] at this;exact this
 have e3:nZ (pg X Y size) (iZ Y size)=(mD X Y size,pz X Y size,0):=RI (fT Vz) (fT bH) D.hig rfl rfl
 -- what cmpLow is asked
 have X5:iZ Y size*2^fE Y size<=Y:=D.low';have bBk:bl (iZ Y size*2^fE Y size)<=262144:=mF X5 bY;have bLo:bl (Cv Y size)<=262144:=mF (yc _ _) bY
 have bTk:bl (om X Y size)<=262144:=by
  have h1:om X Y size<2^(size+1+fE Y size):=by
   unfold om;rw [aL];exact qG D.w0 D.XM
  have:=dR h1;omega
 have bHs:bl (qm X Y size)<=262144:=by
  refine mF (Y:=Y) (dP ?_ X5) bY;exact fO _ (mg D.lef)
 have c1:aW (iZ Y size) ((fE Y size:Nat):Int)=(iZ Y size*2^fE Y size,0):=oU (fT bH) (.inr (by have:=D.Ud;omega)) rfl;have c2:nY Y (iZ Y size*2^fE Y size)=(Cv Y size,0):=vB (fT bY) (fT bBk) (by unfold Cv;omega);have c3:jR (mD X Y size) (Cv Y size)=(om X Y size,0):=Kk (fT X4) (fT bLo) (fT bTk) rfl
 have c4:aW (pz X Y size) ((fE Y size:Nat):Int)=(qm X Y size,0):=oU (fT bLf) (by
  by_cases h0:pz X Y size=0
  · exact .inl h0
  · right
    have hlt:pz X Y size<=iZ Y size:=mg D.lef;have:=dR (gN hlt (il (iZ Y size)));have:=D.Ud
    omega) rfl
 have HC:Hid (∀ (u:World) (p q r s:Option Addr) (cp cq cr cs:Nat),Arg u p (ws (mD X Y size)).length cp (ws (mD X Y size))->Arg u q (ws (pz X Y size)).length cq (ws (pz X Y size))->Arg u r (ws Y).length cr (ws Y)->Arg u s (ws (iZ Y size)).length cs (ws (iZ Y size))->Calls Tryz.prog 143 #[.slice p (ws (mD X Y size)).length cp,.slice q (ws (pz X Y size)).length cq,.slice r (ws Y).length cr,.slice s (ws (iZ Y size)).length cs,.int .i64 ((fE Y size:Nat):Int)] u fun r w'=>r=.returned (.int .i64 (aY (qm X Y size) (om X Y size)))/\Below u.heap.size u w') :=
  fun u p q r s cp cq cr cs A1 A2 A3 A4=>E5 _ _ _ _ (fE Y size) _ _ _ _ _ A1 A2 A3 A4 af c1 c2 c3 c4 rfl (bZ bBk) (bZ bLo) (bZ bTk) (bZ bHs)
 have JJ:(decide (aY (qm X Y size) (om X Y size)=0)&&decide (0<=lg X Y size))=oo X Y size:=by rw [Og];rfl
 have hcut:max ((bl Y:Int)+(size:Int)-262144) 0=((fE Y size:Nat):Int):=by unfold fE;omega
 by_cases hlt:qm X Y size<om X Y size
 · have hz:decide (aY (qm X Y size) (om X Y size)<0)=true:=by rw [Cz];exact decide_eq_true hlt
   have e4:nY (mD X Y size) 1=(dQ X Y size,0):=by
    refine vB (fT X4) (fT au) ?_;have:=D.less hlt;unfold dQ;rw [if_pos hlt];omega
   exact Cy n m X Y e f size (bl X) (bl Y) (bl (iZ Y size)) (fE Y size) (iZ Y size) (pg X Y size) (mD X Y size) (pz X Y size) (dQ X Y size) _ (lg X Y size) _ _ _ _ (oo X Y size) AX AY he0 he1 hf0 hf1 hs rfl rfl rfl bX bY bH rfl hcut af e1 rfl e2 e3 HC hz e4 rfl rfl rfl JJ (bZ bH) (bZ Vz) (bZ X4) (bZ bLf) (bZ (mF (Y:=mD X Y size) (by unfold dQ;rw [if_pos hlt];omega) X4))
 · have hz:decide (aY (qm X Y size) (om X Y size)<0)=false:=by rw [Cz];exact decide_eq_false hlt
   have eW:dQ X Y size=mD X Y size:=by unfold dQ;rw [if_neg hlt]
   rw [eW];exact Cw n m X Y e f size (bl X) (bl Y) (bl (iZ Y size)) (fE Y size) (iZ Y size) (pg X Y size) (mD X Y size) (pz X Y size) 0 _ (lg X Y size) _ _ _ _ (oo X Y size) AX AY he0 he1 hf0 hf1 hs rfl rfl rfl bX bY bH rfl hcut af e1 rfl e2 e3 HC hz rfl rfl rfl JJ (bZ bH) (bZ Vz) (bZ X4) (bZ bLf)
theorem wM (W:World) (g:Nat) (n:Bool) (v:Value) (e k:Int) (tmps:Array Value) (ht:tmps[4]?.getD undef=.pointer (some ⟨g,0,none⟩)) (hk:tmps[5]?.getD undef=.int .i64 k) (D:Tk W g 25 (.bool n) v (.int .i64 e)) :
 (results Tryz.f103 tmps).run Tryz.prog W=.ok (.tuple #[.agg #[.bool n,v,.int .i64 e],.int .i64 k]) W:=by
 obtain ⟨x0,x1,x2,_,_,_⟩:=D.facts;simp [results,Tryz.results103,ht,hk,go_sem,x0,x1,x2]
theorem yS (w:World) (v:Value) (x:Int) (t:Bool) (W:World) (hW:W=(w.alloc (.cells #[v,.int .i64 x,.bool t] 125)).alloc (.cells #[.bool false,.slice none 0 0,.int .i64 0] 25)) :
 Below w.heap.size w W/\W.heap.size=w.heap.size+2/\Tk W w.heap.size 125 v (.int .i64 x) (.bool t)/\Tk W (w.heap.size+1) 25 (.bool false) (.slice none 0 0) (.int .i64 0):=by
 rw [hW];refine ⟨(ae w _).alloc aO _,aO,(Tk.new _ _ _ _ _).alloc _,?_⟩;have:=Tk.new (w.alloc (.cells #[v,.int .i64 x,.bool t] 125)) 25 (.bool false) (.slice none 0 0) (.int .i64 0);simpa using this
theorem E8 {w:World}{a:Option Addr}{ca:Nat}(n:Bool) (W M2 M3:Nat) (x y E:Int) (dn:Bool) (V:Nat) (de er:Int) (AW:Arg w a (ws W).length ca (ws W)) (hx0:-10000000<=x) (hx1:x<=10000000)
 (e1:aW W 1=(M2,0)) (hy:x-1=y) (hE:min (max y (-4096)) 4096=E) (l2:(ws M2).length<=8192) (lV:(ws V).length<=8192)
 (HM:Hid (∀ (u:World) (p:Option Addr) (q:Nat),Below w.heap.size w u->Arg u p (ws M2).length q (ws M2)->Calls Tryz.prog 90 #[.bool n,.slice p (ws M2).length q,.int .i64 E] u fun r w'=>(∃ v,r=.returned (.tuple #[.agg #[.bool dn,v,.int .i64 de],.int .i64 er])/\Nt u.heap.size w' v V)/\Below u.heap.size u w')) :
 Calls Tryz.prog 103 #[.bool n,.agg #[.slice a (ws W).length ca,.int .i64 x,.bool true]] w fun r w'=>(∃ v,r=.returned (.tuple #[.agg #[.bool dn,v,.int .i64 de],.int .i64 er])/\Nt w.heap.size w' v V)/\Below w.heap.size w w':=by
 obtain ⟨W1,hW1⟩:=ah ((w.alloc (.cells #[.slice a (ws W).length ca,.int .i64 x,.bool true] 125)).alloc (.cells #[.bool false,.slice none 0 0,.int .i64 0] 25));obtain ⟨hB,hz1,SK,DK⟩:=yS w _ x true W1 hW1;have Cx:aW (val (ws W)) 1=(M2,0):=by rw [aj];exact e1
 have E1:=ak Cx;have hs2:w.heap.size+2<=W1.heap.size:=af
 have l1s:(ws 1).length<=8192:=by rw [sF];simp
 have hbel:=hB;have S0:=(gK hbel (AW.below hB) SK DK);clear hbel;clear e1 Cx AW hB SK DK hz1;go_enter Tryz.func103,Tryz.ntmps103;obtain ⟨x0,x1,x2,_,_,_⟩:=S0.o.r2.1.facts;obtain ⟨aB,AW,SK,DK⟩:=S0.o;have HC:=hid (fA 1 AW E1.o af af);clear aB AW SK DK
 go_upto_region 1 with fail
 rw [<-hW1];clear hW1;go_wp2_with fail;clear x0 x1 x2;refine HC.o.mono ?_;rintro r u1 ⟨v,rfl,hN,hb⟩;obtain ⟨a1,c1,rfl,_⟩:=hN.arg af;clear HC;obtain ⟨aB,AW,SK,DK⟩:=S0.o;have hbn:=aB.trans (hb.mono aB.size);have S1:=eu hbn (AW.below hb) (SK.below hb) (DK.below hb) (hN.mono aB.size);clear aB AW SK DK;clear hb hbn S0;clear hN;obtain ⟨x0,x1,x2,_,_,_⟩:=S1.o.r2.1.facts;obtain ⟨aB,AW,SK,DK,N2⟩:=S1.o;have HC:=hid (HM.o u1 _ _ aB (N2.aU af).2);clear aB AW SK DK N2;go_wp2_with fail;clear x0 x1 x2;refine HC.o.mono ?_;rintro r u2 ⟨⟨v,rfl,hN⟩,hb⟩;obtain ⟨a7,c7,rfl,_⟩:=hN.arg af;clear HC;obtain ⟨aB,AW,SK,DK,N2⟩:=S1.o;have hbn:=aB.trans (hb.mono aB.size);have S2:=iI hbn (AW.below hb) (SK.below hb) (DK.below hb) (N2.below hb) (hN.mono aB.size);clear aB AW SK DK N2;clear hb hbn S1;clear hN;obtain ⟨aB,AW,SK,DK,N2,NV⟩:=S2.o;have hlast:=aZ aB NV DK;obtain ⟨s0,s1,s2,rX,rY,rZ⟩:=DK.facts;clear aB AW SK DK N2 NV;clear S2 HM;go_wp2;obtain ⟨aB,NZ,DK⟩:=hlast.o;have hsz:=aB.size;exact aF (wM _ (w.heap.size+1) dn (.slice a7 (ws V).length c7) de er _ rfl rfl (DK.set _ _ _)) rfl ⟨⟨_,rfl,NZ.mE DK au _ _ _⟩,cu aB hsz af _ _ _⟩
theorem Kl {w:World}{a:Option Addr}{ca:Nat}(n:Bool) (W M2 M3:Nat) (x y E:Int) (dn:Bool) (V:Nat) (de er:Int) (AW:Arg w a (ws W).length ca (ws W)) (hx0:-10000000<=x) (hx1:x<=10000000)
 (e1:aW W 1=(M2,0)) (e2:uH M2 1=(M3,0)) (hy:x-1=y) (hE:min (max y (-4096)) 4096=E) (l2:(ws M2).length<=8192) (l3:(ws M3).length<=8192) (lV:(ws V).length<=8192)
 (HM:Hid (∀ (u:World) (p:Option Addr) (q:Nat),Below w.heap.size w u->Arg u p (ws M3).length q (ws M3)->Calls Tryz.prog 90 #[.bool n,.slice p (ws M3).length q,.int .i64 E] u fun r w'=>(∃ v,r=.returned (.tuple #[.agg #[.bool dn,v,.int .i64 de],.int .i64 er])/\Nt u.heap.size w' v V)/\Below u.heap.size u w')) :
 Calls Tryz.prog 103 #[.bool n,.agg #[.slice a (ws W).length ca,.int .i64 x,.bool false]] w fun r w'=>(∃ v,r=.returned (.tuple #[.agg #[.bool dn,v,.int .i64 de],.int .i64 er])/\Nt w.heap.size w' v V)/\Below w.heap.size w w':=by
 obtain ⟨W1,hW1⟩:=ah ((w.alloc (.cells #[.slice a (ws W).length ca,.int .i64 x,.bool false] 125)).alloc (.cells #[.bool false,.slice none 0 0,.int .i64 0] 25));obtain ⟨hB,hz1,SK,DK⟩:=yS w _ x false W1 hW1;have Cx:aW (val (ws W)) 1=(M2,0):=by rw [aj];exact e1
 have e2':uH (val (ws M2)) (val (ws 1))=(M3,0):=by rw [aj,aj];exact e2
 have E2:=ak e2';clear e2 e2';have E1:=ak Cx;have hs2:w.heap.size+2<=W1.heap.size:=af
 have l1s:(ws 1).length<=8192:=by rw [sF];simp
 have hbel:=hB;have S0:=(gK hbel (AW.below hB) SK DK);clear hbel;clear e1 Cx AW hB SK DK hz1;go_enter Tryz.func103,Tryz.ntmps103;obtain ⟨x0,x1,x2,_,_,_⟩:=S0.o.r2.1.facts;obtain ⟨aB,AW,SK,DK⟩:=S0.o;have HC:=hid (fA 1 AW E1.o af af);clear aB AW SK DK
 go_upto_region 1 with fail
 rw [<-hW1];clear hW1;go_wp2_with fail;clear x0 x1 x2;refine HC.o.mono ?_;rintro r u1 ⟨v,rfl,hN,hb⟩;obtain ⟨a1,c1,rfl,_⟩:=hN.arg af;clear HC;obtain ⟨aB,AW,SK,DK⟩:=S0.o;have hbn:=aB.trans (hb.mono aB.size);have S1:=eu hbn (AW.below hb) (SK.below hb) (DK.below hb) (hN.mono aB.size);clear aB AW SK DK;clear hb hbn S0;clear hN;obtain ⟨x0,x1,x2,_,_,_⟩:=S1.o.r2.1.facts;obtain ⟨aB,AW,SK,DK,N2⟩:=S1.o;have HC:=hid (qf 1 u1 af);clear aB AW SK DK N2;go_wp2_with fail;clear x0 x1 x2;refine HC.o.mono ?_;rintro r u2 ⟨v,rfl,hN,hb⟩;obtain ⟨a5,c5,rfl,_⟩:=hN.arg af;clear HC;obtain ⟨aB,AW,SK,DK,N2⟩:=S1.o;have hbn:=aB.trans (hb.mono aB.size);have S2:=iI hbn (AW.below hb) (SK.below hb) (DK.below hb) (N2.below hb) (hN.mono aB.size);clear aB AW SK DK N2;clear hb hbn S1;clear hN;obtain ⟨aB,AW,SK,DK,N2,NO⟩:=S2.o;have HC:=hid (vo (N2.aU af).2 (NO.aU af).2 E2.o);clear aB AW SK DK N2 NO;go_wp2_with fail;refine HC.o.mono ?_;rintro r u3 ⟨v,rfl,hN,hb⟩;obtain ⟨a6,c6,rfl,_⟩:=hN.arg af;clear HC;obtain ⟨aB,AW,SK,DK,N2,NO⟩:=S2.o;have hbn:=aB.trans (hb.mono aB.size);have S3:=l7 hbn (AW.below hb) (SK.below hb) (DK.below hb) (N2.below hb) (NO.below hb) (hN.mono aB.size);clear aB AW SK DK N2 NO;clear hb hbn S2;clear hN;obtain ⟨x0,x1,x2,_,_,_⟩:=S3.o.r2.1.facts;obtain ⟨aB,AW,SK,DK,N2,NO,N3⟩:=S3.o;have HC:=hid (HM.o u3 _ _ aB (N3.aU af).2);clear aB AW SK DK N2 NO N3;go_wp2_with fail;clear x0 x1 x2;refine HC.o.mono ?_;rintro r u4 ⟨⟨v,rfl,hN⟩,hb⟩;obtain ⟨a7,c7,rfl,_⟩:=hN.arg af;clear HC;obtain ⟨aB,AW,SK,DK,N2,NO,N3⟩:=S3.o;have hbn:=aB.trans (hb.mono aB.size);have S4:=rT hbn (AW.below hb) (SK.below hb) (DK.below hb) (N2.below hb) (NO.below hb) (N3.below hb) (hN.mono aB.size);clear aB AW SK DK N2 NO N3;clear hb hbn S3;clear hN;obtain ⟨aB,AW,SK,DK,N2,NO,N3,NV⟩:=S4.o;have hlast:=aZ aB NV DK;obtain ⟨s0,s1,s2,rX,rY,rZ⟩:=DK.facts;clear aB AW SK DK N2 NO N3 NV;clear S4 HM;go_wp2;obtain ⟨aB,NZ,DK⟩:=hlast.o;have hsz:=aB.size;exact aF (wM _ (w.heap.size+1) dn (.slice a7 (ws V).length c7) de er _ rfl rfl (DK.set _ _ _)) rfl ⟨⟨_,rfl,NZ.mE DK au _ _ _⟩,cu aB hsz af _ _ _⟩
theorem wN {w:World}{a:Option Addr}{ca:Nat}(n:Bool) (W:Nat) (x:Int) (t:Bool) (AW:Arg w a (ws W).length ca (ws W)) (hT:dJ w) (hx0:-10000000<=x) (hx1:x<=10000000) (hW:bl W<=1000) :
 Calls Tryz.prog 103 #[.bool n,.agg #[.slice a (ws W).length ca,.int .i64 x,.bool t]] w fun r w'=>cK w.heap.size w' r (mkS n (2*W+(if t then 0 else 1)) (dZ x))/\Below w.heap.size w w':=by
 have hLW:¬ LG W:=fun k=>by have:=(uk W).1 k;omega
 have e1:aW W 1=(2*W,0):=by
  have:=oU (X:=W) (k:=1) (V:=2*W) hLW (.inr af) af;simpa using this
 have b2:∀ d,d<=1->bl (2*W+d)<=1001:=by
  intro d hd;have h1:=il W;have h2:2*W+d<2^(bl W+1):=by rw [gY];omega
  by_cases h0:2*W+d=0
  · rw [h0,dG];omega
  · have:=(jw (a:=2) au).1 (gN (gT _ h0) h2);have:=dI _ h0;omega
 have l8:∀ d,d<=1->(ws (2*W+d)).length<=8192/\¬ LG (2*W+d):=by
  intro d hd;have hb:=b2 d hd;have hn:¬ LG (2*W+d):=fun k=>by have:=(uk (2*W+d)).1 k;omega
  exact ⟨by unfold LG at hn;omega,hn⟩
 have cl0:-4096<=dZ x/\dZ x<=4096:=by unfold dZ;omega
 unfold cK;have hl:=aM n (2*W+(if t then 0 else 1)) (dZ x)
 cases t with
 | true =>
   simp only [if_true,gM] at hl |-;refine E8 n W (2*W) 0 x _ _ _ _ _ _ AW hx0 hx1 e1 rfl rfl (l8 0 af).1 hl ?_;intro u p q hu hA;have:=gU hA (hT.belows hu) n (dZ x) af af;rw [aj] at this;exact this
 | false =>
   simp only [fq,if_false] at hl |-;refine Kl n W (2*W) (2*W+1) x _ _ _ _ _ _ AW hx0 hx1 e1 (vz (l8 1 af).2 rfl) rfl rfl (l8 0 af).1 (l8 1 af).1 hl ?_;intro u p q hu hA;have:=gU hA (hT.belows hu) n (dZ x) af af;rw [aj] at this;exact this
end
end Go.Proofs.YtfmfhehbdfhnbaaGreatDoor
