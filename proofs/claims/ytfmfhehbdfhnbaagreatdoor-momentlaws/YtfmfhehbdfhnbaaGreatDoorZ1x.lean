import Derived.Test.YtfmfhehbdfhnbaaGreatDoorM7x
import Derived.Test.YtfmfhehbdfhnbaaGreatDoorW21x
import Derived.Test.YtfmfhehbdfhnbaaGreatDoorW25x
import Derived.Test.YtfmfhehbdfhnbaaGreatDoorBIeeex
import Derived.Laws.IdiomStrings
import Derived.Test.YtfmfhehbdfhnbaaGreatDoorD8x
import Derived.Test.YtfmfhehbdfhnbaaGreatDoorD15x
import Derived.BigQuiet
import Derived.Deep.Cut
import Derived.Test.YtfmfhehbdfhnbaaGreatDoorW50x
import Derived.Deep.RegionHeld3
set_option linter.unusedVariables false
set_option linter.unusedSimpArgs false
set_option maxHeartbeats 16000000
set_option maxRecDepth 20000
namespace Go.Proofs.YtfmfhehbdfhnbaaGreatDoor
section
open Go.RowKit
theorem jH{n a b:Nat}(hn:0<n):a^n<b^n↔a<b:=Nat.pow_lt_pow_iff_left ae
theorem FI{n a b:Nat}(hn:0<n):a^n=b^n↔a=b:=by
 constructor
 · intro h;rcases lZ a b with k|k|k
   · have:=(jH hn).2 k;omega
   · exact k
   · have:=(jH hn).2 k;omega
 · intro h;rw[h]
structure Wj (v:Nat->Nat) (top:Nat):Prop where
 one:1<top
 zero:v 0=0
 mono:∀ {k l},k<l->v k<v l
 step:∀ k,k<top->∃ c j,v k=c*2^j/\v (k+1)=(c+1)*2^j/\c<9007199254740992/\j<=2045
structure gN (v:Nat->Nat) (top n:Nat) (K:Nat) (t:Bool) (m:Int) (V S:Nat):Prop where
 fin:K<top
 pos:0<S
 one:t=true->V=v K^n*S
 low:t=false->v K^n*S<V
 NI:t=false->V<v (K+1)^n*S->(m=-1/\2^n*V<(v K+v (K+1))^n*S\/m=0/\2^n*V=(v K+v (K+1))^n*S\/m=1/\(v K+v (K+1))^n*S<2^n*V)
 high:t=false->V<v (K+1)^n*S\/(K+1=top/\m=1)
def Alike(n P Q V S:Nat):Prop:=∀ c j,c<=18014398509481984->j<=2046->((c*2^j)*Q<2*P↔(c*2^j)^n*S<2^n*V)/\((c*2^j)*Q=2*P↔(c*2^j)^n*S=2^n*V)
theorem wJ(n a S V:Nat):((2*a)^n*S<2^n*V↔a^n*S<V)/\((2*a)^n*S=2^n*V↔a^n*S=V):=by
 have h:(2*a)^n*S=2^n*(a^n*S):=by rw[rJ,aM]
 have hp:0<2^n:=aZ n;rw[h];exact⟨Nat.mul_lt_mul_left hp,⟨fun h=>Nat.eq_of_mul_eq_mul_left hp h,fun h=>by rw[h]⟩⟩
theorem gN.FJ{v:Nat->Nat}{top n K:Nat}{t:Bool}{m:Int}{P Q V S:Nat}(G:Wj v top)(hn:0<n)(h:gN v top 1 K t m P Q)(hS:0<S)(hA:Alike n P Q V S):gN v top n K t m V S:=by
 obtain⟨c,j,e1,e2,hc,hj⟩:=G.step K h.fin;have a1:=hA (2*c) j ae ae;have a2:=hA (2*(c+1)) j ae ae;have a3:=hA (2*c+1) j ae ae;have g1:2*c*2^j=2*v K:=by rw[e1,aM]
 have g2:2*(c+1)*2^j=2*v (K+1):=by rw[e2,aM]
 have g3:(2*c+1)*2^j=v K+v (K+1):=by rw[e1,e2,<-fI];congr 1;omega
 rw[g1] at a1;rw[g2] at a2;rw[g3] at a3;have b1:=wJ n (v K) S V;have b2:=wJ n (v (K+1)) S V;rw[b1.1,b1.2] at a1;rw[b2.1,b2.2] at a2;have d1:2*v K*Q=2*(v K*Q):=aM _ _ _;have d2:2*v (K+1)*Q=2*(v (K+1)*Q):=aM _ _ _;rw[d1] at a1;rw[d2] at a2;have h1:=h.one;have h2:=h.low;have h3:=h.NI;have h4:=h.high;simp only[rM] at h1 h2 h3 h4;generalize v K*Q=A at *;generalize v (K+1)*Q=B at *;generalize (v K+v (K+1))*Q=C at *
 have ge:∀ {x y x' y':Nat},((x<y↔x'<y')/\(x=y↔x'=y'))->(y<x↔y'<x'):=by
  intro x y x' y' ⟨p,q⟩;constructor
  · intro hh;rcases lZ x' y' with k|k|k
    · have:=p.2 k;omega
    · have:=q.2 k;omega
    · exact k
  · intro hh;rcases lZ x y with k|k|k
    · have:=p.1 k;omega
    · have:=q.1 k;omega
    · exact k
 have a2':=ge a2;have a3':=ge a3;refine⟨h.fin,hS,fun ht=>?_,fun ht=>?_,fun ht hlt=>?_,fun ht=>?_⟩
 · have:=h1 ht;exact(a1.2.1 ae).symm
 · exact a1.1.1 (by have:=h2 ht;omega)
 · have hb:P<B:=by have:=a2'.2 hlt;omega
   rcases h3 ht hb with ⟨q,r⟩|⟨q,r⟩|⟨q,r⟩
   · exact .inl ⟨q,a3'.1 r⟩
   · exact .inr (.inl ⟨q,(a3.2.1 r.symm).symm⟩)
   · exact .inr (.inr ⟨q,a3.1.1 r⟩)
 · rcases h4 ht with q | q
   · exact .inl (a2'.1 ae)
   · exact .inr q
theorem Qa2{P:Prop}(h:P:=by
 exact⟨⟨fun h=>by omega,fun h=>by omega⟩,⟨fun h=>by omega,fun h=>by omega⟩⟩):P:=h
theorem Jf (n R p q V S d:Nat) (hn:0<n) (hS:0<S) (hR:9007199254740992<=R) (hd:d<=1)
 (h0:d=0->V*(2^q)^n=(R*2^p)^n*S) (h1:d=1->(R*2^p)^n*S<V*(2^q)^n/\V*(2^q)^n<((R+1)*2^p)^n*S) :
 Alike n ((2*R+d)*2^p) (2*2^q) V S:=by
 intro c j hc hj;have hq:0<(2^q)^n:=pW (aZ q)
 -- both sides times 2^q
 have f1:(c*2^j)^n*S<2^n*V↔(c*2^(j+q))^n*S<2^n*(V*(2^q)^n):=by
  rw[<-mK hq]
  have:(c*2^j)^n*S*(2^q)^n=(c*2^(j+q))^n*S:=by
   rw[yc,<-rJ,aM c,<-aJ]
  rw[this,aM]
 have f2:(c*2^j)^n*S=2^n*V↔(c*2^(j+q))^n*S=2^n*(V*(2^q)^n):=by
  have e:(c*2^j)^n*S*(2^q)^n=(c*2^(j+q))^n*S:=by
   rw[yc,<-rJ,aM c,<-aJ]
  rw[<-e,<-aM (2^n)];exact⟨fun h=>by rw[h],fun h=>pU hq h⟩
 have f3:c*2^j*(2*2^q)=2*(c*2^(j+q)):=by rw[aJ,<-aM c,Nat.mul_left_comm]
 rw[f1,f2,f3];generalize V*(2^q)^n=U at *;have g0:∀ a:Nat,(2*a)^n*S=2^n*(a^n*S):=fun a=>by rw[rJ,aM]
 have hp2:0<2^n:=aZ n;have hlt2:(c*2^(j+q)<(2*R+d)*2^p↔2*(c*2^(j+q))<2*((2*R+d)*2^p)):=ae
 have heq2:(c*2^(j+q)=(2*R+d)*2^p↔2*(c*2^(j+q))=2*((2*R+d)*2^p)):=ae
 rw[<-hlt2,<-heq2]
 -- powers times S
 have L:∀ a b:Nat,(a^n*S<b^n*S↔a<b):=fun a b=>by rw[mK hS,jH hn]
 have E:∀ a b:Nat,(a^n*S=b^n*S↔a=b):=fun a b=>⟨fun h=>(FI hn).1 (pU hS h),fun h=>by rw[h]⟩;rcases jZ d with hd0|hd1
 · subst hd0;have hU:=h0 rfl;have k1:(2*(R*2^p))^n*S=2^n*U:=by rw[g0,<-hU]
   have k2:(2*R+0)*2^p=2*(R*2^p):=by rw[fT,aM]
   rw[k2,<-k1,L,E];exact⟨Iff.rfl,Iff.rfl⟩
 · obtain rfl:d=1:=ae
   obtain⟨u1,u2⟩:=h1 rfl;have k1:(2*(R*2^p))^n*S<2^n*U:=by rw[g0];exact rG u1 hp2
   have k2:2^n*U<(2*((R+1)*2^p))^n*S:=by rw[g0];exact rG u2 hp2
   have below:∀ x,x<=2*(R*2^p)->(x<(2*R+1)*2^p↔x^n*S<2^n*U)/\(x=(2*R+1)*2^p↔x^n*S=2^n*U):=by
    intro x hx
    have y1:x<(2*R+1)*2^p:=by
     have:=aZ p;rw[fI,aM,jq];omega
    have y2:x^n*S<2^n*U:=by
     refine iP ?_ k1;exact eZ _ (yl hx n)
    exact⟨⟨fun _=>y2,fun _=>y1⟩,⟨fun h=>by omega,fun h=>by omega⟩⟩
   have above:∀ x,2*((R+1)*2^p)<=x->(x<(2*R+1)*2^p↔x^n*S<2^n*U)/\(x=(2*R+1)*2^p↔x^n*S=2^n*U):=by
    intro x hx
    have y1:(2*R+1)*2^p<x:=by
     have:=aZ p;refine iQ ?_ hx;rw[<-aM];exact dO ae this
    have y2:2^n*U<x^n*S:=by
     refine iQ k2 ?_;exact eZ _ (yl hx n)
    exact Qa2
   by_cases hjp:p<j+q
   · obtain⟨i,hi⟩:∃ i,j+q=i+1+p:=⟨j+q-1-p,ae⟩
     have e:c*2^(j+q)=2*((c*2^i)*2^p):=by
      rw[hi,aJ,fC,<-aM,<-aM,cu (c*2^i) 2,aM 2]
     rw[e];rcases jK R (c*2^i) with k|k
     · exact above _ (iw _ (eZ _ k))
     · exact below _ (iw _ (eZ _ k))
   · refine below _ ?_
     calc c*2^(j+q)<=18014398509481984*2^p:=kC hc (fe aj ae)
      _<=(2*R)*2^p:=eZ _ ae
      _=2*(R*2^p):=aM _ _ _
theorem Ou(n P Q V S:Nat)(hn:0<n)(hP:∀ c j,c<=18014398509481984->j<=2046->c*2^j*Q<2*P)(hV:∀ c j,c<=18014398509481984->j<=2046->(c*2^j)^n*S<2^n*V):Alike n P Q V S:=by
 intro c j hc hj;have h1:=hP c j hc hj;have h2:=hV c j hc hj;exact⟨⟨fun _=>h2,fun _=>h1⟩,⟨fun h=>by omega,fun h=>by omega⟩⟩
theorem Jg(n P Q V S:Nat)(hn:0<n)(hP0:0<P)(hV0:0<V)(hS:0<S)(hP:2*P<Q)(hV:2^n*V<S):Alike n P Q V S:=by
 intro c j hc hj;rcases jZ (c*2^j) with h0|h0
 · rw[h0,dL,Nat.zero_pow hn,dL];have:=iq (aZ n) hV0;exact⟨⟨fun _=>this,fun _=>by omega⟩,⟨fun h=>by omega,fun h=>by omega⟩⟩
 · have h1:Q<=c*2^j*Q:=Bo _ h0;have h2:S<=(c*2^j)^n*S:=Bo _ (pW h0);exact Qa2
def Zp(x y:Nat):Int:=if x<y then -1 else if y<x then 1 else 0
theorem gN.doc{v:Nat->Nat}{top n K:Nat}{t:Bool}{m:Int}{V S:Nat}(G:Wj v top)(hn:0<n)(h:gN v top n K t m V S)(k:Nat)(hk:k<top)(h1:v k^n*S<=V)(h2:k+1=top\/V<v (k+1)^n*S) :
 k=K/\t=decide (V=v K^n*S)/\(t=false->m=Zp (2^n*V) ((v K+v (K+1))^n*S)):=by
 have L:∀ {a b:Nat},a<b->v a^n*S<v b^n*S:=fun {a b} q=>dO ((jH hn).2 (G.mono q)) h.pos
 have Le:∀ {a b:Nat},a<=b->v a^n*S<=v b^n*S:=fun {a b} q=>by
  rcases jK a b with k|k
  · exact jm (L k)
  · rw[show a=b by omega];exact aC _
 have hge:v K^n*S<=V:=by
  cases ht:t
  · exact jm (h.low ht)
  · rw[h.one ht];exact aC _
 have hfin:=h.fin
 have hkK:k=K:=by
  rcases lZ k K with q|q|q
  · exfalso;rcases h2 with e|e
    · omega
    · have:=Le (show k+1<=K by omega);omega
  · exact q
  · exfalso;have a1:=Le (show K+1<=k by omega);have a2:=L (show K<K+1 by omega)
    cases t with
    | true=>have:=h.one rfl;omega
    | false =>
      rcases h.high rfl with e|e
      · omega
      · omega
 subst hkK;refine⟨rfl,?_,?_⟩
 · cases t with
   | true=>exact(decide_eq_true (h.one rfl)).symm
   | false=>have:=h.low rfl;exact(decide_eq_false ae).symm
 · intro ht
   by_cases hb:V<v (k+1)^n*S
   · have hm:=h.NI ht hb;generalize 2^n*V=V2 at *;generalize (v k+v (k+1))^n*S=C at *;unfold Zp;rcases hm with ⟨e,q⟩|⟨e,q⟩|⟨e,q⟩
     · rw[if_pos q,e]
     · rw[if_neg ae,if_neg ae,e]
     · rw[if_neg ae,if_pos q,e]
   · rcases h.high ht with e | ⟨_,e⟩
     · exact absurd e hb
     · have hmid:(v k+v (k+1))^n*S<2^n*V:=by
        have q1:v k+v (k+1)<2*v (k+1):=by have:=G.mono (show k<k+1 by omega);omega
        have q2:(v k+v (k+1))^n*S<(2*v (k+1))^n*S:=dO ((jH hn).2 q1) h.pos;rw[rJ,aM] at q2;have q3:=iw (2^n) (Bg hb);omega
       unfold Zp;rw[if_neg ae,if_pos hmid,e]
theorem lq(a b i k i' k':Nat)(h:i'+k=k'+i):a*2^i<b*2^k↔a*2^i'<b*2^k':=by
 rcases Nat.le_total i i' with q|q
 · obtain⟨d,rfl⟩:∃ d,i'=i+d:=⟨i'-i,ae⟩;obtain rfl:k'=k+d:=ae
   rw[aJ,aJ,<-aM,<-aM,mK (aZ d)]
 · obtain⟨d,rfl⟩:∃ d,i=i'+d:=⟨i-i',ae⟩;obtain rfl:k=k'+d:=ae
   rw[aJ,aJ,<-aM,<-aM,mK (aZ d)]
theorem zw(a b i k i' k':Nat)(h:i'+k=k'+i):a*2^i=b*2^k↔a*2^i'=b*2^k':=by
 have h1:=lq a b i k i' k' h;have h2:=lq b a k i k' i' ae;generalize a*2^i=A at *;generalize a*2^i'=A' at *;generalize b*2^k=B at *;generalize b*2^k'=B' at *;constructor
 · intro e;rcases lZ A' B' with q | q | q
   · have:=h1.2 q;omega
   · exact q
   · have:=h2.2 q;omega
 · intro e;rcases lZ A B with q | q | q
   · have:=h1.1 q;omega
   · exact q
   · have:=h2.1 q;omega
def gP(Y size:Nat):Nat:=bl Y+size-262144
def jV(Y size:Nat):Nat:=Y/2^gP Y size
def mZ(X Y size:Nat):Int:=(bl (jV Y size):Int)+size-bl X
def rC(X Y size:Nat):Nat:=if mZ X Y size<0 then X/2^(-mZ X Y size).toNat else X*2^(mZ X Y size).toNat
def oq(X Y size:Nat):Nat:=rC X Y size/jV Y size
def rD(X Y size:Nat):Nat:=rC X Y size%jV Y size
def FK(Y size:Nat):Nat:=Y-jV Y size*2^gP Y size
def sH(X Y size:Nat):Nat:=rD X Y size*2^gP Y size
def qG(X Y size:Nat):Nat:=oq X Y size*FK Y size
def fA(X Y size:Nat):Nat:=if sH X Y size<qG X Y size then oq X Y size-1 else oq X Y size
def qH(X Y size:Nat):Bool:=decide (sH X Y size=qG X Y size)&&decide (0<=mZ X Y size)
structure RI (X Y size:Nat):Prop where
 one:qH X Y size=true->X*2^((mZ X Y size).toNat+gP Y size)=fA X Y size*Y*2^(-mZ X Y size).toNat
 low:qH X Y size=false->fA X Y size*Y*2^(-mZ X Y size).toNat<X*2^((mZ X Y size).toNat+gP Y size)
 high:qH X Y size=false->X*2^((mZ X Y size).toNat+gP Y size)<(fA X Y size+1)*Y*2^(-mZ X Y size).toNat
 least:X≠0->2^(size-1)<=fA X Y size+1
 most:fA X Y size<2^(size+1)
 less:sH X Y size<qG X Y size->1<=oq X Y size
 hig:jV Y size≠0
 low':jV Y size*2^gP Y size<=Y
 lowlt:FK Y size<2^gP Y size
 w0:oq X Y size<2^(size+1)
 X6:bl (jV Y size)=bl Y-gP Y size
 vF:rC X Y size<2^(bl (jV Y size)+size)
 lef:rD X Y size<jV Y size
theorem Ov{X k:Nat}(h1:2^k<=X)(h2:X<2^(k+1)):bl X=k+1:=by
 have h0:X≠0:=by have:=aZ k;omega
 have a:=iT X;have b:=iU X h0;have c:=eu X h0;have d1:=(ku (a:=2) aj).1 (iP h1 a);have d2:=(ku (a:=2) aj).1 (iP b h2);omega
theorem jd(X Y size:Nat)(hX:X=0\/X%2=1)(hY:Y≠0)(hs0:1<=size)(hs:size<=1000)(hbX:bl X<=262144)(hbY:bl Y<=262144):RI X Y size:=by
 obtain⟨cut,A8⟩:∃ c,gP Y size=c:=⟨_,rfl⟩;obtain⟨H,eH⟩:∃ c,jV Y size=c:=⟨_,rfl⟩;have eH':Y/2^cut=H:=by rw[<-eH,<-A8];rfl
 have hD:0<2^cut:=aZ cut;have hYlt:=iT Y;have hYge:=iU Y hY;have hYpos:=eu Y hY;have hcut:cut<bl Y/\(0<cut->cut=bl Y+size-262144):=by unfold gP at A8;omega
 have hH1:2^(bl Y-1-cut)<=H:=by
  rw[<-eH',rF hD,<-aJ,show bl Y-1-cut+cut=bl Y-1 by omega];exact hYge
 have hH2:H<2^(bl Y-1-cut+1):=by
  rw[<-eH',rE hD,<-aJ,show bl Y-1-cut+1+cut=bl Y by omega];exact hYlt
 have hblH:bl H=bl Y-cut:=by rw[Ov hH1 hH2];omega
 have hH0:0<H:=iQ (aZ _) hH1;have hHD:H*2^cut<=Y:=by rw[<-eH'];exact Nat.div_mul_le_self _ _
 have hYdm:H*2^cut+Y%2^cut=Y:=by rw[<-eH',cu];exact qh Y _
 have hYm:=lU Y hD;obtain⟨Lo,eLo⟩:∃ c,FK Y size=c:=⟨_,rfl⟩;have eLo':Y-H*2^cut=Lo:=by rw[<-eLo];unfold FK;rw[eH,A8]
 have hLo:Lo<2^cut:=ae
 have hYs:Y=H*2^cut+Lo:=ae
 obtain⟨b,eb⟩:∃ b,mZ X Y size=b:=⟨_,rfl⟩;have eb':(bl H:Int)+size-bl X=b:=by rw[<-eb];unfold mZ;rw[eH]
 obtain⟨vF,Wl⟩:∃ c,rC X Y size=c:=⟨_,rfl⟩;have zx:(if b<0 then X/2^(-b).toNat else X*2^b.toNat)=vF:=by rw[<-Wl];unfold rC;rw[eb]
 obtain⟨W0,eW0⟩:∃ c,oq X Y size=c:=⟨_,rfl⟩;have Zq:vF/H=W0:=by rw[<-eW0];unfold oq;rw[Wl,eH]
 obtain⟨Lf,eLf⟩:∃ c,rD X Y size=c:=⟨_,rfl⟩;have eLf':vF%H=Lf:=by rw[<-eLf];unfold rD;rw[Wl,eH]
 have Us:H*W0+Lf=vF:=by rw[<-Zq,<-eLf'];exact qh vF H
 have hLf:Lf<H:=by rw[<-eLf'];exact lU _ hH0
 have Wm:sH X Y size=Lf*2^cut:=by unfold sH;rw[eLf,A8]
 have Wn:qG X Y size=W0*Lo:=by unfold qG;rw[eW0,eLo]
 have hXlt:=iT X
 have RJ:vF<2^(bl H+size):=by
  rw[<-zx]
  split
  · rename_i hb;rw[rE (aZ _),<-aJ,show bl H+size+(-b).toNat=bl X by omega];exact hXlt
  · rename_i hb;refine iQ (dO hXlt (aZ _)) ?_;rw[<-aJ];exact fe aj ae
 have X7:W0<2^(size+1):=by
  rw[<-Zq,rE hH0];refine iQ RJ ?_;have:2^(size+1)*2^(bl Y-1-cut)<=2^(size+1)*H:=iw _ hH1;rw[<-aJ,show size+1+(bl Y-1-cut)=bl H+size by omega] at this;exact this
 have hW0ge:X≠0->2^(size-1)<=W0:=by
  intro h0;have hXge:=iU X h0;have hXp:=eu X h0
  have hl:2^(bl H+size-1)<=vF:=by
   rw[<-zx]
   split
   · rename_i hb;rw[rF (aZ _),<-aJ,show bl H+size-1+(-b).toNat=bl X-1 by omega];exact hXge
   · rename_i hb;refine dW ?_ (eZ _ hXge);rw[<-aJ];exact fe aj ae
  rw[<-Zq,rF hH0];refine dW ?_ hl;have:2^(size-1)*H<=2^(size-1)*2^(bl H):=iw _ (jm (iT H));rw[<-aJ,show size-1+bl H=bl H+size-1 by omega] at this;exact this
 -- whole times the low end is below Y
 have hWL:W0*Lo<Y:=by
  by_cases hc:cut=0
  · subst hc;have:Lo=0:=by simpa using hLo
    rw[this,jY];omega
  · have h1:W0*Lo<2^(size+1)*2^cut:=rH X7 hLo;rw[<-aJ] at h1;refine iQ h1 (dW ?_ hYge);exact fe aj ae
 -- what the level is,by whole
 have hsum:vF*2^cut+W0*Lo=W0*Y+Lf*2^cut:=by
  rw[<-Us,hYs,fI,kz,cu H W0,aM];omega
 have hLfD:Lf*2^cut<Y:=iQ (dO hLf hD) hHD
 have hless:sH X Y size<qG X Y size->1<=W0:=by
  intro h;rw[Wm,Wn] at h;rcases jZ W0 with q|q
  · rw[q,dL] at h;omega
  · exact q
 have Zr:fA X Y size=if Lf*2^cut<W0*Lo then W0-1 else W0:=by unfold fA;rw[Wm,Wn,eW0]
 have eAt:qH X Y size=(decide (Lf*2^cut=W0*Lo)&&decide (0<=b)):=by unfold qH;rw[Wm,Wn,eb]
 have key:(qH X Y size=true->X*2^(b.toNat+cut)=fA X Y size*Y*2^(-b).toNat)/\(qH X Y size=false->fA X Y size*Y*2^(-b).toNat<X*2^(b.toNat+cut)/\X*2^(b.toNat+cut)<(fA X Y size+1)*Y*2^(-b).toNat):=by
  rw[eAt,Zr]
  by_cases hb:b<0
  · have hc0:cut=0:=ae
    have hX0:X≠0:=by intro h;rw[h,dZ] at eb';omega
    have hXo:X%2=1:=ae
    rw[if_pos hb] at zx;subst hc0;have hL0:Lo=0:=by simpa using hLo
    have hb1:b.toNat=0:=ae
    rw[hL0,jY,if_neg ae,hb1,fT,gK,fU];rw[hL0,gK,fU,fU,jY] at hsum;rw[decide_eq_false (show ¬ 0<=b by omega),Bq];refine⟨fun h=>(by cases h),fun _=>?_⟩;obtain⟨k,hk⟩:∃ k,(-b).toNat=k:=⟨_,rfl⟩;have hk0:0<k:=ae
    rw[hk] at zx |-;have hP:=aZ k;have hxm:2^k*vF+X%2^k=X:=by rw[<-zx];exact qh X _
    have hxl:=lU X hP
    have hx0:X%2^k≠0:=by
     intro h;rw[h] at hxm;rw[show k=k-1+1 by omega,fC,cu _ 2,aM] at hxm;omega
    have h1:W0*Y<=vF:=ae
    have h2:vF+1<=(W0+1)*Y:=by
     rw[fI,jq];rw[gK,fU] at hLfD;omega
    have h3:=eZ (2^k) h1;have h4:=eZ (2^k) h2;rw[fI,jq] at h4;rw[cu] at hxm;omega
  · rw[if_neg hb] at zx;have hb1:(-b).toNat=0:=ae
    rw[hb1,gK,fU,fU,decide_eq_true (show 0<=b by omega),Bool.and_true];have e1:X*2^(b.toNat+cut)=vF*2^cut:=by rw[aJ,<-aM,zx]
    rw[e1];generalize vF*2^cut=L at *;generalize Lf*2^cut=A at *;generalize hT:W0*Lo=T at *
    by_cases hlt:A<T
    · rw[if_pos hlt];have hW1:1<=W0:=hless (by rw[Wm,Wn];exact hlt);obtain⟨W,rfl⟩:∃ W,W0=W+1:=⟨W0-1,ae⟩;rw[mI];rw[fI,jq] at hsum |-;refine⟨fun h=>?_,fun _=>by omega⟩;have:=of_decide_eq_true h;omega
    · rw[if_neg hlt];rw[fI,jq];refine⟨fun h=>?_,fun h=>?_⟩
      · have:=of_decide_eq_true h;omega
      · have:=of_decide_eq_false h;omega
 refine⟨?_,?_,?_,?_,?_,?_,?_,?_,?_,?_,?_,?_,?_⟩
 · rw[eb,A8];exact key.1
 · rw[eb,A8];exact fun h=>(key.2 h).1
 · rw[eb,A8];exact fun h=>(key.2 h).2
 · intro h;have:=hW0ge h;rw[Zr];split <;> omega
 · rw[Zr];split <;> omega
 · rw[eW0];exact hless
 · rw[eH];omega
 · rw[eH,A8];exact hHD
 · rw[eLo,A8];exact hLo
 · rw[eW0];exact X7
 · rw[eH,A8];exact hblH
 · rw[Wl,eH];exact RJ
 · rw[eLf,eH];exact hLf
theorem Alike.scale{n P Q P' Q' V S:Nat}(h:Alike n P' Q' V S)(hQ:0<Q)(hQ':0<Q')(e:P*Q'=P'*Q):Alike n P Q V S:=by
 intro c j hc hj;obtain⟨h1,h2⟩:=h c j hc hj;rw[<-h1,<-h2];generalize c*2^j=g;have e1:g*Q*Q'=g*Q'*Q:=yc _ _ _;have e2:2*P*Q'=2*P'*Q:=by rw[aM,e,aM]
 constructor
 · rw[<-mK hQ',e1,e2,mK hQ]
 · constructor
   · intro k;have:=congrArg (·*Q') k;simp only[e1,e2] at this;exact pU hQ this
   · intro k;have:=congrArg (·*Q) k;simp only[<-e1,<-e2] at this;exact pU hQ' this
structure Jh (n R d V S u:Nat) (h:Int):Prop where
 pos:0<S
 one:d=0->V*(2^(-(h+u)).toNat)^n=(R*2^(h+u).toNat)^n*S
 in':d=1->(R*2^(h+u).toNat)^n*S<V*(2^(-(h+u)).toNat)^n/\V*(2^(-(h+u)).toNat)^n<((R+1)*2^(h+u).toNat)^n*S
def fP(h:Int):Int:=min (max (h-1) (-4096)) 4096
theorem wK(n R d V S u:Nat)(h:Int)(hn:0<n)(Ak:9007199254740992<=R)(hR2:R<2^100)(hd:d<=1)(hu0:149<=u)(hu1:u<=1074)(hI:Jh n R d V S u h) :
 Alike n ((2*R+d)*2^(fP h+u).toNat) (2^(-(fP h+u)).toNat) V S:=by
 have hS:=hI.pos
 have hlo:(R*2^(h+u).toNat)^n*S<=V*(2^(-(h+u)).toNat)^n:=by
  rcases jZ d with q|q
  · rw[hI.one q];exact aC _
  · exact jm (hI.in' ae).1
 have hhi:V*(2^(-(h+u)).toNat)^n<((R+1)*2^(h+u).toNat)^n*S:=by
  rcases jZ d with q|q
  · rw[hI.one q];exact dO ((jH hn).2 (dO ae (aZ _))) hS
  · exact(hI.in' ae).2
 by_cases h1:h-1 < -4096
 · have hc:fP h=-4096:=by unfold fP;omega
   rw[hc];have e1:((-4096:Int)+u).toNat=0:=ae
   have e2:(h+u).toNat=0:=ae
   rw[e1,gK,fU];rw[e2,gK,fU] at hlo hhi;obtain⟨q,hq⟩:∃ q,(-(h+u)).toNat=q:=⟨_,rfl⟩;have hq1:3000<=q:=ae
   rw[hq] at hlo hhi;obtain⟨q',hq'⟩:∃ q',(-((-4096:Int)+u)).toNat=q':=⟨_,rfl⟩;have hq'1:3000<=q':=ae
   rw[hq'];have hbig:∀ k,103<=k->2^103<=2^k:=fun k hk=>fe aj hk;have b1:=hbig q ae;have b2:=hbig q' ae;have e103:(2:Nat)^103=8*2^100:=aj
   have Zt:0<(2^q)^n:=pW (aZ q);refine Jg n _ _ V S hn ae ?_ hS ae ?_
   · rcases jZ V with z | z
     · rw[z,dL] at hlo;have:=iq (pW (n:=n) (show 0<R by omega)) hS;omega
     · exact z
   · have s1:2^n*V*(2^q)^n<(2*(R+1))^n*S:=by
      rw[rJ,aM,aM];exact rG hhi (aZ n)
     have s2:(2*(R+1))^n*S<=(2^q)^n*S:=eZ _ (yl ae n);have s3:2^n*V*(2^q)^n<S*(2^q)^n:=by rw[cu S];exact iQ s1 s2
     exact(mK Zt).1 s3
 · by_cases h2:4096<h-1
   · have hc:fP h=4096:=by unfold fP;omega
     rw[hc];have e1:(-((4096:Int)+u)).toNat=0:=ae
     have e2:(-(h+u)).toNat=0:=ae
     rw[e1,gK];rw[e2,gK,Nat.one_pow,fU] at hlo hhi;obtain⟨A,hA⟩:∃ A,((4096:Int)+u).toNat=A:=⟨_,rfl⟩;obtain⟨p,hp⟩:∃ p,(h+u).toNat=p:=⟨_,rfl⟩;rw[hA];rw[hp] at hlo hhi;have hA1:2101<=A:=ae
     have hp1:2101<=p:=ae
     have top:∀ c j k,c<=18014398509481984->j<=2046->2101<=k->c*2^j<2^k:=by
      intro c j k hcc hj hk;have h54:(18014398509481984:Nat)=2^54:=aj
      calc c*2^j<=2^54*2^j:=eZ _ ae
       _=2^(54+j):=(aJ _ _ _).symm
       _<2^k:=Nat.pow_lt_pow_right aj ae
     refine Ou n _ _ V S hn ?_ ?_
     · intro c j hcc hj;have t:=top c j A hcc hj hA1;have:2^A<=(2*R+d)*2^A:=Bo _ ae;rw[fU];omega
     · intro c j hcc hj;have t:=top c j p hcc hj hp1;have t2:2^p<=R*2^p:=Bo _ ae;have t3:(c*2^j)^n*S<(R*2^p)^n*S:=dO ((jH hn).2 ae) hS;have t4:V<=2^n*V:=Bo _ (aZ n);omega
   · have hc:fP h=h-1:=by unfold fP;omega
     rw[hc];have sp:=Jf n R (h+u).toNat (-(h+u)).toNat V S d hn hS Ak hd hI.one hI.in';refine sp.scale (aZ _) (iq aj (aZ _)) ?_
     have e:∀ a b c k:Nat,a+1+b=c+k->(2*R+d)*2^a*(2*2^b)=(2*R+d)*2^c*2^k:=by
      intro a b c k hh;rw[aM,aM,<-aJ,<-hh,aJ,fC,aM (2^a)]
     exact e _ _ _ _ ae
def uh(X:Nat)(e f:Int)(u n:Nat):Nat:=X*2^(e-f+(n*u:Nat)).toNat
def nO(Y:Nat)(e f:Int)(u n:Nat):Nat:=Y*2^(-(e-f+(n*u:Nat))).toNat
theorem RL(X Y:Nat)(e f:Int)(u:Nat)(hY:Y≠0)(hD:RI X Y 64) :
 Jh 1 (fA X Y 64) (if qH X Y 64 then 0 else 1) (uh X e f u 1) (nO Y e f u 1) u (e-f-mZ X Y 64-gP Y 64):=by
 have h1:=hD.one;have h2:=hD.low;have h3:=hD.high;generalize fA X Y 64=W at *;generalize mZ X Y 64=b at *;generalize gP Y 64=cut at *;generalize qH X Y 64=t at *;have hY0:0<Y:=ae
 have sides:∀ R:Nat,(R*2^(e-f-b-cut+u).toNat)^1*nO Y e f u 1=R*Y*2^((e-f-b-cut+u).toNat+(-(e-f+(1*u:Nat))).toNat):=by
  intro R;unfold nO;rw[rM,aJ,aM R,aM R,<-aM (2^_) Y,cu (2^_) Y,aM Y]
 have left:uh X e f u 1*(2^(-(e-f-b-cut+u)).toNat)^1=X*2^((e-f+(1*u:Nat)).toNat+(-(e-f-b-cut+u)).toNat):=by
  unfold uh;rw[rM,aJ,aM]
 refine⟨iq hY0 (aZ _),fun hd=>?_,fun hd=>?_⟩
 · have ht:t=true:=by cases t with
    | true=>rfl
    | false=>simp at hd
   rw[left,sides];exact(zw X (W*Y) _ _ _ _ ae).1 (h1 ht)
 · have ht:t=false:=by cases t with
    | true=>simp at hd
    | false=>rfl
   rw[left,sides,sides];exact⟨(lq (W*Y) X _ _ _ _ ae).1 (h2 ht),(lq X ((W+1)*Y) _ _ _ _ ae).1 (h3 ht)⟩
theorem dbl(W Y k:Nat):W*Y*2^(k+1)=2*W*Y*2^k:=by
 rw[fC,cu (2^k) 2,<-aM,cu (W*Y) 2,<-aM]
def RN(W:Nat)(x:Int):Nat:=if x%2=0 then W else W/2
def xV(x:Int):Int:=if x%2=0 then x else x+1
def X8(W:Nat)(x:Int)(t:Bool):Bool:=if x%2=0 then t else t&&decide (W%2=0)
theorem Ow(X Y:Nat)(e f:Int)(u R:Nat)(hY:Y≠0)(hD:RI X Y 129)(x:Int)(hx:x=e-f-mZ X Y 129-gP Y 129)(hR:o5 (RN (fA X Y 129) x) R) :
 Jh 2 R (if X8 (fA X Y 129) x (qH X Y 129)&&decide (RN (fA X Y 129) x=R*R) then 0 else 1) (uh X e f u 2) (nO Y e f u 2) u (xV x/2):=by
 have h1:=hD.one;have h2:=hD.low;have h3:=hD.high;generalize fA X Y 129=W at *;generalize mZ X Y 129=b at *;generalize gP Y 129=cut at *;generalize qH X Y 129=t at *;have hY0:0<Y:=ae
 -- the halved span
 obtain⟨W',hW'⟩:∃ W',RN W x=W':=⟨_,rfl⟩;obtain⟨t',ht'⟩:∃ t',X8 W x t=t':=⟨_,rfl⟩;obtain⟨hh,ehh⟩:∃ hh,xV x/2=hh:=⟨_,rfl⟩;rw[hW'] at hR;rw[hW',ht',ehh]
 -- V (2^q)^2 against W' (2^p)^2 S,all as powers
 have sides:∀ R:Nat,R*((2^(hh+u).toNat)^2)*nO Y e f u 2=R*Y*2^(2*(hh+u).toNat+(-(e-f+(2*u:Nat))).toNat):=by
  intro R;unfold nO;rw[<-kD,cu (hh+u).toNat 2,aJ,aM R,aM R,<-aM (2^_) Y,cu (2^_) Y,aM Y]
 have left:uh X e f u 2*(2^(-(hh+u)).toNat)^2=X*2^((e-f+(2*u:Nat)).toNat+2*(-(hh+u)).toNat):=by
  unfold uh;rw[<-kD,cu (-(hh+u)).toNat 2,aJ,aM]
 have base:(t'=true->uh X e f u 2*(2^(-(hh+u)).toNat)^2=W'*((2^(hh+u).toNat)^2)*nO Y e f u 2) /\
  (t'=false->W'*((2^(hh+u).toNat)^2)*nO Y e f u 2<uh X e f u 2*(2^(-(hh+u)).toNat)^2/\uh X e f u 2*(2^(-(hh+u)).toNat)^2<(W'+1)*((2^(hh+u).toNat)^2)*nO Y e f u 2):=by
  rw[left,sides,sides]
  by_cases hev:x%2=0
  · have q1:W=W':=by rw[<-hW'];unfold RN;rw[if_pos hev]
    have q2:t=t':=by rw[<-ht'];unfold X8;rw[if_pos hev]
    have q3:2*hh=x:=by rw[<-ehh];unfold xV;rw[if_pos hev];omega
    subst q1 q2;refine⟨fun ht=>(zw X (W*Y) _ _ _ _ ae).1 (h1 ht),fun ht=>⟨(lq (W*Y) X _ _ _ _ ae).1 (h2 ht),(lq X ((W+1)*Y) _ _ _ _ ae).1 (h3 ht)⟩⟩
  · have q1:W/2=W':=by rw[<-hW'];unfold RN;rw[if_neg hev]
    have q2:(t&&decide (W%2=0))=t':=by rw[<-ht'];unfold X8;rw[if_neg hev]
    have q3:2*hh=x+1:=by rw[<-ehh];unfold xV;rw[if_neg hev];omega
    have two:∀ R,R*Y*2^(2*(hh+u).toNat+(-(e-f+(2*u:Nat))).toNat)=R*Y*2^(2*(hh+u).toNat+(-(e-f+(2*u:Nat))).toNat):=fun R=>rfl;refine⟨fun ht=>?_,fun ht=>?_⟩
    · rw[<-q2] at ht;simp only[vZ,decide_eq_true_eq] at ht;have hw:W=2*W':=ae
      have b1:=h1 ht.1;rw[hw,show 2*W'*Y*2^(-b).toNat=W'*Y*2^((-b).toNat+1) from(dbl _ _ _).symm] at b1;exact(zw X (W'*Y) _ _ _ _ ae).1 b1
    · have lo:W'*Y*2^((-b).toNat+1)<=W*Y*2^(-b).toNat:=by
       rw[show W'*Y*2^((-b).toNat+1)=2*W'*Y*2^(-b).toNat from dbl _ _ _];exact eZ _ (eZ _ ae)
      have hi:(W+1)*Y*2^(-b).toNat<=(W'+1)*Y*2^((-b).toNat+1):=by
       rw[show(W'+1)*Y*2^((-b).toNat+1)=2*(W'+1)*Y*2^(-b).toNat from dbl _ _ _];exact eZ _ (eZ _ ae)
      have key:W'*Y*2^((-b).toNat+1)<X*2^(b.toNat+cut)/\X*2^(b.toNat+cut)<(W'+1)*Y*2^((-b).toNat+1):=by
       cases ht2:t with
       | false=>have k1:=h2 ht2;have k2:=h3 ht2;omega
       | true =>
         have k1:=h1 ht2;rw[ht2] at q2
         have hodd:W%2=1:=by
          rw[<-q2] at ht;simp at ht;omega
         have st1:W'*Y*2^((-b).toNat+1)<W*Y*2^(-b).toNat:=by
          rw[show W'*Y*2^((-b).toNat+1)=2*W'*Y*2^(-b).toNat from dbl _ _ _];exact dO (dO ae hY0) (aZ _)
         have st2:W*Y*2^(-b).toNat<(W'+1)*Y*2^((-b).toNat+1):=by
          rw[show(W'+1)*Y*2^((-b).toNat+1)=2*(W'+1)*Y*2^(-b).toNat from dbl _ _ _];exact dO (dO ae hY0) (aZ _)
         omega
      exact⟨(lq (W'*Y) X _ _ _ _ ae).1 key.1,(lq X ((W'+1)*Y) _ _ _ _ ae).1 key.2⟩
 have X9:0<nO Y e f u 2:=iq hY0 (aZ _);obtain⟨Ak,hR2⟩:=hR;have hpp:0<(2^(hh+u).toNat)^2:=pW (aZ _)
 have sq:∀ a:Nat,(a*2^(hh+u).toNat)^2*nO Y e f u 2=a*a*((2^(hh+u).toNat)^2)*nO Y e f u 2:=by
  intro a;rw[rJ,Nat.pow_two a]
 have mono:∀ a b:Nat,a<=b->a*((2^(hh+u).toNat)^2)*nO Y e f u 2<=b*((2^(hh+u).toNat)^2)*nO Y e f u 2:=fun a b q=>eZ _ (eZ _ q);have Ya:∀ a b:Nat,a<b->a*((2^(hh+u).toNat)^2)*nO Y e f u 2<b*((2^(hh+u).toNat)^2)*nO Y e f u 2:=fun a b q=>dO (dO q hpp) X9;refine⟨X9,fun hd=>?_,fun hd=>?_⟩
 · have hc:t'=true/\W'=R*R:=by
    by_cases q:(t'&&decide (W'=R*R))=true
    · simpa using q
    · rw[if_neg q] at hd;omega
   rw[sq,<-hc.2];exact base.1 hc.1
 · have hc:¬ (t'=true/\W'=R*R):=by
    intro q;rw[if_pos (by simp[q.1,q.2])] at hd;omega
   rw[sq,sq]
   cases ht2:t' with
   | false =>
     obtain⟨k1,k2⟩:=base.2 ht2;have k3:=mono (R*R) W' Ak;have k4:=mono (W'+1) ((R+1)*(R+1)) hR2;omega
   | true =>
     have k1:=base.1 ht2
     have hne:R*R<W':=by
      rcases jK (R*R) W' with q|q
      · exact q
      · exact absurd ⟨ht2,ae⟩ hc
     rw[k1];exact⟨Ya _ _ hne,Ya _ _ hR2⟩
theorem KL{w:World}{a b:Option Addr}{n c m d:Nat}{xs ys:List Nat}{V U:Nat}{z:Int}(h1:Arg w a n c xs)(h2:Arg w b m d ys)(e:qD (val xs) (val ys)=(V,U,z)) :
 Calls Tryz.prog 142 #[.slice a n c,.slice b m d] w fun r w'=>∃ v u,r=.returned (.tuple #[v,u,.int .i64 z])/\Nt w.heap.size w' v V/\Nt w.heap.size w' u U/\Below w.heap.size w w' :=
 (UY xs ys a b n c m d w.heap.size w h1.len h2.len h1.cap h2.cap (by have:=h1.big;omega) (by have:=h2.big;omega) h1.wf h2.wf h1.rd h2.rd (aC _)).mono
  fun r w' ⟨⟨v,u,h3,h4,h5,h6⟩,hb⟩=>by rw[e] at h3 h4 h5;exact⟨v,u,h3,h4,h5,hb⟩
theorem RO{w:World}{a:Option Addr}{n c:Nat}{xs:List Nat}{q l:Nat}(h1:Arg w a n c xs)(hq:o5 (val xs) q)(hl:val xs-q*q=l) :
 Calls Tryz.prog 121 #[.slice a n c] w fun r w'=>∃ v u,r=.returned (.tuple #[v,u])/\Nt w.heap.size w' v q/\Nt w.heap.size w' u l/\Below w.heap.size w w' :=
 (Qi xs a n c w.heap.size w h1.len h1.cap h1.big h1.wf h1.rd (aC _)).mono
  fun r w' ⟨q',hq',⟨v,u,h3,h4,h5,h6⟩,hb⟩=>by
   have:=hq'.unique hq;subst this;rw[hl] at h5;exact⟨v,u,h3,h4,h5,hb⟩
theorem pz{w:World}{a:Option Addr}{n c:Nat}{xs:List Nat}{k:Nat}(h1:Arg w a n c xs)(e:bl (val xs)=k) :
 Calls Tryz.prog 93 #[.slice a n c] w fun r w'=>r=.returned (.int .i64 (k:Nat))/\Below w.heap.size w w':=by
 subst e;exact(qO xs a n c w.heap.size w h1.len h1.cap (by have:=h1.big;omega) h1.wf h1.rd).mono fun r w' ⟨h,e⟩=>⟨h,by rw[e];exact aD _ _⟩
theorem q9{X V:Nat}{k:Nat}(hX:¬ LG X)(hb:X=0\/bl X+k<=262144)(e:X*2^k=V):bz X (k:Int)=(V,0):=by
 unfold bz;rw[if_neg hX]
 by_cases h0:X=0
 · rw[if_pos h0,<-e,h0,dL]
 · rw[if_neg h0,if_neg ae,if_neg ae];simp[e]
theorem vG{X V:Nat}{k:Nat}(hX:¬ LG X)(e:X/2^k=V):bz X (-(k:Int))=(V,0):=by
 unfold bz;rw[if_neg hX]
 by_cases h0:X=0
 · rw[if_pos h0,<-e,h0,Nat.zero_div]
 · rw[if_neg h0]
   by_cases hk:k=0
   · subst hk;rw[if_neg aQ,if_neg (by have:=mt (wE X).2 hX;omega)];simp at e;simp[e]
   · rw[if_pos ae];simp[e]
theorem Wo{X Y:Nat}(h1:¬ LG X)(h2:¬ LG Y)(h:Y≠0){V U:Nat}(e1:X/Y=V)(e2:X%Y=U):qD X Y=(V,U,0):=by
 unfold qD;rw[if_neg (by simp[h1,h2]),if_neg h,e1,e2]
theorem Ji {w:World}{a b q h:Option Addr}{ca cb cq ch:Nat}(W0 Lf Y H cut Bk Lo Tk' Hs:Nat) (z:Int) (AW:Arg w a (ws W0).length ca (ws W0)) (AL:Arg w b (ws Lf).length cb (ws Lf)) (AY:Arg w q (ws Y).length cq (ws Y)) (AH:Arg w h (ws H).length ch (ws H))
 (hc:cut<=4611686018427387904) (e1:bz H (cut:Int)=(Bk,0)) (e2:qC Y Bk=(Lo,0)) (e3:lJ W0 Lo=(Tk',0)) (e4:bz Lf (cut:Int)=(Hs,0)) (e5:bJ Hs Tk'=z)
 (l1:(ws Bk).length<=8192) (l2:(ws Lo).length<=8192) (l3:(ws Tk').length<=8192) (l4:(ws Hs).length<=8192) :
 Calls Tryz.prog 143 #[.slice a (ws W0).length ca,.slice b (ws Lf).length cb,.slice q (ws Y).length cq,.slice h (ws H).length ch,.int .i64 (cut:Nat)] w fun r w'=>r=.returned (.int .i64 z)/\Below w.heap.size w w':=by
 rw[<-ak H] at e1;rw[<-ak Y,<-ak Bk] at e2;rw[<-ak W0,<-ak Lo] at e3;rw[<-ak Lf] at e4;rw[<-ak Hs,<-ak Tk'] at e5;have E:=(fO e1 e2 e3 e4 e5);clear e1 e2 e3 e4 e5;have hbel:=aD w.heap.size w;have S0:=(fO hbel AW AL AY AH);clear hbel;clear AW AL AY AH;go_enter Tryz.func143,Tryz.ntmps143;obtain⟨aB,AW,AL,AY,AH⟩:=S0.o;have HC:=hid (gH (cut:Int) AH E.o.1 ae ae);clear aB AW AL AY AH;go_wp2_with fail;refine HC.o.mono ?_;rintro r u1 ⟨v,rfl,hN,hb⟩;obtain⟨a1,c1,rfl,_⟩:=hN.arg ae;clear HC;obtain⟨aB,AW,AL,AY,AH⟩:=S0.o;have hbn:=aB.trans (hb.mono aB.size);have S1:=jJ hbn (AW.below hb) (AL.below hb) (AY.below hb) (AH.below hb) (hN.mono aB.size);clear aB AW AL AY AH;clear hb hbn S0;clear hN;obtain⟨aB,AW,AL,AY,AH,NB⟩:=S1.o;have HC:=hid (xO AY (NB.aY ae).2 E.o.2.1);clear aB AW AL AY AH NB;go_wp2_with fail;refine HC.o.mono ?_;rintro r u2 ⟨v,rfl,hN,hb⟩;obtain⟨a2,c2,rfl,_⟩:=hN.arg ae;clear HC;obtain⟨aB,AW,AL,AY,AH,NB⟩:=S1.o;have hbn:=aB.trans (hb.mono aB.size);have S2:=nU hbn (AW.below hb) (AL.below hb) (AY.below hb) (AH.below hb) (NB.below hb) (hN.mono aB.size);clear aB AW AL AY AH NB;clear hb hbn S1;clear hN;obtain⟨aB,AW,AL,AY,AH,NB,NL⟩:=S2.o;have HC:=hid (U6 AW (NL.aY ae).2 E.o.r2.1);clear aB AW AL AY AH NB NL;go_wp2_with fail;refine HC.o.mono ?_;rintro r u3 ⟨v,rfl,hN,hb⟩;obtain⟨a3,c3,rfl,_⟩:=hN.arg ae;clear HC;obtain⟨aB,AW,AL,AY,AH,NB,NL⟩:=S2.o;have hbn:=aB.trans (hb.mono aB.size);have S3:=uI hbn (AW.below hb) (AL.below hb) (AY.below hb) (AH.below hb) (NB.below hb) (NL.below hb) (hN.mono aB.size);clear aB AW AL AY AH NB NL;clear hb hbn S2;clear hN;obtain⟨aB,AW,AL,AY,AH,NB,NL,NT⟩:=S3.o;have HC:=hid (gH (cut:Int) AL E.o.r3.1 ae ae);clear aB AW AL AY AH NB NL NT;go_wp2_with fail;refine HC.o.mono ?_;rintro r u4 ⟨v,rfl,hN,hb⟩;obtain⟨a4,c4,rfl,_⟩:=hN.arg ae;clear HC;obtain⟨aB,AW,AL,AY,AH,NB,NL,NT⟩:=S3.o;have hbn:=aB.trans (hb.mono aB.size);have S4:=XP hbn (AW.below hb) (AL.below hb) (AY.below hb) (AH.below hb) (NB.below hb) (NL.below hb) (NT.below hb) (hN.mono aB.size);clear aB AW AL AY AH NB NL NT;clear hb hbn S3;clear hN;obtain⟨aB,AW,AL,AY,AH,NB,NL,NT,NS⟩:=S4.o;have HC:=hid (Dh (NS.aY ae).2 (NT.aY ae).2 z E.o.r4);clear aB AW AL AY AH NB NL NT NS;go_wp2_with fail;refine HC.o.mono ?_;rintro r u5 ⟨rfl,hb⟩;clear HC;obtain⟨aB,AW,AL,AY,AH,NB,NL,NT,NS⟩:=S4.o;have hbn:=aB.trans (hb.mono aB.size);have S5:=XP hbn (AW.below hb) (AL.below hb) (AY.below hb) (AH.below hb) (NB.below hb) (NL.below hb) (NT.below hb) (NS.below hb);clear aB AW AL AY AH NB NL NT NS;clear hb hbn S4;have hbW:=hid S5.o.1;clear S5 E;go_wp2;go_ret;exact⟨rfl,hbW.o⟩
def Tk(w:World)(g T:Nat)(x y z:Value):Prop:=w.heap[g]?=some (.cells #[x,y,z] T (0,0))
theorem Tk.lt{w:World}{g T:Nat}{x y z:Value}(h:Tk w g T x y z):g<w.heap.size:=(gL.1 h).1
theorem Tk.below{w w':World}{g T:Nat}{x y z:Value}(h:Tk w g T x y z)(hb:Below w.heap.size w w'):Tk w' g T x y z:=by
 unfold Tk;exact Qaf
theorem Tk.alloc{w:World}{g T:Nat}{x y z:Value}(h:Tk w g T x y z)(o:Obj):Tk (w.alloc o) g T x y z:=h.below (af w o)
theorem Tk.new(w:World)(T:Nat)(x y z:Value):Tk (w.alloc (.cells #[x,y,z] T)) w.heap.size T x y z:=gY _ _
theorem Tk.facts{w:World}{g T:Nat}{x y z:Value}(h:Tk w g T x y z) :
 w.cell? ⟨g,0,none⟩=some x/\w.cell? ⟨g,1,none⟩=some y/\w.cell? ⟨g,2,none⟩=some z/\w.frozen? ⟨g,0,none⟩=false/\w.frozen? ⟨g,1,none⟩=false/\w.frozen? ⟨g,2,none⟩=false:=by
 unfold Tk at h;simp[World.cell?,World.frozen?,h]
theorem Tk.set{w:World}{g T:Nat}{x y z:Value}(h:Tk w g T x y z)(a b c:Value):Tk (dM w g a b c) g T a b c:=by
 unfold Tk at h |-;simp[dM,World.setCell,mJ,h]
theorem Tk.but{w w':World}{g g' T:Nat}{x y z:Value}(h:Tk w g T x y z)(hb:But g' w w')(hg:g≠g'):Tk w' g T x y z:=by
 unfold Tk;rw[hb.block g h.lt hg];exact h
def Rq(w:World)(g:Nat)(n:Bool)(v:Value)(e:Int)(m:Bool)(u:Value)(f:Int):Prop:=w.heap[g]?=some (.cells #[.bool n,v,.int .i64 e,.bool m,u,.int .i64 f] 58 (0,0))
theorem Rq.lt{w:World}{g:Nat}{n:Bool}{v:Value}{e:Int}{m:Bool}{u:Value}{f:Int}(h:Rq w g n v e m u f):g<w.heap.size:=(gL.1 h).1
theorem Rq.below{w w':World}{g:Nat}{n:Bool}{v:Value}{e:Int}{m:Bool}{u:Value}{f:Int}(h:Rq w g n v e m u f)(hb:Below w.heap.size w w'):Rq w' g n v e m u f:=by
 unfold Rq;exact Qaf
theorem Rq.alloc{w:World}{g:Nat}{n:Bool}{v:Value}{e:Int}{m:Bool}{u:Value}{f:Int}(h:Rq w g n v e m u f)(o:Obj):Rq (w.alloc o) g n v e m u f:=h.below (af w o)
theorem Rq.new(w:World)(n:Bool)(v:Value)(e:Int)(m:Bool)(u:Value)(f:Int):Rq (w.alloc (.cells #[.bool n,v,.int .i64 e,.bool m,u,.int .i64 f] 58)) w.heap.size n v e m u f:=gY _ _
theorem Rq.facts{w:World}{g:Nat}{n:Bool}{v:Value}{e:Int}{m:Bool}{u:Value}{f:Int}(h:Rq w g n v e m u f) :
 w.cell? ⟨g,0,none⟩=some (.bool n)/\w.cell? ⟨g,1,none⟩=some v/\w.cell? ⟨g,2,none⟩=some (.int .i64 e)/\w.cell? ⟨g,3,none⟩=some (.bool m)/\w.cell? ⟨g,4,none⟩=some u/\w.cell? ⟨g,5,none⟩=some (.int .i64 f):=by
 unfold Rq at h;simp[World.cell?,h]
theorem Rq.frz{w:World}{g:Nat}{n:Bool}{v:Value}{e:Int}{m:Bool}{u:Value}{f:Int}(h:Rq w g n v e m u f) :
 w.frozen? ⟨g,0,none⟩=false/\w.frozen? ⟨g,1,none⟩=false/\w.frozen? ⟨g,2,none⟩=false/\w.frozen? ⟨g,3,none⟩=false/\w.frozen? ⟨g,4,none⟩=false/\w.frozen? ⟨g,5,none⟩=false:=by
 unfold Rq at h;simp[World.frozen?,h]
abbrev st6(w:World)(g:Nat)(a b c d e f:Value):World:=(((((w.setCell ⟨g,0,none⟩ a).setCell ⟨g,1,none⟩ b).setCell ⟨g,2,none⟩ c).setCell ⟨g,3,none⟩ d).setCell ⟨g,4,none⟩ e).setCell ⟨g,5,none⟩ f
theorem KM(g:Nat)(w:World)(a b c d e f:Value):But g w (st6 w g a b c d e f):=((((((But.refl g w).set _ _).set _ _).set _ _).set _ _).set _ _).set _ _
theorem Rq.set{w:World}{g:Nat}{n:Bool}{v:Value}{e:Int}{m:Bool}{u:Value}{f:Int}(h:Rq w g n v e m u f)(n':Bool)(v':Value)(e':Int)(m':Bool)(u':Value)(f':Int) :
 Rq (st6 w g (.bool n') v' (.int .i64 e') (.bool m') u' (.int .i64 f')) g n' v' e' m' u' f':=by
 unfold Rq at h |-;simp[st6,World.setCell,mJ,h]
theorem Nt.off{lo:Nat}{w w':World}{v:Value}{X g:Nat}(h:Nt lo w v X)(hb:But g w w')(hg:v.ownBlock≠Option.some g):Nt lo w' v X:=by
 refine⟨h.1,?_⟩;rcases h.2 with hn|⟨g',cap,cur,rfl,hlo,hg',rest⟩
 · exact .inl hn
 · refine .inr ⟨g',cap,cur,rfl,hlo,?_,rest⟩;rw[hb.block g' (gL.1 hg').1 (by intro e;subst e;exact hg (by simp[Value.ownBlock]))];exact hg'
theorem Nt.ma{lo:Nat}{w:World}{v:Value}{X g T:Nat}{C:Array Value}{fz:Nat×Nat}(h:Nt lo w v X)(hT:T≠51)(hg:w.heap[g]?=Option.some (.cells C T fz)):v.ownBlock≠Option.some g:=by
 intro e;rcases h.2 with ⟨rfl,_⟩|⟨g',cap,cur,rfl,_,h2,_⟩
 · simp[Value.ownBlock] at e
 · simp[Value.ownBlock] at e;subst e;rw[hg] at h2;simp at h2;exact hT h2.2.1
theorem Nt.ou{lo:Nat}{w:World}{v:Value}{X g T:Nat}{x y z:Value}(h:Nt lo w v X)(D:Tk w g T x y z)(hT:T≠51)(a b c:Value):Nt lo (dM w g a b c) v X:=h.off (mU g w a b c) (h.ma hT D)
theorem Nt.st6k{lo:Nat}{w:World}{v:Value}{X g:Nat}{n:Bool}{p:Value}{e:Int}{m:Bool}{u:Value}{f:Int}(h:Nt lo w v X)(D:Rq w g n p e m u f)(a b c d q r:Value):Nt lo (st6 w g a b c d q r) v X:=h.off (KM g w a b c d q r) (h.ma aj D)
theorem dh{B g:Nat}{a w:World}(h:Below B a w)(hB:B<=w.heap.size)(hg:B<=g)(x y z:Value):Below B a (dM w g x y z):=But.below h (mU g w x y z) hB hg
theorem vH{B g:Nat}{a w:World}(h:Below B a w)(hB:B<=w.heap.size)(hg:B<=g)(x y z p q r:Value):Below B a (st6 w g x y z p q r):=But.below h (KM g w x y z p q r) hB hg
def Ap(v u:Value):Prop:=∀ g,v.ownBlock=some g->u.ownBlock≠some g
theorem Nt.blk{lo:Nat}{w:World}{v:Value}{X g:Nat}(h:Nt lo w v X)(hg:v.ownBlock=Option.some g):lo<=g/\g<w.heap.size:=by
 rcases h.2 with ⟨rfl,_⟩|⟨g',cap,cur,rfl,h1,h2,_⟩
 · simp[Value.ownBlock] at hg
 · simp[Value.ownBlock] at hg;subst hg;exact⟨h1,(gL.1 h2).1⟩
theorem Nt.ap{lo:Nat}{w w':World}{v u:Value}{X Y:Nat}(h:Nt lo w v X)(k:Nt w.heap.size w' u Y):Ap v u:=by
 intro g hg hu;have:=(h.blk hg).2;have:=(k.blk hu).1;omega
theorem ws0:(ws 0).length=0:=by rw[bO];rfl
theorem wL(W:World)(g:Nat)(v:Value)(x:Int)(t:Bool)(tmps:Array Value)(ht:tmps[4]?.getD undef=.pointer (some ⟨g,0,none⟩))(D:Tk W g 125 v (.int .i64 x) (.bool t)) :
 (results Tryz.f104 tmps).run Tryz.prog W=.ok (.agg #[v,.int .i64 x,.bool t]) W:=by
 obtain⟨x0,x1,x2,_,_,_⟩:=D.facts;simp[results,Tryz.results104,ht,go_sem,x0,x1,x2]
theorem Cg(w:World)(n:Bool)(v:Value)(e:Int)(m:Bool)(u:Value)(f:Int)(W:World)(hW:W=(w.alloc (.cells #[.bool n,v,.int .i64 e,.bool m,u,.int .i64 f] 58)).alloc (.cells #[.slice none 0 0,.int .i64 0,.bool false] 125)) :
 Below w.heap.size w W/\W.heap.size=w.heap.size+2/\Rq W w.heap.size n v e m u f/\Tk W (w.heap.size+1) 125 (.slice none 0 0) (.int .i64 0) (.bool false):=by
 rw[hW];refine⟨(af w _).alloc aQ _,aQ,(Rq.new _ _ _ _ _ _ _).alloc _,?_⟩;have:=Tk.new (w.alloc (.cells #[.bool n,v,.int .i64 e,.bool m,u,.int .i64 f] 58)) 125 (.slice none 0 0) (.int .i64 0) (.bool false);simpa using this
theorem FL {w:World}{a b:Option Addr}{ca cb:Nat}(n m:Bool) (X Y:Nat) (e f:Int) (size lX lY lH cut H vF W0 Lf WH:Nat) (t bb z x y1 y2:Int) (tt:Bool)
 (AX:Arg w a (ws X).length ca (ws X)) (AY:Arg w b (ws Y).length cb (ws Y))
 (he0:-1048576<=e) (he1:e<=1048576) (hf0:-1048576<=f) (hf1:f<=1048576) (hs:size<=1000) (hlY:bl Y=lY) (hlX:bl X=lX) (hlH:bl H=lH) (bX:lX<=262144) (bY:lY<=262144) (bH:lH<=262144)
 (ht:(lY:Int)+(size:Int)-262144=t) (hcut:max t 0=(cut:Int)) (bcut:cut<=2000)
 (e1:bz Y (-(cut:Int))=(H,0)) (hbb:(lH:Int)+(size:Int)-(lX:Int)=bb) (e2:bz X bb=(vF,0)) (e3:qD vF H=(W0,Lf,0))
 (HL:Hid (∀ (u:World) (p q r s:Option Addr) (cp cq cr cs:Nat),Arg u p (ws W0).length cp (ws W0)->Arg u q (ws Lf).length cq (ws Lf)->Arg u r (ws Y).length cr (ws Y)->Arg u s (ws H).length cs (ws H)->Calls Tryz.prog 143 #[.slice p (ws W0).length cp,.slice q (ws Lf).length cq,.slice r (ws Y).length cr,.slice s (ws H).length cs,.int .i64 (cut:Nat)] u fun r w'=>r=.returned (.int .i64 z)/\Below u.heap.size u w'))
 (hz:decide (z<0)=false)
 (h1:e-f=y1) (h2:y1-bb=y2) (h3:y2-(cut:Int)=x) (Ng:(decide (z=0)&&decide (0<=bb))=tt)
 (l1:(ws H).length<=8192) (l2:(ws vF).length<=8192) (l3:(ws W0).length<=8192) (l4:(ws Lf).length<=8192) :
 Calls Tryz.prog 104 #[.agg #[.bool n,.slice a (ws X).length ca,.int .i64 e,.bool m,.slice b (ws Y).length cb,.int .i64 f],.int .i64 (size:Nat)] w fun r w'=>(∃ v,r=.returned (.agg #[v,.int .i64 x,.bool tt])/\Nt w.heap.size w' v W0)/\Below w.heap.size w w':=by
 obtain⟨W1,hW1⟩:=ah ((w.alloc (.cells #[.bool n,.slice a (ws X).length ca,.int .i64 e,.bool m,.slice b (ws Y).length cb,.int .i64 f] 58)).alloc (.cells #[.slice none 0 0,.int .i64 0,.bool false] 125));obtain⟨hB,hz1,RQ,SK⟩:=Cg w n _ e m _ f W1 hW1;have FM:bz (val (ws Y)) (-(cut:Int))=(H,0):=by rw[ak];exact e1
 have e2':bz (val (ws X)) bb=(vF,0):=by rw[ak];exact e2
 have e3':qD (val (ws vF)) (val (ws H))=(W0,Lf,0):=by rw[ak,ak];exact e3
 have lY':bl (val (ws Y))=lY:=by rw[ak];exact hlY
 have lX':bl (val (ws X))=lX:=by rw[ak];exact hlX
 have lH':bl (val (ws H))=lH:=by rw[ak];exact hlH
 have E:=(jJ FM e2' e3' lY' lX' lH');have SZ:=(aP hz1 hB);have hs2:w.heap.size+2<=W1.heap.size:=ae
 have hbel:=hB;have S0:=(fO hbel (AX.below hB) (AY.below hB) RQ SK);clear hbel;clear e1 e2 e3 FM e2' e3' lY' lX' lH' hlY hlX hlH AX AY hB RQ SK hz1;go_enter Tryz.func104,Tryz.ntmps104
 go_upto_region 1 with fail
 rw[<-hW1];clear hW1;obtain⟨x0,x1,x2,x3,x4,x5⟩:=S0.o.r3.1.facts
 go_quiet (fail)
 clear x0 x1 x2 x3 x4 x5;generalize hV:World.drewN W1 _=V1;have hb:Below W1.heap.size W1 V1:=by rw[<-hV];exact Below.drewN' (aD _ _) _
 clear hV;obtain⟨aB,AX,AY,RQ,SK⟩:=S0.o;have hbn:=aB.trans (hb.mono aB.size);have S1:=fO hbn (AX.below hb) (AY.below hb) (RQ.below hb) (SK.below hb);clear aB AX AY RQ SK;clear hb hbn S0;obtain⟨aB,AX,AY,RQ,SK⟩:=S1.o;have HC:=hid (pz AY E.o.r3.1);clear aB AX AY RQ SK;go_wp2_with fail;refine HC.o.mono ?_;rintro r u2 ⟨rfl,hb⟩;clear HC;obtain⟨aB,AX,AY,RQ,SK⟩:=S1.o;have hbn:=aB.trans (hb.mono aB.size);have S2:=fO hbn (AX.below hb) (AY.below hb) (RQ.below hb) (SK.below hb);clear aB AX AY RQ SK;clear hb hbn S1;obtain⟨aB,AX,AY,RQ,SK⟩:=S2.o;have HC:=hid (gH (-(cut:Int)) AY E.o.1 ae ae);clear aB AX AY RQ SK;go_wp2_with fail;refine HC.o.mono ?_;rintro r u3 ⟨v,rfl,hN,hb⟩;obtain⟨a1,c1,rfl,_⟩:=hN.arg ae;clear HC;obtain⟨aB,AX,AY,RQ,SK⟩:=S2.o;have hbn:=aB.trans (hb.mono aB.size);have S3:=jJ hbn (AX.below hb) (AY.below hb) (RQ.below hb) (SK.below hb) (hN.mono aB.size);clear aB AX AY RQ SK;clear hb hbn S2;clear hN;obtain⟨aB,AX,AY,RQ,SK,NH⟩:=S3.o;have HC:=hid (pz (NH.aY ae).2 E.o.r5);clear aB AX AY RQ SK NH;go_wp2_with fail;refine HC.o.mono ?_;rintro r u4 ⟨rfl,hb⟩;clear HC;obtain⟨aB,AX,AY,RQ,SK,NH⟩:=S3.o;have hbn:=aB.trans (hb.mono aB.size);have S4:=jJ hbn (AX.below hb) (AY.below hb) (RQ.below hb) (SK.below hb) (NH.below hb);clear aB AX AY RQ SK NH;clear hb hbn S3;obtain⟨aB,AX,AY,RQ,SK,NH⟩:=S4.o;have HC:=hid (pz AX E.o.r4.1);clear aB AX AY RQ SK NH;go_wp2_with fail;refine HC.o.mono ?_;rintro r u5 ⟨rfl,hb⟩;clear HC;obtain⟨aB,AX,AY,RQ,SK,NH⟩:=S4.o;have hbn:=aB.trans (hb.mono aB.size);have S5:=jJ hbn (AX.below hb) (AY.below hb) (RQ.below hb) (SK.below hb) (NH.below hb);clear aB AX AY RQ SK NH;clear hb hbn S4;obtain⟨aB,AX,AY,RQ,SK,NH⟩:=S5.o;have HC:=hid (gH bb AX E.o.2.1 ae ae);clear aB AX AY RQ SK NH;go_wp2_with fail;refine HC.o.mono ?_;rintro r u6 ⟨v,rfl,hN,hb⟩;obtain⟨a2,c2,rfl,_⟩:=hN.arg ae;clear HC;obtain⟨aB,AX,AY,RQ,SK,NH⟩:=S5.o;have hbn:=aB.trans (hb.mono aB.size);have S6:=nU hbn (AX.below hb) (AY.below hb) (RQ.below hb) (SK.below hb) (NH.below hb) (hN.mono aB.size);clear aB AX AY RQ SK NH;clear hb hbn S5;clear hN;obtain⟨aB,AX,AY,RQ,SK,NH,NV⟩:=S6.o;have HC:=hid (KL (NV.aY ae).2 (NH.aY ae).2 E.o.r2.1);clear aB AX AY RQ SK NH NV;go_wp2_with fail;refine HC.o.mono ?_;rintro r u7 ⟨v,v2,rfl,hN,hM,hb⟩;obtain⟨a3,c3,rfl,_⟩:=hN.arg ae;obtain⟨a4,c4,rfl,_⟩:=hM.arg ae;clear HC;obtain⟨aB,AX,AY,RQ,SK,NH,NV⟩:=S6.o;have hbn:=aB.trans (hb.mono aB.size);have S7:=uI hbn (AX.below hb) (AY.below hb) (RQ.below hb) (SK.below hb) (NH.below hb) (hN.mono aB.size) (hM.mono aB.size);clear aB AX AY RQ SK NH NV;clear hb hbn S6;clear hN hM;obtain⟨aB,AX,AY,RQ,SK,NH,NW,NL⟩:=S7.o;have HC:=hid (HL.o u7 _ _ _ _ _ _ _ _ (NW.aY ae).2 (NL.aY ae).2 AY (NH.aY ae).2);clear aB AX AY RQ SK NH NW NL;go_wp2_with fail;refine HC.o.mono ?_;rintro r u8 ⟨rfl,hb⟩;clear HC;obtain⟨aB,AX,AY,RQ,SK,NH,NW,NL⟩:=S7.o;have hbn:=aB.trans (hb.mono aB.size);have S8:=uI hbn (AX.below hb) (AY.below hb) (RQ.below hb) (SK.below hb) (NH.below hb) (NW.below hb) (NL.below hb);clear aB AX AY RQ SK NH NW NL;clear hb hbn S7;obtain⟨aB,AX,AY,RQ,SK,NH,NW,NL⟩:=S8.o;have hlast:=dC aB NW SK;obtain⟨x0,x1,x2,x3,x4,x5⟩:=RQ.facts;obtain⟨s0,s1,s2,uZ,ve,vg⟩:=SK.facts;have hsz:=aA (SK.lt);clear aB AX AY RQ SK NH NW NL;clear S8 E HL;have htA:=aA Ng;clear Ng;go_wp2
 all_goals (
  obtain⟨aB,NZ,SK⟩:=hlast.o;have hsz:=aB.size;refine aG (wL _ (w.heap.size+1) (.slice a3 (ws W0).length c3) x _ _ rfl (SK.set _ _ _)) rfl ⟨⟨.slice a3 (ws W0).length c3,?_,NZ.ou SK aj _ _ _⟩,dh aB hsz ae _ _ _⟩;rw[<-htA.o]
  first | rfl | simp[*])
theorem FN {w:World}{a b:Option Addr}{ca cb:Nat}(n m:Bool) (X Y:Nat) (e f:Int) (size lX lY lH cut H vF W0 Lf WH:Nat) (t bb z x y1 y2:Int) (tt:Bool)
 (AX:Arg w a (ws X).length ca (ws X)) (AY:Arg w b (ws Y).length cb (ws Y))
 (he0:-1048576<=e) (he1:e<=1048576) (hf0:-1048576<=f) (hf1:f<=1048576) (hs:size<=1000) (hlY:bl Y=lY) (hlX:bl X=lX) (hlH:bl H=lH) (bX:lX<=262144) (bY:lY<=262144) (bH:lH<=262144)
 (ht:(lY:Int)+(size:Int)-262144=t) (hcut:max t 0=(cut:Int)) (bcut:cut<=2000)
 (e1:bz Y (-(cut:Int))=(H,0)) (hbb:(lH:Int)+(size:Int)-(lX:Int)=bb) (e2:bz X bb=(vF,0)) (e3:qD vF H=(W0,Lf,0))
 (HL:Hid (∀ (u:World) (p q r s:Option Addr) (cp cq cr cs:Nat),Arg u p (ws W0).length cp (ws W0)->Arg u q (ws Lf).length cq (ws Lf)->Arg u r (ws Y).length cr (ws Y)->Arg u s (ws H).length cs (ws H)->Calls Tryz.prog 143 #[.slice p (ws W0).length cp,.slice q (ws Lf).length cq,.slice r (ws Y).length cr,.slice s (ws H).length cs,.int .i64 (cut:Nat)] u fun r w'=>r=.returned (.int .i64 z)/\Below u.heap.size u w'))
 (hz:decide (z<0)=true) (e4:qC W0 1=(WH,0))
 (h1:e-f=y1) (h2:y1-bb=y2) (h3:y2-(cut:Int)=x) (Ng:(decide (z=0)&&decide (0<=bb))=tt)
 (l1:(ws H).length<=8192) (l2:(ws vF).length<=8192) (l3:(ws W0).length<=8192) (l4:(ws Lf).length<=8192) (l5:(ws WH).length<=8192) :
 Calls Tryz.prog 104 #[.agg #[.bool n,.slice a (ws X).length ca,.int .i64 e,.bool m,.slice b (ws Y).length cb,.int .i64 f],.int .i64 (size:Nat)] w fun r w'=>(∃ v,r=.returned (.agg #[v,.int .i64 x,.bool tt])/\Nt w.heap.size w' v WH)/\Below w.heap.size w w':=by
 obtain⟨W1,hW1⟩:=ah ((w.alloc (.cells #[.bool n,.slice a (ws X).length ca,.int .i64 e,.bool m,.slice b (ws Y).length cb,.int .i64 f] 58)).alloc (.cells #[.slice none 0 0,.int .i64 0,.bool false] 125));obtain⟨hB,hz1,RQ,SK⟩:=Cg w n _ e m _ f W1 hW1;have FM:bz (val (ws Y)) (-(cut:Int))=(H,0):=by rw[ak];exact e1
 have e2':bz (val (ws X)) bb=(vF,0):=by rw[ak];exact e2
 have e3':qD (val (ws vF)) (val (ws H))=(W0,Lf,0):=by rw[ak,ak];exact e3
 have lY':bl (val (ws Y))=lY:=by rw[ak];exact hlY
 have lX':bl (val (ws X))=lX:=by rw[ak];exact hlX
 have lH':bl (val (ws H))=lH:=by rw[ak];exact hlH
 have E:=(jJ FM e2' e3' lY' lX' lH');have SZ:=(aP hz1 hB);have hs2:w.heap.size+2<=W1.heap.size:=ae
 have e4':qC (val (ws W0)) (val (ws 1))=(WH,0):=by rw[ak,ak];exact e4
 have E4:=aA e4';have l1s:(ws 1).length<=8192:=by rw[uU];simp
 clear e4 e4';have hbel:=hB;have S0:=(fO hbel (AX.below hB) (AY.below hB) RQ SK);clear hbel;clear e1 e2 e3 FM e2' e3' lY' lX' lH' hlY hlX hlH AX AY hB RQ SK hz1;go_enter Tryz.func104,Tryz.ntmps104
 go_upto_region 1 with fail
 rw[<-hW1];clear hW1;obtain⟨x0,x1,x2,x3,x4,x5⟩:=S0.o.r3.1.facts
 go_quiet (fail)
 clear x0 x1 x2 x3 x4 x5;generalize hV:World.drewN W1 _=V1;have hb:Below W1.heap.size W1 V1:=by rw[<-hV];exact Below.drewN' (aD _ _) _
 clear hV;obtain⟨aB,AX,AY,RQ,SK⟩:=S0.o;have hbn:=aB.trans (hb.mono aB.size);have S1:=fO hbn (AX.below hb) (AY.below hb) (RQ.below hb) (SK.below hb);clear aB AX AY RQ SK;clear hb hbn S0;obtain⟨aB,AX,AY,RQ,SK⟩:=S1.o;have HC:=hid (pz AY E.o.r3.1);clear aB AX AY RQ SK;go_wp2_with fail;refine HC.o.mono ?_;rintro r u2 ⟨rfl,hb⟩;clear HC;obtain⟨aB,AX,AY,RQ,SK⟩:=S1.o;have hbn:=aB.trans (hb.mono aB.size);have S2:=fO hbn (AX.below hb) (AY.below hb) (RQ.below hb) (SK.below hb);clear aB AX AY RQ SK;clear hb hbn S1;obtain⟨aB,AX,AY,RQ,SK⟩:=S2.o;have HC:=hid (gH (-(cut:Int)) AY E.o.1 ae ae);clear aB AX AY RQ SK;go_wp2_with fail;refine HC.o.mono ?_;rintro r u3 ⟨v,rfl,hN,hb⟩;obtain⟨a1,c1,rfl,_⟩:=hN.arg ae;clear HC;obtain⟨aB,AX,AY,RQ,SK⟩:=S2.o;have hbn:=aB.trans (hb.mono aB.size);have S3:=jJ hbn (AX.below hb) (AY.below hb) (RQ.below hb) (SK.below hb) (hN.mono aB.size);clear aB AX AY RQ SK;clear hb hbn S2;clear hN;obtain⟨aB,AX,AY,RQ,SK,NH⟩:=S3.o;have HC:=hid (pz (NH.aY ae).2 E.o.r5);clear aB AX AY RQ SK NH;go_wp2_with fail;refine HC.o.mono ?_;rintro r u4 ⟨rfl,hb⟩;clear HC;obtain⟨aB,AX,AY,RQ,SK,NH⟩:=S3.o;have hbn:=aB.trans (hb.mono aB.size);have S4:=jJ hbn (AX.below hb) (AY.below hb) (RQ.below hb) (SK.below hb) (NH.below hb);clear aB AX AY RQ SK NH;clear hb hbn S3;obtain⟨aB,AX,AY,RQ,SK,NH⟩:=S4.o;have HC:=hid (pz AX E.o.r4.1);clear aB AX AY RQ SK NH;go_wp2_with fail;refine HC.o.mono ?_;rintro r u5 ⟨rfl,hb⟩;clear HC;obtain⟨aB,AX,AY,RQ,SK,NH⟩:=S4.o;have hbn:=aB.trans (hb.mono aB.size);have S5:=jJ hbn (AX.below hb) (AY.below hb) (RQ.below hb) (SK.below hb) (NH.below hb);clear aB AX AY RQ SK NH;clear hb hbn S4;obtain⟨aB,AX,AY,RQ,SK,NH⟩:=S5.o;have HC:=hid (gH bb AX E.o.2.1 ae ae);clear aB AX AY RQ SK NH;go_wp2_with fail;refine HC.o.mono ?_;rintro r u6 ⟨v,rfl,hN,hb⟩;obtain⟨a2,c2,rfl,_⟩:=hN.arg ae;clear HC;obtain⟨aB,AX,AY,RQ,SK,NH⟩:=S5.o;have hbn:=aB.trans (hb.mono aB.size);have S6:=nU hbn (AX.below hb) (AY.below hb) (RQ.below hb) (SK.below hb) (NH.below hb) (hN.mono aB.size);clear aB AX AY RQ SK NH;clear hb hbn S5;clear hN;obtain⟨aB,AX,AY,RQ,SK,NH,NV⟩:=S6.o;have HC:=hid (KL (NV.aY ae).2 (NH.aY ae).2 E.o.r2.1);clear aB AX AY RQ SK NH NV;go_wp2_with fail;refine HC.o.mono ?_;rintro r u7 ⟨v,v2,rfl,hN,hM,hb⟩;obtain⟨a3,c3,rfl,_⟩:=hN.arg ae;obtain⟨a4,c4,rfl,_⟩:=hM.arg ae;clear HC;obtain⟨aB,AX,AY,RQ,SK,NH,NV⟩:=S6.o;have hbn:=aB.trans (hb.mono aB.size);have S7:=uI hbn (AX.below hb) (AY.below hb) (RQ.below hb) (SK.below hb) (NH.below hb) (hN.mono aB.size) (hM.mono aB.size);clear aB AX AY RQ SK NH NV;clear hb hbn S6;clear hN hM;obtain⟨aB,AX,AY,RQ,SK,NH,NW,NL⟩:=S7.o;have HC:=hid (HL.o u7 _ _ _ _ _ _ _ _ (NW.aY ae).2 (NL.aY ae).2 AY (NH.aY ae).2);clear aB AX AY RQ SK NH NW NL;go_wp2_with fail;refine HC.o.mono ?_;rintro r u8 ⟨rfl,hb⟩;clear HC;obtain⟨aB,AX,AY,RQ,SK,NH,NW,NL⟩:=S7.o;have hbn:=aB.trans (hb.mono aB.size);have S8:=uI hbn (AX.below hb) (AY.below hb) (RQ.below hb) (SK.below hb) (NH.below hb) (NW.below hb) (NL.below hb);clear aB AX AY RQ SK NH NW NL;clear hb hbn S7;obtain⟨aB,AX,AY,RQ,SK,NH,NW,NL⟩:=S8.o;have HC:=hid (r9 1 u8 ae);clear aB AX AY RQ SK NH NW NL;go_wp2_with fail;refine HC.o.mono ?_;rintro r u9 ⟨v,rfl,hN,hb⟩;obtain⟨a5,c5,rfl,_⟩:=hN.arg ae;clear HC;obtain⟨aB,AX,AY,RQ,SK,NH,NW,NL⟩:=S8.o;have hbn:=aB.trans (hb.mono aB.size);have S9:=XP hbn (AX.below hb) (AY.below hb) (RQ.below hb) (SK.below hb) (NH.below hb) (NW.below hb) (NL.below hb) (hN.mono aB.size);clear aB AX AY RQ SK NH NW NL;clear hb hbn S8;clear hN;obtain⟨aB,AX,AY,RQ,SK,NH,NW,NL,NO⟩:=S9.o;have HC:=hid (xO (NW.aY ae).2 (NO.aY ae).2 E4.o);clear aB AX AY RQ SK NH NW NL NO;go_wp2_with fail;refine HC.o.mono ?_;rintro r u10 ⟨v,rfl,hN,hb⟩;obtain⟨a6,c6,rfl,_⟩:=hN.arg ae;clear HC;obtain⟨aB,AX,AY,RQ,SK,NH,NW,NL,NO⟩:=S9.o;have hbn:=aB.trans (hb.mono aB.size);have Ha:=Cs hbn (AX.below hb) (AY.below hb) (RQ.below hb) (SK.below hb) (NH.below hb) (NW.below hb) (NL.below hb) (NO.below hb) (hN.mono aB.size);clear aB AX AY RQ SK NH NW NL NO;clear hb hbn S9;clear hN;obtain⟨aB,AX,AY,RQ,SK,NH,NW,NL,NO,NR⟩:=Ha.o;have hlast:=dC aB NR SK;obtain⟨x0,x1,x2,x3,x4,x5⟩:=RQ.facts;obtain⟨s0,s1,s2,uZ,ve,vg⟩:=SK.facts;have hsz:=aA (SK.lt);clear aB AX AY RQ SK NH NW NL NO NR;clear Ha E HL;have htA:=aA Ng;clear Ng;go_wp2
 all_goals (
  obtain⟨aB,NZ,SK⟩:=hlast.o;have hsz:=aB.size;refine aG (wL _ (w.heap.size+1) (.slice a6 (ws WH).length c6) x _ _ rfl (SK.set _ _ _)) rfl ⟨⟨.slice a6 (ws WH).length c6,?_,NZ.ou SK aj _ _ _⟩,dh aB hsz ae _ _ _⟩;rw[<-htA.o]
  first | rfl | simp[*])
theorem il{X:Nat}(h:bl X<=262144):¬ LG X:=fun k=>by have:=(wE X).1 k;omega
theorem Ox{X Y V:Nat}(h1:¬ LG X)(h2:¬ LG Y)(h3:¬ LG V)(e:X*Y=V):lJ X Y=(V,0):=by subst e;unfold lJ;rw[if_neg (by simp[h1,h2]),if_neg h3]
theorem cZ{X:Nat}(h:bl X<=262144):(ws X).length<=8192:=by have:=il h;unfold LG at this;omega
theorem gI{X k:Nat}(h:X<2^k):bl X<=k:=by
 by_cases h0:X=0
 · subst h0;rw[dZ];omega
 · have:=(ku (a:=2) aj).1 (iP (iU X h0) h);have:=eu X h0;omega
theorem ow{X Y:Nat}(h:X<=Y)(k:bl Y<=262144):bl X<=262144:=by
 have:=gI (iP h (iT Y));omega
theorem FO(x y:Nat):decide (bJ x y<0)=decide (x<y):=by
 unfold bJ
 by_cases h:x<y
 · simp[h]
 · by_cases h2:y<x <;> simp[h,h2]
theorem RP(x y:Nat):decide (bJ x y=0)=decide (x=y):=by
 unfold bJ
 by_cases h:x<y
 · have:x≠y:=ae
   simp[h,this]
 · by_cases h2:y<x
   · have:x≠y:=ae
     simp[h,h2,this]
   · have:x=y:=ae
     simp[this]
theorem Ch {w:World}{a b:Option Addr}{ca cb:Nat}(n m:Bool) (X Y:Nat) (e f:Int) (size:Nat)
 (AX:Arg w a (ws X).length ca (ws X)) (AY:Arg w b (ws Y).length cb (ws Y)) (hX:X=0\/X%2=1) (hY:Y≠0)
 (he0:-1048576<=e) (he1:e<=1048576) (hf0:-1048576<=f) (hf1:f<=1048576) (hs0:1<=size) (hs:size<=1000) (bX:bl X<=262144) (bY:bl Y<=262144) :
 Calls Tryz.prog 104 #[.agg #[.bool n,.slice a (ws X).length ca,.int .i64 e,.bool m,.slice b (ws Y).length cb,.int .i64 f],.int .i64 (size:Nat)] w fun r w'=>(∃ v,r=.returned (.agg #[v,.int .i64 (e-f-mZ X Y size-gP Y size),.bool (qH X Y size)])/\Nt w.heap.size w' v (fA X Y size))/\Below w.heap.size w w':=by
 have D:=jd X Y size hX hY hs0 hs bX bY;have yV:=eu Y hY;have cutb:gP Y size<=1000/\gP Y size<bl Y:=by unfold gP;omega
 have bH:bl (jV Y size)<=262144:=by have:=D.X6;omega
 have hHc:bl (jV Y size)+size<=262144\/gP Y size=0:=by have:=D.X6;unfold gP at *;omega
 have hbyb:-262144<=mZ X Y size/\mZ X Y size<=264000:=by unfold mZ;omega
 have Zu:bl (rC X Y size)<=262144:=by
  have:=gI D.vF;have h2:bl (jV Y size)+size<=262144:=by have:=D.X6;unfold gP at this;omega
  omega
 have bW0:bl (oq X Y size)<=262144:=by have:=gI D.w0;omega
 have bLf:bl (rD X Y size)<=262144:=ow (jm D.lef) bH;have e1:bz Y (-((gP Y size:Nat):Int))=(jV Y size,0):=vG (il bY) rfl
 have e2:bz X (mZ X Y size)=(rC X Y size,0):=by
  by_cases hb:mZ X Y size<0
  · have:=vG (X:=X) (k:=(-mZ X Y size).toNat) (V:=rC X Y size) (il bX) (by unfold rC;rw[if_pos hb]);rw[show -(((-mZ X Y size).toNat:Nat):Int)=mZ X Y size by omega] at this;exact this
  · have:=q9 (X:=X) (k:=(mZ X Y size).toNat) (V:=rC X Y size) (il bX) (by
     by_cases h0:X=0
     · exact .inl h0
     · right
       have h2:bl (jV Y size)+size<=262144:=by have:=D.X6;unfold gP at this;omega
       unfold mZ at *;omega) (by unfold rC;rw[if_neg hb])
    rw[show(((mZ X Y size).toNat:Nat):Int)=mZ X Y size by omega] at this;exact this
 have e3:qD (rC X Y size) (jV Y size)=(oq X Y size,rD X Y size,0):=Wo (il Zu) (il bH) D.hig rfl rfl
 -- what cmpLow is asked
 have hYHb:jV Y size*2^gP Y size<=Y:=D.low';have bBk:bl (jV Y size*2^gP Y size)<=262144:=ow hYHb bY;have bLo:bl (FK Y size)<=262144:=ow (Bp _ _) bY
 have bTk:bl (qG X Y size)<=262144:=by
  have h1:qG X Y size<2^(size+1+gP Y size):=by
   unfold qG;rw[aJ];exact rH D.w0 D.lowlt
  have:=gI h1;omega
 have bHs:bl (sH X Y size)<=262144:=by
  refine ow (Y:=Y) (dW ?_ hYHb) bY;exact eZ _ (jm D.lef)
 have c1:bz (jV Y size) ((gP Y size:Nat):Int)=(jV Y size*2^gP Y size,0):=q9 (il bH) (.inr (by have:=D.X6;omega)) rfl;have c2:qC Y (jV Y size*2^gP Y size)=(FK Y size,0):=xQ (il bY) (il bBk) (by unfold FK;omega);have c3:lJ (oq X Y size) (FK Y size)=(qG X Y size,0):=Ox (il bW0) (il bLo) (il bTk) rfl
 have c4:bz (rD X Y size) ((gP Y size:Nat):Int)=(sH X Y size,0):=q9 (il bLf) (by
  by_cases h0:rD X Y size=0
  · exact .inl h0
  · right
    have hlt:rD X Y size<=jV Y size:=jm D.lef;have:=gI (iP hlt (iT (jV Y size)));have:=D.X6
    omega) rfl
 have HC:Hid (∀ (u:World) (p q r s:Option Addr) (cp cq cr cs:Nat),Arg u p (ws (oq X Y size)).length cp (ws (oq X Y size))->Arg u q (ws (rD X Y size)).length cq (ws (rD X Y size))->Arg u r (ws Y).length cr (ws Y)->Arg u s (ws (jV Y size)).length cs (ws (jV Y size))->Calls Tryz.prog 143 #[.slice p (ws (oq X Y size)).length cp,.slice q (ws (rD X Y size)).length cq,.slice r (ws Y).length cr,.slice s (ws (jV Y size)).length cs,.int .i64 ((gP Y size:Nat):Int)] u fun r w'=>r=.returned (.int .i64 (bJ (sH X Y size) (qG X Y size)))/\Below u.heap.size u w') :=
  fun u p q r s cp cq cr cs A1 A2 A3 A4=>Ji _ _ _ _ (gP Y size) _ _ _ _ _ A1 A2 A3 A4 ae c1 c2 c3 c4 rfl (cZ bBk) (cZ bLo) (cZ bTk) (cZ bHs)
 have Ng:(decide (bJ (sH X Y size) (qG X Y size)=0)&&decide (0<=mZ X Y size))=qH X Y size:=by rw[RP];rfl
 have hcut:max ((bl Y:Int)+(size:Int)-262144) 0=((gP Y size:Nat):Int):=by unfold gP;omega
 by_cases hlt:sH X Y size<qG X Y size
 · have hz:decide (bJ (sH X Y size) (qG X Y size)<0)=true:=by rw[FO];exact decide_eq_true hlt
   have e4:qC (oq X Y size) 1=(fA X Y size,0):=by
    refine xQ (il bW0) (il aj) ?_;have:=D.less hlt;unfold fA;rw[if_pos hlt];omega
   exact FN n m X Y e f size (bl X) (bl Y) (bl (jV Y size)) (gP Y size) (jV Y size) (rC X Y size) (oq X Y size) (rD X Y size) (fA X Y size) _ (mZ X Y size) _ _ _ _ (qH X Y size) AX AY he0 he1 hf0 hf1 hs rfl rfl rfl bX bY bH rfl hcut ae e1 rfl e2 e3 HC hz e4 rfl rfl rfl Ng (cZ bH) (cZ Zu) (cZ bW0) (cZ bLf) (cZ (ow (Y:=oq X Y size) (by unfold fA;rw[if_pos hlt];omega) bW0))
 · have hz:decide (bJ (sH X Y size) (qG X Y size)<0)=false:=by rw[FO];exact decide_eq_false hlt
   have eW:fA X Y size=oq X Y size:=by unfold fA;rw[if_neg hlt]
   rw[eW];exact FL n m X Y e f size (bl X) (bl Y) (bl (jV Y size)) (gP Y size) (jV Y size) (rC X Y size) (oq X Y size) (rD X Y size) 0 _ (mZ X Y size) _ _ _ _ (qH X Y size) AX AY he0 he1 hf0 hf1 hs rfl rfl rfl bX bY bH rfl hcut ae e1 rfl e2 e3 HC hz rfl rfl rfl Ng (cZ bH) (cZ Zu) (cZ bW0) (cZ bLf)
theorem zy(W:World)(g:Nat)(n:Bool)(v:Value)(e k:Int)(tmps:Array Value)(ht:tmps[4]?.getD undef=.pointer (some ⟨g,0,none⟩))(hk:tmps[5]?.getD undef=.int .i64 k)(D:Tk W g 25 (.bool n) v (.int .i64 e)) :
 (results Tryz.f103 tmps).run Tryz.prog W=.ok (.tuple #[.agg #[.bool n,v,.int .i64 e],.int .i64 k]) W:=by
 obtain⟨x0,x1,x2,_,_,_⟩:=D.facts;simp[results,Tryz.results103,ht,hk,go_sem,x0,x1,x2]
theorem Ci(w:World)(v:Value)(x:Int)(t:Bool)(W:World)(hW:W=(w.alloc (.cells #[v,.int .i64 x,.bool t] 125)).alloc (.cells zD3 25)) :
 Below w.heap.size w W/\W.heap.size=w.heap.size+2/\Tk W w.heap.size 125 v (.int .i64 x) (.bool t)/\Tk W (w.heap.size+1) 25 (.bool false) (.slice none 0 0) (.int .i64 0):=by
 rw[hW];refine⟨(af w _).alloc aQ _,aQ,(Tk.new _ _ _ _ _).alloc _,?_⟩;have:=Tk.new (w.alloc (.cells #[v,.int .i64 x,.bool t] 125)) 25 (.bool false) (.slice none 0 0) (.int .i64 0);simpa using this
theorem Jj {w:World}{a:Option Addr}{ca:Nat}(n:Bool) (W M2 M3:Nat) (x y E:Int) (dn:Bool) (V:Nat) (de er:Int) (AW:Arg w a (ws W).length ca (ws W)) (hx0:-10000000<=x) (hx1:x<=10000000)
 (e1:bz W 1=(M2,0)) (hy:x-1=y) (hE:min (max y (-4096)) 4096=E) (l2:(ws M2).length<=8192) (lV:(ws V).length<=8192)
 (HM:Hid (∀ (u:World) (p:Option Addr) (q:Nat),Below w.heap.size w u->Arg u p (ws M2).length q (ws M2)->Calls Tryz.prog 90 #[.bool n,.slice p (ws M2).length q,.int .i64 E] u fun r w'=>(∃ v,r=.returned (.tuple #[.agg #[.bool dn,v,.int .i64 de],.int .i64 er])/\Nt u.heap.size w' v V)/\Below u.heap.size u w')) :
 Calls Tryz.prog 103 #[.bool n,.agg #[.slice a (ws W).length ca,.int .i64 x,.bool true]] w fun r w'=>(∃ v,r=.returned (.tuple #[.agg #[.bool dn,v,.int .i64 de],.int .i64 er])/\Nt w.heap.size w' v V)/\Below w.heap.size w w':=by
 obtain⟨W1,hW1⟩:=ah ((w.alloc (.cells #[.slice a (ws W).length ca,.int .i64 x,.bool true] 125)).alloc (.cells zD3 25));obtain⟨hB,hz1,SK,DK⟩:=Ci w _ x true W1 hW1;have FM:bz (val (ws W)) 1=(M2,0):=by rw[ak];exact e1
 have E1:=aA FM;have hs2:w.heap.size+2<=W1.heap.size:=ae
 have l1s:(ws 1).length<=8192:=by rw[uU];simp
 have hbel:=hB;have S0:=(ic hbel (AW.below hB) SK DK);clear hbel;clear e1 FM AW hB SK DK hz1;go_enter Tryz.func103,Tryz.ntmps103;obtain⟨x0,x1,x2,_,_,_⟩:=S0.o.r2.1.facts;obtain⟨aB,AW,SK,DK⟩:=S0.o;have HC:=hid (gH 1 AW E1.o ae ae);clear aB AW SK DK
 go_upto_region 1 with fail
 rw[<-hW1];clear hW1;go_wp2_with fail;clear x0 x1 x2;refine HC.o.mono ?_;rintro r u1 ⟨v,rfl,hN,hb⟩;obtain⟨a1,c1,rfl,_⟩:=hN.arg ae;clear HC;obtain⟨aB,AW,SK,DK⟩:=S0.o;have hbn:=aB.trans (hb.mono aB.size);have S1:=fO hbn (AW.below hb) (SK.below hb) (DK.below hb) (hN.mono aB.size);clear aB AW SK DK;clear hb hbn S0;clear hN;obtain⟨x0,x1,x2,_,_,_⟩:=S1.o.r2.1.facts;obtain⟨aB,AW,SK,DK,N2⟩:=S1.o;have HC:=hid (HM.o u1 _ _ aB (N2.aY ae).2);clear aB AW SK DK N2;go_wp2_with fail;clear x0 x1 x2;refine HC.o.mono ?_;rintro r u2 ⟨⟨v,rfl,hN⟩,hb⟩;obtain⟨a7,c7,rfl,_⟩:=hN.arg ae;clear HC;obtain⟨aB,AW,SK,DK,N2⟩:=S1.o;have hbn:=aB.trans (hb.mono aB.size);have S2:=jJ hbn (AW.below hb) (SK.below hb) (DK.below hb) (N2.below hb) (hN.mono aB.size);clear aB AW SK DK N2;clear hb hbn S1;clear hN;obtain⟨aB,AW,SK,DK,N2,NV⟩:=S2.o;have hlast:=dC aB NV DK;obtain⟨s0,s1,s2,uZ,ve,vg⟩:=DK.facts;clear aB AW SK DK N2 NV;clear S2 HM;go_wp2;obtain⟨aB,NZ,DK⟩:=hlast.o;have hsz:=aB.size;exact aG (zy _ (w.heap.size+1) dn (.slice a7 (ws V).length c7) de er _ rfl rfl (DK.set _ _ _)) rfl ⟨⟨_,rfl,NZ.ou DK aj _ _ _⟩,dh aB hsz ae _ _ _⟩
theorem Oy {w:World}{a:Option Addr}{ca:Nat}(n:Bool) (W M2 M3:Nat) (x y E:Int) (dn:Bool) (V:Nat) (de er:Int) (AW:Arg w a (ws W).length ca (ws W)) (hx0:-10000000<=x) (hx1:x<=10000000)
 (e1:bz W 1=(M2,0)) (e2:wZ M2 1=(M3,0)) (hy:x-1=y) (hE:min (max y (-4096)) 4096=E) (l2:(ws M2).length<=8192) (l3:(ws M3).length<=8192) (lV:(ws V).length<=8192)
 (HM:Hid (∀ (u:World) (p:Option Addr) (q:Nat),Below w.heap.size w u->Arg u p (ws M3).length q (ws M3)->Calls Tryz.prog 90 #[.bool n,.slice p (ws M3).length q,.int .i64 E] u fun r w'=>(∃ v,r=.returned (.tuple #[.agg #[.bool dn,v,.int .i64 de],.int .i64 er])/\Nt u.heap.size w' v V)/\Below u.heap.size u w')) :
 Calls Tryz.prog 103 #[.bool n,.agg #[.slice a (ws W).length ca,.int .i64 x,.bool false]] w fun r w'=>(∃ v,r=.returned (.tuple #[.agg #[.bool dn,v,.int .i64 de],.int .i64 er])/\Nt w.heap.size w' v V)/\Below w.heap.size w w':=by
 obtain⟨W1,hW1⟩:=ah ((w.alloc (.cells #[.slice a (ws W).length ca,.int .i64 x,.bool false] 125)).alloc (.cells zD3 25));obtain⟨hB,hz1,SK,DK⟩:=Ci w _ x false W1 hW1;have FM:bz (val (ws W)) 1=(M2,0):=by rw[ak];exact e1
 have e2':wZ (val (ws M2)) (val (ws 1))=(M3,0):=by rw[ak,ak];exact e2
 have E2:=aA e2';clear e2 e2';have E1:=aA FM;have hs2:w.heap.size+2<=W1.heap.size:=ae
 have l1s:(ws 1).length<=8192:=by rw[uU];simp
 have hbel:=hB;have S0:=(ic hbel (AW.below hB) SK DK);clear hbel;clear e1 FM AW hB SK DK hz1;go_enter Tryz.func103,Tryz.ntmps103;obtain⟨x0,x1,x2,_,_,_⟩:=S0.o.r2.1.facts;obtain⟨aB,AW,SK,DK⟩:=S0.o;have HC:=hid (gH 1 AW E1.o ae ae);clear aB AW SK DK
 go_upto_region 1 with fail
 rw[<-hW1];clear hW1;go_wp2_with fail;clear x0 x1 x2;refine HC.o.mono ?_;rintro r u1 ⟨v,rfl,hN,hb⟩;obtain⟨a1,c1,rfl,_⟩:=hN.arg ae;clear HC;obtain⟨aB,AW,SK,DK⟩:=S0.o;have hbn:=aB.trans (hb.mono aB.size);have S1:=fO hbn (AW.below hb) (SK.below hb) (DK.below hb) (hN.mono aB.size);clear aB AW SK DK;clear hb hbn S0;clear hN;obtain⟨x0,x1,x2,_,_,_⟩:=S1.o.r2.1.facts;obtain⟨aB,AW,SK,DK,N2⟩:=S1.o;have HC:=hid (r9 1 u1 ae);clear aB AW SK DK N2;go_wp2_with fail;clear x0 x1 x2;refine HC.o.mono ?_;rintro r u2 ⟨v,rfl,hN,hb⟩;obtain⟨a5,c5,rfl,_⟩:=hN.arg ae;clear HC;obtain⟨aB,AW,SK,DK,N2⟩:=S1.o;have hbn:=aB.trans (hb.mono aB.size);have S2:=jJ hbn (AW.below hb) (SK.below hb) (DK.below hb) (N2.below hb) (hN.mono aB.size);clear aB AW SK DK N2;clear hb hbn S1;clear hN;obtain⟨aB,AW,SK,DK,N2,NO⟩:=S2.o;have HC:=hid (xN (N2.aY ae).2 (NO.aY ae).2 E2.o);clear aB AW SK DK N2 NO;go_wp2_with fail;refine HC.o.mono ?_;rintro r u3 ⟨v,rfl,hN,hb⟩;obtain⟨a6,c6,rfl,_⟩:=hN.arg ae;clear HC;obtain⟨aB,AW,SK,DK,N2,NO⟩:=S2.o;have hbn:=aB.trans (hb.mono aB.size);have S3:=nU hbn (AW.below hb) (SK.below hb) (DK.below hb) (N2.below hb) (NO.below hb) (hN.mono aB.size);clear aB AW SK DK N2 NO;clear hb hbn S2;clear hN;obtain⟨x0,x1,x2,_,_,_⟩:=S3.o.r2.1.facts;obtain⟨aB,AW,SK,DK,N2,NO,N3⟩:=S3.o;have HC:=hid (HM.o u3 _ _ aB (N3.aY ae).2);clear aB AW SK DK N2 NO N3;go_wp2_with fail;clear x0 x1 x2;refine HC.o.mono ?_;rintro r u4 ⟨⟨v,rfl,hN⟩,hb⟩;obtain⟨a7,c7,rfl,_⟩:=hN.arg ae;clear HC;obtain⟨aB,AW,SK,DK,N2,NO,N3⟩:=S3.o;have hbn:=aB.trans (hb.mono aB.size);have S4:=uI hbn (AW.below hb) (SK.below hb) (DK.below hb) (N2.below hb) (NO.below hb) (N3.below hb) (hN.mono aB.size);clear aB AW SK DK N2 NO N3;clear hb hbn S3;clear hN;obtain⟨aB,AW,SK,DK,N2,NO,N3,NV⟩:=S4.o;have hlast:=dC aB NV DK;obtain⟨s0,s1,s2,uZ,ve,vg⟩:=DK.facts;clear aB AW SK DK N2 NO N3 NV;clear S4 HM;go_wp2;obtain⟨aB,NZ,DK⟩:=hlast.o;have hsz:=aB.size;exact aG (zy _ (w.heap.size+1) dn (.slice a7 (ws V).length c7) de er _ rfl rfl (DK.set _ _ _)) rfl ⟨⟨_,rfl,NZ.ou DK aj _ _ _⟩,dh aB hsz ae _ _ _⟩
theorem zz{w:World}{a:Option Addr}{ca:Nat}(n:Bool)(W:Nat)(x:Int)(t:Bool)(AW:Arg w a (ws W).length ca (ws W))(hT:dU w)(hx0:-10000000<=x)(hx1:x<=10000000)(hW:bl W<=1000) :
 Calls Tryz.prog 103 #[.bool n,.agg #[.slice a (ws W).length ca,.int .i64 x,.bool t]] w fun r w'=>dm w.heap.size w' r (mkS n (2*W+(if t then 0 else 1)) (fP x))/\Below w.heap.size w w':=by
 have hLW:¬ LG W:=fun k=>by have:=(wE W).1 k;omega
 have e1:bz W 1=(2*W,0):=by
  have:=q9 (X:=W) (k:=1) (V:=2*W) hLW (.inr ae) ae;simpa using this
 have b2:∀ d,d<=1->bl (2*W+d)<=1001:=by
  intro d hd;have h1:=iT W;have h2:2*W+d<2^(bl W+1):=by rw[fC];omega
  by_cases h0:2*W+d=0
  · rw[h0,dZ];omega
  · have:=(ku (a:=2) aj).1 (iP (iU _ h0) h2);have:=eu _ h0;omega
 have l8:∀ d,d<=1->(ws (2*W+d)).length<=8192/\¬ LG (2*W+d):=by
  intro d hd;have hb:=b2 d hd;have hn:¬ LG (2*W+d):=fun k=>by have:=(wE (2*W+d)).1 k;omega
  exact⟨by unfold LG at hn;omega,hn⟩
 have cl0:-4096<=fP x/\fP x<=4096:=by unfold fP;omega
 unfold dm;have hl:=aR n (2*W+(if t then 0 else 1)) (fP x)
 cases t with
 | true =>
   simp only[if_true,fT] at hl |-;refine Jj n W (2*W) 0 x _ _ _ _ _ _ AW hx0 hx1 e1 rfl rfl (l8 0 ae).1 hl ?_;intro u p q hu hA;have:=iV hA (hT.belows hu) n (fP x) ae ae;rw[ak] at this;exact this
 | false =>
   simp only[fJ,if_false] at hl |-;refine Oy n W (2*W) (2*W+1) x _ _ _ _ _ _ AW hx0 hx1 e1 (xP (l8 1 ae).2 rfl) rfl rfl (l8 0 ae).1 (l8 1 ae).1 hl ?_;intro u p q hu hA;have:=iV hA (hT.belows hu) n (fP x) ae ae;rw[ak] at this;exact this
end
end Go.Proofs.YtfmfhehbdfhnbaaGreatDoor
