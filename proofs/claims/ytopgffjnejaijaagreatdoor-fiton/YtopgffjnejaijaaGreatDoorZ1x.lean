import Derived.Test.YtopgffjnejaijaaGreatDoorM1x
import Derived.Test.YtopgffjnejaijaaGreatDoorW24x
import Derived.Laws.IdiomStrings
import Derived.Test.YtopgffjnejaijaaGreatDoorBIeeex
import Derived.Test.YtopgffjnejaijaaGreatDoorS11ax
import Derived.Test.YtopgffjnejaijaaGreatDoorD14x
import Derived.BigQuiet
import Derived.Deep.Cut
import Derived.Deep.RegionHeld3
set_option linter.unusedVariables false
set_option linter.unusedSimpArgs false
set_option maxHeartbeats 16000000
set_option maxRecDepth 20000
namespace Go.Proofs.YtopgffjnejaijaaGreatDoor
section
open Go.RowKit
theorem pow_lt_iff {n a b:Nat}(hn:0<n):a^n<b^n↔a<b:=Nat.pow_lt_pow_iff_left (by omega)
theorem pow_inj_iff {n a b:Nat}(hn:0<n):a^n=b^n↔a=b:=by
 constructor
 · intro h
   rcases Nat.lt_trichotomy a b with k|k|k
   · have:=(pow_lt_iff hn).2 k;omega
   · exact k
   · have:=(pow_lt_iff hn).2 k;omega
 · intro h;rw [h]
structure Grid (v:Nat→Nat) (top:Nat):Prop where
 one:1<top
 zero:v 0=0
 mono:∀ {k l},k<l→v k<v l
 step:∀ k,k<top→∃ c j,v k=c*2^j∧v (k+1)=(c+1)*2^j∧c<9007199254740992∧j≤2045
structure LiesG (v:Nat→Nat) (top n:Nat) (K:Nat) (t:Bool) (m:Int) (V S:Nat):Prop where
 fin:K<top
 pos:0<S
 one:t=true→V=v K^n*S
 low:t=false→v K^n*S<V
 mids:t=false→V<v (K+1)^n*S→(m=-1∧2^n*V<(v K+v (K+1))^n*S∨m=0∧2^n*V=(v K+v (K+1))^n*S∨m=1∧(v K+v (K+1))^n*S<2^n*V)
 high:t=false→V<v (K+1)^n*S∨(K+1=top∧m=1)
def Alike (n P Q V S:Nat):Prop:=∀ c j,c≤18014398509481984→j≤2046→((c*2^j)*Q<2*P↔(c*2^j)^n*S<2^n*V)∧((c*2^j)*Q=2*P↔(c*2^j)^n*S=2^n*V)
theorem two_mul_pow (n a S V:Nat):((2*a)^n*S<2^n*V↔a^n*S<V)∧((2*a)^n*S=2^n*V↔a^n*S=V):=by
 have h:(2*a)^n*S=2^n*(a^n*S):=by rw [Nat.mul_pow,Nat.mul_assoc]
 have hp:0<2^n:=Nat.two_pow_pos n;rw [h];exact ⟨Nat.mul_lt_mul_left hp,⟨fun h=>Nat.eq_of_mul_eq_mul_left hp h,fun h=>by rw [h]⟩⟩
theorem LiesG.of_alike {v:Nat→Nat}{top n K:Nat}{t:Bool}{m:Int}{P Q V S:Nat}(G:Grid v top) (hn:0<n) (h:LiesG v top 1 K t m P Q) (hS:0<S) (hA:Alike n P Q V S):LiesG v top n K t m V S:=by
 obtain ⟨c,j,e1,e2,hc,hj⟩:=G.step K h.fin;have a1:=hA (2*c) j (by omega) (by omega)
 have a2:=hA (2*(c+1)) j (by omega) (by omega)
 have a3:=hA (2*c+1) j (by omega) (by omega)
 have g1:2*c*2^j=2*v K:=by rw [e1,Nat.mul_assoc]
 have g2:2*(c+1)*2^j=2*v (K+1):=by rw [e2,Nat.mul_assoc]
 have g3:(2*c+1)*2^j=v K+v (K+1):=by rw [e1,e2,←Nat.add_mul];congr 1;omega
 rw [g1] at a1;rw [g2] at a2;rw [g3] at a3;have b1:=two_mul_pow n (v K) S V;have b2:=two_mul_pow n (v (K+1)) S V;rw [b1.1,b1.2] at a1;rw [b2.1,b2.2] at a2;have d1:2*v K*Q=2*(v K*Q):=Nat.mul_assoc _ _ _;have d2:2*v (K+1)*Q=2*(v (K+1)*Q):=Nat.mul_assoc _ _ _;rw [d1] at a1;rw [d2] at a2;have h1:=h.one;have h2:=h.low;have h3:=h.mids;have h4:=h.high;simp only [Nat.pow_one] at h1 h2 h3 h4;generalize v K*Q=A at *;generalize v (K+1)*Q=B at *;generalize (v K+v (K+1))*Q=C at *
 have ge:∀ {x y x' y':Nat},((x<y↔x'<y')∧(x=y↔x'=y'))→(y<x↔y'<x'):=by
  intro x y x' y' ⟨p,q⟩
  constructor
  · intro hh
    rcases Nat.lt_trichotomy x' y' with k|k|k
    · have:=p.2 k;omega
    · have:=q.2 k;omega
    · exact k
  · intro hh
    rcases Nat.lt_trichotomy x y with k|k|k
    · have:=p.1 k;omega
    · have:=q.1 k;omega
    · exact k
 have a2':=ge a2;have a3':=ge a3;refine ⟨h.fin,hS,fun ht=>?_,fun ht=>?_,fun ht hlt=>?_,fun ht=>?_⟩
 · have:=h1 ht
   exact (a1.2.1 (by omega)).symm
 · exact a1.1.1 (by have:=h2 ht;omega)
 · have hb:P<B:=by have:=a2'.2 hlt;omega
   rcases h3 ht hb with ⟨q,r⟩|⟨q,r⟩|⟨q,r⟩
   · exact .inl ⟨q,a3'.1 r⟩
   · exact .inr (.inl ⟨q,(a3.2.1 r.symm).symm⟩)
   · exact .inr (.inr ⟨q,a3.1.1 r⟩)
 · rcases h4 ht with q | q
   · exact .inl (a2'.1 (by omega))
   · exact .inr q
theorem alike_span (n R p q V S d:Nat) (hn:0<n) (hS:0<S) (hR:9007199254740992≤R) (hd:d≤1)
 (h0:d=0→V*(2^q)^n=(R*2^p)^n*S) (h1:d=1→(R*2^p)^n*S<V*(2^q)^n∧V*(2^q)^n<((R+1)*2^p)^n*S) :
 Alike n ((2*R+d)*2^p) (2*2^q) V S:=by
 intro c j hc hj;have hq:0<(2^q)^n:=Nat.pow_pos (Nat.two_pow_pos q)
 -- both sides times 2^q
 have f1:(c*2^j)^n*S<2^n*V↔(c*2^(j+q))^n*S<2^n*(V*(2^q)^n):=by
  rw [←Nat.mul_lt_mul_right hq]
  have:(c*2^j)^n*S*(2^q)^n=(c*2^(j+q))^n*S:=by
   rw [Nat.mul_right_comm,←Nat.mul_pow,Nat.mul_assoc c,←Nat.pow_add]
  rw [this,Nat.mul_assoc]
 have f2:(c*2^j)^n*S=2^n*V↔(c*2^(j+q))^n*S=2^n*(V*(2^q)^n):=by
  have e:(c*2^j)^n*S*(2^q)^n=(c*2^(j+q))^n*S:=by
   rw [Nat.mul_right_comm,←Nat.mul_pow,Nat.mul_assoc c,←Nat.pow_add]
  rw [←e,←Nat.mul_assoc (2^n)];exact ⟨fun h=>by rw [h],fun h=>Nat.eq_of_mul_eq_mul_right hq h⟩
 have f3:c*2^j*(2*2^q)=2*(c*2^(j+q)):=by rw [Nat.pow_add,←Nat.mul_assoc c,Nat.mul_left_comm]
 rw [f1,f2,f3];generalize V*(2^q)^n=U at *;have g0:∀ a:Nat,(2*a)^n*S=2^n*(a^n*S):=fun a=>by rw [Nat.mul_pow,Nat.mul_assoc]
 have hp2:0<2^n:=Nat.two_pow_pos n;have hlt2:(c*2^(j+q)<(2*R+d)*2^p↔2*(c*2^(j+q))<2*((2*R+d)*2^p)):=by omega
 have heq2:(c*2^(j+q)=(2*R+d)*2^p↔2*(c*2^(j+q))=2*((2*R+d)*2^p)):=by omega
 rw [←hlt2,←heq2]
 -- powers times S
 have L:∀ a b:Nat,(a^n*S<b^n*S↔a<b):=fun a b=>by rw [Nat.mul_lt_mul_right hS,pow_lt_iff hn]
 have E:∀ a b:Nat,(a^n*S=b^n*S↔a=b):=fun a b=>⟨fun h=>(pow_inj_iff hn).1 (Nat.eq_of_mul_eq_mul_right hS h),fun h=>by rw [h]⟩
 rcases Nat.eq_zero_or_pos d with hd0|hd1
 · subst hd0
   have hU:=h0 rfl;have k1:(2*(R*2^p))^n*S=2^n*U:=by rw [g0,←hU]
   have k2:(2*R+0)*2^p=2*(R*2^p):=by rw [Nat.add_zero,Nat.mul_assoc]
   rw [k2,←k1,L,E];exact ⟨Iff.rfl,Iff.rfl⟩
 · obtain rfl:d=1:=by omega
   obtain ⟨u1,u2⟩:=h1 rfl;have k1:(2*(R*2^p))^n*S<2^n*U:=by rw [g0];exact Nat.mul_lt_mul_of_pos_left u1 hp2
   have k2:2^n*U<(2*((R+1)*2^p))^n*S:=by rw [g0];exact Nat.mul_lt_mul_of_pos_left u2 hp2
   have below:∀ x,x≤2*(R*2^p)→(x<(2*R+1)*2^p↔x^n*S<2^n*U)∧(x=(2*R+1)*2^p↔x^n*S=2^n*U):=by
    intro x hx
    have y1:x<(2*R+1)*2^p:=by
     have:=Nat.two_pow_pos p;rw [Nat.add_mul,Nat.mul_assoc,Nat.one_mul];omega
    have y2:x^n*S<2^n*U:=by
     refine Nat.lt_of_le_of_lt ?_ k1;exact Nat.mul_le_mul_right _ (Nat.pow_le_pow_left hx n)
    exact ⟨⟨fun _=>y2,fun _=>y1⟩,⟨fun h=>by omega,fun h=>by omega⟩⟩
   have above:∀ x,2*((R+1)*2^p)≤x→(x<(2*R+1)*2^p↔x^n*S<2^n*U)∧(x=(2*R+1)*2^p↔x^n*S=2^n*U):=by
    intro x hx
    have y1:(2*R+1)*2^p<x:=by
     have:=Nat.two_pow_pos p;refine Nat.lt_of_lt_of_le ?_ hx;rw [←Nat.mul_assoc];exact Nat.mul_lt_mul_of_pos_right (by omega) this
    have y2:2^n*U<x^n*S:=by
     refine Nat.lt_of_lt_of_le k2 ?_;exact Nat.mul_le_mul_right _ (Nat.pow_le_pow_left hx n)
    exact ⟨⟨fun h=>by omega,fun h=>by omega⟩,⟨fun h=>by omega,fun h=>by omega⟩⟩
   by_cases hjp:p<j+q
   · obtain ⟨i,hi⟩:∃ i,j+q=i+1+p:=⟨j+q-1-p,by omega⟩
     have e:c*2^(j+q)=2*((c*2^i)*2^p):=by
      rw [hi,Nat.pow_add,Nat.pow_succ,←Nat.mul_assoc,←Nat.mul_assoc,Nat.mul_comm (c*2^i) 2,Nat.mul_assoc 2]
     rw [e]
     rcases Nat.lt_or_ge R (c*2^i) with k|k
     · exact above _ (Nat.mul_le_mul_left _ (Nat.mul_le_mul_right _ k))
     · exact below _ (Nat.mul_le_mul_left _ (Nat.mul_le_mul_right _ k))
   · refine below _ ?_
     calc c*2^(j+q)≤18014398509481984*2^p:=Nat.mul_le_mul hc (Nat.pow_le_pow_right (by decide) (by omega))
      _≤(2*R)*2^p:=Nat.mul_le_mul_right _ (by omega)
      _=2*(R*2^p):=Nat.mul_assoc _ _ _
theorem alike_far (n P Q V S:Nat) (hn:0<n) (hP:∀ c j,c≤18014398509481984→j≤2046→c*2^j*Q<2*P) (hV:∀ c j,c≤18014398509481984→j≤2046→(c*2^j)^n*S<2^n*V):Alike n P Q V S:=by
 intro c j hc hj;have h1:=hP c j hc hj;have h2:=hV c j hc hj;exact ⟨⟨fun _=>h2,fun _=>h1⟩,⟨fun h=>by omega,fun h=>by omega⟩⟩
theorem alike_near (n P Q V S:Nat) (hn:0<n) (hP0:0<P) (hV0:0<V) (hS:0<S) (hP:2*P<Q) (hV:2^n*V<S):Alike n P Q V S:=by
 intro c j hc hj
 rcases Nat.eq_zero_or_pos (c*2^j) with h0|h0
 · rw [h0,Nat.zero_mul,Nat.zero_pow hn,Nat.zero_mul]
   have:=Nat.mul_pos (Nat.two_pow_pos n) hV0;exact ⟨⟨fun _=>this,fun _=>by omega⟩,⟨fun h=>by omega,fun h=>by omega⟩⟩
 · have h1:Q≤c*2^j*Q:=Nat.le_mul_of_pos_left _ h0
   have h2:S≤(c*2^j)^n*S:=Nat.le_mul_of_pos_left _ (Nat.pow_pos h0);exact ⟨⟨fun h=>by omega,fun h=>by omega⟩,⟨fun h=>by omega,fun h=>by omega⟩⟩
def cmpN (x y:Nat):Int:=if x<y then -1 else if y<x then 1 else 0
theorem LiesG.doc {v:Nat→Nat}{top n K:Nat}{t:Bool}{m:Int}{V S:Nat}(G:Grid v top) (hn:0<n) (h:LiesG v top n K t m V S) (k:Nat) (hk:k<top) (h1:v k^n*S≤V) (h2:k+1=top∨V<v (k+1)^n*S) :
 k=K∧t=decide (V=v K^n*S)∧(t=false→m=cmpN (2^n*V) ((v K+v (K+1))^n*S)):=by
 have L:∀ {a b:Nat},a<b→v a^n*S<v b^n*S:=fun {a b} q=>Nat.mul_lt_mul_of_pos_right ((pow_lt_iff hn).2 (G.mono q)) h.pos
 have Le:∀ {a b:Nat},a≤b→v a^n*S≤v b^n*S:=fun {a b} q=>by
  rcases Nat.lt_or_ge a b with k|k
  · exact Nat.le_of_lt (L k)
  · rw [show a=b by omega];exact Nat.le_refl _
 have hge:v K^n*S≤V:=by
  cases ht:t
  · exact Nat.le_of_lt (h.low ht)
  · rw [h.one ht];exact Nat.le_refl _
 have hfin:=h.fin
 have hkK:k=K:=by
  rcases Nat.lt_trichotomy k K with q|q|q
  · exfalso
    rcases h2 with e|e
    · omega
    · have:=Le (show k+1≤K by omega);omega
  · exact q
  · exfalso
    have a1:=Le (show K+1≤k by omega)
    have a2:=L (show K<K+1 by omega)
    cases t with
    | true=>have:=h.one rfl;omega
    | false =>
      rcases h.high rfl with e|e
      · omega
      · omega
 subst hkK;refine ⟨rfl,?_,?_⟩
 · cases t with
   | true=>exact (decide_eq_true (h.one rfl)).symm
   | false=>have:=h.low rfl;exact (decide_eq_false (by omega)).symm
 · intro ht
   by_cases hb:V<v (k+1)^n*S
   · have hm:=h.mids ht hb
     generalize 2^n*V=V2 at *;generalize (v k+v (k+1))^n*S=C at *;unfold cmpN
     rcases hm with ⟨e,q⟩|⟨e,q⟩|⟨e,q⟩
     · rw [if_pos q,e]
     · rw [if_neg (by omega),if_neg (by omega),e]
     · rw [if_neg (by omega),if_pos q,e]
   · rcases h.high ht with e | ⟨_,e⟩
     · exact absurd e hb
     · have hmid:(v k+v (k+1))^n*S<2^n*V:=by
        have q1:v k+v (k+1)<2*v (k+1):=by have:=G.mono (show k<k+1 by omega);omega
        have q2:(v k+v (k+1))^n*S<(2*v (k+1))^n*S:=Nat.mul_lt_mul_of_pos_right ((pow_lt_iff hn).2 q1) h.pos;rw [Nat.mul_pow,Nat.mul_assoc] at q2;have q3:=Nat.mul_le_mul_left (2^n) (Nat.le_of_not_lt hb);omega
       unfold cmpN;rw [if_neg (by omega),if_pos hmid,e]
theorem scale_lt (a b i k i' k':Nat) (h:i'+k=k'+i):a*2^i<b*2^k↔a*2^i'<b*2^k':=by
 rcases Nat.le_total i i' with q|q
 · obtain ⟨d,rfl⟩:∃ d,i'=i+d:=⟨i'-i,by omega⟩
   obtain rfl:k'=k+d:=by omega
   rw [Nat.pow_add,Nat.pow_add,←Nat.mul_assoc,←Nat.mul_assoc,Nat.mul_lt_mul_right (Nat.two_pow_pos d)]
 · obtain ⟨d,rfl⟩:∃ d,i=i'+d:=⟨i-i',by omega⟩
   obtain rfl:k=k'+d:=by omega
   rw [Nat.pow_add,Nat.pow_add,←Nat.mul_assoc,←Nat.mul_assoc,Nat.mul_lt_mul_right (Nat.two_pow_pos d)]
theorem scale_eq (a b i k i' k':Nat) (h:i'+k=k'+i):a*2^i=b*2^k↔a*2^i'=b*2^k':=by
 have h1:=scale_lt a b i k i' k' h;have h2:=scale_lt b a k i k' i' (by omega)
 generalize a*2^i=A at *;generalize a*2^i'=A' at *;generalize b*2^k=B at *;generalize b*2^k'=B' at *
 constructor
 · intro e;rcases Nat.lt_trichotomy A' B' with q | q | q
   · have:=h1.2 q;omega
   · exact q
   · have:=h2.2 q;omega
 · intro e;rcases Nat.lt_trichotomy A B with q | q | q
   · have:=h1.1 q;omega
   · exact q
   · have:=h2.1 q;omega
def cutS (Y size:Nat):Nat:=bl Y+size-262144
def higS (Y size:Nat):Nat:=Y/2^cutS Y size
def byS (X Y size:Nat):Int:=(bl (higS Y size):Int)+size-bl X
def levS (X Y size:Nat):Nat:=if byS X Y size<0 then X/2^(-byS X Y size).toNat else X*2^(byS X Y size).toNat
def who0 (X Y size:Nat):Nat:=levS X Y size/higS Y size
def lefS (X Y size:Nat):Nat:=levS X Y size%higS Y size
def lowS (Y size:Nat):Nat:=Y-higS Y size*2^cutS Y size
def hasS (X Y size:Nat):Nat:=lefS X Y size*2^cutS Y size
def takS (X Y size:Nat):Nat:=who0 X Y size*lowS Y size
def whoS (X Y size:Nat):Nat:=if hasS X Y size<takS X Y size then who0 X Y size-1 else who0 X Y size
def atS (X Y size:Nat):Bool:=decide (hasS X Y size=takS X Y size)&&decide (0≤byS X Y size)
structure DivS (X Y size:Nat):Prop where
 one:atS X Y size=true→X*2^((byS X Y size).toNat+cutS Y size)=whoS X Y size*Y*2^(-byS X Y size).toNat
 low:atS X Y size=false→whoS X Y size*Y*2^(-byS X Y size).toNat<X*2^((byS X Y size).toNat+cutS Y size)
 high:atS X Y size=false→X*2^((byS X Y size).toNat+cutS Y size)<(whoS X Y size+1)*Y*2^(-byS X Y size).toNat
 least:X≠0→2^(size-1)≤whoS X Y size+1
 most:whoS X Y size<2^(size+1)
 less:hasS X Y size<takS X Y size→1≤who0 X Y size
 hig:higS Y size≠0
 low':higS Y size*2^cutS Y size≤Y
 lowlt:lowS Y size<2^cutS Y size
 w0:who0 X Y size<2^(size+1)
 blh:bl (higS Y size)=bl Y-cutS Y size
 lev:levS X Y size<2^(bl (higS Y size)+size)
 lef:lefS X Y size<higS Y size
theorem bl_unique {X k:Nat}(h1:2^k≤X) (h2:X<2^(k+1)):bl X=k+1:=by
 have h0:X≠0:=by have:=Nat.two_pow_pos k;omega
 have a:=bl_lt X;have b:=bl_ge X h0;have c:=bl_pos X h0;have d1:=(Nat.pow_lt_pow_iff_right (a:=2) (by decide)).1 (Nat.lt_of_le_of_lt h1 a)
 have d2:=(Nat.pow_lt_pow_iff_right (a:=2) (by decide)).1 (Nat.lt_of_le_of_lt b h2)
 omega
theorem divS_facts (X Y size:Nat) (hX:X=0∨X%2=1) (hY:Y≠0) (hs0:1≤size) (hs:size≤1000) (hbX:bl X≤262144) (hbY:bl Y≤262144):DivS X Y size:=by
 obtain ⟨cut,ecut⟩:∃ c,cutS Y size=c:=⟨_,rfl⟩;obtain ⟨H,eH⟩:∃ c,higS Y size=c:=⟨_,rfl⟩;have eH':Y/2^cut=H:=by rw [←eH,←ecut];rfl
 have hD:0<2^cut:=Nat.two_pow_pos cut;have hYlt:=bl_lt Y;have hYge:=bl_ge Y hY;have hYpos:=bl_pos Y hY;have hcut:cut<bl Y∧(0<cut→cut=bl Y+size-262144):=by unfold cutS at ecut;omega
 have hH1:2^(bl Y-1-cut)≤H:=by
  rw [←eH',Nat.le_div_iff_mul_le hD,←Nat.pow_add,show bl Y-1-cut+cut=bl Y-1 by omega];exact hYge
 have hH2:H<2^(bl Y-1-cut+1):=by
  rw [←eH',Nat.div_lt_iff_lt_mul hD,←Nat.pow_add,show bl Y-1-cut+1+cut=bl Y by omega];exact hYlt
 have hblH:bl H=bl Y-cut:=by rw [bl_unique hH1 hH2];omega
 have hH0:0<H:=Nat.lt_of_lt_of_le (Nat.two_pow_pos _) hH1;have hHD:H*2^cut≤Y:=by rw [←eH'];exact Nat.div_mul_le_self _ _
 have hYdm:H*2^cut+Y%2^cut=Y:=by rw [←eH',Nat.mul_comm];exact Nat.div_add_mod Y _
 have hYm:=Nat.mod_lt Y hD;obtain ⟨Lo,eLo⟩:∃ c,lowS Y size=c:=⟨_,rfl⟩;have eLo':Y-H*2^cut=Lo:=by rw [←eLo];unfold lowS;rw [eH,ecut]
 have hLo:Lo<2^cut:=by omega
 have hYs:Y=H*2^cut+Lo:=by omega
 obtain ⟨b,eb⟩:∃ b,byS X Y size=b:=⟨_,rfl⟩;have eb':(bl H:Int)+size-bl X=b:=by rw [←eb];unfold byS;rw [eH]
 obtain ⟨lev,elev⟩:∃ c,levS X Y size=c:=⟨_,rfl⟩;have elev':(if b<0 then X/2^(-b).toNat else X*2^b.toNat)=lev:=by rw [←elev];unfold levS;rw [eb]
 obtain ⟨W0,eW0⟩:∃ c,who0 X Y size=c:=⟨_,rfl⟩;have eW0':lev/H=W0:=by rw [←eW0];unfold who0;rw [elev,eH]
 obtain ⟨Lf,eLf⟩:∃ c,lefS X Y size=c:=⟨_,rfl⟩;have eLf':lev%H=Lf:=by rw [←eLf];unfold lefS;rw [elev,eH]
 have hdm:H*W0+Lf=lev:=by rw [←eW0',←eLf'];exact Nat.div_add_mod lev H
 have hLf:Lf<H:=by rw [←eLf'];exact Nat.mod_lt _ hH0
 have eHas:hasS X Y size=Lf*2^cut:=by unfold hasS;rw [eLf,ecut]
 have eTak:takS X Y size=W0*Lo:=by unfold takS;rw [eW0,eLo]
 have hXlt:=bl_lt X
 have hlevlt:lev<2^(bl H+size):=by
  rw [←elev']
  split
  · rename_i hb
    rw [Nat.div_lt_iff_lt_mul (Nat.two_pow_pos _),←Nat.pow_add,show bl H+size+(-b).toNat=bl X by omega];exact hXlt
  · rename_i hb
    refine Nat.lt_of_lt_of_le (Nat.mul_lt_mul_of_pos_right hXlt (Nat.two_pow_pos _)) ?_;rw [←Nat.pow_add];exact Nat.pow_le_pow_right (by decide) (by omega)
 have hW0lt:W0<2^(size+1):=by
  rw [←eW0',Nat.div_lt_iff_lt_mul hH0];refine Nat.lt_of_lt_of_le hlevlt ?_;have:2^(size+1)*2^(bl Y-1-cut)≤2^(size+1)*H:=Nat.mul_le_mul_left _ hH1;rw [←Nat.pow_add,show size+1+(bl Y-1-cut)=bl H+size by omega] at this
  exact this
 have hW0ge:X≠0→2^(size-1)≤W0:=by
  intro h0;have hXge:=bl_ge X h0;have hXp:=bl_pos X h0
  have hl:2^(bl H+size-1)≤lev:=by
   rw [←elev']
   split
   · rename_i hb
     rw [Nat.le_div_iff_mul_le (Nat.two_pow_pos _),←Nat.pow_add,show bl H+size-1+(-b).toNat=bl X-1 by omega];exact hXge
   · rename_i hb
     refine Nat.le_trans ?_ (Nat.mul_le_mul_right _ hXge);rw [←Nat.pow_add];exact Nat.pow_le_pow_right (by decide) (by omega)
  rw [←eW0',Nat.le_div_iff_mul_le hH0];refine Nat.le_trans ?_ hl;have:2^(size-1)*H≤2^(size-1)*2^(bl H):=Nat.mul_le_mul_left _ (Nat.le_of_lt (bl_lt H));rw [←Nat.pow_add,show size-1+bl H=bl H+size-1 by omega] at this
  exact this
 -- whole times the low end is below Y
 have hWL:W0*Lo<Y:=by
  by_cases hc:cut=0
  · subst hc
    have:Lo=0:=by simpa using hLo
    rw [this,Nat.mul_zero];omega
  · have h1:W0*Lo<2^(size+1)*2^cut:=Nat.mul_lt_mul'' hW0lt hLo
    rw [←Nat.pow_add] at h1;refine Nat.lt_of_lt_of_le h1 (Nat.le_trans ?_ hYge);exact Nat.pow_le_pow_right (by decide) (by omega)
 -- what the level is,by whole
 have hsum:lev*2^cut+W0*Lo=W0*Y+Lf*2^cut:=by
  rw [←hdm,hYs,Nat.add_mul,Nat.mul_add,Nat.mul_comm H W0,Nat.mul_assoc];omega
 have hLfD:Lf*2^cut<Y:=Nat.lt_of_lt_of_le (Nat.mul_lt_mul_of_pos_right hLf hD) hHD
 have hless:hasS X Y size<takS X Y size→1≤W0:=by
  intro h;rw [eHas,eTak] at h
  rcases Nat.eq_zero_or_pos W0 with q|q
  · rw [q,Nat.zero_mul] at h;omega
  · exact q
 have eWho:whoS X Y size=if Lf*2^cut<W0*Lo then W0-1 else W0:=by unfold whoS;rw [eHas,eTak,eW0]
 have eAt:atS X Y size=(decide (Lf*2^cut=W0*Lo)&&decide (0≤b)):=by unfold atS;rw [eHas,eTak,eb]
 have key:(atS X Y size=true→X*2^(b.toNat+cut)=whoS X Y size*Y*2^(-b).toNat)∧(atS X Y size=false→whoS X Y size*Y*2^(-b).toNat<X*2^(b.toNat+cut)∧X*2^(b.toNat+cut)<(whoS X Y size+1)*Y*2^(-b).toNat):=by
  rw [eAt,eWho]
  by_cases hb:b<0
  · have hc0:cut=0:=by omega
    have hX0:X≠0:=by intro h;rw [h,bl_zero] at eb';omega
    have hXo:X%2=1:=by omega
    rw [if_pos hb] at elev';subst hc0;have hL0:Lo=0:=by simpa using hLo
    have hb1:b.toNat=0:=by omega
    rw [hL0,Nat.mul_zero,if_neg (by omega),hb1,Nat.add_zero,Nat.pow_zero,Nat.mul_one]
    rw [hL0,Nat.pow_zero,Nat.mul_one,Nat.mul_one,Nat.mul_zero] at hsum;rw [decide_eq_false (show ¬ 0≤b by omega),Bool.and_false]
    refine ⟨fun h=>(by cases h),fun _=>?_⟩
    obtain ⟨k,hk⟩:∃ k,(-b).toNat=k:=⟨_,rfl⟩;have hk0:0<k:=by omega
    rw [hk] at elev' ⊢;have hP:=Nat.two_pow_pos k;have hxm:2^k*lev+X%2^k=X:=by rw [←elev'];exact Nat.div_add_mod X _
    have hxl:=Nat.mod_lt X hP
    have hx0:X%2^k≠0:=by
     intro h;rw [h] at hxm;rw [show k=k-1+1 by omega,Nat.pow_succ,Nat.mul_comm _ 2,Nat.mul_assoc] at hxm
     omega
    have h1:W0*Y≤lev:=by omega
    have h2:lev+1≤(W0+1)*Y:=by
     rw [Nat.add_mul,Nat.one_mul];rw [Nat.pow_zero,Nat.mul_one] at hLfD;omega
    have h3:=Nat.mul_le_mul_right (2^k) h1;have h4:=Nat.mul_le_mul_right (2^k) h2;rw [Nat.add_mul,Nat.one_mul] at h4;rw [Nat.mul_comm] at hxm;omega
  · rw [if_neg hb] at elev'
    have hb1:(-b).toNat=0:=by omega
    rw [hb1,Nat.pow_zero,Nat.mul_one,Nat.mul_one,decide_eq_true (show 0≤b by omega),Bool.and_true]
    have e1:X*2^(b.toNat+cut)=lev*2^cut:=by rw [Nat.pow_add,←Nat.mul_assoc,elev']
    rw [e1];generalize lev*2^cut=L at *;generalize Lf*2^cut=A at *;generalize hT:W0*Lo=T at *
    by_cases hlt:A<T
    · rw [if_pos hlt]
      have hW1:1≤W0:=hless (by rw [eHas,eTak];exact hlt)
      obtain ⟨W,rfl⟩:∃ W,W0=W+1:=⟨W0-1,by omega⟩
      rw [Nat.add_sub_cancel];rw [Nat.add_mul,Nat.one_mul] at hsum ⊢;refine ⟨fun h=>?_,fun _=>by omega⟩
      have:=of_decide_eq_true h;omega
    · rw [if_neg hlt]
      rw [Nat.add_mul,Nat.one_mul];refine ⟨fun h=>?_,fun h=>?_⟩
      · have:=of_decide_eq_true h;omega
      · have:=of_decide_eq_false h;omega
 refine ⟨?_,?_,?_,?_,?_,?_,?_,?_,?_,?_,?_,?_,?_⟩
 · rw [eb,ecut];exact key.1
 · rw [eb,ecut];exact fun h=>(key.2 h).1
 · rw [eb,ecut];exact fun h=>(key.2 h).2
 · intro h
   have:=hW0ge h;rw [eWho];split <;> omega
 · rw [eWho];split <;> omega
 · rw [eW0];exact hless
 · rw [eH];omega
 · rw [eH,ecut];exact hHD
 · rw [eLo,ecut];exact hLo
 · rw [eW0];exact hW0lt
 · rw [eH,ecut];exact hblH
 · rw [elev,eH];exact hlevlt
 · rw [eLf,eH];exact hLf
theorem Alike.scale {n P Q P' Q' V S:Nat}(h:Alike n P' Q' V S) (hQ:0<Q) (hQ':0<Q') (e:P*Q'=P'*Q):Alike n P Q V S:=by
 intro c j hc hj;obtain ⟨h1,h2⟩:=h c j hc hj;rw [←h1,←h2];generalize c*2^j=g;have e1:g*Q*Q'=g*Q'*Q:=Nat.mul_right_comm _ _ _;have e2:2*P*Q'=2*P'*Q:=by rw [Nat.mul_assoc,e,Nat.mul_assoc]
 constructor
 · rw [←Nat.mul_lt_mul_right hQ',e1,e2,Nat.mul_lt_mul_right hQ]
 · constructor
   · intro k
     have:=congrArg (·*Q') k
     simp only [e1,e2] at this;exact Nat.eq_of_mul_eq_mul_right hQ this
   · intro k
     have:=congrArg (·*Q) k
     simp only [←e1,←e2] at this;exact Nat.eq_of_mul_eq_mul_right hQ' this
structure InSpan (n R d V S u:Nat) (h:Int):Prop where
 pos:0<S
 one:d=0→V*(2^(-(h+u)).toNat)^n=(R*2^(h+u).toNat)^n*S
 in':d=1→(R*2^(h+u).toNat)^n*S<V*(2^(-(h+u)).toNat)^n∧V*(2^(-(h+u)).toNat)^n<((R+1)*2^(h+u).toNat)^n*S
def clampE (h:Int):Int:=min (max (h-1) (-4096)) 4096
theorem alike_clamp (n R d V S u:Nat) (h:Int) (hn:0<n) (hR1:9007199254740992≤R) (hR2:R<2^100) (hd:d≤1) (hu0:149≤u) (hu1:u≤1074) (hI:InSpan n R d V S u h) :
 Alike n ((2*R+d)*2^(clampE h+u).toNat) (2^(-(clampE h+u)).toNat) V S:=by
 have hS:=hI.pos
 have hlo:(R*2^(h+u).toNat)^n*S≤V*(2^(-(h+u)).toNat)^n:=by
  rcases Nat.eq_zero_or_pos d with q|q
  · rw [hI.one q];exact Nat.le_refl _
  · exact Nat.le_of_lt (hI.in' (by omega)).1
 have hhi:V*(2^(-(h+u)).toNat)^n<((R+1)*2^(h+u).toNat)^n*S:=by
  rcases Nat.eq_zero_or_pos d with q|q
  · rw [hI.one q]
    exact Nat.mul_lt_mul_of_pos_right ((pow_lt_iff hn).2 (Nat.mul_lt_mul_of_pos_right (by omega) (Nat.two_pow_pos _))) hS
  · exact (hI.in' (by omega)).2
 by_cases h1:h-1 < -4096
 · have hc:clampE h=-4096:=by unfold clampE;omega
   rw [hc];have e1:((-4096:Int)+u).toNat=0:=by omega
   have e2:(h+u).toNat=0:=by omega
   rw [e1,Nat.pow_zero,Nat.mul_one];rw [e2,Nat.pow_zero,Nat.mul_one] at hlo hhi;obtain ⟨q,hq⟩:∃ q,(-(h+u)).toNat=q:=⟨_,rfl⟩;have hq1:3000≤q:=by omega
   rw [hq] at hlo hhi;obtain ⟨q',hq'⟩:∃ q',(-((-4096:Int)+u)).toNat=q':=⟨_,rfl⟩;have hq'1:3000≤q':=by omega
   rw [hq'];have hbig:∀ k,103≤k→2^103≤2^k:=fun k hk=>Nat.pow_le_pow_right (by decide) hk
   have b1:=hbig q (by omega)
   have b2:=hbig q' (by omega)
   have e103:(2:Nat)^103=8*2^100:=by decide
   have hqn:0<(2^q)^n:=Nat.pow_pos (Nat.two_pow_pos q);refine alike_near n _ _ V S hn (by omega) ?_ hS (by omega) ?_
   · rcases Nat.eq_zero_or_pos V with z | z
     · rw [z,Nat.zero_mul] at hlo
       have:=Nat.mul_pos (Nat.pow_pos (n:=n) (show 0<R by omega)) hS
       omega
     · exact z
   · have s1:2^n*V*(2^q)^n<(2*(R+1))^n*S:=by
      rw [Nat.mul_pow,Nat.mul_assoc,Nat.mul_assoc];exact Nat.mul_lt_mul_of_pos_left hhi (Nat.two_pow_pos n)
     have s2:(2*(R+1))^n*S≤(2^q)^n*S:=Nat.mul_le_mul_right _ (Nat.pow_le_pow_left (by omega) n)
     have s3:2^n*V*(2^q)^n<S*(2^q)^n:=by rw [Nat.mul_comm S];exact Nat.lt_of_lt_of_le s1 s2
     exact (Nat.mul_lt_mul_right hqn).1 s3
 · by_cases h2:4096<h-1
   · have hc:clampE h=4096:=by unfold clampE;omega
     rw [hc];have e1:(-((4096:Int)+u)).toNat=0:=by omega
     have e2:(-(h+u)).toNat=0:=by omega
     rw [e1,Nat.pow_zero];rw [e2,Nat.pow_zero,Nat.one_pow,Nat.mul_one] at hlo hhi;obtain ⟨A,hA⟩:∃ A,((4096:Int)+u).toNat=A:=⟨_,rfl⟩;obtain ⟨p,hp⟩:∃ p,(h+u).toNat=p:=⟨_,rfl⟩;rw [hA];rw [hp] at hlo hhi;have hA1:2101≤A:=by omega
     have hp1:2101≤p:=by omega
     have top:∀ c j k,c≤18014398509481984→j≤2046→2101≤k→c*2^j<2^k:=by
      intro c j k hcc hj hk;have h54:(18014398509481984:Nat)=2^54:=by decide
      calc c*2^j≤2^54*2^j:=Nat.mul_le_mul_right _ (by omega)
       _=2^(54+j):=(Nat.pow_add _ _ _).symm
       _<2^k:=Nat.pow_lt_pow_right (by decide) (by omega)
     refine alike_far n _ _ V S hn ?_ ?_
     · intro c j hcc hj
       have t:=top c j A hcc hj hA1;have:2^A≤(2*R+d)*2^A:=Nat.le_mul_of_pos_left _ (by omega)
       rw [Nat.mul_one];omega
     · intro c j hcc hj
       have t:=top c j p hcc hj hp1;have t2:2^p≤R*2^p:=Nat.le_mul_of_pos_left _ (by omega)
       have t3:(c*2^j)^n*S<(R*2^p)^n*S:=Nat.mul_lt_mul_of_pos_right ((pow_lt_iff hn).2 (by omega)) hS
       have t4:V≤2^n*V:=Nat.le_mul_of_pos_left _ (Nat.two_pow_pos n);omega
   · have hc:clampE h=h-1:=by unfold clampE;omega
     rw [hc];have sp:=alike_span n R (h+u).toNat (-(h+u)).toNat V S d hn hS hR1 hd hI.one hI.in';refine sp.scale (Nat.two_pow_pos _) (Nat.mul_pos (by decide) (Nat.two_pow_pos _)) ?_
     have e:∀ a b c k:Nat,a+1+b=c+k→(2*R+d)*2^a*(2*2^b)=(2*R+d)*2^c*2^k:=by
      intro a b c k hh;rw [Nat.mul_assoc,Nat.mul_assoc,←Nat.pow_add,←hh,Nat.pow_add,Nat.pow_succ,Nat.mul_assoc (2^a)]
     exact e _ _ _ _ (by omega)
def rV11 (X:Nat) (e f:Int) (u n:Nat):Nat:=X*2^(e-f+(n*u:Nat)).toNat
def rS11 (Y:Nat) (e f:Int) (u n:Nat):Nat:=Y*2^(-(e-f+(n*u:Nat))).toNat
theorem quo_span (X Y:Nat) (e f:Int) (u:Nat) (hY:Y≠0) (hD:DivS X Y 64) :
 InSpan 1 (whoS X Y 64) (if atS X Y 64 then 0 else 1) (rV11 X e f u 1) (rS11 Y e f u 1) u (e-f-byS X Y 64-cutS Y 64):=by
 have h1:=hD.one;have h2:=hD.low;have h3:=hD.high;generalize whoS X Y 64=W at *;generalize byS X Y 64=b at *;generalize cutS Y 64=cut at *;generalize atS X Y 64=t at *;have hY0:0<Y:=by omega
 have sides:∀ R:Nat,(R*2^(e-f-b-cut+u).toNat)^1*rS11 Y e f u 1=R*Y*2^((e-f-b-cut+u).toNat+(-(e-f+(1*u:Nat))).toNat):=by
  intro R;unfold rS11;rw [Nat.pow_one,Nat.pow_add,Nat.mul_assoc R,Nat.mul_assoc R,←Nat.mul_assoc (2^_) Y,Nat.mul_comm (2^_) Y,Nat.mul_assoc Y]
 have left:rV11 X e f u 1*(2^(-(e-f-b-cut+u)).toNat)^1=X*2^((e-f+(1*u:Nat)).toNat+(-(e-f-b-cut+u)).toNat):=by
  unfold rV11;rw [Nat.pow_one,Nat.pow_add,Nat.mul_assoc]
 refine ⟨Nat.mul_pos hY0 (Nat.two_pow_pos _),fun hd=>?_,fun hd=>?_⟩
 · have ht:t=true:=by cases t with
    | true=>rfl
    | false=>simp at hd
   rw [left,sides];exact (scale_eq X (W*Y) _ _ _ _ (by omega)).1 (h1 ht)
 · have ht:t=false:=by cases t with
    | true=>simp at hd
    | false=>rfl
   rw [left,sides,sides];exact ⟨(scale_lt (W*Y) X _ _ _ _ (by omega)).1 (h2 ht),(scale_lt X ((W+1)*Y) _ _ _ _ (by omega)).1 (h3 ht)⟩
end
section
open Go.RowKit
theorem Div_arg {w:World}{a b:Option Addr}{n c m d:Nat}{xs ys:List Nat}{V U:Nat}{z:Int}(h1:Arg w a n c xs) (h2:Arg w b m d ys) (e:divS (val xs) (val ys)=(V,U,z)) :
 Calls Tryz.prog 112 #[.slice a n c,.slice b m d] w fun r w'=>∃ v u,r=.returned (.tuple #[v,u,.int .i64 z])∧Nt w.heap.size w' v V∧Nt w.heap.size w' u U∧Below w.heap.size w w' :=
 (Div_any xs ys a b n c m d w.heap.size w h1.len h2.len h1.cap h2.cap (by have:=h1.big;omega) (by have:=h2.big;omega) h1.wf h2.wf h1.rd h2.rd (Nat.le_refl _)).mono
  fun r w' ⟨⟨v,u,h3,h4,h5,h6⟩,hb⟩=>by rw [e] at h3 h4 h5;exact ⟨v,u,h3,h4,h5,hb⟩
end
section
open Go.RowKit
theorem Len_arg {w:World}{a:Option Addr}{n c:Nat}{xs:List Nat}{k:Nat}(h1:Arg w a n c xs) (e:bl (val xs)=k) :
 Calls Tryz.prog 52 #[.slice a n c] w fun r w'=>r=.returned (.int .i64 (k:Nat))∧Below w.heap.size w w':=by
 subst e;exact (len_any xs a n c w.heap.size w h1.len h1.cap (by have:=h1.big;omega) h1.wf h1.rd).mono fun r w' ⟨h,e⟩=>⟨h,by rw [e];exact Below.refl _ _⟩
theorem shiftS_up {X V:Nat}{k:Nat}(hX:¬ LG X) (hb:X=0∨bl X+k≤262144) (e:X*2^k=V):shiftS X (k:Int)=(V,0):=by
 unfold shiftS;rw [if_neg hX]
 by_cases h0:X=0
 · rw [if_pos h0,←e,h0,Nat.zero_mul]
 · rw [if_neg h0,if_neg (by omega),if_neg (by omega)]
   simp [e]
theorem shiftS_dn {X V:Nat}{k:Nat}(hX:¬ LG X) (e:X/2^k=V):shiftS X (-(k:Int))=(V,0):=by
 unfold shiftS;rw [if_neg hX]
 by_cases h0:X=0
 · rw [if_pos h0,←e,h0,Nat.zero_div]
 · rw [if_neg h0]
   by_cases hk:k=0
   · subst hk
     rw [if_neg (by simp),if_neg (by have:=mt (LG_bl X).2 hX;omega)]
     simp at e;simp [e]
   · rw [if_pos (by omega)]
     simp [e]
theorem divS_ok {X Y:Nat}(h1:¬ LG X) (h2:¬ LG Y) (h:Y≠0) {V U:Nat}(e1:X/Y=V) (e2:X%Y=U):divS X Y=(V,U,0):=by
 unfold divS;rw [if_neg (by simp [h1,h2]),if_neg h,e1,e2]
theorem cmpLow_any {w:World}{a b q h:Option Addr}{ca cb cq ch:Nat}(W0 Lf Y H cut Bk Lo Tk' Hs:Nat) (z:Int) (AW:Arg w a (ws W0).length ca (ws W0)) (AL:Arg w b (ws Lf).length cb (ws Lf)) (AY:Arg w q (ws Y).length cq (ws Y)) (AH:Arg w h (ws H).length ch (ws H))
 (hc:cut≤4611686018427387904) (e1:shiftS H (cut:Int)=(Bk,0)) (e2:subS Y Bk=(Lo,0)) (e3:mulS W0 Lo=(Tk',0)) (e4:shiftS Lf (cut:Int)=(Hs,0)) (e5:cmpI Hs Tk'=z)
 (l1:(ws Bk).length≤8192) (l2:(ws Lo).length≤8192) (l3:(ws Tk').length≤8192) (l4:(ws Hs).length≤8192) :
 Calls Tryz.prog 113 #[.slice a (ws W0).length ca,.slice b (ws Lf).length cb,.slice q (ws Y).length cq,.slice h (ws H).length ch,.int .i64 (cut:Nat)] w fun r w'=>r=.returned (.int .i64 z)∧Below w.heap.size w w':=by
 rw [←val_ws H] at e1;rw [←val_ws Y,←val_ws Bk] at e2;rw [←val_ws W0,←val_ws Lo] at e3;rw [←val_ws Lf] at e4;rw [←val_ws Hs,←val_ws Tk'] at e5;have E:=(qsd (ai e1 (ai e2 (ai e3 (ai e4 e5)))));clear e1 e2 e3 e4 e5;have hbel:=Below.refl w.heap.size w;have S0:=(qsd (ai hbel (ai AW (ai AL (ai AY AH)))));clear hbel;clear AW AL AY AH;go_enter Tryz.func113,Tryz.ntmps113;obtain ⟨bel,AW,AL,AY,AH⟩:=S0.out;have HC:=hid (Shift_arg (cut:Int) AH E.out.1 (by omega) (by omega))
 clear bel AW AL AY AH
 go_wp2_with fail
 refine HC.out.mono ?_;rintro r u1 ⟨v,rfl,hN,hb⟩;obtain ⟨a1,c1,rfl,_⟩:=hN.arg (by omega)
 clear HC;obtain ⟨bel,AW,AL,AY,AH⟩:=S0.out;have hbn:=bel.trans (hb.mono bel.size);have S1:=qsd (ai hbn (ai (AW.below hb) (ai (AL.below hb) (ai (AY.below hb) (ai (AH.below hb) (hN.mono bel.size))))));clear bel AW AL AY AH;clear hb hbn S0;clear hN;obtain ⟨bel,AW,AL,AY,AH,NB⟩:=S1.out;have HC:=hid (Sub_arg AY (NB.arg' (by omega)).2 E.out.2.1)
 clear bel AW AL AY AH NB
 go_wp2_with fail
 refine HC.out.mono ?_;rintro r u2 ⟨v,rfl,hN,hb⟩;obtain ⟨a2,c2,rfl,_⟩:=hN.arg (by omega)
 clear HC;obtain ⟨bel,AW,AL,AY,AH,NB⟩:=S1.out;have hbn:=bel.trans (hb.mono bel.size);have S2:=qsd (ai hbn (ai (AW.below hb) (ai (AL.below hb) (ai (AY.below hb) (ai (AH.below hb) (ai (NB.below hb) (hN.mono bel.size)))))));clear bel AW AL AY AH NB;clear hb hbn S1;clear hN;obtain ⟨bel,AW,AL,AY,AH,NB,NL⟩:=S2.out;have HC:=hid (Mul_arg AW (NL.arg' (by omega)).2 E.out.2.2.1)
 clear bel AW AL AY AH NB NL
 go_wp2_with fail
 refine HC.out.mono ?_;rintro r u3 ⟨v,rfl,hN,hb⟩;obtain ⟨a3,c3,rfl,_⟩:=hN.arg (by omega)
 clear HC;obtain ⟨bel,AW,AL,AY,AH,NB,NL⟩:=S2.out;have hbn:=bel.trans (hb.mono bel.size);have S3:=qsd (ai hbn (ai (AW.below hb) (ai (AL.below hb) (ai (AY.below hb) (ai (AH.below hb) (ai (NB.below hb) (ai (NL.below hb) (hN.mono bel.size))))))));clear bel AW AL AY AH NB NL;clear hb hbn S2;clear hN;obtain ⟨bel,AW,AL,AY,AH,NB,NL,NT⟩:=S3.out;have HC:=hid (Shift_arg (cut:Int) AL E.out.2.2.2.1 (by omega) (by omega))
 clear bel AW AL AY AH NB NL NT
 go_wp2_with fail
 refine HC.out.mono ?_;rintro r u4 ⟨v,rfl,hN,hb⟩;obtain ⟨a4,c4,rfl,_⟩:=hN.arg (by omega)
 clear HC;obtain ⟨bel,AW,AL,AY,AH,NB,NL,NT⟩:=S3.out;have hbn:=bel.trans (hb.mono bel.size);have S4:=qsd (ai hbn (ai (AW.below hb) (ai (AL.below hb) (ai (AY.below hb) (ai (AH.below hb) (ai (NB.below hb) (ai (NL.below hb) (ai (NT.below hb) (hN.mono bel.size)))))))));clear bel AW AL AY AH NB NL NT;clear hb hbn S3;clear hN;obtain ⟨bel,AW,AL,AY,AH,NB,NL,NT,NS⟩:=S4.out;have HC:=hid (Cmp_arg (NS.arg' (by omega)).2 (NT.arg' (by omega)).2 z E.out.2.2.2.2)
 clear bel AW AL AY AH NB NL NT NS
 go_wp2_with fail
 refine HC.out.mono ?_;rintro r u5 ⟨rfl,hb⟩;clear HC;obtain ⟨bel,AW,AL,AY,AH,NB,NL,NT,NS⟩:=S4.out;have hbn:=bel.trans (hb.mono bel.size);have S5:=qsd (ai hbn (ai (AW.below hb) (ai (AL.below hb) (ai (AY.below hb) (ai (AH.below hb) (ai (NB.below hb) (ai (NL.below hb) (ai (NT.below hb) (NS.below hb)))))))));clear bel AW AL AY AH NB NL NT NS;clear hb hbn S4;have hbW:=hid S5.out.1;clear S5 E;go_wp2;go_ret;exact ⟨rfl,hbW.out⟩
end
section
open Go.RowKit
def Tk (w:World) (g T:Nat) (x y z:Value):Prop:=w.heap[g]?=some (.cells #[x,y,z] T (0,0))
theorem Tk.lt {w:World}{g T:Nat}{x y z:Value}(h:Tk w g T x y z):g<w.heap.size:=(Array.getElem?_eq_some_iff.1 h).1
theorem Tk.below {w w':World}{g T:Nat}{x y z:Value}(h:Tk w g T x y z) (hb:Below w.heap.size w w'):Tk w' g T x y z:=by
 unfold Tk;rw [hb.block g h.lt];exact h
theorem Tk.alloc {w:World}{g T:Nat}{x y z:Value}(h:Tk w g T x y z) (o:Obj):Tk (w.alloc o) g T x y z:=h.below (below_alloc w o)
theorem Tk.new (w:World) (T:Nat) (x y z:Value):Tk (w.alloc (.cells #[x,y,z] T)) w.heap.size T x y z:=heap_alloc_new _ _
theorem Tk.facts {w:World}{g T:Nat}{x y z:Value}(h:Tk w g T x y z) :
 w.cell? ⟨g,0,none⟩=some x∧w.cell? ⟨g,1,none⟩=some y∧w.cell? ⟨g,2,none⟩=some z∧w.frozen? ⟨g,0,none⟩=false∧w.frozen? ⟨g,1,none⟩=false∧w.frozen? ⟨g,2,none⟩=false:=by
 unfold Tk at h;simp [World.cell?,World.frozen?,h]
theorem Tk.set {w:World}{g T:Nat}{x y z:Value}(h:Tk w g T x y z) (a b c:Value):Tk (st3 w g a b c) g T a b c:=by
 unfold Tk at h ⊢;simp [st3,World.setCell,Array.getElem?_modify,h]
def Rq (w:World) (g:Nat) (n:Bool) (v:Value) (e:Int) (m:Bool) (u:Value) (f:Int):Prop:=w.heap[g]?=some (.cells #[.bool n,v,.int .i64 e,.bool m,u,.int .i64 f] 79 (0,0))
theorem Rq.lt {w:World}{g:Nat}{n:Bool}{v:Value}{e:Int}{m:Bool}{u:Value}{f:Int}(h:Rq w g n v e m u f):g<w.heap.size:=(Array.getElem?_eq_some_iff.1 h).1
theorem Rq.below {w w':World}{g:Nat}{n:Bool}{v:Value}{e:Int}{m:Bool}{u:Value}{f:Int}(h:Rq w g n v e m u f) (hb:Below w.heap.size w w'):Rq w' g n v e m u f:=by
 unfold Rq;rw [hb.block g h.lt];exact h
theorem Rq.alloc {w:World}{g:Nat}{n:Bool}{v:Value}{e:Int}{m:Bool}{u:Value}{f:Int}(h:Rq w g n v e m u f) (o:Obj):Rq (w.alloc o) g n v e m u f:=h.below (below_alloc w o)
theorem Rq.new (w:World) (n:Bool) (v:Value) (e:Int) (m:Bool) (u:Value) (f:Int):Rq (w.alloc (.cells #[.bool n,v,.int .i64 e,.bool m,u,.int .i64 f] 79)) w.heap.size n v e m u f:=heap_alloc_new _ _
theorem Rq.facts {w:World}{g:Nat}{n:Bool}{v:Value}{e:Int}{m:Bool}{u:Value}{f:Int}(h:Rq w g n v e m u f) :
 w.cell? ⟨g,0,none⟩=some (.bool n)∧w.cell? ⟨g,1,none⟩=some v∧w.cell? ⟨g,2,none⟩=some (.int .i64 e)∧w.cell? ⟨g,3,none⟩=some (.bool m)∧w.cell? ⟨g,4,none⟩=some u∧w.cell? ⟨g,5,none⟩=some (.int .i64 f):=by
 unfold Rq at h;simp [World.cell?,h]
theorem Rq.frz {w:World}{g:Nat}{n:Bool}{v:Value}{e:Int}{m:Bool}{u:Value}{f:Int}(h:Rq w g n v e m u f) :
 w.frozen? ⟨g,0,none⟩=false∧w.frozen? ⟨g,1,none⟩=false∧w.frozen? ⟨g,2,none⟩=false∧w.frozen? ⟨g,3,none⟩=false∧w.frozen? ⟨g,4,none⟩=false∧w.frozen? ⟨g,5,none⟩=false:=by
 unfold Rq at h;simp [World.frozen?,h]
abbrev st6 (w:World) (g:Nat) (a b c d e f:Value):World:=(((((w.setCell ⟨g,0,none⟩ a).setCell ⟨g,1,none⟩ b).setCell ⟨g,2,none⟩ c).setCell ⟨g,3,none⟩ d).setCell ⟨g,4,none⟩ e).setCell ⟨g,5,none⟩ f
theorem st6_but (g:Nat) (w:World) (a b c d e f:Value):But g w (st6 w g a b c d e f):=((((((But.refl g w).set _ _).set _ _).set _ _).set _ _).set _ _).set _ _
theorem Rq.set {w:World}{g:Nat}{n:Bool}{v:Value}{e:Int}{m:Bool}{u:Value}{f:Int}(h:Rq w g n v e m u f) (n':Bool) (v':Value) (e':Int) (m':Bool) (u':Value) (f':Int) :
 Rq (st6 w g (.bool n') v' (.int .i64 e') (.bool m') u' (.int .i64 f')) g n' v' e' m' u' f':=by
 unfold Rq at h ⊢;simp [st6,World.setCell,Array.getElem?_modify,h]
theorem Nt.off {lo:Nat}{w w':World}{v:Value}{X g:Nat}(h:Nt lo w v X) (hb:But g w w') (hg:v.ownBlock≠Option.some g):Nt lo w' v X:=by
 refine ⟨h.1,?_⟩
 rcases h.2 with hn|⟨g',cap,cur,rfl,hlo,hg',rest⟩
 · exact .inl hn
 · refine .inr ⟨g',cap,cur,rfl,hlo,?_,rest⟩
   rw [hb.block g' (Array.getElem?_eq_some_iff.1 hg').1 (by intro e;subst e;exact hg (by simp [Value.ownBlock]))];exact hg'
theorem Nt.notin {lo:Nat}{w:World}{v:Value}{X g T:Nat}{C:Array Value}{fz:Nat×Nat}(h:Nt lo w v X) (hT:T≠90) (hg:w.heap[g]?=Option.some (.cells C T fz)):v.ownBlock≠Option.some g:=by
 intro e
 rcases h.2 with ⟨rfl,_⟩|⟨g',cap,cur,rfl,_,h2,_⟩
 · simp [Value.ownBlock] at e
 · simp [Value.ownBlock] at e
   subst e;rw [hg] at h2;simp at h2;exact hT h2.2.1
theorem Nt.st3k {lo:Nat}{w:World}{v:Value}{X g T:Nat}{x y z:Value}(h:Nt lo w v X) (D:Tk w g T x y z) (hT:T≠90) (a b c:Value):Nt lo (st3 w g a b c) v X:=h.off (set3_but g w a b c) (h.notin hT D)
theorem Nt.st6k {lo:Nat}{w:World}{v:Value}{X g:Nat}{n:Bool}{p:Value}{e:Int}{m:Bool}{u:Value}{f:Int}(h:Nt lo w v X) (D:Rq w g n p e m u f) (a b c d q r:Value):Nt lo (st6 w g a b c d q r) v X:=h.off (st6_but g w a b c d q r) (h.notin (by decide) D)
theorem below_st3 {B g:Nat}{a w:World}(h:Below B a w) (hB:B≤w.heap.size) (hg:B≤g) (x y z:Value):Below B a (st3 w g x y z):=But.below h (set3_but g w x y z) hB hg
theorem below_st6 {B g:Nat}{a w:World}(h:Below B a w) (hB:B≤w.heap.size) (hg:B≤g) (x y z p q r:Value):Below B a (st6 w g x y z p q r):=But.below h (st6_but g w x y z p q r) hB hg
def Ap (v u:Value):Prop:=∀ g,v.ownBlock=some g→u.ownBlock≠some g
theorem Nt.blk {lo:Nat}{w:World}{v:Value}{X g:Nat}(h:Nt lo w v X) (hg:v.ownBlock=Option.some g):lo≤g∧g<w.heap.size:=by
 rcases h.2 with ⟨rfl,_⟩|⟨g',cap,cur,rfl,h1,h2,_⟩
 · simp [Value.ownBlock] at hg
 · simp [Value.ownBlock] at hg
   subst hg;exact ⟨h1,(Array.getElem?_eq_some_iff.1 h2).1⟩
theorem Nt.ap {lo:Nat}{w w':World}{v u:Value}{X Y:Nat}(h:Nt lo w v X) (k:Nt w.heap.size w' u Y):Ap v u:=by
 intro g hg hu;have:=(h.blk hg).2;have:=(k.blk hu).1;omega
theorem ws0:(ws 0).length=0:=by rw [ws_zero];rfl
end
section
open Go.RowKit
theorem divided_res (W:World) (g:Nat) (v:Value) (x:Int) (t:Bool) (tmps:Array Value) (ht:tmps[4]?.getD undef=.pointer (some ⟨g,0,none⟩)) (D:Tk W g 136 v (.int .i64 x) (.bool t)) :
 (results Tryz.f97 tmps).run Tryz.prog W=.ok (.agg #[v,.int .i64 x,.bool t]) W:=by
 obtain ⟨x0,x1,x2,_,_,_⟩:=D.facts;simp [results,Tryz.results97,ht,go_sem,x0,x1,x2]
theorem div_begin (w:World) (n:Bool) (v:Value) (e:Int) (m:Bool) (u:Value) (f:Int) (W:World) (hW:W=(w.alloc (.cells #[.bool n,v,.int .i64 e,.bool m,u,.int .i64 f] 79)).alloc (.cells #[.slice none 0 0,.int .i64 0,.bool false] 136)) :
 Below w.heap.size w W∧W.heap.size=w.heap.size+2∧Rq W w.heap.size n v e m u f∧Tk W (w.heap.size+1) 136 (.slice none 0 0) (.int .i64 0) (.bool false):=by
 rw [hW];refine ⟨(below_alloc w _).alloc (by simp) _,by simp,(Rq.new _ _ _ _ _ _ _).alloc _,?_⟩
 have:=Tk.new (w.alloc (.cells #[.bool n,v,.int .i64 e,.bool m,u,.int .i64 f] 79)) 136 (.slice none 0 0) (.int .i64 0) (.bool false);simpa using this
theorem divided_pos {w:World}{a b:Option Addr}{ca cb:Nat}(n m:Bool) (X Y:Nat) (e f:Int) (size lX lY lH cut H lev W0 Lf WH:Nat) (t bb z x y1 y2:Int) (tt:Bool)
 (AX:Arg w a (ws X).length ca (ws X)) (AY:Arg w b (ws Y).length cb (ws Y))
 (he0:-1048576≤e) (he1:e≤1048576) (hf0:-1048576≤f) (hf1:f≤1048576) (hs:size≤1000) (hlY:bl Y=lY) (hlX:bl X=lX) (hlH:bl H=lH) (bX:lX≤262144) (bY:lY≤262144) (bH:lH≤262144)
 (ht:(lY:Int)+(size:Int)-262144=t) (hcut:max t 0=(cut:Int)) (bcut:cut≤2000)
 (e1:shiftS Y (-(cut:Int))=(H,0)) (hbb:(lH:Int)+(size:Int)-(lX:Int)=bb) (e2:shiftS X bb=(lev,0)) (e3:divS lev H=(W0,Lf,0))
 (HL:Hid (∀ (u:World) (p q r s:Option Addr) (cp cq cr cs:Nat),Arg u p (ws W0).length cp (ws W0)→Arg u q (ws Lf).length cq (ws Lf)→Arg u r (ws Y).length cr (ws Y)→Arg u s (ws H).length cs (ws H)→Calls Tryz.prog 113 #[.slice p (ws W0).length cp,.slice q (ws Lf).length cq,.slice r (ws Y).length cr,.slice s (ws H).length cs,.int .i64 (cut:Nat)] u fun r w'=>r=.returned (.int .i64 z)∧Below u.heap.size u w'))
 (hz:decide (z<0)=false)
 (h1:e-f=y1) (h2:y1-bb=y2) (h3:y2-(cut:Int)=x) (htt:(decide (z=0)&&decide (0≤bb))=tt)
 (l1:(ws H).length≤8192) (l2:(ws lev).length≤8192) (l3:(ws W0).length≤8192) (l4:(ws Lf).length≤8192) :
 Calls Tryz.prog 97 #[.agg #[.bool n,.slice a (ws X).length ca,.int .i64 e,.bool m,.slice b (ws Y).length cb,.int .i64 f],.int .i64 (size:Nat)] w fun r w'=>(∃ v,r=.returned (.agg #[v,.int .i64 x,.bool tt])∧Nt w.heap.size w' v W0)∧Below w.heap.size w w':=by
 obtain ⟨W1,hW1⟩:∃ W,W=(w.alloc (.cells #[.bool n,.slice a (ws X).length ca,.int .i64 e,.bool m,.slice b (ws Y).length cb,.int .i64 f] 79)).alloc (.cells #[.slice none 0 0,.int .i64 0,.bool false] 136):=⟨_,rfl⟩;obtain ⟨hB,hz1,RQ,SK⟩:=div_begin w n _ e m _ f W1 hW1;have e1':shiftS (val (ws Y)) (-(cut:Int))=(H,0):=by rw [val_ws];exact e1
 have e2':shiftS (val (ws X)) bb=(lev,0):=by rw [val_ws];exact e2
 have e3':divS (val (ws lev)) (val (ws H))=(W0,Lf,0):=by rw [val_ws,val_ws];exact e3
 have lY':bl (val (ws Y))=lY:=by rw [val_ws];exact hlY
 have lX':bl (val (ws X))=lX:=by rw [val_ws];exact hlX
 have lH':bl (val (ws H))=lH:=by rw [val_ws];exact hlH
 have E:=(qsd (ai e1' (ai e2' (ai e3' (ai lY' (ai lX' lH'))))));have SZ:=(qsd (ai hz1 hB));have hs2:w.heap.size+2≤W1.heap.size:=by omega
 have hbel:=hB;have S0:=(qsd (ai hbel (ai (AX.below hB) (ai (AY.below hB) (ai RQ SK)))));clear hbel;clear e1 e2 e3 e1' e2' e3' lY' lX' lH' hlY hlX hlH AX AY hB RQ SK hz1;go_enter Tryz.func97,Tryz.ntmps97
 go_upto_region 1 with fail
 rw [←hW1];clear hW1;obtain ⟨x0,x1,x2,x3,x4,x5⟩:=S0.out.2.2.2.1.facts
 go_quiet (fail)
 clear x0 x1 x2 x3 x4 x5;generalize hV:World.drewN W1 _=V1;have hb:Below W1.heap.size W1 V1:=by rw [←hV];exact Below.drewN' (Below.refl _ _) _
 clear hV;obtain ⟨bel,AX,AY,RQ,SK⟩:=S0.out;have hbn:=bel.trans (hb.mono bel.size);have S1:=qsd (ai hbn (ai (AX.below hb) (ai (AY.below hb) (ai (RQ.below hb) (SK.below hb)))));clear bel AX AY RQ SK;clear hb hbn S0;obtain ⟨bel,AX,AY,RQ,SK⟩:=S1.out;have HC:=hid (Len_arg AY E.out.2.2.2.1);clear bel AX AY RQ SK
 go_wp2_with fail
 refine HC.out.mono ?_;rintro r u2 ⟨rfl,hb⟩;clear HC;obtain ⟨bel,AX,AY,RQ,SK⟩:=S1.out;have hbn:=bel.trans (hb.mono bel.size);have S2:=qsd (ai hbn (ai (AX.below hb) (ai (AY.below hb) (ai (RQ.below hb) (SK.below hb)))));clear bel AX AY RQ SK;clear hb hbn S1;obtain ⟨bel,AX,AY,RQ,SK⟩:=S2.out;have HC:=hid (Shift_arg (-(cut:Int)) AY E.out.1 (by omega) (by omega))
 clear bel AX AY RQ SK
 go_wp2_with fail
 refine HC.out.mono ?_;rintro r u3 ⟨v,rfl,hN,hb⟩;obtain ⟨a1,c1,rfl,_⟩:=hN.arg (by omega)
 clear HC;obtain ⟨bel,AX,AY,RQ,SK⟩:=S2.out;have hbn:=bel.trans (hb.mono bel.size);have S3:=qsd (ai hbn (ai (AX.below hb) (ai (AY.below hb) (ai (RQ.below hb) (ai (SK.below hb) (hN.mono bel.size))))));clear bel AX AY RQ SK;clear hb hbn S2;clear hN;obtain ⟨bel,AX,AY,RQ,SK,NH⟩:=S3.out;have HC:=hid (Len_arg (NH.arg' (by omega)).2 E.out.2.2.2.2.2)
 clear bel AX AY RQ SK NH
 go_wp2_with fail
 refine HC.out.mono ?_;rintro r u4 ⟨rfl,hb⟩;clear HC;obtain ⟨bel,AX,AY,RQ,SK,NH⟩:=S3.out;have hbn:=bel.trans (hb.mono bel.size);have S4:=qsd (ai hbn (ai (AX.below hb) (ai (AY.below hb) (ai (RQ.below hb) (ai (SK.below hb) (NH.below hb))))));clear bel AX AY RQ SK NH;clear hb hbn S3;obtain ⟨bel,AX,AY,RQ,SK,NH⟩:=S4.out;have HC:=hid (Len_arg AX E.out.2.2.2.2.1);clear bel AX AY RQ SK NH
 go_wp2_with fail
 refine HC.out.mono ?_;rintro r u5 ⟨rfl,hb⟩;clear HC;obtain ⟨bel,AX,AY,RQ,SK,NH⟩:=S4.out;have hbn:=bel.trans (hb.mono bel.size);have S5:=qsd (ai hbn (ai (AX.below hb) (ai (AY.below hb) (ai (RQ.below hb) (ai (SK.below hb) (NH.below hb))))));clear bel AX AY RQ SK NH;clear hb hbn S4;obtain ⟨bel,AX,AY,RQ,SK,NH⟩:=S5.out;have HC:=hid (Shift_arg bb AX E.out.2.1 (by omega) (by omega))
 clear bel AX AY RQ SK NH
 go_wp2_with fail
 refine HC.out.mono ?_;rintro r u6 ⟨v,rfl,hN,hb⟩;obtain ⟨a2,c2,rfl,_⟩:=hN.arg (by omega)
 clear HC;obtain ⟨bel,AX,AY,RQ,SK,NH⟩:=S5.out;have hbn:=bel.trans (hb.mono bel.size);have S6:=qsd (ai hbn (ai (AX.below hb) (ai (AY.below hb) (ai (RQ.below hb) (ai (SK.below hb) (ai (NH.below hb) (hN.mono bel.size)))))));clear bel AX AY RQ SK NH;clear hb hbn S5;clear hN;obtain ⟨bel,AX,AY,RQ,SK,NH,NV⟩:=S6.out;have HC:=hid (Div_arg (NV.arg' (by omega)).2 (NH.arg' (by omega)).2 E.out.2.2.1)
 clear bel AX AY RQ SK NH NV
 go_wp2_with fail
 refine HC.out.mono ?_;rintro r u7 ⟨v,v2,rfl,hN,hM,hb⟩;obtain ⟨a3,c3,rfl,_⟩:=hN.arg (by omega)
 obtain ⟨a4,c4,rfl,_⟩:=hM.arg (by omega)
 clear HC;obtain ⟨bel,AX,AY,RQ,SK,NH,NV⟩:=S6.out;have hbn:=bel.trans (hb.mono bel.size);have S7:=qsd (ai hbn (ai (AX.below hb) (ai (AY.below hb) (ai (RQ.below hb) (ai (SK.below hb) (ai (NH.below hb) (ai (hN.mono bel.size) (hM.mono bel.size))))))));clear bel AX AY RQ SK NH NV;clear hb hbn S6;clear hN hM;obtain ⟨bel,AX,AY,RQ,SK,NH,NW,NL⟩:=S7.out;have HC:=hid (HL.out u7 _ _ _ _ _ _ _ _ (NW.arg' (by omega)).2 (NL.arg' (by omega)).2 AY (NH.arg' (by omega)).2)
 clear bel AX AY RQ SK NH NW NL
 go_wp2_with fail
 refine HC.out.mono ?_;rintro r u8 ⟨rfl,hb⟩;clear HC;obtain ⟨bel,AX,AY,RQ,SK,NH,NW,NL⟩:=S7.out;have hbn:=bel.trans (hb.mono bel.size);have S8:=qsd (ai hbn (ai (AX.below hb) (ai (AY.below hb) (ai (RQ.below hb) (ai (SK.below hb) (ai (NH.below hb) (ai (NW.below hb) (NL.below hb))))))));clear bel AX AY RQ SK NH NW NL;clear hb hbn S7;obtain ⟨bel,AX,AY,RQ,SK,NH,NW,NL⟩:=S8.out;have hlast:=qsd (ai bel (ai NW SK));obtain ⟨x0,x1,x2,x3,x4,x5⟩:=RQ.facts;obtain ⟨s0,s1,s2,sf0,sf1,sf2⟩:=SK.facts;have hsz:=qsd (SK.lt);clear bel AX AY RQ SK NH NW NL;clear S8 E HL;have htA:=qsd htt;clear htt;go_wp2
 all_goals (
  obtain ⟨bel,NZ,SK⟩:=hlast.out;have hsz:=bel.size;refine bodyPost_ret (divided_res _ (w.heap.size+1) (.slice a3 (ws W0).length c3) x _ _ rfl (SK.set _ _ _)) rfl ⟨⟨.slice a3 (ws W0).length c3,?_,NZ.st3k SK (by decide) _ _ _⟩,below_st3 bel hsz (by omega) _ _ _⟩
  rw [←htA.out]
  first | rfl | simp [*])
theorem divided_neg {w:World}{a b:Option Addr}{ca cb:Nat}(n m:Bool) (X Y:Nat) (e f:Int) (size lX lY lH cut H lev W0 Lf WH:Nat) (t bb z x y1 y2:Int) (tt:Bool)
 (AX:Arg w a (ws X).length ca (ws X)) (AY:Arg w b (ws Y).length cb (ws Y))
 (he0:-1048576≤e) (he1:e≤1048576) (hf0:-1048576≤f) (hf1:f≤1048576) (hs:size≤1000) (hlY:bl Y=lY) (hlX:bl X=lX) (hlH:bl H=lH) (bX:lX≤262144) (bY:lY≤262144) (bH:lH≤262144)
 (ht:(lY:Int)+(size:Int)-262144=t) (hcut:max t 0=(cut:Int)) (bcut:cut≤2000)
 (e1:shiftS Y (-(cut:Int))=(H,0)) (hbb:(lH:Int)+(size:Int)-(lX:Int)=bb) (e2:shiftS X bb=(lev,0)) (e3:divS lev H=(W0,Lf,0))
 (HL:Hid (∀ (u:World) (p q r s:Option Addr) (cp cq cr cs:Nat),Arg u p (ws W0).length cp (ws W0)→Arg u q (ws Lf).length cq (ws Lf)→Arg u r (ws Y).length cr (ws Y)→Arg u s (ws H).length cs (ws H)→Calls Tryz.prog 113 #[.slice p (ws W0).length cp,.slice q (ws Lf).length cq,.slice r (ws Y).length cr,.slice s (ws H).length cs,.int .i64 (cut:Nat)] u fun r w'=>r=.returned (.int .i64 z)∧Below u.heap.size u w'))
 (hz:decide (z<0)=true) (e4:subS W0 1=(WH,0))
 (h1:e-f=y1) (h2:y1-bb=y2) (h3:y2-(cut:Int)=x) (htt:(decide (z=0)&&decide (0≤bb))=tt)
 (l1:(ws H).length≤8192) (l2:(ws lev).length≤8192) (l3:(ws W0).length≤8192) (l4:(ws Lf).length≤8192) (l5:(ws WH).length≤8192) :
 Calls Tryz.prog 97 #[.agg #[.bool n,.slice a (ws X).length ca,.int .i64 e,.bool m,.slice b (ws Y).length cb,.int .i64 f],.int .i64 (size:Nat)] w fun r w'=>(∃ v,r=.returned (.agg #[v,.int .i64 x,.bool tt])∧Nt w.heap.size w' v WH)∧Below w.heap.size w w':=by
 obtain ⟨W1,hW1⟩:∃ W,W=(w.alloc (.cells #[.bool n,.slice a (ws X).length ca,.int .i64 e,.bool m,.slice b (ws Y).length cb,.int .i64 f] 79)).alloc (.cells #[.slice none 0 0,.int .i64 0,.bool false] 136):=⟨_,rfl⟩;obtain ⟨hB,hz1,RQ,SK⟩:=div_begin w n _ e m _ f W1 hW1;have e1':shiftS (val (ws Y)) (-(cut:Int))=(H,0):=by rw [val_ws];exact e1
 have e2':shiftS (val (ws X)) bb=(lev,0):=by rw [val_ws];exact e2
 have e3':divS (val (ws lev)) (val (ws H))=(W0,Lf,0):=by rw [val_ws,val_ws];exact e3
 have lY':bl (val (ws Y))=lY:=by rw [val_ws];exact hlY
 have lX':bl (val (ws X))=lX:=by rw [val_ws];exact hlX
 have lH':bl (val (ws H))=lH:=by rw [val_ws];exact hlH
 have E:=(qsd (ai e1' (ai e2' (ai e3' (ai lY' (ai lX' lH'))))));have SZ:=(qsd (ai hz1 hB));have hs2:w.heap.size+2≤W1.heap.size:=by omega
 have e4':subS (val (ws W0)) (val (ws 1))=(WH,0):=by rw [val_ws,val_ws];exact e4
 have E4:=qsd e4';have l1s:(ws 1).length≤8192:=by rw [ws_one];simp
 clear e4 e4';have hbel:=hB;have S0:=(qsd (ai hbel (ai (AX.below hB) (ai (AY.below hB) (ai RQ SK)))));clear hbel;clear e1 e2 e3 e1' e2' e3' lY' lX' lH' hlY hlX hlH AX AY hB RQ SK hz1;go_enter Tryz.func97,Tryz.ntmps97
 go_upto_region 1 with fail
 rw [←hW1];clear hW1;obtain ⟨x0,x1,x2,x3,x4,x5⟩:=S0.out.2.2.2.1.facts
 go_quiet (fail)
 clear x0 x1 x2 x3 x4 x5;generalize hV:World.drewN W1 _=V1;have hb:Below W1.heap.size W1 V1:=by rw [←hV];exact Below.drewN' (Below.refl _ _) _
 clear hV;obtain ⟨bel,AX,AY,RQ,SK⟩:=S0.out;have hbn:=bel.trans (hb.mono bel.size);have S1:=qsd (ai hbn (ai (AX.below hb) (ai (AY.below hb) (ai (RQ.below hb) (SK.below hb)))));clear bel AX AY RQ SK;clear hb hbn S0;obtain ⟨bel,AX,AY,RQ,SK⟩:=S1.out;have HC:=hid (Len_arg AY E.out.2.2.2.1);clear bel AX AY RQ SK
 go_wp2_with fail
 refine HC.out.mono ?_;rintro r u2 ⟨rfl,hb⟩;clear HC;obtain ⟨bel,AX,AY,RQ,SK⟩:=S1.out;have hbn:=bel.trans (hb.mono bel.size);have S2:=qsd (ai hbn (ai (AX.below hb) (ai (AY.below hb) (ai (RQ.below hb) (SK.below hb)))));clear bel AX AY RQ SK;clear hb hbn S1;obtain ⟨bel,AX,AY,RQ,SK⟩:=S2.out;have HC:=hid (Shift_arg (-(cut:Int)) AY E.out.1 (by omega) (by omega))
 clear bel AX AY RQ SK
 go_wp2_with fail
 refine HC.out.mono ?_;rintro r u3 ⟨v,rfl,hN,hb⟩;obtain ⟨a1,c1,rfl,_⟩:=hN.arg (by omega)
 clear HC;obtain ⟨bel,AX,AY,RQ,SK⟩:=S2.out;have hbn:=bel.trans (hb.mono bel.size);have S3:=qsd (ai hbn (ai (AX.below hb) (ai (AY.below hb) (ai (RQ.below hb) (ai (SK.below hb) (hN.mono bel.size))))));clear bel AX AY RQ SK;clear hb hbn S2;clear hN;obtain ⟨bel,AX,AY,RQ,SK,NH⟩:=S3.out;have HC:=hid (Len_arg (NH.arg' (by omega)).2 E.out.2.2.2.2.2)
 clear bel AX AY RQ SK NH
 go_wp2_with fail
 refine HC.out.mono ?_;rintro r u4 ⟨rfl,hb⟩;clear HC;obtain ⟨bel,AX,AY,RQ,SK,NH⟩:=S3.out;have hbn:=bel.trans (hb.mono bel.size);have S4:=qsd (ai hbn (ai (AX.below hb) (ai (AY.below hb) (ai (RQ.below hb) (ai (SK.below hb) (NH.below hb))))));clear bel AX AY RQ SK NH;clear hb hbn S3;obtain ⟨bel,AX,AY,RQ,SK,NH⟩:=S4.out;have HC:=hid (Len_arg AX E.out.2.2.2.2.1);clear bel AX AY RQ SK NH
 go_wp2_with fail
 refine HC.out.mono ?_;rintro r u5 ⟨rfl,hb⟩;clear HC;obtain ⟨bel,AX,AY,RQ,SK,NH⟩:=S4.out;have hbn:=bel.trans (hb.mono bel.size);have S5:=qsd (ai hbn (ai (AX.below hb) (ai (AY.below hb) (ai (RQ.below hb) (ai (SK.below hb) (NH.below hb))))));clear bel AX AY RQ SK NH;clear hb hbn S4;obtain ⟨bel,AX,AY,RQ,SK,NH⟩:=S5.out;have HC:=hid (Shift_arg bb AX E.out.2.1 (by omega) (by omega))
 clear bel AX AY RQ SK NH
 go_wp2_with fail
 refine HC.out.mono ?_;rintro r u6 ⟨v,rfl,hN,hb⟩;obtain ⟨a2,c2,rfl,_⟩:=hN.arg (by omega)
 clear HC;obtain ⟨bel,AX,AY,RQ,SK,NH⟩:=S5.out;have hbn:=bel.trans (hb.mono bel.size);have S6:=qsd (ai hbn (ai (AX.below hb) (ai (AY.below hb) (ai (RQ.below hb) (ai (SK.below hb) (ai (NH.below hb) (hN.mono bel.size)))))));clear bel AX AY RQ SK NH;clear hb hbn S5;clear hN;obtain ⟨bel,AX,AY,RQ,SK,NH,NV⟩:=S6.out;have HC:=hid (Div_arg (NV.arg' (by omega)).2 (NH.arg' (by omega)).2 E.out.2.2.1)
 clear bel AX AY RQ SK NH NV
 go_wp2_with fail
 refine HC.out.mono ?_;rintro r u7 ⟨v,v2,rfl,hN,hM,hb⟩;obtain ⟨a3,c3,rfl,_⟩:=hN.arg (by omega)
 obtain ⟨a4,c4,rfl,_⟩:=hM.arg (by omega)
 clear HC;obtain ⟨bel,AX,AY,RQ,SK,NH,NV⟩:=S6.out;have hbn:=bel.trans (hb.mono bel.size);have S7:=qsd (ai hbn (ai (AX.below hb) (ai (AY.below hb) (ai (RQ.below hb) (ai (SK.below hb) (ai (NH.below hb) (ai (hN.mono bel.size) (hM.mono bel.size))))))));clear bel AX AY RQ SK NH NV;clear hb hbn S6;clear hN hM;obtain ⟨bel,AX,AY,RQ,SK,NH,NW,NL⟩:=S7.out;have HC:=hid (HL.out u7 _ _ _ _ _ _ _ _ (NW.arg' (by omega)).2 (NL.arg' (by omega)).2 AY (NH.arg' (by omega)).2)
 clear bel AX AY RQ SK NH NW NL
 go_wp2_with fail
 refine HC.out.mono ?_;rintro r u8 ⟨rfl,hb⟩;clear HC;obtain ⟨bel,AX,AY,RQ,SK,NH,NW,NL⟩:=S7.out;have hbn:=bel.trans (hb.mono bel.size);have S8:=qsd (ai hbn (ai (AX.below hb) (ai (AY.below hb) (ai (RQ.below hb) (ai (SK.below hb) (ai (NH.below hb) (ai (NW.below hb) (NL.below hb))))))));clear bel AX AY RQ SK NH NW NL;clear hb hbn S7;obtain ⟨bel,AX,AY,RQ,SK,NH,NW,NL⟩:=S8.out;have HC:=hid (of_any 1 u8 (by omega))
 clear bel AX AY RQ SK NH NW NL
 go_wp2_with fail
 refine HC.out.mono ?_;rintro r u9 ⟨v,rfl,hN,hb⟩;obtain ⟨a5,c5,rfl,_⟩:=hN.arg (by omega)
 clear HC;obtain ⟨bel,AX,AY,RQ,SK,NH,NW,NL⟩:=S8.out;have hbn:=bel.trans (hb.mono bel.size);have S9:=qsd (ai hbn (ai (AX.below hb) (ai (AY.below hb) (ai (RQ.below hb) (ai (SK.below hb) (ai (NH.below hb) (ai (NW.below hb) (ai (NL.below hb) (hN.mono bel.size)))))))));clear bel AX AY RQ SK NH NW NL;clear hb hbn S8;clear hN;obtain ⟨bel,AX,AY,RQ,SK,NH,NW,NL,NO⟩:=S9.out;have HC:=hid (Sub_arg (NW.arg' (by omega)).2 (NO.arg' (by omega)).2 E4.out)
 clear bel AX AY RQ SK NH NW NL NO
 go_wp2_with fail
 refine HC.out.mono ?_;rintro r u10 ⟨v,rfl,hN,hb⟩;obtain ⟨a6,c6,rfl,_⟩:=hN.arg (by omega)
 clear HC;obtain ⟨bel,AX,AY,RQ,SK,NH,NW,NL,NO⟩:=S9.out;have hbn:=bel.trans (hb.mono bel.size);have S10:=qsd (ai hbn (ai (AX.below hb) (ai (AY.below hb) (ai (RQ.below hb) (ai (SK.below hb) (ai (NH.below hb) (ai (NW.below hb) (ai (NL.below hb) (ai (NO.below hb) (hN.mono bel.size))))))))));clear bel AX AY RQ SK NH NW NL NO;clear hb hbn S9;clear hN;obtain ⟨bel,AX,AY,RQ,SK,NH,NW,NL,NO,NR⟩:=S10.out;have hlast:=qsd (ai bel (ai NR SK));obtain ⟨x0,x1,x2,x3,x4,x5⟩:=RQ.facts;obtain ⟨s0,s1,s2,sf0,sf1,sf2⟩:=SK.facts;have hsz:=qsd (SK.lt);clear bel AX AY RQ SK NH NW NL NO NR;clear S10 E HL;have htA:=qsd htt;clear htt;go_wp2
 all_goals (
  obtain ⟨bel,NZ,SK⟩:=hlast.out;have hsz:=bel.size;refine bodyPost_ret (divided_res _ (w.heap.size+1) (.slice a6 (ws WH).length c6) x _ _ rfl (SK.set _ _ _)) rfl ⟨⟨.slice a6 (ws WH).length c6,?_,NZ.st3k SK (by decide) _ _ _⟩,below_st3 bel hsz (by omega) _ _ _⟩
  rw [←htA.out]
  first | rfl | simp [*])
end
section
open Go.RowKit
theorem notLG11 {X:Nat}(h:bl X≤262144):¬ LG X:=fun k=>by have:=(LG_bl X).1 k;omega
theorem mulS_ok11 {X Y V:Nat}(h1:¬ LG X) (h2:¬ LG Y) (h3:¬ LG V) (e:X*Y=V):mulS X Y=(V,0):=by subst e;unfold mulS;rw [if_neg (by simp [h1,h2]),if_neg h3]
theorem len_bl8 {X:Nat}(h:bl X≤262144):(ws X).length≤8192:=by have:=notLG11 h;unfold LG at this;omega
theorem bl_lt_pow {X k:Nat}(h:X<2^k):bl X≤k:=by
 by_cases h0:X=0
 · subst h0;rw [bl_zero];omega
 · have:=(Nat.pow_lt_pow_iff_right (a:=2) (by decide)).1 (Nat.lt_of_le_of_lt (bl_ge X h0) h)
   have:=bl_pos X h0;omega
theorem bl_le_of {X Y:Nat}(h:X≤Y) (k:bl Y≤262144):bl X≤262144:=by
 have:=bl_lt_pow (Nat.lt_of_le_of_lt h (bl_lt Y));omega
theorem cmpI_lt0 (x y:Nat):decide (cmpI x y<0)=decide (x<y):=by
 unfold cmpI
 by_cases h:x<y
 · simp [h]
 · by_cases h2:y<x <;> simp [h,h2]
theorem cmpI_eq0 (x y:Nat):decide (cmpI x y=0)=decide (x=y):=by
 unfold cmpI
 by_cases h:x<y
 · have:x≠y:=by omega
   simp [h,this]
 · by_cases h2:y<x
   · have:x≠y:=by omega
     simp [h,h2,this]
   · have:x=y:=by omega
     simp [this]
theorem divided11 {w:World}{a b:Option Addr}{ca cb:Nat}(n m:Bool) (X Y:Nat) (e f:Int) (size:Nat)
 (AX:Arg w a (ws X).length ca (ws X)) (AY:Arg w b (ws Y).length cb (ws Y)) (hX:X=0∨X%2=1) (hY:Y≠0)
 (he0:-1048576≤e) (he1:e≤1048576) (hf0:-1048576≤f) (hf1:f≤1048576) (hs0:1≤size) (hs:size≤1000) (bX:bl X≤262144) (bY:bl Y≤262144) :
 Calls Tryz.prog 97 #[.agg #[.bool n,.slice a (ws X).length ca,.int .i64 e,.bool m,.slice b (ws Y).length cb,.int .i64 f],.int .i64 (size:Nat)] w fun r w'=>(∃ v,r=.returned (.agg #[v,.int .i64 (e-f-byS X Y size-cutS Y size),.bool (atS X Y size)])∧Nt w.heap.size w' v (whoS X Y size))∧Below w.heap.size w w':=by
 have D:=divS_facts X Y size hX hY hs0 hs bX bY;have hYp:=bl_pos Y hY;have cutb:cutS Y size≤1000∧cutS Y size<bl Y:=by unfold cutS;omega
 have bH:bl (higS Y size)≤262144:=by have:=D.blh;omega
 have hHc:bl (higS Y size)+size≤262144∨cutS Y size=0:=by have:=D.blh;unfold cutS at *;omega
 have hbyb:-262144≤byS X Y size∧byS X Y size≤264000:=by unfold byS;omega
 have bLev:bl (levS X Y size)≤262144:=by
  have:=bl_lt_pow D.lev;have h2:bl (higS Y size)+size≤262144:=by have:=D.blh;unfold cutS at this;omega
  omega
 have bW0:bl (who0 X Y size)≤262144:=by have:=bl_lt_pow D.w0;omega
 have bLf:bl (lefS X Y size)≤262144:=bl_le_of (Nat.le_of_lt D.lef) bH;have e1:shiftS Y (-((cutS Y size:Nat):Int))=(higS Y size,0):=shiftS_dn (notLG11 bY) rfl
 have e2:shiftS X (byS X Y size)=(levS X Y size,0):=by
  by_cases hb:byS X Y size<0
  · have:=shiftS_dn (X:=X) (k:=(-byS X Y size).toNat) (V:=levS X Y size) (notLG11 bX) (by unfold levS;rw [if_pos hb])
    rw [show -(((-byS X Y size).toNat:Nat):Int)=byS X Y size by omega] at this
    exact this
  · have:=shiftS_up (X:=X) (k:=(byS X Y size).toNat) (V:=levS X Y size) (notLG11 bX) (by
     by_cases h0:X=0
     · exact .inl h0
     · right
       have h2:bl (higS Y size)+size≤262144:=by have:=D.blh;unfold cutS at this;omega
       unfold byS at *;omega) (by unfold levS;rw [if_neg hb])
    rw [show (((byS X Y size).toNat:Nat):Int)=byS X Y size by omega] at this
    exact this
 have e3:divS (levS X Y size) (higS Y size)=(who0 X Y size,lefS X Y size,0):=divS_ok (notLG11 bLev) (notLG11 bH) D.hig rfl rfl
 -- what cmpLow is asked
 have hYHb:higS Y size*2^cutS Y size≤Y:=D.low';have bBk:bl (higS Y size*2^cutS Y size)≤262144:=bl_le_of hYHb bY;have bLo:bl (lowS Y size)≤262144:=bl_le_of (Nat.sub_le _ _) bY
 have bTk:bl (takS X Y size)≤262144:=by
  have h1:takS X Y size<2^(size+1+cutS Y size):=by
   unfold takS;rw [Nat.pow_add];exact Nat.mul_lt_mul'' D.w0 D.lowlt
  have:=bl_lt_pow h1;omega
 have bHs:bl (hasS X Y size)≤262144:=by
  refine bl_le_of (Y:=Y) (Nat.le_trans ?_ hYHb) bY;exact Nat.mul_le_mul_right _ (Nat.le_of_lt D.lef)
 have c1:shiftS (higS Y size) ((cutS Y size:Nat):Int)=(higS Y size*2^cutS Y size,0):=shiftS_up (notLG11 bH) (.inr (by have:=D.blh;omega)) rfl
 have c2:subS Y (higS Y size*2^cutS Y size)=(lowS Y size,0):=subS_ok (notLG11 bY) (notLG11 bBk) (by unfold lowS;omega)
 have c3:mulS (who0 X Y size) (lowS Y size)=(takS X Y size,0):=mulS_ok11 (notLG11 bW0) (notLG11 bLo) (notLG11 bTk) rfl
 have c4:shiftS (lefS X Y size) ((cutS Y size:Nat):Int)=(hasS X Y size,0):=shiftS_up (notLG11 bLf) (by
  by_cases h0:lefS X Y size=0
  · exact .inl h0
  · right
    have hlt:lefS X Y size≤higS Y size:=Nat.le_of_lt D.lef;have:=bl_lt_pow (Nat.lt_of_le_of_lt hlt (bl_lt (higS Y size)));have:=D.blh
    omega) rfl
 have HC:Hid (∀ (u:World) (p q r s:Option Addr) (cp cq cr cs:Nat),Arg u p (ws (who0 X Y size)).length cp (ws (who0 X Y size))→Arg u q (ws (lefS X Y size)).length cq (ws (lefS X Y size))→Arg u r (ws Y).length cr (ws Y)→Arg u s (ws (higS Y size)).length cs (ws (higS Y size))→Calls Tryz.prog 113 #[.slice p (ws (who0 X Y size)).length cp,.slice q (ws (lefS X Y size)).length cq,.slice r (ws Y).length cr,.slice s (ws (higS Y size)).length cs,.int .i64 ((cutS Y size:Nat):Int)] u fun r w'=>r=.returned (.int .i64 (cmpI (hasS X Y size) (takS X Y size)))∧Below u.heap.size u w') :=
  fun u p q r s cp cq cr cs A1 A2 A3 A4=>cmpLow_any _ _ _ _ (cutS Y size) _ _ _ _ _ A1 A2 A3 A4 (by omega) c1 c2 c3 c4 rfl (len_bl8 bBk) (len_bl8 bLo) (len_bl8 bTk) (len_bl8 bHs)
 have htt:(decide (cmpI (hasS X Y size) (takS X Y size)=0)&&decide (0≤byS X Y size))=atS X Y size:=by rw [cmpI_eq0];rfl
 have hcut:max ((bl Y:Int)+(size:Int)-262144) 0=((cutS Y size:Nat):Int):=by unfold cutS;omega
 by_cases hlt:hasS X Y size<takS X Y size
 · have hz:decide (cmpI (hasS X Y size) (takS X Y size)<0)=true:=by rw [cmpI_lt0];exact decide_eq_true hlt
   have e4:subS (who0 X Y size) 1=(whoS X Y size,0):=by
    refine subS_ok (notLG11 bW0) (notLG11 (by decide)) ?_
    have:=D.less hlt;unfold whoS;rw [if_pos hlt];omega
   exact divided_neg n m X Y e f size (bl X) (bl Y) (bl (higS Y size)) (cutS Y size) (higS Y size) (levS X Y size) (who0 X Y size) (lefS X Y size) (whoS X Y size) _ (byS X Y size) _ _ _ _ (atS X Y size) AX AY he0 he1 hf0 hf1 hs rfl rfl rfl bX bY bH rfl hcut (by omega) e1 rfl e2 e3 HC hz e4 rfl rfl rfl htt (len_bl8 bH) (len_bl8 bLev) (len_bl8 bW0) (len_bl8 bLf) (len_bl8 (bl_le_of (Y:=who0 X Y size) (by unfold whoS;rw [if_pos hlt];omega) bW0))
 · have hz:decide (cmpI (hasS X Y size) (takS X Y size)<0)=false:=by rw [cmpI_lt0];exact decide_eq_false hlt
   have eW:whoS X Y size=who0 X Y size:=by unfold whoS;rw [if_neg hlt]
   rw [eW];exact divided_pos n m X Y e f size (bl X) (bl Y) (bl (higS Y size)) (cutS Y size) (higS Y size) (levS X Y size) (who0 X Y size) (lefS X Y size) 0 _ (byS X Y size) _ _ _ _ (atS X Y size) AX AY he0 he1 hf0 hf1 hs rfl rfl rfl bX bY bH rfl hcut (by omega) e1 rfl e2 e3 HC hz rfl rfl rfl htt (len_bl8 bH) (len_bl8 bLev) (len_bl8 bW0) (len_bl8 bLf)
end
section
open Go.RowKit
theorem inside_res (W:World) (g:Nat) (n:Bool) (v:Value) (e k:Int) (tmps:Array Value) (ht:tmps[4]?.getD undef=.pointer (some ⟨g,0,none⟩)) (hk:tmps[5]?.getD undef=.int .i64 k) (D:Tk W g 42 (.bool n) v (.int .i64 e)) :
 (results Tryz.f96 tmps).run Tryz.prog W=.ok (.tuple #[.agg #[.bool n,v,.int .i64 e],.int .i64 k]) W:=by
 obtain ⟨x0,x1,x2,_,_,_⟩:=D.facts;simp [results,Tryz.results96,ht,hk,go_sem,x0,x1,x2]
theorem ins_begin (w:World) (v:Value) (x:Int) (t:Bool) (W:World) (hW:W=(w.alloc (.cells #[v,.int .i64 x,.bool t] 136)).alloc (.cells #[.bool false,.slice none 0 0,.int .i64 0] 42)) :
 Below w.heap.size w W∧W.heap.size=w.heap.size+2∧Tk W w.heap.size 136 v (.int .i64 x) (.bool t)∧Tk W (w.heap.size+1) 42 (.bool false) (.slice none 0 0) (.int .i64 0):=by
 rw [hW];refine ⟨(below_alloc w _).alloc (by simp) _,by simp,(Tk.new _ _ _ _ _).alloc _,?_⟩
 have:=Tk.new (w.alloc (.cells #[v,.int .i64 x,.bool t] 136)) 42 (.bool false) (.slice none 0 0) (.int .i64 0);simpa using this
theorem inside_yes {w:World}{a:Option Addr}{ca:Nat}(n:Bool) (W M2 M3:Nat) (x y E:Int) (dn:Bool) (V:Nat) (de er:Int) (AW:Arg w a (ws W).length ca (ws W)) (hx0:-10000000≤x) (hx1:x≤10000000)
 (e1:shiftS W 1=(M2,0)) (hy:x-1=y) (hE:min (max y (-4096)) 4096=E) (l2:(ws M2).length≤8192) (lV:(ws V).length≤8192)
 (HM:Hid (∀ (u:World) (p:Option Addr) (q:Nat),Below w.heap.size w u→Arg u p (ws M2).length q (ws M2)→Calls Tryz.prog 34 #[.bool n,.slice p (ws M2).length q,.int .i64 E] u fun r w'=>(∃ v,r=.returned (.tuple #[.agg #[.bool dn,v,.int .i64 de],.int .i64 er])∧Nt u.heap.size w' v V)∧Below u.heap.size u w')) :
 Calls Tryz.prog 96 #[.bool n,.agg #[.slice a (ws W).length ca,.int .i64 x,.bool true]] w fun r w'=>(∃ v,r=.returned (.tuple #[.agg #[.bool dn,v,.int .i64 de],.int .i64 er])∧Nt w.heap.size w' v V)∧Below w.heap.size w w':=by
 obtain ⟨W1,hW1⟩:∃ U,U=(w.alloc (.cells #[.slice a (ws W).length ca,.int .i64 x,.bool true] 136)).alloc (.cells #[.bool false,.slice none 0 0,.int .i64 0] 42):=⟨_,rfl⟩;obtain ⟨hB,hz1,SK,DK⟩:=ins_begin w _ x true W1 hW1;have e1':shiftS (val (ws W)) 1=(M2,0):=by rw [val_ws];exact e1
 have E1:=qsd e1';have hs2:w.heap.size+2≤W1.heap.size:=by omega
 have l1s:(ws 1).length≤8192:=by rw [ws_one];simp
 have hbel:=hB;have S0:=(qsd (ai hbel (ai (AW.below hB) (ai SK DK))));clear hbel;clear e1 e1' AW hB SK DK hz1;go_enter Tryz.func96,Tryz.ntmps96;obtain ⟨x0,x1,x2,_,_,_⟩:=S0.out.2.2.1.facts;obtain ⟨bel,AW,SK,DK⟩:=S0.out;have HC:=hid (Shift_arg 1 AW E1.out (by omega) (by omega))
 clear bel AW SK DK
 go_upto_region 1 with fail
 rw [←hW1];clear hW1
 go_wp2_with fail
 clear x0 x1 x2;refine HC.out.mono ?_;rintro r u1 ⟨v,rfl,hN,hb⟩;obtain ⟨a1,c1,rfl,_⟩:=hN.arg (by omega)
 clear HC;obtain ⟨bel,AW,SK,DK⟩:=S0.out;have hbn:=bel.trans (hb.mono bel.size);have S1:=qsd (ai hbn (ai (AW.below hb) (ai (SK.below hb) (ai (DK.below hb) (hN.mono bel.size)))));clear bel AW SK DK;clear hb hbn S0;clear hN;obtain ⟨x0,x1,x2,_,_,_⟩:=S1.out.2.2.1.facts;obtain ⟨bel,AW,SK,DK,N2⟩:=S1.out;have HC:=hid (HM.out u1 _ _ bel (N2.arg' (by omega)).2)
 clear bel AW SK DK N2
 go_wp2_with fail
 clear x0 x1 x2;refine HC.out.mono ?_;rintro r u2 ⟨⟨v,rfl,hN⟩,hb⟩;obtain ⟨a7,c7,rfl,_⟩:=hN.arg (by omega)
 clear HC;obtain ⟨bel,AW,SK,DK,N2⟩:=S1.out;have hbn:=bel.trans (hb.mono bel.size);have S2:=qsd (ai hbn (ai (AW.below hb) (ai (SK.below hb) (ai (DK.below hb) (ai (N2.below hb) (hN.mono bel.size))))));clear bel AW SK DK N2;clear hb hbn S1;clear hN;obtain ⟨bel,AW,SK,DK,N2,NV⟩:=S2.out;have hlast:=qsd (ai bel (ai NV DK));obtain ⟨s0,s1,s2,sf0,sf1,sf2⟩:=DK.facts;clear bel AW SK DK N2 NV;clear S2 HM;go_wp2;obtain ⟨bel,NZ,DK⟩:=hlast.out;have hsz:=bel.size;exact bodyPost_ret (inside_res _ (w.heap.size+1) dn (.slice a7 (ws V).length c7) de er _ rfl rfl (DK.set _ _ _)) rfl ⟨⟨_,rfl,NZ.st3k DK (by decide) _ _ _⟩,below_st3 bel hsz (by omega) _ _ _⟩
theorem inside_no {w:World}{a:Option Addr}{ca:Nat}(n:Bool) (W M2 M3:Nat) (x y E:Int) (dn:Bool) (V:Nat) (de er:Int) (AW:Arg w a (ws W).length ca (ws W)) (hx0:-10000000≤x) (hx1:x≤10000000)
 (e1:shiftS W 1=(M2,0)) (e2:addS M2 1=(M3,0)) (hy:x-1=y) (hE:min (max y (-4096)) 4096=E) (l2:(ws M2).length≤8192) (l3:(ws M3).length≤8192) (lV:(ws V).length≤8192)
 (HM:Hid (∀ (u:World) (p:Option Addr) (q:Nat),Below w.heap.size w u→Arg u p (ws M3).length q (ws M3)→Calls Tryz.prog 34 #[.bool n,.slice p (ws M3).length q,.int .i64 E] u fun r w'=>(∃ v,r=.returned (.tuple #[.agg #[.bool dn,v,.int .i64 de],.int .i64 er])∧Nt u.heap.size w' v V)∧Below u.heap.size u w')) :
 Calls Tryz.prog 96 #[.bool n,.agg #[.slice a (ws W).length ca,.int .i64 x,.bool false]] w fun r w'=>(∃ v,r=.returned (.tuple #[.agg #[.bool dn,v,.int .i64 de],.int .i64 er])∧Nt w.heap.size w' v V)∧Below w.heap.size w w':=by
 obtain ⟨W1,hW1⟩:∃ U,U=(w.alloc (.cells #[.slice a (ws W).length ca,.int .i64 x,.bool false] 136)).alloc (.cells #[.bool false,.slice none 0 0,.int .i64 0] 42):=⟨_,rfl⟩;obtain ⟨hB,hz1,SK,DK⟩:=ins_begin w _ x false W1 hW1;have e1':shiftS (val (ws W)) 1=(M2,0):=by rw [val_ws];exact e1
 have e2':addS (val (ws M2)) (val (ws 1))=(M3,0):=by rw [val_ws,val_ws];exact e2
 have E2:=qsd e2';clear e2 e2';have E1:=qsd e1';have hs2:w.heap.size+2≤W1.heap.size:=by omega
 have l1s:(ws 1).length≤8192:=by rw [ws_one];simp
 have hbel:=hB;have S0:=(qsd (ai hbel (ai (AW.below hB) (ai SK DK))));clear hbel;clear e1 e1' AW hB SK DK hz1;go_enter Tryz.func96,Tryz.ntmps96;obtain ⟨x0,x1,x2,_,_,_⟩:=S0.out.2.2.1.facts;obtain ⟨bel,AW,SK,DK⟩:=S0.out;have HC:=hid (Shift_arg 1 AW E1.out (by omega) (by omega))
 clear bel AW SK DK
 go_upto_region 1 with fail
 rw [←hW1];clear hW1
 go_wp2_with fail
 clear x0 x1 x2;refine HC.out.mono ?_;rintro r u1 ⟨v,rfl,hN,hb⟩;obtain ⟨a1,c1,rfl,_⟩:=hN.arg (by omega)
 clear HC;obtain ⟨bel,AW,SK,DK⟩:=S0.out;have hbn:=bel.trans (hb.mono bel.size);have S1:=qsd (ai hbn (ai (AW.below hb) (ai (SK.below hb) (ai (DK.below hb) (hN.mono bel.size)))));clear bel AW SK DK;clear hb hbn S0;clear hN;obtain ⟨x0,x1,x2,_,_,_⟩:=S1.out.2.2.1.facts;obtain ⟨bel,AW,SK,DK,N2⟩:=S1.out;have HC:=hid (of_any 1 u1 (by omega))
 clear bel AW SK DK N2
 go_wp2_with fail
 clear x0 x1 x2;refine HC.out.mono ?_;rintro r u2 ⟨v,rfl,hN,hb⟩;obtain ⟨a5,c5,rfl,_⟩:=hN.arg (by omega)
 clear HC;obtain ⟨bel,AW,SK,DK,N2⟩:=S1.out;have hbn:=bel.trans (hb.mono bel.size);have S2:=qsd (ai hbn (ai (AW.below hb) (ai (SK.below hb) (ai (DK.below hb) (ai (N2.below hb) (hN.mono bel.size))))));clear bel AW SK DK N2;clear hb hbn S1;clear hN;obtain ⟨bel,AW,SK,DK,N2,NO⟩:=S2.out;have HC:=hid (Add_arg (N2.arg' (by omega)).2 (NO.arg' (by omega)).2 E2.out)
 clear bel AW SK DK N2 NO
 go_wp2_with fail
 refine HC.out.mono ?_;rintro r u3 ⟨v,rfl,hN,hb⟩;obtain ⟨a6,c6,rfl,_⟩:=hN.arg (by omega)
 clear HC;obtain ⟨bel,AW,SK,DK,N2,NO⟩:=S2.out;have hbn:=bel.trans (hb.mono bel.size);have S3:=qsd (ai hbn (ai (AW.below hb) (ai (SK.below hb) (ai (DK.below hb) (ai (N2.below hb) (ai (NO.below hb) (hN.mono bel.size)))))));clear bel AW SK DK N2 NO;clear hb hbn S2;clear hN;obtain ⟨x0,x1,x2,_,_,_⟩:=S3.out.2.2.1.facts;obtain ⟨bel,AW,SK,DK,N2,NO,N3⟩:=S3.out;have HC:=hid (HM.out u3 _ _ bel (N3.arg' (by omega)).2)
 clear bel AW SK DK N2 NO N3
 go_wp2_with fail
 clear x0 x1 x2;refine HC.out.mono ?_;rintro r u4 ⟨⟨v,rfl,hN⟩,hb⟩;obtain ⟨a7,c7,rfl,_⟩:=hN.arg (by omega)
 clear HC;obtain ⟨bel,AW,SK,DK,N2,NO,N3⟩:=S3.out;have hbn:=bel.trans (hb.mono bel.size);have S4:=qsd (ai hbn (ai (AW.below hb) (ai (SK.below hb) (ai (DK.below hb) (ai (N2.below hb) (ai (NO.below hb) (ai (N3.below hb) (hN.mono bel.size))))))));clear bel AW SK DK N2 NO N3;clear hb hbn S3;clear hN;obtain ⟨bel,AW,SK,DK,N2,NO,N3,NV⟩:=S4.out;have hlast:=qsd (ai bel (ai NV DK));obtain ⟨s0,s1,s2,sf0,sf1,sf2⟩:=DK.facts;clear bel AW SK DK N2 NO N3 NV;clear S4 HM;go_wp2;obtain ⟨bel,NZ,DK⟩:=hlast.out;have hsz:=bel.size;exact bodyPost_ret (inside_res _ (w.heap.size+1) dn (.slice a7 (ws V).length c7) de er _ rfl rfl (DK.set _ _ _)) rfl ⟨⟨_,rfl,NZ.st3k DK (by decide) _ _ _⟩,below_st3 bel hsz (by omega) _ _ _⟩
theorem inside_any {w:World}{a:Option Addr}{ca:Nat}(n:Bool) (W:Nat) (x:Int) (t:Bool) (AW:Arg w a (ws W).length ca (ws W)) (hT:Tab w) (hx0:-10000000≤x) (hx1:x≤10000000) (hW:bl W≤1000) :
 Calls Tryz.prog 96 #[.bool n,.agg #[.slice a (ws W).length ca,.int .i64 x,.bool t]] w fun r w'=>DAns w.heap.size w' r (mkS n (2*W+(if t then 0 else 1)) (clampE x))∧Below w.heap.size w w':=by
 have hLW:¬ LG W:=fun k=>by have:=(LG_bl W).1 k;omega
 have e1:shiftS W 1=(2*W,0):=by
  have:=shiftS_up (X:=W) (k:=1) (V:=2*W) hLW (.inr (by omega)) (by omega)
  simpa using this
 have b2:∀ d,d≤1→bl (2*W+d)≤1001:=by
  intro d hd;have h1:=bl_lt W;have h2:2*W+d<2^(bl W+1):=by rw [Nat.pow_succ];omega
  by_cases h0:2*W+d=0
  · rw [h0,bl_zero];omega
  · have:=(Nat.pow_lt_pow_iff_right (a:=2) (by decide)).1 (Nat.lt_of_le_of_lt (bl_ge _ h0) h2)
    have:=bl_pos _ h0;omega
 have l8:∀ d,d≤1→(ws (2*W+d)).length≤8192∧¬ LG (2*W+d):=by
  intro d hd;have hb:=b2 d hd;have hn:¬ LG (2*W+d):=fun k=>by have:=(LG_bl (2*W+d)).1 k;omega
  exact ⟨by unfold LG at hn;omega,hn⟩
 have cl0:-4096≤clampE x∧clampE x≤4096:=by unfold clampE;omega
 unfold DAns;have hl:=mkS_len n (2*W+(if t then 0 else 1)) (clampE x)
 cases t with
 | true =>
   simp only [if_true,Nat.add_zero] at hl ⊢;refine inside_yes n W (2*W) 0 x _ _ _ _ _ _ AW hx0 hx1 e1 rfl rfl (l8 0 (by omega)).1 hl ?_
   intro u p q hu hA;have:=Make_any hA (hT.belows hu) n (clampE x) (by omega) (by omega)
   rw [val_ws] at this;exact this
 | false =>
   simp only [Bool.false_eq_true,if_false] at hl ⊢;refine inside_no n W (2*W) (2*W+1) x _ _ _ _ _ _ AW hx0 hx1 e1 (addS_ok (l8 1 (by omega)).2 rfl) rfl rfl (l8 0 (by omega)).1 (l8 1 (by omega)).1 hl ?_
   intro u p q hu hA;have:=Make_any hA (hT.belows hu) n (clampE x) (by omega) (by omega)
   rw [val_ws] at this;exact this
end
section
open Go.RowKit
theorem quot_begin (w:World) (n:Bool) (v:Value) (e:Int) (m:Bool) (u:Value) (f:Int) (W:World) (hW:W=(w.alloc (.cells #[.bool n,v,.int .i64 e,.bool m,u,.int .i64 f] 79)).alloc (.cells #[.bool false,.slice none 0 0,.int .i64 0] 42)) :
 Below w.heap.size w W∧W.heap.size=w.heap.size+2∧Rq W w.heap.size n v e m u f∧Tk W (w.heap.size+1) 42 (.bool false) (.slice none 0 0) (.int .i64 0):=by
 rw [hW];refine ⟨(below_alloc w _).alloc (by simp) _,by simp,(Rq.new _ _ _ _ _ _ _).alloc _,?_⟩
 have:=Tk.new (w.alloc (.cells #[.bool n,v,.int .i64 e,.bool m,u,.int .i64 f] 79)) 42 (.bool false) (.slice none 0 0) (.int .i64 0);simpa using this
theorem quotient_res (W:World) (g:Nat) (n:Bool) (v:Value) (e k:Int) (tmps:Array Value) (ht:tmps[2]?.getD undef=.pointer (some ⟨g,0,none⟩)) (hk:tmps[3]?.getD undef=.int .i64 k) (D:Tk W g 42 (.bool n) v (.int .i64 e)) :
 (results Tryz.f76 tmps).run Tryz.prog W=.ok (.tuple #[.agg #[.bool n,v,.int .i64 e],.int .i64 k]) W:=by
 obtain ⟨x0,x1,x2,_,_,_⟩:=D.facts;simp [results,Tryz.results76,ht,hk,go_sem,x0,x1,x2]
theorem quotient_core {w:World}{a b:Option Addr}{la ca lb cb:Nat}(n m:Bool) (e f:Int) (WH:Nat) (x:Int) (tt:Bool) (dn:Bool) (V:Nat) (de er:Int) (lW:(ws WH).length≤8192) (lV:(ws V).length≤8192)
 (HD:Hid (∀ u,Below w.heap.size w u→Calls Tryz.prog 97 #[.agg #[.bool n,.slice a la ca,.int .i64 e,.bool m,.slice b lb cb,.int .i64 f],.int .i64 64] u fun r w'=>(∃ v,r=.returned (.agg #[v,.int .i64 x,.bool tt])∧Nt u.heap.size w' v WH)∧Below u.heap.size u w'))
 (HI:Hid (∀ (u:World) (p:Option Addr) (q:Nat),Below w.heap.size w u→Arg u p (ws WH).length q (ws WH)→Calls Tryz.prog 96 #[.bool n,.agg #[.slice p (ws WH).length q,.int .i64 x,.bool tt]] u fun r w'=>(∃ v,r=.returned (.tuple #[.agg #[.bool dn,v,.int .i64 de],.int .i64 er])∧Nt u.heap.size w' v V)∧Below u.heap.size u w')) :
 Calls Tryz.prog 76 #[.agg #[.bool n,.slice a la ca,.int .i64 e,.bool m,.slice b lb cb,.int .i64 f]] w fun r w'=>(∃ v,r=.returned (.tuple #[.agg #[.bool dn,v,.int .i64 de],.int .i64 er])∧Nt w.heap.size w' v V)∧Below w.heap.size w w':=by
 obtain ⟨W1,hW1⟩:∃ U,U=(w.alloc (.cells #[.bool n,.slice a la ca,.int .i64 e,.bool m,.slice b lb cb,.int .i64 f] 79)).alloc (.cells #[.bool false,.slice none 0 0,.int .i64 0] 42):=⟨_,rfl⟩;obtain ⟨hB,hz1,RQ,DK⟩:=quot_begin w n _ e m _ f W1 hW1;have T1:=hid (HD.out W1 hB);have T2:=hid (HD.out W1.drew hB.drew);obtain ⟨x0,x1,x2,x3,x4,x5⟩:=RQ.facts;obtain ⟨s0,s1,s2,sf0,sf1,sf2⟩:=DK.facts;have hs1:w.heap.size+2≤W1.heap.size:=by omega
 have SB:=(qsd (ai hB (ai RQ DK)));clear hB hz1 RQ DK HD;go_enter Tryz.func76,Tryz.ntmps76
 go_wp2_with fail
 rw [←hW1];clear hW1;have ne1:w.heap.size≠w.heap.size+1:=by omega
 have ne2:w.heap.size+1≠w.heap.size:=by omega
 go_region_held3 (fun w'=>w'.cell? ⟨w.heap.size,0,none⟩=some (.bool n)∧w'.cell? ⟨w.heap.size,1,none⟩=some (.slice a la ca)∧w'.cell? ⟨w.heap.size,2,none⟩=some (.int .i64 e)∧w'.cell? ⟨w.heap.size,3,none⟩=some (.bool m)∧w'.cell? ⟨w.heap.size,4,none⟩=some (.slice b lb cb)∧w'.cell? ⟨w.heap.size,5,none⟩=some (.int .i64 f)) (go_keep) (first
  | (go_at_call 97
     first | with_reducible refine T1.out.mono ?_ | with_reducible refine T2.out.mono ?_
     rintro r u1 ⟨⟨v,rfl,hN⟩,hb⟩;obtain ⟨a1,c1,rfl,_⟩:=hN.arg (by omega)
     have hb1:Below W1.heap.size W1 u1:=by first | exact hb | exact ((Below.refl _ W1).drew).trans (hb.mono (Nat.le_refl _))
     have BW:Below w.heap.size w u1:=SB.out.1.trans (hb1.mono (by omega))
     have HI1:=hid (HI.out u1 _ _ BW (hN.arg' (by omega)).2)
     obtain ⟨p0,p1,p2,pf0,pf1,pf2⟩:=(SB.out.2.2.below hb1).facts;obtain ⟨q0,q1,q2,q3,q4,q5⟩:=(SB.out.2.1.below hb1).facts;have S1:=(qsd (ai BW (ai (SB.out.2.1.below hb1) (SB.out.2.2.below hb1))));clear hb hb1 BW hN)
  | (go_at_call 96
     with_reducible refine HI1.out.mono ?_
     rintro r u2 ⟨⟨v,rfl,hN⟩,hb⟩;obtain ⟨a4,c4,rfl,_⟩:=hN.arg (by omega)
     have LD:=S1.out.2.2.below hb;obtain ⟨t0,t1,t2,tf0,tf1,tf2⟩:=LD.facts;obtain ⟨i0,i1,i2,i3,i4,i5⟩:=(S1.out.2.1.below hb).facts;have FV:=qsd (ai (S1.out.1.trans (hb.mono S1.out.1.size)) (ai (hN.mono S1.out.1.size) LD));clear hN hb LD))
 all_goals (
  go_wp2;obtain ⟨bel,NZ,DK⟩:=FV.out;have hsz:=bel.size
  first
  | exact bodyPost_ret (quotient_res _ (w.heap.size+1) dn (.slice a4 (ws V).length c4) de er _ rfl rfl (DK.set _ _ _)) rfl ⟨⟨_,rfl,NZ.st3k DK (by decide) _ _ _⟩,below_st3 bel hsz (by omega) _ _ _⟩
  | exact bodyPost_ret (quotient_res _ (w.heap.size+1) dn (.slice a4 (ws V).length c4) de er _ rfl rfl (DK.set _ _ _)) rfl ⟨⟨_,rfl,NZ.st3k DK (by decide) _ _ _⟩,(below_st3 bel hsz (by omega) _ _ _).drew⟩)
theorem quotient_any {w:World}{a b:Option Addr}{ca cb:Nat}(n m:Bool) (X Y:Nat) (e f:Int)
 (AX:Arg w a (ws X).length ca (ws X)) (AY:Arg w b (ws Y).length cb (ws Y)) (hT:Tab w) (hX:X=0∨X%2=1) (hY:Y≠0)
 (he0:-1048576≤e) (he1:e≤1048576) (hf0:-1048576≤f) (hf1:f≤1048576) (bX:bl X≤262144) (bY:bl Y≤262144) :
 Calls Tryz.prog 76 #[.agg #[.bool n,.slice a (ws X).length ca,.int .i64 e,.bool m,.slice b (ws Y).length cb,.int .i64 f]] w fun r w' =>
  DAns w.heap.size w' r (mkS n (2*whoS X Y 64+(if atS X Y 64 then 0 else 1)) (clampE (e-f-byS X Y 64-cutS Y 64)))∧Below w.heap.size w w':=by
 have D:=divS_facts X Y 64 hX hY (by omega) (by omega) bX bY
 have bW:bl (whoS X Y 64)≤65:=bl_lt_pow D.most;have hc:cutS Y 64≤64:=by unfold cutS;omega
 have hb:-262144≤byS X Y 64∧byS X Y 64≤264000:=by have:=D.blh;unfold byS;omega
 unfold DAns;refine quotient_core n m e f (whoS X Y 64) (e-f-byS X Y 64-cutS Y 64) (atS X Y 64) _ _ _ _ (len_bl8 (by omega)) (mkS_len _ _ _) ?_ ?_
 · intro u hu
   exact divided11 n m X Y e f 64 (AX.below hu) (AY.below hu) hX hY he0 he1 hf0 hf1 (by omega) (by omega) bX bY
 · intro u p q hu hA
   exact inside_any n (whoS X Y 64) _ (atS X Y 64) hA (hT.belows hu) (by omega) (by omega) (by omega)
end
end Go.Proofs.YtopgffjnejaijaaGreatDoor
