import Ieee.Arith
import Derived.WalkKit
import Derived.Test.YtjppdacikihpdaaGreatDoorProg
import Derived.WalkLawsBesides
import Derived.WalkSpells
import Derived.Laws.Externs
import Derived.Test.YtjppdacikihpdaaGreatDoorW24x
import Derived.BigQuiet
import Derived.ArgAppend
import Derived.Maps.AppendAt
import Derived.WalkMore
import Derived.Test.YtjppdacikihpdaaGreatDoorW14x
import Derived.ProofKit
import Derived.OpenShut
import Derived.ChangeOld
import Derived.SizedLaws
set_option linter.unusedVariables false
set_option linter.unusedSimpArgs false
set_option maxHeartbeats 16000000
set_option maxRecDepth 20000
namespace Go.Proofs.YtjppdacikihpdaaGreatDoor
namespace B
open Ieee
def val(f:Format)(r:Nat):Nat:=if r<f.binade then r else(f.binade+r%f.binade)*2^(r/f.binade-1)
theorem jh(f:Format):0<f.binade:=aU _
theorem val_succ(f:Format)(r:Nat):val f (r+1)=val f r+2^(r/f.binade-1):=by
 have hb:=jh f;unfold val;generalize hB:f.binade=B at *
 by_cases h:r<B
 · rw[if_pos h,gK h]
   by_cases h1:r+1<B
   · rw[if_pos h1]
   · have e:r+1=B:=by omega
     rw[if_neg h1,e,Nat.mod_self,Nat.div_self hb];simp
 · have h1:¬ r+1<B:=by omega
   rw[if_neg h,if_neg h1]
   have hq:1<=r/B:=by
    have:=Nat.div_le_div_right (c:=B) (kT h);rw[Nat.div_self hb] at this;exact this
   have hm:=gP r hb;have hd:=mZ r B;generalize r/B=q at *;generalize hmm:r%B=m at *;obtain⟨q,rfl⟩:∃ k,q=k+1:=⟨q-1,by omega⟩
   by_cases h2:m+1<B
   · have e:r+1=B*(q+1)+(m+1):=by omega
     have e1:(r+1)%B=m+1:=by rw[e,Nat.mul_add_mod,iY h2]
     have e2:(r+1)/B=q+1:=by rw[e,Nat.mul_add_div hb,gK h2]
     rw[e1,e2,lZ,<-mX,fC,gI]
   · have hm1:m+1=B:=by omega
     have e:r+1=B*(q+2):=by rw[show q+2=(q+1)+1 from rfl,Nat.mul_succ];omega
     have e1:(r+1)%B=0:=by rw[e,Nat.mul_mod_right]
     have e2:(r+1)/B=q+2:=by rw[e,uK _ hb]
     rw[e1,e2];have:B+m=2*B-1:=by omega
     have h3:(B+m)*2^q+2^q=(2*B)*2^q:=by
      rw[<-Nat.succ_mul];congr 1;omega
     show(B+0)*2^(q+1)=(B+m)*2^q+2^q;rw[h3,dC,gJ,bJ 2 B,aJ,bJ 2]
theorem uY(f:Format)(r:Nat):val f r<val f (r+1):=by
 rw[val_succ];exact Nat.lt_add_of_pos_right (aU _)
theorem bN(f:Format){r s:Nat}(h:r<s):val f r<val f s:=by
 induction s with
 | zero=>omega
 | succ s ih =>
   by_cases e:r=s
   · subst e;exact uY f r
   · exact Nat.lt_trans (ih (by omega)) (uY f s)
theorem gX(f:Format){r s:Nat}:val f r<val f s↔r<s:=by
 constructor
 · intro h
   by_cases e:r<s
   · exact e
   · by_cases e2:r=s
     · subst e2;omega
     · have:=bN f (show s<r by omega);omega
 · exact bN f
theorem val_inj(f:Format){r s:Nat}(h:val f r=val f s):r=s:=by
 by_cases e:r<s
 · have:=bN f e;omega
 · by_cases e2:s<r
   · have:=bN f e2;omega
   · omega
theorem val_zero(f:Format):val f 0=0:=by
 unfold val;rw[if_pos (jh f)]
def sg(s:Bool)(r:Nat):Int:=if s then -(r:Int) else r
theorem zO(f:Format)(s t:Bool)(r u:Nat):sg s (val f r)<sg t (val f u)↔sg s r<sg t u:=by
 have h1:=@gX f r u;have h2:=@gX f u r;have z:=val_zero f;have h3:=@gX f 0 r;have h4:=@gX f 0 u
 cases s <;> cases t <;> simp only[sg,if_true,if_false,dP] <;> omega
theorem L8(s:Bool)(m k:Nat):signed s m k=sg s (m*2^k):=by
 unfold signed sg;rw[Be]
theorem Qag{P:Prop}(h:P:=by
 unfold Format.word
 cases s
 · simp only[dP,if_false];exact iY (by omega)
 · simp only[if_true];rw[Nat.add_mod_left];exact iY (by omega)):P:=h
theorem x7{P:Prop}(h:P:=by
 unfold Format.word
 cases s
 · simp only[dP,if_false];rw[gK (by omega)];rfl
 · simp only[if_true];rw[Nat.add_div_left _ (by omega),gK (by omega)];rfl):P:=h
theorem l9(f:Format)(s:Bool)(r:Nat)(hr:r<f.infRung)(hs:f.infRung<f.signWeight) :
 ∃ m:Nat,∃ k:Nat,f.read (f.word s r)=.number s m (f.leastPlace+k)/\m*2^k=val f r:=by
 have e1:(f.word s r/f.signWeight%2==1)=s:=by
  exact x7
 have e2:f.word s r%f.signWeight=r:=by
  exact Qag
 unfold Format.read;simp only[e1,e2];unfold val
 by_cases h:r<f.binade
 · rw[if_pos h,if_pos h];exact⟨r,0,by simp,by simp⟩
 · rw[if_neg h,if_neg h,if_pos hr];exact⟨_,_,rfl,rfl⟩
theorem rz(f:Format)(s:Bool)(hs:f.infRung<f.signWeight)(hb:f.binade<=f.infRung) :
 f.read (f.word s f.infRung)=.infinity s:=by
 have e1:(f.word s f.infRung/f.signWeight%2==1)=s:=by
  exact x7
 have e2:f.word s f.infRung%f.signWeight=f.infRung:=by
  exact Qag
 unfold Format.read;simp only[e1,e2];rw[if_neg (by omega),if_neg (by omega),if_pos trivial]
theorem P5(f:Format)(w:Nat)(h:f.infRung<w%f.signWeight)(hb:f.binade<=f.infRung) :
 f.read w=.nan (w/f.signWeight%2==1) (w%f.signWeight-f.infRung):=by
 unfold Format.read;simp only;rw[if_neg (by omega),if_neg (by omega),if_neg (by omega)]
theorem xC(a b c d:Int)(h1:a<b↔c<d)(h2:b<a↔d<c):compare a b=compare c d:=by
 by_cases x:a<b
 · rw[uQ.2 x,uQ.2 (h1.1 x)]
 · by_cases y:b<a
   · rw[uR.2 y,uR.2 (h2.1 y)]
   · have e1:a=b:=by omega
     have e2:c=d:=by
      have n1:=mt h1.2 x;have n2:=mt h2.2 y;omega
     rw[uS.2 e1,uS.2 e2]
theorem P6(s:Bool)(a k:Nat):sg s (a*k)=sg s a*(k:Int):=by
 unfold sg;cases s <;> simp[Int.neg_mul]
theorem L9(s t:Bool)(m n j k:Nat)(p:Int) :
 Datum.order (.number s m (p+j)) (.number t n (p+k))=some (compare (sg s (m*2^j)) (sg t (n*2^k))):=by
 unfold Datum.order;simp only[L8];congr 1;have hb:∃ c:Nat,min (p+(j:Int)) (p+(k:Int))=p+c:=⟨min j k,by omega⟩;obtain⟨c,hc⟩:=hb;have hj:(p+(j:Int)-min (p+(j:Int)) (p+(k:Int))).toNat=j-c:=by rw[hc];omega
 have hk:(p+(k:Int)-min (p+(j:Int)) (p+(k:Int))).toNat=k-c:=by rw[hc];omega
 have cj:c<=j:=by omega
 have ck:c<=k:=by omega
 rw[hj,hk];have ej:m*2^j=m*2^(j-c)*2^c:=by rw[aJ,<-aI,Bf cj]
 have ek:n*2^k=n*2^(k-c)*2^c:=by rw[aJ,<-aI,Bf ck]
 rw[ej,ek,P6 s (m*2^(j-c)),P6 t (n*2^(k-c))];have hp:(0:Int)<((2^c:Nat):Int):=by exact_mod_cast aU c
 refine xC _ _ _ _ ?_ ?_
 · exact⟨fun h=>Bg h hp,fun h=>Bh h (wR hp)⟩
 · exact⟨fun h=>Bg h hp,fun h=>Bh h (wR hp)⟩
theorem Qae{P:Prop}(h:P:=by
 unfold Datum.order;simp only
 cases s <;> cases t <;> simp only[sg,if_true,if_false,dP] <;>
  first | rw[uR.2 (by omega)] | rw[uQ.2 (by omega)]):P:=h
theorem Hq(f:Format)(hs:f.infRung<f.signWeight)(hb:f.binade<=f.infRung)(s t:Bool)(r u:Nat)(hr:r<=f.infRung)(hu:u<=f.infRung) :
 f.order (f.word s r) (f.word t u)=some (compare (sg s r) (sg t u)):=by
 have hB:=jh f;unfold Format.order
 by_cases r1:r=f.infRung
 · by_cases u1:u=f.infRung
   · subst r1 u1;rw[rz f s hs hb,rz f t hs hb];unfold Datum.order;simp only;congr 1
     cases s <;> cases t <;> simp only[sg,fH,fI,if_true,if_false,dP]
     · rw[uS.2 rfl];rfl
     · rw[uR.2 (by omega)];rfl
     · rw[uQ.2 (by omega)];rfl
     · rw[uS.2 rfl];rfl
   · obtain⟨n,k,e,hv⟩:=l9 f t u (by omega) hs;subst r1;rw[rz f s hs hb,e];exact Qae
 · obtain⟨m,j,e,hv⟩:=l9 f s r (by omega) hs
   by_cases u1:u=f.infRung
   · subst u1;rw[rz f t hs hb,e];exact Qae
   · obtain⟨n,k,e2,hv2⟩:=l9 f t u (by omega) hs;rw[e,e2,L9,hv,hv2];congr 1;exact xC _ _ _ _ (zO f s t r u) (zO f t s u r)
def Xx(n g:Nat):Nat:=n/g+(decide (g<2*(n%g)) || (g==2*(n%g)&&n/g%2==1)).toNat
theorem Ee(neg:Bool)(n drop:Nat):Toward.even.cut neg n drop=Xx n (2^drop):=by
 unfold Toward.cut Xx;simp only[Be,gI]
 by_cases h:drop<=n.log2+2
 · rw[ik h]
 · rw[Nat.min_eq_right (by omega)];have hn:n<2^(n.log2+1):=Nat.lt_log2_self;have h1:n<2^(n.log2+2):=by rw[dC];omega
   have h2:2^(n.log2+2)<=2^drop:=eB (by omega) (by omega);have h3:2*n<2^(n.log2+2):=by rw[dC];omega
   rw[gK h1,iY h1,gK (show n<2^drop by omega),iY (show n<2^drop by omega)];have a1:decide (2^(n.log2+2)<2*n)=false:=by simp;omega
   have a2:decide (2^drop<2*n)=false:=by simp;omega
   simp only[a1,a2,Nat.zero_mod];simp
theorem zP(n g:Nat)(hg:0<g):Xx (n*g) g=n:=by
 unfold Xx;rw[Nat.mul_div_cancel _ hg,Nat.mul_mod_left];have:decide (g<2*0)=false:=by simp
 have h2:(g==2*0)=false:=by simp;omega
 rw[this,h2];simp
theorem J4(n:Nat):Xx n 1=n:=by
 have:=zP n 1 (by omega);rwa [dM] at this
theorem y9(f:Format)(neg:Bool)(mag k r:Nat)(hr:r<f.infRung)(h:mag*2^k=val f r) :
 f.nearest neg mag (f.leastPlace+k)=f.word neg r:=by
 unfold Format.nearest
 by_cases hm:mag=0
 · rw[if_pos hm];have:val f r=val f 0:=by rw[val_zero,<-h,hm,dS]
   rw[val_inj f this]
 · rw[if_neg hm];simp only[Ee,Be];have hl:=(Nat.log2_eq_iff hm (k:=mag.log2)).1 rfl;generalize mag.log2=L at *;have hB:f.binade=2^f.fractionBits:=rfl;have hb:=jh f;unfold val at h
   by_cases hlt:r<f.binade
   · rw[if_pos hlt] at h
     have h1:2^(L+k)<2^f.fractionBits:=by
      rw[aI,<-hB];exact gQ (di _ hl.1) (by omega)
     have h2:=(jI (a:=2) (by omega)).1 h1;have e:max (f.leastPlace+(k:Int)+(L:Int)-(f.fractionBits:Int)) f.leastPlace=f.leastPlace:=by omega
     rw[e];have e1:(f.leastPlace+(k:Int)-f.leastPlace).toNat=k:=by omega
     have e2:(f.leastPlace-(f.leastPlace+(k:Int))).toNat=0:=by omega
     have e3:(f.leastPlace-f.leastPlace).toNat=0:=by omega
     rw[e1,e2,e3,h,fw,J4,dS,cO,ik (by omega)]
   · rw[if_neg hlt] at h
     have hq:1<=r/f.binade:=by
      have:=Nat.div_le_div_right (c:=f.binade) (kT hlt);rw[Nat.div_self hb] at this;exact this
     have hmm:=gP r hb;have hd:=mZ r f.binade;generalize r/f.binade=q at *;generalize r%f.binade=m at *;obtain⟨q,rfl⟩:∃ j,q=j+1:=⟨q-1,by omega⟩;rw[lZ] at h
     -- the Yo
     have lo1:2^(L+k)<=mag*2^k:=by rw[aI];exact di _ hl.1
     have hi1:mag*2^k<2^(L+1+k):=by rw[aI];exact fe hl.2 (aU _)
     have lo2:2^(f.fractionBits+q)<=(f.binade+m)*2^q:=by rw[aI];exact di _ (by omega)
     have hi2:(f.binade+m)*2^q<2^(f.fractionBits+1+q):=by
      rw[aI,dC];exact fe (by omega) (aU _)
     have c1:=(jI (a:=2) (by omega)).1 (show 2^(L+k)<2^(f.fractionBits+1+q) by omega);have c2:=(jI (a:=2) (by omega)).1 (show 2^(f.fractionBits+q)<2^(L+1+k) by omega);have cL:L+k=f.fractionBits+q:=by omega
     have e:max (f.leastPlace+(k:Int)+(L:Int)-(f.fractionBits:Int)) f.leastPlace=f.leastPlace+q:=by omega
     rw[e];have e3:(f.leastPlace+(q:Int)-f.leastPlace).toNat=q:=by omega
     rw[e3]
     have fin:q*f.binade+(f.binade+m)=r:=by
      rw[<-hd,Nat.mul_succ,bJ q];omega
     by_cases hk:q<=k
     · have e1:(f.leastPlace+(k:Int)-(f.leastPlace+(q:Int))).toNat=k-q:=by omega
       have e2:(f.leastPlace+(q:Int)-(f.leastPlace+(k:Int))).toNat=0:=by omega
       have hh:mag*2^(k-q)=f.binade+m:=by
        have:mag*2^(k-q)*2^q=(f.binade+m)*2^q:=by
         rw[aJ,<-aI,Bf hk];exact h
        exact nR (aU _) this
       rw[e1,e2,hh,fw,J4,fin,ik (by omega)]
     · have e1:(f.leastPlace+(k:Int)-(f.leastPlace+(q:Int))).toNat=0:=by omega
       have e2:(f.leastPlace+(q:Int)-(f.leastPlace+(k:Int))).toNat=q-k:=by omega
       have hh:mag=(f.binade+m)*2^(q-k):=by
        have:mag*2^k=(f.binade+m)*2^(q-k)*2^k:=by
         rw[aJ,<-aI,Bf (by omega)];exact h
        exact nR (aU _) this
       rw[e1,e2,fw,dM,hh,zP _ _ (aU _),fin,ik (by omega)]
end B
namespace B
def bw(s:Bool)(e f:Nat):Nat:=s.toNat*9223372036854775808+e*4503599627370496+f
theorem bw_of(b:Nat)(hb:b<18446744073709551616):∃ s e f,e<2048/\f<4503599627370496/\b=bw s e f:=by
 refine⟨decide (9223372036854775808<=b),b%9223372036854775808/4503599627370496,b%4503599627370496,by omega,by omega,?_⟩;unfold bw
 by_cases h:9223372036854775808<=b
 · rw[decide_eq_true h];simp only[fH];omega
 · rw[decide_eq_false h];simp only[fI];omega
theorem qr{P:Prop}(h:P:=by
 unfold bw;cases s <;> simp only[fH,fI] <;> omega):P:=h
theorem om(s:Bool)(e f:Nat)(he:e<2048)(hf:f<4503599627370496):bw s e f<18446744073709551616:=by
 exact qr
theorem Mc(n:Int)(h0:0<=n)(h1:n<2^63):IntKind.i64.wrap n=n:=by rw[Pg];omega
theorem wraps_u64(n:Int)(h0:0<=n)(h1:n<2^64):IntKind.u64.wrap n=n:=by
 simp[IntKind.wrap,IntKind.bits,IntKind.signed];omega
theorem P7(s:Bool)(e f:Nat)(he:e<2048)(hf:f<4503599627370496):bits .and .i64 ((bw s e f:Int)/4503599627370496) 2047=(e:Int):=by
 have hl:=om s e f he hf;have h:=bits_mask .i64 63 (by decide) Mc 11 (by decide) ((bw s e f:Int)/4503599627370496) (by omega) (by omega);rw[show((2:Int)^11-1)=2047 from rfl] at h;rw[h];exact qr
theorem UE(s:Bool)(e f:Nat)(he:e<2048)(hf:f<4503599627370496):bits .and .u64 ((bw s e f:Nat):Int) 4503599627370495=(f:Int):=by
 have hl:=om s e f he hf;have h:=bits_mask .u64 64 (by decide) wraps_u64 52 (by decide) (bw s e f:Int) (by omega) (by omega);rw[show((2:Int)^52-1)=4503599627370495 from rfl] at h;rw[h];exact qr
theorem UF(s:Bool)(e f:Nat)(he:e<2048)(hf:f<4503599627370496):bits .and .u64 ((bw s e f:Int)/9223372036854775808) 1=(s.toNat:Int):=by
 have hl:=om s e f he hf;have h:=bits_mask .u64 64 (by decide) wraps_u64 1 (by decide) ((bw s e f:Int)/9223372036854775808) (by omega) (by omega);rw[show((2:Int)^1-1)=1 from rfl] at h;rw[h];exact qr
theorem UG(f:Nat)(hf:f<4503599627370496):bits .or .u64 (f:Int) 4503599627370496=(f:Int)+4503599627370496:=by
 have hc:bits .or .u64 (f:Int) 4503599627370496=bits .or .u64 4503599627370496 (f:Int):=by simp only[bits,BitVec.or_comm]
 rw[hc,bits_join .u64 64 (by decide) wraps_u64 52 4503599627370496 (f:Int) (by decide) (by decide) (by decide) (by omega) (by omega) (by omega)];omega
theorem UH(x:Int)(h0:0<=x)(h1:x<9223372036854775808):bits .or .u64 x 9223372036854775808=x+9223372036854775808:=by
 have hc:bits .or .u64 x 9223372036854775808=bits .or .u64 9223372036854775808 x:=by simp only[bits,BitVec.or_comm]
 rw[hc,bits_join .u64 64 (by decide) wraps_u64 63 9223372036854775808 x (by decide) (by decide) (by decide) h0 (by omega) (by omega)];omega
def pv(neg:Bool)(c x:Int)(f:Int):Value:=.agg #[.bool neg,.int .i64 c,.int .i64 x,.int .u64 f]
def cls(e f:Nat):Int:=if e=2047 then(if f=0 then 3 else 4) else if e=0 then(if f=0 then 0 else 1) else 2
def xp(e:Nat):Int:=if e=2047 then 0 else if e=0 then -1074 else(e:Int)-1075
def fr(e f:Nat):Int:=if e=2047 then 0 else if e=0 then(f:Int) else(f:Int)+4503599627370496
def ng(s:Bool)(e f:Nat):Bool:=if e=2047/\f≠0 then false else s
def splitV(s:Bool)(e f:Nat):Value:=pv (ng s e f) (cls e f) (xp e) (fr e f)
theorem Qaz{P:Prop}(h:P:=by
 simp[splitV,pv,ng,cls,xp,fr,h,this]):P:=h
theorem xD(s:Bool)(e f:Nat)(h:e=2047)(h2:((f:Int) != 0)=true):splitV s e f=.agg #[.bool false,.int .i64 4,.int .i64 0,.int .u64 0]:=by
 have:f≠0:=by intro h;subst h;simp at h2
 exact Qaz
theorem xE(s:Bool)(e f:Nat)(h:e=2047)(h2:((f:Int) != 0)=false):splitV s e f=.agg #[.bool s,.int .i64 3,.int .i64 0,.int .u64 0]:=by
 have:f=0:=by simp at h2;omega
 exact Qaz
theorem qA(s:Bool)(e f:Nat)(h:e=0)(h2:((f:Int)==0)=true):splitV s e f=.agg #[.bool s,.int .i64 0,.int .i64 (-1074),.int .u64 0]:=by
 have:f=0:=by simp at h2;omega
 exact Qaz
theorem rA(s:Bool)(e f:Nat)(h:e=0)(h2:((f:Int)==0)=false):splitV s e f=.agg #[.bool s,.int .i64 1,.int .i64 (-1074),.int .u64 f]:=by
 have:f≠0:=by intro h;subst h;simp at h2
 exact Qaz
theorem rC(s:Bool)(e f:Nat)(h:e≠2047)(h2:e≠0):splitV s e f=.agg #[.bool s,.int .i64 2,.int .i64 ((e:Int)-1075),.int .u64 ((f:Int)+4503599627370496)]:=by
 simp[splitV,pv,ng,cls,xp,fr,h,h2]
theorem rD(e n:Nat)(h:((e:Int)==(n:Int))=true):e=n:=by
 have:(e:Int)=n:=by simpa using h
 omega
theorem UI(s:Bool)(e f:Nat)(he:e<2048)(hf:f<4503599627370496):(bw s e f:Int)/4503599627370496%2048=e:=by
 exact qr
theorem P8(s:Bool)(e f:Nat)(hf:f<4503599627370496):(bw s e f:Int)%4503599627370496=f:=by
 exact qr
theorem P9(s:Bool)(e f:Nat)(he:e<2048)(hf:f<4503599627370496):(bw s e f:Int)/9223372036854775808%2=s.toNat:=by
 exact qr
def odd(e f:Nat):Bool:=e==2047&&f != 0
theorem fP(e f:Nat)(h:odd e f=false):¬ (e=2047/\f≠0):=by
 rintro ⟨h1,h2⟩;simp[odd,h1,h2] at h
theorem kC(e f:Nat)(h:odd e f=true):e=2047/\f≠0:=by
 simpa [odd] using h
def cb(s:Bool)(e f:Nat):Nat:=if e=2047/\f≠0 then 9221120237041090560 else bw s e f
theorem lG(s:Bool)(e f:Nat)(h:e=2047/\f≠0):cb s e f=9221120237041090560:=if_pos h
theorem iE(s:Bool)(e f:Nat)(h:¬ (e=2047/\f≠0)):cb s e f=bw s e f:=if_neg h
theorem Qa(s:Bool)(e f:Nat)(he:e<2048)(hf:f<4503599627370496):(bw s e f:Int)%9223372036854775808=(e:Int)*4503599627370496+f:=by
 exact qr
theorem za:Ieee.double.infRung=9218868437227405312:=by decide
theorem Qb:Ieee.double.signWeight=9223372036854775808:=by decide
theorem Hr:Ieee.double.binade=4503599627370496:=by decide
theorem dHs:Ieee.double.infRung<Ieee.double.signWeight:=by decide
theorem dHb:Ieee.double.binade<=Ieee.double.infRung:=by decide
theorem BK(s:Bool)(e f:Nat):bw s e f=Ieee.double.word s (e*4503599627370496+f):=by
 unfold bw Ieee.Format.word;rw[Qb]
 cases s <;> simp[mX]
theorem uZ(s:Bool)(e f:Nat)(hf:f<4503599627370496)(h:odd e f=true):Ieee.double.read (bw s e f)=.nan s f:=by
 have h0:e=2047/\f≠0:=by simpa [odd] using h
 have e1:bw s e f%Ieee.double.signWeight=e*4503599627370496+f:=by
  rw[Qb];exact qr
 have e2:(bw s e f/Ieee.double.signWeight%2==1)=s:=by
  rw[Qb]
  cases s
  · have:bw false e f/9223372036854775808%2=0:=by unfold bw;simp only[fI];omega
    rw[this];rfl
  · have:bw true e f/9223372036854775808%2=1:=by unfold bw;simp only[fH];omega
    rw[this];rfl
 rw[P5 Ieee.double _ (by rw[e1,za];omega) dHb,e1,e2,za,show e*4503599627370496+f-9218868437227405312=f from by omega]
theorem J5(e f:Nat)(he:e<2048)(hf:f<4503599627370496)(h:odd e f=false):e*4503599627370496+f<=Ieee.double.infRung:=by
 rw[za];have:=fP e f h;omega
theorem pE(s:Bool)(e f:Nat)(he:e<2048)(hf:f<4503599627370496)(h:odd e f=false):¬ bw s e f=9221120237041090560:=by
 have:=fP e f h;exact qr
def pl(s:Bool)(e f:Nat):Int:=sg s (e*4503599627370496+f)
theorem ord(s t:Bool)(e f u v:Nat)(he:e<2048)(hf:f<4503599627370496)(hu:u<2048)(hv:v<4503599627370496) :
 FloatKind.f64.format.order (bw s e f) (bw t u v)=if odd e f || odd u v then none else some (compare (pl s e f) (pl t u v)):=by
 show Ieee.double.order _ _=_
 by_cases h1:odd e f=true
 · rw[h1];show(Ieee.double.read (bw s e f)).order _=none;rw[uZ s e f hf h1];rfl
 · by_cases h2:odd u v=true
   · rw[h2];show(Ieee.double.read (bw s e f)).order (Ieee.double.read (bw t u v))=if (odd e f || true)=true then none else _
     rw[uZ t u v hv h2,Bool.or_true,if_pos rfl]
     cases Ieee.double.read (bw s e f) <;> rfl
   · have h3:odd e f=false:=by simpa using h1
     have h4:odd u v=false:=by simpa using h2
     rw[h3,h4,BK,BK];rw[Hq Ieee.double dHs dHb s t _ _ (J5 e f he hf h3) (J5 u v hu hv h4)];simp[pl]
theorem Ht(s:Bool)(e f:Nat)(he:e<2048)(hf:f<4503599627370496):(FloatKind.f64.format.order (bw s e f) (bw s e f) != some .eq)=odd e f:=by
 rw[ord s s e f e f he hf he hf,Bool.or_self,uS.2 rfl]
 cases odd e f <;> rfl
end B
namespace B
open Go.RowKit
theorem Md(s:Bool)(e f:Nat)(he:e<2048)(hf:f<4503599627370496)(w:World) :
 Calls Tryz.prog 122 #[.int .u64 (bw s e f),.int .u64 52,.int .u64 11,.int .i64 (-1074)] w fun r w'=>r=.returned (splitV s e f)/\Below w.heap.size w w':=by
 have hl:=om s e f he hf;have h1:=P7 s e f he hf;have h2:=UE s e f he hf;have h3:=UF s e f he hf;have h4:=UG f hf;have h5:((s.toNat:Int)==1)=s:=by cases s <;> rfl
 go_enter Tryz.func122,Tryz.ntmps122;go_wp2
 · rw[xD s e f (by omega) ‹_›];exact aB (v:=.agg #[.bool false,.int .i64 4,.int .i64 0,.int .u64 0]) (by simp[results,Tryz.results122,go_sem]) rfl ⟨rfl,(by repeat (first | exact ay _ _ | assumption | exact ak _ | (simp;done) | (simp;omega) | refine Below.alloc ?_ ?_ _ | refine Below.setCell ?_ ?_ _ | refine gW ?_))⟩
 · rw[xE s e f (by omega) ‹_›];exact aB (v:=.agg #[.bool s,.int .i64 3,.int .i64 0,.int .u64 0]) (by simp[results,Tryz.results122,go_sem]) rfl ⟨rfl,(by repeat (first | exact ay _ _ | assumption | exact ak _ | (simp;done) | (simp;omega) | refine Below.alloc ?_ ?_ _ | refine Below.setCell ?_ ?_ _ | refine gW ?_))⟩
 · rw[qA s e f (by omega) ‹_›];exact aB (v:=.agg #[.bool s,.int .i64 0,.int .i64 (-1074),.int .u64 0]) (by simp[results,Tryz.results122,go_sem]) rfl ⟨rfl,(by repeat (first | exact ay _ _ | assumption | exact ak _ | (simp;done) | (simp;omega) | refine Below.alloc ?_ ?_ _ | refine Below.setCell ?_ ?_ _ | refine gW ?_))⟩
 · rw[rA s e f (by omega) ‹_›];exact aB (v:=.agg #[.bool s,.int .i64 1,.int .i64 (-1074),.int .u64 f]) (by simp[results,Tryz.results122,go_sem]) rfl ⟨rfl,(by repeat (first | exact ay _ _ | assumption | exact ak _ | (simp;done) | (simp;omega) | refine Below.alloc ?_ ?_ _ | refine Below.setCell ?_ ?_ _ | refine gW ?_))⟩
 · rw[rC s e f (by omega) (by omega)];refine aB (v:=.agg #[.bool s,.int .i64 2,.int .i64 ((e:Int)-1075),.int .u64 ((f:Int)+4503599627370496)]) (by simp[results,Tryz.results122,go_sem];try omega) rfl ⟨rfl,(by repeat (first | exact ay _ _ | assumption | exact ak _ | (simp;done) | (simp;omega) | refine Below.alloc ?_ ?_ _ | refine Below.setCell ?_ ?_ _ | refine gW ?_))⟩
end B
namespace B
theorem aM(b:Nat)(w:World):(callFunc 25 #[.float .f64 b]).run Tryz.prog w=.ok (.value (.int .u64 b)) w:=by
 rw[run_callFunc_extern (e:=Extern.MathFloatBits.float64bits) Tryz.func25 (by kernel_rfl) (by kernel_rfl) (by kernel_rfl) (by kernel_rfl)];rfl
theorem aF(n:Int)(w:World):(callFunc 28 #[.int .u64 n]).run Tryz.prog w=.ok (.value (.float .f64 n.toNat)) w:=by
 rw[run_callFunc_extern (e:=Extern.MathFloatBits.float64frombits) Tryz.func28 (by kernel_rfl) (by kernel_rfl) (by kernel_rfl) (by kernel_rfl)];rfl
end B
namespace B
open Go.RowKit
attribute [local go_sem] aM aF
theorem aO{W w1:World}(hb:Below W.heap.size W w1):(∀ b o,b<W.heap.size->w1.cell? ⟨b,o,none⟩=W.cell? ⟨b,o,none⟩)/\(∀ b o,b<W.heap.size->w1.frozen? ⟨b,o,none⟩=W.frozen? ⟨b,o,none⟩) :=
 ⟨fun b o h=>hb.cell (p:=⟨b,o,none⟩) h,fun b o h=>hb.frozen (p:=⟨b,o,none⟩) h⟩
theorem Me(s:Bool)(e f:Nat)(he:e<2048)(hf:f<4503599627370496)(w:World) :
 Calls Tryz.prog 122 #[.int .u64 (bw s e f),.int .u64 52,.int .u64 11,.int .i64 (-1074)] w fun r w'=>r=.returned (.agg #[.bool (ng s e f),.int .i64 (cls e f),.int .i64 (xp e),.int .u64 (fr e f)])/\Below w.heap.size w w' :=
 Md s e f he hf w
theorem UJ(w:World):Calls Tryz.prog 60 #[] w fun r w'=>r=.returned (.float .f64 9221120237041090560)/\w'=w:=by
 go_enter Tryz.func60,Tryz.ntmps60;go_wp2;exact Xs
theorem ma(s:Bool)(e f:Nat)(he:e<2048)(hf:f<4503599627370496)(w:World) :
 Calls Tryz.prog 76 #[.float .f64 (bw s e f)] w fun r w'=>r=.returned (.agg #[.bool (ng s e f),.int .i64 (cls e f),.int .i64 (xp e),.int .u64 (fr e f)])/\Below w.heap.size w w':=by
 go_enter Tryz.func76,Tryz.ntmps76
 go_wp2_with (go_at_call 122;refine(Me s e f he hf _).mono ?_;rintro r w1 ⟨rfl,hb⟩;(obtain⟨hc,hfz⟩:=aO hb;have hz:w.heap.size<w1.heap.size:=by (have:=hb.size;simp at this;omega)))
 exact aB (v:=(.agg #[.bool (ng s e f),.int .i64 (cls e f),.int .i64 (xp e),.int .u64 (fr e f)])) (by simp[results,Tryz.results76,go_sem,hc]) rfl ⟨rfl,(by repeat (first | exact ay _ _ | exact((ay _ _).alloc (ak _) _).trans (hb.mono (by simp)) | exact ak _ | (simp;done) | (simp;omega) | refine Below.alloc ?_ ?_ _ | refine Below.setCell ?_ ?_ _ | refine gW ?_))⟩
theorem pF(s:Bool)(e f:Nat)(he:e<2048)(hf:f<4503599627370496)(w:World) :
 Calls Tryz.prog 102 #[.float .f64 (bw s e f)] w fun r w'=>r=.returned (.int .u64 (cb s e f))/\w'=w:=by
 have hl:=om s e f he hf;have h1:=Qa s e f he hf
 by_cases h:e=2047/\f≠0
 · have h2:(9218868437227405312:Int)<(e:Int)*4503599627370496+f:=by omega
   rw[lG s e f h];clear h;go_enter Tryz.func102,Tryz.ntmps102;go_wp2;exact Xs
 · have h2:¬ (9218868437227405312:Int)<(e:Int)*4503599627370496+f:=by omega
   rw[iE s e f h];clear h;go_enter Tryz.func102,Tryz.ntmps102;go_wp2;exact Xs
theorem bO(s:Bool)(e f:Nat)(he:e<2048)(hf:f<4503599627370496)(w:World) :
 Calls Tryz.prog 27 #[.float .f64 (bw s e f)] w fun r w'=>r=.returned (.bool (odd e f))/\w'=w:=by
 have h1:=Ht s e f he hf;go_enter Tryz.func27,Tryz.ntmps27;go_wp2;go_ret;exact⟨rfl,rfl⟩
theorem pG(s:Bool)(e f:Nat)(he:e<2048)(hf:f<4503599627370496)(w:World) :
 Calls Tryz.prog 101 #[.int .u64 (bw s e f),.int .i64 11,.int .i64 52] w fun r w'=>r=.returned (splitV s e f)/\Below w.heap.size w w':=by
 have hl:=om s e f he hf;have h1:=UI s e f he hf;have h2:=P8 s e f hf;have h3:=P9 s e f he hf;have h5:((s.toNat:Int)==1)=s:=by cases s <;> rfl
 go_enter Tryz.func101,Tryz.ntmps101;go_wp2
 · have hh:e=2047:=by first | omega | exact rD e 2047 ‹_›
   rw[xD s e f hh (by simp;omega)];exact aB (v:=.agg #[.bool false,.int .i64 4,.int .i64 0,.int .u64 0]) (by simp[results,Tryz.results101,go_sem]) rfl ⟨rfl,(by repeat (first | exact ay _ _ | assumption | exact ak _ | (simp;done) | (simp;omega) | refine Below.alloc ?_ ?_ _ | refine Below.setCell ?_ ?_ _ | refine gW ?_))⟩
 · have hh:e=2047:=by first | omega | exact rD e 2047 ‹_›
   rw[xE s e f hh (by simp;omega)];exact aB (v:=.agg #[.bool s,.int .i64 3,.int .i64 0,.int .u64 0]) (by simp[results,Tryz.results101,go_sem]) rfl ⟨rfl,(by repeat (first | exact ay _ _ | assumption | exact ak _ | (simp;done) | (simp;omega) | refine Below.alloc ?_ ?_ _ | refine Below.setCell ?_ ?_ _ | refine gW ?_))⟩
 · have hh:e≠2047:=by intro hq;subst hq;simp_all
   rw[rC s e f hh (by omega)];refine aB (v:=.agg #[.bool s,.int .i64 2,.int .i64 ((e:Int)-1075),.int .u64 ((f:Int)+4503599627370496)]) (by simp[results,Tryz.results101,go_sem];try omega) rfl ⟨rfl,(by repeat (first | exact ay _ _ | assumption | exact ak _ | (simp;done) | (simp;omega) | refine Below.alloc ?_ ?_ _ | refine Below.setCell ?_ ?_ _ | refine gW ?_))⟩
 · rw[rA s e f (by omega) (by simp;omega)];exact aB (v:=.agg #[.bool s,.int .i64 1,.int .i64 (-1074),.int .u64 f]) (by simp[results,Tryz.results101,go_sem]) rfl ⟨rfl,(by repeat (first | exact ay _ _ | assumption | exact ak _ | (simp;done) | (simp;omega) | refine Below.alloc ?_ ?_ _ | refine Below.setCell ?_ ?_ _ | refine gW ?_))⟩
 · rw[qA s e f (by omega) (by simp;omega)];refine aB (v:=.agg #[.bool s,.int .i64 0,.int .i64 (-1074),.int .u64 0]) (by simp[results,Tryz.results101,go_sem];try omega) rfl ⟨rfl,(by repeat (first | exact ay _ _ | assumption | exact ak _ | (simp;done) | (simp;omega) | refine Below.alloc ?_ ?_ _ | refine Below.setCell ?_ ?_ _ | refine gW ?_))⟩
end B
section
open Go.RowKit
theorem But.drewN{g:Nat}{a w:World}(h:But g a w)(n:Nat):But g a (w.drewN n):=⟨h.os,h.tape,h.output,h.size,h.block⟩
abbrev Rw(lo:Nat)(w:World)(v:Value)(n:Nat)(ys:List Value):Prop:=w.ownsRow lo 162 1 v n ys
theorem xr{P:Prop}(h:P:=by
 refine⟨h.1,?_⟩;rcases h.2 with hn|⟨g,cap,cur,rfl,hlo,hg,rest⟩
 · exact .inl hn
 · refine .inr ⟨g,cap,cur,rfl,hlo,?_,rest⟩;rw[hb g rfl];exact hg):P:=h
theorem tq{w w':World}{lo e s:Nat}{v:Value}{n:Nat}{ys:List Value}(h:w.ownsRow lo e s v n ys)(hb:∀ g,v.ownBlock=some g->w'.heap[g]?=w.heap[g]?):w'.ownsRow lo e s v n ys:=by
 exact xr
theorem Qbk{P:Prop}(h:P:=by
 intro j u hj
 match j,hj with
 | 0,hj=>simp at hj;subst hj;simpa [Addr.add] using hx):P:=h
theorem Qa5{P:Prop}(h:P:=by
 intro v' w' m zs h;rcases h.2 with ⟨_,h0⟩|⟨g,cap,cur,rfl,hl,_⟩
 · omega
 · exact⟨g,rfl,hl⟩):P:=h
theorem Qa1{P:Prop}(h:P:=by
 refine⟨hr2.1,.inr ⟨g2,cap2,Yp,rfl,hl2,?_,Qd,hm2,hs2,ht2⟩⟩;rw[setRow_other w g g2 _ he];exact hg2):P:=h
theorem Qar{P:Prop}(h:P:=by
 simp only[Bi,nQ,eY,nL,Bj,nK,Bn];omega):P:=h
theorem Qan{P:Prop}(h:P:=by
 rw[ht];have hyl:ys.length=n:=by simpa using hown.1
 simp only[dM,uU];rw[<-uU];rw[Bo (by simp[hyl])];rw[dO (by simp[hyl])]):P:=h
theorem Qam{P:Prop}(h:P:=by
 have hcl:cur.toList.length=cap2:=by simpa using hs2
 rw[<-ht2];simp only[dM,uU];rw[Bo (by rw[eY];omega),List.take_take,ik hk]):P:=h
theorem Qaa{P:Prop}(h:P:=by
 intro v' w' m zs h;refine⟨h.1,?_⟩;rcases h.2 with hn|⟨g,cap,cur,rfl,hl,rest⟩
 · exact .inl hn
 · exact .inr ⟨g,cap,cur,rfl,by omega,rest⟩):P:=h
theorem j9{P:Prop}(h:P:=by
 exact⟨v',w',r1,mono _ _ _ _ r2,⟨r3.os,r3.tape,r3.output,r3.size,fun k hk _=>r3.block k hk (by simp)⟩,.inr (Qc _ _ n _ r2),fun u k zs hr _=>keep _ r3 u k zs hr⟩):P:=h
theorem jp{P:Prop}(h:P:=by
 intro w' hg u k zs hr;rcases hr.2 with hn|⟨g,cap,cur,rfl,hl,hgb,rest⟩
 · exact⟨hr.1,.inl hn⟩
 · refine⟨hr.1,.inr ⟨g,cap,cur,rfl,hl,?_,rest⟩⟩;rw[hg.block g (eZ.1 hgb).1 (by simp)];exact hgb):P:=h
theorem kZ (w:World) (lo:Nat) (v:Value) (n:Nat) (ys:List Value) (x:Value) (s:Nat) (ty:TypeId) (hown:Rw lo w v n ys) (hx:w.cell? ⟨s,0,none⟩=some x) (h1:x.oneCell'=true)
 (hbig:n+1<=35184372088832) (hlo:lo<=w.heap.size) :
 ∃ v' w',(Builtin.append_ #[77,77] ty #[v,.slice (some ⟨s,0,none⟩) 1 1]).run Tryz.prog w=.ok v' w'/\Rw lo w' v' (n+1) (ys++[x])/\w.grownBy w' v.ownBlock /\
   (v'.ownBlock=v.ownBlock\/∃ g,v'.ownBlock=some g/\w.heap.size<=g)/\(∀ (u:Value) (k:Nat) (zs:List Value),Rw lo w u k zs->(u.ownBlock=v.ownBlock->k<=n)->Rw lo w' u k zs):=by
 obtain⟨i0,hi,hz0,hz1,hz2⟩:=info_parts Tryz.vN
 have hnews:∀ j u,[x][j]?=some u->w.cell? ((⟨s,0,none⟩:Addr).add j)=some u:=by
  exact Qbk
 have h1':∀ u ∈ [x],u.oneCell'=true:=by intro u hu;simp at hu;subst hu;exact h1
 have keep:∀ w',w.grownBy w' none->∀ (u:Value) (k:Nat) (zs:List Value),Rw lo w u k zs->Rw lo w' u k zs:=by
  exact jp
 have Qc:∀ (v':Value) (w':World) (m:Nat) (zs:List Value),w'.ownsRow w.heap.size 162 1 v' (m+1) zs->∃ g,v'.ownBlock=some g/\w.heap.size<=g:=by
  exact Qa5
 have mono:∀ (v':Value) (w':World) (m:Nat) (zs:List Value),w'.ownsRow w.heap.size 162 1 v' m zs->Rw lo w' v' m zs:=by
  exact Qaa
 rcases hown.2 with ⟨rfl,rfl⟩|⟨g,cap,cur,rfl,hlg,hg,hnc,hm,hs,ht⟩
 · obtain⟨v',w',r1,r2,r3,_,_⟩:=run_append_own_at (P:=Tryz.prog) w w.heap.size 77 ty 162 i0 (.int .u32 0) 1 4 Tryz.underlying77 hi hz0 hz1 hz2 rfl (by decide) (.slice none 0 0) 0 [] (Bu _ _ _ _) ⟨s,0,none⟩ 1 1 [x] rfl hnews h1' (by unfold maxLen;omega) (by omega) (ak _);have hy:ys=[]:=uT (by simpa using hown.1);subst hy;exact⟨v',w',r1,mono _ _ _ _ (by simpa using r2),r3,.inr (Qc _ _ 0 _ (by simpa using r2)),fun u k zs hr _=>keep _ r3 u k zs hr⟩
 · by_cases hroom:n+1<=cap
   · have hr:=run_append_room (P:=Tryz.prog) w 77 ty 162 i0 Tryz.underlying77 hi g n cap cur hg ⟨s,0,none⟩ 1 1 [x] (by rw[hz1];rfl) hnews h1' hroom (by rw[hz1,hs];simp;omega);rw[hz1] at hr;refine⟨_,_,hr,⟨by simpa using hown.1,.inr ⟨g,cap,_,rfl,hlg,setRow_heap w g cur _ 162 _ hg,hroom,hm,?_,?_⟩⟩,⟨rfl,rfl,rfl,by simp,fun k _ hk=>setRow_other w g k _ (fun e=>hk (by simp[Value.ownBlock,e]))⟩,.inl rfl,?_⟩
     · exact Qar
     · exact Qan
     · intro u k zs hr2 hle;rcases hr2.2 with hn|⟨g2,cap2,Yp,rfl,hl2,hg2,Qd,hm2,hs2,ht2⟩
       · exact⟨hr2.1,.inl hn⟩
       · by_cases he:g2=g
         · subst he;rw[hg] at hg2
           cases hg2
           have hk:=hle rfl;refine⟨hr2.1,.inr ⟨g2,cap2,_,rfl,hl2,setRow_heap w g2 cur _ 162 _ hg,Qd,hm2,?_,?_⟩⟩
           · exact Qar
           · exact Qam
         · exact Qa1
   · obtain⟨v',w',r1,r2,r3⟩:=run_append_arg_grows (P:=Tryz.prog) w 77 ty 162 i0 (.int .u32 0) 1 4 Tryz.underlying77 hi hz0 hz1 hz2 rfl (by decide) ⟨g,0,none⟩ n cap ys (by simpa using hown.1) (fun j u hj=>hown.cells (g:=g) (by simp[Value.ownBlock]) j u hj) ⟨s,0,none⟩ 1 1 [x] rfl hnews (by omega) (by unfold maxLen;omega) (by omega);exact j9
theorem cu {w:World}{ops:Array Oper}{rest:List Oper}{o:Oper}{a:Act}{Q:Exit->Act->World->Prop}(hgd:o.guard=none) (s x:Operand) (t:TypeId)
 (ho:o.op=.call { callee:=.builtin .append,args:=#[s,x],argTypes:=#[t,t] }) (v u:Value) (hs:a.eval s=v) (hx:a.eval x=u) (v':Value) (w':World)
 (hrun:(Builtin.append_ #[t,t] o.type #[v,u]).run Tryz.prog w=.ok v' w') (h:wpList Tryz.prog ops Q rest (a.put o.dst v') w'):wpList Tryz.prog ops Q (o::rest) a w:=by
 refine wpList_plain hgd fun K hK=>?_;unfold Oper.wp;simp[execOp,ho,resolve,invoke,builtin,hs,hx,hrun,Result.andThen];exact hK _ _ h
theorem Rw.lt{lo:Nat}{w:World}{v:Value}{n:Nat}{ys:List Value}(h:Rw lo w v n ys)(b:Nat)(hb:v.ownBlock=some b):lo<=b/\b<w.heap.size/\∃ cur,w.heap[b]?=some (.cells cur 162 (0,0)):=by
 rcases h.2 with ⟨rfl,h0⟩|⟨g,cap,cur,rfl,hlo,hg,_⟩
 · cases hb
 · cases hb
   exact⟨hlo,(eZ.1 hg).1,cur,hg⟩
theorem Rw.cell{lo:Nat}{w:World}{g n cap:Nat}{ys:List Value}(h:Rw lo w (.slice (some ⟨g,0,none⟩) n cap) n ys)(k:Nat)(u:Value)(hk:ys[k]?=some u):w.cell? ⟨g,k,none⟩=some u:=by
 have h1:=h.cells (g:=g) (by simp[Value.ownBlock]) k u hk;have e:(⟨g,0,none⟩:Addr).add k=⟨g,k,none⟩:=by unfold Addr.add;split <;> simp_all
 rw[e] at h1;exact h1
theorem Rw.words{lo:Nat}{w:World}{v:Value}{n:Nat}{L:List Nat}(h:Rw lo w v n (L.map U)):∃ ao cap,v=.slice ao n cap/\n<=cap/\n=L.length/\(ao=none->cap=0)/\Rd w.heap.size w ao L:=by
 have hl:n=L.length:=by have:=h.1;simp at this;omega
 rcases h.2 with ⟨rfl,h0⟩|⟨g,cap,cur,rfl,hlo,hg,hn,hm,hs,ht⟩
 · refine⟨none,0,by rw[h0],by omega,hl,fun _=>rfl,?_⟩;have:L=[]:=Gw.1 (by omega);rw[this];exact Rd.nil _ _ _
 · refine⟨_,cap,rfl,hn,hl,(fun e=>by cases e),fun _=>⟨g,0,(eZ.1 hg).1,rfl,fun i hi=>?_⟩⟩;have h1:=Rw.cell h i (U (L.getD i 0)) (by simp[hi]);rw[cO];exact h1
theorem jR(xs:List Nat)(k:Nat):val (xs.take (k+1))=val (xs.take k)+pw k*xs.getD k 0:=by
 by_cases h:k<xs.length
 · exact iB xs k h
 · rw[dO (by omega),dO (by omega)];simp[bG,nJ (show xs.length<=k by omega)]
theorem Mf(p V c a b x y s d:Nat)(h:V+c*p=a+b)(e:s+d*4294967296=x+y+c):(V+p*s)+d*(4294967296*p)=(a+p*x)+(b+p*y):=qD p a b V c x y s d h e
theorem Hw(p V c a b x y s d:Nat)(h:V+b=a+c*p)(e:s+y+c=x+d*4294967296):(V+p*s)+(b+p*y)=(a+p*x)+d*(4294967296*p):=nW p a b V c x y s d h e
theorem BL(xs:List Nat)(ao:Option Addr)(n cap B i:Nat)(w:World)(hn:n=xs.length)(hm:n<=70368744177664)(hx:Wf xs)(hR:Rd B w ao xs)(hi:i<=70368744177664) :
 Calls Tryz.prog 167 #[.slice ao n cap,.int .i64 (i:Nat)] w fun r w'=>r=.returned (.int .u64 ((xs.getD i 0:Nat):Int))/\w'=w:=by
 by_cases hin:i<n
 · obtain⟨b,off,hB,rfl,hcell⟩:=hR (by intro e;subst e;simp at hn;omega);have hck:=hcell i (by omega);have hxl:=hx.get i;obtain⟨t,ht⟩:∃ t,xs.getD i 0=t:=⟨_,rfl⟩;rw[ht] at hck hxl |-;clear hcell hR hn hx ht;go_enter Tryz.func167,Tryz.ntmps167;go_wp2;go_ret;exact⟨rfl,rfl⟩
 · have e:xs.getD i 0=0:=by simp[bG,nJ (show xs.length<=i by omega)]
   rw[e];clear hR hn hx e;go_enter Tryz.func167,Tryz.ntmps167;go_wp2;exact Xs
theorem Qe(X Y V c n m N:Nat)(hX:X<pw n)(hY:Y<pw m)(hn:n<=N)(hm:m<=N)(h:V+c*pw (N+1)=X+Y):c=0:=by
 rcases jH c with h0|h0
 · exact h0
 · exfalso;have h1:=jO hn;have h2:=jO hm;have h3:1*pw (N+1)<=c*pw (N+1):=di _ h0;rw[bz] at h3 h;have:=iy N;omega
theorem ju{P:Prop}(h:P:=by
 go_wp2_with fail;refine Xy.o.mono ?_;rintro r w1 ⟨v,rfl,Qf,hb⟩;have HZ:=(aZ Qf hb);clear Qf hb;go_wp2;go_ret;have hsz:=HB.o.size;exact⟨v,rfl,HZ.o.1.mono hsz,HB.o.trans (HZ.o.2.mono hsz)⟩):P:=h
theorem Mh (xs ys:List Nat) (ao bo:Option Addr) (n cap m aS B:Nat) (w:World) (hn:n=xs.length) (hm:m=ys.length) (hc:n<=cap) (hcb:m<=aS) (hbig:n<=35184372088000) (hbig2:m<=35184372088000)
 (hx:Wf xs) (hy:Wf ys) (hR:Rd B w ao xs) (hS:Rd B w bo ys) (hB:B<=w.heap.size) :
 Calls Tryz.prog 114 #[.slice ao n cap,.slice bo m aS] w fun r w'=>∃ v,r=.returned v/\Nt w.heap.size w' v (val xs+val ys)/\Below w.heap.size w w':=by
 have hX:=bN xs hx;have hY:=bN ys hy;rw[<-hn] at hX;rw[<-hm] at hY;obtain⟨N,hN⟩:=af (max n m);have Yq:n<=N:=by omega
 have hmN:m<=N:=by omega
 have hNb:N<=35184372088000:=by omega
 have HR:=(Ba hR hS hn hm hx hy hB hX hY hN);clear hR hS hn hm hx hy hB hX hY hN;go_enter Tryz.func114,Tryz.ntmps114;go_wp2
 go_loopg [5,6,7] (N+1) (fun gk ov cv iv wr=>∃ (i c:Nat) (L:List Nat),gk+i=N+1/\cv=.int .u64 (c:Nat)/\c<=1/\iv=.int .i64 (i:Nat)/\Hid (Rw w.heap.size wr ov i (L.map U))/\Hid (Below w.heap.size w wr) /\
  Aside (Wf L/\val L+c*pw i=val (xs.take i)+val (ys.take i)))
 case atStart=>exact⟨0,0,[],by omega,rfl,by omega,rfl,Bu _ _ _ _,ay _ _,Wf.nil,by simp[val]⟩
 case round =>
  obtain⟨i,c,L,hgi,rfl,hc1,rfl,HO,HB,HA⟩:=hrel
  by_cases hgo:i<n\/i<m\/c=1
  · have hiN:i<=N:=by
     rcases hgo with h|h|h
     · omega
     · omega
     · by_cases hi1:i=N+1
       · exfalso;obtain⟨hR,hS,hn,hm,hx,hy,hB,hX,hY,hN⟩:=HR.o;have h1:=HA.o.2;rw[dO (by omega),dO (by omega),hi1] at h1;have:=Qe _ _ _ _ _ _ _ hX hY Yq hmN h1;omega
       · omega
    obtain⟨hR,hS,hn,hm,hx,hy,hB,hX,hY,hN⟩:=HR.o;have HA1:=hid (BL xs ao n cap B i wr hn (by omega) hx (hR.below (HB.o.mono hB)) (by omega));have HA2:=hid (BL ys bo m aS B i wr hm (by omega) hy (hS.below (HB.o.mono hB)) (by omega));obtain⟨x,eD⟩:∃ x,xs.getD i 0=x:=⟨_,rfl⟩;obtain⟨y,qy⟩:∃ y,ys.getD i 0=y:=⟨_,rfl⟩;have hxl:x<4294967296:=eD ▸ hx.get i;have hyl:y<4294967296:=qy ▸ hy.get i;rw[eD] at HA1;rw[qy] at HA2;obtain⟨s,hs⟩:∃ s:Nat,s=(x+y+c)%4294967296:=⟨_,rfl⟩;obtain⟨d,hd⟩:∃ d:Nat,d=(x+y+c)/4294967296:=⟨_,rfl⟩;have e1:((x:Int)+y+c)%4294967296=(s:Int):=by omega
    have e2:((x:Int)+y+c)/4294967296=(d:Int):=by omega
    have hsz:=HB.o.size;obtain⟨v',w',hap,hown,hgrow,_,_⟩:=kZ (wr.alloc (.cells #[.int .u32 (s:Nat)] 162)) w.heap.size u5 i (L.map U) (.int .u32 (s:Nat)) wr.heap.size 77 (HO.o.alloc _) (by unfold World.cell?;simp only[gU];rfl) rfl (by omega) (by simp;omega);have HX:Aside (xs.getD i 0=x/\ys.getD i 0=y/\s+d*4294967296=x+y+c/\s<4294967296/\d<=1):=⟨eD,qy,by omega,by omega,by omega⟩;have hbel:Below w.heap.size w w':=(HB.o.alloc hsz _).grown hgrow (by simp;omega) (fun k hk=>(HO.o.lt k hk).1);have HI:=(aZ hown hbel);have Lx:=hid hap;clear hap hown hgrow hbel hs hd eD qy hR hS hn hm hx hy hB hX hY hN hsz
    have hways:(decide (i<n)=true)\/(decide (i<n)=false/\decide (i<m)=true)\/(decide (i<n)=false/\decide (i<m)=false/\decide (0<c)=true):=by
     by_cases a:i<n
     · exact .inl (decide_eq_true (by omega))
     · by_cases b:i<m
       · exact .inr (.inl ⟨decide_eq_false (by omega),decide_eq_true (by omega)⟩)
       · exact .inr (.inr ⟨decide_eq_false (by omega),decide_eq_false (by omega),decide_eq_true (by omega)⟩)
    rcases hways with h1|⟨h1,h2⟩|⟨h1,h2,h3⟩
    all_goals (
     go_wp2_with fail;refine HA1.o.mono ?_;rintro r w1 ⟨rfl,rfl⟩;go_wp2_with fail;refine HA2.o.mono ?_;rintro r w1 ⟨rfl,rfl⟩
     go_wp2_with (at_builtin;refine cu rfl (.tmp 34) (.tmp 37) 77 rfl _ _ rfl rfl _ _ Lx.o ?_)
     go_roundg (gk-1)
     case measure=>omega
     case rel =>
      obtain⟨a1,a2,a3,a4,a5⟩:=HX.o;obtain⟨sO,Gs⟩:=HA.o;refine⟨i+1,d,L++[s],by omega,by first | rfl | rw[e2],a5,by first | go_num | (congr 1;omega),by rw[wz];exact HI.o.1,HI.o.2,sO.append (Wf.cons a4 Wf.nil),?_⟩;have sN:L.length=i:=by have:=HO.o.1;simp at this;omega
      rw[val_append,sN,jR,jR,a1,a2,bz]
      simpa [val] using Mf (pw i) _ _ _ _ x y s d Gs a3)
  · have hi:N<=i:=by have:=HR.o.2.2.2.2.2.2.2.2.2;omega
    obtain rfl:c=0:=by omega
    obtain⟨aoo,Yr,hsh,hcap,hl,hnil,hRo⟩:=HO.o.words;subst hsh;obtain⟨hR,hS,hn,hm,hx,hy,hB,hX,hY,hN⟩:=HR.o;have Xy:=hid (jd L aoo i Yr wr.heap.size wr hl hcap (by omega) HA.o.1 hRo hnil)
    have Gs:val L=val xs+val ys:=by
     have h1:=HA.o.2;rw[dO (by omega),dO (by omega)] at h1;omega
    rw[Gs] at Xy;have h1:decide (i<n)=false:=decide_eq_false (by omega);have h2:decide (i<m)=false:=decide_eq_false (by omega);clear hR hS hn hm hx hy hB hX hY hN hl hnil hRo Gs hgo HO;exact ju
theorem zQ(xs:List Nat)(hx:Wf xs)(k r:Nat)(hk:k<xs.length)(hr:r<32):val xs/2^(32*k+r)%2=xs.getD k 0/2^r%2:=by
 have e:=dD xs k (by omega)
 have hl:val (xs.take k)<pw k:=by
  have:=bN _ (hx.take k);rwa [eY,ik (by omega)] at this
 rw[mJ,<-uM,e,qU _ _ (iy k),gK hl,cO,bZ xs k hk]
 have e2:4294967296*val (xs.drop (k+1))=2^r*(2*(2^(31-r)*val (xs.drop (k+1)))):=by
  have:(4294967296:Nat)=2^r*(2*2^(31-r)):=by
   rw[<-aJ,bJ (2^r) 2,aJ,<-aI,show r+(31-r)=31 by omega]
  rw[this];grind
 rw[e2,qU _ _ (aU r),zt]
theorem Qbd{P:Prop}(h:P:=by
 exact eB (by decide) (by omega)):P:=h
theorem xG(xs:List Nat)(hx:Wf xs)(i:Nat)(h:xs.length<=i/32):val xs/2^i%2=0:=by
 have h1:=bN xs hx
 have h2:pw xs.length<=2^i:=by
  have:pw xs.length=2^(32*xs.length):=by rw[<-gJ (32*xs.length),mJ];simp
  rw[this];exact Qbd
 rw[gK (by omega)]
theorem and_one(z:Nat)(h:z<4294967296):bits BinOp.and IntKind.u32 (z:Int) 1=((z%2:Nat):Int):=by
 have:=JF z 1 h (by decide);rw[Nat.and_one_is_mod] at this;exact this
theorem UK(ao:Option Addr)(n cap:Nat)(i:Int)(w:World)(hi:i<0) :
 Calls Tryz.prog 133 #[.slice ao n cap,.int .i64 i] w fun r w'=>r=.returned (.bool false)/\w'=w:=by
 go_enter Tryz.func133,Tryz.ntmps133;go_wp2;go_ret;exact⟨rfl,rfl⟩
theorem Qa7{P:Prop}(h:P:=by
 rw[hz2] at e4 |-;clear hz2;go_enter Tryz.func133,Tryz.ntmps133;go_wp2;go_ret;exact⟨rfl,rfl⟩):P:=h
theorem vW(xs:List Nat)(ao:Option Addr)(n cap B i:Nat)(w:World)(hn:n=xs.length)(hx:Wf xs)(hR:Rd B w ao xs)(hi:i<=9223372036854775807) :
 Calls Tryz.prog 133 #[.slice ao n cap,.int .i64 (i:Int)] w fun r w'=>r=.returned (.bool (decide (val xs/2^i%2=1)))/\w'=w:=by
 obtain⟨k,hk⟩:=af (i/32);obtain⟨r,hr⟩:=af (i%32);have e1:(i:Int)/32=(k:Int):=by omega
 have e2:(i:Int)%32=(r:Int):=by omega
 by_cases hkn:k<n
 · have hb:=zQ xs hx k r (by omega) (by omega);rw[show 32*k+r=i by omega] at hb;rw[hb];obtain⟨b,off,hB,rfl,hcell⟩:=hR (by intro e;subst e;simp at hn;omega);have hck:=hcell k (by omega);obtain⟨t,ht⟩:∃ t,xs.getD k 0=t:=⟨_,rfl⟩;have htl:t<4294967296:=ht ▸ hx.get k;rw[ht] at hck |-;obtain⟨z,hz⟩:=af (t/2^r);have hzt:z<=t:=by rw[hz];exact nO _ _
   have e3:(t:Int)/2^r=(z:Int):=by rw[hz];simp
   have e4:=and_one z (by omega);have hr32:r<32:=by omega
   rw[<-hz];clear hb hn hx hR hcell ht hz hk hr;rcases(by omega:z%2=0\/z%2=1) with hz2|hz2
   · exact Qa7
   · exact Qa7
 · rw[xG xs hx i (by omega)];clear hn hx hR hk hr;go_enter Tryz.func133,Tryz.ntmps133;go_wp2;go_ret;exact⟨rfl,rfl⟩
def Hy(X:Nat):Value:=if X<18446744073709551616 then .tuple #[.int .u64 (X:Int),.int .i64 0] else .tuple #[.int .u64 0,.int .i64 2]
theorem Yt(xs:List Nat)(hx:Wf xs):nl xs<=2↔val xs<18446744073709551616:=by
 rw[fO xs hx,aL];rfl
theorem Mi(xs:List Nat)(ao:Option Addr)(n cap B:Nat)(w:World)(hn:n=xs.length)(hc:n<=cap)(hm:n<=70368744177664)(hx:Wf xs)(hR:Rd B w ao xs) :
 Calls Tryz.prog 211 #[.slice ao n cap] w fun r w'=>r=.returned (Hy (val xs))/\w'=w:=by
 have H:=hid (dU xs ao n cap B w hn hc (by omega) hR);have hl:=jK xs;have h2:=Yt xs hx;have hf:=ko xs hx;obtain⟨m,hm'⟩:∃ m,nl xs=m:=⟨_,rfl⟩;rw[hm'] at H hl h2 hf;unfold Hy
 by_cases h:2<m
 · rw[if_neg (by omega)];clear h2 hl hn hx hR hm' hf;go_enter Tryz.func211,Tryz.ntmps211;go_wp2_with fail;refine H.o.mono ?_;rintro r w1 ⟨rfl,rfl⟩;go_wp2
   go_ret2
   exact XS
 · rw[if_pos (by omega)];rw[<-jq] at hf;have HR:=(fM hR hn hx hl hf);have hm2:m<=2:=by omega
   clear h2 hl hn hx hR hm' hf h;go_enter Tryz.func211,Tryz.ntmps211;go_wp2_with fail;refine H.o.mono ?_;rintro r w1 ⟨rfl,rfl⟩;go_wp2
   go_loopg [4,14] m (fun gk s i wr=>∃ (k sv:Nat),gk+k=m/\s=.int .u64 (sv:Nat)/\i=.int .i64 (k:Nat)/\wr=w1/\Aside (sv=sg xs 0 k))
   case atStart=>exact⟨0,0,by omega,rfl,rfl,rfl,(dF _ _).symm⟩
   case round =>
    obtain⟨k,sv,lU,rfl,rfl,rfl,HA⟩:=hrel
    by_cases hk:k<m
    · obtain⟨hR,hn,hx,hl,hf⟩:=HR.o;obtain⟨b,off,hB,rfl,hcell⟩:=hR (by intro e;subst e;simp at hl;omega);have hck:=hcell k (by omega);obtain⟨t,ht⟩:∃ t,xs.getD k 0=t:=⟨_,rfl⟩;have htl:t<4294967296:=ht ▸ hx.get k;rw[ht] at hck;have hs1:=nz xs 0 k hx (by omega);have hs2:=bA xs 0 k (by omega);rw[cO,ht,<-HA.o] at hs2;rw[<-HA.o] at hs1;have HX:=(aZ hs1 hs2);clear hR hn hx hl hf hcell ht hs1 hs2;rcases(by omega:k=0\/k=1) with rfl|rfl
      · have hsv:sv=0:=by have:=HX.o.1;rw[iQ] at this;omega
        have e:bits BinOp.or IntKind.u64 (sv:Int) (t:Int)=(t:Int):=by rw[bits_or_u64_nat _ _ (by omega) (by omega),hsv,Nat.zero_or]
        rw[gJ] at hck;have HS:=(ah hsv);clear hsv;go_wp2;go_roundg (gk-1)
        case measure=>omega
        case rel =>
         refine⟨1,t,by omega,by first | rfl | rw[e],by go_num,rfl,?_⟩;have:=HX.o.2;rw[iQ,HS.o] at this;rw[Aside,this];omega
      · have hsv:sv<4294967296:=by have:=HX.o.1;rw[show(1:Nat)=0+1 from rfl,bz,iQ] at this;omega
        have e:=xy t sv htl hsv;go_wp2;go_roundg (gk-1)
        case measure=>omega
        case rel =>
         refine⟨2,sv+t*4294967296,by omega,by first | rfl | rw[e] | (rw[e];rfl),by go_num,rfl,?_⟩;have:=HX.o.2;rw[show pw 1=4294967296 from rfl] at this;rw[Aside,this];omega
    · obtain rfl:k=m:=by omega
      go_wp2
      go_ret2
      obtain⟨hR,hn,hx,hl,hf⟩:=HR.o;rw[<-hf,<-HA.o];exact XS
theorem xH(ys:List Nat)(hy:Wf ys)(n:Nat)(h:val ys<pw n):val (ys.take n)=val ys:=by
 by_cases hn:n<=ys.length
 · have h1:=dD ys n hn
   have:val (ys.drop n)=0:=by
    rcases jH (val (ys.drop n)) with h0|h0
    · exact h0
    · have h2:pw n*1<=pw n*val (ys.drop n):=eO _ h0;omega
   rw[this] at h1;omega
 · rw[dO (by omega)]
theorem Mj(V Y X c p:Nat)(hV:V<p)(hle:Y<=X)(hc:c<=1)(h:V+Y=X+c*p):V=X-Y:=by
 rcases(by omega:c=0\/c=1) with rfl|rfl <;> omega
theorem Ia (xs ys:List Nat) (ao bo:Option Addr) (n cap m aS B:Nat) (w:World) (hn:n=xs.length) (hm:m=ys.length) (hc:n<=cap) (hcb:m<=aS) (hbig:n<=35184372088000) (hbig2:m<=35184372088000)
 (hx:Wf xs) (hy:Wf ys) (hR:Rd B w ao xs) (hS:Rd B w bo ys) (hB:B<=w.heap.size) (hle:val ys<=val xs) :
 Calls Tryz.prog 116 #[.slice ao n cap,.slice bo m aS] w fun r w'=>∃ v,r=.returned v/\Nt w.heap.size w' v (val xs-val ys)/\Below w.heap.size w w':=by
 have hX:=bN xs hx;rw[<-hn] at hX;have HR:=(Uc hR hS hn hm hx hy hB hX hle);clear hR hS hn hm hx hy hB hX hle;go_enter Tryz.func116,Tryz.ntmps116;go_wp2
 go_loopg [5,6,7] n (fun gk ov cv iv wr=>∃ (i c:Nat) (L:List Nat),gk+i=n/\cv=.int .u64 (c:Nat)/\c<=1/\iv=.int .i64 (i:Nat)/\Hid (Rw w.heap.size wr ov i (L.map U))/\Hid (Below w.heap.size w wr) /\
  Aside (Wf L/\val L+val (ys.take i)=val (xs.take i)+c*pw i))
 case atStart=>exact⟨0,0,[],by omega,rfl,by omega,rfl,Bu _ _ _ _,ay _ _,Wf.nil,by simp[val]⟩
 case round =>
  obtain⟨i,c,L,hgi,rfl,hc1,rfl,HO,HB,HA⟩:=hrel
  by_cases hgo:i<n
  · obtain⟨hR,hS,hn,hm,hx,hy,hB,hX,hle⟩:=HR.o;have HA1:=hid (BL xs ao n cap B i wr hn (by omega) hx (hR.below (HB.o.mono hB)) (by omega));have HA2:=hid (BL ys bo m aS B i wr hm (by omega) hy (hS.below (HB.o.mono hB)) (by omega));obtain⟨x,eD⟩:∃ x,xs.getD i 0=x:=⟨_,rfl⟩;obtain⟨y,qy⟩:∃ y,ys.getD i 0=y:=⟨_,rfl⟩;have hxl:x<4294967296:=eD ▸ hx.get i;have hyl:y<4294967296:=qy ▸ hy.get i;rw[eD] at HA1;rw[qy] at HA2;obtain⟨s,hs⟩:∃ s:Nat,s=(x+4294967296-y-c)%4294967296:=⟨_,rfl⟩;obtain⟨q,hq⟩:∃ q:Nat,q=(x+4294967296-y-c)/4294967296:=⟨_,rfl⟩;obtain⟨d,hd⟩:∃ d:Nat,d=1-q:=⟨_,rfl⟩;have e1:((x:Int)+4294967296-y-c)%4294967296=(s:Int):=by omega
    have e2:((x:Int)+4294967296-y-c)/4294967296=(q:Int):=by omega
    have e3:(1:Int)-(q:Int)=(d:Int):=by omega
    have hsz:=HB.o.size;obtain⟨v',w',hap,hown,hgrow,_,_⟩:=kZ (wr.alloc (.cells #[.int .u32 (s:Nat)] 162)) w.heap.size u5 i (L.map U) (.int .u32 (s:Nat)) wr.heap.size 77 (HO.o.alloc _) (by unfold World.cell?;simp only[gU];rfl) rfl (by omega) (by simp;omega);have HX:Aside (xs.getD i 0=x/\ys.getD i 0=y/\s+y+c=x+d*4294967296/\s<4294967296/\d<=1):=⟨eD,qy,by omega,by omega,by omega⟩;have hbel:Below w.heap.size w w':=(HB.o.alloc hsz _).grown hgrow (by simp;omega) (fun k hk=>(HO.o.lt k hk).1);have HI:=(aZ hown hbel);have Lx:=hid hap;clear hap hown hgrow hbel hs hd hq eD qy hR hS hn hm hx hy hB hX hsz hle;go_wp2_with fail;refine HA1.o.mono ?_;rintro r w1 ⟨rfl,rfl⟩;go_wp2_with fail;refine HA2.o.mono ?_;rintro r w1 ⟨rfl,rfl⟩
    go_wp2_with (at_builtin;refine cu rfl (.tmp 25) (.tmp 28) 77 rfl _ _ rfl rfl _ _ Lx.o ?_)
    go_roundg (gk-1)
    case measure=>omega
    case rel =>
     obtain⟨a1,a2,a3,a4,a5⟩:=HX.o;obtain⟨sO,Gs⟩:=HA.o;refine⟨i+1,d,L++[s],by omega,by first | rfl | rw[e3] | rw[e2,e3],a5,by first | go_num | (congr 1;omega),by rw[wz];exact HI.o.1,HI.o.2,sO.append (Wf.cons a4 Wf.nil),?_⟩;have sN:L.length=i:=by have:=HO.o.1;simp at this;omega
     rw[val_append,sN,jR,jR,a1,a2,bz];simpa [val] using Hw (pw i) _ _ _ _ x y s d Gs a3
  · obtain rfl:i=n:=by omega
    obtain⟨aoo,Yr,hsh,hcap,hl,hnil,hRo⟩:=HO.o.words;subst hsh;obtain⟨hR,hS,hn,hm,hx,hy,hB,hX,hle⟩:=HR.o;have Xy:=hid (jd L aoo i Yr wr.heap.size wr hl hcap (by omega) HA.o.1 hRo hnil)
    have Gs:val L=val xs-val ys:=by
     have h1:=HA.o.2;rw[dO (l:=xs) (by omega),xH ys hy i (by omega)] at h1;have h2:=bN L HA.o.1;rw[<-hl] at h2;exact Mj _ _ _ _ _ h2 hle hc1 h1
    rw[Gs] at Xy;clear hR hS hn hm hx hy hB hX hl hnil hRo Gs hgo HO hle;exact ju
theorem Below.drewN'{B:Nat}{a w:World}(h:Below B a w)(n:Nat):Below B a (w.drewN n):=⟨h.os,h.tape,h.output,h.size,h.block⟩
theorem Qg (xs ys:List Nat) (ao bo:Option Addr) (n cap m aS B:Nat) (w:World) (hn:n=xs.length) (hm:m=ys.length) (hbig:n<=70368744177664) (hbig2:m<=70368744177664)
 (hx:Wf xs) (hy:Wf ys) (hR:Rd B w ao xs) (hS:Rd B w bo ys) :
 Calls Tryz.prog 115 #[.slice ao n cap,.slice bo m aS] w fun r w'=>r=.returned (.int .i64 (aW (val xs) (val ys)))/\Below w.heap.size w w':=by
 have H1:=hid (nU xs ao n cap B w hn (by omega) hR);have H2:=hid (nU ys bo m aS B w hm (by omega) hS);have hl1:=jK xs;have hl2:=jK ys;have f1:=ko xs hx;have f2:=ko ys hy;rw[<-jq] at f1 f2;rcases l6 (nl xs) (nl ys) with he|he|he
 · rw[mM (vP xs ys hx hy he)];obtain⟨k1,hk1⟩:∃ k,nl xs=k:=⟨_,rfl⟩;obtain⟨k2,hk2⟩:∃ k,nl ys=k:=⟨_,rfl⟩;rw[hk1] at H1 he;rw[hk2] at H2 he;clear hk1 hk2 hn hm hx hy hR hS f1 f2 hl1 hl2;go_enter Tryz.func115,Tryz.ntmps115;go_wp2_with fail;refine H1.o.mono ?_;rintro r w1 ⟨rfl,rfl⟩;go_wp2_with fail;refine H2.o.mono ?_;rintro r w1 ⟨rfl,rfl⟩;have hne:decide (k1=k2)=false:=decide_eq_false (by omega);have hne2:k1≠k2:=by omega
   go_wp2;go_ret;exact zc
 · obtain⟨k0,hk0⟩:∃ k,nl ys=k:=⟨_,rfl⟩;rw[he] at H1 hl1 f1;rw[hk0] at H1 H2 hl1 hl2 f1 f2;have HR:=(Ba hR hS hn hm hx hy hl1 hl2 f1 f2);have hkn:k0<=n:=by omega
   have hkm:k0<=m:=by omega
   clear hR hS hn hm hx hy hl1 hl2 f1 f2 he hk0;go_enter Tryz.func115,Tryz.ntmps115;go_wp2_with fail;refine H1.o.mono ?_;rintro r w1 ⟨rfl,rfl⟩;go_wp2_with fail;refine H2.o.mono ?_;rintro r w1 ⟨rfl,rfl⟩;go_wp2
   go_loopg [5] k0 (fun k i wr=>k<=k0/\i=.int .i64 ((k:Int)-1)/\Hid (Below w1.heap.size w1 wr)/\Aside (sg xs k (k0-k)=sg ys k (k0-k)))
   case atStart=>exact⟨ak _,by first | rfl | go_num,ay _ _,by rw[uO,dF,dF];exact rfl⟩
   case round =>
    obtain⟨hk,rfl,HB,HA⟩:=hrel
    by_cases hk0:gk=0
    · exact Qad
    · obtain⟨k,rfl⟩:∃ k,gk=k+1:=⟨gk-1,by omega⟩;obtain⟨hR,hS,hn,hm,hx,hy,hl1,hl2,f1,f2⟩:=HR.o;obtain⟨b,off,hB1,rfl,hc1⟩:=hR (by intro e;subst e;simp at hl1;omega);obtain⟨b2,G9,hB2,rfl,hc2⟩:=hS (by intro e;subst e;simp at hl2;omega)
      have g1:wr.cell? ⟨b,off+k,none⟩=some (.int .u32 ((xs.getD k 0:Nat):Int)) :=
       (HB.o.cell (p:=⟨b,off+k,none⟩) (qh w1 ⟨b,off+k,none⟩ (hc1 k (by omega)))).trans (hc1 k (by omega))
      have g2:wr.cell? ⟨b2,G9+k,none⟩=some (.int .u32 ((ys.getD k 0:Nat):Int)) :=
       (HB.o.cell (p:=⟨b2,G9+k,none⟩) (qh w1 ⟨b2,G9+k,none⟩ (hc2 k (by omega)))).trans (hc2 k (by omega))
      obtain⟨x,eD⟩:∃ x:Nat,xs.getD k 0=x:=⟨_,rfl⟩;obtain⟨y,qy⟩:∃ y:Nat,ys.getD k 0=y:=⟨_,rfl⟩;rw[eD] at g1;rw[qy] at g2;have HX:=(aZ eD qy);have hki:(k:Int)<(n:Int):=by omega
      have hki0:0<=(k:Int):=by omega
      have hki2:(k:Int)<(m:Int):=by omega
      clear hR hS hn hm hx hy hl1 hl2 f1 f2 hc1 hc2 eD qy hk0;rcases l6 x y with hxy|hxy|hxy
      · go_wp2
        go_quiet (fail)
        go_wp2;go_ret;obtain⟨hR,hS,hn,hm,hx,hy,hl1,hl2,f1,f2⟩:=HR.o;have h:=HA.o;have t1:=pz xs ys hx hy k (k0-(k+1)) (by omega) (by omega) h (by rw[HX.o.1,HX.o.2];exact hxy);rw[show k+1+(k0-(k+1))=k0 by omega,f1,f2] at t1;rw[mM t1];exact⟨rfl,Below.drewN' HB.o _⟩
      · subst hxy;go_wp2
        go_quiet (fail)
        go_wp2
        go_quiet (fail)
        go_wp2;go_roundg k
        case measure=>omega
        case rel =>
         obtain⟨hR,hS,hn,hm,hx,hy,hl1,hl2,f1,f2⟩:=HR.o;refine⟨by omega,by first | go_num | (congr 1;omega),hid (Below.drewN' HB.o _),?_⟩;have h:=HA.o;obtain⟨r,hr⟩:∃ r,k0-k=r+1:=⟨k0-(k+1),by omega⟩;rw[show k0-(k+1)=r by omega] at h;rw[Aside,hr,kr xs k r (by omega),kr ys k r (by omega),h,HX.o.1,HX.o.2]
      · have hxy2:decide (x<y)=false:=decide_eq_false (by omega);go_wp2
        go_quiet (fail)
        go_wp2
        go_quiet (fail)
        go_wp2;go_ret;obtain⟨hR,hS,hn,hm,hx,hy,hl1,hl2,f1,f2⟩:=HR.o;have h:=HA.o;have t1:=pz ys xs hy hx k (k0-(k+1)) (by omega) (by omega) h.symm (by rw[HX.o.1,HX.o.2];exact hxy);rw[show k+1+(k0-(k+1))=k0 by omega,f1,f2] at t1;rw[ru t1];exact⟨rfl,Below.drewN' (Below.drewN' HB.o _) _⟩
 · rw[ru (vP ys xs hy hx he)];obtain⟨k1,hk1⟩:∃ k,nl xs=k:=⟨_,rfl⟩;obtain⟨k2,hk2⟩:∃ k,nl ys=k:=⟨_,rfl⟩;rw[hk1] at H1 he;rw[hk2] at H2 he;clear hk1 hk2 hn hm hx hy hR hS f1 f2 hl1 hl2;go_enter Tryz.func115,Tryz.ntmps115;go_wp2_with fail;refine H1.o.mono ?_;rintro r w1 ⟨rfl,rfl⟩;go_wp2_with fail;refine H2.o.mono ?_;rintro r w1 ⟨rfl,rfl⟩;have hne:decide (k1=k2)=false:=decide_eq_false (by omega);have hlt:decide (k1<k2)=false:=decide_eq_false (by omega);have hne2:k1≠k2:=by omega
   go_wp2;go_ret;exact zc
theorem Qa8{P:Prop}(h:P:=by
 rw[hz2] at e4 |-;clear hz2;go_enter Tryz.func195,Tryz.ntmps195;go_wp2;go_ret;exact⟨rfl,rfl⟩):P:=h
theorem Qh(xs:List Nat)(ao:Option Addr)(n cap B i:Nat)(w:World)(hn:n=xs.length)(hx:Wf xs)(hR:Rd B w ao xs)(hi:i<=9223372036854775807) :
 Calls Tryz.prog 195 #[.slice ao n cap,.int .i64 (i:Int)] w fun r w'=>r=.returned (.bool (decide (val xs/2^i%2=1)))/\w'=w:=by
 obtain⟨k,hk⟩:=af (i/32);obtain⟨r,hr⟩:=af (i%32);have e1:(i:Int)/32=(k:Int):=by omega
 have e2:(i:Int)%32=(r:Int):=by omega
 by_cases hkn:k<n
 · have hb:=zQ xs hx k r (by omega) (by omega);rw[show 32*k+r=i by omega] at hb;rw[hb];obtain⟨b,off,hB,rfl,hcell⟩:=hR (by intro e;subst e;simp at hn;omega);have hck:=hcell k (by omega);obtain⟨t,ht⟩:∃ t,xs.getD k 0=t:=⟨_,rfl⟩;have htl:t<4294967296:=ht ▸ hx.get k;rw[ht] at hck |-;obtain⟨z,hz⟩:=af (t/2^r);have hzt:z<=t:=by rw[hz];exact nO _ _
   have e3:(t:Int)/2^r=(z:Int):=by rw[hz];simp
   have e4:=and_one z (by omega);have hr32:r<32:=by omega
   have hnk:decide ((n:Int)<=(k:Int))=false:=decide_eq_false (by omega);have hnk2:decide (n<=k)=false:=decide_eq_false (by omega);rw[<-hz];clear hb hn hx hR hcell ht hz hk hr;rcases(by omega:z%2=0\/z%2=1) with hz2|hz2
   · exact Qa8
   · exact Qa8
 · rw[xG xs hx i (by omega)];have hnk:decide ((n:Int)<=(k:Int))=true:=decide_eq_true (by omega);clear hn hx hR hk hr;go_enter Tryz.func195,Tryz.ntmps195;go_wp2;go_ret;exact⟨rfl,rfl⟩
theorem Ef (M M2 xs bs:List Nat) (k n m c y:Nat) (bT:M.length=n+m) (hk:k<n) (hn:n=xs.length) (hm:m=bs.length) (hMs:sg M 0 (k+m)=sg xs 0 k*val bs) (hy:xs.getD k 0=y)
 (hout:Out M M2 k m) (hsum:sg M2 k m+c*pw m=sg M k m+val bs*y):sg (M2.set (k+m) c) 0 (k+1+m)=sg xs 0 (k+1)*val bs:=by
 have e1:=bF M2 0 (k+m) c (by rw[hout.1];omega);rw[cO] at e1;have e2:=iH M2 0 k m (by rw[hout.1];omega);have e3:=iH M 0 k m (by omega);rw[cO] at e2 e3;have e4:=hout.below 0 k (by omega) (by omega);rw[show k+1+m=k+m+1 by omega,e1,e2,e4,bA xs 0 k (by omega),cO,hy,sG];rw[e3] at hMs;rw[bJ c] at hsum;have:=D8 (pw k) _ _ y _ _ c hMs;rw[<-hsum] at this;rw[<-this,mY,aJ,mX]
theorem Ib (xs bs:List Nat) (ao bo:Option Addr) (n cap m aS B:Nat) (w:World) (hn:n=xs.length) (hm:m=bs.length) (hc:n<=cap) (hcb:m<=aS) (hbig:n+m<=35184372088832)
 (hx:Wf xs) (hb:Wf bs) (hR:Rd B w ao xs) (hS:Rd B w bo bs) (hB:B<=w.heap.size) :
 Calls Tryz.prog 110 #[.slice ao n cap,.slice bo m aS] w fun r w'=>∃ v,r=.returned v/\Nt w.heap.size w' v (val xs*val bs)/\Below w.heap.size w w':=by
 obtain⟨W1,hW1⟩:=af (w.alloc (.cells (madeCells #[.int .u32 0] (n+m)) 162));have lD:Own W1 w.heap.size (List.replicate (n+m) 0):=by rw[hW1];exact Own.made w (n+m)
 have hB1:Below w.heap.size w W1:=by rw[hW1];exact(ay _ _).alloc (ak _) _
 have hmk:=dw ((n:Int)+m) (n+m) (by omega) (by omega) w;rw[<-hW1] at hmk;have DI:Rd B W1 ao xs:=hR.below (hB1.mono hB);have hS1:Rd B W1 bo bs:=hS.below (hB1.mono hB);obtain⟨g,hg⟩:=af (w.heap.size);rw[<-hg] at lD hmk hB1 hB;have HR:=(Dh DI hS1 hm hb hx hn hB1 hg);have HO:=hid lD;clear hn hm hx hb hR hS lD hB1 hW1 DI hS1 hg;go_enter Tryz.func110,Tryz.ntmps110;go_wp2
 go_loopg [6] n (fun gk i wr=>∃ (k:Nat) (M:List Nat),gk+k=n/\i=.int .i64 (k:Nat) /\
  Hid (Own wr g M)/\Aside (Wf M/\M.length=n+m/\sg M 0 (k+m)=sg xs 0 k*val bs/\But g W1 wr))
 case atStart=>exact⟨0,_,by omega,rfl,HO,Wf.zeros _,by simp,by rw[qY,dF];simp,But.refl _ _⟩
 case round =>
  obtain⟨i,L,lU,rfl,HM,HA⟩:=hrel
  by_cases hi:i<n
  · obtain⟨hR,hS,hm,hb,hx,hn,hB1,hg⟩:=HR.o;obtain⟨a,UL,haB,rfl,hac⟩:=hR (by intro e;subst e;simp at hn;omega);have Uq:g<=W1.heap.size:=by have:=hB1.size;omega
    have HAC:Aside (W1.cell? ⟨a,UL+i,none⟩=some (.int .u32 ((xs.getD i 0:Nat):Int))/\a<B/\a<W1.heap.size):=⟨hac i (by omega),haB,qh W1 ⟨a,UL+i,none⟩ (hac i (by omega))⟩;obtain⟨q,hq⟩:∃ q:Nat,xs.getD i 0=q:=⟨_,rfl⟩;have hql:q<4294967296:=hq ▸ hx.get _;rw[hq] at HAC;have HQ:=ah hq;clear hq hR hS hm hb hx hn hB1 hg hac;go_wp2
    go_loopg [7,8] m (fun gk c kv w2=>∃ (k cv:Nat) (M:List Nat),gk+k=m/\c=.int .u64 (cv:Nat)/\cv<4294967296/\kv=.int .i64 (k:Nat) /\
     Hid (Own w2 g M)/\Aside (Wf M/\Out L M i k/\sg M i k+cv*pw k=sg L i k+sg bs 0 k*q/\But g W1 w2))
    case atStart=>exact⟨0,0,L,by omega,rfl,by omega,rfl,HM,HA.o.1,Out.refl _ _ _,by simp[dF],HA.o.r3⟩
    case round =>
     obtain⟨k,cv,M,Yu,rfl,hcv,rfl,HN,HC⟩:=hrel
     by_cases hk:k<m
     · obtain⟨hR,hS,hm,hb,hx,hn,hB1,hg⟩:=HR.o;obtain⟨aR,eQ,hMs,aD⟩:=HC.o;obtain⟨sO,sN,_,_⟩:=HA.o;obtain⟨b,eX,JJ,rfl,hbc⟩:=hS (by intro e;subst e;simp at hm;omega)
       have hbk:wr.cell? ⟨b,eX+k,none⟩=some (.int .u32 ((bs.getD k 0:Nat):Int)):=by
        have h1:=aD.block b (qh W1 ⟨b,eX+k,none⟩ (hbc k (by omega))) (by omega);exact zj
       have hak:wr.cell? ⟨a,UL+i,none⟩=some (.int .u32 (q:Nat)):=by
        have h1:=aD.block a HAC.o.r2 (by have:=HAC.o.2.1;omega);exact(qV (a:=⟨a,UL+i,none⟩) h1).trans HAC.o.1
       have hgc:=HN.o.cell (i+k) (by rw[eQ.1];omega);have hgf:=HN.o.frozen (i+k);obtain⟨x,eD⟩:∃ x:Nat,M.getD (i+k) 0=x:=⟨_,rfl⟩;obtain⟨y,qy⟩:∃ y:Nat,bs.getD k 0=y:=⟨_,rfl⟩;have hxl:x<4294967296:=eD ▸ aR.get _;have hyl:y<4294967296:=qy ▸ hb.get _;rw[eD] at hgc;rw[qy] at hbk;have hp0:=sI q y hql hyl;have hp2:(q:Int)*(y:Int)<=18446744065119617025:=by rw[<-dK];omega
       have hp1:0<=(q:Int)*(y:Int):=by rw[<-dK];omega
       obtain⟨s,hs⟩:∃ s:Nat,s=(q*y+x+cv)%4294967296:=⟨_,rfl⟩;obtain⟨d,hd⟩:∃ d:Nat,d=(q*y+x+cv)/4294967296:=⟨_,rfl⟩;have e0:((q*y+x+cv:Nat):Int)=(q:Int)*y+x+cv:=by simp only[wN,dK]
       have e1:((q:Int)*y+x+cv)%4294967296=(s:Int):=by rw[<-e0];omega
       have e2:((q:Int)*y+x+cv)/4294967296=(d:Int):=by rw[<-e0];omega
       have HX:Aside (M.getD (i+k) 0=x/\bs.getD k 0=y/\s+d*4294967296=y*q+x+cv/\s<4294967296/\d<4294967296):=⟨eD,qy,by rw[bJ y q];omega,by omega,by omega⟩;have hik:i+k<n+m:=by omega
       clear eD qy hs hd hR hS hm hb hx hn hB1 hg aR eQ hMs aD hbc e0 hp0 sO sN;go_wp2
       go_quiet (fail)
       go_wp2;go_roundg (gk-1)
       case measure=>omega
       case rel =>
        obtain⟨eD,qy,he,hs,hd⟩:=HX.o;obtain⟨hR,hS,hm,hb,hx,hn,hB1,hg⟩:=HR.o;obtain⟨aR,eQ,hMs,aD⟩:=HC.o;obtain⟨sO,sN,_,_⟩:=HA.o;refine⟨k+1,d,M.set (i+k) s,by omega,by first | rfl | rw[e2],hd,by first | go_num | (congr 1;omega),HN.o.set _ _,aR.set _ _ hs,(eQ.mono (by omega)).set _ _ (by omega) (by omega),?_,(But.drewN aD _).set _ _⟩;rw[bF _ _ _ _ (by rw[eQ.1];omega),bA L i k (by omega),bA bs 0 k (by omega),cO,qy,bz];have e:L.getD (i+k) 0=x:=by rw[<-eD];exact(eQ.2 _ (by omega)).symm
        rw[e];exact xn _ _ _ _ _ _ _ _ _ _ hMs he
     · obtain rfl:k=m:=by omega
       obtain⟨sO,sN,hLs,hLb⟩:=HA.o;have hgc:=HN.o.cell (i+k) (by rw[HC.o.2.1.1];omega);have hgf:=HN.o.frozen (i+k);have hik:i+k<n+k:=by omega
       have hcm:(cv:Int)%4294967296=(cv:Int):=by omega
       clear sO sN hLs hLb;go_wp2;go_roundg (n-(i+1))
       case measure=>omega
       case rel =>
        obtain⟨hR,hS,hm,hb,hx,hn,hB1,hg⟩:=HR.o;obtain⟨aR,eQ,hMs,aD⟩:=HC.o;obtain⟨sO,sN,hLs,hLb⟩:=HA.o;refine⟨i+1,M.set (i+k) cv,by omega,by first | go_num | (congr 1;omega),HN.o.set _ _,aR.set _ _ hcv,by simp[eQ.1,sN],?_,aD.set _ _⟩;have e2:sg bs 0 k=val bs:=by rw[hm];exact dh bs
        rw[e2] at hMs;exact Ef L M xs bs i n k cv q sN hi hn hm hLs HQ.o eQ hMs
  · obtain rfl:i=n:=by omega
    obtain⟨aR,bT,hMs,aD⟩:=HA.o;have T:=hid (jd L (some ⟨g,0,none⟩) (i+m) (i+m) (g+1) wr bT.symm (ak _) (by omega) aR (by simpa [bT,dO] using Rd.gm HM.o 0 (i+m)) (fun e=>by cases e));clear aR bT hMs aD;go_wp2_with fail;refine T.o.mono ?_;rintro r w1 ⟨v,rfl,Qf,hbb⟩;have HZ:=(aZ Qf hbb);clear Qf hbb;go_wp2;go_ret;obtain⟨hR,hS,hm,hb,hx,hn,hB1,hg⟩:=HR.o;obtain⟨aR,bT,hMs,aD⟩:=HA.o;have e1:sg L 0 (i+m)=val L:=by rw[<-bT];exact dh L
    have e2:sg xs 0 i=val xs:=by rw[hn];exact dh xs
    rw[e1,e2] at hMs;have hsz1:=hB1.size;have hsz2:=aD.size;have hbel:Below g w wr:=But.below hB1 aD (by omega) (ak _);rw[<-hMs,<-hg];exact⟨v,rfl,HZ.o.1.mono (by omega),hbel.trans (HZ.o.2.mono (by omega))⟩
theorem kD{w:World}{a b:Option Addr}{n c m d:Nat}{xs ys:List Nat}{V:Nat}(h1:Arg w a n c xs)(h2:Arg w b m d ys)(hs:n+m<=35184372088832)(e:val xs*val ys=V) :
 Calls Tryz.prog 110 #[.slice a n c,.slice b m d] w fun r w'=>∃ v,r=.returned v/\Nt w.heap.size w' v V/\Below w.heap.size w w':=by
 subst e;exact Ib xs ys a b n c m d w.heap.size w h1.len h2.len h1.cap h2.cap hs h1.wf h2.wf h1.rd h2.rd (ak _)
theorem zR{w:World}{a b:Option Addr}{n c m d:Nat}{xs ys:List Nat}{V:Nat}(h1:Arg w a n c xs)(h2:Arg w b m d ys)(hs1:n<=35184372088000)(hs2:m<=35184372088000)(e:val xs+val ys=V) :
 Calls Tryz.prog 114 #[.slice a n c,.slice b m d] w fun r w'=>∃ v,r=.returned v/\Nt w.heap.size w' v V/\Below w.heap.size w w':=by
 subst e;exact Mh xs ys a b n c m d w.heap.size w h1.len h2.len h1.cap h2.cap hs1 hs2 h1.wf h2.wf h1.rd h2.rd (ak _)
theorem qF{w:World}{a b:Option Addr}{n c m d:Nat}{xs ys:List Nat}{V:Nat}(h1:Arg w a n c xs)(h2:Arg w b m d ys)(hs1:n<=35184372088000)(hs2:m<=35184372088000)(e:V+val ys=val xs) :
 Calls Tryz.prog 116 #[.slice a n c,.slice b m d] w fun r w'=>∃ v,r=.returned v/\Nt w.heap.size w' v V/\Below w.heap.size w w':=by
 have h:=Ia xs ys a b n c m d w.heap.size w h1.len h2.len h1.cap h2.cap hs1 hs2 h1.wf h2.wf h1.rd h2.rd (ak _) (by omega);rw[show val xs-val ys=V by omega] at h;exact h
theorem jr{w:World}{a b:Option Addr}{n c m d:Nat}{xs ys:List Nat}(h1:Arg w a n c xs)(h2:Arg w b m d ys)(z:Int)(e:aW (val xs) (val ys)=z) :
 Calls Tryz.prog 115 #[.slice a n c,.slice b m d] w fun r w'=>r=.returned (.int .i64 z)/\Below w.heap.size w w':=by
 have:=Qg xs ys a b n c m d w.heap.size w h1.len h2.len (by have:=h1.big;omega) (by have:=h2.big;omega) h1.wf h2.wf h1.rd h2.rd;rw[e] at this;exact this
theorem rE(w:World)(d:Nat)(hd:d<4294967296):Arg (w.alloc (.cells #[.int .u32 (d:Int)] 162)) (some ⟨w.heap.size,0,none⟩) 1 1 [d]:=by
 refine⟨rfl,ak _,by omega,Wf.cons hd Wf.nil,fun _=>⟨w.heap.size,0,by simp,rfl,fun i hi=>?_⟩,fun e=>by cases e⟩;obtain rfl:i=0:=by simpa using hi
 unfold World.cell?;simp only[gU];rfl
theorem ae(w:World)(o:Obj):Below w.heap.size w (w.alloc o):=(ay _ _).alloc (ak _) _
theorem Qi(N n:Nat)(h:N<pw n):bl N<=32*n:=by
 by_cases h0:N=0
 · rw[h0,df];omega
 · have h1:=gL N h0;rcases gT (32*n) (bl N) with h2|h2
   · exfalso;have h3:2^(32*n)<=2^(bl N-1):=eB (by omega) (by omega);have h4:pw n=2^(32*n):=by unfold pw;rw[nN]
     omega
   · exact h2
theorem Nt.but{lo g:Nat}{w w':World}{v:Value}{X:Nat}(h:Nt lo w v X)(hb:But g w w')(hg:g<lo):Nt lo w' v X:=by
 have h1:Rw lo w v (ws X).length ((ws X).map U):=h
 exact tq h1 fun b hb2=>by
  obtain⟨h2,h3⟩:=h.lt b hb2;exact hb.block b h3 (by omega)
theorem zS{w:World}{a:Option Addr}{n c:Nat}{xs:List Nat}{V:Nat}(h1:Arg w a n c xs)(e:val xs=V) :
 Calls Tryz.prog 164 #[.slice a n c] w fun r w'=>∃ v,r=.returned v/\Nt w.heap.size w' v V/\Below w.heap.size w w':=by
 subst e;exact jd xs a n c w.heap.size w h1.len h1.cap h1.big h1.wf h1.rd h1.nil
theorem J6{x y:Nat}(h:y<=x):0<=aW x y:=by unfold aW;split <;> (try split) <;> omega
theorem UM{x y:Nat}(h:x<=y):aW x y<=0:=by unfold aW;split <;> (try split) <;> omega
theorem Mk(X Y f t:Nat)(h1:Y*f<=X)(h2:X<Y*t)(h3:f<t)(h4:t-f<=1):X/Y=f:=by
 obtain rfl:t=f+1:=by omega
 exact Nat.div_eq_of_lt_le (by rw[bJ];exact h1) (by rw[bJ];exact h2)
theorem Ml{w:World}{a b:Option Addr}{n c m d:Nat}{xs ys:List Nat}(h1:Arg w a n c xs)(h2:Arg w b m d ys)(hm:m<=35184372088000)(hlt:val xs<val ys*4294967296) :
 Calls Tryz.prog 196 #[.slice a n c,.slice b m d] w fun r w'=>∃ v,r=.returned (.tuple #[.int .u32 ((val xs/val ys:Nat):Int),v])/\Nt w.heap.size w' v (val ys*(val xs/val ys))/\Below w.heap.size w w':=by
 have hlo:=ak w.heap.size;obtain⟨X,hX⟩:∃ X,val xs=X:=⟨_,rfl⟩;obtain⟨Y,hY⟩:∃ Y,val ys=Y:=⟨_,rfl⟩;have xI:=bN ys h2.wf;rw[<-h2.len,hY] at xI;rw[hX,hY] at hlt |-;have HX:=(jD h1 h2 hX hY hlt xI);clear h1 h2 hX hY hlt xI;go_enter Tryz.func196,Tryz.ntmps196;go_wp2
 go_loopg [6,7,8] 4294967296 (fun gk fv tv bv wr=>∃ (f t:Nat),gk+f=t/\fv=.int .u64 (f:Nat)/\tv=.int .u64 (t:Nat)/\f<t/\t<=4294967296/\Aside (Y*f<=X/\X<Y*t/\Below w.heap.size w wr/\Nt w.heap.size wr bv (Y*f)))
 case atStart=>exact⟨0,4294967296,by omega,rfl,rfl,by omega,by omega,by omega,HX.o.r4.1,ay _ _,by rw[nP];exact Nt.nil _ _⟩
 case round =>
  obtain⟨f,t,hgt,rfl,rfl,hft,ht,HA⟩:=hrel
  by_cases hend:t-f<=1
  · obtain⟨p1,p2,p3,p4⟩:=HA.o;have HQ:=ah (Mk X Y f t p1 p2 hft hend);obtain rfl:t=f+1:=by omega
    clear p1 p2 p3 p4;have hff:f<4294967296:=by omega
    go_wp2
    go_ret2
    rw[HQ.o];exact⟨_,by first | rfl | (congr 1),HA.o.r3,HA.o.r2.1⟩
  · obtain⟨mid,hmid⟩:=af ((f+t)/2);have em:((f:Int)+(t:Int))/2=(mid:Int):=by omega
    have hm1:f<mid:=by omega
    have hm2:mid<t:=by omega
    have hm3:mid<4294967296:=by omega
    have em2:(mid:Int)%4294967296=(mid:Int):=by omega
    have hgo:(1:Int)<(t:Int)-(f:Int):=by omega
    obtain⟨h1,h2,hX,hY,hlt,xI⟩:=HX.o;obtain⟨p1,p2,p3,p4⟩:=HA.o;have hsz:=p3.size;have T1:=hid (kD (V:=Y*mid) ((h2.below p3).below (ae wr _)) (rE wr mid hm3) (by omega) (by rw[hY];simp[val]));have hYm:Y*mid<pw (m+1):=by rw[bz,bJ 4294967296];exact wS xI hm3
    have hwl:(ws (Y*mid)).length<=m+1:=(aL _ _).2 hYm;clear h1 h2 hX hY hlt xI p1 p2 p3 p4 hYm hmid;go_wp2_with fail;refine T1.o.mono ?_;rintro r u1 ⟨v,rfl,hN,hb⟩;obtain⟨a1,c1,rfl,A1⟩:=hN.arg (by omega);obtain⟨h1,h2,hX,hY,hlt,xI⟩:=HX.o;obtain⟨p1,p2,p3,p4⟩:=HA.o;have hb2:Below wr.heap.size wr u1:=(ae wr _).trans (hb.mono (by simp));have q3:Below w.heap.size w u1:=p3.trans (hb2.mono hsz);have q4:=p4.below hb2;have q5:=hN.mono (lo':=w.heap.size) (by simp;omega);have hs1:=hb2.size
    by_cases hle:Y*mid<=X
    · obtain⟨z,hz⟩:∃ z,aW (Y*mid) X=z:=⟨_,rfl⟩;have hz0:z<=0:=hz ▸ UM hle;have C1:=hid (jr A1 (h1.below q3) z (by rw[au,hX];exact hz));have S1:=(iw p2 q3 q5 hle);clear h1 h2 hX hY hlt xI p1 p2 p3 p4 q3 q4 q5 hN hb hb2 A1 hz hle T1 HA;go_wp2_with fail;refine C1.o.mono ?_;rintro r u2 ⟨rfl,hb⟩;have S2:=(aZ (S1.o.2.1.trans (hb.mono (by omega))) (S1.o.r2.1.below hb));clear hb C1;go_wp2;go_roundg (t-mid)
      case measure=>omega
      case rel=>exact⟨mid,t,by omega,rfl,rfl,hm2,ht,S1.o.r3,S1.o.1,S2.o.1,S2.o.2⟩
    · have hz:aW (Y*mid) X=1:=ru (by omega);have C1:=hid (jr A1 (h1.below q3) 1 (by rw[au,hX];exact hz));have S1:=(iw p1 q3 q4 hle);clear h1 h2 hX hY hlt xI p1 p2 p3 p4 q3 q4 q5 hN hb hb2 A1 hz hle T1 HA;go_wp2_with fail;refine C1.o.mono ?_;rintro r u2 ⟨rfl,hb⟩;have S2:=(aZ (S1.o.2.1.trans (hb.mono (by omega))) (S1.o.r2.1.below hb));clear hb C1;go_wp2;go_roundg (mid-f)
      case measure=>omega
      case rel=>exact⟨f,mid,by omega,rfl,rfl,hm1,by omega,S1.o.1,by have:=S1.o.r3;omega,S2.o.1,S2.o.2⟩
end
end Go.Proofs.YtjppdacikihpdaaGreatDoor
