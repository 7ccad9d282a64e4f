import Ieee.Arith
import Derived.WalkKit
import Derived.Test.YtjppdacikihpdaaGreatDoorProg
import Derived.WalkLawsBesides
import Derived.WalkSpells
import Derived.Laws.Externs
import Derived.Test.YtjppdacikihpdaaGreatDoorW24x
import Derived.BigQuiet
import Derived.ArgAppend
import Derived.Maps.AppendAt
import Derived.WalkMore
import Derived.Test.YtjppdacikihpdaaGreatDoorW14x
import Derived.ProofKit
import Derived.OpenShut
import Derived.ChangeOld
import Derived.SizedLaws
set_option linter.unusedVariables false
set_option linter.unusedSimpArgs false
set_option maxHeartbeats 16000000
set_option maxRecDepth 20000
namespace Go.Proofs.YtjppdacikihpdaaGreatDoor
namespace B
open Ieee
def val(f:Format)(r:Nat):Nat:=if r<f.binade then r else(f.binade+r%f.binade)*2^(r/f.binade-1)
theorem jT(f:Format):0<f.binade:=bG _
theorem val_succ(f:Format)(r:Nat):val f (r+1)=val f r+2^(r/f.binade-1):=by
 have hb:=jT f;unfold val;generalize hB:f.binade=B at *
 by_cases h:r<B
 . rw[if_pos h,iq h]
   by_cases h1:r+1<B
   . rw[if_pos h1]
   . have e:r+1=B:=ae
     rw[if_neg h1,e,Nat.mod_self,Nat.div_self hb];simp
 . have h1:¬ r+1<B:=ae
   rw[if_neg h,if_neg h1]
   have hq:1<=r/B:=by
    have:=Nat.div_le_div_right (c:=B) (mq h);rw[Nat.div_self hb] at this;exact this
   have hm:=iB r hb;have hd:=oz r B;generalize r/B=q at *;generalize hmm:r%B=m at *;obtain⟨q,rfl⟩:∃k,q=k+1:=⟨q-1,ae⟩
   by_cases h2:m+1<B
   . have e:r+1=B*(q+1)+(m+1):=ae
     have e1:(r+1)%B=m+1:=by rw[e,Nat.mul_add_mod,jL h2]
     have e2:(r+1)/B=q+1:=by rw[e,Nat.mul_add_div hb,iq h2]
     rw[e1,e2,mX,<-oo,fT,ik]
   . have hm1:m+1=B:=ae
     have e:r+1=B*(q+2):=by rw[show q+2=(q+1)+1 from rfl,Nat.mul_succ];omega
     have e1:(r+1)%B=0:=by rw[e,Nat.mul_mod_right]
     have e2:(r+1)/B=q+2:=by rw[e,wB _ hb]
     rw[e1,e2];have:B+m=2*B-1:=ae
     have h3:(B+m)*2^q+2^q=(2*B)*2^q:=by
      rw[<-Nat.succ_mul];congr 1;omega
     show(B+0)*2^(q+1)=(B+m)*2^q+2^q;rw[h3,dS,il,cK 2 B,aQ,cK 2]
theorem wL(f:Format)(r:Nat):val f r<val f (r+1):=by
 rw[val_succ];exact Nat.lt_add_of_pos_right (bG _)
theorem dh(f:Format){r s:Nat}(h:r<s):val f r<val f s:=by
 induction s with
 | zero=>omega
 | succ s ih =>
   by_cases e:r=s
   . subst e;exact wL f r
   . exact Nat.lt_trans (ih ae) (wL f s)
theorem iH(f:Format){r s:Nat}:val f r<val f s↔r<s:=by
 constructor
 . intro h
   by_cases e:r<s
   . exact e
   . by_cases e2:r=s
     . subst e2;omega
     . have:=dh f (show s<r by omega);omega
 . exact dh f
theorem val_inj(f:Format){r s:Nat}(h:val f r=val f s):r=s:=by
 by_cases e:r<s
 . have:=dh f e;omega
 . by_cases e2:s<r
   . have:=dh f e2;omega
   . omega
theorem val_zero(f:Format):val f 0=0:=by
 unfold val;rw[if_pos (jT f)]
def sg(s:Bool)(r:Nat):Int:=if s then -(r:Int) else r
theorem Be(f:Format)(s t:Bool)(r u:Nat):sg s (val f r)<sg t (val f u)↔sg s r<sg t u:=by
 have h1:=@iH f r u;have h2:=@iH f u r;have z:=val_zero f;have h3:=@iH f 0 r;have h4:=@iH f 0 u
 cases s <;> cases t <;> simp only[sg,if_true,if_false,eX] <;> omega
theorem Nw(s:Bool)(m k:Nat):signed s m k=sg s (m*2^k):=by
 unfold signed sg;rw[Cs]
theorem Qau{P:Prop}(h:P:=by
 unfold Format.word
 cases s
 . simp only[eX,if_false];exact jL ae
 . simp only[if_true];rw[Nat.add_mod_left];exact jL ae):P:=h
theorem Qaq{P:Prop}(h:P:=by
 unfold Format.word
 cases s
 . simp only[eX,if_false];rw[iq ae];rfl
 . simp only[if_true];rw[Nat.add_div_left _ ae,iq ae];rfl):P:=h
theorem nu(f:Format)(s:Bool)(r:Nat)(hr:r<f.infRung)(hs:f.infRung<f.signWeight) :
 ∃m:Nat,∃k:Nat,f.read (f.word s r)=.number s m (f.leastPlace+k)/\m*2^k=val f r:=by
 have e1:(f.word s r/f.signWeight%2==1)=s:=by
  exact Qaq
 have e2:f.word s r%f.signWeight=r:=by
  exact Qau
 unfold Format.read;simp only[e1,e2];unfold val
 by_cases h:r<f.binade
 . rw[if_pos h,if_pos h];exact⟨r,0,aN,aN⟩
 . rw[if_neg h,if_neg h,if_pos hr];exact⟨_,_,rfl,rfl⟩
theorem tL(f:Format)(s:Bool)(hs:f.infRung<f.signWeight)(hb:f.binade<=f.infRung) :
 f.read (f.word s f.infRung)=.infinity s:=by
 have e1:(f.word s f.infRung/f.signWeight%2==1)=s:=by
  exact Qaq
 have e2:f.word s f.infRung%f.signWeight=f.infRung:=by
  exact Qau
 unfold Format.read;simp only[e1,e2];rw[if_neg ae,if_neg ae,if_pos trivial]
theorem Rj(f:Format)(w:Nat)(h:f.infRung<w%f.signWeight)(hb:f.binade<=f.infRung) :
 f.read w=.nan (w/f.signWeight%2==1) (w%f.signWeight-f.infRung):=by
 unfold Format.read;simp only;rw[if_neg ae,if_neg ae,if_neg ae]
theorem yK(a b c d:Int)(h1:a<b↔c<d)(h2:b<a↔d<c):compare a b=compare c d:=by
 by_cases x:a<b
 . rw[wF.2 x,wF.2 (h1.1 x)]
 . by_cases y:b<a
   . rw[wG.2 y,wG.2 (h2.1 y)]
   . have e1:a=b:=ae
     have e2:c=d:=by
      have n1:=mt h1.2 x;have n2:=mt h2.2 y;omega
     rw[wH.2 e1,wH.2 e2]
theorem Rk(s:Bool)(a k:Nat):sg s (a*k)=sg s a*(k:Int):=by
 unfold sg;cases s <;> simp[Int.neg_mul]
theorem Ny(s t:Bool)(m n j k:Nat)(p:Int) :
 Datum.order (.number s m (p+j)) (.number t n (p+k))=some (compare (sg s (m*2^j)) (sg t (n*2^k))):=by
 unfold Datum.order;simp only[Nw];congr 1;have hb:∃c:Nat,min (p+(j:Int)) (p+(k:Int))=p+c:=⟨min j k,ae⟩;obtain⟨c,hc⟩:=hb;have hj:(p+(j:Int)-min (p+(j:Int)) (p+(k:Int))).toNat=j-c:=by rw[hc];omega
 have hk:(p+(k:Int)-min (p+(j:Int)) (p+(k:Int))).toNat=k-c:=by rw[hc];omega
 have cj:c<=j:=ae
 have ck:c<=k:=ae
 rw[hj,hk];have ej:m*2^j=m*2^(j-c)*2^c:=by rw[aQ,<-aP,Ct cj]
 have ek:n*2^k=n*2^(k-c)*2^c:=by rw[aQ,<-aP,Ct ck]
 rw[ej,ek,Rk s (m*2^(j-c)),Rk t (n*2^(k-c))];have hp:(0:Int)<((2^c:Nat):Int):=by exact_mod_cast bG c
 refine yK _ _ _ _ ?_ ?_
 . exact⟨λh=>Cu h hp,λh=>Cv h (xZ hp)⟩
 . exact⟨λh=>Cu h hp,λh=>Cv h (xZ hp)⟩
theorem Qar{P:Prop}(h:P:=by
 unfold Datum.order;simp only
 cases s <;> cases t <;> simp only[sg,if_true,if_false,eX] <;>
  first | rw[wG.2 ae] | rw[wF.2 ae]):P:=h
theorem Jd(f:Format)(hs:f.infRung<f.signWeight)(hb:f.binade<=f.infRung)(s t:Bool)(r u:Nat)(hr:r<=f.infRung)(hu:u<=f.infRung) :
 f.order (f.word s r) (f.word t u)=some (compare (sg s r) (sg t u)):=by
 have hB:=jT f;unfold Format.order
 by_cases r1:r=f.infRung
 . by_cases u1:u=f.infRung
   . subst r1 u1;rw[tL f s hs hb,tL f t hs hb];unfold Datum.order;simp only;congr 1
     cases s <;> cases t <;> simp only[sg,gD,gF,if_true,if_false,eX]
     . rw[wH.2 rfl];rfl
     . rw[wG.2 ae];rfl
     . rw[wF.2 ae];rfl
     . rw[wH.2 rfl];rfl
   . obtain⟨n,k,e,hv⟩:=nu f t u ae hs;subst r1;rw[tL f s hs hb,e];exact Qar
 . obtain⟨m,j,e,hv⟩:=nu f s r ae hs
   by_cases u1:u=f.infRung
   . subst u1;rw[tL f t hs hb,e];exact Qar
   . obtain⟨n,k,e2,hv2⟩:=nu f t u ae hs;rw[e,e2,Ny,hv,hv2];congr 1;exact yK _ _ _ _ (Be f s t r u) (Be f t s u r)
def YV(n g:Nat):Nat:=n/g+(decide (g<2*(n%g)) || (g==2*(n%g)&&n/g%2==1)).toNat
theorem FI(neg:Bool)(n drop:Nat):Toward.even.cut neg n drop=YV n (2^drop):=by
 unfold Toward.cut YV;simp only[Cs,ik]
 by_cases h:drop<=n.log2+2
 . rw[iQ h]
 . rw[Nat.min_eq_right ae];have hn:n<2^(n.log2+1):=Nat.lt_log2_self;have h1:n<2^(n.log2+2):=by rw[dS];omega
   have h2:2^(n.log2+2)<=2^drop:=fD ae ae;have h3:2*n<2^(n.log2+2):=by rw[dS];omega
   rw[iq h1,jL h1,iq (show n<2^drop by omega),jL (show n<2^drop by omega)];have a1:decide (2^(n.log2+2)<2*n)=false:=by simp;omega
   have a2:decide (2^drop<2*n)=false:=by simp;omega
   simp only[a1,a2,Nat.zero_mod];simp
theorem Bf(n g:Nat)(hg:0<g):YV (n*g) g=n:=by
 unfold YV;rw[Nat.mul_div_cancel _ hg,Nat.mul_mod_left];have:decide (g<2*0)=false:=by simp
 have h2:(g==2*0)=false:=by simp;omega
 rw[this,h2];simp
theorem Ls(n:Nat):YV n 1=n:=by
 have:=Bf n 1 ae;rwa [eQ] at this
theorem z8(f:Format)(neg:Bool)(mag k r:Nat)(hr:r<f.infRung)(h:mag*2^k=val f r) :
 f.nearest neg mag (f.leastPlace+k)=f.word neg r:=by
 unfold Format.nearest
 by_cases hm:mag=0
 . rw[if_pos hm];have:val f r=val f 0:=by rw[val_zero,<-h,hm,fe]
   rw[val_inj f this]
 . rw[if_neg hm];simp only[FI,Cs];have hl:=(Nat.log2_eq_iff hm (k:=mag.log2)).1 rfl;generalize mag.log2=L at *;have hB:f.binade=2^f.fractionBits:=rfl;have hb:=jT f;unfold val at h
   by_cases hlt:r<f.binade
   . rw[if_pos hlt] at h
     have h1:2^(L+k)<2^f.fractionBits:=by
      rw[aP,<-hB];exact iC (dL _ hl.1) ae
     have h2:=(kH (a:=2) ae).1 h1;have e:max (f.leastPlace+(k:Int)+(L:Int)-(f.fractionBits:Int)) f.leastPlace=f.leastPlace:=ae
     rw[e];have e1:(f.leastPlace+(k:Int)-f.leastPlace).toNat=k:=ae
     have e2:(f.leastPlace-(f.leastPlace+(k:Int))).toNat=0:=ae
     have e3:(f.leastPlace-f.leastPlace).toNat=0:=ae
     rw[e1,e2,e3,h,fO,Ls,fe,dA,iQ ae]
   . rw[if_neg hlt] at h
     have hq:1<=r/f.binade:=by
      have:=Nat.div_le_div_right (c:=f.binade) (mq hlt);rw[Nat.div_self hb] at this;exact this
     have hmm:=iB r hb;have hd:=oz r f.binade;generalize r/f.binade=q at *;generalize r%f.binade=m at *;obtain⟨q,rfl⟩:∃j,q=j+1:=⟨q-1,ae⟩;rw[mX] at h
     -- the ZR
     have lo1:2^(L+k)<=mag*2^k:=by rw[aP];exact dL _ hl.1
     have hi1:mag*2^k<2^(L+1+k):=by rw[aP];exact fK hl.2 (bG _)
     have lo2:2^(f.fractionBits+q)<=(f.binade+m)*2^q:=by rw[aP];exact dL _ ae
     have hi2:(f.binade+m)*2^q<2^(f.fractionBits+1+q):=by
      rw[aP,dS];exact fK ae (bG _)
     have c1:=(kH (a:=2) ae).1 (show 2^(L+k)<2^(f.fractionBits+1+q) by omega);have c2:=(kH (a:=2) ae).1 (show 2^(f.fractionBits+q)<2^(L+1+k) by omega);have cL:L+k=f.fractionBits+q:=ae
     have e:max (f.leastPlace+(k:Int)+(L:Int)-(f.fractionBits:Int)) f.leastPlace=f.leastPlace+q:=ae
     rw[e];have e3:(f.leastPlace+(q:Int)-f.leastPlace).toNat=q:=ae
     rw[e3]
     have fin:q*f.binade+(f.binade+m)=r:=by
      rw[<-hd,Nat.mul_succ,cK q];omega
     by_cases hk:q<=k
     . have e1:(f.leastPlace+(k:Int)-(f.leastPlace+(q:Int))).toNat=k-q:=ae
       have e2:(f.leastPlace+(q:Int)-(f.leastPlace+(k:Int))).toNat=0:=ae
       have hh:mag*2^(k-q)=f.binade+m:=by
        have:mag*2^(k-q)*2^q=(f.binade+m)*2^q:=by
         rw[aQ,<-aP,Ct hk];exact h
        exact pz (bG _) this
       rw[e1,e2,hh,fO,Ls,fin,iQ ae]
     . have e1:(f.leastPlace+(k:Int)-(f.leastPlace+(q:Int))).toNat=0:=ae
       have e2:(f.leastPlace+(q:Int)-(f.leastPlace+(k:Int))).toNat=q-k:=ae
       have hh:mag=(f.binade+m)*2^(q-k):=by
        have:mag*2^k=(f.binade+m)*2^(q-k)*2^k:=by
         rw[aQ,<-aP,Ct ae];exact h
        exact pz (bG _) this
       rw[e1,e2,fO,eQ,hh,Bf _ _ (bG _),fin,iQ ae]
end B
namespace B
def bw(s:Bool)(e f:Nat):Nat:=s.toNat*9223372036854775808+e*4503599627370496+f
theorem bw_of(b:Nat)(hb:b<18446744073709551616):∃s e f,e<2048/\f<4503599627370496/\b=bw s e f:=by
 refine⟨decide (9223372036854775808<=b),b%9223372036854775808/4503599627370496,b%4503599627370496,ae,ae,?_⟩;unfold bw
 by_cases h:9223372036854775808<=b
 . rw[decide_eq_true h];simp only[gD];omega
 . rw[decide_eq_false h];simp only[gF];omega
theorem qt{P:Prop}(h:P:=by
 unfold bw;cases s <;> simp only[gD,gF] <;> omega):P:=h
theorem pU(s:Bool)(e f:Nat)(he:e<2048)(hf:f<4503599627370496):bw s e f<18446744073709551616:=by
 exact qt
theorem Nz(n:Int)(h0:0<=n)(h1:n<2^63):IntKind.i64.wrap n=n:=by rw[QD];omega
theorem wraps_u64(n:Int)(h0:0<=n)(h1:n<2^64):IntKind.u64.wrap n=n:=by
 simp[IntKind.wrap,IntKind.bits,IntKind.signed];omega
theorem Rl(s:Bool)(e f:Nat)(he:e<2048)(hf:f<4503599627370496):bits .and .i64 ((bw s e f:Int)/4503599627370496) 2047=(e:Int):=by
 have hl:=pU s e f he hf;have h:=bits_mask .i64 63 aM Nz 11 aM ((bw s e f:Int)/4503599627370496) ae ae;rw[show((2:Int)^11-1)=2047 from rfl] at h;rw[h];exact qt
theorem VX(s:Bool)(e f:Nat)(he:e<2048)(hf:f<4503599627370496):bits .and .u64 ((bw s e f:Nat):Int) 4503599627370495=(f:Int):=by
 have hl:=pU s e f he hf;have h:=bits_mask .u64 64 aM wraps_u64 52 aM (bw s e f:Int) ae ae;rw[show((2:Int)^52-1)=4503599627370495 from rfl] at h;rw[h];exact qt
theorem VY(s:Bool)(e f:Nat)(he:e<2048)(hf:f<4503599627370496):bits .and .u64 ((bw s e f:Int)/9223372036854775808) 1=(s.toNat:Int):=by
 have hl:=pU s e f he hf;have h:=bits_mask .u64 64 aM wraps_u64 1 aM ((bw s e f:Int)/9223372036854775808) ae ae;rw[show((2:Int)^1-1)=1 from rfl] at h;rw[h];exact qt
theorem VZ(f:Nat)(hf:f<4503599627370496):bits .or .u64 (f:Int) 4503599627370496=(f:Int)+4503599627370496:=by
 have hc:bits .or .u64 (f:Int) 4503599627370496=bits .or .u64 4503599627370496 (f:Int):=by simp only[bits,BitVec.or_comm]
 rw[hc,bits_join .u64 64 aM wraps_u64 52 4503599627370496 (f:Int) aM aM aM ae ae ae];omega
theorem V4(x:Int)(h0:0<=x)(h1:x<9223372036854775808):bits .or .u64 x 9223372036854775808=x+9223372036854775808:=by
 have hc:bits .or .u64 x 9223372036854775808=bits .or .u64 9223372036854775808 x:=by simp only[bits,BitVec.or_comm]
 rw[hc,bits_join .u64 64 aM wraps_u64 63 9223372036854775808 x aM aM aM h0 ae ae];omega
def pv(neg:Bool)(c x:Int)(f:Int):Value:=.agg #[.bool neg,.int .i64 c,.int .i64 x,.int .u64 f]
def cls(e f:Nat):Int:=if e=2047 then(if f=0 then 3 else 4) else if e=0 then(if f=0 then 0 else 1) else 2
def xp(e:Nat):Int:=if e=2047 then 0 else if e=0 then -1074 else(e:Int)-1075
def fr(e f:Nat):Int:=if e=2047 then 0 else if e=0 then(f:Int) else(f:Int)+4503599627370496
def ng(s:Bool)(e f:Nat):Bool:=if e=2047/\f≠0 then false else s
def splitV(s:Bool)(e f:Nat):Value:=pv (ng s e f) (cls e f) (xp e) (fr e f)
theorem Qa6{P:Prop}(h:P:=by
 simp[splitV,pv,ng,cls,xp,fr,h,this]):P:=h
theorem yL(s:Bool)(e f:Nat)(h:e=2047)(h2:((f:Int) != 0)=true):splitV s e f=.agg #[.bool false,.int .i64 4,.int .i64 0,.int .u64 0]:=by
 have:f≠0:=by intro h;subst h;simp at h2
 exact Qa6
theorem yM(s:Bool)(e f:Nat)(h:e=2047)(h2:((f:Int) != 0)=false):splitV s e f=.agg #[.bool s,.int .i64 3,.int .i64 0,.int .u64 0]:=by
 have:f=0:=by simp at h2;omega
 exact Qa6
theorem rO(s:Bool)(e f:Nat)(h:e=0)(h2:((f:Int)==0)=true):splitV s e f=.agg #[.bool s,.int .i64 0,.int .i64 (-1074),.int .u64 0]:=by
 have:f=0:=by simp at h2;omega
 exact Qa6
theorem tN(s:Bool)(e f:Nat)(h:e=0)(h2:((f:Int)==0)=false):splitV s e f=.agg #[.bool s,.int .i64 1,.int .i64 (-1074),.int .u64 f]:=by
 have:f≠0:=by intro h;subst h;simp at h2
 exact Qa6
theorem tO(s:Bool)(e f:Nat)(h:e≠2047)(h2:e≠0):splitV s e f=.agg #[.bool s,.int .i64 2,.int .i64 ((e:Int)-1075),.int .u64 ((f:Int)+4503599627370496)]:=by
 simp[splitV,pv,ng,cls,xp,fr,h,h2]
theorem tQ(e n:Nat)(h:((e:Int)==(n:Int))=true):e=n:=by
 have:(e:Int)=n:=by simpa using h
 omega
theorem V5(s:Bool)(e f:Nat)(he:e<2048)(hf:f<4503599627370496):(bw s e f:Int)/4503599627370496%2048=e:=by
 exact qt
theorem Rm(s:Bool)(e f:Nat)(hf:f<4503599627370496):(bw s e f:Int)%4503599627370496=f:=by
 exact qt
theorem Rn(s:Bool)(e f:Nat)(he:e<2048)(hf:f<4503599627370496):(bw s e f:Int)/9223372036854775808%2=s.toNat:=by
 exact qt
def odd(e f:Nat):Bool:=e==2047&&f != 0
theorem gJ(e f:Nat)(h:odd e f=false):¬ (e=2047/\f≠0):=by
 rintro ⟨h1,h2⟩;simp[odd,h1,h2] at h
theorem lK(e f:Nat)(h:odd e f=true):e=2047/\f≠0:=by
 simpa [odd] using h
def cb(s:Bool)(e f:Nat):Nat:=if e=2047/\f≠0 then 9221120237041090560 else bw s e f
theorem mP(s:Bool)(e f:Nat)(h:e=2047/\f≠0):cb s e f=9221120237041090560:=if_pos h
theorem iZ(s:Bool)(e f:Nat)(h:¬ (e=2047/\f≠0)):cb s e f=bw s e f:=if_neg h
theorem Ro(s:Bool)(e f:Nat)(he:e<2048)(hf:f<4503599627370496):(bw s e f:Int)%9223372036854775808=(e:Int)*4503599627370496+f:=by
 exact qt
theorem Aa:Ieee.double.infRung=9218868437227405312:=aM
theorem Rp:Ieee.double.signWeight=9223372036854775808:=aM
theorem Je:Ieee.double.binade=4503599627370496:=aM
theorem dHs:Ieee.double.infRung<Ieee.double.signWeight:=aM
theorem dHb:Ieee.double.binade<=Ieee.double.infRung:=aM
theorem Dc(s:Bool)(e f:Nat):bw s e f=Ieee.double.word s (e*4503599627370496+f):=by
 unfold bw Ieee.Format.word;rw[Rp]
 cases s <;> simp[oo]
theorem wM(s:Bool)(e f:Nat)(hf:f<4503599627370496)(h:odd e f=true):Ieee.double.read (bw s e f)=.nan s f:=by
 have h0:e=2047/\f≠0:=by simpa [odd] using h
 have e1:bw s e f%Ieee.double.signWeight=e*4503599627370496+f:=by
  rw[Rp];exact qt
 have e2:(bw s e f/Ieee.double.signWeight%2==1)=s:=by
  rw[Rp]
  cases s
  . have:bw false e f/9223372036854775808%2=0:=by unfold bw;simp only[gF];omega
    rw[this];rfl
  . have:bw true e f/9223372036854775808%2=1:=by unfold bw;simp only[gD];omega
    rw[this];rfl
 rw[Rj Ieee.double _ (by rw[e1,Aa];omega) dHb,e1,e2,Aa,show e*4503599627370496+f-9218868437227405312=f from by omega]
theorem Lu(e f:Nat)(he:e<2048)(hf:f<4503599627370496)(h:odd e f=false):e*4503599627370496+f<=Ieee.double.infRung:=by
 rw[Aa];have:=gJ e f h;omega
theorem qE(s:Bool)(e f:Nat)(he:e<2048)(hf:f<4503599627370496)(h:odd e f=false):¬ bw s e f=9221120237041090560:=by
 have:=gJ e f h;exact qt
def pl(s:Bool)(e f:Nat):Int:=sg s (e*4503599627370496+f)
theorem ord(s t:Bool)(e f u v:Nat)(he:e<2048)(hf:f<4503599627370496)(hu:u<2048)(hv:v<4503599627370496) :
 FloatKind.f64.format.order (bw s e f) (bw t u v)=if odd e f || odd u v then none else some (compare (pl s e f) (pl t u v)):=by
 show Ieee.double.order _ _=_
 by_cases h1:odd e f=true
 . rw[h1];show(Ieee.double.read (bw s e f)).order _=none;rw[wM s e f hf h1];rfl
 . by_cases h2:odd u v=true
   . rw[h2];show(Ieee.double.read (bw s e f)).order (Ieee.double.read (bw t u v))=if (odd e f || true)=true then none else _
     rw[wM t u v hv h2,Bool.or_true,if_pos rfl]
     cases Ieee.double.read (bw s e f) <;> rfl
   . have h3:odd e f=false:=by simpa using h1
     have h4:odd u v=false:=by simpa using h2
     rw[h3,h4,Dc,Dc];rw[Jd Ieee.double dHs dHb s t _ _ (Lu e f he hf h3) (Lu u v hu hv h4)];simp[pl]
theorem Jf(s:Bool)(e f:Nat)(he:e<2048)(hf:f<4503599627370496):(FloatKind.f64.format.order (bw s e f) (bw s e f) != some .eq)=odd e f:=by
 rw[ord s s e f e f he hf he hf,Bool.or_self,wH.2 rfl]
 cases odd e f <;> rfl
end B
namespace B
open Go.RowKit
theorem NA(s:Bool)(e f:Nat)(he:e<2048)(hf:f<4503599627370496)(w:World) :
 At 122 #[.int .u64 (bw s e f),.int .u64 52,.int .u64 11,.int .i64 (-1074)] w (splitV s e f):=by
 have hl:=pU s e f he hf;have h1:=Rl s e f he hf;have h2:=VX s e f he hf;have h3:=VY s e f he hf;have h4:=VZ f hf;have h5:((s.toNat:Int)==1)=s:=by cases s <;> rfl
 go_enter Tryz.func122,Tryz.ntmps122;go_wp2
 . rw[yL s e f ae ‹_›];exact aH (v:=.agg #[.bool false,.int .i64 4,.int .i64 0,.int .u64 0]) (by simp[results,Tryz.results122,go_sem]) rfl ⟨rfl,(by repeat (first | exact aD _ _ | assumption | exact aA _ | (simp;done) | (simp;omega) | refine Below.alloc ?_ ?_ _ | refine Below.setCell ?_ ?_ _ | refine iG ?_))⟩
 . rw[yM s e f ae ‹_›];exact aH (v:=.agg #[.bool s,.int .i64 3,.int .i64 0,.int .u64 0]) (by simp[results,Tryz.results122,go_sem]) rfl ⟨rfl,(by repeat (first | exact aD _ _ | assumption | exact aA _ | (simp;done) | (simp;omega) | refine Below.alloc ?_ ?_ _ | refine Below.setCell ?_ ?_ _ | refine iG ?_))⟩
 . rw[rO s e f ae ‹_›];exact aH (v:=.agg #[.bool s,.int .i64 0,.int .i64 (-1074),.int .u64 0]) (by simp[results,Tryz.results122,go_sem]) rfl ⟨rfl,(by repeat (first | exact aD _ _ | assumption | exact aA _ | (simp;done) | (simp;omega) | refine Below.alloc ?_ ?_ _ | refine Below.setCell ?_ ?_ _ | refine iG ?_))⟩
 . rw[tN s e f ae ‹_›];exact aH (v:=.agg #[.bool s,.int .i64 1,.int .i64 (-1074),.int .u64 f]) (by simp[results,Tryz.results122,go_sem]) rfl ⟨rfl,(by repeat (first | exact aD _ _ | assumption | exact aA _ | (simp;done) | (simp;omega) | refine Below.alloc ?_ ?_ _ | refine Below.setCell ?_ ?_ _ | refine iG ?_))⟩
 . rw[tO s e f ae ae];refine aH (v:=.agg #[.bool s,.int .i64 2,.int .i64 ((e:Int)-1075),.int .u64 ((f:Int)+4503599627370496)]) (by simp[results,Tryz.results122,go_sem];try omega) rfl ⟨rfl,(by repeat (first | exact aD _ _ | assumption | exact aA _ | (simp;done) | (simp;omega) | refine Below.alloc ?_ ?_ _ | refine Below.setCell ?_ ?_ _ | refine iG ?_))⟩
end B
namespace B
theorem aW(b:Nat)(w:World):(callFunc 25 #[.float .f64 b]).run Tryz.prog w=.ok (.value (.int .u64 b)) w:=by
 rw[run_callFunc_extern (e:=Extern.MathFloatBits.float64bits) Tryz.func25 mW mW mW mW];rfl
theorem aJ(n:Int)(w:World):(callFunc 28 #[.int .u64 n]).run Tryz.prog w=.ok (.value (.float .f64 n.toNat)) w:=by
 rw[run_callFunc_extern (e:=Extern.MathFloatBits.float64frombits) Tryz.func28 mW mW mW mW];rfl
end B
namespace B
open Go.RowKit
attribute [local go_sem] aW aJ
theorem bz{W w1:World}(hb:An W w1):(∀b o,b<W.heap.size->w1.cell? ⟨b,o,none⟩=W.cell? ⟨b,o,none⟩)/\(∀b o,b<W.heap.size->w1.frozen? ⟨b,o,none⟩=W.frozen? ⟨b,o,none⟩) :=
 ⟨λb o h=>hb.cell (p:=⟨b,o,none⟩) h,λb o h=>hb.frozen (p:=⟨b,o,none⟩) h⟩
theorem NC(s:Bool)(e f:Nat)(he:e<2048)(hf:f<4503599627370496)(w:World) :
 At 122 #[.int .u64 (bw s e f),.int .u64 52,.int .u64 11,.int .i64 (-1074)] w (.agg #[.bool (ng s e f),.int .i64 (cls e f),.int .i64 (xp e),.int .u64 (fr e f)]) :=
 NA s e f he hf w
theorem V7(w:World):Ax 60 #[] w (.float .f64 9221120237041090560):=by
 go_enter Tryz.func60,Tryz.ntmps60;go_wp2;exact Jx
theorem nz(s:Bool)(e f:Nat)(he:e<2048)(hf:f<4503599627370496)(w:World) :
 At 76 #[.float .f64 (bw s e f)] w (.agg #[.bool (ng s e f),.int .i64 (cls e f),.int .i64 (xp e),.int .u64 (fr e f)]):=by
 go_enter Tryz.func76,Tryz.ntmps76
 go_wp2_with (go_at_call 122;refine(NC s e f he hf _).mono ?_;rintro r w1 ⟨rfl,hb⟩;(obtain⟨hc,hfz⟩:=bz hb;have hz:w.heap.size<w1.heap.size:=by (have:=hb.size;simp at this;omega)))
 exact aH (v:=(.agg #[.bool (ng s e f),.int .i64 (cls e f),.int .i64 (xp e),.int .u64 (fr e f)])) (by simp[results,Tryz.results76,go_sem,hc]) rfl ⟨rfl,(by repeat (first | exact aD _ _ | exact((aD _ _).alloc (aA _) _).trans (hb.mono aN) | exact aA _ | (simp;done) | (simp;omega) | refine Below.alloc ?_ ?_ _ | refine Below.setCell ?_ ?_ _ | refine iG ?_))⟩
theorem qF(s:Bool)(e f:Nat)(he:e<2048)(hf:f<4503599627370496)(w:World) :
 Ax 102 #[.float .f64 (bw s e f)] w (.int .u64 (cb s e f)):=by
 have hl:=pU s e f he hf;have h1:=Ro s e f he hf
 by_cases h:e=2047/\f≠0
 . have h2:(9218868437227405312:Int)<(e:Int)*4503599627370496+f:=ae
   rw[mP s e f h];clear h;go_enter Tryz.func102,Tryz.ntmps102;go_wp2;exact Jx
 . have h2:¬ (9218868437227405312:Int)<(e:Int)*4503599627370496+f:=ae
   rw[iZ s e f h];clear h;go_enter Tryz.func102,Tryz.ntmps102;go_wp2;exact Jx
theorem di(s:Bool)(e f:Nat)(he:e<2048)(hf:f<4503599627370496)(w:World) :
 Ax 27 #[.float .f64 (bw s e f)] w (.bool (odd e f)):=by
 have h1:=Jf s e f he hf;go_enter Tryz.func27,Tryz.ntmps27;go_wp2;go_ret;exact⟨rfl,rfl⟩
theorem qG(s:Bool)(e f:Nat)(he:e<2048)(hf:f<4503599627370496)(w:World) :
 At 101 #[.int .u64 (bw s e f),.int .i64 11,.int .i64 52] w (splitV s e f):=by
 have hl:=pU s e f he hf;have h1:=V5 s e f he hf;have h2:=Rm s e f hf;have h3:=Rn s e f he hf;have h5:((s.toNat:Int)==1)=s:=by cases s <;> rfl
 go_enter Tryz.func101,Tryz.ntmps101;go_wp2
 . have hh:e=2047:=by first | omega | exact tQ e 2047 ‹_›
   rw[yL s e f hh (by simp;omega)];exact aH (v:=.agg #[.bool false,.int .i64 4,.int .i64 0,.int .u64 0]) (by simp[results,Tryz.results101,go_sem]) rfl ⟨rfl,(by repeat (first | exact aD _ _ | assumption | exact aA _ | (simp;done) | (simp;omega) | refine Below.alloc ?_ ?_ _ | refine Below.setCell ?_ ?_ _ | refine iG ?_))⟩
 . have hh:e=2047:=by first | omega | exact tQ e 2047 ‹_›
   rw[yM s e f hh (by simp;omega)];exact aH (v:=.agg #[.bool s,.int .i64 3,.int .i64 0,.int .u64 0]) (by simp[results,Tryz.results101,go_sem]) rfl ⟨rfl,(by repeat (first | exact aD _ _ | assumption | exact aA _ | (simp;done) | (simp;omega) | refine Below.alloc ?_ ?_ _ | refine Below.setCell ?_ ?_ _ | refine iG ?_))⟩
 . have hh:e≠2047:=by intro hq;subst hq;simp_all
   rw[tO s e f hh ae];refine aH (v:=.agg #[.bool s,.int .i64 2,.int .i64 ((e:Int)-1075),.int .u64 ((f:Int)+4503599627370496)]) (by simp[results,Tryz.results101,go_sem];try omega) rfl ⟨rfl,(by repeat (first | exact aD _ _ | assumption | exact aA _ | (simp;done) | (simp;omega) | refine Below.alloc ?_ ?_ _ | refine Below.setCell ?_ ?_ _ | refine iG ?_))⟩
 . rw[tN s e f ae (by simp;omega)];exact aH (v:=.agg #[.bool s,.int .i64 1,.int .i64 (-1074),.int .u64 f]) (by simp[results,Tryz.results101,go_sem]) rfl ⟨rfl,(by repeat (first | exact aD _ _ | assumption | exact aA _ | (simp;done) | (simp;omega) | refine Below.alloc ?_ ?_ _ | refine Below.setCell ?_ ?_ _ | refine iG ?_))⟩
 . rw[rO s e f ae (by simp;omega)];refine aH (v:=.agg #[.bool s,.int .i64 0,.int .i64 (-1074),.int .u64 0]) (by simp[results,Tryz.results101,go_sem];try omega) rfl ⟨rfl,(by repeat (first | exact aD _ _ | assumption | exact aA _ | (simp;done) | (simp;omega) | refine Below.alloc ?_ ?_ _ | refine Below.setCell ?_ ?_ _ | refine iG ?_))⟩
end B
section
open Go.RowKit
theorem But.drewN{g:Nat}{a w:World}(h:But g a w)(n:Nat):But g a (w.drewN n):=⟨h.os,h.tape,h.output,h.size,h.block⟩
abbrev Rw(lo:Nat)(w:World)(v:Value)(n:Nat)(ys:List Value):Prop:=w.ownsRow lo 162 1 v n ys
theorem Qaa{P:Prop}(h:P:=by
 refine⟨h.1,?_⟩;rcases h.2 with hn|⟨g,cap,cur,rfl,hlo,hg,rest⟩
 . exact .inl hn
 . refine .inr ⟨g,cap,cur,rfl,hlo,?_,rest⟩;rw[hb g rfl];exact hg):P:=h
theorem uY{w w':World}{lo e s:Nat}{v:Value}{n:Nat}{ys:List Value}(h:w.ownsRow lo e s v n ys)(hb:∀g,v.ownBlock=some g->w'.heap[g]?=w.heap[g]?):w'.ownsRow lo e s v n ys:=by
 exact Qaa
theorem Qbt{P:Prop}(h:P:=by
 intro j u hj
 match j,hj with
 | 0,hj=>simp at hj;subst hj;simpa [Addr.add] using hx):P:=h
theorem Qbe{P:Prop}(h:P:=by
 intro v' w' m zs h;rcases h.2 with ⟨_,h0⟩|⟨g,cap,cur,rfl,hl,_⟩
 . omega
 . exact⟨g,rfl,hl⟩):P:=h
theorem Qbb{P:Prop}(h:P:=by
 refine⟨hr2.1,.inr ⟨g2,cap2,ZT,rfl,hl2,?_,Rt,hm2,hs2,ht2⟩⟩;rw[setRow_other w g g2 _ he];exact hg2):P:=h
theorem Qa0{P:Prop}(h:P:=by
 simp only[Cw,gU,fJ,oU,Cx,oO,Cy];omega):P:=h
theorem Qat{P:Prop}(h:P:=by
 rw[ht];have hyl:ys.length=n:=by simpa using hown.1
 simp only[eQ,rG];rw[<-rG];rw[Cz (by simp[hyl])];rw[eF (by simp[hyl])]):P:=h
theorem Qas{P:Prop}(h:P:=by
 have hcl:cur.toList.length=cap2:=by simpa using hs2
 rw[<-ht2];simp only[eQ,rG];rw[Cz (by rw[fJ];omega),List.take_take,iQ hk]):P:=h
theorem Qal{P:Prop}(h:P:=by
 intro v' w' m zs h;refine⟨h.1,?_⟩;rcases h.2 with hn|⟨g,cap,cur,rfl,hl,rest⟩
 . exact .inl hn
 . exact .inr ⟨g,cap,cur,rfl,ae,rest⟩):P:=h
theorem xT{P:Prop}(h:P:=by
 exact⟨v',w',r1,mono _ _ _ _ r2,⟨r3.os,r3.tape,r3.output,r3.size,λk hk _=>r3.block k hk aN⟩,.inr (Rs _ _ n _ r2),λu k zs hr _=>keep _ r3 u k zs hr⟩):P:=h
theorem jz{P:Prop}(h:P:=by
 intro w' hg u k zs hr;rcases hr.2 with hn|⟨g,cap,cur,rfl,hl,hgb,rest⟩
 . exact⟨hr.1,.inl hn⟩
 . refine⟨hr.1,.inr ⟨g,cap,cur,rfl,hl,?_,rest⟩⟩;rw[hg.block g (dQ.1 hgb).1 aN];exact hgb):P:=h
theorem mG (w:World) (lo:Nat) (v:Value) (n:Nat) (ys:List Value) (x:Value) (s:Nat) (ty:TypeId) (hown:Rw lo w v n ys) (hx:w.cell? ⟨s,0,none⟩=some x) (h1:x.oneCell'=true)
 (hbig:n+1<=35184372088832) (hlo:lo<=w.heap.size) :
 ∃v' w',(Builtin.append_ #[77,77] ty #[v,.slice (some ⟨s,0,none⟩) 1 1]).run Tryz.prog w=.ok v' w'/\Rw lo w' v' (n+1) (ys++[x])/\w.grownBy w' v.ownBlock /\
   (v'.ownBlock=v.ownBlock\/∃g,v'.ownBlock=some g/\w.heap.size<=g)/\(∀(u:Value) (k:Nat) (zs:List Value),Rw lo w u k zs->(u.ownBlock=v.ownBlock->k<=n)->Rw lo w' u k zs):=by
 obtain⟨i0,hi,hz0,hz1,hz2⟩:=info_parts Tryz.xw
 have hnews:∀j u,[x][j]?=some u->w.cell? ((⟨s,0,none⟩:Addr).add j)=some u:=by
  exact Qbt
 have h1':∀u ∈ [x],u.oneCell'=true:=by intro u hu;simp at hu;subst hu;exact h1
 have keep:∀w',w.grownBy w' none->∀(u:Value) (k:Nat) (zs:List Value),Rw lo w u k zs->Rw lo w' u k zs:=by
  exact jz
 have Rs:∀(v':Value) (w':World) (m:Nat) (zs:List Value),w'.ownsRow w.heap.size 162 1 v' (m+1) zs->∃g,v'.ownBlock=some g/\w.heap.size<=g:=by
  exact Qbe
 have mono:∀(v':Value) (w':World) (m:Nat) (zs:List Value),w'.ownsRow w.heap.size 162 1 v' m zs->Rw lo w' v' m zs:=by
  exact Qal
 rcases hown.2 with ⟨rfl,rfl⟩|⟨g,cap,cur,rfl,hlg,hg,hnc,hm,hs,ht⟩
 . obtain⟨v',w',r1,r2,r3,_,_⟩:=run_append_own_at (P:=Tryz.prog) w w.heap.size 77 ty 162 i0 (.int .u32 0) 1 4 Tryz.underlying77 hi hz0 hz1 hz2 rfl aM (.slice none 0 0) 0 [] (yA _ _ _ _) ⟨s,0,none⟩ 1 1 [x] rfl hnews h1' (by unfold maxLen;omega) ae (aA _);have hy:ys=[]:=rF (by simpa using hown.1);subst hy;exact⟨v',w',r1,mono _ _ _ _ (by simpa using r2),r3,.inr (Rs _ _ 0 _ (by simpa using r2)),λu k zs hr _=>keep _ r3 u k zs hr⟩
 . by_cases hroom:n+1<=cap
   . have hr:=run_append_room (P:=Tryz.prog) w 77 ty 162 i0 Tryz.underlying77 hi g n cap cur hg ⟨s,0,none⟩ 1 1 [x] (by rw[hz1];rfl) hnews h1' hroom (by rw[hz1,hs];simp;omega);rw[hz1] at hr;refine⟨_,_,hr,⟨by simpa using hown.1,.inr ⟨g,cap,_,rfl,hlg,setRow_heap w g cur _ 162 _ hg,hroom,hm,?_,?_⟩⟩,⟨rfl,rfl,rfl,aN,λk _ hk=>setRow_other w g k _ (λe=>hk (by simp[Value.ownBlock,e]))⟩,.inl rfl,?_⟩
     . exact Qa0
     . exact Qat
     . intro u k zs hr2 hle;rcases hr2.2 with hn|⟨g2,cap2,ZT,rfl,hl2,hg2,Rt,hm2,hs2,ht2⟩
       . exact⟨hr2.1,.inl hn⟩
       . by_cases he:g2=g
         . subst he;rw[hg] at hg2
           cases hg2
           have hk:=hle rfl;refine⟨hr2.1,.inr ⟨g2,cap2,_,rfl,hl2,setRow_heap w g2 cur _ 162 _ hg,Rt,hm2,?_,?_⟩⟩
           . exact Qa0
           . exact Qas
         . exact Qbb
   . obtain⟨v',w',r1,r2,r3⟩:=run_append_arg_grows (P:=Tryz.prog) w 77 ty 162 i0 (.int .u32 0) 1 4 Tryz.underlying77 hi hz0 hz1 hz2 rfl aM ⟨g,0,none⟩ n cap ys (by simpa using hown.1) (λj u hj=>hown.cells (g:=g) (by simp[Value.ownBlock]) j u hj) ⟨s,0,none⟩ 1 1 [x] rfl hnews ae (by unfold maxLen;omega) ae;exact xT
theorem dC {w:World}{ops:Array Oper}{rest:List Oper}{o:Oper}{a:Act}{Q:Exit->Act->World->Prop}(hgd:o.guard=none) (s x:Operand) (t:TypeId)
 (ho:o.op=.call { callee:=.builtin .append,args:=#[s,x],argTypes:=#[t,t] }) (v u:Value) (hs:a.eval s=v) (hx:a.eval x=u) (v':Value) (w':World)
 (hrun:(Builtin.append_ #[t,t] o.type #[v,u]).run Tryz.prog w=.ok v' w') (h:wpList Tryz.prog ops Q rest (a.put o.dst v') w'):wpList Tryz.prog ops Q (o::rest) a w:=by
 refine wpList_plain hgd λK hK=>?_;unfold Oper.wp;simp[execOp,ho,resolve,invoke,builtin,hs,hx,hrun,Result.andThen];exact hK _ _ h
theorem Rw.lt{lo:Nat}{w:World}{v:Value}{n:Nat}{ys:List Value}(h:Rw lo w v n ys)(b:Nat)(hb:v.ownBlock=some b):lo<=b/\b<w.heap.size/\∃cur,w.heap[b]?=some (.cells cur 162 (0,0)):=by
 rcases h.2 with ⟨rfl,h0⟩|⟨g,cap,cur,rfl,hlo,hg,_⟩
 . cases hb
 . cases hb
   exact⟨hlo,(dQ.1 hg).1,cur,hg⟩
theorem Rw.cell{lo:Nat}{w:World}{g n cap:Nat}{ys:List Value}(h:Rw lo w (.slice (some ⟨g,0,none⟩) n cap) n ys)(k:Nat)(u:Value)(hk:ys[k]?=some u):w.cell? ⟨g,k,none⟩=some u:=by
 have h1:=h.cells (g:=g) (by simp[Value.ownBlock]) k u hk;have e:(⟨g,0,none⟩:Addr).add k=⟨g,k,none⟩:=by unfold Addr.add;split <;> simp_all
 rw[e] at h1;exact h1
theorem Rw.words{lo:Nat}{w:World}{v:Value}{n:Nat}{L:List Nat}(h:Rw lo w v n (L.map U)):∃ao cap,v=.slice ao n cap/\n<=cap/\n=L.length/\(ao=none->cap=0)/\Rd w.heap.size w ao L:=by
 have hl:n=L.length:=by have:=h.1;simp at this;omega
 rcases h.2 with ⟨rfl,h0⟩|⟨g,cap,cur,rfl,hlo,hg,hn,hm,hs,ht⟩
 . refine⟨none,0,by rw[h0],ae,hl,λ_=>rfl,?_⟩;have:L=[]:=IE.1 ae;rw[this];exact Rd.nil _ _ _
 . refine⟨_,cap,rfl,hn,hl,(λe=>by cases e),λ_=>⟨g,0,(dQ.1 hg).1,rfl,λi hi=>?_⟩⟩;have h1:=Rw.cell h i (U (L.getD i 0)) (by simp[hi]);rw[dA];exact h1
theorem kQ(xs:List Nat)(k:Nat):val (xs.take (k+1))=val (xs.take k)+pw k*xs.getD k 0:=by
 by_cases h:k<xs.length
 . exact iV xs k h
 . rw[eF ae,eF ae];simp[bF,oN (show xs.length<=k by omega)]
theorem ND(p V c a b x y s d:Nat)(h:V+c*p=a+b)(e:s+d*4294967296=x+y+c):(V+p*s)+d*(4294967296*p)=(a+p*x)+(b+p*y):=rU p a b V c x y s d h e
theorem Jg(p V c a b x y s d:Nat)(h:V+b=a+c*p)(e:s+y+c=x+d*4294967296):(V+p*s)+(b+p*y)=(a+p*x)+d*(4294967296*p):=pJ p a b V c x y s d h e
theorem De(xs:List Nat)(ao:Option Addr)(n cap B i:Nat)(w:World)(hn:n=xs.length)(hm:n<=70368744177664)(hx:Wf xs)(hR:Rd B w ao xs)(hi:i<=70368744177664) :
 Ax 167 #[.slice ao n cap,.int .i64 (i:Nat)] w (.int .u64 ((xs.getD i 0:Nat):Int)):=by
 by_cases hin:i<n
 . obtain⟨b,off,hB,rfl,hcell⟩:=hR (by intro e;subst e;simp at hn;omega);have hck:=hcell i ae;have hxl:=hx.get i;obtain⟨t,ht⟩:∃t,xs.getD i 0=t:=⟨_,rfl⟩;rw[ht] at hck hxl |-;clear hcell hR hn hx ht;go_enter Tryz.func167,Tryz.ntmps167;go_wp2;go_ret;exact⟨rfl,rfl⟩
 . have e:xs.getD i 0=0:=by simp[bF,oN (show xs.length<=i by omega)]
   rw[e];clear hR hn hx e;go_enter Tryz.func167,Tryz.ntmps167;go_wp2;exact Jx
theorem Ru(X Y V c n m N:Nat)(hX:X<pw n)(hY:Y<pw m)(hn:n<=N)(hm:m<=N)(h:V+c*pw (N+1)=X+Y):c=0:=by
 rcases kG c with h0|h0
 . exact h0
 . exfalso;have h1:=kM hn;have h2:=kM hm;have h3:1*pw (N+1)<=c*pw (N+1):=dL _ h0;rw[bK] at h3 h;have:=iU N;omega
theorem j7{P:Prop}(h:P:=by
 go_wp2_with fail;refine YW.o.mono ?_;rintro r w1 ⟨v,rfl,Rx,hb⟩;have HZ:=(bA Rx hb);clear Rx hb;go_wp2;go_ret;have hsz:=HB.o.size;exact⟨v,rfl,HZ.o.1.mono hsz,HB.o.trans (HZ.o.2.mono hsz)⟩):P:=h
theorem NF (xs ys:List Nat) (ao bo:Option Addr) (n cap m bE B:Nat) (w:World) (hn:n=xs.length) (hm:m=ys.length) (hc:n<=cap) (hcb:m<=bE) (hbig:n<=35184372088000) (hbig2:m<=35184372088000)
 (hx:Wf xs) (hy:Wf ys) (hR:Rd B w ao xs) (hS:Rd B w bo ys) (hB:B<=w.heap.size) :
 As 114 #[.slice ao n cap,.slice bo m bE] w λr w'=>∃v,r=.returned v/\Nt w.heap.size w' v (val xs+val ys)/\An w w':=by
 have hX:=dh xs hx;have hY:=dh ys hy;rw[<-hn] at hX;rw[<-hm] at hY;obtain⟨N,hN⟩:=ah (max n m);have ZU:n<=N:=ae
 have hmN:m<=N:=ae
 have hNb:N<=35184372088000:=ae
 have HR:=(Cm hR hS hn hm hx hy hB hX hY hN);clear hR hS hn hm hx hy hB hX hY hN;go_enter Tryz.func114,Tryz.ntmps114;go_wp2
 go_loopg [5,6,7] (N+1) (λgk ov cv iv wr=>∃(i c:Nat) (L:List Nat),gk+i=N+1/\cv=.int .u64 (c:Nat)/\c<=1/\iv=.int .i64 (i:Nat)/\Hid (Rw w.heap.size wr ov i (L.map U))/\Hid (An w wr) /\
  Aside (Wf L/\val L+c*pw i=val (xs.take i)+val (ys.take i)))
 case atStart=>exact⟨0,0,[],ae,rfl,ae,rfl,yA _ _ _ _,aD _ _,Wf.nil,by simp[val]⟩
 case round =>
  obtain⟨i,c,L,hgi,rfl,hc1,rfl,HO,HB,HA⟩:=hrel
  by_cases hgo:i<n\/i<m\/c=1
  . have hiN:i<=N:=by
     rcases hgo with h|h|h
     . omega
     . omega
     . by_cases hi1:i=N+1
       . exfalso;obtain⟨hR,hS,hn,hm,hx,hy,hB,hX,hY,hN⟩:=HR.o;have h1:=HA.o.2;rw[eF ae,eF ae,hi1] at h1;have:=Ru _ _ _ _ _ _ _ hX hY ZU hmN h1;omega
       . omega
    obtain⟨hR,hS,hn,hm,hx,hy,hB,hX,hY,hN⟩:=HR.o;have HA1:=hid (De xs ao n cap B i wr hn ae hx (hR.below (HB.o.mono hB)) ae);have HA2:=hid (De ys bo m bE B i wr hm ae hy (hS.below (HB.o.mono hB)) ae);obtain⟨x,fE⟩:∃x,xs.getD i 0=x:=⟨_,rfl⟩;obtain⟨y,rJ⟩:∃y,ys.getD i 0=y:=⟨_,rfl⟩;have hxl:x<4294967296:=fE ▸ hx.get i;have hyl:y<4294967296:=rJ ▸ hy.get i;rw[fE] at HA1;rw[rJ] at HA2;obtain⟨s,hs⟩:∃s:Nat,s=(x+y+c)%4294967296:=⟨_,rfl⟩;obtain⟨d,hd⟩:∃d:Nat,d=(x+y+c)/4294967296:=⟨_,rfl⟩;have e1:((x:Int)+y+c)%4294967296=(s:Int):=ae
    have e2:((x:Int)+y+c)/4294967296=(d:Int):=ae
    have hsz:=HB.o.size;obtain⟨v',w',hap,hown,hgrow,_,_⟩:=mG (wr.alloc (.cells #[.int .u32 (s:Nat)] 162)) w.heap.size u5 i (L.map U) (.int .u32 (s:Nat)) wr.heap.size 77 (HO.o.alloc _) (by unfold World.cell?;simp only[iF];rfl) rfl ae (by simp;omega);have HX:Aside (xs.getD i 0=x/\ys.getD i 0=y/\s+d*4294967296=x+y+c/\s<4294967296/\d<=1):=⟨fE,rJ,ae,ae,ae⟩;have hbel:An w w':=(HB.o.alloc hsz _).grown hgrow (by simp;omega) (λk hk=>(HO.o.lt k hk).1);have HI:=(bA hown hbel);have Nf:=hid hap;clear hap hown hgrow hbel hs hd fE rJ hR hS hn hm hx hy hB hX hY hN hsz
    have hways:(decide (i<n)=true)\/(decide (i<n)=false/\decide (i<m)=true)\/(decide (i<n)=false/\decide (i<m)=false/\decide (0<c)=true):=by
     by_cases a:i<n
     . exact .inl (decide_eq_true ae)
     . by_cases b:i<m
       . exact .inr (.inl ⟨decide_eq_false ae,decide_eq_true ae⟩)
       . exact .inr (.inr ⟨decide_eq_false ae,decide_eq_false ae,decide_eq_true ae⟩)
    rcases hways with h1|⟨h1,h2⟩|⟨h1,h2,h3⟩
    all_goals (
     go_wp2_with fail;refine HA1.o.mono ?_;rintro r w1 ⟨rfl,rfl⟩;go_wp2_with fail;refine HA2.o.mono ?_;rintro r w1 ⟨rfl,rfl⟩
     go_wp2_with (at_builtin;refine dC rfl (.tmp 34) (.tmp 37) 77 rfl _ _ rfl rfl _ _ Nf.o ?_)
     go_roundg (gk-1)
     case measure=>omega
     case rel =>
      obtain⟨a1,a2,a3,a4,a5⟩:=HX.o;obtain⟨uS,Iu⟩:=HA.o;refine⟨i+1,d,L++[s],ae,by first | rfl | rw[e2],a5,by first | go_num | (congr 1;omega),by rw[jy];exact HI.o.1,HI.o.2,uS.append (Wf.cons a4 Wf.nil),?_⟩;have uR:L.length=i:=by have:=HO.o.1;simp at this;omega
      rw[val_append,uR,kQ,kQ,a1,a2,bK]
      simpa [val] using ND (pw i) _ _ _ _ x y s d Iu a3)
  . have hi:N<=i:=by have:=HR.o.2.2.2.2.2.2.2.2.2;omega
    obtain rfl:c=0:=ae
    obtain⟨aoo,ZV,hsh,hcap,hl,hnil,hRo⟩:=HO.o.words;subst hsh;obtain⟨hR,hS,hn,hm,hx,hy,hB,hX,hY,hN⟩:=HR.o;have YW:=hid (jQ L aoo i ZV wr.heap.size wr hl hcap ae HA.o.1 hRo hnil)
    have Iu:val L=val xs+val ys:=by
     have h1:=HA.o.2;rw[eF ae,eF ae] at h1;omega
    rw[Iu] at YW;have h1:decide (i<n)=false:=decide_eq_false ae;have h2:decide (i<m)=false:=decide_eq_false ae;clear hR hS hn hm hx hy hB hX hY hN hl hnil hRo Iu hgo HO;exact j7
theorem Bg(xs:List Nat)(hx:Wf xs)(k r:Nat)(hk:k<xs.length)(hr:r<32):val xs/2^(32*k+r)%2=xs.getD k 0/2^r%2:=by
 have e:=dU xs k ae
 have hl:val (xs.take k)<pw k:=by
  have:=dh _ (hx.take k);rwa [fJ,iQ ae] at this
 rw[nR,<-wC,e,sP _ _ (iU k),iq hl,dA,dz xs k hk]
 have e2:4294967296*val (xs.drop (k+1))=2^r*(2*(2^(31-r)*val (xs.drop (k+1)))):=by
  have:(4294967296:Nat)=2^r*(2*2^(31-r)):=by
   rw[<-aQ,cK (2^r) 2,aQ,<-aP,show r+(31-r)=31 by omega]
  rw[this];grind
 rw[e2,sP _ _ (bG r),Aq]
theorem yN(xs:List Nat)(hx:Wf xs)(i:Nat)(h:xs.length<=i/32):val xs/2^i%2=0:=by
 have h1:=dh xs hx
 have h2:pw xs.length<=2^i:=by
  have:pw xs.length=2^(32*xs.length):=by rw[<-il (32*xs.length),nR];simp
  rw[this];exact fD aM ae
 rw[iq ae]
theorem and_one(z:Nat)(h:z<4294967296):bits BinOp.and IntKind.u32 (z:Int) 1=((z%2:Nat):Int):=by
 have:=KQ z 1 h aM;rw[Nat.and_one_is_mod] at this;exact this
theorem V8(ao:Option Addr)(n cap:Nat)(i:Int)(w:World)(hi:i<0) :
 Ax 133 #[.slice ao n cap,.int .i64 i] w (.bool false):=by
 go_enter Tryz.func133,Tryz.ntmps133;go_wp2;go_ret;exact⟨rfl,rfl⟩
theorem Qbg{P:Prop}(h:P:=by
 rw[hz2] at e4 |-;clear hz2;go_enter Tryz.func133,Tryz.ntmps133;go_wp2;go_ret;exact⟨rfl,rfl⟩):P:=h
theorem xD(xs:List Nat)(ao:Option Addr)(n cap B i:Nat)(w:World)(hn:n=xs.length)(hx:Wf xs)(hR:Rd B w ao xs)(hi:i<=9223372036854775807) :
 Ax 133 #[.slice ao n cap,.int .i64 (i:Int)] w (.bool (decide (val xs/2^i%2=1))):=by
 obtain⟨k,hk⟩:=ah (i/32);obtain⟨r,hr⟩:=ah (i%32);have e1:(i:Int)/32=(k:Int):=ae
 have e2:(i:Int)%32=(r:Int):=ae
 by_cases hkn:k<n
 . have hb:=Bg xs hx k r ae ae;rw[show 32*k+r=i by omega] at hb;rw[hb];obtain⟨b,off,hB,rfl,hcell⟩:=hR (by intro e;subst e;simp at hn;omega);have hck:=hcell k ae;obtain⟨t,ht⟩:∃t,xs.getD k 0=t:=⟨_,rfl⟩;have htl:t<4294967296:=ht ▸ hx.get k;rw[ht] at hck |-;obtain⟨z,hz⟩:=ah (t/2^r);have hzt:z<=t:=by rw[hz];exact o8 _ _
   have e3:(t:Int)/2^r=(z:Int):=by rw[hz];simp
   have e4:=and_one z ae;have hr32:r<32:=ae
   rw[<-hz];clear hb hn hx hR hcell ht hz hk hr;rcases(by omega:z%2=0\/z%2=1) with hz2|hz2
   . exact Qbg
   . exact Qbg
 . rw[yN xs hx i ae];clear hn hx hR hk hr;go_enter Tryz.func133,Tryz.ntmps133;go_wp2;go_ret;exact⟨rfl,rfl⟩
def Jh(X:Nat):Value:=if X<18446744073709551616 then .tuple #[.int .u64 (X:Int),.int .i64 0] else .tuple #[.int .u64 0,.int .i64 2]
theorem ZW(xs:List Nat)(hx:Wf xs):nl xs<=2↔val xs<18446744073709551616:=by
 rw[gI xs hx,aS];rfl
theorem NJ(xs:List Nat)(ao:Option Addr)(n cap B:Nat)(w:World)(hn:n=xs.length)(hc:n<=cap)(hm:n<=70368744177664)(hx:Wf xs)(hR:Rd B w ao xs) :
 Ax 211 #[.slice ao n cap] w (Jh (val xs)):=by
 have H:=hid (fq xs ao n cap B w hn hc ae hR);have hl:=kL xs;have h2:=ZW xs hx;have hf:=lG xs hx;obtain⟨m,hm'⟩:∃m,nl xs=m:=⟨_,rfl⟩;rw[hm'] at H hl h2 hf;unfold Jh
 by_cases h:2<m
 . rw[if_neg ae];clear h2 hl hn hx hR hm' hf;go_enter Tryz.func211,Tryz.ntmps211;go_wp2_with fail;refine H.o.mono ?_;rintro r w1 ⟨rfl,rfl⟩;go_wp2
   go_ret2
   exact Xs
 . rw[if_pos ae];rw[<-jY] at hf;have HR:=(gy hR hn hx hl hf);have hm2:m<=2:=ae
   clear h2 hl hn hx hR hm' hf h;go_enter Tryz.func211,Tryz.ntmps211;go_wp2_with fail;refine H.o.mono ?_;rintro r w1 ⟨rfl,rfl⟩;go_wp2
   go_loopg [4,14] m (λgk s i wr=>∃(k sv:Nat),gk+k=m/\s=.int .u64 (sv:Nat)/\i=.int .i64 (k:Nat)/\wr=w1/\Aside (sv=sg xs 0 k))
   case atStart=>exact⟨0,0,ae,rfl,rfl,rfl,(dV _ _).symm⟩
   case round =>
    obtain⟨k,sv,jo,rfl,rfl,rfl,HA⟩:=hrel
    by_cases hk:k<m
    . obtain⟨hR,hn,hx,hl,hf⟩:=HR.o;obtain⟨b,off,hB,rfl,hcell⟩:=hR (by intro e;subst e;simp at hl;omega);have hck:=hcell k ae;obtain⟨t,ht⟩:∃t,xs.getD k 0=t:=⟨_,rfl⟩;have htl:t<4294967296:=ht ▸ hx.get k;rw[ht] at hck;have hs1:=oF xs 0 k hx ae;have hs2:=bN xs 0 k ae;rw[dA,ht,<-HA.o] at hs2;rw[<-HA.o] at hs1;have HX:=(bA hs1 hs2);clear hR hn hx hl hf hcell ht hs1 hs2;rcases(by omega:k=0\/k=1) with rfl|rfl
      . have hsv:sv=0:=by have:=HX.o.1;rw[jA] at this;omega
        have e:bits BinOp.or IntKind.u64 (sv:Int) (t:Int)=(t:Int):=by rw[bits_or_u64_nat _ _ ae ae,hsv,Nat.zero_or]
        rw[il] at hck;have HS:=(ak hsv);clear hsv;go_wp2;go_roundg (gk-1)
        case measure=>omega
        case rel =>
         refine⟨1,t,ae,by first | rfl | rw[e],by go_num,rfl,?_⟩;have:=HX.o.2;rw[jA,HS.o] at this;rw[Aside,this];omega
      . have hsv:sv<4294967296:=by have:=HX.o.1;rw[show(1:Nat)=0+1 from rfl,bK,jA] at this;omega
        have e:=yG t sv htl hsv;go_wp2;go_roundg (gk-1)
        case measure=>omega
        case rel =>
         refine⟨2,sv+t*4294967296,ae,by first | rfl | rw[e] | (rw[e];rfl),by go_num,rfl,?_⟩;have:=HX.o.2;rw[show pw 1=4294967296 from rfl] at this;rw[Aside,this];omega
    . obtain rfl:k=m:=ae
      go_wp2
      go_ret2
      obtain⟨hR,hn,hx,hl,hf⟩:=HR.o;rw[<-hf,<-HA.o];exact Xs
theorem yO(ys:List Nat)(hy:Wf ys)(n:Nat)(h:val ys<pw n):val (ys.take n)=val ys:=by
 by_cases hn:n<=ys.length
 . have h1:=dU ys n hn
   have:val (ys.drop n)=0:=by
    rcases kG (val (ys.drop n)) with h0|h0
    . exact h0
    . have h2:pw n*1<=pw n*val (ys.drop n):=fG _ h0;omega
   rw[this] at h1;omega
 . rw[eF ae]
theorem NK(V Y X c p:Nat)(hV:V<p)(hle:Y<=X)(hc:c<=1)(h:V+Y=X+c*p):V=X-Y:=by
 rcases(by omega:c=0\/c=1) with rfl|rfl <;> omega
theorem Ji (xs ys:List Nat) (ao bo:Option Addr) (n cap m bE B:Nat) (w:World) (hn:n=xs.length) (hm:m=ys.length) (hc:n<=cap) (hcb:m<=bE) (hbig:n<=35184372088000) (hbig2:m<=35184372088000)
 (hx:Wf xs) (hy:Wf ys) (hR:Rd B w ao xs) (hS:Rd B w bo ys) (hB:B<=w.heap.size) (hle:val ys<=val xs) :
 As 116 #[.slice ao n cap,.slice bo m bE] w λr w'=>∃v,r=.returned v/\Nt w.heap.size w' v (val xs-val ys)/\An w w':=by
 have hX:=dh xs hx;rw[<-hn] at hX;have HR:=(QC hR hS hn hm hx hy hB hX hle);clear hR hS hn hm hx hy hB hX hle;go_enter Tryz.func116,Tryz.ntmps116;go_wp2
 go_loopg [5,6,7] n (λgk ov cv iv wr=>∃(i c:Nat) (L:List Nat),gk+i=n/\cv=.int .u64 (c:Nat)/\c<=1/\iv=.int .i64 (i:Nat)/\Hid (Rw w.heap.size wr ov i (L.map U))/\Hid (An w wr) /\
  Aside (Wf L/\val L+val (ys.take i)=val (xs.take i)+c*pw i))
 case atStart=>exact⟨0,0,[],ae,rfl,ae,rfl,yA _ _ _ _,aD _ _,Wf.nil,by simp[val]⟩
 case round =>
  obtain⟨i,c,L,hgi,rfl,hc1,rfl,HO,HB,HA⟩:=hrel
  by_cases hgo:i<n
  . obtain⟨hR,hS,hn,hm,hx,hy,hB,hX,hle⟩:=HR.o;have HA1:=hid (De xs ao n cap B i wr hn ae hx (hR.below (HB.o.mono hB)) ae);have HA2:=hid (De ys bo m bE B i wr hm ae hy (hS.below (HB.o.mono hB)) ae);obtain⟨x,fE⟩:∃x,xs.getD i 0=x:=⟨_,rfl⟩;obtain⟨y,rJ⟩:∃y,ys.getD i 0=y:=⟨_,rfl⟩;have hxl:x<4294967296:=fE ▸ hx.get i;have hyl:y<4294967296:=rJ ▸ hy.get i;rw[fE] at HA1;rw[rJ] at HA2;obtain⟨s,hs⟩:∃s:Nat,s=(x+4294967296-y-c)%4294967296:=⟨_,rfl⟩;obtain⟨q,hq⟩:∃q:Nat,q=(x+4294967296-y-c)/4294967296:=⟨_,rfl⟩;obtain⟨d,hd⟩:∃d:Nat,d=1-q:=⟨_,rfl⟩;have e1:((x:Int)+4294967296-y-c)%4294967296=(s:Int):=ae
    have e2:((x:Int)+4294967296-y-c)/4294967296=(q:Int):=ae
    have e3:(1:Int)-(q:Int)=(d:Int):=ae
    have hsz:=HB.o.size;obtain⟨v',w',hap,hown,hgrow,_,_⟩:=mG (wr.alloc (.cells #[.int .u32 (s:Nat)] 162)) w.heap.size u5 i (L.map U) (.int .u32 (s:Nat)) wr.heap.size 77 (HO.o.alloc _) (by unfold World.cell?;simp only[iF];rfl) rfl ae (by simp;omega);have HX:Aside (xs.getD i 0=x/\ys.getD i 0=y/\s+y+c=x+d*4294967296/\s<4294967296/\d<=1):=⟨fE,rJ,ae,ae,ae⟩;have hbel:An w w':=(HB.o.alloc hsz _).grown hgrow (by simp;omega) (λk hk=>(HO.o.lt k hk).1);have HI:=(bA hown hbel);have Nf:=hid hap;clear hap hown hgrow hbel hs hd hq fE rJ hR hS hn hm hx hy hB hX hsz hle;go_wp2_with fail;refine HA1.o.mono ?_;rintro r w1 ⟨rfl,rfl⟩;go_wp2_with fail;refine HA2.o.mono ?_;rintro r w1 ⟨rfl,rfl⟩
    go_wp2_with (at_builtin;refine dC rfl (.tmp 25) (.tmp 28) 77 rfl _ _ rfl rfl _ _ Nf.o ?_)
    go_roundg (gk-1)
    case measure=>omega
    case rel =>
     obtain⟨a1,a2,a3,a4,a5⟩:=HX.o;obtain⟨uS,Iu⟩:=HA.o;refine⟨i+1,d,L++[s],ae,by first | rfl | rw[e3] | rw[e2,e3],a5,by first | go_num | (congr 1;omega),by rw[jy];exact HI.o.1,HI.o.2,uS.append (Wf.cons a4 Wf.nil),?_⟩;have uR:L.length=i:=by have:=HO.o.1;simp at this;omega
     rw[val_append,uR,kQ,kQ,a1,a2,bK];simpa [val] using Jg (pw i) _ _ _ _ x y s d Iu a3
  . obtain rfl:i=n:=ae
    obtain⟨aoo,ZV,hsh,hcap,hl,hnil,hRo⟩:=HO.o.words;subst hsh;obtain⟨hR,hS,hn,hm,hx,hy,hB,hX,hle⟩:=HR.o;have YW:=hid (jQ L aoo i ZV wr.heap.size wr hl hcap ae HA.o.1 hRo hnil)
    have Iu:val L=val xs-val ys:=by
     have h1:=HA.o.2;rw[eF (l:=xs) ae,yO ys hy i ae] at h1;have h2:=dh L HA.o.1;rw[<-hl] at h2;exact NK _ _ _ _ _ h2 hle hc1 h1
    rw[Iu] at YW;clear hR hS hn hm hx hy hB hX hl hnil hRo Iu hgo HO hle;exact j7
theorem Below.drewN'{B:Nat}{a w:World}(h:Below B a w)(n:Nat):Below B a (w.drewN n):=⟨h.os,h.tape,h.output,h.size,h.block⟩
theorem Ry (xs ys:List Nat) (ao bo:Option Addr) (n cap m bE B:Nat) (w:World) (hn:n=xs.length) (hm:m=ys.length) (hbig:n<=70368744177664) (hbig2:m<=70368744177664)
 (hx:Wf xs) (hy:Wf ys) (hR:Rd B w ao xs) (hS:Rd B w bo ys) :
 At 115 #[.slice ao n cap,.slice bo m bE] w (.int .i64 (bI (val xs) (val ys))):=by
 have H1:=hid (pG xs ao n cap B w hn ae hR);have H2:=hid (pG ys bo m bE B w hm ae hS);have hl1:=kL xs;have hl2:=kL ys;have f1:=lG xs hx;have f2:=lG ys hy;rw[<-jY] at f1 f2;rcases ni (nl xs) (nl ys) with he|he|he
 . rw[nT (xy xs ys hx hy he)];obtain⟨k1,hk1⟩:∃k,nl xs=k:=⟨_,rfl⟩;obtain⟨k2,hk2⟩:∃k,nl ys=k:=⟨_,rfl⟩;rw[hk1] at H1 he;rw[hk2] at H2 he;clear hk1 hk2 hn hm hx hy hR hS f1 f2 hl1 hl2;go_enter Tryz.func115,Tryz.ntmps115;go_wp2_with fail;refine H1.o.mono ?_;rintro r w1 ⟨rfl,rfl⟩;go_wp2_with fail;refine H2.o.mono ?_;rintro r w1 ⟨rfl,rfl⟩;have hne:decide (k1=k2)=false:=decide_eq_false ae;have hne2:k1≠k2:=ae
   go_wp2;go_ret;exact yk
 . obtain⟨k0,hk0⟩:∃k,nl ys=k:=⟨_,rfl⟩;rw[he] at H1 hl1 f1;rw[hk0] at H1 H2 hl1 hl2 f1 f2;have HR:=(Cm hR hS hn hm hx hy hl1 hl2 f1 f2);have hkn:k0<=n:=ae
   have hkm:k0<=m:=ae
   clear hR hS hn hm hx hy hl1 hl2 f1 f2 he hk0;go_enter Tryz.func115,Tryz.ntmps115;go_wp2_with fail;refine H1.o.mono ?_;rintro r w1 ⟨rfl,rfl⟩;go_wp2_with fail;refine H2.o.mono ?_;rintro r w1 ⟨rfl,rfl⟩;go_wp2
   go_loopg [5] k0 (λk i wr=>k<=k0/\i=.int .i64 ((k:Int)-1)/\Hid (An w1 wr)/\Aside (sg xs k (k0-k)=sg ys k (k0-k)))
   case atStart=>exact⟨aA _,by first | rfl | go_num,aD _ _,by rw[wE,dV,dV];exact rfl⟩
   case round =>
    obtain⟨hk,rfl,HB,HA⟩:=hrel
    by_cases hk0:gk=0
    . exact Qak
    . obtain⟨k,rfl⟩:∃k,gk=k+1:=⟨gk-1,ae⟩;obtain⟨hR,hS,hn,hm,hx,hy,hl1,hl2,f1,f2⟩:=HR.o;obtain⟨b,off,hB1,rfl,hc1⟩:=hR (by intro e;subst e;simp at hl1;omega);obtain⟨b2,I8,hB2,rfl,hc2⟩:=hS (by intro e;subst e;simp at hl2;omega)
      have g1:wr.cell? ⟨b,off+k,none⟩=some (.int .u32 ((xs.getD k 0:Nat):Int)) :=
       (HB.o.cell (p:=⟨b,off+k,none⟩) (qZ w1 ⟨b,off+k,none⟩ (hc1 k ae))).trans (hc1 k ae)
      have g2:wr.cell? ⟨b2,I8+k,none⟩=some (.int .u32 ((ys.getD k 0:Nat):Int)) :=
       (HB.o.cell (p:=⟨b2,I8+k,none⟩) (qZ w1 ⟨b2,I8+k,none⟩ (hc2 k ae))).trans (hc2 k ae)
      obtain⟨x,fE⟩:∃x:Nat,xs.getD k 0=x:=⟨_,rfl⟩;obtain⟨y,rJ⟩:∃y:Nat,ys.getD k 0=y:=⟨_,rfl⟩;rw[fE] at g1;rw[rJ] at g2;have HX:=(bA fE rJ);have hki:(k:Int)<(n:Int):=ae
      have hki0:0<=(k:Int):=ae
      have hki2:(k:Int)<(m:Int):=ae
      clear hR hS hn hm hx hy hl1 hl2 f1 f2 hc1 hc2 fE rJ hk0;rcases ni x y with hxy|hxy|hxy
      . go_wp2
        go_quiet (fail)
        go_wp2;go_ret;obtain⟨hR,hS,hn,hm,hx,hy,hl1,hl2,f1,f2⟩:=HR.o;have h:=HA.o;have t1:=qD xs ys hx hy k (k0-(k+1)) ae ae h (by rw[HX.o.1,HX.o.2];exact hxy);rw[show k+1+(k0-(k+1))=k0 by omega,f1,f2] at t1;rw[nT t1];exact⟨rfl,Below.drewN' HB.o _⟩
      . subst hxy;go_wp2
        go_quiet (fail)
        go_wp2
        go_quiet (fail)
        go_wp2;go_roundg k
        case measure=>omega
        case rel =>
         obtain⟨hR,hS,hn,hm,hx,hy,hl1,hl2,f1,f2⟩:=HR.o;refine⟨ae,by first | go_num | (congr 1;omega),hid (Below.drewN' HB.o _),?_⟩;have h:=HA.o;obtain⟨r,hr⟩:∃r,k0-k=r+1:=⟨k0-(k+1),ae⟩;rw[show k0-(k+1)=r by omega] at h;rw[Aside,hr,lI xs k r ae,lI ys k r ae,h,HX.o.1,HX.o.2]
      . have hxy2:decide (x<y)=false:=decide_eq_false ae;go_wp2
        go_quiet (fail)
        go_wp2
        go_quiet (fail)
        go_wp2;go_ret;obtain⟨hR,hS,hn,hm,hx,hy,hl1,hl2,f1,f2⟩:=HR.o;have h:=HA.o;have t1:=qD ys xs hy hx k (k0-(k+1)) ae ae h.symm (by rw[HX.o.1,HX.o.2];exact hxy);rw[show k+1+(k0-(k+1))=k0 by omega,f1,f2] at t1;rw[tJ t1];exact⟨rfl,Below.drewN' (Below.drewN' HB.o _) _⟩
 . rw[tJ (xy ys xs hy hx he)];obtain⟨k1,hk1⟩:∃k,nl xs=k:=⟨_,rfl⟩;obtain⟨k2,hk2⟩:∃k,nl ys=k:=⟨_,rfl⟩;rw[hk1] at H1 he;rw[hk2] at H2 he;clear hk1 hk2 hn hm hx hy hR hS f1 f2 hl1 hl2;go_enter Tryz.func115,Tryz.ntmps115;go_wp2_with fail;refine H1.o.mono ?_;rintro r w1 ⟨rfl,rfl⟩;go_wp2_with fail;refine H2.o.mono ?_;rintro r w1 ⟨rfl,rfl⟩;have hne:decide (k1=k2)=false:=decide_eq_false ae;have hlt:decide (k1<k2)=false:=decide_eq_false ae;have hne2:k1≠k2:=ae
   go_wp2;go_ret;exact yk
theorem Qbh{P:Prop}(h:P:=by
 rw[hz2] at e4 |-;clear hz2;go_enter Tryz.func195,Tryz.ntmps195;go_wp2;go_ret;exact⟨rfl,rfl⟩):P:=h
theorem Rz(xs:List Nat)(ao:Option Addr)(n cap B i:Nat)(w:World)(hn:n=xs.length)(hx:Wf xs)(hR:Rd B w ao xs)(hi:i<=9223372036854775807) :
 Ax 195 #[.slice ao n cap,.int .i64 (i:Int)] w (.bool (decide (val xs/2^i%2=1))):=by
 obtain⟨k,hk⟩:=ah (i/32);obtain⟨r,hr⟩:=ah (i%32);have e1:(i:Int)/32=(k:Int):=ae
 have e2:(i:Int)%32=(r:Int):=ae
 by_cases hkn:k<n
 . have hb:=Bg xs hx k r ae ae;rw[show 32*k+r=i by omega] at hb;rw[hb];obtain⟨b,off,hB,rfl,hcell⟩:=hR (by intro e;subst e;simp at hn;omega);have hck:=hcell k ae;obtain⟨t,ht⟩:∃t,xs.getD k 0=t:=⟨_,rfl⟩;have htl:t<4294967296:=ht ▸ hx.get k;rw[ht] at hck |-;obtain⟨z,hz⟩:=ah (t/2^r);have hzt:z<=t:=by rw[hz];exact o8 _ _
   have e3:(t:Int)/2^r=(z:Int):=by rw[hz];simp
   have e4:=and_one z ae;have hr32:r<32:=ae
   have hnk:decide ((n:Int)<=(k:Int))=false:=decide_eq_false ae;have hnk2:decide (n<=k)=false:=decide_eq_false ae;rw[<-hz];clear hb hn hx hR hcell ht hz hk hr;rcases(by omega:z%2=0\/z%2=1) with hz2|hz2
   . exact Qbh
   . exact Qbh
 . rw[yN xs hx i ae];have hnk:decide ((n:Int)<=(k:Int))=true:=decide_eq_true ae;clear hn hx hR hk hr;go_enter Tryz.func195,Tryz.ntmps195;go_wp2;go_ret;exact⟨rfl,rfl⟩
theorem FJ (M M2 xs bs:List Nat) (k n m c y:Nat) (dx:M.length=n+m) (hk:k<n) (hn:n=xs.length) (hm:m=bs.length) (hMs:sg M 0 (k+m)=sg xs 0 k*val bs) (hy:xs.getD k 0=y)
 (hout:Out M M2 k m) (hsum:sg M2 k m+c*pw m=sg M k m+val bs*y):sg (M2.set (k+m) c) 0 (k+1+m)=sg xs 0 (k+1)*val bs:=by
 have e1:=bZ M2 0 (k+m) c (by rw[hout.1];omega);rw[dA] at e1;have e2:=jc M2 0 k m (by rw[hout.1];omega);have e3:=jc M 0 k m ae;rw[dA] at e2 e3;have e4:=hout.below 0 k ae ae;rw[show k+1+m=k+m+1 by omega,e1,e2,e4,bN xs 0 k ae,dA,hy,uM];rw[e3] at hMs;rw[cK c] at hsum;have:=Fy (pw k) _ _ y _ _ c hMs;rw[<-hsum] at this;rw[<-this,oq,aQ,oo]
theorem Jj (xs bs:List Nat) (ao bo:Option Addr) (n cap m bE B:Nat) (w:World) (hn:n=xs.length) (hm:m=bs.length) (hc:n<=cap) (hcb:m<=bE) (hbig:n+m<=35184372088832)
 (hx:Wf xs) (hb:Wf bs) (hR:Rd B w ao xs) (hS:Rd B w bo bs) (hB:B<=w.heap.size) :
 As 110 #[.slice ao n cap,.slice bo m bE] w λr w'=>∃v,r=.returned v/\Nt w.heap.size w' v (val xs*val bs)/\Below w.heap.size w w':=by
 obtain⟨W1,hW1⟩:=ah (w.alloc (.cells (madeCells #[.int .u32 0] (n+m)) 162));have kD:Own W1 w.heap.size (List.replicate (n+m) 0):=by rw[hW1];exact Own.made w (n+m)
 have hB1:Below w.heap.size w W1:=by rw[hW1];exact(aD _ _).alloc (aA _) _
 have hmk:=dO ((n:Int)+m) (n+m) ae ae w;rw[<-hW1] at hmk;have EZ:Rd B W1 ao xs:=hR.below (hB1.mono hB);have hS1:Rd B W1 bo bs:=hS.below (hB1.mono hB);obtain⟨g,hg⟩:=ah (w.heap.size);rw[<-hg] at kD hmk hB1 hB;have HR:=(Ck EZ hS1 hm hb hx hn hB1 hg);have HO:=hid kD;clear hn hm hx hb hR hS kD hB1 hW1 EZ hS1 hg;go_enter Tryz.func110,Tryz.ntmps110;go_wp2
 go_loopg [6] n (λgk i wr=>∃(k:Nat) (M:List Nat),gk+k=n/\i=.int .i64 (k:Nat) /\
  Hid (Own wr g M)/\Aside (Wf M/\M.length=n+m/\sg M 0 (k+m)=sg xs 0 k*val bs/\But g W1 wr))
 case atStart=>exact⟨0,_,ae,rfl,HO,Wf.zeros _,aN,by rw[tC,dV];simp,But.refl _ _⟩
 case round =>
  obtain⟨i,L,jo,rfl,HM,HA⟩:=hrel
  by_cases hi:i<n
  . obtain⟨hR,hS,hm,hb,hx,hn,hB1,hg⟩:=HR.o;obtain⟨a,V9,haB,rfl,hac⟩:=hR (by intro e;subst e;simp at hn;omega);have VJ:g<=W1.heap.size:=by have:=hB1.size;omega
    have HAC:Aside (W1.cell? ⟨a,V9+i,none⟩=some (.int .u32 ((xs.getD i 0:Nat):Int))/\a<B/\a<W1.heap.size):=⟨hac i ae,haB,qZ W1 ⟨a,V9+i,none⟩ (hac i ae)⟩;obtain⟨q,hq⟩:∃q:Nat,xs.getD i 0=q:=⟨_,rfl⟩;have hql:q<4294967296:=hq ▸ hx.get _;rw[hq] at HAC;have HQ:=ak hq;clear hq hR hS hm hb hx hn hB1 hg hac;go_wp2
    go_loopg [7,8] m (λgk c kv w2=>∃(k cv:Nat) (M:List Nat),gk+k=m/\c=.int .u64 (cv:Nat)/\cv<4294967296/\kv=.int .i64 (k:Nat) /\
     Hid (Own w2 g M)/\Aside (Wf M/\Out L M i k/\sg M i k+cv*pw k=sg L i k+sg bs 0 k*q/\But g W1 w2))
    case atStart=>exact⟨0,0,L,ae,rfl,ae,rfl,HM,HA.o.1,Out.refl _ _ _,by simp[dV],HA.o.r3⟩
    case round =>
     obtain⟨k,cv,M,Df,rfl,hcv,rfl,HN,HC⟩:=hrel
     by_cases hk:k<m
     . obtain⟨hR,hS,hm,hb,hx,hn,hB1,hg⟩:=HR.o;obtain⟨bC,fH,hMs,aI⟩:=HC.o;obtain⟨uS,uR,_,_⟩:=HA.o;obtain⟨b,fI,KW,rfl,hbc⟩:=hS (by intro e;subst e;simp at hm;omega)
       have hbk:wr.cell? ⟨b,fI+k,none⟩=some (.int .u32 ((bs.getD k 0:Nat):Int)):=by
        have h1:=aI.block b (qZ W1 ⟨b,fI+k,none⟩ (hbc k ae)) ae;exact z6
       have hak:wr.cell? ⟨a,V9+i,none⟩=some (.int .u32 (q:Nat)):=by
        have h1:=aI.block a HAC.o.r2 (by have:=HAC.o.2.1;omega);exact(sV (a:=⟨a,V9+i,none⟩) h1).trans HAC.o.1
       have hgc:=HN.o.cell (i+k) (by rw[fH.1];omega);have hgf:=HN.o.frozen (i+k);obtain⟨x,fE⟩:∃x:Nat,M.getD (i+k) 0=x:=⟨_,rfl⟩;obtain⟨y,rJ⟩:∃y:Nat,bs.getD k 0=y:=⟨_,rfl⟩;have hxl:x<4294967296:=fE ▸ bC.get _;have hyl:y<4294967296:=rJ ▸ hb.get _;rw[fE] at hgc;rw[rJ] at hbk;have hp0:=uO q y hql hyl;have hp2:(q:Int)*(y:Int)<=18446744065119617025:=by rw[<-eD];omega
       have hp1:0<=(q:Int)*(y:Int):=by rw[<-eD];omega
       obtain⟨s,hs⟩:∃s:Nat,s=(q*y+x+cv)%4294967296:=⟨_,rfl⟩;obtain⟨d,hd⟩:∃d:Nat,d=(q*y+x+cv)/4294967296:=⟨_,rfl⟩;have e0:((q*y+x+cv:Nat):Int)=(q:Int)*y+x+cv:=by simp only[xX,eD]
       have e1:((q:Int)*y+x+cv)%4294967296=(s:Int):=by rw[<-e0];omega
       have e2:((q:Int)*y+x+cv)/4294967296=(d:Int):=by rw[<-e0];omega
       have HX:Aside (M.getD (i+k) 0=x/\bs.getD k 0=y/\s+d*4294967296=y*q+x+cv/\s<4294967296/\d<4294967296):=⟨fE,rJ,by rw[cK y q];omega,ae,ae⟩;have hik:i+k<n+m:=ae
       clear fE rJ hs hd hR hS hm hb hx hn hB1 hg bC fH hMs aI hbc e0 hp0 uS uR;go_wp2
       go_quiet (fail)
       go_wp2;go_roundg (gk-1)
       case measure=>omega
       case rel =>
        obtain⟨fE,rJ,he,hs,hd⟩:=HX.o;obtain⟨hR,hS,hm,hb,hx,hn,hB1,hg⟩:=HR.o;obtain⟨bC,fH,hMs,aI⟩:=HC.o;obtain⟨uS,uR,_,_⟩:=HA.o;refine⟨k+1,d,M.set (i+k) s,ae,by first | rfl | rw[e2],hd,by first | go_num | (congr 1;omega),HN.o.set _ _,bC.set _ _ hs,(fH.mono ae).set _ _ ae ae,?_,(But.drewN aI _).set _ _⟩;rw[bZ _ _ _ _ (by rw[fH.1];omega),bN L i k ae,bN bs 0 k ae,dA,rJ,bK];have e:L.getD (i+k) 0=x:=by rw[<-fE];exact(fH.2 _ ae).symm
        rw[e];exact yD _ _ _ _ _ _ _ _ _ _ hMs he
     . obtain rfl:k=m:=ae
       obtain⟨uS,uR,hLs,hLb⟩:=HA.o;have hgc:=HN.o.cell (i+k) (by rw[HC.o.2.1.1];omega);have hgf:=HN.o.frozen (i+k);have hik:i+k<n+k:=ae
       have hcm:(cv:Int)%4294967296=(cv:Int):=ae
       clear uS uR hLs hLb;go_wp2;go_roundg (n-(i+1))
       case measure=>omega
       case rel =>
        obtain⟨hR,hS,hm,hb,hx,hn,hB1,hg⟩:=HR.o;obtain⟨bC,fH,hMs,aI⟩:=HC.o;obtain⟨uS,uR,hLs,hLb⟩:=HA.o;refine⟨i+1,M.set (i+k) cv,ae,by first | go_num | (congr 1;omega),HN.o.set _ _,bC.set _ _ hcv,by simp[fH.1,uR],?_,aI.set _ _⟩;have e2:sg bs 0 k=val bs:=by rw[hm];exact dJ bs
        rw[e2] at hMs;exact FJ L M xs bs i n k cv q uR hi hn hm hLs HQ.o fH hMs
  . obtain rfl:i=n:=ae
    obtain⟨bC,dx,hMs,aI⟩:=HA.o;have T:=hid (jQ L (some ⟨g,0,none⟩) (i+m) (i+m) (g+1) wr dx.symm (aA _) ae bC (by simpa [dx,eF] using Rd.gW HM.o 0 (i+m)) (λe=>by cases e));clear bC dx hMs aI;go_wp2_with fail;refine T.o.mono ?_;rintro r w1 ⟨v,rfl,Rx,hbb⟩;have HZ:=(bA Rx hbb);clear Rx hbb;go_wp2;go_ret;obtain⟨hR,hS,hm,hb,hx,hn,hB1,hg⟩:=HR.o;obtain⟨bC,dx,hMs,aI⟩:=HA.o;have e1:sg L 0 (i+m)=val L:=by rw[<-dx];exact dJ L
    have e2:sg xs 0 i=val xs:=by rw[hn];exact dJ xs
    rw[e1,e2] at hMs;have hsz1:=hB1.size;have hsz2:=aI.size;have hbel:Below g w wr:=But.below hB1 aI ae (aA _);rw[<-hMs,<-hg];exact⟨v,rfl,HZ.o.1.mono ae,hbel.trans (HZ.o.2.mono ae)⟩
theorem lN{w:World}{a b:Option Addr}{n c m d:Nat}{xs ys:List Nat}{V:Nat}(h1:Arg w a n c xs)(h2:Arg w b m d ys)(hs:n+m<=35184372088832)(e:val xs*val ys=V) :
 As 110 #[.slice a n c,.slice b m d] w λr w'=>∃v,r=.returned v/\Nt w.heap.size w' v V/\An w w':=by
 subst e;exact Jj xs ys a b n c m d w.heap.size w h1.len h2.len h1.cap h2.cap hs h1.wf h2.wf h1.rd h2.rd (aA _)
theorem Bh{w:World}{a b:Option Addr}{n c m d:Nat}{xs ys:List Nat}{V:Nat}(h1:Arg w a n c xs)(h2:Arg w b m d ys)(hs1:n<=35184372088000)(hs2:m<=35184372088000)(e:val xs+val ys=V) :
 As 114 #[.slice a n c,.slice b m d] w λr w'=>∃v,r=.returned v/\Nt w.heap.size w' v V/\An w w':=by
 subst e;exact NF xs ys a b n c m d w.heap.size w h1.len h2.len h1.cap h2.cap hs1 hs2 h1.wf h2.wf h1.rd h2.rd (aA _)
theorem rW{w:World}{a b:Option Addr}{n c m d:Nat}{xs ys:List Nat}{V:Nat}(h1:Arg w a n c xs)(h2:Arg w b m d ys)(hs1:n<=35184372088000)(hs2:m<=35184372088000)(e:V+val ys=val xs) :
 As 116 #[.slice a n c,.slice b m d] w λr w'=>∃v,r=.returned v/\Nt w.heap.size w' v V/\An w w':=by
 have h:=Ji xs ys a b n c m d w.heap.size w h1.len h2.len h1.cap h2.cap hs1 hs2 h1.wf h2.wf h1.rd h2.rd (aA _) ae;rw[show val xs-val ys=V by omega] at h;exact h
theorem jZ{w:World}{a b:Option Addr}{n c m d:Nat}{xs ys:List Nat}(h1:Arg w a n c xs)(h2:Arg w b m d ys)(z:Int)(e:bI (val xs) (val ys)=z) :
 At 115 #[.slice a n c,.slice b m d] w (.int .i64 z):=by
 have:=Ry xs ys a b n c m d w.heap.size w h1.len h2.len (by have:=h1.big;omega) (by have:=h2.big;omega) h1.wf h2.wf h1.rd h2.rd;rw[e] at this;exact this
theorem tT(w:World)(d:Nat)(hd:d<4294967296):Arg (w.alloc (.cells #[.int .u32 (d:Int)] 162)) (some ⟨w.heap.size,0,none⟩) 1 1 [d]:=by
 refine⟨rfl,aA _,ae,Wf.cons hd Wf.nil,λ_=>⟨w.heap.size,0,aN,rfl,λi hi=>?_⟩,λe=>by cases e⟩;obtain rfl:i=0:=by simpa using hi
 unfold World.cell?;simp only[iF];rfl
theorem af(w:World)(o:Obj):An w (w.alloc o):=(aD _ _).alloc (aA _) _
theorem RA(N n:Nat)(h:N<pw n):bl N<=32*n:=by
 by_cases h0:N=0
 . rw[h0,dI];omega
 . have h1:=iw N h0;rcases iE (32*n) (bl N) with h2|h2
   . exfalso;have h3:2^(32*n)<=2^(bl N-1):=fD ae ae;have h4:pw n=2^(32*n):=by unfold pw;rw[o7]
     omega
   . exact h2
theorem Nt.but{lo g:Nat}{w w':World}{v:Value}{X:Nat}(h:Nt lo w v X)(hb:But g w w')(hg:g<lo):Nt lo w' v X:=by
 have h1:Rw lo w v (ws X).length ((ws X).map U):=h
 exact uY h1 λb hb2=>by
  obtain⟨h2,h3⟩:=h.lt b hb2;exact hb.block b h3 ae
theorem Bi{w:World}{a:Option Addr}{n c:Nat}{xs:List Nat}{V:Nat}(h1:Arg w a n c xs)(e:val xs=V) :
 As 164 #[.slice a n c] w λr w'=>∃v,r=.returned v/\Nt w.heap.size w' v V/\An w w':=by
 subst e;exact jQ xs a n c w.heap.size w h1.len h1.cap h1.big h1.wf h1.rd h1.nil
theorem Lv{x y:Nat}(h:y<=x):0<=bI x y:=by unfold bI;split <;> (try split) <;> omega
theorem We{x y:Nat}(h:x<=y):bI x y<=0:=by unfold bI;split <;> (try split) <;> omega
theorem NN(X Y f t:Nat)(h1:Y*f<=X)(h2:X<Y*t)(h3:f<t)(h4:t-f<=1):X/Y=f:=by
 obtain rfl:t=f+1:=ae
 exact Nat.div_eq_of_lt_le (by rw[cK];exact h1) (by rw[cK];exact h2)
theorem NP{w:World}{a b:Option Addr}{n c m d:Nat}{xs ys:List Nat}(h1:Arg w a n c xs)(h2:Arg w b m d ys)(hm:m<=35184372088000)(hlt:val xs<val ys*4294967296) :
 As 196 #[.slice a n c,.slice b m d] w λr w'=>∃v,r=.returned (.tuple #[.int .u32 ((val xs/val ys:Nat):Int),v])/\Nt w.heap.size w' v (val ys*(val xs/val ys))/\An w w':=by
 have hlo:=aA w.heap.size;obtain⟨X,hX⟩:∃X,val xs=X:=⟨_,rfl⟩;obtain⟨Y,hY⟩:∃Y,val ys=Y:=⟨_,rfl⟩;have yP:=dh ys h2.wf;rw[<-h2.len,hY] at yP;rw[hX,hY] at hlt |-;have HX:=(kz h1 h2 hX hY hlt yP);clear h1 h2 hX hY hlt yP;go_enter Tryz.func196,Tryz.ntmps196;go_wp2
 go_loopg [6,7,8] 4294967296 (λgk fv tv bv wr=>∃(f t:Nat),gk+f=t/\fv=.int .u64 (f:Nat)/\tv=.int .u64 (t:Nat)/\f<t/\t<=4294967296/\Aside (Y*f<=X/\X<Y*t/\An w wr/\Nt w.heap.size wr bv (Y*f)))
 case atStart=>exact⟨0,4294967296,ae,rfl,rfl,ae,ae,ae,HX.o.r4.1,aD _ _,by rw[o9];exact Nt.nil _ _⟩
 case round =>
  obtain⟨f,t,hgt,rfl,rfl,hft,ht,HA⟩:=hrel
  by_cases hend:t-f<=1
  . obtain⟨p1,p2,p3,p4⟩:=HA.o;have HQ:=ak (NN X Y f t p1 p2 hft hend);obtain rfl:t=f+1:=ae
    clear p1 p2 p3 p4;have hff:f<4294967296:=ae
    go_wp2
    go_ret2
    rw[HQ.o];exact⟨_,by first | rfl | (congr 1),HA.o.r3,HA.o.r2.1⟩
  . obtain⟨mid,hmid⟩:=ah ((f+t)/2);have em:((f:Int)+(t:Int))/2=(mid:Int):=ae
    have hm1:f<mid:=ae
    have hm2:mid<t:=ae
    have hm3:mid<4294967296:=ae
    have em2:(mid:Int)%4294967296=(mid:Int):=ae
    have hgo:(1:Int)<(t:Int)-(f:Int):=ae
    obtain⟨h1,h2,hX,hY,hlt,yP⟩:=HX.o;obtain⟨p1,p2,p3,p4⟩:=HA.o;have hsz:=p3.size;have T1:=hid (lN (V:=Y*mid) ((h2.below p3).below (af wr _)) (tT wr mid hm3) ae (by rw[hY];simp[val]));have hYm:Y*mid<pw (m+1):=by rw[bK,cK 4294967296];exact x8 yP hm3
    have hwl:(ws (Y*mid)).length<=m+1:=(aS _ _).2 hYm;clear h1 h2 hX hY hlt yP p1 p2 p3 p4 hYm hmid;go_wp2_with fail;refine T1.o.mono ?_;rintro r u1 ⟨v,rfl,hN,hb⟩;obtain⟨a1,c1,rfl,A1⟩:=hN.arg ae;obtain⟨h1,h2,hX,hY,hlt,yP⟩:=HX.o;obtain⟨p1,p2,p3,p4⟩:=HA.o;have hb2:An wr u1:=(af wr _).trans (hb.mono aN);have q3:An w u1:=p3.trans (hb2.mono hsz);have q4:=p4.below hb2;have q5:=hN.mono (lo':=w.heap.size) (by simp;omega);have hs1:=hb2.size
    by_cases hle:Y*mid<=X
    . obtain⟨z,hz⟩:∃z,bI (Y*mid) X=z:=⟨_,rfl⟩;have hz0:z<=0:=hz ▸ We hle;have C1:=hid (jZ A1 (h1.below q3) z (by rw[aB,hX];exact hz));have S1:=(iN p2 q3 q5 hle);clear h1 h2 hX hY hlt yP p1 p2 p3 p4 q3 q4 q5 hN hb hb2 A1 hz hle T1 HA;go_wp2_with fail;refine C1.o.mono ?_;rintro r u2 ⟨rfl,hb⟩;have S2:=(bA (S1.o.2.1.trans (hb.mono ae)) (S1.o.r2.1.below hb));clear hb C1;go_wp2;go_roundg (t-mid)
      case measure=>omega
      case rel=>exact⟨mid,t,ae,rfl,rfl,hm2,ht,S1.o.r3,S1.o.1,S2.o.1,S2.o.2⟩
    . have hz:bI (Y*mid) X=1:=tJ ae;have C1:=hid (jZ A1 (h1.below q3) 1 (by rw[aB,hX];exact hz));have S1:=(iN p1 q3 q4 hle);clear h1 h2 hX hY hlt yP p1 p2 p3 p4 q3 q4 q5 hN hb hb2 A1 hz hle T1 HA;go_wp2_with fail;refine C1.o.mono ?_;rintro r u2 ⟨rfl,hb⟩;have S2:=(bA (S1.o.2.1.trans (hb.mono ae)) (S1.o.r2.1.below hb));clear hb C1;go_wp2;go_roundg (mid-f)
      case measure=>omega
      case rel=>exact⟨f,mid,ae,rfl,rfl,hm1,ae,S1.o.1,by have:=S1.o.r3;omega,S2.o.1,S2.o.2⟩
end
end Go.Proofs.YtjppdacikihpdaaGreatDoor
