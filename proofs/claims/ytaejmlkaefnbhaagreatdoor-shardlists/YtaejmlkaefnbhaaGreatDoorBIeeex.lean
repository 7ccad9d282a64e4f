import Ieee.Arith
import Derived.WalkKit
import Derived.Test.YtaejmlkaefnbhaaGreatDoorProg
import Derived.WalkLawsBesides
import Derived.WalkSpells
import Derived.Laws.Externs
import Derived.Test.YtaejmlkaefnbhaaGreatDoorW24x
import Derived.BigQuiet
import Derived.ArgAppend
import Derived.Maps.AppendAt
import Derived.WalkMore
import Derived.Test.YtaejmlkaefnbhaaGreatDoorW14x
import Derived.ProofKit
import Derived.OpenShut
import Derived.ChangeOld
import Derived.SizedLaws
import Derived.Deep.RegionHeld
set_option linter.unusedVariables false
set_option linter.unusedSimpArgs false
set_option maxHeartbeats 16000000
set_option maxRecDepth 20000
namespace Go.Proofs.YtaejmlkaefnbhaaGreatDoor
namespace B
open Ieee
def val(f:Format)(r:Nat):Nat:=if r<f.binade then r else(f.binade+r%f.binade)*2^(r/f.binade-1)
theorem jJ(f:Format):0<f.binade:=bK _
theorem val_succ(f:Format)(r:Nat):val f (r+1)=val f r+2^(r/f.binade-1):=by
 have hb:=jJ f;unfold val;generalize hB:f.binade=B at *
 by_cases h:r<B
 · rw[if_pos h,iI h]
   by_cases h1:r+1<B
   · rw[if_pos h1]
   · have e:r+1=B:=af
     rw[if_neg h1,e,Nat.mod_self,Nat.div_self hb];simp
 · have h1:¬ r+1<B:=af
   rw[if_neg h,if_neg h1]
   have hq:1<=r/B:=by
    have:=IW (c:=B) (lM h);rw[Nat.div_self hb] at this;exact this
   have hm:=iB r hb;have hd:=uS r B;generalize r/B=q at *;generalize hmm:r%B=m at *;obtain⟨q,rfl⟩:∃ k,q=k+1:=⟨q-1,af⟩
   by_cases h2:m+1<B
   · have e:r+1=B*(q+1)+(m+1):=af
     have e1:(r+1)%B=m+1:=by rw[e,Nat.mul_add_mod,ja h2]
     have e2:(r+1)/B=q+1:=by rw[e,Nat.mul_add_div hb,iI h2]
     rw[e1,e2,nU,<-nK,dV,jF]
   · have hm1:m+1=B:=af
     have e:r+1=B*(q+2):=by rw[show q+2=(q+1)+1 from rfl,Nat.mul_succ];omega
     have e1:(r+1)%B=0:=by rw[e,Nat.mul_mod_right]
     have e2:(r+1)/B=q+2:=by rw[e,zZ _ hb]
     rw[e1,e2];have:B+m=2*B-1:=af
     have h3:(B+m)*2^q+2^q=(2*B)*2^q:=by
      rw[<-xB];congr 1;omega
     show(B+0)*2^(q+1)=(B+m)*2^q+2^q;rw[h3,fw,gU,bR 2 B,dH,bR 2]
theorem vF(f:Format)(r:Nat):val f r<val f (r+1):=by
 rw[val_succ];exact Nat.lt_add_of_pos_right (bK _)
theorem df(f:Format){r s:Nat}(h:r<s):val f r<val f s:=by
 induction s with
 | zero=>omega
 | succ s ih =>
   by_cases e:r=s
   · subst e;exact vF f r
   · exact Nat.lt_trans (ih af) (vF f s)
theorem gW(f:Format){r s:Nat}:val f r<val f s↔r<s:=by
 constructor
 · intro h
   by_cases e:r<s
   · exact e
   · by_cases e2:r=s
     · subst e2;omega
     · have:=df f (show s<r by omega);omega
 · exact df f
theorem val_inj(f:Format){r s:Nat}(h:val f r=val f s):r=s:=by
 by_cases e:r<s
 · have:=df f e;omega
 · by_cases e2:s<r
   · have:=df f e2;omega
   · omega
theorem val_zero(f:Format):val f 0=0:=by
 unfold val;rw[if_pos (jJ f)]
def sg(s:Bool)(r:Nat):Int:=if s then -(r:Int) else r
theorem AA(f:Format)(s t:Bool)(r u:Nat):sg s (val f r)<sg t (val f u)↔sg s r<sg t u:=by
 have h1:=@gW f r u;have h2:=@gW f u r;have z:=val_zero f;have h3:=@gW f 0 r;have h4:=@gW f 0 u
 cases s <;> cases t <;> simp only[sg,if_true,if_false,dY] <;> omega
theorem Oa(s:Bool)(m k:Nat):signed s m k=sg s (m*2^k):=by
 unfold signed sg;rw[Cc]
theorem Qaq{P:Prop}(h:P:=by
 unfold Format.word
 cases s
 · simp only[dY,if_false];exact ja af
 · simp only[if_true];rw[Nat.add_mod_left];exact ja af):P:=h
theorem Qan{P:Prop}(h:P:=by
 unfold Format.word
 cases s
 · simp only[dY,if_false];rw[iI af];rfl
 · simp only[if_true];rw[Nat.add_div_left _ af,iI af];rfl):P:=h
theorem mD(f:Format)(s:Bool)(r:Nat)(hr:r<f.infRung)(hs:f.infRung<f.signWeight) :
 ∃ m:Nat,∃ k:Nat,f.read (f.word s r)=.number s m (f.leastPlace+k)/\m*2^k=val f r:=by
 have e1:(f.word s r/f.signWeight%2==1)=s:=by
  exact Qan
 have e2:f.word s r%f.signWeight=r:=by
  exact Qaq
 unfold Format.read;simp only[e1,e2];unfold val
 by_cases h:r<f.binade
 · rw[if_pos h,if_pos h];exact⟨r,0,aL,aL⟩
 · rw[if_neg h,if_neg h,if_pos hr];exact⟨_,_,rfl,rfl⟩
theorem rZ(f:Format)(s:Bool)(hs:f.infRung<f.signWeight)(hb:f.binade<=f.infRung) :
 f.read (f.word s f.infRung)=.infinity s:=by
 have e1:(f.word s f.infRung/f.signWeight%2==1)=s:=by
  exact Qan
 have e2:f.word s f.infRung%f.signWeight=f.infRung:=by
  exact Qaq
 unfold Format.read;simp only[e1,e2];rw[if_neg af,if_neg af,if_pos trivial]
theorem Rn(f:Format)(w:Nat)(h:f.infRung<w%f.signWeight)(hb:f.binade<=f.infRung) :
 f.read w=.nan (w/f.signWeight%2==1) (w%f.signWeight-f.infRung):=by
 unfold Format.read;simp only;rw[if_neg af,if_neg af,if_neg af]
theorem xV(a b c d:Int)(h1:a<b↔c<d)(h2:b<a↔d<c):compare a b=compare c d:=by
 by_cases x:a<b
 · rw[uY.2 x,uY.2 (h1.1 x)]
 · by_cases y:b<a
   · rw[uZ.2 y,uZ.2 (h2.1 y)]
   · have e1:a=b:=af
     have e2:c=d:=by
      have n1:=mt h1.2 x;have n2:=mt h2.2 y;omega
     rw[ve.2 e1,ve.2 e2]
theorem Ro(s:Bool)(a k:Nat):sg s (a*k)=sg s a*(k:Int):=by
 unfold sg;cases s <;> simp[Int.neg_mul]
theorem Ob(s t:Bool)(m n j k:Nat)(p:Int) :
 Datum.order (.number s m (p+j)) (.number t n (p+k))=some (compare (sg s (m*2^j)) (sg t (n*2^k))):=by
 unfold Datum.order;simp only[Oa];congr 1;have hb:∃ c:Nat,min (p+(j:Int)) (p+(k:Int))=p+c:=⟨min j k,af⟩;obtain⟨c,hc⟩:=hb;have hj:(p+(j:Int)-min (p+(j:Int)) (p+(k:Int))).toNat=j-c:=by rw[hc];omega
 have hk:(p+(k:Int)-min (p+(j:Int)) (p+(k:Int))).toNat=k-c:=by rw[hc];omega
 have cj:c<=j:=af
 have ck:c<=k:=af
 rw[hj,hk];have ej:m*2^j=m*2^(j-c)*2^c:=by rw[dH,<-aW,Ce cj]
 have ek:n*2^k=n*2^(k-c)*2^c:=by rw[dH,<-aW,Ce ck]
 rw[ej,ek,Ro s (m*2^(j-c)),Ro t (n*2^(k-c))];have hp:(0:Int)<((2^c:Nat):Int):=by exact_mod_cast bK c
 refine xV _ _ _ _ ?_ ?_
 · exact⟨fun h=>Int.mul_lt_mul_of_pos_right h hp,fun h=>Int.lt_of_mul_lt_mul_right h (Int.le_of_lt hp)⟩
 · exact⟨fun h=>Int.mul_lt_mul_of_pos_right h hp,fun h=>Int.lt_of_mul_lt_mul_right h (Int.le_of_lt hp)⟩
theorem Qao{P:Prop}(h:P:=by
 unfold Datum.order;simp only
 cases s <;> cases t <;> simp only[sg,if_true,if_false,dY] <;>
  first | rw[uZ.2 af] | rw[uY.2 af]):P:=h
theorem Jn(f:Format)(hs:f.infRung<f.signWeight)(hb:f.binade<=f.infRung)(s t:Bool)(r u:Nat)(hr:r<=f.infRung)(hu:u<=f.infRung) :
 f.order (f.word s r) (f.word t u)=some (compare (sg s r) (sg t u)):=by
 have hB:=jJ f;unfold Format.order
 by_cases r1:r=f.infRung
 · by_cases u1:u=f.infRung
   · subst r1 u1;rw[rZ f s hs hb,rZ f t hs hb];unfold Datum.order;simp only;congr 1
     cases s <;> cases t <;> simp only[sg,iD,iE,if_true,if_false,dY]
     · rw[ve.2 rfl];rfl
     · rw[uZ.2 af];rfl
     · rw[uY.2 af];rfl
     · rw[ve.2 rfl];rfl
   · obtain⟨n,k,e,hv⟩:=mD f t u af hs;subst r1;rw[rZ f s hs hb,e];exact Qao
 · obtain⟨m,j,e,hv⟩:=mD f s r af hs
   by_cases u1:u=f.infRung
   · subst u1;rw[rZ f t hs hb,e];exact Qao
   · obtain⟨n,k,e2,hv2⟩:=mD f t u af hs;rw[e,e2,Ob,hv,hv2];congr 1;exact xV _ _ _ _ (AA f s t r u) (AA f t s u r)
def Yv(n g:Nat):Nat:=n/g+(decide (g<2*(n%g)) || (g==2*(n%g)&&n/g%2==1)).toNat
theorem Fz(neg:Bool)(n drop:Nat):Toward.even.cut neg n drop=Yv n (2^drop):=by
 unfold Toward.cut Yv;simp only[Cc,jF]
 by_cases h:drop<=n.log2+2
 · rw[iy h]
 · rw[Nat.min_eq_right af];have hn:n<2^(n.log2+1):=Nat.lt_log2_self;have h1:n<2^(n.log2+2):=by rw[fw];omega
   have h2:2^(n.log2+2)<=2^drop:=gF af af;have h3:2*n<2^(n.log2+2):=by rw[fw];omega
   rw[iI h1,ja h1,iI (show n<2^drop by omega),ja (show n<2^drop by omega)];have a1:decide (2^(n.log2+2)<2*n)=false:=by simp;omega
   have a2:decide (2^drop<2*n)=false:=by simp;omega
   simp only[a1,a2,Nat.zero_mod];simp
theorem AB(n g:Nat)(hg:0<g):Yv (n*g) g=n:=by
 unfold Yv;rw[xy _ hg,Nat.mul_mod_left];have:decide (g<2*0)=false:=by simp
 have h2:(g==2*0)=false:=by simp;omega
 rw[this,h2];simp
theorem LA(n:Nat):Yv n 1=n:=by
 have:=AB n 1 af;rwa [gI] at this
theorem zL(f:Format)(neg:Bool)(mag k r:Nat)(hr:r<f.infRung)(h:mag*2^k=val f r) :
 f.nearest neg mag (f.leastPlace+k)=f.word neg r:=by
 unfold Format.nearest
 by_cases hm:mag=0
 · rw[if_pos hm];have:val f r=val f 0:=by rw[val_zero,<-h,hm,gT]
   rw[val_inj f this]
 · rw[if_neg hm];simp only[Fz,Cc];have hl:=(Nat.log2_eq_iff hm (k:=mag.log2)).1 rfl;generalize mag.log2=L at *;have hB:f.binade=2^f.fractionBits:=rfl;have hb:=jJ f;unfold val at h
   by_cases hlt:r<f.binade
   · rw[if_pos hlt] at h
     have h1:2^(L+k)<2^f.fractionBits:=by
      rw[aW,<-hB];exact iC (dF _ hl.1) af
     have h2:=(ku (a:=2) af).1 h1;have e:max (f.leastPlace+(k:Int)+(L:Int)-(f.fractionBits:Int)) f.leastPlace=f.leastPlace:=af
     rw[e];have e1:(f.leastPlace+(k:Int)-f.leastPlace).toNat=k:=af
     have e2:(f.leastPlace-(f.leastPlace+(k:Int))).toNat=0:=af
     have e3:(f.leastPlace-f.leastPlace).toNat=0:=af
     rw[e1,e2,e3,h,jr,LA,gT,dm,iy af]
   · rw[if_neg hlt] at h
     have hq:1<=r/f.binade:=by
      have:=IW (c:=f.binade) (lM hlt);rw[Nat.div_self hb] at this;exact this
     have hmm:=iB r hb;have hd:=uS r f.binade;generalize r/f.binade=q at *;generalize r%f.binade=m at *;obtain⟨q,rfl⟩:∃ j,q=j+1:=⟨q-1,af⟩;rw[nU] at h
     -- the Zn
     have lo1:2^(L+k)<=mag*2^k:=by rw[aW];exact dF _ hl.1
     have hi1:mag*2^k<2^(L+1+k):=by rw[aW];exact jV hl.2 (bK _)
     have lo2:2^(f.fractionBits+q)<=(f.binade+m)*2^q:=by rw[aW];exact dF _ af
     have hi2:(f.binade+m)*2^q<2^(f.fractionBits+1+q):=by
      rw[aW,fw];exact jV af (bK _)
     have c1:=(ku (a:=2) af).1 (show 2^(L+k)<2^(f.fractionBits+1+q) by omega);have c2:=(ku (a:=2) af).1 (show 2^(f.fractionBits+q)<2^(L+1+k) by omega);have cL:L+k=f.fractionBits+q:=af
     have e:max (f.leastPlace+(k:Int)+(L:Int)-(f.fractionBits:Int)) f.leastPlace=f.leastPlace+q:=af
     rw[e];have e3:(f.leastPlace+(q:Int)-f.leastPlace).toNat=q:=af
     rw[e3]
     have fin:q*f.binade+(f.binade+m)=r:=by
      rw[<-hd,Nat.mul_succ,bR q];omega
     by_cases hk:q<=k
     · have e1:(f.leastPlace+(k:Int)-(f.leastPlace+(q:Int))).toNat=k-q:=af
       have e2:(f.leastPlace+(q:Int)-(f.leastPlace+(k:Int))).toNat=0:=af
       have hh:mag*2^(k-q)=f.binade+m:=by
        have:mag*2^(k-q)*2^q=(f.binade+m)*2^q:=by
         rw[dH,<-aW,Ce hk];exact h
        exact xC (bK _) this
       rw[e1,e2,hh,jr,LA,fin,iy af]
     · have e1:(f.leastPlace+(k:Int)-(f.leastPlace+(q:Int))).toNat=0:=af
       have e2:(f.leastPlace+(q:Int)-(f.leastPlace+(k:Int))).toNat=q-k:=af
       have hh:mag=(f.binade+m)*2^(q-k):=by
        have:mag*2^k=(f.binade+m)*2^(q-k)*2^k:=by
         rw[dH,<-aW,Ce af];exact h
        exact xC (bK _) this
       rw[e1,e2,jr,gI,hh,AB _ _ (bK _),fin,iy af]
end B
namespace B
def bw(s:Bool)(e f:Nat):Nat:=s.toNat*9223372036854775808+e*4503599627370496+f
theorem bw_of(b:Nat)(hb:b<18446744073709551616):∃ s e f,e<2048/\f<4503599627370496/\b=bw s e f:=by
 refine⟨decide (9223372036854775808<=b),b%9223372036854775808/4503599627370496,b%4503599627370496,af,af,?_⟩;unfold bw
 by_cases h:9223372036854775808<=b
 · rw[decide_eq_true h];simp only[iD];omega
 · rw[decide_eq_false h];simp only[iE];omega
theorem yq{P:Prop}(h:P:=by
 unfold bw;cases s <;> simp only[iD,iE] <;> omega):P:=h
theorem xW(s:Bool)(e f:Nat)(he:e<2048)(hf:f<4503599627370496):bw s e f<18446744073709551616:=by
 exact yq
theorem Oc(n:Int)(h0:0<=n)(h1:n<2^63):IntKind.i64.wrap n=n:=by rw[yy8Q];omega
theorem wraps_u64(n:Int)(h0:0<=n)(h1:n<2^64):IntKind.u64.wrap n=n:=by
 simp[IntKind.wrap,IntKind.bits,IntKind.signed];omega
theorem Rp(s:Bool)(e f:Nat)(he:e<2048)(hf:f<4503599627370496):bits .and .i64 ((bw s e f:Int)/4503599627370496) 2047=(e:Int):=by
 have hl:=xW s e f he hf;have h:=bits_mask .i64 63 aA Oc 11 aA ((bw s e f:Int)/4503599627370496) af af;rw[show((2:Int)^11-1)=2047 from rfl] at h;rw[h];exact yq
theorem VD(s:Bool)(e f:Nat)(he:e<2048)(hf:f<4503599627370496):bits .and .u64 ((bw s e f:Nat):Int) 4503599627370495=(f:Int):=by
 have hl:=xW s e f he hf;have h:=bits_mask .u64 64 aA wraps_u64 52 aA (bw s e f:Int) af af;rw[show((2:Int)^52-1)=4503599627370495 from rfl] at h;rw[h];exact yq
theorem VE(s:Bool)(e f:Nat)(he:e<2048)(hf:f<4503599627370496):bits .and .u64 ((bw s e f:Int)/9223372036854775808) 1=(s.toNat:Int):=by
 have hl:=xW s e f he hf;have h:=bits_mask .u64 64 aA wraps_u64 1 aA ((bw s e f:Int)/9223372036854775808) af af;rw[show((2:Int)^1-1)=1 from rfl] at h;rw[h];exact yq
theorem VF(f:Nat)(hf:f<4503599627370496):bits .or .u64 (f:Int) 4503599627370496=(f:Int)+4503599627370496:=by
 have hc:bits .or .u64 (f:Int) 4503599627370496=bits .or .u64 4503599627370496 (f:Int):=by simp only[bits,BitVec.or_comm]
 rw[hc,bits_join .u64 64 aA wraps_u64 52 4503599627370496 (f:Int) aA aA aA af af af];omega
theorem VG(x:Int)(h0:0<=x)(h1:x<9223372036854775808):bits .or .u64 x 9223372036854775808=x+9223372036854775808:=by
 have hc:bits .or .u64 x 9223372036854775808=bits .or .u64 9223372036854775808 x:=by simp only[bits,BitVec.or_comm]
 rw[hc,bits_join .u64 64 aA wraps_u64 63 9223372036854775808 x aA aA aA h0 af af];omega
def pv(neg:Bool)(c x:Int)(f:Int):Value:=.agg #[.bool neg,.int .i64 c,.int .i64 x,.int .u64 f]
def cls(e f:Nat):Int:=if e=2047 then(if f=0 then 3 else 4) else if e=0 then(if f=0 then 0 else 1) else 2
def xp(e:Nat):Int:=if e=2047 then 0 else if e=0 then -1074 else(e:Int)-1075
def fr(e f:Nat):Int:=if e=2047 then 0 else if e=0 then(f:Int) else(f:Int)+4503599627370496
def ng(s:Bool)(e f:Nat):Bool:=if e=2047/\f≠0 then false else s
def splitV(s:Bool)(e f:Nat):Value:=pv (ng s e f) (cls e f) (xp e) (fr e f)
theorem Qay{P:Prop}(h:P:=by
 simp[splitV,pv,ng,cls,xp,fr,h,this]):P:=h
theorem Jo(s:Bool)(e f:Nat)(h:e=2047)(h2:((f:Int) != 0)=true):splitV s e f=.agg #[.bool false,.int .i64 4,.int .i64 0,.int .u64 0]:=by
 have:f≠0:=by intro h;subst h;simp at h2
 exact Qay
theorem Jp(s:Bool)(e f:Nat)(h:e=2047)(h2:((f:Int) != 0)=false):splitV s e f=.agg #[.bool s,.int .i64 3,.int .i64 0,.int .u64 0]:=by
 have:f=0:=by simp at h2;omega
 exact Qay
theorem zM(s:Bool)(e f:Nat)(h:e=0)(h2:((f:Int)==0)=true):splitV s e f=.agg #[.bool s,.int .i64 0,.int .i64 (-1074),.int .u64 0]:=by
 have:f=0:=by simp at h2;omega
 exact Qay
theorem CS(s:Bool)(e f:Nat)(h:e=0)(h2:((f:Int)==0)=false):splitV s e f=.agg #[.bool s,.int .i64 1,.int .i64 (-1074),.int .u64 f]:=by
 have:f≠0:=by intro h;subst h;simp at h2
 exact Qay
theorem CU(s:Bool)(e f:Nat)(h:e≠2047)(h2:e≠0):splitV s e f=.agg #[.bool s,.int .i64 2,.int .i64 ((e:Int)-1075),.int .u64 ((f:Int)+4503599627370496)]:=by
 simp[splitV,pv,ng,cls,xp,fr,h,h2]
def odd(e f:Nat):Bool:=e==2047&&f != 0
theorem gK(e f:Nat)(h:odd e f=false):¬ (e=2047/\f≠0):=by
 rintro ⟨h1,h2⟩;simp[odd,h1,h2] at h
theorem l7(e f:Nat)(h:odd e f=true):e=2047/\f≠0:=by
 simpa [odd] using h
def cb(s:Bool)(e f:Nat):Nat:=if e=2047/\f≠0 then 9221120237041090560 else bw s e f
theorem qO(s:Bool)(e f:Nat)(h:e=2047/\f≠0):cb s e f=9221120237041090560:=if_pos h
theorem kF(s:Bool)(e f:Nat)(h:¬ (e=2047/\f≠0)):cb s e f=bw s e f:=if_neg h
theorem Zo(s:Bool)(e f:Nat)(he:e<2048)(hf:f<4503599627370496):(bw s e f:Int)%9223372036854775808=(e:Int)*4503599627370496+f:=by
 exact yq
theorem zN:Ieee.double.infRung=9218868437227405312:=aA
theorem Rs:Ieee.double.signWeight=9223372036854775808:=aA
theorem Jq:Ieee.double.binade=4503599627370496:=aA
theorem dHs:Ieee.double.infRung<Ieee.double.signWeight:=aA
theorem dHb:Ieee.double.binade<=Ieee.double.infRung:=aA
theorem CV(s:Bool)(e f:Nat):bw s e f=Ieee.double.word s (e*4503599627370496+f):=by
 unfold bw Ieee.Format.word;rw[Rs]
 cases s <;> simp[nK]
theorem vG(s:Bool)(e f:Nat)(hf:f<4503599627370496)(h:odd e f=true):Ieee.double.read (bw s e f)=.nan s f:=by
 have h0:e=2047/\f≠0:=by simpa [odd] using h
 have e1:bw s e f%Ieee.double.signWeight=e*4503599627370496+f:=by
  rw[Rs];exact yq
 have e2:(bw s e f/Ieee.double.signWeight%2==1)=s:=by
  rw[Rs]
  cases s
  · have:bw false e f/9223372036854775808%2=0:=by unfold bw;simp only[iE];omega
    rw[this];rfl
  · have:bw true e f/9223372036854775808%2=1:=by unfold bw;simp only[iD];omega
    rw[this];rfl
 rw[Rn Ieee.double _ (by rw[e1,zN];omega) dHb,e1,e2,zN,show e*4503599627370496+f-9218868437227405312=f from by omega]
theorem LC(e f:Nat)(he:e<2048)(hf:f<4503599627370496)(h:odd e f=false):e*4503599627370496+f<=Ieee.double.infRung:=by
 rw[zN];have:=gK e f h;omega
theorem pW(s:Bool)(e f:Nat)(he:e<2048)(hf:f<4503599627370496)(h:odd e f=false):¬ bw s e f=9221120237041090560:=by
 have:=gK e f h;exact yq
def pl(s:Bool)(e f:Nat):Int:=sg s (e*4503599627370496+f)
theorem ord(s t:Bool)(e f u v:Nat)(he:e<2048)(hf:f<4503599627370496)(hu:u<2048)(hv:v<4503599627370496) :
 FloatKind.f64.format.order (bw s e f) (bw t u v)=if odd e f || odd u v then none else some (compare (pl s e f) (pl t u v)):=by
 show Ieee.double.order _ _=_
 by_cases h1:odd e f=true
 · rw[h1];show(Ieee.double.read (bw s e f)).order _=none;rw[vG s e f hf h1];rfl
 · by_cases h2:odd u v=true
   · rw[h2];show(Ieee.double.read (bw s e f)).order (Ieee.double.read (bw t u v))=if (odd e f || true)=true then none else _
     rw[vG t u v hv h2,Bool.or_true,if_pos rfl]
     cases Ieee.double.read (bw s e f) <;> rfl
   · have h3:odd e f=false:=by simpa using h1
     have h4:odd u v=false:=by simpa using h2
     rw[h3,h4,CV,CV];rw[Jn Ieee.double dHs dHb s t _ _ (LC e f he hf h3) (LC u v hu hv h4)];simp[pl]
theorem xX(s:Bool)(e f:Nat)(he:e<2048)(hf:f<4503599627370496):(FloatKind.f64.format.order (bw s e f) (bw s e f) != some .eq)=odd e f:=by
 rw[ord s s e f e f he hf he hf,Bool.or_self,ve.2 rfl]
 cases odd e f <;> rfl
end B
namespace B
open Go.RowKit
theorem Od(s:Bool)(e f:Nat)(he:e<2048)(hf:f<4503599627370496)(w:World) :
 Calls Tryz.prog 252 #[.int .u64 (bw s e f),.int .u64 52,.int .u64 11,.int .i64 (-1074)] w fun r w'=>r=.returned (splitV s e f)/\Below w.heap.size w w':=by
 have hl:=xW s e f he hf;have h1:=Rp s e f he hf;have h2:=VD s e f he hf;have h3:=VE s e f he hf;have h4:=VF f hf;have h5:((s.toNat:Int)==1)=s:=by cases s <;> rfl
 go_enter Tryz.func252,Tryz.ntmps252;go_wp2
 · rw[Jo s e f af ‹_›];exact aJ (v:=.agg #[.bool false,.int .i64 4,.int .i64 0,.int .u64 0]) (by simp[results,Tryz.results252,go_sem]) rfl ⟨rfl,(by repeat (first | exact aG _ _ | assumption | exact aB _ | (simp;done) | (simp;omega) | refine Below.alloc ?_ ?_ _ | refine Below.setCell ?_ ?_ _ | refine xK ?_))⟩
 · rw[Jp s e f af ‹_›];exact aJ (v:=.agg #[.bool s,.int .i64 3,.int .i64 0,.int .u64 0]) (by simp[results,Tryz.results252,go_sem]) rfl ⟨rfl,(by repeat (first | exact aG _ _ | assumption | exact aB _ | (simp;done) | (simp;omega) | refine Below.alloc ?_ ?_ _ | refine Below.setCell ?_ ?_ _ | refine xK ?_))⟩
 · rw[zM s e f af ‹_›];exact aJ (v:=.agg #[.bool s,.int .i64 0,.int .i64 (-1074),.int .u64 0]) (by simp[results,Tryz.results252,go_sem]) rfl ⟨rfl,(by repeat (first | exact aG _ _ | assumption | exact aB _ | (simp;done) | (simp;omega) | refine Below.alloc ?_ ?_ _ | refine Below.setCell ?_ ?_ _ | refine xK ?_))⟩
 · rw[CS s e f af ‹_›];exact aJ (v:=.agg #[.bool s,.int .i64 1,.int .i64 (-1074),.int .u64 f]) (by simp[results,Tryz.results252,go_sem]) rfl ⟨rfl,(by repeat (first | exact aG _ _ | assumption | exact aB _ | (simp;done) | (simp;omega) | refine Below.alloc ?_ ?_ _ | refine Below.setCell ?_ ?_ _ | refine xK ?_))⟩
 · rw[CU s e f af af];refine aJ (v:=.agg #[.bool s,.int .i64 2,.int .i64 ((e:Int)-1075),.int .u64 ((f:Int)+4503599627370496)]) (by simp[results,Tryz.results252,go_sem];try omega) rfl ⟨rfl,(by repeat (first | exact aG _ _ | assumption | exact aB _ | (simp;done) | (simp;omega) | refine Below.alloc ?_ ?_ _ | refine Below.setCell ?_ ?_ _ | refine xK ?_))⟩
end B
namespace B
theorem bu(b:Nat)(w:World):(callFunc 44 #[.float .f64 b]).run Tryz.prog w=.ok (.value (.int .u64 b)) w:=by
 rw[run_callFunc_extern (e:=Extern.MathFloatBits.float64bits) Tryz.func44 gD gD gD gD];rfl
theorem aM(n:Int)(w:World):(callFunc 114 #[.int .u64 n]).run Tryz.prog w=.ok (.value (.float .f64 n.toNat)) w:=by
 rw[run_callFunc_extern (e:=Extern.MathFloatBits.float64frombits) Tryz.func114 gD gD gD gD];rfl
end B
namespace B
open Go.RowKit
attribute [local go_sem] bu aM
theorem aU{W w1:World}(hb:Below W.heap.size W w1):(∀ b o,b<W.heap.size->w1.cell? ⟨b,o,none⟩=W.cell? ⟨b,o,none⟩)/\(∀ b o,b<W.heap.size->w1.frozen? ⟨b,o,none⟩=W.frozen? ⟨b,o,none⟩) :=
 ⟨fun b o h=>hb.cell (p:=⟨b,o,none⟩) h,fun b o h=>hb.frozen (p:=⟨b,o,none⟩) h⟩
theorem Oe(s:Bool)(e f:Nat)(he:e<2048)(hf:f<4503599627370496)(w:World) :
 Calls Tryz.prog 252 #[.int .u64 (bw s e f),.int .u64 52,.int .u64 11,.int .i64 (-1074)] w fun r w'=>r=.returned (.agg #[.bool (ng s e f),.int .i64 (cls e f),.int .i64 (xp e),.int .u64 (fr e f)])/\Below w.heap.size w w' :=
 Od s e f he hf w
theorem wM(w:World):Calls Tryz.prog 57 #[] w fun r w'=>r=.returned (.float .f64 9221120237041090560)/\w'=w:=by
 go_enter Tryz.func57,Tryz.ntmps57;go_wp2;exact Ks
theorem mE(s:Bool)(e f:Nat)(he:e<2048)(hf:f<4503599627370496)(w:World) :
 Calls Tryz.prog 203 #[.float .f64 (bw s e f)] w fun r w'=>r=.returned (.agg #[.bool (ng s e f),.int .i64 (cls e f),.int .i64 (xp e),.int .u64 (fr e f)])/\Below w.heap.size w w':=by
 go_enter Tryz.func203,Tryz.ntmps203
 go_wp2_with (go_at_call 252;refine(Oe s e f he hf _).mono ?_;rintro r w1 ⟨rfl,hb⟩;(obtain⟨hc,hfz⟩:=aU hb;have hz:w.heap.size<w1.heap.size:=by (have:=hb.size;simp at this;omega)))
 exact aJ (v:=(.agg #[.bool (ng s e f),.int .i64 (cls e f),.int .i64 (xp e),.int .u64 (fr e f)])) (by simp[results,Tryz.results203,go_sem,hc]) rfl ⟨rfl,(by repeat (first | exact aG _ _ | exact((aG _ _).alloc (aB _) _).trans (hb.mono aL) | exact aB _ | (simp;done) | (simp;omega) | refine Below.alloc ?_ ?_ _ | refine Below.setCell ?_ ?_ _ | refine xK ?_))⟩
theorem bJ(s:Bool)(e f:Nat)(he:e<2048)(hf:f<4503599627370496)(w:World) :
 Calls Tryz.prog 169 #[.float .f64 (bw s e f)] w fun r w'=>r=.returned (.bool (odd e f))/\w'=w:=by
 have h1:=xX s e f he hf;go_enter Tryz.func169,Tryz.ntmps169;go_wp2;go_ret;exact⟨rfl,rfl⟩
end B
section
open Go.RowKit
abbrev Rw(lo:Nat)(w:World)(v:Value)(n:Nat)(ys:List Value):Prop:=w.ownsRow lo 138 1 v n ys
theorem Qag{P:Prop}(h:P:=by
 refine⟨h.1,?_⟩;rcases h.2 with hn|⟨g,cap,cur,rfl,hlo,hg,rest⟩
 · exact .inl hn
 · refine .inr ⟨g,cap,cur,rfl,hlo,?_,rest⟩;rw[hb g rfl];exact hg):P:=h
theorem tY{w w':World}{lo e s:Nat}{v:Value}{n:Nat}{ys:List Value}(h:w.ownsRow lo e s v n ys)(hb:∀ g,v.ownBlock=some g->w'.heap[g]?=w.heap[g]?):w'.ownsRow lo e s v n ys:=by
 exact Qag
theorem Og(xs:List Nat)(hx:Wf xs)(k r:Nat)(hk:k<xs.length)(hr:r<32):val xs/2^(32*k+r)%2=xs.getD k 0/2^r%2:=by
 have e:=fu xs k af
 have hl:val (xs.take k)<pw k:=by
  have:=df _ (hx.take k);rwa [gm,iy af] at this
 rw[mZ,<-uW,e,wY _ _ (jy k),iI hl,dm,dQ xs k hk]
 have e2:4294967296*val (xs.drop (k+1))=2^r*(2*(2^(31-r)*val (xs.drop (k+1)))):=by
  have:(4294967296:Nat)=2^r*(2*2^(31-r)):=by
   rw[<-dH,bR (2^r) 2,dH,<-aW,show r+(31-r)=31 by omega]
  rw[this];grind
 rw[e2,wY _ _ (bK r),xw]
theorem Jr(xs:List Nat)(hx:Wf xs)(i:Nat)(h:xs.length<=i/32):val xs/2^i%2=0:=by
 have h1:=df xs hx
 have h2:pw xs.length<=2^i:=by
  have:pw xs.length=2^(32*xs.length):=by rw[<-gU (32*xs.length),mZ];simp
  rw[this];exact gF aA af
 rw[iI af]
theorem and_one(z:Nat)(h:z<4294967296):bits BinOp.and IntKind.u32 (z:Int) 1=((z%2:Nat):Int):=by
 have:=KP z 1 h aA;rw[Nat.and_one_is_mod] at this;exact this
theorem VH(ao:Option Addr)(n cap:Nat)(i:Int)(w:World)(hi:i<0) :
 Calls Tryz.prog 231 #[.slice ao n cap,.int .i64 i] w fun r w'=>r=.returned (.bool false)/\w'=w:=by
 go_enter Tryz.func231,Tryz.ntmps231;go_wp2;go_ret;exact⟨rfl,rfl⟩
theorem Qbb{P:Prop}(h:P:=by
 rw[hz2] at e4 |-;clear hz2;go_enter Tryz.func231,Tryz.ntmps231;go_wp2;go_ret;exact⟨rfl,rfl⟩):P:=h
theorem wN(xs:List Nat)(ao:Option Addr)(n cap B i:Nat)(w:World)(hn:n=xs.length)(hx:Wf xs)(hR:Rd B w ao xs)(hi:i<=9223372036854775807) :
 Calls Tryz.prog 231 #[.slice ao n cap,.int .i64 (i:Int)] w fun r w'=>r=.returned (.bool (decide (val xs/2^i%2=1)))/\w'=w:=by
 obtain⟨k,hk⟩:=ah (i/32);obtain⟨r,hr⟩:=ah (i%32);have e1:(i:Int)/32=(k:Int):=af
 have e2:(i:Int)%32=(r:Int):=af
 by_cases hkn:k<n
 · have hb:=Og xs hx k r af af;rw[show 32*k+r=i by omega] at hb;rw[hb];obtain⟨b,off,hB,rfl,hcell⟩:=hR (by intro e;subst e;simp at hn;omega);have hck:=hcell k af;obtain⟨t,ht⟩:∃ t,xs.getD k 0=t:=⟨_,rfl⟩;have htl:t<4294967296:=ht ▸ hx.get k;rw[ht] at hck |-;obtain⟨z,hz⟩:=ah (t/2^r);have hzt:z<=t:=by rw[hz];exact uU _ _
   have e3:(t:Int)/2^r=(z:Int):=by rw[hz];simp
   have e4:=and_one z af;have hr32:r<32:=af
   rw[<-hz];clear hb hn hx hR hcell ht hz hk hr;rcases(by omega:z%2=0\/z%2=1) with hz2|hz2
   · exact Qbb
   · exact Qbb
 · rw[Jr xs hx i af];clear hn hx hR hk hr;go_enter Tryz.func231,Tryz.ntmps231;go_wp2;go_ret;exact⟨rfl,rfl⟩
def Js(X:Nat):Value:=if X<18446744073709551616 then .tuple #[.int .u64 (X:Int),.int .i64 0] else .tuple #[.int .u64 0,.int .i64 2]
theorem Zp(xs:List Nat)(hx:Wf xs):nl xs<=2↔val xs<18446744073709551616:=by
 rw[fT xs hx,cO];rfl
theorem Oh(xs:List Nat)(ao:Option Addr)(n cap B:Nat)(w:World)(hn:n=xs.length)(hc:n<=cap)(hm:n<=70368744177664)(hx:Wf xs)(hR:Rd B w ao xs) :
 Calls Tryz.prog 239 #[.slice ao n cap] w fun r w'=>r=.returned (Js (val xs))/\w'=w:=by
 have H:=hid (dK xs ao n cap B w hn hc af hR);have hl:=nM xs;have h2:=Zp xs hx;have hf:=oh xs hx;obtain⟨m,hm'⟩:∃ m,nl xs=m:=⟨_,rfl⟩;rw[hm'] at H hl h2 hf;unfold Js
 by_cases h:2<m
 · rw[if_neg af];clear h2 hl hn hx hR hm' hf;go_enter Tryz.func239,Tryz.ntmps239;go_wp2_with fail;refine H.o.mono ?_;rintro r w1 ⟨rfl,rfl⟩;go_wp2
   go_ret2
   exact KK
 · rw[if_pos af];rw[<-lN] at hf;have HR:=(iq hR hn hx hl hf);have hm2:m<=2:=af
   clear h2 hl hn hx hR hm' hf h;go_enter Tryz.func239,Tryz.ntmps239;go_wp2_with fail;refine H.o.mono ?_;rintro r w1 ⟨rfl,rfl⟩;go_wp2
   go_loopg [4,14] m (fun gk s i wr=>∃ (k sv:Nat),gk+k=m/\s=.int .u64 (sv:Nat)/\i=.int .i64 (k:Nat)/\wr=w1/\Aside (sv=sg xs 0 k))
   case atStart=>exact⟨0,0,af,rfl,rfl,rfl,(eX _ _).symm⟩
   case round =>
    obtain⟨k,sv,iL,rfl,rfl,rfl,HA⟩:=hrel
    by_cases hk:k<m
    · obtain⟨hR,hn,hx,hl,hf⟩:=HR.o;obtain⟨b,off,hB,rfl,hcell⟩:=hR (by intro e;subst e;simp at hl;omega);have hck:=hcell k af;obtain⟨t,ht⟩:∃ t,xs.getD k 0=t:=⟨_,rfl⟩;have htl:t<4294967296:=ht ▸ hx.get k;rw[ht] at hck;have hs1:=nN xs 0 k hx af;have hs2:=bz xs 0 k af;rw[dm,ht,<-HA.o] at hs2;rw[<-HA.o] at hs1;have HX:=(aT hs1 hs2);clear hR hn hx hl hf hcell ht hs1 hs2;rcases(by omega:k=0\/k=1) with rfl|rfl
      · have hsv:sv=0:=by have:=HX.o.1;rw[jw] at this;omega
        have e:bits BinOp.or IntKind.u64 (sv:Int) (t:Int)=(t:Int):=by rw[bits_or_u64_nat _ _ af af,hsv,Nat.zero_or]
        rw[gU] at hck;have HS:=(au hsv);clear hsv;go_wp2;go_roundg (gk-1)
        case measure=>omega
        case rel =>
         refine⟨1,t,af,by first | rfl | rw[e],by go_num,rfl,?_⟩;have:=HX.o.2;rw[jw,HS.o] at this;rw[Aside,this];omega
      · have hsv:sv<4294967296:=by have:=HX.o.1;rw[show(1:Nat)=0+1 from rfl,bI,jw] at this;omega
        have e:=xQ t sv htl hsv;go_wp2;go_roundg (gk-1)
        case measure=>omega
        case rel =>
         refine⟨2,sv+t*4294967296,af,by first | rfl | rw[e] | (rw[e];rfl),by go_num,rfl,?_⟩;have:=HX.o.2;rw[show pw 1=4294967296 from rfl] at this;rw[Aside,this];omega
    · obtain rfl:k=m:=af
      go_wp2
      go_ret2
      obtain⟨hR,hn,hx,hl,hf⟩:=HR.o;rw[<-hf,<-HA.o];exact KK
theorem Below.drewN'{B:Nat}{a w:World}(h:Below B a w)(n:Nat):Below B a (w.drewN n):=⟨h.os,h.tape,h.output,h.size,h.block⟩
theorem ag(w:World)(o:Obj):Below w.heap.size w (w.alloc o):=(aG _ _).alloc (aB _) _
theorem LF(N n:Nat)(h:N<pw n):bl N<=32*n:=by
 by_cases h0:N=0
 · rw[h0,eY];omega
 · have h1:=iM N h0;rcases iJ (32*n) (bl N) with h2|h2
   · exfalso;have h3:2^(32*n)<=2^(bl N-1):=gF af af;have h4:pw n=2^(32*n):=by unfold pw;rw[rM]
     omega
   · exact h2
theorem Nt.but{lo g:Nat}{w w':World}{v:Value}{X:Nat}(h:Nt lo w v X)(hb:But g w w')(hg:g<lo):Nt lo w' v X:=by
 have h1:Rw lo w v (ws X).length ((ws X).map U):=h
 exact tY h1 fun b hb2=>by
  obtain⟨h2,h3⟩:=h.lt b hb2;exact hb.block b h3 af
theorem VI{x y:Nat}(h:y<=x):0<=aZ x y:=by unfold aZ;split <;> (try split) <;> omega
theorem LH(X:Nat)(h:X≠0):∃ m,X=2^lo X*(2*m+1):=by
 have key:∀ Y:Nat,Y≠0->∃ i m,Y=2^i*(2*m+1):=by
  intro Y
  induction Y using Nat.strongRecOn with
  | ind Y ih =>
    intro hY;rcases IX Y with h0|h1
    · obtain⟨i,m,e⟩:=ih (Y/2) af af;refine⟨i+1,m,?_⟩;rw[fw,bR (2^i) 2,dH,<-e];omega
    · exact⟨0,Y/2,af⟩
 obtain⟨i,m,e⟩:=key X h;refine⟨m,?_⟩;rw[e,Le]
theorem Arg.drew'{w:World}{a:Option Addr}{n c:Nat}{xs:List Nat}(h:Arg w a n c xs):Arg w.drew a n c xs:=⟨h.len,h.cap,h.big,h.wf,h.rd,h.nil⟩
def mkS(neg:Bool)(X:Nat)(e:Int):Option (Bool×Nat×Int) :=
 if X=0 then some (false,0,0)
 else if 262144<bl X-lo X\/1048576-(lo X:Int)<e\/e < -1048576-(lo X:Int) then none
 else some (neg,X/2^lo X,e+lo X)
def dN(o:Option (Bool×Nat×Int)):Bool:=(o.getD (false,0,0)).1
def dX(o:Option (Bool×Nat×Int)):Nat:=(o.getD (false,0,0)).2.1
def dE(o:Option (Bool×Nat×Int)):Int:=(o.getD (false,0,0)).2.2
def qx(o:Option (Bool×Nat×Int)):Int:=if o.isSome then 0 else 2
theorem vH(X m:Nat):m<bl X↔2^m<=X:=by
 constructor
 · intro h;have h0:X≠0:=by rintro rfl;rw[eY] at h;omega
   exact aV (gF af (by omega:m<=bl X-1)) (iM X h0)
 · intro h;exact(ku af).1 (iC h (iF X))
theorem Jt(X k m:Nat)(hm:m=32*k):k<(ws X).length↔m<bl X:=by
 rw[vH,hm,rM];have h:=cO X k;unfold pw at h;rw[show(2:Nat)^32=4294967296 from rfl];generalize 4294967296^k=P at h |-;omega
theorem oK(X:Nat):LG X↔262144<bl X:=Jt X 8192 262144 rfl
theorem qP(k Y:Nat)(h:Y≠0):bl (2^k*Y)=k+bl Y:=by
 have h1:=iF Y;have h2:=iM Y h;have h3:=fH Y h;have e:k+bl Y=(k+(bl Y-1))+1:=af
 rw[e];apply Lc
 · rw[aW];exact gH _ h2
 · rw[show k+(bl Y-1)+1=k+bl Y by omega,aW];exact IV h1 (bK k)
theorem gX(X:Nat)(h:X≠0):∃ m,X=2^lo X*(2*m+1)/\X/2^lo X=2*m+1/\bl X=lo X+bl (X/2^lo X):=by
 obtain⟨m,hm⟩:=LH X h
 have e:X/2^lo X=2*m+1:=by
  obtain⟨k,hk⟩:∃ k,lo X=k:=⟨_,rfl⟩;rw[hk] at hm |-;rw[hm,zZ _ (bK k)]
 refine⟨m,hm,e,?_⟩;rw[e];obtain⟨k,hk⟩:∃ k,lo X=k:=⟨_,rfl⟩;rw[hk] at hm |-;rw[hm];exact qP k _ af
theorem Oi(X:Nat)(h:X≠0):lo (2*X)=lo X+1:=by
 obtain⟨m,hm⟩:=LH X h;obtain⟨k,hk⟩:∃ k,lo X=k:=⟨_,rfl⟩;rw[hk] at hm |-;have e:2*X=2^(k+1)*(2*m+1):=by rw[hm,fw];grind
 rw[e];exact Le (k+1) m
theorem Oj(X:Nat)(h:X≠0):bl (2*X)=bl X+1:=by
 have:=qP 1 X h;rw[Nat.pow_one] at this;omega
theorem xY(n:Bool)(X:Nat)(e:Int):mkS n (2*X) e=mkS n X (e+1):=by
 unfold mkS
 by_cases h:X=0
 · subst h;simp
 · rw[if_neg af,if_neg h,Oi X h,Oj X h]
   have e1:2*X/2^(lo X+1)=X/2^lo X:=by
    rw[fw,bR (2^lo X) 2,Nat.mul_div_mul_left _ _ af]
   rw[e1];have e2:(262144<bl X+1-(lo X+1)\/1048576-((lo X+1:Nat):Int)<e\/e < -1048576-((lo X+1:Nat):Int))↔(262144<bl X-lo X\/1048576-(lo X:Int)<e+1\/e+1 < -1048576-(lo X:Int)):=af
   by_cases h2:262144<bl X-lo X\/1048576-(lo X:Int)<e+1\/e+1 < -1048576-(lo X:Int)
   · rw[if_pos h2,if_pos (e2.2 h2)]
   · rw[if_neg h2,if_neg (fun h3=>h2 (e2.1 h3))];congr 3;omega
theorem gz(n:Bool)(e:Int):mkS n 0 e=some (false,0,0):=by unfold mkS;rw[if_pos rfl]
theorem VJ(X:Nat)(h:X%2=1):lo X=0:=by
 have:=QT (X/2);rw[show 2*(X/2)+1=X by omega] at this;exact this
theorem LJ(n:Bool)(X:Nat)(e:Int)(h:X%2=1):mkS n X e=if 262144<bl X\/1048576<e\/e < -1048576 then none else some (n,X,e):=by
 have h0:X≠0:=af
 unfold mkS;rw[if_neg h0,VJ X h];simp only[Nat.sub_zero,jr,Nat.div_one]
 by_cases h2:262144<bl X\/1048576<e\/e < -1048576
 · rw[if_pos h2,if_pos af]
 · rw[if_neg h2,if_neg af];congr 3;omega
structure tZ (n:Bool) (X:Nat) (e:Int):Prop where
 odd:X%2=1\/(X=0/\n=false/\e=0)
 size:bl X<=262144
 up:e<=1048576
 down:-1048576<=e
theorem di{n n':Bool}{X Y:Nat}{e f:Int}(h:mkS n X e=some (n',Y,f)):tZ n' Y f:=by
 unfold mkS at h
 split at h
 · cases h
   exact⟨.inr ⟨rfl,rfl,rfl⟩,by rw[eY];omega,af,af⟩
 · next h0 =>
   split at h
   · cases h
   · next h1 =>
     obtain⟨m,hm,e1,hb⟩:=gX X h0
     cases h
     refine⟨.inl (by rw[e1];omega),af,af,af⟩
theorem tZ.self{n:Bool}{X:Nat}{e:Int}(h:tZ n X e):mkS n X e=some (n,X,e):=by
 rcases h.odd with h1|⟨rfl,rfl,rfl⟩
 · rw[LJ n X e h1,if_neg];have:=h.size;have:=h.up;have:=h.down;omega
 · exact gz _ _
theorem iT{n:Bool}{X:Nat}{e:Int}(h:tZ n X e):(ws X).length<=8192:=by
 have h1:=oK X;have h2:=h.size;unfold LG at h1;omega
theorem bC(n:Bool)(X:Nat)(e:Int):(ws (dX (mkS n X e))).length<=8192:=by
 unfold dX
 cases h:mkS n X e with
 | none=>simp[bB]
 | some d =>
   obtain⟨n',Y,f⟩:=d;exact iT (di h)
theorem VK(xs:List Nat)(ao:Option Addr)(n cap B i:Nat)(w:World)(hn:n=xs.length)(hm:n<=70368744177664)(hx:Wf xs)(hR:Rd B w ao xs)(hi:i<n) :
 Calls Tryz.prog 292 #[.slice ao n cap,.int .i64 (i:Nat)] w fun r w'=>r=.returned (.int .u32 ((xs.getD i 0:Nat):Int))/\w'=w:=by
 obtain⟨b,off,hb,rfl,hc⟩:=hR (by intro e;subst e;simp at hn;omega);have hcell:=hc i af;obtain⟨x,hx2⟩:∃ x,xs.getD i 0=x:=⟨_,rfl⟩;rw[hx2] at hcell |-;have hi1:decide (n<=i)=false:=decide_eq_false af;clear hc hx hn hx2;go_enter Tryz.func292,Tryz.ntmps292;go_wp2;go_ret;exact⟨rfl,rfl⟩
theorem FE(xs:List Nat)(ao:Option Addr)(n cap:Nat)(i:Int)(w:World)(hn:n=xs.length)(hm:n<=70368744177664)(hi:i<0\/(n:Int)<=i) :
 Calls Tryz.prog 292 #[.slice ao n cap,.int .i64 i] w fun r w'=>r=.returned (.int .u32 0)/\w'=w:=by
 clear hn;rcases hi with h|h
 · go_enter Tryz.func292,Tryz.ntmps292;go_wp2;go_ret;exact⟨rfl,rfl⟩
 · have h0:decide (i<0)=false:=decide_eq_false af;go_enter Tryz.func292,Tryz.ntmps292;go_wp2;go_ret;exact⟨rfl,rfl⟩
def wd(xs:List Nat)(i:Int):Nat:=if i<0 then 0 else xs.getD i.toNat 0
theorem Yw(xs:List Nat)(hx:Wf xs)(i:Int):wd xs i<4294967296:=by
 unfold wd;split
 · omega
 · exact hx.get _
theorem FH(xs:List Nat)(ao:Option Addr)(n cap B:Nat)(i:Int)(w:World)(hn:n=xs.length)(hm:n<=70368744177664)(hx:Wf xs)(hR:Rd B w ao xs) :
 Calls Tryz.prog 292 #[.slice ao n cap,.int .i64 i] w fun r w'=>r=.returned (.int .u32 ((wd xs i:Nat):Int))/\w'=w:=by
 by_cases h:i<0
 · unfold wd;rw[if_pos h];exact FE xs ao n cap i w hn hm (.inl h)
 · obtain⟨k,rfl⟩:∃ k:Nat,i=(k:Int):=⟨i.toNat,af⟩;unfold wd;rw[if_neg h,kV]
   by_cases hk:k<n
   · exact VK xs ao n cap B k w hn hm hx hR hk
   · rw[aS,rH af];exact FE xs ao n cap k w hn hm (.inr af)
def win(X:Nat)(i:Int):Nat:=if i<0 then X*2^(-i).toNat%4294967296 else X/2^i.toNat%4294967296
theorem val_mod(xs:List Nat):val xs%4294967296=xs.getD 0 0%4294967296:=by
 cases xs with
 | nil=>simp[val]
 | cons x xs=>simp[val]
theorem Rt(xs:List Nat)(hx:Wf xs)(q:Nat):∃ R,val xs/pw q=xs.getD q 0+4294967296*(xs.getD (q+1) 0+4294967296*R):=by
 by_cases h:q<xs.length
 · have h1:val xs/pw q=val (xs.drop q):=by
    have h5:=fu xs q af;have h6:=df (xs.take q) (hx.take q);rw[gm,iy af] at h6;rw[h5,wY _ _ (jy q),iI h6,dm]
   obtain⟨R,hR⟩:∃ R,val (xs.drop (q+1))=xs.getD (q+1) 0+4294967296*R:=by
    by_cases h:q+1<xs.length
    · exact⟨_,dQ xs (q+1) h⟩
    · refine⟨0,?_⟩;rw[xz af,aS,rH af];rfl
   exact⟨R,by rw[h1,dQ xs q h,hR]⟩
 · refine⟨0,?_⟩;have h1:=df xs hx;have h2:=mW (show xs.length<=q by omega);rw[iI af,aS,rH af,aS,rH af];rfl
theorem VL(xs:List Nat)(hx:Wf xs)(q r:Nat)(hr:r<32):(xs.getD (q+1) 0*4294967296+xs.getD q 0)/2^r%4294967296=val xs/2^(32*q+r)%4294967296:=by
 rw[mZ,<-uW];obtain⟨R,hR⟩:=Rt xs hx q;rw[hR]
 have e:xs.getD q 0+4294967296*(xs.getD (q+1) 0+4294967296*R)=(xs.getD (q+1) 0*4294967296+xs.getD q 0)+2^r*(4294967296*(2^(32-r)*R)):=by
  have h1:=kD r hr;have:2^r*(4294967296*(2^(32-r)*R))=4294967296*(4294967296*R):=by rw[<-h1];grind
  rw[this];omega
 rw[e,wY _ _ (bK _),xw]
theorem LK(V k:Nat):V*2^k%4294967296=V%4294967296*2^k%4294967296:=by
 simp[Nat.mul_mod]
theorem Zq(xs:List Nat)(hx:Wf xs)(i at':Int)(rest:Nat)(h1:at'=i/32)(h2:(rest:Int)=i%32) :
 (wd xs (at'+1)*4294967296+wd xs at')/2^rest%4294967296=win (val xs) i:=by
 have hr:rest<32:=af
 by_cases h:i<0
 · unfold win;rw[if_pos h]
   by_cases h3:at'=-1
   · subst h3;have e1:wd xs (-1)=0:=by unfold wd;rw[if_pos af]
     have e2:wd xs (-1+1)=xs.getD 0 0:=by unfold wd;rw[if_neg af];rfl
     rw[e1,e2,gU];obtain⟨k,hk⟩:∃ k,(-i).toNat=k:=⟨_,rfl⟩;have e3:k=32-rest:=af
     rw[hk,LK,val_mod,<-LK,<-kD rest hr,e3];rw[show xs.getD 0 0*(2^rest*2^(32-rest))=2^rest*(xs.getD 0 0*2^(32-rest)) by grind,zZ _ (bK rest)]
   · have e1:wd xs at'=0:=by unfold wd;rw[if_pos af]
     have e2:wd xs (at'+1)=0:=by unfold wd;rw[if_pos af]
     rw[e1,e2];obtain⟨k,hk⟩:∃ k,(-i).toNat=k+32:=⟨(-i).toNat-32,af⟩;rw[hk,aW,show(2:Nat)^32=4294967296 from rfl,<-dH,Nat.mul_mod_left];simp
 · obtain⟨n,rfl⟩:∃ n:Nat,i=(n:Int):=⟨i.toNat,af⟩;obtain⟨q,rfl⟩:∃ q:Nat,at'=(q:Int):=⟨at'.toNat,af⟩;have e1:wd xs ((q:Int)+1)=xs.getD (q+1) 0:=by unfold wd;rw[if_neg af];rfl
   have e2:wd xs (q:Int)=xs.getD q 0:=by unfold wd;rw[if_neg af];rfl
   unfold win;rw[if_neg h,e1,e2,kV,VL xs hx q rest hr];rw[show 32*q+rest=n by omega]
theorem and31(i:Int)(h0:-9223372036854775808<=i)(h1:i<=9223372036854775807):bits BinOp.and IntKind.i64 i 31=i%32:=by
 unfold bits;simp[IntKind.bits,IntKind.signed,IntKind.wrap]
 have e:(BitVec.ofInt 64 i &&& 31#64).toNat=(i%18446744073709551616).toNat%32:=by
  rw[BitVec.toNat_and,BitVec.toNat_ofInt];exact IY _ 5
 show(if 9223372036854775808<=(((BitVec.ofInt 64 i &&& 31#64:BitVec 64).toNat:Nat):Int)%18446744073709551616 then(((BitVec.ofInt 64 i &&& 31#64:BitVec 64).toNat:Nat):Int)%18446744073709551616-18446744073709551616 else(((BitVec.ofInt 64 i &&& 31#64:BitVec 64).toNat:Nat):Int)%18446744073709551616)=i%32;rw[e];generalize hz:(i%18446744073709551616).toNat=z;have hz2:(z:Int)=i%18446744073709551616:=af
 split <;> omega
theorem qQ(xs:List Nat)(ao:Option Addr)(n cap B:Nat)(i:Int)(w:World)(hn:n=xs.length)(hm:n<=70368744177664)(hx:Wf xs)(hR:Rd B w ao xs)(h0:-9223372036854775808<=i)(h1:i<=9223372036854775807) :
 Calls Tryz.prog 279 #[.slice ao n cap,.int .i64 i] w fun r w'=>r=.returned (.int .u32 ((win (val xs) i:Nat):Int))/\w'=w:=by
 obtain⟨at',hat⟩:∃ a,a=i/32:=⟨_,rfl⟩;obtain⟨rest,hrest⟩:∃ r:Nat,(r:Int)=i%32:=⟨(i%32).toNat,af⟩;have hw:=Zq xs hx i at' rest hat hrest;have W1:=hid (FH xs ao n cap B (at'+1) w hn hm hx hR);have W2:=hid (FH xs ao n cap B at' w hn hm hx hR);have l1:=Yw xs hx (at'+1);have l2:=Yw xs hx at';generalize wd xs (at'+1)=a at *;generalize wd xs at'=b at *;generalize win (val xs) i=v at *;have e1:i/32=at':=hat.symm;have e2:bits BinOp.and IntKind.i64 i 31=(rest:Int):=by rw[and31 i h0 h1,hrest]
 have e3:=pQ a b l1 l2;have hr:rest<32:=af
 have ha0:-288230376151711744<=at':=af
 have ha1:at'<=288230376151711744:=af
 obtain⟨t,ht⟩:∃ t:Nat,a*4294967296+b=t:=⟨_,rfl⟩;rw[ht] at e3 hw;have e4:(t:Int)/2^rest%4294967296=(v:Int):=by rw[<-hw];simp
 clear hat hrest hw hn hx hR ht;go_enter Tryz.func279,Tryz.ntmps279;go_wp2_with fail;refine W1.o.mono ?_;rintro r w1 ⟨rfl,rfl⟩;go_wp2_with fail;refine W2.o.mono ?_;rintro r w2 ⟨rfl,rfl⟩;go_wp2;go_ret;exact⟨by simp[e4],rfl⟩
theorem VM(Y i:Nat):(ws Y).getD i 0=Y/pw i%4294967296:=by
 induction i generalizing Y with
 | zero =>
   by_cases h:Y=0
   · subst h;simp[bB]
   · rw[mX Y h,jw];simp
 | succ i ih =>
   by_cases h:Y=0
   · subst h;simp[bB]
   · rw[mX Y h,bI,<-uW,<-ih];simp
theorem Ru(X low i:Nat):win X ((low:Int)+32*(i:Int))=(ws (X/2^low)).getD i 0:=by
 rw[VM,uW];unfold win;rw[if_neg af,show((low:Int)+32*(i:Int)).toNat=low+32*i by omega,aW,rM];rfl
theorem Rx(Ys:List Nat)(k:Nat)(hk:k<Ys.length) :
 (Ys.take k++List.replicate (Ys.length-k) 0).set k (Ys.getD k 0)=Ys.take (k+1)++List.replicate (Ys.length-(k+1)) 0:=by
 apply List.ext_getElem?;intro j;rw[List.getElem?_set]
 by_cases hj:k=j
 · subst hj;rw[if_pos rfl,if_pos (by simp;omega),mq (by simp;omega)];simp[aS,hk]
 · rw[if_neg hj]
   by_cases h1:j<k
   · rw[mq (by simp;omega),mq (by simp;omega)];simp[h1,show j<k+1 by omega]
   · rw[mr (by simp;omega),mr (by simp;omega)];simp only[List.getElem?_replicate,gm];congr 1;simp only[eq_iff_iff];omega
theorem VN{w:World}{a:Option Addr}{n c:Nat}{xs:List Nat}(h1:Arg w a n c xs)(low size:Nat)(hle:low<=size)(hsz:size<=1125899906842624)(hlen:(size-low+31)/32=(ws (val xs/2^low)).length) :
 Calls Tryz.prog 243 #[.slice a n c,.int .i64 (low:Nat),.int .i64 (size:Nat)] w fun r w'=>∃ v,r=.returned v/\Nt w.heap.size w' v (val xs/2^low)/\Below w.heap.size w w':=by
 obtain⟨m,hm⟩:=ah ((size-low+31)/32);rw[<-hm] at hlen;have e1:((size:Int)-low+32-1)/32=(m:Int):=af
 have hmb:m<=35184372088832:=af
 obtain⟨W1,hW1⟩:=ah (w.alloc (.cells (madeCells #[.int .u32 0] m) 138));have vC:Own W1 w.heap.size (List.replicate m 0):=by rw[hW1];exact Own.made w m
 have hB1:Below w.heap.size w W1:=by rw[hW1];exact(aG _ _).alloc (aB _) _
 have hmk:=dW (m:Int) m rfl af w;rw[<-hW1] at hmk;have A1:=h1.below hB1;obtain⟨g,hg⟩:=ah (w.heap.size);rw[<-hg] at vC hmk;obtain⟨Ys,hYs⟩:∃ Ys,ws (val xs/2^low)=Ys:=⟨_,rfl⟩;have hYw:Wf Ys:=hYs ▸ fP _;rw[hYs] at hlen
 have WN:Hid (∀ wr,But g W1 wr->∀ i:Nat,i<m->Calls Tryz.prog 279 #[.slice a n c,.int .i64 ((low:Int)+32*(i:Int))] wr fun r w'=>r=.returned (.int .u32 ((Ys.getD i 0:Nat):Int))/\w'=wr):=by
  intro wr hb i hi;have hR:Rd w.heap.size wr a xs:=(h1.rd.below hB1).but hb (by rw[hg] at *;have:=hB1.size;omega) af;have:=qQ xs a n c w.heap.size ((low:Int)+32*(i:Int)) wr h1.len (by have:=h1.big;omega) h1.wf hR af af;rw[Ru,hYs] at this;exact this
 have HR:=(iq hB1 hg hYs hYw hlen)
 have HO:Hid (Own W1 g (Ys.take 0++List.replicate (Ys.length-0) 0)):=by
  rw[<-hlen];exact hid (by simpa using vC)
 clear hm h1 vC hB1 A1 hg hYs hYw hW1 hlen;go_enter Tryz.func243,Tryz.ntmps243;go_wp2
 go_loopg [18] m (fun gk iv wr=>∃ (k:Nat),gk+k=m/\iv=.int .i64 (k:Nat)/\Hid (Own wr g (Ys.take k++List.replicate (Ys.length-k) 0))/\Aside (But g W1 wr))
 case atStart=>exact⟨0,af,rfl,HO,But.refl _ _⟩
 case round =>
  clear HO e1;obtain⟨k,iL,rfl,HM,HA⟩:=hrel
  by_cases hk:k<m
  · have hlen:=HR.o.r4;have hgc:=HM.o.cell k (by simp;omega);have hgf:=HM.o.frozen k;obtain⟨old,hold⟩:∃ o:Nat,(Ys.take k++List.replicate (Ys.length-k) 0).getD k 0=o:=⟨_,rfl⟩;rw[hold] at hgc;obtain⟨y,hy⟩:∃ y:Nat,Ys.getD k 0=y:=⟨_,rfl⟩;have W2:=hid (WN.o wr HA.o k hk);rw[hy] at W2;have HY:=au hy;clear hlen hold hy;go_wp2_with fail;refine W2.o.mono ?_;rintro r w2 ⟨rfl,rfl⟩;go_wp2;go_roundg (gk-1)
    case measure=>omega
    case rel =>
     refine⟨k+1,af,by first | go_num | (congr 1;omega),?_,HA.o.set _ _⟩;rw[<-Rx Ys k (by have:=HR.o.r4;omega),HY.o];exact HM.o.set _ _
  · obtain rfl:k=m:=af
    go_wp2;go_ret;obtain⟨hB1,hg,hYs,hYw,hlen⟩:=HR.o;have hO:=HM.o;rw[hlen,Ab,wZ,List.replicate_zero,qB] at hO;have hN:=Nt.gJ hO (lo:=w.heap.size) af hYw (by unfold maxLen;omega);have e2:nl Ys=Ys.length:=by rw[<-hYs];exact xL _
    rw[e2,<-hYs,aC] at hN;rw[hlen,<-hYs];exact⟨_,rfl,hN,But.below hB1 HA.o hB1.size af⟩
def dh(lo:Nat)(w:World)(r:Ending)(o:Option (Bool×Nat×Int)):Prop :=
 ∃ v,r=.returned (.tuple #[.agg #[.bool (dN o),v,.int .i64 (dE o)],.int .i64 (qx o)])/\Nt lo w v (dX o)
theorem aU{W w1:World}(hb:Below W.heap.size W w1):(∀ b o,b<W.heap.size->w1.cell? ⟨b,o,none⟩=W.cell? ⟨b,o,none⟩)/\(∀ b o,b<W.heap.size->w1.frozen? ⟨b,o,none⟩=W.frozen? ⟨b,o,none⟩) :=
 ⟨fun b o h=>hb.cell (p:=⟨b,o,none⟩) h,fun b o h=>hb.frozen (p:=⟨b,o,none⟩) h⟩
theorem qd(X:Nat):(ws X).length=(bl X+31)/32:=by
 by_cases h:X=0
 · subst h;simp[bB,eY]
 · have h1:=Jt X ((ws X).length-1) _ rfl;have h2:=Jt X (ws X).length _ rfl;have h3:(ws X).length≠0:=fun e=>h ((dA X).1 e);omega
theorem Ry(X:Nat)(h:X≠0):(bl X-lo X+31)/32=(ws (X/2^lo X)).length:=by
 obtain⟨m,_,_,hb⟩:=gX X h;rw[qd];congr 2;omega
theorem oM(g:Nat)(w:World)(x y z:Value):But g w (((w.setCell ⟨g,0,none⟩ x).setCell ⟨g,1,none⟩ y).setCell ⟨g,2,none⟩ z):=(((But.refl g w).set _ _).set _ _).set _ _
theorem laid3{w W1 w2:World}{v:Value}{Y:Nat}(hB:Below w.heap.size w W1)(hs:w.heap.size<W1.heap.size)(hN:Nt W1.heap.size w2 v Y)(hb:Below W1.heap.size W1 w2)(x y z:Value) :
 Nt w.heap.size (((w2.setCell ⟨w.heap.size,0,none⟩ x).setCell ⟨w.heap.size,1,none⟩ y).setCell ⟨w.heap.size,2,none⟩ z) v Y/\Below w.heap.size w (((w2.setCell ⟨w.heap.size,0,none⟩ x).setCell ⟨w.heap.size,1,none⟩ y).setCell ⟨w.heap.size,2,none⟩ z) :=
 ⟨(hN.but (oM _ _ _ _ _) hs).mono af,But.below (hB.trans (hb.mono af)) (oM _ _ _ _ _) (by have:=hb.size;omega) (aB _)⟩
theorem qT{P:Prop}(h:P:=by
 clear hb hl hX h0 hB1 A1 hT1 hT h1 SZ H3 h2 hOD;subst hW1;go_enter Tryz.func192,Tryz.ntmps192;go_wp2_with fail;refine H1.o.mono ?_;rintro r w1 ⟨rfl,rfl⟩;go_wp2_with fail;refine H2.o.mono ?_;rintro r w1 ⟨rfl,rfl⟩;go_wp2;refine aJ (v:=.tuple #[.agg #[.bool false,.slice none 0 0,.int .i64 0],.int .i64 2]) (by simp[results,Tryz.results192,go_sem]) rfl ⟨⟨_,rfl,Nt.nil _ _⟩,HB.o⟩):P:=h
theorem fJ{w:World}{a:Option Addr}{n c:Nat}{xs:List Nat}(h1:Arg w a n c xs)(hT:bO w)(neg:Bool)(e:Int)(he0:-9223372036854775808<=e)(he1:e<=9223372036854775807) :
 Calls Tryz.prog 192 #[.bool neg,.slice a n c,.int .i64 e] w fun r w'=>dh w.heap.size w' r (mkS neg (val xs) e)/\Below w.heap.size w w':=by
 obtain⟨W1,hW1⟩:=ah (w.alloc (.cells #[.bool false,.slice none 0 0,.int .i64 0] 77));have hB1:Below w.heap.size w W1:=by rw[hW1];exact(aG _ _).alloc (aB _) _
 have A1:=h1.below hB1;have hT1:=hT.belows hB1;have hbig:=h1.big;have H1:=hid (kE xs a n c W1.heap.size W1 A1.len A1.cap af A1.wf A1.rd);have H2:=hid (Vn xs a n c W1.heap.size W1 A1.len af A1.wf A1.rd hT1)
 have hbl:bl (val xs)<=32*n:=by
  have:=df xs h1.wf;rw[<-h1.len] at this;exact LF _ _ this
 obtain⟨X,hX⟩:∃ X,val xs=X:=⟨_,rfl⟩;rw[hX] at H1 H2 hbl |-;obtain⟨b,hb⟩:∃ b,bl X=b:=⟨_,rfl⟩;obtain⟨l,hl⟩:∃ l,lo X=l:=⟨_,rfl⟩;rw[hb] at H1 hbl;rw[hl] at H2;unfold mkS;rw[hb,hl]
 have hlb:l<=b:=by
  by_cases h0:X=0
  · subst h0;rw[Ld] at hl;omega
  · obtain⟨m,_,_,hbb⟩:=gX X h0;omega
 have HB:=au hB1;have SZ:W1.heap.size=w.heap.size+1:=by rw[hW1];simp
 by_cases h0:X=0
 · have hb0:b=0:=by rw[<-hb,h0,eY]
   subst hb0;rw[if_pos h0];clear hb hl hX h0 hB1 A1 hT1 hT h1 hlb hbl SZ;subst hW1;go_enter Tryz.func192,Tryz.ntmps192;go_wp2_with fail;refine H1.o.mono ?_;rintro r w1 ⟨rfl,rfl⟩;go_wp2_with fail;refine H2.o.mono ?_;rintro r w1 ⟨rfl,rfl⟩;go_wp2;refine aJ (v:=.tuple #[.agg #[.bool false,.slice none 0 0,.int .i64 0],.int .i64 0]) (by simp[results,Tryz.results192,go_sem]) rfl ⟨⟨_,rfl,Nt.nil _ _⟩,HB.o⟩
 · rw[if_neg h0];have hb0:((b:Int)==0)=false:=by have:=fH X h0;simp;omega
   have hOD:=VN A1 l b hlb af (by rw[hX,<-hb,<-hl];exact Ry X h0);rw[hX] at hOD;have H3:=hid hOD
   by_cases h2:262144<b-l
   · rw[if_pos (.inl h2)];have h2':(262144:Int)<(b:Int)-l:=af
     exact qT
   · have h2':decide ((262144:Int)<(b:Int)-l)=false:=decide_eq_false af
     by_cases h3:1048576-(l:Int)<e
     · rw[if_pos (.inr (.inl h3))];exact qT
     · have h3':decide (1048576-(l:Int)<e)=false:=decide_eq_false h3
       by_cases h4:e < -1048576-(l:Int)
       · rw[if_pos (.inr (.inr h4))];exact qT
       · have h4':decide (e < -1048576-(l:Int))=false:=decide_eq_false h4;rw[if_neg af];obtain⟨Y,hY⟩:∃ Y,X/2^l=Y:=⟨_,rfl⟩;rw[hY] at H3 |-;have hs:(ws Y).length<=35184372088832:=by rw[<-hY,<-hl,<-Ry X h0];omega
         have h5:e+l<=1048576:=af
         have h6:-1048576<=e+l:=af
         clear hb hl hX h0 hB1 A1 hT1 hT h1 hOD h2 h3 h4;subst hW1;go_enter Tryz.func192,Tryz.ntmps192;go_wp2_with fail;refine H1.o.mono ?_;rintro r w1 ⟨rfl,rfl⟩;go_wp2_with fail;refine H2.o.mono ?_;rintro r w1 ⟨rfl,rfl⟩;go_wp2_with fail;refine H3.o.mono ?_;rintro r w2 ⟨v,rfl,hN,hb⟩;obtain⟨a2,c2,rfl,_⟩:=hN.arg hs;obtain⟨hc,hf⟩:=aU hb;have HN:=(aT hN hb);have hz:=hb.size;clear hN hb;go_wp2;obtain⟨q1,q2⟩:=laid3 HB.o aL HN.o.1 HN.o.2 (.bool neg) (.slice a2 (ws Y).length c2) (.int .i64 (e+l));exact aJ (v:=.tuple #[.agg #[.bool neg,.slice a2 (ws Y).length c2,.int .i64 (e+l)],.int .i64 0]) (by simp[results,Tryz.results192,go_sem,hc]) rfl ⟨⟨_,rfl,q1⟩,q2⟩
theorem But.qR{g:Nat}(w:World)(i:Nat)(u:Value):But g w (w.setCell ⟨g,i,none⟩ u):=(But.refl g w).set _ _
theorem Nt.qR{lo:Nat}{w:World}{v:Value}{X:Nat}(h:Nt lo w v X)(b i:Nat)(u:Value)(hb:b<lo):Nt lo (w.setCell ⟨b,i,none⟩ u) v X:=h.but (But.qR w i u) hb
theorem Nt.Zr{lo:Nat}{w:World}{v:Value}{X:Nat}(h:Nt lo w v X)(o:Obj):Nt lo (w.alloc o) v X:=h.below (ag w o)
theorem Below.qR{lo:Nat}{w0 w:World}(h:Below lo w0 w)(b i:Nat)(u:Value)(hb:lo<=b)(hs:lo<=w.heap.size):Below lo w0 (w.setCell ⟨b,i,none⟩ u):=But.below h (But.qR w i u) hs hb
structure Fin (lo m:Nat) (w0 w:World) (v:Value) (X:Nat):Prop where
 nt:Nt m w v X
 aD:Below lo w0 w
 size:lo<=w.heap.size
theorem Fin.set{lo m:Nat}{w0 w:World}{v:Value}{X:Nat}(H:Fin lo m w0 w v X)(b i:Nat)(u:Value)(h1:lo<=b)(h2:b<m):Fin lo m w0 (w.setCell ⟨b,i,none⟩ u) v X :=
 ⟨H.nt.qR b i u h2,Below.qR H.aD b i u h1 H.size,by simpa [World.setCell] using H.size⟩
theorem Fin.alloc{lo m:Nat}{w0 w:World}{v:Value}{X:Nat}(H:Fin lo m w0 w v X)(o:Obj):Fin lo m w0 (w.alloc o) v X :=
 ⟨H.nt.Zr o,H.aD.alloc H.size o,by have:=H.size;simp;omega⟩
theorem Fin.of{lo:Nat}{w0 W1 w2:World}{v:Value}{X:Nat}(k:Nat)(hB:Below lo w0 W1)(hk:W1.heap.size=lo+k)(hN:Nt W1.heap.size w2 v X)(hb:Below W1.heap.size W1 w2):Fin lo (lo+k) w0 w2 v X :=
 ⟨hk ▸ hN,hB.trans (hb.mono af),by have:=hb.size;omega⟩
theorem Fin.qy{lo m:Nat}{w0 w:World}{n:Bool}{v:Value}{X:Nat}{e:Int}{k:Value}(H:Fin lo m w0 w v X)(h:lo<=m) :
 (∃ v',Ending.returned (.tuple #[.agg #[.bool n,v,.int .i64 e],k])=.returned (.tuple #[.agg #[.bool n,v',.int .i64 e],k])/\Nt lo w v' X)/\Below lo w0 w:=⟨⟨v,rfl,H.nt.mono h⟩,H.aD⟩
def CX(x:Nat)(n:Bool)(c e:Int)(f:Nat):Prop:=∀ w:World,Calls Tryz.prog 203 #[.float .f64 x] w fun r w'=>r=.returned (.agg #[.bool n,.int .i64 c,.int .i64 e,.int .u64 (f:Nat)])/\Below w.heap.size w w'
def Th(lo:Nat)(w:World)(v:Value)(k:Nat)(T:Int):Prop :=
 ∃ ng a n c p xs,(∀ ad:Addr,a=some ad->lo<=ad.block)/\v=.agg #[.int .i64 (k:Nat),.bool ng,.slice a n c,.int .i64 ((p:Nat):Int)]/\Arg w a n c xs/\p+32*n<=4256/\kY ng (val xs*2^p)=T
theorem Th.plain(lo:Nat)(w:World)(k:Nat):Th lo w (.agg #[.int .i64 (k:Nat),.bool false,.slice none 0 0,.int .i64 0]) k 0 :=
 ⟨false,none,0,0,0,[],fun _ e=>(by cases e),rfl,⟨rfl,aB _,aA,Wf.nil,Rd.nil _ _ _,fun _=>rfl⟩,aA,by simp[kY,val]⟩
theorem FI{w:World}{g T:Nat}{a b c d v0 v1 v2 v3:Value}(h:Bl w g T [a,b,c,d]):Bl ((((w.setCell ⟨g,0,none⟩ v0).setCell ⟨g,1,none⟩ v1).setCell ⟨g,2,none⟩ v2).setCell ⟨g,3,none⟩ v3) g T [v0,v1,v2,v3] :=
 (((h.set 0 v0).set 1 v1).set 2 v2).set 3 v3
theorem Nt.Rz{lo g:Nat}{w w':World}{v:Value}{X:Nat}(h:Nt lo w v X)(hb:But g w w')(hg:g<lo):Nt lo w' v X:=by
 refine⟨h.1,?_⟩;rcases h.2 with hn|⟨g',cap,cur,rfl,hlo,hgc,rest⟩
 · exact .inl hn
 · exact .inr ⟨g',cap,cur,rfl,hlo,(hb.block g' (fG.1 hgc).1 af).trans hgc,rest⟩
theorem Zt{w:World}{v1 v2:Value}{X Y V lo1 lo2:Nat}(N1:Nt lo1 w v1 X)(N2:Nt lo2 w v2 Y)(s1:(ws X).length<=1000)(s2:(ws Y).length<=1000)(e:jD X Y=(V,0)) :
 Calls Tryz.prog 244 #[v1,v2] w fun r w'=>∃ v,r=.returned (.tuple #[v,.int .i64 0])/\Nt w.heap.size w' v V/\Below w.heap.size w w':=by
 obtain⟨a,c,rfl,A1⟩:=N1.arg af;obtain⟨b,d,rfl,A2⟩:=N2.arg af;exact Lp A1 A2 (by rw[aC,aC];exact e)
theorem Bl.four{w:World}{g T:Nat}{a b c d:Value}(h:Bl w g T [a,b,c,d]):w.cell? ⟨g,0,none⟩=some a/\w.cell? ⟨g,1,none⟩=some b/\w.cell? ⟨g,2,none⟩=some c/\w.cell? ⟨g,3,none⟩=some d :=
 ⟨h.cell 0 _ rfl,h.cell 1 _ rfl,h.cell 2 _ rfl,h.cell 3 _ rfl⟩
theorem iX{B:Nat}{a w:World}{g:Nat}{v0 v1 v2 v3:Value}(h:Below B a w)(hB:B<=w.heap.size)(hg:B<=g):Below B a ((((w.setCell ⟨g,0,none⟩ v0).setCell ⟨g,1,none⟩ v1).setCell ⟨g,2,none⟩ v2).setCell ⟨g,3,none⟩ v3) :=
 But.below h (((((But.refl g w).set 0 v0).set 1 v1).set 2 v2).set 3 v3) hB hg
theorem Ju(f1 f2:Nat)(hf1:f1<9007199254740992)(hf2:f2<9007199254740992):jD f1 f2=(f1*f2,0)/\(ws (f1*f2)).length<=4:=by
 have h1:f1*f2<pw 4:=by
  have:f1*f2<=9007199254740992*9007199254740992:=mo af af;have e:pw 4=340282366920938463463374607431768211456:=aA
  omega
 have e4:pw 2=18446744073709551616:=aA
 have g1:=lS f1 2 af;have g2:=lS f2 2 af;have g3:=lS (f1*f2) 4 h1;refine⟨?_,(cO _ _).2 h1⟩;unfold jD;rw[if_neg (by rw[oK,oK];omega),if_neg (by rw[oK];omega)]
def pk(hi lo:Int)(ng:Bool):Nat:=if hi=4\/hi=3/\lo=0 then 1 else if hi=3 then(if ng then 3 else 2) else if lo=0 then(if ng then 4 else 5) else 0
def Yx(hi lo:Int)(ng:Bool)(f1 f2:Nat)(e:Int):Int:=if pk hi lo ng=0 then kY ng (f1*f2*2^(e+2148).toNat) else 0
theorem oN{hi lo:Int}{ng:Bool}{f1 f2:Nat}{e:Int}(h:pk hi lo ng≠0):Yx hi lo ng f1 f2 e=0:=by unfold Yx;rw[if_neg h]
theorem LM{hi lo:Int}{ng:Bool}{f1 f2:Nat}{e:Int}(h:pk hi lo ng=0):Yx hi lo ng f1 f2 e=kY ng (f1*f2*2^(e+2148).toNat):=by unfold Yx;rw[if_pos h]
theorem yW{P:Prop}(h:P:=by
 rw[oN (by rw[hk];decide),hk];exact⟨_,rfl,Th.plain _ _ _,qb⟩):P:=h
theorem FJ (x y:Nat) (n1 n2:Bool) (c1 c2 x1 x2:Int) (f1 f2:Nat) (w:World) (H1:CX x n1 c1 x1 f1) (H2:CX y n2 c2 x2 f2)
 (hx1:-1074<=x1/\x1<=971) (hx2:-1074<=x2/\x2<=971) (hf1:f1<9007199254740992) (hf2:f2<9007199254740992) :
 Calls Tryz.prog 200 #[.float .f64 x,.float .f64 y] w fun r w'=>∃ v,r=.returned v /\
  Th w.heap.size w' v (pk (max c1 c2) (min c1 c2) (!n1==n2)) (Yx (max c1 c2) (min c1 c2) (!n1==n2) f1 f2 (x1+x2))/\Below w.heap.size w w':=by
 have H1:=hid H1;have H2:=hid H2;go_enter Tryz.func200,Tryz.ntmps200;go_wp2_with fail;refine dI (H1.o _) ?_;rintro r w1 ⟨rfl,hb1⟩;have B1:=au hb1;clear hb1;go_wp2_with fail;refine dI (H2.o _) ?_;rintro r w2 ⟨rfl,hb2⟩;have B2:=au hb2;clear hb2;go_wp2
 go_region
 obtain⟨w4,hw4⟩:=ah (((w2.alloc (Obj.cells #[Value.bool n1,Value.int IntKind.i64 c1,Value.int IntKind.i64 x1,Value.int IntKind.u64 (f1:Nat)] 222)).alloc (Obj.cells #[Value.bool n2,Value.int IntKind.i64 c2,Value.int IntKind.i64 x2,Value.int IntKind.u64 (f2:Nat)] 222)).drew);rw[<-hw4]
 have H4:Aside (Bl w4 w.heap.size 155 [Value.int .i64 0,Value.bool false,Value.slice none 0 0,Value.int .i64 0]/\Bl w4 w2.heap.size 222 [Value.bool n1,Value.int IntKind.i64 c1,Value.int IntKind.i64 x1,Value.int IntKind.u64 (f1:Nat)]/\Bl w4 (w2.heap.size+1) 222 [Value.bool n2,Value.int IntKind.i64 c2,Value.int IntKind.i64 x2,Value.int IntKind.u64 (f2:Nat)]/\Below w.heap.size w w4/\w.heap.size<w2.heap.size/\w4.heap.size=w2.heap.size+2):=by
  subst hw4;have z0:=Bl.new w 155 [Value.int .i64 0,Value.bool false,Value.slice none 0 0,Value.int .i64 0];have s0:w.heap.size<w1.heap.size:=by have:=B1.o.size;simp at this;omega
  have z1:=z0.below B1.o aL;have z2:=z1.below B2.o s0;have s2:=B2.o.size;refine⟨((z2.alloc _).alloc _).drew,((Bl.new w2 222 [_,_,_,_]).alloc _).drew,(Bl.new' _ 222 _ [_,_,_,_] aL).drew,?_,af,aL⟩;refine xK ?_;refine((((ak w _).trans (B1.o.mono aL)).trans (B2.o.mono af)).trans ((ak _ _).mono af)).trans ((ak _ _).mono (by simp;omega))
 clear hw4;obtain⟨ng,hng⟩:=ah ((!n1==n2));obtain⟨hi,hhi⟩:=ah (max c1 c2);obtain⟨lo,hlo⟩:=ah (min c1 c2);rw[<-hng,<-hhi,<-hlo];have HG:Aside (ng=(!n1==n2)/\hi=max c1 c2/\lo=min c1 c2):=⟨hng,hhi,hlo⟩;clear hng hhi hlo;have hne:w.heap.size≠w2.heap.size:=kz H4.o.r4.1;have hne2:w.heap.size≠w2.heap.size+1:=by have:=H4.o.r4.1;omega
 have z0:=H4.o.1.cell 0 _ rfl;have z1:=H4.o.1.cell 1 _ rfl;have z2:=H4.o.1.cell 2 _ rfl;have z3:=H4.o.1.cell 3 _ rfl;have g0:=H4.o.1.frozen 0;have g1:=H4.o.1.frozen 1;have g2:=H4.o.1.frozen 2;have g3:=H4.o.1.frozen 3
 by_cases hodd:hi=4
 · subst hodd;go_wp2;obtain⟨w5,mF⟩:=ah (((((w4.setCell ⟨w.heap.size,0,none⟩ (.int .i64 1)).setCell ⟨w.heap.size,1,none⟩ (.bool false)).setCell ⟨w.heap.size,2,none⟩ (.slice none 0 0)).setCell ⟨w.heap.size,3,none⟩ (.int .i64 0)));rw[<-mF];have q:Bl w5 w.heap.size 155 [.int .i64 1,.bool false,.slice none 0 0,.int .i64 0]:=by rw[mF];exact FI H4.o.1
   have qb:Below w.heap.size w w5:=by rw[mF];exact iX H4.o.r3.1 H4.o.r3.1.size (aB _)
   skip;clear mF;obtain⟨q0,q1,q2,q3⟩:=q.four;refine aJ (v:=.agg #[.int .i64 1,.bool false,.slice none 0 0,.int .i64 0]) (by simp[results,Tryz.results200,go_sem,q0,q1,q2,q3]) rfl ?_;rw[<-HG.o.1,<-HG.o.2.1,<-HG.o.r2];have hk:pk 4 lo ng=1:=by unfold pk;rw[if_pos (Or.inl rfl)]
   exact yW
 by_cases RA:hi=3
 · subst RA
   by_cases hz:lo=0
   · subst hz;go_wp2;obtain⟨w5,mF⟩:=ah (((((w4.setCell ⟨w.heap.size,0,none⟩ (.int .i64 1)).setCell ⟨w.heap.size,1,none⟩ (.bool false)).setCell ⟨w.heap.size,2,none⟩ (.slice none 0 0)).setCell ⟨w.heap.size,3,none⟩ (.int .i64 0)));rw[<-mF];have q:Bl w5 w.heap.size 155 [.int .i64 1,.bool false,.slice none 0 0,.int .i64 0]:=by rw[mF];exact FI H4.o.1
     have qb:Below w.heap.size w w5:=by rw[mF];exact iX H4.o.r3.1 H4.o.r3.1.size (aB _)
     skip;clear mF;obtain⟨q0,q1,q2,q3⟩:=q.four;refine aJ (v:=.agg #[.int .i64 1,.bool false,.slice none 0 0,.int .i64 0]) (by simp[results,Tryz.results200,go_sem,q0,q1,q2,q3]) rfl ?_;rw[<-HG.o.1,<-HG.o.2.1,<-HG.o.r2];have hk:pk 3 0 ng=1:=by unfold pk;rw[if_pos (Or.inr ⟨rfl,rfl⟩)]
     exact yW
   · have hz':(lo==0)=false:=by simpa using hz
     cases ng
     · go_wp2_with (go_at_call 249;refine(nk _ _ _ _).mono ?_;rintro r u ⟨rfl,rfl⟩)
       obtain⟨w5,mF⟩:=ah (((((u.setCell ⟨w.heap.size,0,none⟩ (.int .i64 2)).setCell ⟨w.heap.size,1,none⟩ (.bool false)).setCell ⟨w.heap.size,2,none⟩ (.slice none 0 0)).setCell ⟨w.heap.size,3,none⟩ (.int .i64 0)));rw[<-mF];have q:Bl w5 w.heap.size 155 [.int .i64 2,.bool false,.slice none 0 0,.int .i64 0]:=by rw[mF];exact FI H4.o.1
       have qb:Below w.heap.size w w5:=by rw[mF];exact iX H4.o.r3.1 H4.o.r3.1.size (aB _)
       skip;clear mF;obtain⟨q0,q1,q2,q3⟩:=q.four;refine aJ (v:=.agg #[.int .i64 2,.bool false,.slice none 0 0,.int .i64 0]) (by simp[results,Tryz.results200,go_sem,q0,q1,q2,q3]) rfl ?_;rw[<-HG.o.1,<-HG.o.2.1,<-HG.o.r2];have hk:pk 3 lo false=2:=by unfold pk;rw[if_neg af,if_pos rfl];rfl
       exact yW
     · go_wp2_with (go_at_call 249;refine(nk _ _ _ _).mono ?_;rintro r u ⟨rfl,rfl⟩)
       obtain⟨w5,mF⟩:=ah (((((u.setCell ⟨w.heap.size,0,none⟩ (.int .i64 3)).setCell ⟨w.heap.size,1,none⟩ (.bool false)).setCell ⟨w.heap.size,2,none⟩ (.slice none 0 0)).setCell ⟨w.heap.size,3,none⟩ (.int .i64 0)));rw[<-mF];have q:Bl w5 w.heap.size 155 [.int .i64 3,.bool false,.slice none 0 0,.int .i64 0]:=by rw[mF];exact FI H4.o.1
       have qb:Below w.heap.size w w5:=by rw[mF];exact iX H4.o.r3.1 H4.o.r3.1.size (aB _)
       skip;clear mF;obtain⟨q0,q1,q2,q3⟩:=q.four;refine aJ (v:=.agg #[.int .i64 3,.bool false,.slice none 0 0,.int .i64 0]) (by simp[results,Tryz.results200,go_sem,q0,q1,q2,q3]) rfl ?_;rw[<-HG.o.1,<-HG.o.2.1,<-HG.o.r2];have hk:pk 3 lo true=3:=by unfold pk;rw[if_neg af,if_pos rfl];rfl
       exact yW
 have ho':(hi==4)=false:=by simpa using hodd
 have hi':(hi==3)=false:=by simpa using RA
 by_cases hz:lo=0
 · subst hz
   cases ng
   · go_wp2_with (go_at_call 249;refine(nk _ _ _ _).mono ?_;rintro r u ⟨rfl,rfl⟩)
     obtain⟨w5,mF⟩:=ah (((((u.setCell ⟨w.heap.size,0,none⟩ (.int .i64 5)).setCell ⟨w.heap.size,1,none⟩ (.bool false)).setCell ⟨w.heap.size,2,none⟩ (.slice none 0 0)).setCell ⟨w.heap.size,3,none⟩ (.int .i64 0)));rw[<-mF];have q:Bl w5 w.heap.size 155 [.int .i64 5,.bool false,.slice none 0 0,.int .i64 0]:=by rw[mF];exact FI H4.o.1
     have qb:Below w.heap.size w w5:=by rw[mF];exact iX H4.o.r3.1 H4.o.r3.1.size (aB _)
     skip;clear mF;obtain⟨q0,q1,q2,q3⟩:=q.four;refine aJ (v:=.agg #[.int .i64 5,.bool false,.slice none 0 0,.int .i64 0]) (by simp[results,Tryz.results200,go_sem,q0,q1,q2,q3]) rfl ?_;rw[<-HG.o.1,<-HG.o.2.1,<-HG.o.r2];have hk:pk hi 0 false=5:=by unfold pk;rw[if_neg af,if_neg af,if_pos rfl];rfl
     exact yW
   · go_wp2_with (go_at_call 249;refine(nk _ _ _ _).mono ?_;rintro r u ⟨rfl,rfl⟩)
     obtain⟨w5,mF⟩:=ah (((((u.setCell ⟨w.heap.size,0,none⟩ (.int .i64 4)).setCell ⟨w.heap.size,1,none⟩ (.bool false)).setCell ⟨w.heap.size,2,none⟩ (.slice none 0 0)).setCell ⟨w.heap.size,3,none⟩ (.int .i64 0)));rw[<-mF];have q:Bl w5 w.heap.size 155 [.int .i64 4,.bool false,.slice none 0 0,.int .i64 0]:=by rw[mF];exact FI H4.o.1
     have qb:Below w.heap.size w w5:=by rw[mF];exact iX H4.o.r3.1 H4.o.r3.1.size (aB _)
     skip;clear mF;obtain⟨q0,q1,q2,q3⟩:=q.four;refine aJ (v:=.agg #[.int .i64 4,.bool false,.slice none 0 0,.int .i64 0]) (by simp[results,Tryz.results200,go_sem,q0,q1,q2,q3]) rfl ?_;rw[<-HG.o.1,<-HG.o.2.1,<-HG.o.r2];have hk:pk hi 0 true=4:=by unfold pk;rw[if_neg af,if_neg af,if_pos rfl];rfl
     exact yW
 have hz':(lo==0)=false:=by simpa using hz
 have hk0:pk hi lo ng=0:=by unfold pk;rw[if_neg af,if_neg af,if_neg af]
 have HK:=au hk0;clear hk0;have kS:Aside (w4.drew.cell? ⟨w2.heap.size,3,none⟩=some (.int .u64 (f1:Nat))/\w4.drew.cell? ⟨w2.heap.size+1,3,none⟩=some (.int .u64 (f2:Nat))):=⟨H4.o.2.1.drew.four.2.2.2,H4.o.r2.1.drew.four.2.2.2⟩;have BB:Aside (Below w4.heap.size w4 w4.drew):=(aG _ _).drew;have O1:=hid (fun u:World=>ni f1 u af);have O2:=hid (fun u:World=>ni f2 u af);have MS:=au (Ju f1 f2 hf1 hf2)
 have hpw2:Aside ((ws f1).length<=1000/\(ws f2).length<=1000):=by
  have e:pw 2=18446744073709551616:=aA
  exact⟨aV ((cO f1 2).2 af) aA,aV ((cO f2 2).2 af) aA⟩
 clear hodd RA hz z0 z1 z2 z3 g0 g1 g2 g3;go_wp2
 go_region_held (fun w'=>w'.cell? ⟨w2.heap.size,3,none⟩=some (.int .u64 (f1:Nat))/\w'.cell? ⟨w2.heap.size+1,3,none⟩=some (.int .u64 (f2:Nat))) (with_reducible exact kS.o) (first
  | (go_at_call 193
     with_reducible refine(O1.o _).mono ?_
     rintro r u ⟨v1,rfl,N1,hb⟩
     try have N2:=au (N2.o.below hb)
     have BB:=au (BB.o.trans (hb.mono BB.o.size));have kS:=aT (H4.o.2.1.below BB.o (by have:=H4.o.r5;omega)).four.2.2.2 (H4.o.r2.1.below BB.o (by have:=H4.o.r5;omega)).four.2.2.2;have N1:=au N1
     clear hb)
  | (go_at_call 193
     with_reducible refine(O2.o _).mono ?_
     rintro r u ⟨v2,rfl,N2,hb⟩
     try have N1:=au (N1.o.below hb)
     have BB:=au (BB.o.trans (hb.mono BB.o.size));have kS:=aT (H4.o.2.1.below BB.o (by have:=H4.o.r5;omega)).four.2.2.2 (H4.o.r2.1.below BB.o (by have:=H4.o.r5;omega)).four.2.2.2;have N2:=au N2
     clear hb)
  | (go_at_call 244
     with_reducible refine(Zt N1.o N2.o hpw2.o.1 hpw2.o.2 MS.o.1).mono ?_
     rintro r u ⟨v,rfl,NV,hb⟩;have NV:=aT NV BB.o.size;have BB:=au (BB.o.trans (hb.mono BB.o.size));have kS:=aT (H4.o.2.1.below BB.o (by have:=H4.o.r5;omega)).four.2.2.2 (H4.o.r2.1.below BB.o (by have:=H4.o.r5;omega)).four.2.2.2
     clear hb))
 all_goals (
  obtain⟨a,c,rfl,_⟩:=NV.o.1.arg (aV MS.o.2 aA);have Z:=au (H4.o.1.below BB.o (by have:=H4.o.r4.1;have:=H4.o.r5;omega));obtain⟨z0,z1,z2,z3⟩:=Z.o.four;have g0:=Z.o.frozen 0;have g1:=Z.o.frozen 1;have g2:=Z.o.frozen 2;have g3:=Z.o.frozen 3;have p2:=(H4.o.2.1.below BB.o (by have:=H4.o.r5;omega)).four.2.2.1;have r2:=(H4.o.r2.1.below BB.o (by have:=H4.o.r5;omega)).four.2.2.1;have BW:=au (H4.o.r3.1.trans (BB.o.mono H4.o.r3.1.size));clear kS BB N1 N2;go_wp2;obtain⟨w5,mF⟩:=ah (((((u.setCell ⟨w.heap.size,0,none⟩ (.int .i64 0)).setCell ⟨w.heap.size,1,none⟩ (.bool ng)).setCell ⟨w.heap.size,2,none⟩ (.slice a (ws (f1*f2)).length c)).setCell ⟨w.heap.size,3,none⟩ (.int .i64 (x1+x2+2148))));rw[<-mF];have q:Bl w5 w.heap.size 155 [.int .i64 0,.bool ng,.slice a (ws (f1*f2)).length c,.int .i64 (x1+x2+2148)]:=by rw[mF];exact FI Z.o
  have qb:Below w.heap.size w w5:=by rw[mF];exact iX BW.o BW.o.size (aB _)
  have qn:=NV.o.1.Rz (w':=w5) (g:=w.heap.size) (by rw[mF];exact((((But.refl _ u).set 0 _).set 1 _).set 2 _).set 3 _) (by have:=NV.o.2;have:=H4.o.r4.1;have:=H4.o.r5;omega);clear mF;obtain⟨q0,q1,q2,q3⟩:=q.four;refine aJ (v:=.agg #[.int .i64 0,.bool ng,.slice a (ws (f1*f2)).length c,.int .i64 (x1+x2+2148)]) (by simp[results,Tryz.results200,go_sem,q0,q1,q2,q3]) rfl ?_;rw[<-HG.o.1,<-HG.o.2.1,<-HG.o.r2,LM HK.o,HK.o];obtain⟨a',c',e,AV⟩:=qn.arg (aV MS.o.2 aA)
  cases e
  refine⟨_,rfl,⟨ng,a,_,c,(x1+x2+2148).toNat,ws (f1*f2),fun ad e=>?_,?_,AV,?_,?_⟩,qb⟩
  · subst e;have h1:=(qn.lt ad.block rfl).1;have:=NV.o.2;have:=H4.o.r4.1;have:=H4.o.r5;omega
  · rw[Int.toNat_of_nonneg af];rfl
  · have:=MS.o.2;omega
  · rw[aC])
theorem LQ(s:Bool)(e f:Nat)(he:e<2048)(hf:f<4503599627370496):CX (B.bw s e f) (B.ng s e f) (B.cls e f) (B.xp e) (B.fr e f).toNat:=fun w =>
 (B.mE s e f he hf w).mono fun r w' ⟨h1,h2⟩=>⟨by rw[h1,Int.toNat_of_nonneg];unfold B.fr;split <;> (try split) <;> omega,h2⟩
theorem mG(e:Nat)(he:e<2048):-1074<=B.xp e/\B.xp e<=971:=by unfold B.xp;split <;> (try split) <;> omega
theorem mH(e f:Nat)(hf:f<4503599627370496):(B.fr e f).toNat<9007199254740992:=by unfold B.fr;split <;> (try split) <;> omega
def kG(w:World)(g:Nat)(V:Int)(s:Sp):Prop:=∃ L:List Nat,L.length=133/\Wf L/\(val L:Int)=V%(PB:Int)/\-(HB:Int)<V/\V<(HB:Int)/\Ac w g L s
theorem kG.lt{w:World}{g:Nat}{V:Int}{s:Sp}(h:kG w g V s):g<w.heap.size:=by obtain⟨L,_,_,_,_,_,h⟩:=h;exact h.lt
theorem kG.below{w w':World}{g B:Nat}{V:Int}{s:Sp}(h:kG w g V s)(hb:Below B w w')(hg:g<B):kG w' g V s:=by
 obtain⟨L,h1,h2,h3,h4,h5,h6⟩:=h;exact⟨L,h1,h2,h3,h4,h5,h6.below hb hg⟩
theorem kG.aD{w w':World}{g:Nat}{V:Int}{s:Sp}(h:kG w g V s)(hb:Below w.heap.size w w'):kG w' g V s:=h.below hb h.lt
theorem LU:PB=262144*HB:=by rw[CQ,Rj];omega
theorem VO(N:Nat)(V:Int)(h:(N:Int)=V%(PB:Int))(h0:-(2*HB:Int)<V)(h1:V<2*(HB:Int)):NP N=!(decide (-(HB:Int)<V/\V<(HB:Int))):=by
 have e:=LU;have hp:=oJ;unfold NP
 by_cases hv:0<=V
 · rw[uT hv af] at h
   by_cases hc:V<(HB:Int)
   · rw[decide_eq_false af,decide_eq_true af];rfl
   · rw[decide_eq_true af,decide_eq_false af];rfl
 · have h2:V%(PB:Int)=V+PB:=by
    rw[<-Int.add_emod_right,uT af af]
   rw[h2] at h
   by_cases hc:-(HB:Int)<V
   · rw[decide_eq_false af,decide_eq_true af];rfl
   · rw[decide_eq_true af,decide_eq_false af];rfl
def Did(g:Nat)(w:World)(X:Int×Int×Sp)(r:Ending)(w':World):Prop:=r=.returned (.int .i64 X.1)/\kG w' g X.2.1 X.2.2/\But g w w'
def AJ(V:Int)(s:Sp)(T:Int)(t:Sp):Int×Int×Sp:=if -(HB:Int)<V+T/\V+T<(HB:Int) then(0,V+T,t) else(2,V,s)
def zO(V:Int)(s:Sp)(k:Nat)(T:Int):Int×Int×Sp:=if s.a=1099511627776 then(2,V,s) else AJ V s T (s.cnt k 1)
theorem Jv (g:Nat) (L M:List Nat) (V T:Int) (s t:Sp) (w:World) (hA:Ac w g L s) (hl:L.length=133) (hL:Wf L) (hv:(val L:Int)=V%(PB:Int)) (h0:-(HB:Int)<V) (h1:V<(HB:Int)) (hM:Wf M) (hm:M.length=133)
 (hvM:(val M:Int)=(V+T)%(PB:Int)) (hT0:-(HB:Int)<T) (hT1:T<(HB:Int)) :
 Calls Tryz.prog 197 #[.pointer (some ⟨g,0,none⟩),.agg (M.map U).toArray,t.agg] w (Did g w (AJ V s T t)):=by
 have hb:=VO (val M) (V+T) hvM af af
 by_cases hc:-(HB:Int)<V+T/\V+T<(HB:Int)
 · rw[decide_eq_true hc] at hb;refine(Jm g L M s t w hA hl hM hm hb).mono fun r w' ⟨a,b,c⟩=>?_;unfold AJ;rw[if_pos hc];exact⟨a,⟨M,hm,hM,hvM,hc.1,hc.2,b⟩,c⟩
 · rw[decide_eq_false hc] at hb;refine(N9 g L M s t w hA hM hm hb).mono fun r w' ⟨a,b⟩=>?_;unfold AJ;rw[if_neg hc];exact⟨a,⟨L,hl,hL,hv,h0,h1,hA.below b hA.lt⟩,(But.refl g w).tX b⟩
end
end Go.Proofs.YtaejmlkaefnbhaaGreatDoor
