import Ieee.Arith
import Derived.WalkKit
import Derived.Test.YtblkpkgebigojaaGreatDoorProg
import Derived.WalkLawsBesides
import Derived.WalkSpells
import Derived.Laws.Externs
import Derived.Test.YtblkpkgebigojaaGreatDoorW24x
import Derived.BigQuiet
import Derived.ArgAppend
import Derived.Maps.AppendAt
import Derived.WalkMore
import Derived.Test.YtblkpkgebigojaaGreatDoorW14x
import Derived.ProofKit
import Derived.OpenShut
import Derived.ChangeOld
import Derived.SizedLaws
set_option linter.unusedVariables false
set_option linter.unusedSimpArgs false
set_option maxHeartbeats 16000000
set_option maxRecDepth 20000
namespace Go.Proofs.YtblkpkgebigojaaGreatDoor
namespace B
open Ieee
def val (f:Format) (r:Nat):Nat:=if r<f.binade then r else (f.binade+r%f.binade)*2^(r/f.binade-1)
theorem jy (f:Format):0<f.binade:=bK _
theorem val_succ (f:Format) (r:Nat):val f (r+1)=val f r+2^(r/f.binade-1):=by
 have hb:=jy f;unfold val;generalize hB:f.binade=B at *
 by_cases h:r<B
 · rw [if_pos h,ic h]
   by_cases h1:r+1<B
   · rw [if_pos h1]
   · have e:r+1=B:=ae
     rw [if_neg h1,e,Nat.mod_self,Nat.div_self hb];simp
 · have h1:¬ r+1<B:=ae
   rw [if_neg h,if_neg h1]
   have hq:1<=r/B:=by
    have:=Nat.div_le_div_right (c:=B) (yD h);rw [Nat.div_self hb] at this;exact this
   have hm:=jl r hb;have hd:=oJ r B;generalize r/B=q at *;generalize hmm:r%B=m at *;obtain ⟨q,rfl⟩:∃ k,q=k+1:=⟨q-1,ae⟩
   by_cases h2:m+1<B
   · have e:r+1=B*(q+1)+(m+1):=ae
     have e1:(r+1)%B=m+1:=by rw [e,Nat.mul_add_mod,jk h2]
     have e2:(r+1)/B=q+1:=by rw [e,Nat.mul_add_div hb,ic h2]
     rw [e1,e2,lg,<-mU,fU,iq]
   · have hm1:m+1=B:=ae
     have e:r+1=B*(q+2):=by rw [show q+2=(q+1)+1 from rfl,Nat.mul_succ];omega
     have e1:(r+1)%B=0:=by rw [e,Nat.mul_mod_right]
     have e2:(r+1)/B=q+2:=by rw [e,sj _ hb]
     rw [e1,e2];have:B+m=2*B-1:=ae
     have h3:(B+m)*2^q+2^q=(2*B)*2^q:=by
      rw [<-Nat.succ_mul];congr 1;omega
     show (B+0)*2^(q+1)=(B+m)*2^q+2^q;rw [h3,dS,iw,dh 2 B,aU,dh 2]
theorem sO (f:Format) (r:Nat):val f r<val f (r+1):=by
 rw [val_succ];exact Nat.lt_add_of_pos_right (bK _)
theorem cK (f:Format) {r s:Nat}(h:r<s):val f r<val f s:=by
 induction s with
 | zero=>omega
 | succ s ih =>
   by_cases e:r=s
   · subst e;exact sO f r
   · exact Nat.lt_trans (ih ae) (sO f s)
theorem iA (f:Format) {r s:Nat}:val f r<val f s↔r<s:=by
 constructor
 · intro h
   by_cases e:r<s
   · exact e
   · by_cases e2:r=s
     · subst e2;omega
     · have:=cK f (show s<r by omega);omega
 · exact cK f
theorem val_inj (f:Format) {r s:Nat}(h:val f r=val f s):r=s:=by
 by_cases e:r<s
 · have:=cK f e;omega
 · by_cases e2:s<r
   · have:=cK f e2;omega
   · omega
theorem val_zero (f:Format):val f 0=0:=by
 unfold val;rw [if_pos (jy f)]
def sg (s:Bool) (r:Nat):Int:=if s then -(r:Int) else r
theorem xQ (f:Format) (s t:Bool) (r u:Nat):sg s (val f r)<sg t (val f u)↔sg s r<sg t u:=by
 have h1:=@iA f r u;have h2:=@iA f u r;have z:=val_zero f;have h3:=@iA f 0 r;have h4:=@iA f 0 u
 cases s <;> cases t <;> simp only [sg,if_true,if_false,fw] <;> omega
theorem Jb (s:Bool) (m k:Nat):signed s m k=sg s (m*2^k):=by
 unfold signed sg;rw [yE]
theorem ll (f:Format) (s:Bool) (r:Nat) (hr:r<f.infRung) (hs:f.infRung<f.signWeight) :
 ∃ m:Nat,∃ k:Nat,f.read (f.word s r)=.number s m (f.leastPlace+k)/\m*2^k=val f r:=by
 have e1:(f.word s r/f.signWeight%2==1)=s:=by
  unfold Format.word
  cases s
  · simp only [fw,if_false];rw [ic ae];rfl
  · simp only [if_true];rw [Nat.add_div_left _ ae,ic ae];rfl
 have e2:f.word s r%f.signWeight=r:=by
  unfold Format.word
  cases s
  · simp only [fw,if_false];exact jk ae
  · simp only [if_true];rw [Nat.add_mod_left];exact jk ae
 unfold Format.read;simp only [e1,e2];unfold val
 by_cases h:r<f.binade
 · rw [if_pos h,if_pos h];exact ⟨r,0,aW,aW⟩
 · rw [if_neg h,if_neg h,if_pos hr];exact ⟨_,_,rfl,rfl⟩
theorem qj (f:Format) (s:Bool) (hs:f.infRung<f.signWeight) (hb:f.binade<=f.infRung) :
 f.read (f.word s f.infRung)=.infinity s:=by
 have e1:(f.word s f.infRung/f.signWeight%2==1)=s:=by
  unfold Format.word
  cases s
  · simp only [fw,if_false];rw [ic ae];rfl
  · simp only [if_true];rw [Nat.add_div_left _ ae,ic ae];rfl
 have e2:f.word s f.infRung%f.signWeight=f.infRung:=by
  unfold Format.word
  cases s
  · simp only [fw,if_false];exact jk ae
  · simp only [if_true];rw [Nat.add_mod_left];exact jk ae
 unfold Format.read;simp only [e1,e2];rw [if_neg ae,if_neg ae,if_pos trivial]
theorem Ml (f:Format) (w:Nat) (h:f.infRung<w%f.signWeight) (hb:f.binade<=f.infRung) :
 f.read w=.nan (w/f.signWeight%2==1) (w%f.signWeight-f.infRung):=by
 unfold Format.read;simp only;rw [if_neg ae,if_neg ae,if_neg ae]
theorem uQ (a b c d:Int) (h1:a<b↔c<d) (h2:b<a↔d<c):compare a b=compare c d:=by
 by_cases x:a<b
 · rw [sD.2 x,sD.2 (h1.1 x)]
 · by_cases y:b<a
   · rw [sF.2 y,sF.2 (h2.1 y)]
   · have e1:a=b:=ae
     have e2:c=d:=by
      have n1:=mt h1.2 x;have n2:=mt h2.2 y;omega
     rw [sG.2 e1,sG.2 e2]
theorem Mm (s:Bool) (a k:Nat):sg s (a*k)=sg s a*(k:Int):=by
 unfold sg;cases s <;> simp [Int.neg_mul]
theorem Jc (s t:Bool) (m n j k:Nat) (p:Int) :
 Datum.order (.number s m (p+j)) (.number t n (p+k))=some (compare (sg s (m*2^j)) (sg t (n*2^k))):=by
 unfold Datum.order;simp only [Jb];congr 1;have hb:∃ c:Nat,min (p+(j:Int)) (p+(k:Int))=p+c:=⟨min j k,ae⟩;obtain ⟨c,hc⟩:=hb;have hj:(p+(j:Int)-min (p+(j:Int)) (p+(k:Int))).toNat=j-c:=by rw [hc];omega
 have hk:(p+(k:Int)-min (p+(j:Int)) (p+(k:Int))).toNat=k-c:=by rw [hc];omega
 have cj:c<=j:=ae
 have ck:c<=k:=ae
 rw [hj,hk];have ej:m*2^j=m*2^(j-c)*2^c:=by rw [aU,<-aR,yF cj]
 have ek:n*2^k=n*2^(k-c)*2^c:=by rw [aU,<-aR,yF ck]
 rw [ej,ek,Mm s (m*2^(j-c)),Mm t (n*2^(k-c))];have hp:(0:Int)<((2^c:Nat):Int):=by exact_mod_cast bK c
 refine uQ _ _ _ _ ?_ ?_
 · exact ⟨fun h=>yG h hp,fun h=>yH h (xn hp)⟩
 · exact ⟨fun h=>yG h hp,fun h=>yH h (xn hp)⟩
theorem Eg (f:Format) (hs:f.infRung<f.signWeight) (hb:f.binade<=f.infRung) (s t:Bool) (r u:Nat) (hr:r<=f.infRung) (hu:u<=f.infRung) :
 f.order (f.word s r) (f.word t u)=some (compare (sg s r) (sg t u)):=by
 have hB:=jy f;unfold Format.order
 by_cases r1:r=f.infRung
 · by_cases u1:u=f.infRung
   · subst r1 u1;rw [qj f s hs hb,qj f t hs hb];unfold Datum.order;simp only;congr 1
     cases s <;> cases t <;> simp only [sg,jc,jd,if_true,if_false,fw]
     · rw [sG.2 rfl];rfl
     · rw [sF.2 ae];rfl
     · rw [sD.2 ae];rfl
     · rw [sG.2 rfl];rfl
   · obtain ⟨n,k,e,hv⟩:=ll f t u ae hs;subst r1;rw [qj f s hs hb,e];unfold Datum.order;simp only
     cases s <;> cases t <;> simp only [sg,if_true,if_false,fw] <;>
      first | rw [sF.2 ae] | rw [sD.2 ae]
 · obtain ⟨m,j,e,hv⟩:=ll f s r ae hs
   by_cases u1:u=f.infRung
   · subst u1;rw [qj f t hs hb,e];unfold Datum.order;simp only
     cases s <;> cases t <;> simp only [sg,if_true,if_false,fw] <;>
      first | rw [sF.2 ae] | rw [sD.2 ae]
   · obtain ⟨n,k,e2,hv2⟩:=ll f t u ae hs;rw [e,e2,Jc,hv,hv2];congr 1;exact uQ _ _ _ _ (xQ f s t r u) (xQ f t s u r)
def SA (n g:Nat):Nat:=n/g+(decide (g<2*(n%g)) || (g==2*(n%g)&&n/g%2==1)).toNat
theorem Br (neg:Bool) (n drop:Nat):Toward.even.cut neg n drop=SA n (2^drop):=by
 unfold Toward.cut SA;simp only [yE,iq]
 by_cases h:drop<=n.log2+2
 · rw [iX h]
 · rw [Nat.min_eq_right ae];have hn:n<2^(n.log2+1):=Nat.lt_log2_self;have h1:n<2^(n.log2+2):=by rw [dS];omega
   have h2:2^(n.log2+2)<=2^drop:=fE ae ae;have h3:2*n<2^(n.log2+2):=by rw [dS];omega
   rw [ic h1,jk h1,ic (show n<2^drop by omega),jk (show n<2^drop by omega)];have a1:decide (2^(n.log2+2)<2*n)=false:=by simp;omega
   have a2:decide (2^drop<2*n)=false:=by simp;omega
   simp only [a1,a2,Nat.zero_mod];simp
theorem xR (n g:Nat) (hg:0<g):SA (n*g) g=n:=by
 unfold SA;rw [Nat.mul_div_cancel _ hg,Nat.mul_mod_left];have:decide (g<2*0)=false:=by simp
 have h2:(g==2*0)=false:=by simp;omega
 rw [this,h2];simp
theorem Gv (n:Nat):SA n 1=n:=by
 have:=xR n 1 ae;rwa [dU] at this
theorem wH (f:Format) (neg:Bool) (mag k r:Nat) (hr:r<f.infRung) (h:mag*2^k=val f r) :
 f.nearest neg mag (f.leastPlace+k)=f.word neg r:=by
 unfold Format.nearest
 by_cases hm:mag=0
 · rw [if_pos hm];have:val f r=val f 0:=by rw [val_zero,<-h,hm,dZ]
   rw [val_inj f this]
 · rw [if_neg hm];simp only [Br,yE];have hl:=(Nat.log2_eq_iff hm (k:=mag.log2)).1 rfl;generalize mag.log2=L at *;have hB:f.binade=2^f.fractionBits:=rfl;have hb:=jy f;unfold val at h
   by_cases hlt:r<f.binade
   · rw [if_pos hlt] at h
     have h1:2^(L+k)<2^f.fractionBits:=by
      rw [aR,<-hB];exact iy (gF _ hl.1) ae
     have h2:=(jP (a:=2) ae).1 h1;have e:max (f.leastPlace+(k:Int)+(L:Int)-(f.fractionBits:Int)) f.leastPlace=f.leastPlace:=ae
     rw [e];have e1:(f.leastPlace+(k:Int)-f.leastPlace).toNat=k:=ae
     have e2:(f.leastPlace-(f.leastPlace+(k:Int))).toNat=0:=ae
     have e3:(f.leastPlace-f.leastPlace).toNat=0:=ae
     rw [e1,e2,e3,h,fG,Gv,dZ,dI,iX ae]
   · rw [if_neg hlt] at h
     have hq:1<=r/f.binade:=by
      have:=Nat.div_le_div_right (c:=f.binade) (yD hlt);rw [Nat.div_self hb] at this;exact this
     have hmm:=jl r hb;have hd:=oJ r f.binade;generalize r/f.binade=q at *;generalize r%f.binade=m at *;obtain ⟨q,rfl⟩:∃ j,q=j+1:=⟨q-1,ae⟩;rw [lg] at h
     -- the TS
     have lo1:2^(L+k)<=mag*2^k:=by rw [aR];exact gF _ hl.1
     have hi1:mag*2^k<2^(L+1+k):=by rw [aR];exact fM hl.2 (bK _)
     have lo2:2^(f.fractionBits+q)<=(f.binade+m)*2^q:=by rw [aR];exact gF _ ae
     have hi2:(f.binade+m)*2^q<2^(f.fractionBits+1+q):=by
      rw [aR,dS];exact fM ae (bK _)
     have c1:=(jP (a:=2) ae).1 (show 2^(L+k)<2^(f.fractionBits+1+q) by omega);have c2:=(jP (a:=2) ae).1 (show 2^(f.fractionBits+q)<2^(L+1+k) by omega);have cL:L+k=f.fractionBits+q:=ae
     have e:max (f.leastPlace+(k:Int)+(L:Int)-(f.fractionBits:Int)) f.leastPlace=f.leastPlace+q:=ae
     rw [e];have e3:(f.leastPlace+(q:Int)-f.leastPlace).toNat=q:=ae
     rw [e3]
     have fin:q*f.binade+(f.binade+m)=r:=by
      rw [<-hd,Nat.mul_succ,dh q];omega
     by_cases hk:q<=k
     · have e1:(f.leastPlace+(k:Int)-(f.leastPlace+(q:Int))).toNat=k-q:=ae
       have e2:(f.leastPlace+(q:Int)-(f.leastPlace+(k:Int))).toNat=0:=ae
       have hh:mag*2^(k-q)=f.binade+m:=by
        have:mag*2^(k-q)*2^q=(f.binade+m)*2^q:=by
         rw [aU,<-aR,yF hk];exact h
        exact oU (bK _) this
       rw [e1,e2,hh,fG,Gv,fin,iX ae]
     · have e1:(f.leastPlace+(k:Int)-(f.leastPlace+(q:Int))).toNat=0:=ae
       have e2:(f.leastPlace+(q:Int)-(f.leastPlace+(k:Int))).toNat=q-k:=ae
       have hh:mag=(f.binade+m)*2^(q-k):=by
        have:mag*2^k=(f.binade+m)*2^(q-k)*2^k:=by
         rw [aU,<-aR,yF ae];exact h
        exact oU (bK _) this
       rw [e1,e2,fG,dU,hh,xR _ _ (bK _),fin,iX ae]
end B
namespace B
def bw (s:Bool) (e f:Nat):Nat:=s.toNat*9223372036854775808+e*4503599627370496+f
theorem WB (b:Nat) (hb:b<18446744073709551616):∃ s e f,e<2048/\f<4503599627370496/\b=bw s e f:=by
 refine ⟨decide (9223372036854775808<=b),b%9223372036854775808/4503599627370496,b%4503599627370496,ae,ae,?_⟩;unfold bw
 by_cases h:9223372036854775808<=b
 · rw [decide_eq_true h];simp only [jc];omega
 · rw [decide_eq_false h];simp only [jd];omega
theorem ql (s:Bool) (e f:Nat) (he:e<2048) (hf:f<4503599627370496):bw s e f<18446744073709551616:=by
 unfold bw;cases s <;> simp only [jc,jd] <;> omega
theorem Jd (n:Int) (h0:0<=n) (h1:n<2^63):IntKind.i64.wrap n=n:=by rw [Pw];omega
theorem wraps_u64 (n:Int) (h0:0<=n) (h1:n<2^64):IntKind.u64.wrap n=n:=by
 simp [IntKind.wrap,IntKind.bits,IntKind.signed];omega
theorem Mo (s:Bool) (e f:Nat) (he:e<2048) (hf:f<4503599627370496):bits .and .i64 ((bw s e f:Int)/4503599627370496) 2047=(e:Int):=by
 have hl:=ql s e f he hf;have h:=bits_mask .i64 63 aO Jd 11 aO ((bw s e f:Int)/4503599627370496) ae ae;rw [show ((2:Int)^11-1)=2047 from rfl] at h;rw [h];unfold bw;cases s <;> simp only [jc,jd] <;> omega
theorem PZ (s:Bool) (e f:Nat) (he:e<2048) (hf:f<4503599627370496):bits .and .u64 ((bw s e f:Nat):Int) 4503599627370495=(f:Int):=by
 have hl:=ql s e f he hf;have h:=bits_mask .u64 64 aO wraps_u64 52 aO (bw s e f:Int) ae ae;rw [show ((2:Int)^52-1)=4503599627370495 from rfl] at h;rw [h];unfold bw;cases s <;> simp only [jc,jd] <;> omega
theorem P5 (s:Bool) (e f:Nat) (he:e<2048) (hf:f<4503599627370496):bits .and .u64 ((bw s e f:Int)/9223372036854775808) 1=(s.toNat:Int):=by
 have hl:=ql s e f he hf;have h:=bits_mask .u64 64 aO wraps_u64 1 aO ((bw s e f:Int)/9223372036854775808) ae ae;rw [show ((2:Int)^1-1)=1 from rfl] at h;rw [h];unfold bw;cases s <;> simp only [jc,jd] <;> omega
theorem P6 (f:Nat) (hf:f<4503599627370496):bits .or .u64 (f:Int) 4503599627370496=(f:Int)+4503599627370496:=by
 have hc:bits .or .u64 (f:Int) 4503599627370496=bits .or .u64 4503599627370496 (f:Int):=by simp only [bits,BitVec.or_comm]
 rw [hc,bits_join .u64 64 aO wraps_u64 52 4503599627370496 (f:Int) aO aO aO ae ae ae];omega
theorem P7 (x:Int) (h0:0<=x) (h1:x<9223372036854775808):bits .or .u64 x 9223372036854775808=x+9223372036854775808:=by
 have hc:bits .or .u64 x 9223372036854775808=bits .or .u64 9223372036854775808 x:=by simp only [bits,BitVec.or_comm]
 rw [hc,bits_join .u64 64 aO wraps_u64 63 9223372036854775808 x aO aO aO h0 ae ae];omega
def pv (neg:Bool) (c x:Int) (f:Int):Value:=.agg #[.bool neg,.int .i64 c,.int .i64 x,.int .u64 f]
def cls (e f:Nat):Int:=if e=2047 then (if f=0 then 3 else 4) else if e=0 then (if f=0 then 0 else 1) else 2
def xp (e:Nat):Int:=if e=2047 then 0 else if e=0 then -1074 else (e:Int)-1075
def fr (e f:Nat):Int:=if e=2047 then 0 else if e=0 then (f:Int) else (f:Int)+4503599627370496
def ng (s:Bool) (e f:Nat):Bool:=if e=2047/\f≠0 then false else s
def splitV (s:Bool) (e f:Nat):Value:=pv (ng s e f) (cls e f) (xp e) (fr e f)
theorem uR (s:Bool) (e f:Nat) (h:e=2047) (h2:((f:Int) != 0)=true):splitV s e f=.agg #[.bool false,.int .i64 4,.int .i64 0,.int .u64 0]:=by
 have:f≠0:=by intro h;subst h;simp at h2
 simp [splitV,pv,ng,cls,xp,fr,h,this]
theorem uS (s:Bool) (e f:Nat) (h:e=2047) (h2:((f:Int) != 0)=false):splitV s e f=.agg #[.bool s,.int .i64 3,.int .i64 0,.int .u64 0]:=by
 have:f=0:=by simp at h2;omega
 simp [splitV,pv,ng,cls,xp,fr,h,this]
theorem oZ (s:Bool) (e f:Nat) (h:e=0) (h2:((f:Int)==0)=true):splitV s e f=.agg #[.bool s,.int .i64 0,.int .i64 (-1074),.int .u64 0]:=by
 have:f=0:=by simp at h2;omega
 simp [splitV,pv,ng,cls,xp,fr,h,this]
theorem qm (s:Bool) (e f:Nat) (h:e=0) (h2:((f:Int)==0)=false):splitV s e f=.agg #[.bool s,.int .i64 1,.int .i64 (-1074),.int .u64 f]:=by
 have:f≠0:=by intro h;subst h;simp at h2
 simp [splitV,pv,ng,cls,xp,fr,h,this]
theorem qo (s:Bool) (e f:Nat) (h:e≠2047) (h2:e≠0):splitV s e f=.agg #[.bool s,.int .i64 2,.int .i64 ((e:Int)-1075),.int .u64 ((f:Int)+4503599627370496)]:=by
 simp [splitV,pv,ng,cls,xp,fr,h,h2]
theorem qp (e n:Nat) (h:((e:Int)==(n:Int))=true):e=n:=by
 have:(e:Int)=n:=by simpa using h
 omega
theorem P8 (s:Bool) (e f:Nat) (he:e<2048) (hf:f<4503599627370496):(bw s e f:Int)/4503599627370496%2048=e:=by
 unfold bw;cases s <;> simp only [jc,jd] <;> omega
theorem Mq (s:Bool) (e f:Nat) (hf:f<4503599627370496):(bw s e f:Int)%4503599627370496=f:=by
 unfold bw;cases s <;> simp only [jc,jd] <;> omega
theorem Mr (s:Bool) (e f:Nat) (he:e<2048) (hf:f<4503599627370496):(bw s e f:Int)/9223372036854775808%2=s.toNat:=by
 unfold bw;cases s <;> simp only [jc,jd] <;> omega
def odd (e f:Nat):Bool:=e==2047&&f != 0
theorem Gw (e f:Nat) (h:odd e f=false):¬ (e=2047/\f≠0):=by
 rintro ⟨h1,h2⟩;simp [odd,h1,h2] at h
theorem Ms (e f:Nat) (h:odd e f=true):e=2047/\f≠0:=by
 simpa [odd] using h
def cb (s:Bool) (e f:Nat):Nat:=if e=2047/\f≠0 then 9221120237041090560 else bw s e f
theorem Mt (s:Bool) (e f:Nat) (h:e=2047/\f≠0):cb s e f=9221120237041090560:=if_pos h
theorem Gx (s:Bool) (e f:Nat) (h:¬ (e=2047/\f≠0)):cb s e f=bw s e f:=if_neg h
theorem Mv (s:Bool) (e f:Nat) (he:e<2048) (hf:f<4503599627370496):(bw s e f:Int)%9223372036854775808=(e:Int)*4503599627370496+f:=by
 unfold bw;cases s <;> simp only [jc,jd] <;> omega
theorem wI:Ieee.double.infRung=9218868437227405312:=aO
theorem Mw:Ieee.double.signWeight=9223372036854775808:=aO
theorem Eh:Ieee.double.binade=4503599627370496:=aO
theorem ZV:Ieee.double.infRung<Ieee.double.signWeight:=aO
theorem dHb:Ieee.double.binade<=Ieee.double.infRung:=aO
theorem za (s:Bool) (e f:Nat):bw s e f=Ieee.double.word s (e*4503599627370496+f):=by
 unfold bw Ieee.Format.word;rw [Mw]
 cases s <;> simp [mU]
theorem sP (s:Bool) (e f:Nat) (hf:f<4503599627370496) (h:odd e f=true):Ieee.double.read (bw s e f)=.nan s f:=by
 have h0:e=2047/\f≠0:=by simpa [odd] using h
 have e1:bw s e f%Ieee.double.signWeight=e*4503599627370496+f:=by
  rw [Mw];unfold bw;cases s <;> simp only [jc,jd] <;> omega
 have e2:(bw s e f/Ieee.double.signWeight%2==1)=s:=by
  rw [Mw]
  cases s
  · have:bw false e f/9223372036854775808%2=0:=by unfold bw;simp only [jd];omega
    rw [this];rfl
  · have:bw true e f/9223372036854775808%2=1:=by unfold bw;simp only [jc];omega
    rw [this];rfl
 rw [Ml Ieee.double _ (by rw [e1,wI];omega) dHb,e1,e2,wI,show e*4503599627370496+f-9218868437227405312=f from by omega]
theorem Gy (e f:Nat) (he:e<2048) (hf:f<4503599627370496) (h:odd e f=false):e*4503599627370496+f<=Ieee.double.infRung:=by
 rw [wI];have:=Gw e f h;omega
def pl (s:Bool) (e f:Nat):Int:=sg s (e*4503599627370496+f)
theorem ord (s t:Bool) (e f u v:Nat) (he:e<2048) (hf:f<4503599627370496) (hu:u<2048) (hv:v<4503599627370496) :
 FloatKind.f64.format.order (bw s e f) (bw t u v)=if odd e f || odd u v then none else some (compare (pl s e f) (pl t u v)):=by
 show Ieee.double.order _ _=_
 by_cases h1:odd e f=true
 · rw [h1];show (Ieee.double.read (bw s e f)).order _=none;rw [sP s e f hf h1];rfl
 · by_cases h2:odd u v=true
   · rw [h2];show (Ieee.double.read (bw s e f)).order (Ieee.double.read (bw t u v))=if (odd e f || true)=true then none else _
     rw [sP t u v hv h2,Bool.or_true,if_pos rfl]
     cases Ieee.double.read (bw s e f) <;> rfl
   · have h3:odd e f=false:=by simpa using h1
     have h4:odd u v=false:=by simpa using h2
     rw [h3,h4,za,za];rw [Eg Ieee.double ZV dHb s t _ _ (Gy e f he hf h3) (Gy u v hu hv h4)];simp [pl]
theorem Ei (s:Bool) (e f:Nat) (he:e<2048) (hf:f<4503599627370496):(FloatKind.f64.format.order (bw s e f) (bw s e f) != some .eq)=odd e f:=by
 rw [ord s s e f e f he hf he hf,Bool.or_self,sG.2 rfl]
 cases odd e f <;> rfl
end B
namespace B
open Go.RowKit
theorem Je (s:Bool) (e f:Nat) (he:e<2048) (hf:f<4503599627370496) (w:World) :
 Calls Tryz.prog 124 #[.int .u64 (bw s e f),.int .u64 52,.int .u64 11,.int .i64 (-1074)] w fun r w'=>r=.returned (splitV s e f)/\Below w.heap.size w w':=by
 have hl:=ql s e f he hf;have h1:=Mo s e f he hf;have h2:=PZ s e f he hf;have h3:=P5 s e f he hf;have h4:=P6 f hf;have h5:((s.toNat:Int)==1)=s:=by cases s <;> rfl
 go_enter Tryz.func124,Tryz.ntmps124;go_wp2
 · rw [uR s e f ae ‹_›];exact aI (v:=.agg #[.bool false,.int .i64 4,.int .i64 0,.int .u64 0]) (by simp [results,Tryz.results124,go_sem]) rfl ⟨rfl,(by repeat (first | exact ak _ _ | assumption | exact aH _ | (simp;done) | (simp;omega) | refine Below.alloc ?_ ?_ _ | refine Below.setCell ?_ ?_ _ | refine jF ?_))⟩
 · rw [uS s e f ae ‹_›];exact aI (v:=.agg #[.bool s,.int .i64 3,.int .i64 0,.int .u64 0]) (by simp [results,Tryz.results124,go_sem]) rfl ⟨rfl,(by repeat (first | exact ak _ _ | assumption | exact aH _ | (simp;done) | (simp;omega) | refine Below.alloc ?_ ?_ _ | refine Below.setCell ?_ ?_ _ | refine jF ?_))⟩
 · rw [oZ s e f ae ‹_›];exact aI (v:=.agg #[.bool s,.int .i64 0,.int .i64 (-1074),.int .u64 0]) (by simp [results,Tryz.results124,go_sem]) rfl ⟨rfl,(by repeat (first | exact ak _ _ | assumption | exact aH _ | (simp;done) | (simp;omega) | refine Below.alloc ?_ ?_ _ | refine Below.setCell ?_ ?_ _ | refine jF ?_))⟩
 · rw [qm s e f ae ‹_›];exact aI (v:=.agg #[.bool s,.int .i64 1,.int .i64 (-1074),.int .u64 f]) (by simp [results,Tryz.results124,go_sem]) rfl ⟨rfl,(by repeat (first | exact ak _ _ | assumption | exact aH _ | (simp;done) | (simp;omega) | refine Below.alloc ?_ ?_ _ | refine Below.setCell ?_ ?_ _ | refine jF ?_))⟩
 · rw [qo s e f ae ae];refine aI (v:=.agg #[.bool s,.int .i64 2,.int .i64 ((e:Int)-1075),.int .u64 ((f:Int)+4503599627370496)]) (by simp [results,Tryz.results124,go_sem];try omega) rfl ⟨rfl,(by repeat (first | exact ak _ _ | assumption | exact aH _ | (simp;done) | (simp;omega) | refine Below.alloc ?_ ?_ _ | refine Below.setCell ?_ ?_ _ | refine jF ?_))⟩
end B
namespace B
theorem bO (b:Nat) (w:World):(callFunc 29 #[.float .f64 b]).run Tryz.prog w=.ok (.value (.int .u64 b)) w:=by
 rw [run_callFunc_extern (e:=Extern.MathFloatBits.float64bits) Tryz.func29 bS bS bS bS];rfl
theorem aJ (n:Int) (w:World):(callFunc 72 #[.int .u64 n]).run Tryz.prog w=.ok (.value (.float .f64 n.toNat)) w:=by
 rw [run_callFunc_extern (e:=Extern.MathFloatBits.float64frombits) Tryz.func72 bS bS bS bS];rfl
end B
namespace B
open Go.RowKit
attribute [local go_sem] bO aJ
theorem cO {W w1:World}(hb:Below W.heap.size W w1):(∀ b o,b<W.heap.size->w1.cell? ⟨b,o,none⟩=W.cell? ⟨b,o,none⟩)/\(∀ b o,b<W.heap.size->w1.frozen? ⟨b,o,none⟩=W.frozen? ⟨b,o,none⟩) :=
 ⟨fun b o h=>hb.cell (p:=⟨b,o,none⟩) h,fun b o h=>hb.frozen (p:=⟨b,o,none⟩) h⟩
theorem Jf (s:Bool) (e f:Nat) (he:e<2048) (hf:f<4503599627370496) (w:World) :
 Calls Tryz.prog 124 #[.int .u64 (bw s e f),.int .u64 52,.int .u64 11,.int .i64 (-1074)] w fun r w'=>r=.returned (.agg #[.bool (ng s e f),.int .i64 (cls e f),.int .i64 (xp e),.int .u64 (fr e f)])/\Below w.heap.size w w' :=
 Je s e f he hf w
theorem nW (s:Bool) (e f:Nat) (he:e<2048) (hf:f<4503599627370496) (w:World) :
 Calls Tryz.prog 84 #[.float .f64 (bw s e f)] w fun r w'=>r=.returned (.agg #[.bool (ng s e f),.int .i64 (cls e f),.int .i64 (xp e),.int .u64 (fr e f)])/\Below w.heap.size w w':=by
 go_enter Tryz.func84,Tryz.ntmps84
 go_wp2_with (go_at_call 124;refine (Jf s e f he hf _).mono ?_;rintro r w1 ⟨rfl,hb⟩;(obtain ⟨hc,hfz⟩:=cO hb;have hz:w.heap.size<w1.heap.size:=by (have:=hb.size;simp at this;omega)))
 exact aI (v:=(.agg #[.bool (ng s e f),.int .i64 (cls e f),.int .i64 (xp e),.int .u64 (fr e f)])) (by simp [results,Tryz.results84,go_sem,hc]) rfl ⟨rfl,(by repeat (first | exact ak _ _ | exact ((ak _ _).alloc (aH _) _).trans (hb.mono aW) | exact aH _ | (simp;done) | (simp;omega) | refine Below.alloc ?_ ?_ _ | refine Below.setCell ?_ ?_ _ | refine jF ?_))⟩
theorem ry (s:Bool) (e f:Nat) (he:e<2048) (hf:f<4503599627370496) (w:World) :
 Calls Tryz.prog 134 #[.float .f64 (bw s e f)] w fun r w'=>r=.returned (.int .u64 (cb s e f))/\w'=w:=by
 have hl:=ql s e f he hf;have h1:=Mv s e f he hf
 by_cases h:e=2047/\f≠0
 · have h2:(9218868437227405312:Int)<(e:Int)*4503599627370496+f:=ae
   rw [Mt s e f h];clear h;go_enter Tryz.func134,Tryz.ntmps134;go_wp2;go_ret;exact ⟨rfl,rfl⟩
 · have h2:¬ (9218868437227405312:Int)<(e:Int)*4503599627370496+f:=ae
   rw [Gx s e f h];clear h;go_enter Tryz.func134,Tryz.ntmps134;go_wp2;go_ret;exact ⟨rfl,rfl⟩
theorem Jg (s:Bool) (e f:Nat) (he:e<2048) (hf:f<4503599627370496) (w:World) :
 Calls Tryz.prog 31 #[.float .f64 (bw s e f)] w fun r w'=>r=.returned (.bool (odd e f))/\w'=w:=by
 have h1:=Ei s e f he hf;go_enter Tryz.func31,Tryz.ntmps31;go_wp2;go_ret;exact ⟨rfl,rfl⟩
theorem nX (s:Bool) (e f:Nat) (he:e<2048) (hf:f<4503599627370496) (w:World) :
 Calls Tryz.prog 133 #[.int .u64 (bw s e f),.int .i64 11,.int .i64 52] w fun r w'=>r=.returned (splitV s e f)/\Below w.heap.size w w':=by
 have hl:=ql s e f he hf;have h1:=P8 s e f he hf;have h2:=Mq s e f hf;have h3:=Mr s e f he hf;have h5:((s.toNat:Int)==1)=s:=by cases s <;> rfl
 go_enter Tryz.func133,Tryz.ntmps133;go_wp2
 · have hh:e=2047:=by first | omega | exact qp e 2047 ‹_›
   rw [uR s e f hh (by simp;omega)];exact aI (v:=.agg #[.bool false,.int .i64 4,.int .i64 0,.int .u64 0]) (by simp [results,Tryz.results133,go_sem]) rfl ⟨rfl,(by repeat (first | exact ak _ _ | assumption | exact aH _ | (simp;done) | (simp;omega) | refine Below.alloc ?_ ?_ _ | refine Below.setCell ?_ ?_ _ | refine jF ?_))⟩
 · have hh:e=2047:=by first | omega | exact qp e 2047 ‹_›
   rw [uS s e f hh (by simp;omega)];exact aI (v:=.agg #[.bool s,.int .i64 3,.int .i64 0,.int .u64 0]) (by simp [results,Tryz.results133,go_sem]) rfl ⟨rfl,(by repeat (first | exact ak _ _ | assumption | exact aH _ | (simp;done) | (simp;omega) | refine Below.alloc ?_ ?_ _ | refine Below.setCell ?_ ?_ _ | refine jF ?_))⟩
 · have hh:e≠2047:=by intro hq;subst hq;simp_all
   rw [qo s e f hh ae];refine aI (v:=.agg #[.bool s,.int .i64 2,.int .i64 ((e:Int)-1075),.int .u64 ((f:Int)+4503599627370496)]) (by simp [results,Tryz.results133,go_sem];try omega) rfl ⟨rfl,(by repeat (first | exact ak _ _ | assumption | exact aH _ | (simp;done) | (simp;omega) | refine Below.alloc ?_ ?_ _ | refine Below.setCell ?_ ?_ _ | refine jF ?_))⟩
 · rw [qm s e f ae (by simp;omega)];exact aI (v:=.agg #[.bool s,.int .i64 1,.int .i64 (-1074),.int .u64 f]) (by simp [results,Tryz.results133,go_sem]) rfl ⟨rfl,(by repeat (first | exact ak _ _ | assumption | exact aH _ | (simp;done) | (simp;omega) | refine Below.alloc ?_ ?_ _ | refine Below.setCell ?_ ?_ _ | refine jF ?_))⟩
 · rw [oZ s e f ae (by simp;omega)];refine aI (v:=.agg #[.bool s,.int .i64 0,.int .i64 (-1074),.int .u64 0]) (by simp [results,Tryz.results133,go_sem];try omega) rfl ⟨rfl,(by repeat (first | exact ak _ _ | assumption | exact aH _ | (simp;done) | (simp;omega) | refine Below.alloc ?_ ?_ _ | refine Below.setCell ?_ ?_ _ | refine jF ?_))⟩
end B
section
open Go.RowKit
theorem But.drewN {g:Nat}{a w:World}(h:But g a w) (n:Nat):But g a (w.drewN n):=⟨h.os,h.tape,h.output,h.size,h.block⟩
abbrev Rw (lo:Nat) (w:World) (v:Value) (n:Nat) (ys:List Value):Prop:=w.ownsRow lo 147 1 v n ys
theorem rz {w w':World}{lo e s:Nat}{v:Value}{n:Nat}{ys:List Value}(h:w.ownsRow lo e s v n ys) (hb:∀ g,v.ownBlock=some g->w'.heap[g]?=w.heap[g]?):w'.ownsRow lo e s v n ys:=by
 refine ⟨h.1,?_⟩;rcases h.2 with hn|⟨g,cap,cur,rfl,hlo,hg,rest⟩
 · exact .inl hn
 · refine .inr ⟨g,cap,cur,rfl,hlo,?_,rest⟩;rw [hb g rfl];exact hg
theorem kR (w:World) (lo:Nat) (v:Value) (n:Nat) (ys:List Value) (x:Value) (s:Nat) (ty:TypeId) (hown:Rw lo w v n ys) (hx:w.cell? ⟨s,0,none⟩=some x) (h1:x.oneCell'=true)
 (hbig:n+1<=35184372088832) (hlo:lo<=w.heap.size) :
 ∃ v' w',(Builtin.append_ #[60,60] ty #[v,.slice (some ⟨s,0,none⟩) 1 1]).run Tryz.prog w=.ok v' w'/\Rw lo w' v' (n+1) (ys++[x])/\w.grownBy w' v.ownBlock /\
   (v'.ownBlock=v.ownBlock\/∃ g,v'.ownBlock=some g/\w.heap.size<=g)/\(∀ (u:Value) (k:Nat) (zs:List Value),Rw lo w u k zs->(u.ownBlock=v.ownBlock->k<=n)->Rw lo w' u k zs):=by
 obtain ⟨i0,hi,hz0,hz1,hz2⟩:=info_parts Tryz.uf
 have hnews:∀ j u,[x][j]?=some u->w.cell? ((⟨s,0,none⟩:Addr).add j)=some u:=by
  intro j u hj
  match j,hj with
  | 0,hj=>simp at hj;subst hj;simpa [Addr.add] using hx
 have h1':∀ u ∈ [x],u.oneCell'=true:=by intro u hu;simp at hu;subst hu;exact h1
 have keep:∀ w',w.grownBy w' none->∀ (u:Value) (k:Nat) (zs:List Value),Rw lo w u k zs->Rw lo w' u k zs:=by
  intro w' hg u k zs hr;rcases hr.2 with hn|⟨g,cap,cur,rfl,hl,hgb,rest⟩
  · exact ⟨hr.1,.inl hn⟩
  · refine ⟨hr.1,.inr ⟨g,cap,cur,rfl,hl,?_,rest⟩⟩;rw [hg.block g (fJ.1 hgb).1 aW];exact hgb
 have Mx:∀ (v':Value) (w':World) (m:Nat) (zs:List Value),w'.ownsRow w.heap.size 147 1 v' (m+1) zs->∃ g,v'.ownBlock=some g/\w.heap.size<=g:=by
  intro v' w' m zs h;rcases h.2 with ⟨_,h0⟩|⟨g,cap,cur,rfl,hl,_⟩
  · omega
  · exact ⟨g,rfl,hl⟩
 have mono:∀ (v':Value) (w':World) (m:Nat) (zs:List Value),w'.ownsRow w.heap.size 147 1 v' m zs->Rw lo w' v' m zs:=by
  intro v' w' m zs h;refine ⟨h.1,?_⟩;rcases h.2 with hn|⟨g,cap,cur,rfl,hl,rest⟩
  · exact .inl hn
  · exact .inr ⟨g,cap,cur,rfl,ae,rest⟩
 rcases hown.2 with ⟨rfl,rfl⟩|⟨g,cap,cur,rfl,ZW,hg,hnc,hm,hs,ht⟩
 · obtain ⟨v',w',r1,r2,r3,_,_⟩:=run_append_own_at (P:=Tryz.prog) w w.heap.size 60 ty 147 i0 (.int .u32 0) 1 4 Tryz.underlying60 hi hz0 hz1 hz2 rfl aO (.slice none 0 0) 0 [] (Ay _ _ _ _) ⟨s,0,none⟩ 1 1 [x] rfl hnews h1' (by unfold maxLen;omega) ae (aH _);have hy:ys=[]:=Ao (by simpa using hown.1);subst hy;exact ⟨v',w',r1,mono _ _ _ _ (by simpa using r2),r3,.inr (Mx _ _ 0 _ (by simpa using r2)),fun u k zs hr _=>keep _ r3 u k zs hr⟩
 · by_cases hroom:n+1<=cap
   · have hr:=run_append_room (P:=Tryz.prog) w 60 ty 147 i0 Tryz.underlying60 hi g n cap cur hg ⟨s,0,none⟩ 1 1 [x] (by rw [hz1];rfl) hnews h1' hroom (by rw [hz1,hs];simp;omega);rw [hz1] at hr;refine ⟨_,_,hr,⟨by simpa using hown.1,.inr ⟨g,cap,_,rfl,ZW,setRow_heap w g cur _ 147 _ hg,hroom,hm,?_,?_⟩⟩,⟨rfl,rfl,rfl,aW,fun k _ hk=>setRow_other w g k _ (fun e=>hk (by simp [Value.ownBlock,e]))⟩,.inl rfl,?_⟩
     · simp only [yI,Aj,eZ,pW,yJ,mR,yK];omega
     · rw [ht];have hyl:ys.length=n:=by simpa using hown.1
       simp only [dU,xq];rw [<-xq];rw [yL (by simp [hyl])];rw [eF (by simp [hyl])]
     · intro u k zs hr2 hle;rcases hr2.2 with hn|⟨g2,cap2,TT,rfl,hl2,hg2,MB,hm2,hs2,ht2⟩
       · exact ⟨hr2.1,.inl hn⟩
       · by_cases he:g2=g
         · subst he;rw [hg] at hg2
           cases hg2
           have hk:=hle rfl;refine ⟨hr2.1,.inr ⟨g2,cap2,_,rfl,hl2,setRow_heap w g2 cur _ 147 _ hg,MB,hm2,?_,?_⟩⟩
           · simp only [yI,Aj,eZ,pW,yJ,mR,yK];omega
           · have hcl:cur.toList.length=cap2:=by simpa using hs2
             rw [<-ht2];simp only [dU,xq];rw [yL (by rw [eZ];omega),List.take_take,iX hk]
         · refine ⟨hr2.1,.inr ⟨g2,cap2,TT,rfl,hl2,?_,MB,hm2,hs2,ht2⟩⟩;rw [setRow_other w g g2 _ he];exact hg2
   · obtain ⟨v',w',r1,r2,r3⟩:=run_append_arg_grows (P:=Tryz.prog) w 60 ty 147 i0 (.int .u32 0) 1 4 Tryz.underlying60 hi hz0 hz1 hz2 rfl aO ⟨g,0,none⟩ n cap ys (by simpa using hown.1) (fun j u hj=>hown.cells (g:=g) (by simp [Value.ownBlock]) j u hj) ⟨s,0,none⟩ 1 1 [x] rfl hnews ae (by unfold maxLen;omega) ae;exact ⟨v',w',r1,mono _ _ _ _ r2,⟨r3.os,r3.tape,r3.output,r3.size,fun k hk _=>r3.block k hk aW⟩,.inr (Mx _ _ n _ r2),fun u k zs hr _=>keep _ r3 u k zs hr⟩
theorem dF {w:World}{ops:Array Oper}{rest:List Oper}{o:Oper}{a:Act}{Q:Exit->Act->World->Prop}(hgd:o.guard=none) (s x:Operand) (t:TypeId)
 (ho:o.op=.call { callee:=.builtin .append,args:=#[s,x],argTypes:=#[t,t] }) (v u:Value) (hs:a.eval s=v) (hx:a.eval x=u) (v':Value) (w':World)
 (hrun:(Builtin.append_ #[t,t] o.type #[v,u]).run Tryz.prog w=.ok v' w') (h:wpList Tryz.prog ops Q rest (a.put o.dst v') w'):wpList Tryz.prog ops Q (o::rest) a w:=by
 refine wpList_plain hgd fun K hK=>?_;unfold Oper.wp;simp [execOp,ho,resolve,invoke,builtin,hs,hx,hrun,Result.andThen];exact hK _ _ h
theorem Rw.lt {lo:Nat}{w:World}{v:Value}{n:Nat}{ys:List Value}(h:Rw lo w v n ys) (b:Nat) (hb:v.ownBlock=some b):lo<=b/\b<w.heap.size/\∃ cur,w.heap[b]?=some (.cells cur 147 (0,0)):=by
 rcases h.2 with ⟨rfl,h0⟩|⟨g,cap,cur,rfl,hlo,hg,_⟩
 · cases hb
 · cases hb
   exact ⟨hlo,(fJ.1 hg).1,cur,hg⟩
theorem Rw.cell {lo:Nat}{w:World}{g n cap:Nat}{ys:List Value}(h:Rw lo w (.slice (some ⟨g,0,none⟩) n cap) n ys) (k:Nat) (u:Value) (hk:ys[k]?=some u):w.cell? ⟨g,k,none⟩=some u:=by
 have h1:=h.cells (g:=g) (by simp [Value.ownBlock]) k u hk;have e:(⟨g,0,none⟩:Addr).add k=⟨g,k,none⟩:=by unfold Addr.add;split <;> simp_all
 rw [e] at h1;exact h1
theorem Rw.words {lo:Nat}{w:World}{v:Value}{n:Nat}{L:List Nat}(h:Rw lo w v n (L.map U)):∃ ao cap,v=.slice ao n cap/\n<=cap/\n=L.length/\(ao=none->cap=0)/\Rd w.heap.size w ao L:=by
 have hl:n=L.length:=by have:=h.1;simp at this;omega
 rcases h.2 with ⟨rfl,h0⟩|⟨g,cap,cur,rfl,hlo,hg,hn,hm,hs,ht⟩
 · refine ⟨none,0,by rw [h0],ae,hl,fun _=>rfl,?_⟩;have:L=[]:=Dx.1 ae;rw [this];exact Rd.nil _ _ _
 · refine ⟨_,cap,rfl,hn,hl,(fun e=>by cases e),fun _=>⟨g,0,(fJ.1 hg).1,rfl,fun i hi=>?_⟩⟩;have h1:=Rw.cell h i (U (L.getD i 0)) (by simp [hi]);rw [dI];exact h1
theorem jW (xs:List Nat) (k:Nat):val (xs.take (k+1))=val (xs.take k)+pw k*xs.getD k 0:=by
 by_cases h:k<xs.length
 · exact iK xs k h
 · rw [eF ae,eF ae];simp [eQ,mQ (show xs.length<=k by omega)]
theorem Jh (p V c a b x y s d:Nat) (h:V+c*p=a+b) (e:s+d*4294967296=x+y+c):(V+p*s)+d*(4294967296*p)=(a+p*x)+(b+p*y):=o9 p a b V c x y s d h e
theorem Ej (p V c a b x y s d:Nat) (h:V+b=a+c*p) (e:s+y+c=x+d*4294967296):(V+p*s)+(b+p*y)=(a+p*x)+d*(4294967296*p):=nu p a b V c x y s d h e
theorem zb (xs:List Nat) (ao:Option Addr) (n cap B i:Nat) (w:World) (hn:n=xs.length) (hm:n<=70368744177664) (hx:Wf xs) (hR:Rd B w ao xs) (hi:i<=70368744177664) :
 Calls Tryz.prog 182 #[.slice ao n cap,.int .i64 (i:Nat)] w fun r w'=>r=.returned (.int .u64 ((xs.getD i 0:Nat):Int))/\w'=w:=by
 by_cases hin:i<n
 · obtain ⟨b,off,hB,rfl,hcell⟩:=hR (by intro e;subst e;simp at hn;omega);have hck:=hcell i ae;have hxl:=hx.get i;obtain ⟨t,ht⟩:∃ t,xs.getD i 0=t:=⟨_,rfl⟩;rw [ht] at hck hxl |-;clear hcell hR hn hx ht;go_enter Tryz.func182,Tryz.ntmps182;go_wp2;go_ret;exact ⟨rfl,rfl⟩
 · have e:xs.getD i 0=0:=by simp [eQ,mQ (show xs.length<=i by omega)]
   rw [e];clear hR hn hx e;go_enter Tryz.func182,Tryz.ntmps182;go_wp2;go_ret;exact ⟨rfl,rfl⟩
theorem MC (X Y V c n m N:Nat) (hX:X<pw n) (hY:Y<pw m) (hn:n<=N) (hm:m<=N) (h:V+c*pw (N+1)=X+Y):c=0:=by
 rcases jO c with h0|h0
 · exact h0
 · exfalso;have h1:=jT hn;have h2:=jT hm;have h3:1*pw (N+1)<=c*pw (N+1):=gF _ h0;rw [bI] at h3 h;have:=iI N;omega
theorem Ji (xs ys:List Nat) (ao bo:Option Addr) (n cap m bz B:Nat) (w:World) (hn:n=xs.length) (hm:m=ys.length) (hc:n<=cap) (hcb:m<=bz) (hbig:n<=35184372088000) (hbig2:m<=35184372088000)
 (hx:Wf xs) (hy:Wf ys) (hR:Rd B w ao xs) (hS:Rd B w bo ys) (hB:B<=w.heap.size) :
 Calls Tryz.prog 136 #[.slice ao n cap,.slice bo m bz] w fun r w'=>∃ v,r=.returned v/\Nt w.heap.size w' v (val xs+val ys)/\Below w.heap.size w w':=by
 have hX:=cK xs hx;have hY:=cK ys hy;rw [<-hn] at hX;rw [<-hm] at hY;obtain ⟨N,hN⟩:=ah (max n m);have hnN:n<=N:=ae
 have hmN:m<=N:=ae
 have hNb:N<=35184372088000:=ae
 have HR:=(ow hR hS hn hm hx hy hB hX hY hN);clear hR hS hn hm hx hy hB hX hY hN;go_enter Tryz.func136,Tryz.ntmps136;go_wp2
 go_loopg [5,6,7] (N+1) (fun gk ov cv iv wr=>∃ (i c:Nat) (L:List Nat),gk+i=N+1/\cv=.int .u64 (c:Nat)/\c<=1/\iv=.int .i64 (i:Nat)/\Hid (Rw w.heap.size wr ov i (L.map U))/\Hid (Below w.heap.size w wr) /\
  Aside (Wf L/\val L+c*pw i=val (xs.take i)+val (ys.take i)))
 case atStart=>exact ⟨0,0,[],ae,rfl,ae,rfl,Ay _ _ _ _,ak _ _,Wf.nil,by simp [val]⟩
 case round =>
  obtain ⟨i,c,L,hgi,rfl,hc1,rfl,HO,HB,HA⟩:=hrel
  by_cases hgo:i<n\/i<m\/c=1
  · have hiN:i<=N:=by
     rcases hgo with h|h|h
     · omega
     · omega
     · by_cases hi1:i=N+1
       · exfalso;obtain ⟨hR,hS,hn,hm,hx,hy,hB,hX,hY,hN⟩:=HR.o;have h1:=HA.o.2;rw [eF ae,eF ae,hi1] at h1;have:=MC _ _ _ _ _ _ _ hX hY hnN hmN h1;omega
       · omega
    obtain ⟨hR,hS,hn,hm,hx,hy,hB,hX,hY,hN⟩:=HR.o;have HA1:=hid (zb xs ao n cap B i wr hn ae hx (hR.below (HB.o.mono hB)) ae);have HA2:=hid (zb ys bo m bz B i wr hm ae hy (hS.below (HB.o.mono hB)) ae);obtain ⟨x,fH⟩:∃ x,xs.getD i 0=x:=⟨_,rfl⟩;obtain ⟨y,mK⟩:∃ y,ys.getD i 0=y:=⟨_,rfl⟩;have hxl:x<4294967296:=fH ▸ hx.get i;have hyl:y<4294967296:=mK ▸ hy.get i;rw [fH] at HA1;rw [mK] at HA2;obtain ⟨s,hs⟩:∃ s:Nat,s=(x+y+c)%4294967296:=⟨_,rfl⟩;obtain ⟨d,hd⟩:∃ d:Nat,d=(x+y+c)/4294967296:=⟨_,rfl⟩;have e1:((x:Int)+y+c)%4294967296=(s:Int):=ae
    have e2:((x:Int)+y+c)/4294967296=(d:Int):=ae
    have hsz:=HB.o.size;obtain ⟨v',w',hap,hown,hgrow,_,_⟩:=kR (wr.alloc (.cells #[.int .u32 (s:Nat)] 147)) w.heap.size u5 i (L.map U) (.int .u32 (s:Nat)) wr.heap.size 60 (HO.o.alloc _) (by unfold World.cell?;simp only [iJ];rfl) rfl ae (by simp;omega);have HX:Aside (xs.getD i 0=x/\ys.getD i 0=y/\s+d*4294967296=x+y+c/\s<4294967296/\d<=1):=⟨fH,mK,ae,ae,ae⟩;have hbel:Below w.heap.size w w':=(HB.o.alloc hsz _).grown hgrow (by simp;omega) (fun k hk=>(HO.o.lt k hk).1);have HI:=(bB hown hbel);have IQ:=hid hap;clear hap hown hgrow hbel hs hd fH mK hR hS hn hm hx hy hB hX hY hN hsz
    have WC:(decide (i<n)=true)\/(decide (i<n)=false/\decide (i<m)=true)\/(decide (i<n)=false/\decide (i<m)=false/\decide (0<c)=true):=by
     by_cases a:i<n
     · exact .inl (decide_eq_true ae)
     · by_cases b:i<m
       · exact .inr (.inl ⟨decide_eq_false ae,decide_eq_true ae⟩)
       · exact .inr (.inr ⟨decide_eq_false ae,decide_eq_false ae,decide_eq_true ae⟩)
    rcases WC with h1|⟨h1,h2⟩|⟨h1,h2,h3⟩
    all_goals (
     go_wp2_with fail;refine HA1.o.mono ?_;rintro r w1 ⟨rfl,rfl⟩;go_wp2_with fail;refine HA2.o.mono ?_;rintro r w1 ⟨rfl,rfl⟩
     go_wp2_with (at_builtin;refine dF rfl (.tmp 34) (.tmp 37) 60 rfl _ _ rfl rfl _ _ IQ.o ?_)
     go_roundg (gk-1)
     case measure=>omega
     case rel =>
      obtain ⟨a1,a2,a3,a4,a5⟩:=HX.o;obtain ⟨qX,Dm⟩:=HA.o;refine ⟨i+1,d,L++[s],ae,by first | rfl | rw [e2],a5,by first | go_num | (congr 1;omega),by rw [Ai];exact HI.o.1,HI.o.2,qX.append (Wf.cons a4 Wf.nil),?_⟩;have qW:L.length=i:=by have:=HO.o.1;simp at this;omega
      rw [val_append,qW,jW,jW,a1,a2,bI]
      simpa [val] using Jh (pw i) _ _ _ _ x y s d Dm a3)
  · have hi:N<=i:=by have:=HR.o.2.2.2.2.2.2.2.2.2;omega
    obtain rfl:c=0:=ae
    obtain ⟨ZX,TU,hsh,hcap,hl,hnil,WE⟩:=HO.o.words;subst hsh;obtain ⟨hR,hS,hn,hm,hx,hy,hB,hX,hY,hN⟩:=HR.o;have SC:=hid (jr L ZX i TU wr.heap.size wr hl hcap ae HA.o.1 WE hnil)
    have Dm:val L=val xs+val ys:=by
     have h1:=HA.o.2;rw [eF ae,eF ae] at h1;omega
    rw [Dm] at SC;have h1:decide (i<n)=false:=decide_eq_false ae;have h2:decide (i<m)=false:=decide_eq_false ae;clear hR hS hn hm hx hy hB hX hY hN hl hnil WE Dm hgo HO;go_wp2_with fail;refine SC.o.mono ?_;rintro r w1 ⟨v,rfl,SH,hb⟩;have HZ:=(bB SH hb);clear SH hb;go_wp2;go_ret;have hsz:=HB.o.size;exact ⟨v,rfl,HZ.o.1.mono hsz,HB.o.trans (HZ.o.2.mono hsz)⟩
theorem xS (xs:List Nat) (hx:Wf xs) (k r:Nat) (hk:k<xs.length) (hr:r<32):val xs/2^(32*k+r)%2=xs.getD k 0/2^r%2:=by
 have e:=dM xs k ae
 have hl:val (xs.take k)<pw k:=by
  have:=cK _ (hx.take k);rwa [eZ,iX ae] at this
 rw [l9,<-sw,e,p9 _ _ (iI k),ic hl,dI,dz xs k hk]
 have e2:4294967296*val (xs.drop (k+1))=2^r*(2*(2^(31-r)*val (xs.drop (k+1)))):=by
  have:(4294967296:Nat)=2^r*(2*2^(31-r)):=by
   rw [<-aU,dh (2^r) 2,aU,<-aR,show r+(31-r)=31 by omega]
  rw [this];grind
 rw [e2,p9 _ _ (bK r),xc]
theorem uT (xs:List Nat) (hx:Wf xs) (i:Nat) (h:xs.length<=i/32):val xs/2^i%2=0:=by
 have h1:=cK xs hx
 have h2:pw xs.length<=2^i:=by
  have:pw xs.length=2^(32*xs.length):=by rw [<-iw (32*xs.length),l9];simp
  rw [this];exact fE aO ae
 rw [ic ae]
theorem and_one (z:Nat) (h:z<4294967296):bits BinOp.and IntKind.u32 (z:Int) 1=((z%2:Nat):Int):=by
 have:=F7 z 1 h aO;rw [Nat.and_one_is_mod] at this;exact this
theorem P9 (ao:Option Addr) (n cap:Nat) (i:Int) (w:World) (hi:i<0) :
 Calls Tryz.prog 175 #[.slice ao n cap,.int .i64 i] w fun r w'=>r=.returned (.bool false)/\w'=w:=by
 go_enter Tryz.func175,Tryz.ntmps175;go_wp2;go_ret;exact ⟨rfl,rfl⟩
theorem uo (xs:List Nat) (ao:Option Addr) (n cap B i:Nat) (w:World) (hn:n=xs.length) (hx:Wf xs) (hR:Rd B w ao xs) (hi:i<=9223372036854775807) :
 Calls Tryz.prog 175 #[.slice ao n cap,.int .i64 (i:Int)] w fun r w'=>r=.returned (.bool (decide (val xs/2^i%2=1)))/\w'=w:=by
 obtain ⟨k,hk⟩:=ah (i/32);obtain ⟨r,hr⟩:=ah (i%32);have e1:(i:Int)/32=(k:Int):=ae
 have e2:(i:Int)%32=(r:Int):=ae
 by_cases hkn:k<n
 · have hb:=xS xs hx k r ae ae;rw [show 32*k+r=i by omega] at hb;rw [hb];obtain ⟨b,off,hB,rfl,hcell⟩:=hR (by intro e;subst e;simp at hn;omega);have hck:=hcell k ae;obtain ⟨t,ht⟩:∃ t,xs.getD k 0=t:=⟨_,rfl⟩;have htl:t<4294967296:=ht ▸ hx.get k;rw [ht] at hck |-;obtain ⟨z,hz⟩:=ah (t/2^r);have hzt:z<=t:=by rw [hz];exact oL _ _
   have e3:(t:Int)/2^r=(z:Int):=by rw [hz];simp
   have e4:=and_one z ae;have ZY:r<32:=ae
   rw [<-hz];clear hb hn hx hR hcell ht hz hk hr;rcases (by omega:z%2=0\/z%2=1) with hz2|hz2
   · rw [hz2] at e4 |-;clear hz2;go_enter Tryz.func175,Tryz.ntmps175;go_wp2;go_ret;exact ⟨rfl,rfl⟩
   · rw [hz2] at e4 |-;clear hz2;go_enter Tryz.func175,Tryz.ntmps175;go_wp2;go_ret;exact ⟨rfl,rfl⟩
 · rw [uT xs hx i ae];clear hn hx hR hk hr;go_enter Tryz.func175,Tryz.ntmps175;go_wp2;go_ret;exact ⟨rfl,rfl⟩
def El (X:Nat):Value:=if X<18446744073709551616 then .tuple #[.int .u64 (X:Int),.int .i64 0] else .tuple #[.int .u64 0,.int .i64 2]
theorem TV (xs:List Nat) (hx:Wf xs):nl xs<=2↔val xs<18446744073709551616:=by
 rw [gG xs hx,aV];rfl
theorem Jj (xs:List Nat) (ao:Option Addr) (n cap B:Nat) (w:World) (hn:n=xs.length) (hc:n<=cap) (hm:n<=70368744177664) (hx:Wf xs) (hR:Rd B w ao xs) :
 Calls Tryz.prog 203 #[.slice ao n cap] w fun r w'=>r=.returned (El (val xs))/\w'=w:=by
 have H:=hid (dV xs ao n cap B w hn hc ae hR);have hl:=jQ xs;have h2:=TV xs hx;have hf:=kz xs hx;obtain ⟨m,hm'⟩:∃ m,nl xs=m:=⟨_,rfl⟩;rw [hm'] at H hl h2 hf;unfold El
 by_cases h:2<m
 · rw [if_neg ae];clear h2 hl hn hx hR hm' hf;go_enter Tryz.func203,Tryz.ntmps203;go_wp2_with fail;refine H.o.mono ?_;rintro r w1 ⟨rfl,rfl⟩;go_wp2
   go_ret2
   exact ⟨rfl,rfl⟩
 · rw [if_pos ae];rw [<-jG] at hf;have HR:=(gZ hR hn hx hl hf);have hm2:m<=2:=ae
   clear h2 hl hn hx hR hm' hf h;go_enter Tryz.func203,Tryz.ntmps203;go_wp2_with fail;refine H.o.mono ?_;rintro r w1 ⟨rfl,rfl⟩;go_wp2
   go_loopg [4,14] m (fun gk s i wr=>∃ (k sv:Nat),gk+k=m/\s=.int .u64 (sv:Nat)/\i=.int .i64 (k:Nat)/\wr=w1/\Aside (sv=sg xs 0 k))
   case atStart=>exact ⟨0,0,ae,rfl,rfl,rfl,(dO _ _).symm⟩
   case round =>
    obtain ⟨k,sv,wD,rfl,rfl,rfl,HA⟩:=hrel
    by_cases hk:k<m
    · obtain ⟨hR,hn,hx,hl,hf⟩:=HR.o;obtain ⟨b,off,hB,rfl,hcell⟩:=hR (by intro e;subst e;simp at hl;omega);have hck:=hcell k ae;obtain ⟨t,ht⟩:∃ t,xs.getD k 0=t:=⟨_,rfl⟩;have htl:t<4294967296:=ht ▸ hx.get k;rw [ht] at hck;have hs1:=mJ xs 0 k hx ae;have hs2:=bJ xs 0 k ae;rw [dI,ht,<-HA.o] at hs2;rw [<-HA.o] at hs1;have HX:=(bB hs1 hs2);clear hR hn hx hl hf hcell ht hs1 hs2;rcases (by omega:k=0\/k=1) with rfl|rfl
      · have hsv:sv=0:=by have:=HX.o.1;rw [jf] at this;omega
        have e:bits BinOp.or IntKind.u64 (sv:Int) (t:Int)=(t:Int):=by rw [bits_or_u64_nat _ _ ae ae,hsv,Nat.zero_or]
        rw [iw] at hck;have HS:=(ay hsv);clear hsv;go_wp2;go_roundg (gk-1)
        case measure=>omega
        case rel =>
         refine ⟨1,t,ae,by first | rfl | rw [e],by go_num,rfl,?_⟩;have:=HX.o.2;rw [jf,HS.o] at this;rw [Aside,this];omega
      · have hsv:sv<4294967296:=by have:=HX.o.1;rw [show (1:Nat)=0+1 from rfl,bI,jf] at this;omega
        have e:=uM t sv htl hsv;go_wp2;go_roundg (gk-1)
        case measure=>omega
        case rel =>
         refine ⟨2,sv+t*4294967296,ae,by first | rfl | rw [e] | (rw [e];rfl),by go_num,rfl,?_⟩;have:=HX.o.2;rw [show pw 1=4294967296 from rfl] at this;rw [Aside,this];omega
    · obtain rfl:k=m:=ae
      go_wp2
      go_ret2
      obtain ⟨hR,hn,hx,hl,hf⟩:=HR.o;rw [<-hf,<-HA.o];exact ⟨rfl,rfl⟩
theorem uU (ys:List Nat) (hy:Wf ys) (n:Nat) (h:val ys<pw n):val (ys.take n)=val ys:=by
 by_cases hn:n<=ys.length
 · have h1:=dM ys n hn
   have:val (ys.drop n)=0:=by
    rcases jO (val (ys.drop n)) with h0|h0
    · exact h0
    · have h2:pw n*1<=pw n*val (ys.drop n):=fu _ h0;omega
   rw [this] at h1;omega
 · rw [eF ae]
theorem Jk (V Y X c p:Nat) (hV:V<p) (hle:Y<=X) (hc:c<=1) (h:V+Y=X+c*p):V=X-Y:=by
 rcases (by omega:c=0\/c=1) with rfl|rfl <;> omega
theorem Em (xs ys:List Nat) (ao bo:Option Addr) (n cap m bz B:Nat) (w:World) (hn:n=xs.length) (hm:m=ys.length) (hc:n<=cap) (hcb:m<=bz) (hbig:n<=35184372088000) (hbig2:m<=35184372088000)
 (hx:Wf xs) (hy:Wf ys) (hR:Rd B w ao xs) (hS:Rd B w bo ys) (hB:B<=w.heap.size) (hle:val ys<=val xs) :
 Calls Tryz.prog 138 #[.slice ao n cap,.slice bo m bz] w fun r w'=>∃ v,r=.returned v/\Nt w.heap.size w' v (val xs-val ys)/\Below w.heap.size w w':=by
 have hX:=cK xs hx;rw [<-hn] at hX;have HR:=(Af hR hS hn hm hx hy hB hX hle);clear hR hS hn hm hx hy hB hX hle;go_enter Tryz.func138,Tryz.ntmps138;go_wp2
 go_loopg [5,6,7] n (fun gk ov cv iv wr=>∃ (i c:Nat) (L:List Nat),gk+i=n/\cv=.int .u64 (c:Nat)/\c<=1/\iv=.int .i64 (i:Nat)/\Hid (Rw w.heap.size wr ov i (L.map U))/\Hid (Below w.heap.size w wr) /\
  Aside (Wf L/\val L+val (ys.take i)=val (xs.take i)+c*pw i))
 case atStart=>exact ⟨0,0,[],ae,rfl,ae,rfl,Ay _ _ _ _,ak _ _,Wf.nil,by simp [val]⟩
 case round =>
  obtain ⟨i,c,L,hgi,rfl,hc1,rfl,HO,HB,HA⟩:=hrel
  by_cases hgo:i<n
  · obtain ⟨hR,hS,hn,hm,hx,hy,hB,hX,hle⟩:=HR.o;have HA1:=hid (zb xs ao n cap B i wr hn ae hx (hR.below (HB.o.mono hB)) ae);have HA2:=hid (zb ys bo m bz B i wr hm ae hy (hS.below (HB.o.mono hB)) ae);obtain ⟨x,fH⟩:∃ x,xs.getD i 0=x:=⟨_,rfl⟩;obtain ⟨y,mK⟩:∃ y,ys.getD i 0=y:=⟨_,rfl⟩;have hxl:x<4294967296:=fH ▸ hx.get i;have hyl:y<4294967296:=mK ▸ hy.get i;rw [fH] at HA1;rw [mK] at HA2;obtain ⟨s,hs⟩:∃ s:Nat,s=(x+4294967296-y-c)%4294967296:=⟨_,rfl⟩;obtain ⟨q,hq⟩:∃ q:Nat,q=(x+4294967296-y-c)/4294967296:=⟨_,rfl⟩;obtain ⟨d,hd⟩:∃ d:Nat,d=1-q:=⟨_,rfl⟩;have e1:((x:Int)+4294967296-y-c)%4294967296=(s:Int):=ae
    have e2:((x:Int)+4294967296-y-c)/4294967296=(q:Int):=ae
    have e3:(1:Int)-(q:Int)=(d:Int):=ae
    have hsz:=HB.o.size;obtain ⟨v',w',hap,hown,hgrow,_,_⟩:=kR (wr.alloc (.cells #[.int .u32 (s:Nat)] 147)) w.heap.size u5 i (L.map U) (.int .u32 (s:Nat)) wr.heap.size 60 (HO.o.alloc _) (by unfold World.cell?;simp only [iJ];rfl) rfl ae (by simp;omega);have HX:Aside (xs.getD i 0=x/\ys.getD i 0=y/\s+y+c=x+d*4294967296/\s<4294967296/\d<=1):=⟨fH,mK,ae,ae,ae⟩;have hbel:Below w.heap.size w w':=(HB.o.alloc hsz _).grown hgrow (by simp;omega) (fun k hk=>(HO.o.lt k hk).1);have HI:=(bB hown hbel);have IQ:=hid hap;clear hap hown hgrow hbel hs hd hq fH mK hR hS hn hm hx hy hB hX hsz hle;go_wp2_with fail;refine HA1.o.mono ?_;rintro r w1 ⟨rfl,rfl⟩;go_wp2_with fail;refine HA2.o.mono ?_;rintro r w1 ⟨rfl,rfl⟩
    go_wp2_with (at_builtin;refine dF rfl (.tmp 25) (.tmp 28) 60 rfl _ _ rfl rfl _ _ IQ.o ?_)
    go_roundg (gk-1)
    case measure=>omega
    case rel =>
     obtain ⟨a1,a2,a3,a4,a5⟩:=HX.o;obtain ⟨qX,Dm⟩:=HA.o;refine ⟨i+1,d,L++[s],ae,by first | rfl | rw [e3] | rw [e2,e3],a5,by first | go_num | (congr 1;omega),by rw [Ai];exact HI.o.1,HI.o.2,qX.append (Wf.cons a4 Wf.nil),?_⟩;have qW:L.length=i:=by have:=HO.o.1;simp at this;omega
     rw [val_append,qW,jW,jW,a1,a2,bI];simpa [val] using Ej (pw i) _ _ _ _ x y s d Dm a3
  · obtain rfl:i=n:=ae
    obtain ⟨ZX,TU,hsh,hcap,hl,hnil,WE⟩:=HO.o.words;subst hsh;obtain ⟨hR,hS,hn,hm,hx,hy,hB,hX,hle⟩:=HR.o;have SC:=hid (jr L ZX i TU wr.heap.size wr hl hcap ae HA.o.1 WE hnil)
    have Dm:val L=val xs-val ys:=by
     have h1:=HA.o.2;rw [eF (l:=xs) ae,uU ys hy i ae] at h1;have h2:=cK L HA.o.1;rw [<-hl] at h2;exact Jk _ _ _ _ _ h2 hle hc1 h1
    rw [Dm] at SC;clear hR hS hn hm hx hy hB hX hl hnil WE Dm hgo HO hle;go_wp2_with fail;refine SC.o.mono ?_;rintro r w1 ⟨v,rfl,SH,hb⟩;have HZ:=(bB SH hb);clear SH hb;go_wp2;go_ret;have hsz:=HB.o.size;exact ⟨v,rfl,HZ.o.1.mono hsz,HB.o.trans (HZ.o.2.mono hsz)⟩
theorem Below.drewN' {B:Nat}{a w:World}(h:Below B a w) (n:Nat):Below B a (w.drewN n):=⟨h.os,h.tape,h.output,h.size,h.block⟩
theorem ME (xs ys:List Nat) (ao bo:Option Addr) (n cap m bz B:Nat) (w:World) (hn:n=xs.length) (hm:m=ys.length) (hbig:n<=70368744177664) (hbig2:m<=70368744177664)
 (hx:Wf xs) (hy:Wf ys) (hR:Rd B w ao xs) (hS:Rd B w bo ys) :
 Calls Tryz.prog 137 #[.slice ao n cap,.slice bo m bz] w fun r w'=>r=.returned (.int .i64 (bE (val xs) (val ys)))/\Below w.heap.size w w':=by
 have H1:=hid (ni xs ao n cap B w hn ae hR);have H2:=hid (ni ys bo m bz B w hm ae hS);have hl1:=jQ xs;have hl2:=jQ ys;have f1:=kz xs hx;have f2:=kz ys hy;rw [<-jG] at f1 f2;rcases mY (nl xs) (nl ys) with he|he|he
 · rw [mg (uh xs ys hx hy he)];obtain ⟨k1,hk1⟩:∃ k,nl xs=k:=⟨_,rfl⟩;obtain ⟨k2,hk2⟩:∃ k,nl ys=k:=⟨_,rfl⟩;rw [hk1] at H1 he;rw [hk2] at H2 he;clear hk1 hk2 hn hm hx hy hR hS f1 f2 hl1 hl2;go_enter Tryz.func137,Tryz.ntmps137;go_wp2_with fail;refine H1.o.mono ?_;rintro r w1 ⟨rfl,rfl⟩;go_wp2_with fail;refine H2.o.mono ?_;rintro r w1 ⟨rfl,rfl⟩;have hne:decide (k1=k2)=false:=decide_eq_false ae;have hne2:k1≠k2:=ae
   go_wp2;go_ret;exact ⟨rfl,ak _ _⟩
 · obtain ⟨k0,hk0⟩:∃ k,nl ys=k:=⟨_,rfl⟩;rw [he] at H1 hl1 f1;rw [hk0] at H1 H2 hl1 hl2 f1 f2;have HR:=(ow hR hS hn hm hx hy hl1 hl2 f1 f2);have hkn:k0<=n:=ae
   have hkm:k0<=m:=ae
   clear hR hS hn hm hx hy hl1 hl2 f1 f2 he hk0;go_enter Tryz.func137,Tryz.ntmps137;go_wp2_with fail;refine H1.o.mono ?_;rintro r w1 ⟨rfl,rfl⟩;go_wp2_with fail;refine H2.o.mono ?_;rintro r w1 ⟨rfl,rfl⟩;go_wp2
   go_loopg [5] k0 (fun k i wr=>k<=k0/\i=.int .i64 ((k:Int)-1)/\Hid (Below w1.heap.size w1 wr)/\Aside (sg xs k (k0-k)=sg ys k (k0-k)))
   case atStart=>exact ⟨aH _,by first | rfl | go_num,ak _ _,by rw [Ak,dO,dO];exact rfl⟩
   case round =>
    obtain ⟨hk,rfl,HB,HA⟩:=hrel
    by_cases hk0:gk=0
    · subst hk0;go_wp2;go_ret;obtain ⟨hR,hS,hn,hm,hx,hy,hl1,hl2,f1,f2⟩:=HR.o;have h:=HA.o;rw [Nat.sub_zero,f1,f2] at h;rw [Gl h];exact ⟨rfl,HB.o⟩
    · obtain ⟨k,rfl⟩:∃ k,gk=k+1:=⟨gk-1,ae⟩;obtain ⟨hR,hS,hn,hm,hx,hy,hl1,hl2,f1,f2⟩:=HR.o;obtain ⟨b,off,hB1,rfl,hc1⟩:=hR (by intro e;subst e;simp at hl1;omega);obtain ⟨b2,yT,hB2,rfl,hc2⟩:=hS (by intro e;subst e;simp at hl2;omega)
      have g1:wr.cell? ⟨b,off+k,none⟩=some (.int .u32 ((xs.getD k 0:Nat):Int)) :=
       (HB.o.cell (p:=⟨b,off+k,none⟩) (mM w1 ⟨b,off+k,none⟩ (hc1 k ae))).trans (hc1 k ae)
      have g2:wr.cell? ⟨b2,yT+k,none⟩=some (.int .u32 ((ys.getD k 0:Nat):Int)) :=
       (HB.o.cell (p:=⟨b2,yT+k,none⟩) (mM w1 ⟨b2,yT+k,none⟩ (hc2 k ae))).trans (hc2 k ae)
      obtain ⟨x,fH⟩:∃ x:Nat,xs.getD k 0=x:=⟨_,rfl⟩;obtain ⟨y,mK⟩:∃ y:Nat,ys.getD k 0=y:=⟨_,rfl⟩;rw [fH] at g1;rw [mK] at g2;have HX:=(bB fH mK);have hki:(k:Int)<(n:Int):=ae
      have ZR:0<=(k:Int):=ae
      have ZT:(k:Int)<(m:Int):=ae
      clear hR hS hn hm hx hy hl1 hl2 f1 f2 hc1 hc2 fH mK hk0;rcases mY x y with hxy|hxy|hxy
      · go_wp2
        go_quiet (fail)
        go_wp2;go_ret;obtain ⟨hR,hS,hn,hm,hx,hy,hl1,hl2,f1,f2⟩:=HR.o;have h:=HA.o;have t1:=nV xs ys hx hy k (k0-(k+1)) ae ae h (by rw [HX.o.1,HX.o.2];exact hxy);rw [show k+1+(k0-(k+1))=k0 by omega,f1,f2] at t1;rw [mg t1];exact ⟨rfl,Below.drewN' HB.o _⟩
      · subst hxy;go_wp2
        go_quiet (fail)
        go_wp2
        go_quiet (fail)
        go_wp2;go_roundg k
        case measure=>omega
        case rel =>
         obtain ⟨hR,hS,hn,hm,hx,hy,hl1,hl2,f1,f2⟩:=HR.o;refine ⟨ae,by first | go_num | (congr 1;omega),hid (Below.drewN' HB.o _),?_⟩;have h:=HA.o;obtain ⟨r,hr⟩:∃ r,k0-k=r+1:=⟨k0-(k+1),ae⟩;rw [show k0-(k+1)=r by omega] at h;rw [Aside,hr,kC xs k r ae,kC ys k r ae,h,HX.o.1,HX.o.2]
      · have hxy2:decide (x<y)=false:=decide_eq_false ae;go_wp2
        go_quiet (fail)
        go_wp2
        go_quiet (fail)
        go_wp2;go_ret;obtain ⟨hR,hS,hn,hm,hx,hy,hl1,hl2,f1,f2⟩:=HR.o;have h:=HA.o;have t1:=nV ys xs hy hx k (k0-(k+1)) ae ae h.symm (by rw [HX.o.1,HX.o.2];exact hxy);rw [show k+1+(k0-(k+1))=k0 by omega,f1,f2] at t1;rw [qh t1];exact ⟨rfl,Below.drewN' (Below.drewN' HB.o _) _⟩
 · rw [qh (uh ys xs hy hx he)];obtain ⟨k1,hk1⟩:∃ k,nl xs=k:=⟨_,rfl⟩;obtain ⟨k2,hk2⟩:∃ k,nl ys=k:=⟨_,rfl⟩;rw [hk1] at H1 he;rw [hk2] at H2 he;clear hk1 hk2 hn hm hx hy hR hS f1 f2 hl1 hl2;go_enter Tryz.func137,Tryz.ntmps137;go_wp2_with fail;refine H1.o.mono ?_;rintro r w1 ⟨rfl,rfl⟩;go_wp2_with fail;refine H2.o.mono ?_;rintro r w1 ⟨rfl,rfl⟩;have hne:decide (k1=k2)=false:=decide_eq_false ae;have hlt:decide (k1<k2)=false:=decide_eq_false ae;have hne2:k1≠k2:=ae
   go_wp2;go_ret;exact ⟨rfl,ak _ _⟩
theorem MF (xs:List Nat) (ao:Option Addr) (n cap B i:Nat) (w:World) (hn:n=xs.length) (hx:Wf xs) (hR:Rd B w ao xs) (hi:i<=9223372036854775807) :
 Calls Tryz.prog 168 #[.slice ao n cap,.int .i64 (i:Int)] w fun r w'=>r=.returned (.bool (decide (val xs/2^i%2=1)))/\w'=w:=by
 obtain ⟨k,hk⟩:=ah (i/32);obtain ⟨r,hr⟩:=ah (i%32);have e1:(i:Int)/32=(k:Int):=ae
 have e2:(i:Int)%32=(r:Int):=ae
 by_cases hkn:k<n
 · have hb:=xS xs hx k r ae ae;rw [show 32*k+r=i by omega] at hb;rw [hb];obtain ⟨b,off,hB,rfl,hcell⟩:=hR (by intro e;subst e;simp at hn;omega);have hck:=hcell k ae;obtain ⟨t,ht⟩:∃ t,xs.getD k 0=t:=⟨_,rfl⟩;have htl:t<4294967296:=ht ▸ hx.get k;rw [ht] at hck |-;obtain ⟨z,hz⟩:=ah (t/2^r);have hzt:z<=t:=by rw [hz];exact oL _ _
   have e3:(t:Int)/2^r=(z:Int):=by rw [hz];simp
   have e4:=and_one z ae;have ZY:r<32:=ae
   have hnk:decide ((n:Int)<=(k:Int))=false:=decide_eq_false ae;have hnk2:decide (n<=k)=false:=decide_eq_false ae;rw [<-hz];clear hb hn hx hR hcell ht hz hk hr;rcases (by omega:z%2=0\/z%2=1) with hz2|hz2
   · rw [hz2] at e4 |-;clear hz2;go_enter Tryz.func168,Tryz.ntmps168;go_wp2;go_ret;exact ⟨rfl,rfl⟩
   · rw [hz2] at e4 |-;clear hz2;go_enter Tryz.func168,Tryz.ntmps168;go_wp2;go_ret;exact ⟨rfl,rfl⟩
 · rw [uT xs hx i ae];have hnk:decide ((n:Int)<=(k:Int))=true:=decide_eq_true ae;clear hn hx hR hk hr;go_enter Tryz.func168,Tryz.ntmps168;go_wp2;go_ret;exact ⟨rfl,rfl⟩
theorem Bt (M M2 xs bs:List Nat) (k n m c y:Nat) (dx:M.length=n+m) (hk:k<n) (hn:n=xs.length) (hm:m=bs.length) (hMs:sg M 0 (k+m)=sg xs 0 k*val bs) (hy:xs.getD k 0=y)
 (hout:Out M M2 k m) (hsum:sg M2 k m+c*pw m=sg M k m+val bs*y):sg (M2.set (k+m) c) 0 (k+1+m)=sg xs 0 (k+1)*val bs:=by
 have e1:=bT M2 0 (k+m) c (by rw [hout.1];omega);rw [dI] at e1;have e2:=iT M2 0 k m (by rw [hout.1];omega);have e3:=iT M 0 k m ae;rw [dI] at e2 e3;have e4:=hout.below 0 k ae ae;rw [show k+1+m=k+m+1 by omega,e1,e2,e4,bJ xs 0 k ae,dI,hy,qP];rw [e3] at hMs;rw [dh c] at hsum;have:=Bj (pw k) _ _ y _ _ c hMs;rw [<-hsum] at this;rw [<-this,mG,aU,mU]
theorem Eo (xs bs:List Nat) (ao bo:Option Addr) (n cap m bz B:Nat) (w:World) (hn:n=xs.length) (hm:m=bs.length) (hc:n<=cap) (hcb:m<=bz) (hbig:n+m<=35184372088832)
 (hx:Wf xs) (hb:Wf bs) (hR:Rd B w ao xs) (hS:Rd B w bo bs) (hB:B<=w.heap.size) :
 Calls Tryz.prog 119 #[.slice ao n cap,.slice bo m bz] w fun r w'=>∃ v,r=.returned v/\Nt w.heap.size w' v (val xs*val bs)/\Below w.heap.size w w':=by
 obtain ⟨W1,hW1⟩:=ah (w.alloc (.cells (madeCells #[.int .u32 0] (n+m)) 147));have lU:Own W1 w.heap.size (List.replicate (n+m) 0):=by rw [hW1];exact Own.made w (n+m)
 have hB1:Below w.heap.size w W1:=by rw [hW1];exact (ak _ _).alloc (aH _) _
 have hmk:=dK ((n:Int)+m) (n+m) ae ae w;rw [<-hW1] at hmk;have Ba:Rd B W1 ao xs:=hR.below (hB1.mono hB);have hS1:Rd B W1 bo bs:=hS.below (hB1.mono hB);obtain ⟨g,hg⟩:=ah (w.heap.size);rw [<-hg] at lU hmk hB1 hB;have HR:=(r9 Ba hS1 hm hb hx hn hB1 hg);have HO:=hid lU;clear hn hm hx hb hR hS lU hB1 hW1 Ba hS1 hg;go_enter Tryz.func119,Tryz.ntmps119;go_wp2
 go_loopg [6] n (fun gk i wr=>∃ (k:Nat) (M:List Nat),gk+k=n/\i=.int .i64 (k:Nat) /\
  Hid (Own wr g M)/\Aside (Wf M/\M.length=n+m/\sg M 0 (k+m)=sg xs 0 k*val bs/\But g W1 wr))
 case atStart=>exact ⟨0,_,ae,rfl,HO,Wf.zeros _,aW,by rw [qd,dO];simp,But.refl _ _⟩
 case round =>
  obtain ⟨i,L,wD,rfl,HM,HA⟩:=hrel
  by_cases hi:i<n
  · obtain ⟨hR,hS,hm,hb,hx,hn,hB1,hg⟩:=HR.o;obtain ⟨a,Qa,haB,rfl,hac⟩:=hR (by intro e;subst e;simp at hn;omega);have PK:g<=W1.heap.size:=by have:=hB1.size;omega
    have Zf:Aside (W1.cell? ⟨a,Qa+i,none⟩=some (.int .u32 ((xs.getD i 0:Nat):Int))/\a<B/\a<W1.heap.size):=⟨hac i ae,haB,mM W1 ⟨a,Qa+i,none⟩ (hac i ae)⟩;obtain ⟨q,hq⟩:∃ q:Nat,xs.getD i 0=q:=⟨_,rfl⟩;have ZZ:q<4294967296:=hq ▸ hx.get _;rw [hq] at Zf;have HQ:=ay hq;clear hq hR hS hm hb hx hn hB1 hg hac;go_wp2
    go_loopg [7,8] m (fun gk c kv w2=>∃ (k cv:Nat) (M:List Nat),gk+k=m/\c=.int .u64 (cv:Nat)/\cv<4294967296/\kv=.int .i64 (k:Nat) /\
     Hid (Own w2 g M)/\Aside (Wf M/\Out L M i k/\sg M i k+cv*pw k=sg L i k+sg bs 0 k*q/\But g W1 w2))
    case atStart=>exact ⟨0,0,L,ae,rfl,ae,rfl,HM,HA.o.1,Out.refl _ _ _,by simp [dO],HA.o.r3⟩
    case round =>
     obtain ⟨k,cv,M,hgk2,rfl,hcv,rfl,HN,HC⟩:=hrel
     by_cases hk:k<m
     · obtain ⟨hR,hS,hm,hb,hx,hn,hB1,hg⟩:=HR.o;obtain ⟨bu,eO,hMs,aG⟩:=HC.o;obtain ⟨qX,qW,_,_⟩:=HA.o;obtain ⟨b,eX,Gb,rfl,hbc⟩:=hS (by intro e;subst e;simp at hm;omega)
       have hbk:wr.cell? ⟨b,eX+k,none⟩=some (.int .u32 ((bs.getD k 0:Nat):Int)):=by
        have h1:=aG.block b (mM W1 ⟨b,eX+k,none⟩ (hbc k ae)) ae;exact (wF (a:=⟨b,eX+k,none⟩) h1).trans (hbc k ae)
       have hak:wr.cell? ⟨a,Qa+i,none⟩=some (.int .u32 (q:Nat)):=by
        have h1:=aG.block a Zf.o.r2 (by have:=Zf.o.2.1;omega);exact (wF (a:=⟨a,Qa+i,none⟩) h1).trans Zf.o.1
       have hgc:=HN.o.cell (i+k) (by rw [eO.1];omega);have hgf:=HN.o.frozen (i+k);obtain ⟨x,fH⟩:∃ x:Nat,M.getD (i+k) 0=x:=⟨_,rfl⟩;obtain ⟨y,mK⟩:∃ y:Nat,bs.getD k 0=y:=⟨_,rfl⟩;have hxl:x<4294967296:=fH ▸ bu.get _;have hyl:y<4294967296:=mK ▸ hb.get _;rw [fH] at hgc;rw [mK] at hbk;have hp0:=qR q y ZZ hyl;have hp2:(q:Int)*(y:Int)<=18446744065119617025:=by rw [<-fq];omega
       have hp1:0<=(q:Int)*(y:Int):=by rw [<-fq];omega
       obtain ⟨s,hs⟩:∃ s:Nat,s=(q*y+x+cv)%4294967296:=⟨_,rfl⟩;obtain ⟨d,hd⟩:∃ d:Nat,d=(q*y+x+cv)/4294967296:=⟨_,rfl⟩;have e0:((q*y+x+cv:Nat):Int)=(q:Int)*y+x+cv:=by simp only [Ah,fq]
       have e1:((q:Int)*y+x+cv)%4294967296=(s:Int):=by rw [<-e0];omega
       have e2:((q:Int)*y+x+cv)/4294967296=(d:Int):=by rw [<-e0];omega
       have HX:Aside (M.getD (i+k) 0=x/\bs.getD k 0=y/\s+d*4294967296=y*q+x+cv/\s<4294967296/\d<4294967296):=⟨fH,mK,by rw [dh y q];omega,ae,ae⟩;have hik:i+k<n+m:=ae
       clear fH mK hs hd hR hS hm hb hx hn hB1 hg bu eO hMs aG hbc e0 hp0 qX qW;go_wp2
       go_quiet (fail)
       go_wp2;go_roundg (gk-1)
       case measure=>omega
       case rel =>
        obtain ⟨fH,mK,he,hs,hd⟩:=HX.o;obtain ⟨hR,hS,hm,hb,hx,hn,hB1,hg⟩:=HR.o;obtain ⟨bu,eO,hMs,aG⟩:=HC.o;obtain ⟨qX,qW,_,_⟩:=HA.o;refine ⟨k+1,d,M.set (i+k) s,ae,by first | rfl | rw [e2],hd,by first | go_num | (congr 1;omega),HN.o.set _ _,bu.set _ _ hs,(eO.mono ae).set _ _ ae ae,?_,(But.drewN aG _).set _ _⟩;rw [bT _ _ _ _ (by rw [eO.1];omega),bJ L i k ae,bJ bs 0 k ae,dI,mK,bI];have e:L.getD (i+k) 0=x:=by rw [<-fH];exact (eO.2 _ ae).symm
        rw [e];exact uJ _ _ _ _ _ _ _ _ _ _ hMs he
     · obtain rfl:k=m:=ae
       obtain ⟨qX,qW,Z0,hLb⟩:=HA.o;have hgc:=HN.o.cell (i+k) (by rw [HC.o.2.1.1];omega);have hgf:=HN.o.frozen (i+k);have hik:i+k<n+k:=ae
       have hcm:(cv:Int)%4294967296=(cv:Int):=ae
       clear qX qW Z0 hLb;go_wp2;go_roundg (n-(i+1))
       case measure=>omega
       case rel =>
        obtain ⟨hR,hS,hm,hb,hx,hn,hB1,hg⟩:=HR.o;obtain ⟨bu,eO,hMs,aG⟩:=HC.o;obtain ⟨qX,qW,Z0,hLb⟩:=HA.o;refine ⟨i+1,M.set (i+k) cv,ae,by first | go_num | (congr 1;omega),HN.o.set _ _,bu.set _ _ hcv,by simp [eO.1,qW],?_,aG.set _ _⟩;have e2:sg bs 0 k=val bs:=by rw [hm];exact dH bs
        rw [e2] at hMs;exact Bt L M xs bs i n k cv q qW hi hn hm Z0 HQ.o eO hMs
  · obtain rfl:i=n:=ae
    obtain ⟨bu,dx,hMs,aG⟩:=HA.o;have T:=hid (jr L (some ⟨g,0,none⟩) (i+m) (i+m) (g+1) wr dx.symm (aH _) ae bu (by simpa [dx,eF] using Rd.gJ HM.o 0 (i+m)) (fun e=>by cases e));clear bu dx hMs aG;go_wp2_with fail;refine T.o.mono ?_;rintro r w1 ⟨v,rfl,SH,hbb⟩;have HZ:=(bB SH hbb);clear SH hbb;go_wp2;go_ret;obtain ⟨hR,hS,hm,hb,hx,hn,hB1,hg⟩:=HR.o;obtain ⟨bu,dx,hMs,aG⟩:=HA.o;have e1:sg L 0 (i+m)=val L:=by rw [<-dx];exact dH L
    have e2:sg xs 0 i=val xs:=by rw [hn];exact dH xs
    rw [e1,e2] at hMs;have hsz1:=hB1.size;have hsz2:=aG.size;have hbel:Below g w wr:=But.below hB1 aG ae (aH _);rw [<-hMs,<-hg];exact ⟨v,rfl,HZ.o.1.mono ae,hbel.trans (HZ.o.2.mono ae)⟩
theorem kE {w:World}{a b:Option Addr}{n c m d:Nat}{xs ys:List Nat}{V:Nat}(h1:Arg w a n c xs) (h2:Arg w b m d ys) (hs:n+m<=35184372088832) (e:val xs*val ys=V) :
 Calls Tryz.prog 119 #[.slice a n c,.slice b m d] w fun r w'=>∃ v,r=.returned v/\Nt w.heap.size w' v V/\Below w.heap.size w w':=by
 subst e;exact Eo xs ys a b n c m d w.heap.size w h1.len h2.len h1.cap h2.cap hs h1.wf h2.wf h1.rd h2.rd (aH _)
theorem xU {w:World}{a b:Option Addr}{n c m d:Nat}{xs ys:List Nat}{V:Nat}(h1:Arg w a n c xs) (h2:Arg w b m d ys) (hs1:n<=35184372088000) (hs2:m<=35184372088000) (e:val xs+val ys=V) :
 Calls Tryz.prog 136 #[.slice a n c,.slice b m d] w fun r w'=>∃ v,r=.returned v/\Nt w.heap.size w' v V/\Below w.heap.size w w':=by
 subst e;exact Ji xs ys a b n c m d w.heap.size w h1.len h2.len h1.cap h2.cap hs1 hs2 h1.wf h2.wf h1.rd h2.rd (aH _)
theorem pz {w:World}{a b:Option Addr}{n c m d:Nat}{xs ys:List Nat}{V:Nat}(h1:Arg w a n c xs) (h2:Arg w b m d ys) (hs1:n<=35184372088000) (hs2:m<=35184372088000) (e:V+val ys=val xs) :
 Calls Tryz.prog 138 #[.slice a n c,.slice b m d] w fun r w'=>∃ v,r=.returned v/\Nt w.heap.size w' v V/\Below w.heap.size w w':=by
 have h:=Em xs ys a b n c m d w.heap.size w h1.len h2.len h1.cap h2.cap hs1 hs2 h1.wf h2.wf h1.rd h2.rd (aH _) ae;rw [show val xs-val ys=V by omega] at h;exact h
theorem jH {w:World}{a b:Option Addr}{n c m d:Nat}{xs ys:List Nat}(h1:Arg w a n c xs) (h2:Arg w b m d ys) (z:Int) (e:bE (val xs) (val ys)=z) :
 Calls Tryz.prog 137 #[.slice a n c,.slice b m d] w fun r w'=>r=.returned (.int .i64 z)/\Below w.heap.size w w':=by
 have:=ME xs ys a b n c m d w.heap.size w h1.len h2.len (by have:=h1.big;omega) (by have:=h2.big;omega) h1.wf h2.wf h1.rd h2.rd;rw [e] at this;exact this
theorem qw (w:World) (d:Nat) (hd:d<4294967296):Arg (w.alloc (.cells #[.int .u32 (d:Int)] 147)) (some ⟨w.heap.size,0,none⟩) 1 1 [d]:=by
 refine ⟨rfl,aH _,ae,Wf.cons hd Wf.nil,fun _=>⟨w.heap.size,0,aW,rfl,fun i hi=>?_⟩,fun e=>by cases e⟩;obtain rfl:i=0:=by simpa using hi
 unfold World.cell?;simp only [iJ];rfl
theorem af (w:World) (o:Obj):Below w.heap.size w (w.alloc o):=(ak _ _).alloc (aH _) _
theorem MG (N n:Nat) (h:N<pw n):bl N<=32*n:=by
 by_cases h0:N=0
 · rw [h0,dJ];omega
 · have h1:=iG N h0;rcases mH (32*n) (bl N) with h2|h2
   · exfalso;have h3:2^(32*n)<=2^(bl N-1):=fE ae ae;have h4:pw n=2^(32*n):=by unfold pw;rw [mW]
     omega
   · exact h2
theorem Nt.but {lo g:Nat}{w w':World}{v:Value}{X:Nat}(h:Nt lo w v X) (hb:But g w w') (hg:g<lo):Nt lo w' v X:=by
 have h1:Rw lo w v (ws X).length ((ws X).map U):=h
 exact rz h1 fun b hb2=>by
  obtain ⟨h2,h3⟩:=h.lt b hb2;exact hb.block b h3 ae
theorem xV {w:World}{a:Option Addr}{n c:Nat}{xs:List Nat}{V:Nat}(h1:Arg w a n c xs) (e:val xs=V) :
 Calls Tryz.prog 121 #[.slice a n c] w fun r w'=>∃ v,r=.returned v/\Nt w.heap.size w' v V/\Below w.heap.size w w':=by
 subst e;exact jr xs a n c w.heap.size w h1.len h1.cap h1.big h1.wf h1.rd h1.nil
theorem Gz {x y:Nat}(h:y<=x):0<=bE x y:=by unfold bE;split <;> (try split) <;> omega
theorem Qb {x y:Nat}(h:x<=y):bE x y<=0:=by unfold bE;split <;> (try split) <;> omega
theorem Jl (X Y f t:Nat) (h1:Y*f<=X) (h2:X<Y*t) (h3:f<t) (h4:t-f<=1):X/Y=f:=by
 obtain rfl:t=f+1:=ae
 exact Nat.div_eq_of_lt_le (by rw [dh];exact h1) (by rw [dh];exact h2)
theorem Jm {w:World}{a b:Option Addr}{n c m d:Nat}{xs ys:List Nat}(h1:Arg w a n c xs) (h2:Arg w b m d ys) (hm:m<=35184372088000) (hlt:val xs<val ys*4294967296) :
 Calls Tryz.prog 212 #[.slice a n c,.slice b m d] w fun r w'=>∃ v,r=.returned (.tuple #[.int .u32 ((val xs/val ys:Nat):Int),v])/\Nt w.heap.size w' v (val ys*(val xs/val ys))/\Below w.heap.size w w':=by
 have hlo:=aH w.heap.size;obtain ⟨X,hX⟩:∃ X,val xs=X:=⟨_,rfl⟩;obtain ⟨Y,hY⟩:∃ Y,val ys=Y:=⟨_,rfl⟩;have uV:=cK ys h2.wf;rw [<-h2.len,hY] at uV;rw [hX,hY] at hlt |-;have HX:=(jE h1 h2 hX hY hlt uV);clear h1 h2 hX hY hlt uV;go_enter Tryz.func212,Tryz.ntmps212;go_wp2
 go_loopg [6,7,8] 4294967296 (fun gk fv tv bv wr=>∃ (f t:Nat),gk+f=t/\fv=.int .u64 (f:Nat)/\tv=.int .u64 (t:Nat)/\f<t/\t<=4294967296/\Aside (Y*f<=X/\X<Y*t/\Below w.heap.size w wr/\Nt w.heap.size wr bv (Y*f)))
 case atStart=>exact ⟨0,4294967296,ae,rfl,rfl,ae,ae,ae,HX.o.r4.1,ak _ _,by rw [mX];exact Nt.nil _ _⟩
 case round =>
  obtain ⟨f,t,hgt,rfl,rfl,hft,ht,HA⟩:=hrel
  by_cases hend:t-f<=1
  · obtain ⟨p1,p2,p3,p4⟩:=HA.o;have HQ:=ay (Jl X Y f t p1 p2 hft hend);obtain rfl:t=f+1:=ae
    clear p1 p2 p3 p4;have hff:f<4294967296:=ae
    go_wp2
    go_ret2
    rw [HQ.o];exact ⟨_,by first | rfl | (congr 1),HA.o.r3,HA.o.r2.1⟩
  · obtain ⟨mid,hmid⟩:=ah ((f+t)/2);have em:((f:Int)+(t:Int))/2=(mid:Int):=ae
    have hm1:f<mid:=ae
    have hm2:mid<t:=ae
    have hm3:mid<4294967296:=ae
    have em2:(mid:Int)%4294967296=(mid:Int):=ae
    have hgo:(1:Int)<(t:Int)-(f:Int):=ae
    obtain ⟨h1,h2,hX,hY,hlt,uV⟩:=HX.o;obtain ⟨p1,p2,p3,p4⟩:=HA.o;have hsz:=p3.size;have T1:=hid (kE (V:=Y*mid) ((h2.below p3).below (af wr _)) (qw wr mid hm3) ae (by rw [hY];simp [val]));have Z4:Y*mid<pw (m+1):=by rw [bI,dh 4294967296];exact Aq uV hm3
    have hwl:(ws (Y*mid)).length<=m+1:=(aV _ _).2 Z4;clear h1 h2 hX hY hlt uV p1 p2 p3 p4 Z4 hmid;go_wp2_with fail;refine T1.o.mono ?_;rintro r u1 ⟨v,rfl,hN,hb⟩;obtain ⟨a1,c1,rfl,A1⟩:=hN.arg ae;obtain ⟨h1,h2,hX,hY,hlt,uV⟩:=HX.o;obtain ⟨p1,p2,p3,p4⟩:=HA.o;have hb2:Below wr.heap.size wr u1:=(af wr _).trans (hb.mono aW);have q3:Below w.heap.size w u1:=p3.trans (hb2.mono hsz);have q4:=p4.below hb2;have q5:=hN.mono (lo':=w.heap.size) (by simp;omega);have hs1:=hb2.size
    by_cases hle:Y*mid<=X
    · obtain ⟨z,hz⟩:∃ z,bE (Y*mid) X=z:=⟨_,rfl⟩;have hz0:z<=0:=hz ▸ Qb hle;have C1:=hid (jH A1 (h1.below q3) z (by rw [ax,hX];exact hz));have S1:=(jK p2 q3 q5 hle);clear h1 h2 hX hY hlt uV p1 p2 p3 p4 q3 q4 q5 hN hb hb2 A1 hz hle T1 HA;go_wp2_with fail;refine C1.o.mono ?_;rintro r u2 ⟨rfl,hb⟩;have S2:=(bB (S1.o.2.1.trans (hb.mono ae)) (S1.o.r2.1.below hb));clear hb C1;go_wp2;go_roundg (t-mid)
      case measure=>omega
      case rel=>exact ⟨mid,t,ae,rfl,rfl,hm2,ht,S1.o.r3,S1.o.1,S2.o.1,S2.o.2⟩
    · have hz:bE (Y*mid) X=1:=qh ae;have C1:=hid (jH A1 (h1.below q3) 1 (by rw [ax,hX];exact hz));have S1:=(jK p1 q3 q4 hle);clear h1 h2 hX hY hlt uV p1 p2 p3 p4 q3 q4 q5 hN hb hb2 A1 hz hle T1 HA;go_wp2_with fail;refine C1.o.mono ?_;rintro r u2 ⟨rfl,hb⟩;have S2:=(bB (S1.o.2.1.trans (hb.mono ae)) (S1.o.r2.1.below hb));clear hb C1;go_wp2;go_roundg (mid-f)
      case measure=>omega
      case rel=>exact ⟨f,mid,ae,rfl,rfl,hm1,ae,S1.o.1,by have:=S1.o.r3;omega,S2.o.1,S2.o.2⟩
end
end Go.Proofs.YtblkpkgebigojaaGreatDoor
