import Derived.Deep.LoopGhost
import Ieee.Arith
import Derived.Test.YtepkabljmpbmaaaGreatDoorProg
import Derived.Laws.Externs
import Derived.WalkKit
import Derived.WalkLawsBesides
import Derived.Laws.BitsAllLaws
import Derived.WalkSpells
import Derived.Test.YtepkabljmpbmaaaGreatDoorRows
import Derived.OwnWalk
import Derived.Below
import Derived.Laws.OwnMore
import Derived.Laws.CopyOwn
import Derived.Laws.Bits64b
set_option linter.unusedVariables false
set_option linter.unusedSimpArgs false
set_option maxHeartbeats 16000000
set_option maxRecDepth 20000
namespace Go.Proofs.YtepkabljmpbmaaaGreatDoor
theorem ai {a b:Prop} (x:a) (y:b):a∧b:=⟨x,y⟩
theorem qsd {a:Prop} (x:a):Aside a:=x
namespace B
open Ieee
def val (f:Format) (r:Nat):Nat:=if r<f.binade then r else (f.binade+r%f.binade)*2^(r/f.binade-1)
theorem binade_pos (f:Format):0<f.binade:=Nat.two_pow_pos _
theorem val_succ (f:Format) (r:Nat):val f (r+1)=val f r+2^(r/f.binade-1):=by
 have hb:=binade_pos f;unfold val;generalize hB:f.binade=B at *
 by_cases h:r<B
 · rw [if_pos h,Nat.div_eq_of_lt h]
   by_cases h1:r+1<B
   · rw [if_pos h1]
   · have e:r+1=B:=by omega
     rw [if_neg h1,e,Nat.mod_self,Nat.div_self hb];simp
 · have h1:¬ r+1<B:=by omega
   rw [if_neg h,if_neg h1]
   have hq:1≤r/B:=by
    have:=Nat.div_le_div_right (c:=B) (Nat.le_of_not_lt h);rw [Nat.div_self hb] at this;exact this
   have hm:=Nat.mod_lt r hb;have hd:=Nat.div_add_mod r B;generalize r/B=q at *;generalize hmm:r%B=m at *;obtain ⟨q,rfl⟩:∃ k,q=k+1:=⟨q-1,by omega⟩
   by_cases h2:m+1<B
   · have e:r+1=B*(q+1)+(m+1):=by omega
     have e1:(r+1)%B=m+1:=by rw [e,Nat.mul_add_mod,Nat.mod_eq_of_lt h2]
     have e2:(r+1)/B=q+1:=by rw [e,Nat.mul_add_div hb,Nat.div_eq_of_lt h2]
     rw [e1,e2,Nat.add_sub_cancel,←Nat.add_assoc,Nat.add_mul,Nat.one_mul]
   · have hm1:m+1=B:=by omega
     have e:r+1=B*(q+2):=by rw [show q+2=(q+1)+1 from rfl,Nat.mul_succ];omega
     have e1:(r+1)%B=0:=by rw [e,Nat.mul_mod_right]
     have e2:(r+1)/B=q+2:=by rw [e,Nat.mul_div_cancel_left _ hb]
     rw [e1,e2];have:B+m=2*B-1:=by omega
     have h3:(B+m)*2^q+2^q=(2*B)*2^q:=by
      rw [←Nat.succ_mul];congr 1;omega
     show (B+0)*2^(q+1)=(B+m)*2^q+2^q;rw [h3,Nat.pow_succ,Nat.add_zero,Nat.mul_comm 2 B,Nat.mul_assoc,Nat.mul_comm 2]
theorem val_lt_succ (f:Format) (r:Nat):val f r<val f (r+1):=by
 rw [val_succ];exact Nat.lt_add_of_pos_right (Nat.two_pow_pos _)
theorem val_lt (f:Format) {r s:Nat}(h:r<s):val f r<val f s:=by
 induction s with
 | zero=>omega
 | succ s ih =>
   by_cases e:r=s
   · subst e;exact val_lt_succ f r
   · exact Nat.lt_trans (ih (by omega)) (val_lt_succ f s)
theorem val_lt_iff (f:Format) {r s:Nat}:val f r<val f s↔r<s:=by
 constructor
 · intro h
   by_cases e:r<s
   · exact e
   · by_cases e2:r=s
     · subst e2;omega
     · have:=val_lt f (show s<r by omega);omega
 · exact val_lt f
theorem val_inj (f:Format) {r s:Nat}(h:val f r=val f s):r=s:=by
 by_cases e:r<s
 · have:=val_lt f e;omega
 · by_cases e2:s<r
   · have:=val_lt f e2;omega
   · omega
theorem val_zero (f:Format):val f 0=0:=by
 unfold val;rw [if_pos (binade_pos f)]
def sg (s:Bool) (r:Nat):Int:=if s then -(r:Int) else r
theorem sg_val_lt (f:Format) (s t:Bool) (r u:Nat):sg s (val f r)<sg t (val f u)↔sg s r<sg t u:=by
 have h1:=@val_lt_iff f r u;have h2:=@val_lt_iff f u r;have z:=val_zero f;have h3:=@val_lt_iff f 0 r;have h4:=@val_lt_iff f 0 u
 cases s <;> cases t <;> simp only [sg,if_true,if_false,Bool.false_eq_true] <;> omega
theorem signed_eq (s:Bool) (m k:Nat):signed s m k=sg s (m*2^k):=by
 unfold signed sg;rw [Nat.shiftLeft_eq]
theorem read_word (f:Format) (s:Bool) (r:Nat) (hr:r<f.infRung) (hs:f.infRung<f.signWeight) :
 ∃ m:Nat,∃ k:Nat,f.read (f.word s r)=.number s m (f.leastPlace+k)∧m*2^k=val f r:=by
 have e1:(f.word s r/f.signWeight%2==1)=s:=by
  unfold Format.word
  cases s
  · simp only [Bool.false_eq_true,if_false];rw [Nat.div_eq_of_lt (by omega)];rfl
  · simp only [if_true];rw [Nat.add_div_left _ (by omega),Nat.div_eq_of_lt (by omega)];rfl
 have e2:f.word s r%f.signWeight=r:=by
  unfold Format.word
  cases s
  · simp only [Bool.false_eq_true,if_false];exact Nat.mod_eq_of_lt (by omega)
  · simp only [if_true];rw [Nat.add_mod_left];exact Nat.mod_eq_of_lt (by omega)
 unfold Format.read;simp only [e1,e2];unfold val
 by_cases h:r<f.binade
 · rw [if_pos h,if_pos h];exact ⟨r,0,by simp,by simp⟩
 · rw [if_neg h,if_neg h,if_pos hr];exact ⟨_,_,rfl,rfl⟩
theorem read_inf (f:Format) (s:Bool) (hs:f.infRung<f.signWeight) (hb:f.binade≤f.infRung) :
 f.read (f.word s f.infRung)=.infinity s:=by
 have e1:(f.word s f.infRung/f.signWeight%2==1)=s:=by
  unfold Format.word
  cases s
  · simp only [Bool.false_eq_true,if_false];rw [Nat.div_eq_of_lt (by omega)];rfl
  · simp only [if_true];rw [Nat.add_div_left _ (by omega),Nat.div_eq_of_lt (by omega)];rfl
 have e2:f.word s f.infRung%f.signWeight=f.infRung:=by
  unfold Format.word
  cases s
  · simp only [Bool.false_eq_true,if_false];exact Nat.mod_eq_of_lt (by omega)
  · simp only [if_true];rw [Nat.add_mod_left];exact Nat.mod_eq_of_lt (by omega)
 unfold Format.read;simp only [e1,e2];rw [if_neg (by omega),if_neg (by omega),if_pos trivial]
theorem read_nan (f:Format) (w:Nat) (h:f.infRung<w%f.signWeight) (hb:f.binade≤f.infRung) :
 f.read w=.nan (w/f.signWeight%2==1) (w%f.signWeight-f.infRung):=by
 unfold Format.read;simp only;rw [if_neg (by omega),if_neg (by omega),if_neg (by omega)]
theorem compare_of (a b c d:Int) (h1:a<b↔c<d) (h2:b<a↔d<c):compare a b=compare c d:=by
 by_cases x:a<b
 · rw [Int.compare_eq_lt.2 x,Int.compare_eq_lt.2 (h1.1 x)]
 · by_cases y:b<a
   · rw [Int.compare_eq_gt.2 y,Int.compare_eq_gt.2 (h2.1 y)]
   · have e1:a=b:=by omega
     have e2:c=d:=by
      have n1:=mt h1.2 x;have n2:=mt h2.2 y;omega
     rw [Int.compare_eq_eq.2 e1,Int.compare_eq_eq.2 e2]
theorem sg_mul (s:Bool) (a k:Nat):sg s (a*k)=sg s a*(k:Int):=by
 unfold sg;cases s <;> simp [Int.neg_mul]
theorem order_num (s t:Bool) (m n j k:Nat) (p:Int) :
 Datum.order (.number s m (p+j)) (.number t n (p+k))=some (compare (sg s (m*2^j)) (sg t (n*2^k))):=by
 unfold Datum.order;simp only [signed_eq];congr 1;have hb:∃ c:Nat,min (p+(j:Int)) (p+(k:Int))=p+c:=⟨min j k,by omega⟩;obtain ⟨c,hc⟩:=hb;have hj:(p+(j:Int)-min (p+(j:Int)) (p+(k:Int))).toNat=j-c:=by rw [hc];omega
 have hk:(p+(k:Int)-min (p+(j:Int)) (p+(k:Int))).toNat=k-c:=by rw [hc];omega
 have cj:c≤j:=by omega
 have ck:c≤k:=by omega
 rw [hj,hk];have ej:m*2^j=m*2^(j-c)*2^c:=by rw [Nat.mul_assoc,←Nat.pow_add,Nat.sub_add_cancel cj]
 have ek:n*2^k=n*2^(k-c)*2^c:=by rw [Nat.mul_assoc,←Nat.pow_add,Nat.sub_add_cancel ck]
 rw [ej,ek,sg_mul s (m*2^(j-c)),sg_mul t (n*2^(k-c))];have hp:(0:Int)<((2^c:Nat):Int):=by exact_mod_cast Nat.two_pow_pos c
 refine compare_of _ _ _ _ ?_ ?_
 · exact ⟨fun h=>Int.mul_lt_mul_of_pos_right h hp,fun h=>Int.lt_of_mul_lt_mul_right h (Int.le_of_lt hp)⟩
 · exact ⟨fun h=>Int.mul_lt_mul_of_pos_right h hp,fun h=>Int.lt_of_mul_lt_mul_right h (Int.le_of_lt hp)⟩
theorem order_word (f:Format) (hs:f.infRung<f.signWeight) (hb:f.binade≤f.infRung) (s t:Bool) (r u:Nat) (hr:r≤f.infRung) (hu:u≤f.infRung) :
 f.order (f.word s r) (f.word t u)=some (compare (sg s r) (sg t u)):=by
 have hB:=binade_pos f;unfold Format.order
 by_cases r1:r=f.infRung
 · by_cases u1:u=f.infRung
   · subst r1 u1;rw [read_inf f s hs hb,read_inf f t hs hb];unfold Datum.order;simp only;congr 1
     cases s <;> cases t <;> simp only [sg,Bool.toNat_true,Bool.toNat_false,if_true,if_false,Bool.false_eq_true]
     · rw [Int.compare_eq_eq.2 rfl];rfl
     · rw [Int.compare_eq_gt.2 (by omega)];rfl
     · rw [Int.compare_eq_lt.2 (by omega)];rfl
     · rw [Int.compare_eq_eq.2 rfl];rfl
   · obtain ⟨n,k,e,hv⟩:=read_word f t u (by omega) hs;subst r1;rw [read_inf f s hs hb,e];unfold Datum.order;simp only
     cases s <;> cases t <;> simp only [sg,if_true,if_false,Bool.false_eq_true] <;>
      first | rw [Int.compare_eq_gt.2 (by omega)] | rw [Int.compare_eq_lt.2 (by omega)]
 · obtain ⟨m,j,e,hv⟩:=read_word f s r (by omega) hs
   by_cases u1:u=f.infRung
   · subst u1;rw [read_inf f t hs hb,e];unfold Datum.order;simp only
     cases s <;> cases t <;> simp only [sg,if_true,if_false,Bool.false_eq_true] <;>
      first | rw [Int.compare_eq_gt.2 (by omega)] | rw [Int.compare_eq_lt.2 (by omega)]
   · obtain ⟨n,k,e2,hv2⟩:=read_word f t u (by omega) hs;rw [e,e2,order_num,hv,hv2];congr 1;exact compare_of _ _ _ _ (sg_val_lt f s t r u) (sg_val_lt f t s u r)
def rte (n g:Nat):Nat:=n/g+(decide (g<2*(n%g)) || (g==2*(n%g)&&n/g%2==1)).toNat
theorem cut_even (neg:Bool) (n drop:Nat):Toward.even.cut neg n drop=rte n (2^drop):=by
 unfold Toward.cut rte;simp only [Nat.shiftLeft_eq,Nat.one_mul]
 by_cases h:drop≤n.log2+2
 · rw [Nat.min_eq_left h]
 · rw [Nat.min_eq_right (by omega)];have hn:n<2^(n.log2+1):=Nat.lt_log2_self;have h1:n<2^(n.log2+2):=by rw [Nat.pow_succ];omega
   have h2:2^(n.log2+2)≤2^drop:=Nat.pow_le_pow_right (by omega) (by omega);have h3:2*n<2^(n.log2+2):=by rw [Nat.pow_succ];omega
   rw [Nat.div_eq_of_lt h1,Nat.mod_eq_of_lt h1,Nat.div_eq_of_lt (show n<2^drop by omega),Nat.mod_eq_of_lt (show n<2^drop by omega)];have a1:decide (2^(n.log2+2)<2*n)=false:=by simp;omega
   have a2:decide (2^drop<2*n)=false:=by simp;omega
   simp only [a1,a2,Nat.zero_mod];simp
theorem rte_exact (n g:Nat) (hg:0<g):rte (n*g) g=n:=by
 unfold rte;rw [Nat.mul_div_cancel _ hg,Nat.mul_mod_left];have:decide (g<2*0)=false:=by simp
 have h2:(g==2*0)=false:=by simp;omega
 rw [this,h2];simp
theorem rte_one (n:Nat):rte n 1=n:=by
 have:=rte_exact n 1 (by omega);rwa [Nat.mul_one] at this
theorem nearest_exact (f:Format) (neg:Bool) (mag k r:Nat) (hr:r<f.infRung) (h:mag*2^k=val f r) :
 f.nearest neg mag (f.leastPlace+k)=f.word neg r:=by
 unfold Format.nearest
 by_cases hm:mag=0
 · rw [if_pos hm];have:val f r=val f 0:=by rw [val_zero,←h,hm,Nat.zero_mul]
   rw [val_inj f this]
 · rw [if_neg hm];simp only [cut_even,Nat.shiftLeft_eq];have hl:=(Nat.log2_eq_iff hm (k:=mag.log2)).1 rfl;generalize mag.log2=L at *;have hB:f.binade=2^f.fractionBits:=rfl;have hb:=binade_pos f;unfold val at h
   by_cases hlt:r<f.binade
   · rw [if_pos hlt] at h
     have h1:2^(L+k)<2^f.fractionBits:=by
      rw [Nat.pow_add,←hB];exact Nat.lt_of_le_of_lt (Nat.mul_le_mul_right _ hl.1) (by omega)
     have h2:=(Nat.pow_lt_pow_iff_right (a:=2) (by omega)).1 h1;have e:max (f.leastPlace+(k:Int)+(L:Int)-(f.fractionBits:Int)) f.leastPlace=f.leastPlace:=by omega
     rw [e];have e1:(f.leastPlace+(k:Int)-f.leastPlace).toNat=k:=by omega
     have e2:(f.leastPlace-(f.leastPlace+(k:Int))).toNat=0:=by omega
     have e3:(f.leastPlace-f.leastPlace).toNat=0:=by omega
     rw [e1,e2,e3,h,Nat.pow_zero,rte_one,Nat.zero_mul,Nat.zero_add,Nat.min_eq_left (by omega)]
   · rw [if_neg hlt] at h
     have hq:1≤r/f.binade:=by
      have:=Nat.div_le_div_right (c:=f.binade) (Nat.le_of_not_lt hlt);rw [Nat.div_self hb] at this;exact this
     have hmm:=Nat.mod_lt r hb;have hd:=Nat.div_add_mod r f.binade;generalize r/f.binade=q at *;generalize r%f.binade=m at *;obtain ⟨q,rfl⟩:∃ j,q=j+1:=⟨q-1,by omega⟩;rw [Nat.add_sub_cancel] at h
     -- the logarithms
     have lo1:2^(L+k)≤mag*2^k:=by rw [Nat.pow_add];exact Nat.mul_le_mul_right _ hl.1
     have hi1:mag*2^k<2^(L+1+k):=by rw [Nat.pow_add];exact Nat.mul_lt_mul_of_pos_right hl.2 (Nat.two_pow_pos _)
     have lo2:2^(f.fractionBits+q)≤(f.binade+m)*2^q:=by rw [Nat.pow_add];exact Nat.mul_le_mul_right _ (by omega)
     have hi2:(f.binade+m)*2^q<2^(f.fractionBits+1+q):=by
      rw [Nat.pow_add,Nat.pow_succ];exact Nat.mul_lt_mul_of_pos_right (by omega) (Nat.two_pow_pos _)
     have c1:=(Nat.pow_lt_pow_iff_right (a:=2) (by omega)).1 (show 2^(L+k)<2^(f.fractionBits+1+q) by omega);have c2:=(Nat.pow_lt_pow_iff_right (a:=2) (by omega)).1 (show 2^(f.fractionBits+q)<2^(L+1+k) by omega);have cL:L+k=f.fractionBits+q:=by omega
     have e:max (f.leastPlace+(k:Int)+(L:Int)-(f.fractionBits:Int)) f.leastPlace=f.leastPlace+q:=by omega
     rw [e];have e3:(f.leastPlace+(q:Int)-f.leastPlace).toNat=q:=by omega
     rw [e3]
     have fin:q*f.binade+(f.binade+m)=r:=by
      rw [←hd,Nat.mul_succ,Nat.mul_comm q];omega
     by_cases hk:q≤k
     · have e1:(f.leastPlace+(k:Int)-(f.leastPlace+(q:Int))).toNat=k-q:=by omega
       have e2:(f.leastPlace+(q:Int)-(f.leastPlace+(k:Int))).toNat=0:=by omega
       have hh:mag*2^(k-q)=f.binade+m:=by
        have:mag*2^(k-q)*2^q=(f.binade+m)*2^q:=by
         rw [Nat.mul_assoc,←Nat.pow_add,Nat.sub_add_cancel hk];exact h
        exact Nat.eq_of_mul_eq_mul_right (Nat.two_pow_pos _) this
       rw [e1,e2,hh,Nat.pow_zero,rte_one,fin,Nat.min_eq_left (by omega)]
     · have e1:(f.leastPlace+(k:Int)-(f.leastPlace+(q:Int))).toNat=0:=by omega
       have e2:(f.leastPlace+(q:Int)-(f.leastPlace+(k:Int))).toNat=q-k:=by omega
       have hh:mag=(f.binade+m)*2^(q-k):=by
        have:mag*2^k=(f.binade+m)*2^(q-k)*2^k:=by
         rw [Nat.mul_assoc,←Nat.pow_add,Nat.sub_add_cancel (by omega)];exact h
        exact Nat.eq_of_mul_eq_mul_right (Nat.two_pow_pos _) this
       rw [e1,e2,Nat.pow_zero,Nat.mul_one,hh,rte_exact _ _ (Nat.two_pow_pos _),fin,Nat.min_eq_left (by omega)]
end B
namespace B
open Ieee
theorem val_at (f:Format) (j c:Nat) (h:j=0∨f.binade≤c) (hc:c≤2*f.binade):val f (j*f.binade+c)=c*2^j:=by
 have hb:=binade_pos f;unfold val;generalize f.binade=B at *
 by_cases h1:c<B
 · have hj:j=0:=by omega
   subst hj;rw [Nat.zero_mul,Nat.zero_add,if_pos h1,Nat.pow_zero,Nat.mul_one]
 · have h2:¬ j*B+c<B:=by
    have:=Nat.zero_le (j*B);omega
   rw [if_neg h2]
   by_cases h3:c=2*B
   · subst h3;have e:j*B+2*B=(j+2)*B:=by rw [Nat.add_mul]
     rw [e,Nat.mul_mod_left,Nat.mul_div_cancel _ hb,Nat.add_zero,show j+2-1=j+1 from rfl,Nat.pow_succ,Nat.mul_comm 2 B,Nat.mul_assoc,Nat.mul_comm 2]
   · have e:j*B+c=B*(j+1)+(c-B):=by
      rw [Nat.mul_succ,Nat.mul_comm j];omega
     have e1:(j*B+c)%B=c-B:=by rw [e,Nat.mul_add_mod,Nat.mod_eq_of_lt (by omega)]
     have e2:(j*B+c)/B=j+1:=by rw [e,Nat.mul_add_div hb,Nat.div_eq_of_lt (by omega)]
     rw [e1,e2,Nat.add_sub_cancel,show B+(c-B)=c from by omega]
theorem nearest_near (f:Format) (neg:Bool) (mag k a:Nat) (hm:mag≠0) :
 ∃ R,f.nearest neg mag (f.leastPlace+(k:Int)-(a:Int))=f.word neg (min R f.infRung) ∧
   (val f R*2^a≤mag*2^k→mag*2^k<val f (R+1)*2^a) ∧
   (mag*2^k<val f R*2^a→0<R∧val f (R-1)*2^a<mag*2^k):=by
 unfold Format.nearest;rw [if_neg hm];simp only [cut_even,Nat.shiftLeft_eq];have hl:=(Nat.log2_eq_iff hm (k:=mag.log2)).1 rfl;generalize mag.log2=L at *;have hB:f.binade=2^f.fractionBits:=rfl;have hb:=binade_pos f
 obtain ⟨j,hj⟩:∃ j:Nat,max (f.leastPlace+(k:Int)-(a:Int)+(L:Int)-(f.fractionBits:Int)) f.leastPlace=f.leastPlace+j :=
  ⟨(max (f.leastPlace+(k:Int)-(a:Int)+(L:Int)-(f.fractionBits:Int)) f.leastPlace-f.leastPlace).toNat,by omega⟩
 have hj1:k+L≤a+f.fractionBits+j:=by omega
 have hj2:j=0∨k+L=a+f.fractionBits+j:=by omega
 rw [hj];have e3:(f.leastPlace+(j:Int)-f.leastPlace).toNat=j:=by omega
 have e1:(f.leastPlace+(k:Int)-(a:Int)-(f.leastPlace+(j:Int))).toNat=k-(a+j):=by omega
 have e2:(f.leastPlace+(j:Int)-(f.leastPlace+(k:Int)-(a:Int))).toNat=a+j-k:=by omega
 rw [e1,e2,e3];have hg:0<2^(a+j-k):=Nat.two_pow_pos _
 -- V*g=m'*2^(a+j)
 have hV:mag*2^k*2^(a+j-k)=mag*2^(k-(a+j))*2^(a+j):=by
  rw [Nat.mul_assoc,Nat.mul_assoc,←Nat.pow_add,←Nat.pow_add];congr 2;omega
 have up:mag*2^(k-(a+j))<2*f.binade*2^(a+j-k):=by
  have:2*f.binade=2^(f.fractionBits+1):=by rw [hB,Nat.pow_succ,Nat.mul_comm]
  rw [this,←Nat.pow_add];refine Nat.lt_of_lt_of_le (Nat.mul_lt_mul_of_pos_right hl.2 (Nat.two_pow_pos _)) ?_;rw [←Nat.pow_add];exact Nat.pow_le_pow_right (by omega) (by omega)
 have dn:j=0∨f.binade*2^(a+j-k)≤mag*2^(k-(a+j)):=by
  rcases hj2 with h|h
  · exact Or.inl h
  · right
    refine Nat.le_trans ?_ (Nat.mul_le_mul_right _ hl.1);rw [hB,←Nat.pow_add,←Nat.pow_add];exact Nat.pow_le_pow_right (by omega) (by omega)
 generalize hm':mag*2^(k-(a+j))=m' at *;generalize 2^(a+j-k)=g at *;generalize mag*2^k=V at *;have hdm:=Nat.div_add_mod m' g;have hmod:=Nat.mod_lt m' hg;have hlow:m'/g<2*f.binade:=(Nat.div_lt_iff_lt_mul hg).2 up
 have hlow2:j=0∨f.binade≤m'/g:=by
  rcases dn with h|h
  · exact Or.inl h
  · exact Or.inr ((Nat.le_div_iff_mul_le hg).2 h)
 have hp2:0<2^(a+j):=Nat.two_pow_pos _
 -- the bounds
 have b1:m'/g*2^(a+j)≤V:=by
  refine Nat.le_of_mul_le_mul_right ?_ hg;rw [hV,Nat.mul_right_comm];exact Nat.mul_le_mul_right _ (by rw [Nat.mul_comm];omega)
 have b2:V<(m'/g+1)*2^(a+j):=by
  refine Nat.lt_of_mul_lt_mul_right (a:=g) ?_;rw [hV,Nat.mul_right_comm];refine Nat.mul_lt_mul_of_pos_right ?_ hp2;rw [Nat.add_mul,Nat.one_mul,Nat.mul_comm];omega
 have b3:m'%g≠0→m'/g*2^(a+j)<V:=by
  intro hr;refine Nat.lt_of_mul_lt_mul_right (a:=g) ?_;rw [hV,Nat.mul_right_comm];refine Nat.mul_lt_mul_of_pos_right ?_ hp2;rw [Nat.mul_comm];omega
 have v0:val f (j*f.binade+m'/g)*2^a=m'/g*2^(a+j):=by
  rw [val_at f j _ hlow2 (by omega),Nat.mul_assoc,←Nat.pow_add,Nat.add_comm j a]
 have v1:val f (j*f.binade+(m'/g+1))*2^a=(m'/g+1)*2^(a+j):=by
  rw [val_at f j _ (by omega) (by omega),Nat.mul_assoc,←Nat.pow_add,Nat.add_comm j a]
 refine ⟨j*f.binade+rte m' g,rfl,?_,?_⟩
 · unfold rte
   cases hc:(decide (g<2*(m'%g)) || (g==2*(m'%g)&&m'/g%2==1))
   · intro _;simp only [Bool.toNat_false,Nat.add_zero];rw [Nat.add_assoc,v1];exact b2
   · intro h;simp only [Bool.toNat_true] at h;rw [v1] at h;omega
 · unfold rte
   cases hc:(decide (g<2*(m'%g)) || (g==2*(m'%g)&&m'/g%2==1))
   · intro h;simp only [Bool.toNat_false,Nat.add_zero] at h;rw [v0] at h;omega
   · intro _;simp only [Bool.toNat_true];refine ⟨Nat.succ_pos _,?_⟩;rw [show j*f.binade+(m'/g+1)-1=j*f.binade+m'/g from rfl,v0];refine b3 (fun hr=>?_);rw [hr] at hc;simp at hc;omega
theorem nearest_exact2 (f:Format) (neg:Bool) (mag k a r:Nat) (hr:r<f.infRung) (h:mag*2^k=val f r*2^a) (hm:mag≠0) :
 f.nearest neg mag (f.leastPlace+(k:Int)-(a:Int))=f.word neg r:=by
 obtain ⟨R,e,h1,h2⟩:=nearest_near f neg mag k a hm;have hp:0<2^a:=Nat.two_pow_pos _
 have:R=r:=by
  by_cases c:val f R*2^a≤mag*2^k
  · have c2:=h1 c;rw [h] at c c2;have d1:=Nat.le_of_mul_le_mul_right c hp;have d2:=(val_lt_iff f).1 (Nat.lt_of_mul_lt_mul_right c2);have d3:¬ r<R:=fun hh=>by have:=val_lt f hh;omega
    omega
  · have c2:=h2 (by omega);rw [h] at c c2;have d1:=(val_lt_iff f).1 (Nat.lt_of_mul_lt_mul_right (a:=2^a) (Nat.lt_of_not_le c));have d2:=(val_lt_iff f).1 (Nat.lt_of_mul_lt_mul_right c2.2);omega
 rw [e,this,Nat.min_eq_left (by omega)]
end B
namespace J
open Ieee B
structure NEf (f:Format) (R V S:Nat):Prop where
 up:2*V≤(B.val f R+B.val f (R+1))*S
 upe:2*V=(B.val f R+B.val f (R+1))*S→R%2=0
 dn:0<R→(B.val f (R-1)+B.val f R)*S≤2*V
 dne:0<R→(B.val f (R-1)+B.val f R)*S=2*V→R%2=0
abbrev NE (R V S:Nat):Prop:=NEf double R V S
theorem vmono {R Q:Nat}(h:R≤Q):B.val double R≤B.val double Q:=by
 rcases Nat.lt_or_eq_of_le h with h|h
 · exact Nat.le_of_lt (B.val_lt _ h)
 · rw [h];exact Nat.le_refl _
theorem NEf.lt_no {R Q V S:Nat}(h:NE R V S) (k:NE Q V S) (hS:0<S) (hl:R<Q):False:=by
 have h1:=h.up;have h2:=k.dn (by omega);have m1:B.val double R≤B.val double (Q-1):=vmono (by omega);have m2:B.val double (R+1)≤B.val double Q:=vmono (by omega);have m3:=Nat.mul_le_mul_right S (Nat.add_le_add m1 m2);have e1:=h.upe (by omega);have e2:=k.dne (by omega) (by omega);have e3:(B.val double R+B.val double (R+1))*S=(B.val double (Q-1)+B.val double Q)*S:=by omega
 have e4:=Nat.eq_of_mul_eq_mul_right hS e3
 have:R+1=Q:=by
  apply Nat.le_antisymm (by omega);apply Nat.le_of_not_lt;intro hh;have:=B.val_lt double (show R<Q-1 by omega);omega
 omega
theorem NEf.one {R Q V S:Nat}(h:NE R V S) (k:NE Q V S) (hS:0<S):R=Q:=by
 rcases Nat.lt_trichotomy R Q with c|c|c
 · exact (h.lt_no k hS c).elim
 · exact c
 · exact (k.lt_no h hS c).elim
theorem NEf.own {K V S:Nat}(hS:0<S) (h:V=B.val double K*S):NE K V S:=by
 have h1:=Nat.mul_lt_mul_of_pos_right (B.val_lt_succ double K) hS;refine ⟨?_,?_,?_,?_⟩
 · rw [Nat.add_mul];omega
 · rw [Nat.add_mul];omega
 · intro h0;have h2:=Nat.mul_lt_mul_of_pos_right (B.val_lt double (show K-1<K by omega)) hS;rw [Nat.add_mul];omega
 · intro h0;have h2:=Nat.mul_lt_mul_of_pos_right (B.val_lt double (show K-1<K by omega)) hS;rw [Nat.add_mul];omega
theorem NEf.scale {R V S:Nat}(h:NE R V S) (k:Nat) (hk:0<k):NE R (V*k) (S*k):=by
 have e:∀ a,2*(V*k)=a*(S*k)↔2*V=a*S:=by
  intro a;rw [←Nat.mul_assoc,←Nat.mul_assoc a];exact ⟨fun h=>Nat.eq_of_mul_eq_mul_right hk h,fun h=>by rw [h]⟩
 have l:∀ a b:Nat,a≤b→a*k≤b*k:=fun a b h=>Nat.mul_le_mul_right _ h;refine ⟨?_,?_,?_,?_⟩
 · have:=l _ _ h.up;rwa [Nat.mul_assoc,Nat.mul_assoc] at this
 · intro h1;exact h.upe ((e _).1 h1)
 · intro h0;have:=l _ _ (h.dn h0);rwa [Nat.mul_assoc,Nat.mul_assoc] at this
 · intro h0 h1;exact h.dne h0 ((e _).1 h1.symm).symm
end J
namespace B
theorem f64bits (b:Nat) (w:World):(callFunc 21 #[.float .f64 b]).run Tryz.prog w=.ok (.value (.int .u64 b)) w:=by
 rw [run_callFunc_extern (e:=Extern.MathFloatBits.float64bits) Tryz.func21 (by kernel_rfl) (by kernel_rfl) (by kernel_rfl) (by kernel_rfl)];rfl
theorem f64frombits (n:Int) (w:World):(callFunc 33 #[.int .u64 n]).run Tryz.prog w=.ok (.value (.float .f64 n.toNat)) w:=by
 rw [run_callFunc_extern (e:=Extern.MathFloatBits.float64frombits) Tryz.func33 (by kernel_rfl) (by kernel_rfl) (by kernel_rfl) (by kernel_rfl)];rfl
end B
namespace B
def bw (s:Bool) (e f:Nat):Nat:=s.toNat*9223372036854775808+e*4503599627370496+f
theorem bw_lt (s:Bool) (e f:Nat) (he:e<2048) (hf:f<4503599627370496):bw s e f<18446744073709551616:=by
 unfold bw;cases s <;> simp only [Bool.toNat_true,Bool.toNat_false] <;> omega
theorem wraps_i64 (n:Int) (h0:0≤n) (h1:n<2^63):IntKind.i64.wrap n=n:=by rw [IntKind.wrap_i64];omega
theorem wraps_u64 (n:Int) (h0:0≤n) (h1:n<2^64):IntKind.u64.wrap n=n:=by
 simp [IntKind.wrap,IntKind.bits,IntKind.signed];omega
theorem bw_exp (s:Bool) (e f:Nat) (he:e<2048) (hf:f<4503599627370496):bits .and .i64 ((bw s e f:Int)/4503599627370496) 2047=(e:Int):=by
 have hl:=bw_lt s e f he hf;have h:=bits_mask .i64 63 (by decide) wraps_i64 11 (by decide) ((bw s e f:Int)/4503599627370496) (by omega) (by omega);rw [show ((2:Int)^11-1)=2047 from rfl] at h;rw [h];unfold bw;cases s <;> simp only [Bool.toNat_true,Bool.toNat_false] <;> omega
theorem bw_frac (s:Bool) (e f:Nat) (he:e<2048) (hf:f<4503599627370496):bits .and .u64 ((bw s e f:Nat):Int) 4503599627370495=(f:Int):=by
 have hl:=bw_lt s e f he hf;have h:=bits_mask .u64 64 (by decide) wraps_u64 52 (by decide) (bw s e f:Int) (by omega) (by omega);rw [show ((2:Int)^52-1)=4503599627370495 from rfl] at h;rw [h];unfold bw;cases s <;> simp only [Bool.toNat_true,Bool.toNat_false] <;> omega
theorem bw_sign (s:Bool) (e f:Nat) (he:e<2048) (hf:f<4503599627370496):bits .and .u64 ((bw s e f:Int)/9223372036854775808) 1=(s.toNat:Int):=by
 have hl:=bw_lt s e f he hf;have h:=bits_mask .u64 64 (by decide) wraps_u64 1 (by decide) ((bw s e f:Int)/9223372036854775808) (by omega) (by omega);rw [show ((2:Int)^1-1)=1 from rfl] at h;rw [h];unfold bw;cases s <;> simp only [Bool.toNat_true,Bool.toNat_false] <;> omega
theorem frac_or (f:Nat) (hf:f<4503599627370496):bits .or .u64 (f:Int) 4503599627370496=(f:Int)+4503599627370496:=by
 have hc:bits .or .u64 (f:Int) 4503599627370496=bits .or .u64 4503599627370496 (f:Int):=by simp only [bits,BitVec.or_comm]
 rw [hc,bits_join .u64 64 (by decide) wraps_u64 52 4503599627370496 (f:Int) (by decide) (by decide) (by decide) (by omega) (by omega) (by omega)];omega
theorem or_sign (x:Int) (h0:0≤x) (h1:x<9223372036854775808):bits .or .u64 x 9223372036854775808=x+9223372036854775808:=by
 have hc:bits .or .u64 x 9223372036854775808=bits .or .u64 9223372036854775808 x:=by simp only [bits,BitVec.or_comm]
 rw [hc,bits_join .u64 64 (by decide) wraps_u64 63 9223372036854775808 x (by decide) (by decide) (by decide) h0 (by omega) (by omega)];omega
def pv (neg:Bool) (c x:Int) (f:Int):Value:=.agg #[.bool neg,.int .i64 c,.int .i64 x,.int .u64 f]
def cls (e f:Nat):Int:=if e=2047 then (if f=0 then 3 else 4) else if e=0 then (if f=0 then 0 else 1) else 2
def xp (e:Nat):Int:=if e=2047 then 0 else if e=0 then -1074 else (e:Int)-1075
def fr (e f:Nat):Int:=if e=2047 then 0 else if e=0 then (f:Int) else (f:Int)+4503599627370496
def ng (s:Bool) (e f:Nat):Bool:=if e=2047∧f≠0 then false else s
def splitV (s:Bool) (e f:Nat):Value:=pv (ng s e f) (cls e f) (xp e) (fr e f)
theorem splitV_odd (s:Bool) (e f:Nat) (h:e=2047) (h2:((f:Int) != 0)=true):splitV s e f=.agg #[.bool false,.int .i64 4,.int .i64 0,.int .u64 0]:=by
 have:f≠0:=by intro h;subst h;simp at h2
 simp [splitV,pv,ng,cls,xp,fr,h,this]
theorem splitV_end (s:Bool) (e f:Nat) (h:e=2047) (h2:((f:Int) != 0)=false):splitV s e f=.agg #[.bool s,.int .i64 3,.int .i64 0,.int .u64 0]:=by
 have:f=0:=by simp at h2;omega
 simp [splitV,pv,ng,cls,xp,fr,h,this]
theorem splitV_nought (s:Bool) (e f:Nat) (h:e=0) (h2:((f:Int)==0)=true):splitV s e f=.agg #[.bool s,.int .i64 0,.int .i64 (-1074),.int .u64 0]:=by
 have:f=0:=by simp at h2;omega
 simp [splitV,pv,ng,cls,xp,fr,h,this]
theorem splitV_small (s:Bool) (e f:Nat) (h:e=0) (h2:((f:Int)==0)=false):splitV s e f=.agg #[.bool s,.int .i64 1,.int .i64 (-1074),.int .u64 f]:=by
 have:f≠0:=by intro h;subst h;simp at h2
 simp [splitV,pv,ng,cls,xp,fr,h,this]
theorem splitV_plain (s:Bool) (e f:Nat) (h:e≠2047) (h2:e≠0):splitV s e f=.agg #[.bool s,.int .i64 2,.int .i64 ((e:Int)-1075),.int .u64 ((f:Int)+4503599627370496)]:=by
 simp [splitV,pv,ng,cls,xp,fr,h,h2]
theorem beq_nat_true (e n:Nat) (h:((e:Int)==(n:Int))=true):e=n:=by
 have:(e:Int)=n:=by simpa using h
 omega
theorem bw_exp2 (s:Bool) (e f:Nat) (he:e<2048) (hf:f<4503599627370496):(bw s e f:Int)/4503599627370496%2048=e:=by
 unfold bw;cases s <;> simp only [Bool.toNat_true,Bool.toNat_false] <;> omega
theorem bw_frac2 (s:Bool) (e f:Nat) (hf:f<4503599627370496):(bw s e f:Int)%4503599627370496=f:=by
 unfold bw;cases s <;> simp only [Bool.toNat_true,Bool.toNat_false] <;> omega
theorem bw_sign2 (s:Bool) (e f:Nat) (he:e<2048) (hf:f<4503599627370496):(bw s e f:Int)/9223372036854775808%2=s.toNat:=by
 unfold bw;cases s <;> simp only [Bool.toNat_true,Bool.toNat_false] <;> omega
def odd (e f:Nat):Bool:=e==2047&&f != 0
theorem not_odd (e f:Nat) (h:odd e f=false):¬ (e=2047∧f≠0):=by
 rintro ⟨h1,h2⟩;simp [odd,h1,h2] at h
theorem is_odd (e f:Nat) (h:odd e f=true):e=2047∧f≠0:=by
 simpa [odd] using h
def cb (s:Bool) (e f:Nat):Nat:=if e=2047∧f≠0 then 9221120237041090560 else bw s e f
theorem cb_odd (s:Bool) (e f:Nat) (h:e=2047∧f≠0):cb s e f=9221120237041090560:=if_pos h
theorem cb_else (s:Bool) (e f:Nat) (h:¬ (e=2047∧f≠0)):cb s e f=bw s e f:=if_neg h
theorem bw_mod (s:Bool) (e f:Nat) (he:e<2048) (hf:f<4503599627370496):(bw s e f:Int)%9223372036854775808=(e:Int)*4503599627370496+f:=by
 unfold bw;cases s <;> simp only [Bool.toNat_true,Bool.toNat_false] <;> omega
theorem dInf:Ieee.double.infRung=9218868437227405312:=by decide
theorem dSign:Ieee.double.signWeight=9223372036854775808:=by decide
theorem dBin:Ieee.double.binade=4503599627370496:=by decide
theorem dHs:Ieee.double.infRung<Ieee.double.signWeight:=by decide
theorem dHb:Ieee.double.binade≤Ieee.double.infRung:=by decide
theorem bw_word (s:Bool) (e f:Nat):bw s e f=Ieee.double.word s (e*4503599627370496+f):=by
 unfold bw Ieee.Format.word;rw [dSign]
 cases s <;> simp [Nat.add_assoc]
theorem bw_read_odd (s:Bool) (e f:Nat) (hf:f<4503599627370496) (h:odd e f=true):Ieee.double.read (bw s e f)=.nan s f:=by
 have h0:e=2047∧f≠0:=by simpa [odd] using h
 have e1:bw s e f%Ieee.double.signWeight=e*4503599627370496+f:=by
  rw [dSign];unfold bw;cases s <;> simp only [Bool.toNat_true,Bool.toNat_false] <;> omega
 have e2:(bw s e f/Ieee.double.signWeight%2==1)=s:=by
  rw [dSign]
  cases s
  · have:bw false e f/9223372036854775808%2=0:=by unfold bw;simp only [Bool.toNat_false];omega
    rw [this];rfl
  · have:bw true e f/9223372036854775808%2=1:=by unfold bw;simp only [Bool.toNat_true];omega
    rw [this];rfl
 rw [read_nan Ieee.double _ (by rw [e1,dInf];omega) dHb,e1,e2,dInf,show e*4503599627370496+f-9218868437227405312=f from by omega]
theorem rung_le (e f:Nat) (he:e<2048) (hf:f<4503599627370496) (h:odd e f=false):e*4503599627370496+f≤Ieee.double.infRung:=by
 rw [dInf];have:=not_odd e f h;omega
def pl (s:Bool) (e f:Nat):Int:=sg s (e*4503599627370496+f)
theorem ord (s t:Bool) (e f u v:Nat) (he:e<2048) (hf:f<4503599627370496) (hu:u<2048) (hv:v<4503599627370496) :
 FloatKind.f64.format.order (bw s e f) (bw t u v)=if odd e f || odd u v then none else some (compare (pl s e f) (pl t u v)):=by
 show Ieee.double.order _ _=_
 by_cases h1:odd e f=true
 · rw [h1];show (Ieee.double.read (bw s e f)).order _=none;rw [bw_read_odd s e f hf h1];rfl
 · by_cases h2:odd u v=true
   · rw [h2];show (Ieee.double.read (bw s e f)).order (Ieee.double.read (bw t u v))=if (odd e f || true)=true then none else _
     rw [bw_read_odd t u v hv h2,Bool.or_true,if_pos rfl]
     cases Ieee.double.read (bw s e f) <;> rfl
   · have h3:odd e f=false:=by simpa using h1
     have h4:odd u v=false:=by simpa using h2
     rw [h3,h4,bw_word,bw_word];rw [order_word Ieee.double dHs dHb s t _ _ (rung_le e f he hf h3) (rung_le u v hu hv h4)];simp [pl]
theorem order_self (s:Bool) (e f:Nat) (he:e<2048) (hf:f<4503599627370496):(FloatKind.f64.format.order (bw s e f) (bw s e f) != some .eq)=odd e f:=by
 rw [ord s s e f e f he hf he hf,Bool.or_self,Int.compare_eq_eq.2 rfl]
 cases odd e f <;> rfl
end B
namespace B
theorem lt_f64 (s t:Bool) (e f u v:Nat) (he:e<2048) (hf:f<4503599627370496) (hu:u<2048) (hv:v<4503599627370496) :
 (FloatKind.f64.format.order (bw s e f) (bw t u v)==some .lt)=(!odd e f&&(!odd u v&&decide (pl s e f<pl t u v))):=by
 rw [ord s t e f u v he hf hu hv]
 cases odd e f <;> cases odd u v <;> simp
 by_cases h:pl s e f<pl t u v
 · rw [Int.compare_eq_lt.2 h];simp [h]
 · rw [decide_eq_false h]
   by_cases h2:pl t u v<pl s e f
   · rw [Int.compare_eq_gt.2 h2];rfl
   · rw [Int.compare_eq_eq.2 (by omega)];rfl
theorem gt_f64 (s t:Bool) (e f u v:Nat) (he:e<2048) (hf:f<4503599627370496) (hu:u<2048) (hv:v<4503599627370496) :
 (FloatKind.f64.format.order (bw s e f) (bw t u v)==some .gt)=(!odd e f&&(!odd u v&&decide (pl t u v<pl s e f))):=by
 rw [ord s t e f u v he hf hu hv]
 cases odd e f <;> cases odd u v <;> simp
 by_cases h:pl t u v<pl s e f
 · rw [Int.compare_eq_gt.2 h];simp [h]
 · rw [decide_eq_false h]
   by_cases h2:pl s e f<pl t u v
   · rw [Int.compare_eq_lt.2 h2];rfl
   · rw [Int.compare_eq_eq.2 (by omega)];rfl
theorem eq_f64 (s t:Bool) (e f u v:Nat) (he:e<2048) (hf:f<4503599627370496) (hu:u<2048) (hv:v<4503599627370496) :
 (FloatKind.f64.format.order (bw s e f) (bw t u v)==some .eq)=(!odd e f&&(!odd u v&&decide (pl s e f=pl t u v))):=by
 rw [ord s t e f u v he hf hu hv]
 cases odd e f <;> cases odd u v <;> simp
 by_cases h:pl s e f<pl t u v
 · rw [Int.compare_eq_lt.2 h,decide_eq_false (by omega)];rfl
 · by_cases h2:pl t u v<pl s e f
   · rw [Int.compare_eq_gt.2 h2,decide_eq_false (by omega)];rfl
   · rw [Int.compare_eq_eq.2 (by omega),decide_eq_true (by omega)];rfl
theorem odd_lt (e f:Nat) (h:e<2047):odd e f=false:=by
 have:(e==2047)=false:=by simp;omega
 simp [odd,this]
theorem odd_zero (e:Nat):odd e 0=false:=by simp [odd]
theorem zero_bw:bw false 0 0=0:=rfl
theorem max_bw:bw false 2046 4503599627370495=9218868437227405311:=rfl
theorem gt_max (s:Bool) (e f:Nat) (he:e<2048) (hf:f<4503599627370496) :
 (FloatKind.f64.format.order (bw s e f) 9218868437227405311==some .gt)=(!s&&(e==2047&&f==0)):=by
 have h:=gt_f64 s false e f 2046 4503599627370495 he hf (by omega) (by omega);rw [max_bw] at h;rw [h,odd_lt 2046 _ (by omega)]
 cases ho:odd e f
 · have:=not_odd e f ho;rw [Bool.eq_iff_iff]
   cases s <;> simp [pl,sg] <;> omega
 · obtain ⟨h1,h2⟩:=is_odd e f ho;have h3:(f==0)=false:=by simp [h2]
   simp [h1,h3]
theorem eq_zero (s:Bool) (e f:Nat) (he:e<2048) (hf:f<4503599627370496) :
 (FloatKind.f64.format.order (bw s e f) 0==some .eq)=(e==0&&f==0):=by
 have h:=eq_f64 s false e f 0 0 he hf (by omega) (by omega);rw [zero_bw] at h;rw [h,odd_lt 0 _ (by omega)]
 cases ho:odd e f
 · rw [Bool.eq_iff_iff]
   cases s <;> simp [pl,sg] <;> omega
 · obtain ⟨h1,h2⟩:=is_odd e f ho;have h3:(e==0)=false:=by simp [h1]
   simp [h3]
theorem lt_zero (s:Bool) (e f:Nat) (he:e<2048) (hf:f<4503599627370496) (ho:odd e f=false) (hz:(e==0&&f==0)=false) :
 (FloatKind.f64.format.order (bw s e f) 0==some .lt)=s:=by
 have h:=lt_f64 s false e f 0 0 he hf (by omega) (by omega);rw [zero_bw] at h;rw [h,odd_lt 0 _ (by omega),ho];have hz':¬ (e=0∧f=0):=by rintro ⟨rfl,rfl⟩;simp at hz
 rw [Bool.eq_iff_iff]
 cases s <;> simp [pl,sg] <;> omega
theorem abs_bw (s:Bool) (e f:Nat) (he:e<2048) (hf:f<4503599627370496):bits .andNot .u64 ((bw s e f:Nat):Int) 9223372036854775808=(bw false e f:Int):=by
 have h:=u64_andNot_nat (bw s e f) 9223372036854775808 (bw_lt s e f he hf) (by omega);rw [show (((9223372036854775808:Nat)):Int)=9223372036854775808 from rfl] at h;rw [h,show 18446744073709551615-9223372036854775808=2^63-1 from rfl,Nat.and_two_pow_sub_one_eq_mod];congr 1;unfold bw;cases s <;> simp only [Bool.toNat_true,Bool.toNat_false] <;> omega
end B
namespace B
open Go.RowKit
theorem split_any (s:Bool) (e f:Nat) (he:e<2048) (hf:f<4503599627370496) (w:World) :
 Calls Tryz.prog 59 #[.int .u64 (bw s e f),.int .u64 52,.int .u64 11,.int .i64 (-1074)] w fun r w'=>r=.returned (splitV s e f)∧Below w.heap.size w w':=by
 have hl:=bw_lt s e f he hf;have h1:=bw_exp s e f he hf;have h2:=bw_frac s e f he hf;have h3:=bw_sign s e f he hf;have h4:=frac_or f hf;have h5:((s.toNat:Int)==1)=s:=by cases s <;> rfl
 go_enter Tryz.func59,Tryz.ntmps59;go_wp2
 · rw [splitV_odd s e f (by omega) ‹_›];exact bodyPost_ret (v:=.agg #[.bool false,.int .i64 4,.int .i64 0,.int .u64 0]) (by simp [results,Tryz.results59,go_sem]) rfl ⟨rfl,(by repeat (first | exact Below.refl _ _ | assumption | exact Nat.le_refl _ | (simp;done) | (simp;omega) | refine Below.alloc ?_ ?_ _ | refine Below.setCell ?_ ?_ _ | refine Below.drew ?_))⟩
 · rw [splitV_end s e f (by omega) ‹_›];exact bodyPost_ret (v:=.agg #[.bool s,.int .i64 3,.int .i64 0,.int .u64 0]) (by simp [results,Tryz.results59,go_sem]) rfl ⟨rfl,(by repeat (first | exact Below.refl _ _ | assumption | exact Nat.le_refl _ | (simp;done) | (simp;omega) | refine Below.alloc ?_ ?_ _ | refine Below.setCell ?_ ?_ _ | refine Below.drew ?_))⟩
 · rw [splitV_nought s e f (by omega) ‹_›];exact bodyPost_ret (v:=.agg #[.bool s,.int .i64 0,.int .i64 (-1074),.int .u64 0]) (by simp [results,Tryz.results59,go_sem]) rfl ⟨rfl,(by repeat (first | exact Below.refl _ _ | assumption | exact Nat.le_refl _ | (simp;done) | (simp;omega) | refine Below.alloc ?_ ?_ _ | refine Below.setCell ?_ ?_ _ | refine Below.drew ?_))⟩
 · rw [splitV_small s e f (by omega) ‹_›];exact bodyPost_ret (v:=.agg #[.bool s,.int .i64 1,.int .i64 (-1074),.int .u64 f]) (by simp [results,Tryz.results59,go_sem]) rfl ⟨rfl,(by repeat (first | exact Below.refl _ _ | assumption | exact Nat.le_refl _ | (simp;done) | (simp;omega) | refine Below.alloc ?_ ?_ _ | refine Below.setCell ?_ ?_ _ | refine Below.drew ?_))⟩
 · rw [splitV_plain s e f (by omega) (by omega)];refine bodyPost_ret (v:=.agg #[.bool s,.int .i64 2,.int .i64 ((e:Int)-1075),.int .u64 ((f:Int)+4503599627370496)]) (by simp [results,Tryz.results59,go_sem];try omega) rfl ⟨rfl,(by repeat (first | exact Below.refl _ _ | assumption | exact Nat.le_refl _ | (simp;done) | (simp;omega) | refine Below.alloc ?_ ?_ _ | refine Below.setCell ?_ ?_ _ | refine Below.drew ?_))⟩
end B
namespace B
open Go.RowKit
attribute [local go_sem] f64bits f64frombits
theorem bcell {W w1:World}(hb:Below W.heap.size W w1):(∀ b o,b<W.heap.size→w1.cell? ⟨b,o,none⟩=W.cell? ⟨b,o,none⟩)∧(∀ b o,b<W.heap.size→w1.frozen? ⟨b,o,none⟩=W.frozen? ⟨b,o,none⟩) :=
 ⟨fun b o h=>hb.cell (p:=⟨b,o,none⟩) h,fun b o h=>hb.frozen (p:=⟨b,o,none⟩) h⟩
theorem split_lit (s:Bool) (e f:Nat) (he:e<2048) (hf:f<4503599627370496) (w:World) :
 Calls Tryz.prog 59 #[.int .u64 (bw s e f),.int .u64 52,.int .u64 11,.int .i64 (-1074)] w fun r w'=>r=.returned (.agg #[.bool (ng s e f),.int .i64 (cls e f),.int .i64 (xp e),.int .u64 (fr e f)])∧Below w.heap.size w w' :=
 split_any s e f he hf w
theorem nan_any (w:World):Calls Tryz.prog 55 #[] w fun r w'=>r=.returned (.float .f64 9221120237041090560)∧w'=w:=by
 go_enter Tryz.func55,Tryz.ntmps55;go_wp2;go_ret;exact ⟨rfl,rfl⟩
theorem Split_any (s:Bool) (e f:Nat) (he:e<2048) (hf:f<4503599627370496) (w:World) :
 Calls Tryz.prog 34 #[.float .f64 (bw s e f)] w fun r w'=>r=.returned (.agg #[.bool (ng s e f),.int .i64 (cls e f),.int .i64 (xp e),.int .u64 (fr e f)])∧Below w.heap.size w w':=by
 go_enter Tryz.func34,Tryz.ntmps34
 go_wp2_with (go_at_call 59;refine (split_lit s e f he hf _).mono ?_;rintro r w1 ⟨rfl,hb⟩;(obtain ⟨hc,hfz⟩:=bcell hb;have hz:w.heap.size<w1.heap.size:=by (have:=hb.size;simp at this;omega)))
 exact bodyPost_ret (v:=(.agg #[.bool (ng s e f),.int .i64 (cls e f),.int .i64 (xp e),.int .u64 (fr e f)])) (by simp [results,Tryz.results34,go_sem,hc]) rfl ⟨rfl,(by repeat (first | exact Below.refl _ _ | exact ((Below.refl _ _).alloc (Nat.le_refl _) _).trans (hb.mono (by simp)) | exact Nat.le_refl _ | (simp;done) | (simp;omega) | refine Below.alloc ?_ ?_ _ | refine Below.setCell ?_ ?_ _ | refine Below.drew ?_))⟩
theorem rBits_any (s:Bool) (e f:Nat) (he:e<2048) (hf:f<4503599627370496) (w:World) :
 Calls Tryz.prog 66 #[.float .f64 (bw s e f)] w fun r w'=>r=.returned (.int .u64 (cb s e f))∧w'=w:=by
 have hl:=bw_lt s e f he hf;have h1:=bw_mod s e f he hf
 by_cases h:e=2047∧f≠0
 · have h2:(9218868437227405312:Int)<(e:Int)*4503599627370496+f:=by omega
   rw [cb_odd s e f h];clear h;go_enter Tryz.func66,Tryz.ntmps66;go_wp2;go_ret;exact ⟨rfl,rfl⟩
 · have h2:¬ (9218868437227405312:Int)<(e:Int)*4503599627370496+f:=by omega
   rw [cb_else s e f h];clear h;go_enter Tryz.func66,Tryz.ntmps66;go_wp2;go_ret;exact ⟨rfl,rfl⟩
theorem isNaN_any (s:Bool) (e f:Nat) (he:e<2048) (hf:f<4503599627370496) (w:World) :
 Calls Tryz.prog 46 #[.float .f64 (bw s e f)] w fun r w'=>r=.returned (.bool (odd e f))∧w'=w:=by
 have h1:=order_self s e f he hf;go_enter Tryz.func46,Tryz.ntmps46;go_wp2;go_ret;exact ⟨rfl,rfl⟩
theorem parts_any (s:Bool) (e f:Nat) (he:e<2048) (hf:f<4503599627370496) (w:World) :
 Calls Tryz.prog 65 #[.int .u64 (bw s e f),.int .i64 11,.int .i64 52] w fun r w'=>r=.returned (splitV s e f)∧Below w.heap.size w w':=by
 have hl:=bw_lt s e f he hf;have h1:=bw_exp2 s e f he hf;have h2:=bw_frac2 s e f hf;have h3:=bw_sign2 s e f he hf;have h5:((s.toNat:Int)==1)=s:=by cases s <;> rfl
 go_enter Tryz.func65,Tryz.ntmps65;go_wp2
 · have hh:e=2047:=by first | omega | exact beq_nat_true e 2047 ‹_›
   rw [splitV_odd s e f hh (by simp;omega)];exact bodyPost_ret (v:=.agg #[.bool false,.int .i64 4,.int .i64 0,.int .u64 0]) (by simp [results,Tryz.results65,go_sem]) rfl ⟨rfl,(by repeat (first | exact Below.refl _ _ | assumption | exact Nat.le_refl _ | (simp;done) | (simp;omega) | refine Below.alloc ?_ ?_ _ | refine Below.setCell ?_ ?_ _ | refine Below.drew ?_))⟩
 · have hh:e=2047:=by first | omega | exact beq_nat_true e 2047 ‹_›
   rw [splitV_end s e f hh (by simp;omega)];exact bodyPost_ret (v:=.agg #[.bool s,.int .i64 3,.int .i64 0,.int .u64 0]) (by simp [results,Tryz.results65,go_sem]) rfl ⟨rfl,(by repeat (first | exact Below.refl _ _ | assumption | exact Nat.le_refl _ | (simp;done) | (simp;omega) | refine Below.alloc ?_ ?_ _ | refine Below.setCell ?_ ?_ _ | refine Below.drew ?_))⟩
 · have hh:e≠2047:=by intro hq;subst hq;simp_all
   rw [splitV_plain s e f hh (by omega)];refine bodyPost_ret (v:=.agg #[.bool s,.int .i64 2,.int .i64 ((e:Int)-1075),.int .u64 ((f:Int)+4503599627370496)]) (by simp [results,Tryz.results65,go_sem];try omega) rfl ⟨rfl,(by repeat (first | exact Below.refl _ _ | assumption | exact Nat.le_refl _ | (simp;done) | (simp;omega) | refine Below.alloc ?_ ?_ _ | refine Below.setCell ?_ ?_ _ | refine Below.drew ?_))⟩
 · rw [splitV_small s e f (by omega) (by simp;omega)];exact bodyPost_ret (v:=.agg #[.bool s,.int .i64 1,.int .i64 (-1074),.int .u64 f]) (by simp [results,Tryz.results65,go_sem]) rfl ⟨rfl,(by repeat (first | exact Below.refl _ _ | assumption | exact Nat.le_refl _ | (simp;done) | (simp;omega) | refine Below.alloc ?_ ?_ _ | refine Below.setCell ?_ ?_ _ | refine Below.drew ?_))⟩
 · rw [splitV_nought s e f (by omega) (by simp;omega)];refine bodyPost_ret (v:=.agg #[.bool s,.int .i64 0,.int .i64 (-1074),.int .u64 0]) (by simp [results,Tryz.results65,go_sem];try omega) rfl ⟨rfl,(by repeat (first | exact Below.refl _ _ | assumption | exact Nat.le_refl _ | (simp;done) | (simp;omega) | refine Below.alloc ?_ ?_ _ | refine Below.setCell ?_ ?_ _ | refine Below.drew ?_))⟩
end B
section
def pw (k:Nat):Nat:=4294967296^k
theorem pw_zero:pw 0=1:=by simp [pw]
theorem pw_succ (k:Nat):pw (k+1)=4294967296*pw k:=by simp [pw,Nat.pow_succ,Nat.mul_comm]
theorem pw_add (i k:Nat):pw (i+k)=pw i*pw k:=by simp [pw,Nat.pow_add]
theorem pw_pos (k:Nat):0<pw k:=Nat.pow_pos (by decide)
theorem pw_mono {i k:Nat}(h:i≤k):pw i≤pw k:=Nat.pow_le_pow_right (by decide) h
def val:List Nat→Nat
 | []=>0
 | x::xs=>x+4294967296*val xs
def Wf (xs:List Nat):Prop:=∀ x ∈ xs,x<4294967296
theorem Wf.nil:Wf []:=by intro x hx;cases hx
theorem Wf.cons {x:Nat}{xs:List Nat}(hx:x<4294967296) (h:Wf xs):Wf (x::xs):=by
 intro y hy;cases hy with
 | head=>exact hx
 | tail _ hy=>exact h y hy
theorem Wf.head {x:Nat}{xs:List Nat}(h:Wf (x::xs)):x<4294967296:=h x (by simp)
theorem Wf.tail {x:Nat}{xs:List Nat}(h:Wf (x::xs)):Wf xs:=fun y hy=>h y (by simp [hy])
theorem Wf.get {xs:List Nat}(h:Wf xs) (k:Nat):xs.getD k 0<4294967296:=by
 by_cases hk:k<xs.length
 · rw [List.getD_eq_getElem?_getD,List.getElem?_eq_getElem hk];exact h _ (List.getElem_mem hk)
 · rw [List.getD_eq_getElem?_getD,List.getElem?_eq_none (by omega)];decide
theorem Wf.take {xs:List Nat}(h:Wf xs) (k:Nat):Wf (xs.take k):=fun y hy=>h y (List.mem_of_mem_take hy)
theorem Wf.drop {xs:List Nat}(h:Wf xs) (k:Nat):Wf (xs.drop k):=fun y hy=>h y (List.mem_of_mem_drop hy)
theorem Wf.append {xs ys:List Nat}(h:Wf xs) (k:Wf ys):Wf (xs++ys):=by
 intro y hy;rcases List.mem_append.1 hy with hy | hy
 · exact h y hy
 · exact k y hy
theorem Wf.set {xs:List Nat}(h:Wf xs) (k x:Nat) (hx:x<4294967296):Wf (xs.set k x):=by
 intro y hy;rcases List.mem_or_eq_of_mem_set hy with hy | hy
 · exact h y hy
 · omega
theorem Wf.zeros (n:Nat):Wf (List.replicate n 0):=by intro y hy;have:=List.eq_of_mem_replicate hy;omega
theorem val_append (xs ys:List Nat):val (xs++ys)=val xs+pw xs.length*val ys:=by
 induction xs with
 | nil=>simp [val,pw_zero]
 | cons x xs ih=>simp only [List.cons_append,val,ih,List.length_cons,pw_succ];grind
theorem val_zeros (n:Nat):val (List.replicate n 0)=0:=by
 induction n with
 | zero=>rfl
 | succ n ih=>simp [List.replicate_succ,val,ih]
theorem val_take_succ (xs:List Nat) (k:Nat) (hk:k<xs.length):val (xs.take (k+1))=val (xs.take k)+pw k*xs.getD k 0:=by
 rw [List.take_succ_eq_append_getElem hk,val_append,List.length_take,Nat.min_eq_left (by omega),List.getD_eq_getElem?_getD,List.getElem?_eq_getElem hk];simp [val]
theorem val_take_drop (xs:List Nat) (k:Nat) (hk:k≤xs.length):val xs=val (xs.take k)+pw k*val (xs.drop k):=by
 have h:=val_append (xs.take k) (xs.drop k);rw [List.take_append_drop,List.length_take,Nat.min_eq_left hk] at h;exact h
theorem val_drop_succ (xs:List Nat) (k:Nat) (hk:k<xs.length):val (xs.drop k)=xs.getD k 0+4294967296*val (xs.drop (k+1)):=by
 rw [List.drop_eq_getElem_cons hk,val,List.getD_eq_getElem?_getD,List.getElem?_eq_getElem hk];rfl
theorem val_lt (xs:List Nat) (h:Wf xs):val xs<pw xs.length:=by
 induction xs with
 | nil=>simp [val,pw_zero]
 | cons x xs ih =>
   have h1:=ih h.tail;have h2:=h.head;simp only [val,List.length_cons,pw_succ];omega
def ws (n:Nat):List Nat:=if h:n=0 then [] else n%4294967296::ws (n/4294967296)
termination_by n
decreasing_by omega
theorem ws_zero:ws 0=[]:=by rw [ws];simp
theorem ws_pos (n:Nat) (h:n≠0):ws n=n%4294967296::ws (n/4294967296):=by rw [ws];simp [h]
theorem val_ws (n:Nat):val (ws n)=n:=by
 induction n using Nat.strongRecOn with
 | _ n ih =>
   by_cases h:n=0
   · subst h;simp [ws_zero,val]
   · rw [ws_pos n h,val,ih (n/4294967296) (by omega)];omega
theorem wf_ws (n:Nat):Wf (ws n):=by
 induction n using Nat.strongRecOn with
 | _ n ih =>
   by_cases h:n=0
   · subst h;rw [ws_zero];exact Wf.nil
   · rw [ws_pos n h];exact Wf.cons (by omega) (ih _ (by omega))
def nl:List Nat→Nat
 | []=>0
 | x::xs=>if nl xs=0∧x=0 then 0 else nl xs+1
theorem nl_le (xs:List Nat):nl xs≤xs.length:=by
 induction xs with
 | nil=>simp [nl]
 | cons x xs ih=>simp only [nl,List.length_cons];split <;> omega
theorem nl_zero_iff (xs:List Nat):nl xs=0↔val xs=0:=by
 induction xs with
 | nil=>simp [nl,val]
 | cons x xs ih=>simp only [nl,val];split <;> omega
theorem form_eq (xs:List Nat) (h:Wf xs):xs.take (nl xs)=ws (val xs):=by
 induction xs with
 | nil=>simp [nl,val,ws_zero]
 | cons x xs ih =>
   have h1:=ih h.tail;have h2:=h.head
   by_cases h3:nl xs=0∧x=0
   · have h4:=(nl_zero_iff xs).1 h3.1;simp [nl,h3,val,h4,ws_zero]
   · have h5:val (x::xs)≠0:=by
      intro h6;simp only [val] at h6;exact h3 ⟨(nl_zero_iff xs).2 (by omega),by omega⟩
     rw [ws_pos _ h5];simp only [nl,if_neg h3,val,List.take_succ_cons];rw [show (x+4294967296*val xs)%4294967296=x by omega,show (x+4294967296*val xs)/4294967296=val xs by omega,h1]
theorem nl_eq_length (xs:List Nat) (h:Wf xs):nl xs=(ws (val xs)).length:=by
 rw [←form_eq xs h,List.length_take,Nat.min_eq_left (nl_le xs)]
theorem val_form (xs:List Nat) (h:Wf xs):val (xs.take (nl xs))=val xs:=by rw [form_eq xs h,val_ws]
theorem nl_ws (n:Nat):nl (ws n)=(ws n).length:=by rw [nl_eq_length _ (wf_ws n),val_ws]
theorem ws_len_le (n k:Nat):(ws n).length≤k↔n<pw k:=by
 constructor
 · intro h;have h1:=val_lt (ws n) (wf_ws n);rw [val_ws] at h1;exact Nat.lt_of_lt_of_le h1 (pw_mono h)
 · intro h
   induction k generalizing n with
   | zero=>rw [pw_zero] at h;obtain rfl:n=0:=by omega
           simp [ws_zero]
   | succ k ih =>
     by_cases h0:n=0
     · subst h0;simp [ws_zero]
     · rw [ws_pos n h0,List.length_cons];rw [pw_succ] at h;have:=ih (n/4294967296) (by omega);omega
theorem ws_len_ge (n:Nat) (h:n≠0):pw ((ws n).length-1)≤n:=by
 have h1:¬ (ws n).length≤(ws n).length-1:=by
  have:(ws n).length≠0:=by rw [ws_pos n h];simp
  omega
 rw [ws_len_le] at h1;omega
theorem ws_len_lt (n:Nat):n<pw (ws n).length:=(ws_len_le n _).1 (Nat.le_refl _)
theorem ws_len_zero (n:Nat):(ws n).length=0↔n=0:=by
 constructor
 · intro h;have:=ws_len_lt n;rw [h,pw_zero] at this;omega
 · intro h;subst h;simp [ws_zero]
theorem nl_stop (xs:List Nat) (k:Nat) (hk:k≤xs.length) (h0:∀ j,k≤j→j<xs.length→xs.getD j 0=0) (h1:k=0∨xs.getD (k-1) 0≠0):nl xs=k:=by
 induction xs generalizing k with
 | nil=>simp at hk;simp [nl,hk]
 | cons x xs ih =>
   cases k with
   | zero =>
     have hx:=h0 0 (by omega) (by simp);have:nl xs=0:=ih 0 (by omega) (fun j _ hj=>by have:=h0 (j+1) (by omega) (by simp;omega);simpa using this) (.inl rfl);simp at hx;simp [nl,this,hx]
   | succ k =>
     cases k with
     | zero =>
       have:nl xs=0:=ih 0 (by omega) (fun j _ hj=>by have:=h0 (j+1) (by omega) (by simp;omega);simpa using this) (.inl rfl);simp at h1;simp [nl,this,h1]
     | succ k =>
       have:nl xs=k+1:=ih (k+1) (by simpa using hk) (fun j hj hj2=>by have:=h0 (j+1) (by omega) (by simp;omega);simpa using this) (.inr (by simpa using h1));simp [nl,this]
theorem nl_last (xs:List Nat) (h:nl xs≠0):xs.getD (nl xs-1) 0≠0:=by
 induction xs with
 | nil=>simp [nl] at h
 | cons x xs ih =>
   by_cases h1:nl xs=0
   · have hx:x≠0:=by intro hx;simp [nl,h1,hx] at h
     simp [nl,h1,hx]
   · have h2:¬ (nl xs=0∧x=0):=by omega
     have:=ih h1;simp only [nl,if_neg h2];obtain ⟨m,hm⟩:∃ m,nl xs=m+1:=⟨nl xs-1,by omega⟩;rw [hm] at this ⊢;simpa using this
end
section
open Go.RowKit
theorem hid {p:Prop}(h:p):Hid p:=h
def U (n:Nat):Value:=.int .u32 (n:Int)
def Own (w:World) (g:Nat) (L:List Nat):Prop:=w.heap[g]?=some (.cells (L.map U).toArray 81 (0,0))
theorem Own.lt {w:World}{g:Nat}{L:List Nat}(h:Own w g L):g<w.heap.size:=(Array.getElem?_eq_some_iff.1 h).1
theorem Own.cell {w:World}{g:Nat}{L:List Nat}(h:Own w g L) (i:Nat) (hi:i<L.length):w.cell? ⟨g,i,none⟩=some (.int .u32 ((L.getD i 0:Nat):Int)):=by
 unfold Own at h;simp [World.cell?,h,U,hi]
theorem Own.frozen {w:World}{g:Nat}{L:List Nat}(h:Own w g L) (i:Nat):w.frozen? ⟨g,i,none⟩=false:=by
 unfold Own at h;simp [World.frozen?,h]
theorem Own.set {w:World}{g:Nat}{L:List Nat}(h:Own w g L) (i x:Nat):Own (w.setCell ⟨g,i,none⟩ (.int .u32 (x:Int))) g (L.set i x):=by
 unfold Own at h ⊢;simp only [World.setCell,Array.getElem?_modify,h];simp [U,List.map_set]
theorem Own.below {w w':World}{g B:Nat}{L:List Nat}(h:Own w g L) (hb:Below B w w') (hg:g<B):Own w' g L:=by
 unfold Own at h ⊢;rw [hb.block g hg];exact h
structure But (g:Nat) (w w':World):Prop where
 os:w'.os=w.os
 tape:w'.tape=w.tape
 output:w'.output=w.output
 size:w.heap.size≤w'.heap.size
 block:∀ k,k<w.heap.size→k≠g→w'.heap[k]?=w.heap[k]?
theorem But.refl (g:Nat) (w:World):But g w w:=⟨rfl,rfl,rfl,Nat.le_refl _,fun _ _ _=>rfl⟩
theorem But.trans {g:Nat}{a b c:World}(h:But g a b) (k:But g b c):But g a c :=
 ⟨k.os.trans h.os,k.tape.trans h.tape,k.output.trans h.output,Nat.le_trans h.size k.size,fun i hi hg=>(k.block i (Nat.lt_of_lt_of_le hi h.size) hg).trans (h.block i hi hg)⟩
theorem But.drew {g:Nat}{a w:World}(h:But g a w):But g a w.drew:=⟨h.os,h.tape,h.output,h.size,h.block⟩
theorem But.set {g:Nat}{a w:World}(h:But g a w) (i:Nat) (u:Value):But g a (w.setCell ⟨g,i,none⟩ u) :=
 h.trans ⟨rfl,rfl,rfl,by simp [World.setCell],fun k _ hk=>Below.heap_setCell _ _ _ _ hk⟩
theorem But.alloc {g:Nat}{a w:World}(h:But g a w) (o:Obj):But g a (w.alloc o) :=
 h.trans ⟨rfl,rfl,rfl,by simp,fun k hk _=>Below.heap_alloc _ _ _ hk⟩
theorem But.below {g B:Nat}{a w w':World}(h:Below B a w) (hb:But g w w') (hB:B≤w.heap.size) (hg:B≤g):Below B a w' :=
 h.trans ⟨hb.os,hb.tape,hb.output,hb.size,fun k hk=>hb.block k (by omega) (by omega)⟩
def Rd (B:Nat) (w:World) (ao:Option Addr) (xs:List Nat):Prop :=
 xs≠[]→∃ b off,b<B∧ao=some ⟨b,off,none⟩∧∀ i,i<xs.length→w.cell? ⟨b,off+i,none⟩=some (.int .u32 ((xs.getD i 0:Nat):Int))
theorem Rd.nil (B:Nat) (w:World) (ao:Option Addr):Rd B w ao []:=fun h=>absurd rfl h
theorem Rd.below {B:Nat}{w w':World}{ao:Option Addr}{xs:List Nat}(h:Rd B w ao xs) (hb:Below B w w'):Rd B w' ao xs:=by
 intro hx;obtain ⟨b,off,hlt,rfl,hc⟩:=h hx;exact ⟨b,off,hlt,rfl,fun i hi=>(hb.cell (p:=⟨b,off+i,none⟩) hlt).trans (hc i hi)⟩
theorem Rd.but {B g:Nat}{w w':World}{ao:Option Addr}{xs:List Nat}(h:Rd B w ao xs) (hb:But g w w') (hB:B≤w.heap.size) (hg:B≤g):Rd B w' ao xs :=
 h.below (But.below (Below.refl _ _) hb hB hg)
theorem Rd.mono {B B':Nat}{w:World}{ao:Option Addr}{xs:List Nat}(h:Rd B w ao xs) (hB:B≤B'):Rd B' w ao xs:=by
 intro hx;obtain ⟨b,off,hlt,rfl,hc⟩:=h hx;exact ⟨b,off,by omega,rfl,hc⟩
theorem Rd.take {B:Nat}{w:World}{ao:Option Addr}{xs:List Nat}(h:Rd B w ao xs) (k:Nat):Rd B w ao (xs.take k):=by
 intro hx;have hx':xs≠[]:=by intro e;subst e;simp at hx
 obtain ⟨b,off,hlt,rfl,hc⟩:=h hx';refine ⟨b,off,hlt,rfl,fun i hi=>?_⟩;simp only [List.length_take] at hi;rw [hc i (by omega)];simp [List.getD_eq_getElem?_getD,show i<k by omega]
theorem Rd.ofOwn {w:World}{g:Nat}{L:List Nat}(h:Own w g L) (off n:Nat):Rd (g+1) w (some ⟨g,off,none⟩) ((L.drop off).take n):=by
 intro _;refine ⟨g,off,by omega,rfl,fun i hi=>?_⟩;simp only [List.length_take,List.length_drop] at hi;rw [h.cell _ (by omega)];simp [List.getD_eq_getElem?_getD,show i<n by omega]
def Nt (lo:Nat) (w:World) (v:Value) (X:Nat):Prop:=w.ownsRow lo 81 1 v (ws X).length ((ws X).map U)
theorem Nt.nil (lo:Nat) (w:World):Nt lo w (.slice none 0 0) 0:=by
 unfold Nt;rw [ws_zero];exact World.ownsRow_nil _ _ _ _
theorem Nt.ofOwn {lo:Nat}{w:World}{g:Nat}{L:List Nat}(h:Own w g L) (hlo:lo≤g) (hL:Wf L) (hm:L.length≤maxLen) :
 Nt lo w (.slice (some ⟨g,0,none⟩) (nl L) L.length) (val L):=by
 unfold Nt;have e:=form_eq L hL;have hn:=nl_le L;rw [←e];refine ⟨by simp,.inr ⟨g,L.length,(L.map U).toArray,?_,hlo,h,?_,hm,by simp,by simp⟩⟩
 · simp [Nat.min_eq_left hn]
 · simp;omega
theorem Nt.shape {lo:Nat}{w:World}{v:Value}{X:Nat}(h:Nt lo w v X):∃ ao cap,v=.slice ao (ws X).length cap∧(ws X).length≤cap∧cap≤maxLen∧Rd w.heap.size w ao (ws X):=by
 rcases h.2 with ⟨rfl,h0⟩|⟨g,cap,cur,rfl,hlo,hg,hn,hm,hs,ht⟩
 · refine ⟨none,0,by rw [h0],by omega,by unfold maxLen;omega,?_⟩;have:ws X=[]:=List.length_eq_zero_iff.1 h0;rw [this];exact Rd.nil _ _ _
 · refine ⟨_,cap,rfl,hn,hm,fun _=>⟨g,0,(Array.getElem?_eq_some_iff.1 hg).1,rfl,fun i hi=>?_⟩⟩;have:=h.cells (g:=g) (by simp [Value.ownBlock]) i (U ((ws X).getD i 0)) (by simp [hi]);have e:(⟨g,0,none⟩:Addr).add i=⟨g,0+i,none⟩:=by unfold Addr.add;split <;> simp_all
   rw [e] at this;simpa [U] using this
theorem Nt.below {lo:Nat}{w w':World}{v:Value}{X:Nat}(h:Nt lo w v X) (hb:Below w.heap.size w w'):Nt lo w' v X:=by
 refine ⟨h.1,?_⟩;rcases h.2 with hn|⟨g,cap,cur,rfl,hlo,hg,rest⟩
 · exact .inl hn
 · refine .inr ⟨g,cap,cur,rfl,hlo,?_,rest⟩;rw [hb.block g (Array.getElem?_eq_some_iff.1 hg).1];exact hg
theorem Nt.mono {lo lo':Nat}{w:World}{v:Value}{X:Nat}(h:Nt lo w v X) (hl:lo'≤lo):Nt lo' w v X:=by
 refine ⟨h.1,?_⟩;rcases h.2 with hn|⟨g,cap,cur,rfl,hlo,rest⟩
 · exact .inl hn
 · exact .inr ⟨g,cap,cur,rfl,by omega,rest⟩
theorem Tryz.info81:(Tryz.prog.info? 81).map (fun i=>(i.zero,i.size,i.bytes))=some (some (.int .u32 0),1,4):=by kernel_rfl
end
section
open Go.RowKit
theorem trim_any (xs:List Nat) (ao:Option Addr) (n cap B:Nat) (w:World) (hn:n=xs.length) (hc:n≤cap) (hm:n≤9223372036854775807) (hR:Rd B w ao xs) :
 Calls Tryz.prog 111 #[.slice ao n cap] w fun r w'=>r=.returned (.slice ao (nl xs) cap)∧w'=w:=by
 by_cases hx:xs=[]
 · subst hx;simp at hn;subst hn;go_enter Tryz.func111,Tryz.ntmps111;go_wp2
   go_loopg [0] 0 (fun g s wr=>s=.slice ao 0 cap∧wr=w)
   case atStart=>exact ⟨rfl,rfl⟩
   case round =>
    obtain ⟨rfl,rfl⟩:=hrel;go_wp2;go_ret;exact ⟨rfl,rfl⟩
 · obtain ⟨b,off,hB,rfl,hcell⟩:=hR hx;have HN:Aside (n=xs.length):=hn;clear hn hR hx;go_enter Tryz.func111,Tryz.ntmps111;go_wp2
   go_loopg [0] n (fun g s wr=>g≤n∧s=.slice (some ⟨b,off,none⟩) g cap∧wr=w∧Aside (∀ j,g≤j→j<n→xs.getD j 0=0))
   case atStart=>exact ⟨Nat.le_refl _,rfl,rfl,fun j h1 h2=>by omega⟩
   case round =>
    obtain ⟨hk,rfl,rfl,hz⟩:=hrel
    by_cases hk0:gk=0
    · subst hk0;go_wp2;go_ret;rw [nl_stop xs 0 (by omega) (fun j h1 h2=>hz.out j h1 (by have:=HN.out;omega)) (.inl rfl)];exact ⟨rfl,rfl⟩
    · obtain ⟨k,rfl⟩:∃ k,gk=k+1:=⟨gk-1,by omega⟩;have hcx:=hcell k (by have:=HN.out;omega);obtain ⟨x,hxx⟩:∃ x:Nat,xs.getD k 0=x:=⟨_,rfl⟩;rw [hxx] at hcx;have HX:Aside (xs.getD k 0=x):=hxx;clear hxx hcell hk0
      by_cases h0:x=0
      · subst h0;go_wp2;go_roundg k
        case measure=>omega
        case rel =>
         refine ⟨by omega,rfl,rfl,fun j h1 h2=>?_⟩
         by_cases hj:j=k
         · subst hj;exact HX.out
         · exact hz.out j (by omega) h2
      · go_wp2;go_ret;rw [nl_stop xs (k+1) (by have:=HN.out;omega) (fun j h1 h2=>hz.out j h1 (by have:=HN.out;omega)) (.inr (by have:=HX.out;rw [Nat.add_sub_cancel,this];exact h0))];exact ⟨rfl,rfl⟩
theorem size_any (xs:List Nat) (ao:Option Addr) (n cap B:Nat) (w:World) (hn:n=xs.length) (hm:n≤9223372036854775807) (hR:Rd B w ao xs) :
 Calls Tryz.prog 143 #[.slice ao n cap] w fun r w'=>r=.returned (.int .i64 (nl xs:Nat))∧w'=w:=by
 by_cases hx:xs=[]
 · subst hx;simp at hn;subst hn;go_enter Tryz.func143,Tryz.ntmps143;go_wp2
   go_loopg [3] 0 (fun g s wr=>s=.int .i64 0∧wr=w)
   case atStart=>exact ⟨rfl,rfl⟩
   case round =>
    obtain ⟨rfl,rfl⟩:=hrel;go_wp2;go_ret;exact ⟨rfl,rfl⟩
 · obtain ⟨b,off,hB,rfl,hcell⟩:=hR hx;have HN:Aside (n=xs.length):=hn;clear hn hR hx;go_enter Tryz.func143,Tryz.ntmps143;go_wp2
   go_loopg [3] n (fun g s wr=>g≤n∧s=.int .i64 (g:Nat)∧wr=w∧Aside (∀ j,g≤j→j<n→xs.getD j 0=0))
   case atStart=>exact ⟨Nat.le_refl _,rfl,rfl,fun j h1 h2=>by omega⟩
   case round =>
    obtain ⟨hk,rfl,rfl,hz⟩:=hrel
    by_cases hk0:gk=0
    · subst hk0;go_wp2;go_ret;rw [nl_stop xs 0 (by omega) (fun j h1 h2=>hz.out j h1 (by have:=HN.out;omega)) (.inl rfl)];exact ⟨rfl,rfl⟩
    · obtain ⟨k,rfl⟩:∃ k,gk=k+1:=⟨gk-1,by omega⟩;have hcx:=hcell k (by have:=HN.out;omega);obtain ⟨x,hxx⟩:∃ x:Nat,xs.getD k 0=x:=⟨_,rfl⟩;rw [hxx] at hcx;have HX:Aside (xs.getD k 0=x):=hxx;clear hxx hcell hk0
      by_cases h0:x=0
      · subst h0;go_wp2;go_roundg k
        case measure=>omega
        case rel =>
         refine ⟨by omega,by go_num,rfl,fun j h1 h2=>?_⟩
         by_cases hj:j=k
         · subst hj;exact HX.out
         · exact hz.out j (by omega) h2
      · go_wp2;go_ret;rw [nl_stop xs (k+1) (by have:=HN.out;omega) (fun j h1 h2=>hz.out j h1 (by have:=HN.out;omega)) (.inr (by have:=HX.out;rw [Nat.add_sub_cancel,this];exact h0))];exact ⟨rfl,rfl⟩
end
section
open Go.RowKit
theorem wrap_u32n (n:Int):IntKind.u32.wrap n=n%4294967296:=by simp [IntKind.wrap,IntKind.signed,IntKind.bits]
theorem ofInt32 (a:Nat) (ha:a<4294967296):(BitVec.ofInt 32 (a:Int)).toNat=a:=by
 rw [BitVec.ofInt_natCast,BitVec.toNat_ofNat];exact Nat.mod_eq_of_lt (by omega)
theorem and32 (a b:Nat) (ha:a<4294967296) (hb:b<4294967296):bits .and .u32 (a:Int) (b:Int)=((a &&& b:Nat):Int):=by
 have hx:a &&& b<2^32:=Nat.and_lt_two_pow _ (by omega);show IntKind.u32.wrap ((BitVec.ofInt 32 (a:Int) &&& BitVec.ofInt 32 (b:Int)).toNat:Int)=_;rw [BitVec.toNat_and,ofInt32 a ha,ofInt32 b hb,wrap_u32n];omega
theorem or32 (a b:Nat) (ha:a<4294967296) (hb:b<4294967296):bits .or .u32 (a:Int) (b:Int)=((a ||| b:Nat):Int):=by
 have hx:a ||| b<2^32:=Nat.or_lt_two_pow (by omega) (by omega)
 show IntKind.u32.wrap ((BitVec.ofInt 32 (a:Int) ||| BitVec.ofInt 32 (b:Int)).toNat:Int)=_;rw [BitVec.toNat_or,ofInt32 a ha,ofInt32 b hb,wrap_u32n];omega
theorem xor32 (a b:Nat) (ha:a<4294967296) (hb:b<4294967296):bits .xor .u32 (a:Int) (b:Int)=((a ^^^ b:Nat):Int):=by
 have hx:a ^^^ b<2^32:=Nat.xor_lt_two_pow (by omega) (by omega);show IntKind.u32.wrap ((BitVec.ofInt 32 (a:Int) ^^^ BitVec.ofInt 32 (b:Int)).toNat:Int)=_;rw [BitVec.toNat_xor,ofInt32 a ha,ofInt32 b hb,wrap_u32n];omega
theorem borrow_nat (x y c d:Nat) (hx:x<4294967296) (hy:y<4294967296) (hc:c≤1) (hd:(d:Int)=((x:Int)-y-c)%4294967296) :
 (((4294967295 ^^^ x) &&& y) ||| ((4294967295 ^^^ (x ^^^ y)) &&& d))/2147483648=if x<y+c then 1 else 0:=by
 have e:∀ n:Nat,n/2147483648=n >>> 31:=fun n=>by rw [Nat.shiftRight_eq_div_pow]
 rw [e,Nat.shiftRight_or_distrib,Nat.shiftRight_and_distrib,Nat.shiftRight_and_distrib,Nat.shiftRight_xor_distrib,Nat.shiftRight_xor_distrib,Nat.shiftRight_xor_distrib,←e,←e,←e,←e];have hd2:d<4294967296:=by omega
 have h1:x/2147483648=0∨x/2147483648=1:=by omega
 have h2:y/2147483648=0∨y/2147483648=1:=by omega
 have h3:d/2147483648=0∨d/2147483648=1:=by omega
 rw [show 4294967295/2147483648=1 from rfl];rcases h1 with h1|h1 <;> rcases h2 with h2|h2 <;> rcases h3 with h3|h3 <;> rw [h1,h2,h3] <;> split <;> first|rfl|(exfalso;omega)
theorem borrow_int (x y c:Nat) (hx:x<4294967296) (hy:y<4294967296) (hc:c≤1) :
 bits BinOp.or IntKind.u32 (bits BinOp.and IntKind.u32 (bits BinOp.xor IntKind.u32 IntKind.u32.max x) y)
  (bits BinOp.and IntKind.u32
   (bits BinOp.xor IntKind.u32 IntKind.u32.max (bits BinOp.xor IntKind.u32 x y))
   (((x:Int)-y-c)%4294967296)) /
  2147483648=((if x<y+c then 1 else 0:Nat):Int):=by
 obtain ⟨d,hd⟩:∃ d:Nat,(d:Int)=((x:Int)-y-c)%4294967296:=⟨(((x:Int)-y-c)%4294967296).toNat,by omega⟩;have hd2:d<4294967296:=by omega
 have hm:IntKind.u32.max=((4294967295:Nat):Int):=by decide
 have hn:∀ a b:Nat,a<4294967296→b<4294967296→a ^^^ b<4294967296:=fun a b ha hb=>Nat.xor_lt_two_pow (n:=32) ha hb;have ha:∀ a b:Nat,b<4294967296→a &&& b<4294967296:=fun a b hb=>Nat.and_lt_two_pow (n:=32) a hb
 rw [hm,xor32 x y hx hy,xor32 _ _ (by decide) hx,xor32 _ _ (by decide) (hn _ _ hx hy),and32 _ _ (hn _ _ (by decide) hx) hy,←hd,and32 _ _ (hn _ _ (by decide) (hn _ _ hx hy)) hd2,
  or32 _ _ (ha _ _ hy) (ha _ _ hd2),←borrow_nat x y c d hx hy hc hd]
 omega
end
section
open Go.RowKit
theorem add32_int (x y c:Int) (w:World) (hx:0≤x) (hx2:x<4294967296) (hy:0≤y) (hy2:y<4294967296) (hc:0≤c) (hc2:c≤1) :
 Calls Tryz.prog 154 #[.int .u32 x,.int .u32 y,.int .u32 c] w fun r w'=>r=.returned (.tuple #[.int .u32 ((x+y+c)%4294967296),.int .u32 ((x+y+c)/4294967296)])∧w'=w:=by
 go_enter Tryz.func154,Tryz.ntmps154;go_wp2
 go_ret2
 exact ⟨rfl,rfl⟩
theorem add32_nat (x y c s d:Nat) (w:World) (hx:x<4294967296) (hy:y<4294967296) (hc:c≤1) (hs:s=(x+y+c)%4294967296) (hd:d=(x+y+c)/4294967296) :
 Calls Tryz.prog 154 #[.int .u32 (x:Int),.int .u32 (y:Int),.int .u32 (c:Int)] w fun r w'=>r=.returned (.tuple #[.int .u32 (s:Int),.int .u32 (d:Int)])∧w'=w:=by
 have h:=add32_int x y c w (by omega) (by omega) (by omega) (by omega) (by omega) (by omega);rw [show ((x:Int)+y+c)%4294967296=(s:Int) by omega,show ((x:Int)+y+c)/4294967296=(d:Int) by omega] at h;exact h
theorem sub32_int (x y c bo:Int) (w:World) (hx:0≤x) (hx2:x<4294967296) (hy:0≤y) (hy2:y<4294967296) (hc:0≤c) (hc2:c≤1)
 (hb:bits BinOp.or IntKind.u32 (bits BinOp.and IntKind.u32 (bits BinOp.xor IntKind.u32 IntKind.u32.max x) y)
  (bits BinOp.and IntKind.u32
   (bits BinOp.xor IntKind.u32 IntKind.u32.max (bits BinOp.xor IntKind.u32 x y))
   ((x-y-c)%4294967296)) /
  2147483648=bo) :
 Calls Tryz.prog 151 #[.int .u32 x,.int .u32 y,.int .u32 c] w fun r w'=>r=.returned (.tuple #[.int .u32 ((x-y-c)%4294967296),.int .u32 bo])∧w'=w:=by
 go_enter Tryz.func151,Tryz.ntmps151;go_wp2
 all_goals first | (go_ret2;exact ⟨rfl,rfl⟩) | skip
theorem sub32_nat (x y c s d:Nat) (w:World) (hx:x<4294967296) (hy:y<4294967296) (hc:c≤1) (hs:(s:Int)=((x:Int)-y-c)%4294967296) (hd:d=if x<y+c then 1 else 0) :
 Calls Tryz.prog 151 #[.int .u32 (x:Int),.int .u32 (y:Int),.int .u32 (c:Int)] w fun r w'=>r=.returned (.tuple #[.int .u32 (s:Int),.int .u32 (d:Int)])∧w'=w:=by
 have h:=sub32_int x y c d w (by omega) (by omega) (by omega) (by omega) (by omega) (by omega) (by rw [borrow_int x y c hx hy hc,←hd]);rw [←hs] at h;exact h
theorem long_any (n:Nat) (ao:Option Addr) (cap:Nat) (w:World) :
 Calls Tryz.prog 112 #[.slice ao n cap] w fun r w'=>r=.returned (.bool (decide ((8192:Int)<(n:Int))))∧w'=w:=by
 go_enter Tryz.func112,Tryz.ntmps112;go_wp2;go_ret;exact ⟨rfl,rfl⟩
theorem unlessLong_any (n:Nat) (ao:Option Addr) (cap:Nat) (w:World) :
 Calls Tryz.prog 132 #[.slice ao n cap] w fun r w'=>r=.returned (if 8192<n then .tuple #[.slice none 0 0,.int .i64 2] else .tuple #[.slice ao n cap,.int .i64 0])∧w'=w:=by
 by_cases h:8192<n
 · rw [if_pos h];have hl:=long_any n ao cap;have h':(8192:Int)<(n:Int):=by omega
   simp only [h',decide_true] at hl;have H:Hid (∀ w,_):=hl;clear hl;go_enter Tryz.func132,Tryz.ntmps132;go_wp2_with fail;refine (H.out _).mono ?_;rintro r w1 ⟨rfl,rfl⟩;go_wp2
   go_ret2
   exact ⟨rfl,rfl⟩
 · rw [if_neg h];have hl:=long_any n ao cap;have h':¬ (8192:Int)<(n:Int):=by omega
   simp only [h',decide_false] at hl;have H:Hid (∀ w,_):=hl;clear hl;go_enter Tryz.func132,Tryz.ntmps132;go_wp2_with fail;refine (H.out _).mono ?_;rintro r w1 ⟨rfl,rfl⟩;go_wp2
   go_ret2
   exact ⟨rfl,rfl⟩
theorem isNaN_i (x:Int) (w:World):Calls Tryz.prog 149 #[.int .i64 x] w fun r w'=>r=.returned (.bool false)∧w'=w:=by
 go_enter Tryz.func149,Tryz.ntmps149;go_wp2;go_ret;exact ⟨rfl,rfl⟩
theorem isNaN_u (x:Int) (w:World):Calls Tryz.prog 150 #[.int .u32 x] w fun r w'=>r=.returned (.bool false)∧w'=w:=by
 go_enter Tryz.func150,Tryz.ntmps150;go_wp2;go_ret;exact ⟨rfl,rfl⟩
def cmpI (x y:Nat):Int:=if x<y then -1 else if y<x then 1 else 0
theorem compare_i (x y:Nat) (w:World):Calls Tryz.prog 139 #[.int .i64 (x:Int),.int .i64 (y:Int)] w fun r w'=>r=.returned (.int .i64 (cmpI x y))∧w'=w:=by
 have H:Hid (∀ x w,_):=isNaN_i
 by_cases h:x<y
 · have e:cmpI x y=-1:=by simp [cmpI,h]
   rw [e];clear e;go_enter Tryz.func139,Tryz.ntmps139;go_wp2_with fail;refine (H.out _ _).mono ?_;rintro r w1 ⟨rfl,rfl⟩;go_wp2_with fail;refine (H.out _ _).mono ?_;rintro r w1 ⟨rfl,rfl⟩;go_wp2;go_ret;exact ⟨rfl,rfl⟩
 · by_cases h2:y<x
   · have e:cmpI x y=1:=by simp [cmpI,h,h2]
     rw [e];clear e;go_enter Tryz.func139,Tryz.ntmps139;go_wp2_with fail;refine (H.out _ _).mono ?_;rintro r w1 ⟨rfl,rfl⟩;go_wp2_with fail;refine (H.out _ _).mono ?_;rintro r w1 ⟨rfl,rfl⟩;go_wp2;go_ret;exact ⟨rfl,rfl⟩
   · have e:cmpI x y=0:=by simp [cmpI,h,h2]
     rw [e];clear e;go_enter Tryz.func139,Tryz.ntmps139;go_wp2_with fail;refine (H.out _ _).mono ?_;rintro r w1 ⟨rfl,rfl⟩;go_wp2_with fail;refine (H.out _ _).mono ?_;rintro r w1 ⟨rfl,rfl⟩;go_wp2;go_ret;exact ⟨rfl,rfl⟩
theorem compare_u (x y:Nat) (w:World):Calls Tryz.prog 140 #[.int .u32 (x:Int),.int .u32 (y:Int)] w fun r w'=>r=.returned (.int .i64 (cmpI x y))∧w'=w:=by
 have H:Hid (∀ x w,_):=isNaN_u
 by_cases h:x<y
 · have e:cmpI x y=-1:=by simp [cmpI,h]
   rw [e];clear e;go_enter Tryz.func140,Tryz.ntmps140;go_wp2_with fail;refine (H.out _ _).mono ?_;rintro r w1 ⟨rfl,rfl⟩;go_wp2_with fail;refine (H.out _ _).mono ?_;rintro r w1 ⟨rfl,rfl⟩;go_wp2;go_ret;exact ⟨rfl,rfl⟩
 · by_cases h2:y<x
   · have e:cmpI x y=1:=by simp [cmpI,h,h2]
     rw [e];clear e;go_enter Tryz.func140,Tryz.ntmps140;go_wp2_with fail;refine (H.out _ _).mono ?_;rintro r w1 ⟨rfl,rfl⟩;go_wp2_with fail;refine (H.out _ _).mono ?_;rintro r w1 ⟨rfl,rfl⟩;go_wp2;go_ret;exact ⟨rfl,rfl⟩
   · have e:cmpI x y=0:=by simp [cmpI,h,h2]
     rw [e];clear e;go_enter Tryz.func140,Tryz.ntmps140;go_wp2_with fail;refine (H.out _ _).mono ?_;rintro r w1 ⟨rfl,rfl⟩;go_wp2_with fail;refine (H.out _ _).mono ?_;rintro r w1 ⟨rfl,rfl⟩;go_wp2;go_ret;exact ⟨rfl,rfl⟩
end
section
def sg (L:List Nat) (off k:Nat):Nat:=val ((L.drop off).take k)
theorem sg_zero (L:List Nat) (off:Nat):sg L off 0=0:=by simp [sg,val]
theorem sg_succ (L:List Nat) (off k:Nat) (h:off+k<L.length):sg L off (k+1)=sg L off k+pw k*L.getD (off+k) 0:=by
 unfold sg;rw [val_take_succ _ _ (by simp;omega)];simp [List.getD_eq_getElem?_getD]
theorem sg_front (L:List Nat) (off k:Nat) (h:off<L.length):sg L off (k+1)=L.getD off 0+4294967296*sg L (off+1) k:=by
 unfold sg;rw [List.drop_eq_getElem_cons h,List.take_succ_cons,val,List.getD_eq_getElem?_getD,List.getElem?_eq_getElem h];rfl
theorem sg_all (L:List Nat):sg L 0 L.length=val L:=by simp [sg]
theorem sg_add (L:List Nat) (off k m:Nat) (h:off+k+m≤L.length):sg L off (k+m)=sg L off k+pw k*sg L (off+k) m:=by
 induction m with
 | zero=>simp [sg_zero]
 | succ m ih =>
   rw [←Nat.add_assoc,sg_succ L off (k+m) (by omega),sg_succ L (off+k) m (by omega),ih (by omega),pw_add,Nat.mul_add,←Nat.add_assoc off k m];simp only [Nat.mul_assoc,Nat.add_assoc]
theorem sg_congr (L M:List Nat) (off k:Nat) (hl:M.length=L.length) (h:off+k≤L.length) (he:∀ j,off≤j→j<off+k→M.getD j 0=L.getD j 0):sg M off k=sg L off k:=by
 induction k with
 | zero=>simp [sg_zero]
 | succ k ih=>rw [sg_succ M off k (by omega),sg_succ L off k (by omega),ih (by omega) (fun j h1 h2=>he j h1 (by omega)),he (off+k) (by omega) (by omega)]
theorem getD_set (L:List Nat) (i j x:Nat):(L.set i x).getD j 0=if i=j∧j<L.length then x else L.getD j 0:=by
 simp only [List.getD_eq_getElem?_getD,List.getElem?_set]
 by_cases h:i=j
 · subst h
   by_cases h2:i<L.length
   · simp [h2]
   · simp [h2]
 · simp [h]
theorem getD_set_same (L:List Nat) (i x:Nat) (h:i<L.length):(L.set i x).getD i 0=x:=by rw [getD_set,if_pos ⟨rfl,h⟩]
theorem getD_set_ne (L:List Nat) (i j x:Nat) (h:i≠j):(L.set i x).getD j 0=L.getD j 0:=by rw [getD_set,if_neg (fun e=>h e.1)]
theorem sg_set_above (L:List Nat) (off k i x:Nat) (h:off+k≤i) (hl:off+k≤L.length):sg (L.set i x) off k=sg L off k :=
 sg_congr L _ off k (by simp) hl (fun j _ h2=>getD_set_ne _ _ _ _ (by omega))
theorem sg_set_last (L:List Nat) (off k x:Nat) (h:off+k<L.length):sg (L.set (off+k) x) off (k+1)=sg L off k+pw k*x:=by
 rw [sg_succ _ _ _ (by simp;omega),getD_set_same _ _ _ h,sg_set_above _ _ _ _ _ (by omega) (by omega)]
theorem sg_lt (L:List Nat) (off k:Nat) (hw:Wf L) (h:off+k≤L.length):sg L off k<pw k:=by
 have:=val_lt _ ((hw.drop off).take k);simp only [List.length_take,List.length_drop] at this;rw [Nat.min_eq_left (by omega)] at this;exact this
theorem sg_val_take (L:List Nat) (k:Nat):sg L 0 k=val (L.take k):=by simp [sg]
theorem getD_zeros (n i:Nat):(List.replicate n 0).getD i 0=0:=by
 simp only [List.getD_eq_getElem?_getD,List.getElem?_replicate];split <;> rfl
theorem sg_zeros (n off k:Nat):sg (List.replicate n 0) off k=0:=by
 unfold sg;rw [List.drop_replicate,List.take_replicate,val_zeros]
def Out (L M:List Nat) (off n:Nat):Prop:=M.length=L.length∧∀ j,(j<off∨off+n≤j)→M.getD j 0=L.getD j 0
theorem Out.refl (L:List Nat) (off n:Nat):Out L L off n:=⟨rfl,fun _ _=>rfl⟩
theorem Out.set {L M:List Nat}{off n:Nat}(h:Out L M off n) (i x:Nat) (h1:off≤i) (h2:i<off+n):Out L (M.set i x) off n :=
 ⟨by simp [h.1],fun j hj=>by rw [getD_set_ne _ _ _ _ (by omega)];exact h.2 j hj⟩
theorem Out.mono {L M:List Nat}{off n k:Nat}(h:Out L M off n) (hk:n≤k):Out L M off k:=⟨h.1,fun j hj=>h.2 j (by omega)⟩
theorem Out.below {L M:List Nat}{off n:Nat}(h:Out L M off n) (a k:Nat) (h1:a+k≤off) (h2:a+k≤L.length):sg M a k=sg L a k:=sg_congr L M a k h.1 h2 (fun j _ hj=>h.2 j (by omega))
theorem Out.above {L M:List Nat}{off n:Nat}(h:Out L M off n) (a k:Nat) (h1:off+n≤a) (h2:a+k≤L.length):sg M a k=sg L a k:=sg_congr L M a k h.1 h2 (fun j hj _=>h.2 j (by omega))
theorem carry_step (p a b V c x y s d:Nat) (h:V+c*p=a+b) (e:s+d*4294967296=x+y+c):V+p*s+d*(4294967296*p)=(a+p*x)+(b+p*y):=by
 have:p*(s+d*4294967296)=p*(x+y+c):=by rw [e]
 grind
theorem seg_rest {L M:List Nat}{off k n V:Nat}(hk:k≤n) (hn:off+n≤L.length) (ho:Out L M off k) (h:sg M off k=sg L off k+V):sg M off n=sg L off n+V:=by
 obtain ⟨d,rfl⟩:∃ d,n=k+d:=⟨n-k,by omega⟩;have h1:=sg_add M off k d (by rw [ho.1];omega);have h2:=sg_add L off k d (by omega);have h3:=ho.above (off+k) d (by omega) (by omega);rw [h1,h2,h3];omega
theorem times_step (p a b V c x y q s d:Nat) (h:V+c*p=a+b*q) (e:s+d*4294967296=y*q+x+c):V+p*s+d*(4294967296*p)=(a+p*x)+(b+p*y)*q:=by
 have:p*(s+d*4294967296)=p*(y*q+x+c):=by rw [e]
 grind
theorem mul_bound (x y:Nat) (hx:x<4294967296) (hy:y<4294967296):x*y≤18446744065119617025:=by
 have:x*y≤4294967295*4294967295:=Nat.mul_le_mul (by omega) (by omega);omega
theorem borrow_step (p a b V c x y s d:Nat) (h:V+b=a+c*p) (e:s+y+c=x+d*4294967296):V+p*s+(b+p*y)=(a+p*x)+d*(4294967296*p):=by
 have:p*(s+y+c)=p*(x+d*4294967296):=by rw [e]
 grind
theorem seg_rest2 {L M:List Nat}{off k n V:Nat}(hk:k≤n) (hn:off+n≤L.length) (ho:Out L M off k) (h:sg M off k+V=sg L off k):sg M off n+V=sg L off n:=by
 obtain ⟨d,rfl⟩:∃ d,n=k+d:=⟨n-k,by omega⟩;have h1:=sg_add M off k d (by rw [ho.1];omega);have h2:=sg_add L off k d (by omega);have h3:=ho.above (off+k) d (by omega) (by omega);rw [h1,h2,h3];omega
end
section
open Go.RowKit
theorem or64_join (l x:Nat) (hl:l<4294967296) (hx:x<4294967296):bits BinOp.or IntKind.u64 ((l:Int)*4294967296) (x:Int)=((l*4294967296+x:Nat):Int):=by
 have e:((l:Int)*4294967296)=((l*4294967296:Nat):Int):=by simp only [Int.natCast_mul];rfl
 rw [e,bits_or_u64_nat _ _ (by omega) (by omega)];have:=Nat.two_pow_add_eq_or_of_lt (i:=32) (b:=x) (by omega) l;have e2:2^32*l=l*4294967296:=by rw [Nat.mul_comm]
 rw [e2] at this;rw [this]
end
section
open Go.RowKit
theorem addTo_any (L bs:List Nat) (g off n cap:Nat) (ao:Option Addr) (m capb B:Nat) (w:World)
 (hO:Own w g L) (hoff:off+n≤L.length) (hm:m=bs.length) (hmn:m≤n) (hcap:n≤cap) (hbig:n≤4611686018427387904) (hL:Wf L) (hb:Wf bs) (hR:Rd B w ao bs) (hB:B≤g) :
 Calls Tryz.prog 148 #[.slice (some ⟨g,off,none⟩) n cap,.slice ao m capb] w fun r w' =>
  ∃ M c,r=.returned (.int .u32 (c:Nat))∧c≤1∧Own w' g M∧Wf M∧Out L M off n∧sg M off n+c*pw n=sg L off n+val bs∧But g w w':=by
 have HR:Aside (Rd B w ao bs∧m=bs.length∧Wf bs∧Wf L∧off+n≤L.length):=⟨hR,hm,hb,hL,hoff⟩;have HO:Hid (Own w g L):=hO;have HA32:Hid (∀ x y c s d w,_→_→_→_→_→_):=add32_nat;clear hR hm hb hL hO hoff;go_enter Tryz.func148,Tryz.ntmps148;go_wp2
 go_loopg [5,11] m (fun gk c i wr=>∃ (k cv:Nat) (M:List Nat),gk+k=m∧c=.int .u32 (cv:Nat)∧cv≤1∧i=.int .i64 (k:Nat) ∧
  Hid (Own wr g M)∧Aside (Wf M∧Out L M off k∧sg M off k+cv*pw k=sg L off k+sg bs 0 k∧But g w wr))
 case atStart=>exact ⟨0,0,L,by omega,rfl,by omega,rfl,HO,HR.out.2.2.2.1,Out.refl _ _ _,by simp [sg_zero],But.refl _ _⟩
 case round =>
  obtain ⟨k,cv,M,hgk,rfl,hcv,rfl,HM,HA⟩:=hrel
  by_cases hk:k<m
  · obtain ⟨hR,hm,hb,hL,hoff⟩:=HR.out;obtain ⟨hMw,hMo,hMs,hbut⟩:=HA.out;obtain ⟨b,boff,hbB,rfl,hbc⟩:=hR (by intro e;subst e;simp at hm;omega)
    have hbk:wr.cell? ⟨b,boff+k,none⟩=some (.int .u32 ((bs.getD k 0:Nat):Int)):=by
     have h1:=hbut.block b (World.block_lt_of_cell? w ⟨b,boff+k,none⟩ (hbc k (by omega))) (by omega);exact (World.cell?_of_block (a:=⟨b,boff+k,none⟩) h1).trans (hbc k (by omega))
    have hgc:=HM.out.cell (off+k) (by rw [hMo.1];omega);have hgf:=HM.out.frozen (off+k);obtain ⟨x,hx⟩:∃ x:Nat,M.getD (off+k) 0=x:=⟨_,rfl⟩;obtain ⟨y,hy⟩:∃ y:Nat,bs.getD k 0=y:=⟨_,rfl⟩;have hxl:x<4294967296:=hx ▸ hMw.get _;have hyl:y<4294967296:=hy ▸ hb.get _;rw [hx] at hgc;rw [hy] at hbk;obtain ⟨s,hs⟩:∃ s:Nat,s=(x+y+cv)%4294967296:=⟨_,rfl⟩;obtain ⟨d,hd⟩:∃ d:Nat,d=(x+y+cv)/4294967296:=⟨_,rfl⟩;have HX:Aside (M.getD (off+k) 0=x∧bs.getD k 0=y∧s=(x+y+cv)%4294967296∧d=(x+y+cv)/4294967296):=⟨hx,hy,hs,hd⟩;clear hx hy hs hd hR hm hb hL hoff hMw hMo hMs hbut hbc;go_wp2_with fail;refine (HA32.out x y cv s d _ hxl hyl hcv HX.out.2.2.1 HX.out.2.2.2).mono ?_;rintro r w1 ⟨rfl,rfl⟩;go_wp2;go_roundg (gk-1)
    case measure=>omega
    case rel =>
     obtain ⟨hx,hy,hs,hd⟩:=HX.out;obtain ⟨hR,hm,hb,hL,hoff⟩:=HR.out;obtain ⟨hMw,hMo,hMs,hbut⟩:=HA.out;refine ⟨k+1,d,M.set (off+k) s,by omega,rfl,by omega,by go_num,HM.out.set _ _,hMw.set _ _ (by omega),(hMo.mono (by omega)).set _ _ (by omega) (by omega),?_,hbut.set _ _⟩;rw [sg_set_last _ _ _ _ (by rw [hMo.1];omega),sg_succ L off k (by omega),sg_succ bs 0 k (by omega),Nat.zero_add,hy,pw_succ];have e:L.getD (off+k) 0=x:=by rw [←hx];exact (hMo.2 _ (by omega)).symm
     rw [e];exact carry_step _ _ _ _ _ _ _ _ _ hMs (by omega)
  · obtain rfl:k=m:=by omega
    have HA2:Aside (Wf M∧Out L M off k∧sg M off k+cv*pw k=sg L off k+val bs∧But g w wr):=by
     obtain ⟨hR,hm,hb,hL,hoff⟩:=HR.out;obtain ⟨hMw,hMo,hMs,hbut⟩:=HA.out;refine ⟨hMw,hMo,?_,hbut⟩;rw [hMs,hm,sg_all]
    clear HA hgk HO hk;go_wp2
    go_loopg [5,8] (n-k) (fun g2 c i w2=>∃ (j cv:Nat) (M:List Nat),g2+j=n∧k≤j∧c=.int .u32 (cv:Nat)∧cv≤1∧i=.int .i64 (j:Nat) ∧
     Hid (Own w2 g M)∧Aside (Wf M∧Out L M off j∧sg M off j+cv*pw j=sg L off j+val bs∧But g w w2))
    case atStart=>exact ⟨k,cv,M,by omega,Nat.le_refl _,rfl,hcv,rfl,HM,HA2.out⟩
    case round =>
     clear HM HA2 hcv;obtain ⟨j,cv,M,hgj,hkj,rfl,hcv,rfl,HM,HA⟩:=hrel
     by_cases hj:j<n
     · by_cases h0:cv=0
       · subst h0;go_wp2;go_ret;obtain ⟨hR,hm,hb,hL,hoff⟩:=HR.out;obtain ⟨hMw,hMo,hMs,hbut⟩:=HA.out;refine ⟨M,0,rfl,by omega,HM.out,hMw,hMo.mono (by omega),?_,hbut⟩;rw [Nat.zero_mul,Nat.add_zero] at hMs ⊢;exact seg_rest (by omega) (by omega) hMo hMs
       · obtain rfl:cv=1:=by omega
         obtain ⟨hR,hm,hb,hL,hoff⟩:=HR.out;obtain ⟨hMw,hMo,hMs,hbut⟩:=HA.out;have hgc:=HM.out.cell (off+j) (by rw [hMo.1];omega);have hgf:=HM.out.frozen (off+j);obtain ⟨x,hx⟩:∃ x:Nat,M.getD (off+j) 0=x:=⟨_,rfl⟩;have hxl:x<4294967296:=hx ▸ hMw.get _;rw [hx] at hgc;obtain ⟨s,hs⟩:∃ s:Nat,s=(x+0+1)%4294967296:=⟨_,rfl⟩;obtain ⟨d,hd⟩:∃ d:Nat,d=(x+0+1)/4294967296:=⟨_,rfl⟩;have HX:Aside (M.getD (off+j) 0=x∧s=(x+0+1)%4294967296∧d=(x+0+1)/4294967296):=⟨hx,hs,hd⟩;clear hx hs hd hR hm hb hL hoff hMw hMo hMs hbut h0;go_wp2_with fail;refine (HA32.out x 0 1 s d _ hxl (by omega) (by omega) HX.out.2.1 HX.out.2.2).mono ?_;rintro r w1 ⟨rfl,rfl⟩;go_wp2;go_roundg (gk-1)
         case measure=>omega
         case rel =>
          obtain ⟨hx,hs,hd⟩:=HX.out;obtain ⟨hR,hm,hb,hL,hoff⟩:=HR.out;obtain ⟨hMw,hMo,hMs,hbut⟩:=HA.out;refine ⟨j+1,d,M.set (off+j) s,by omega,by omega,rfl,by omega,by go_num,HM.out.set _ _,hMw.set _ _ (by omega),(hMo.mono (by omega)).set _ _ (by omega) (by omega),?_,hbut.set _ _⟩;rw [sg_set_last _ _ _ _ (by rw [hMo.1];omega),sg_succ L off j (by omega),pw_succ];have e:L.getD (off+j) 0=x:=by rw [←hx];exact (hMo.2 _ (by omega)).symm
          rw [e];have:=carry_step (pw j) _ _ _ _ x 0 s d hMs (by omega);omega
     · obtain rfl:j=n:=by omega
       go_wp2;go_ret;obtain ⟨hMw,hMo,hMs,hbut⟩:=HA.out;exact ⟨M,cv,rfl,hcv,HM.out,hMw,hMo,hMs,hbut⟩
end
end Go.Proofs.YtepkabljmpbmaaaGreatDoor
