import Ieee.Arith
import Derived.WalkKit
import Derived.Test.YthejkolknalpaaaGreatDoorProg
import Derived.WalkLawsBesides
import Derived.WalkSpells
import Derived.Laws.Externs
import Derived.Test.YthejkolknalpaaaGreatDoorW24x
import Derived.BigQuiet
import Derived.ArgAppend
import Derived.Maps.AppendAt
import Derived.WalkMore
import Derived.Test.YthejkolknalpaaaGreatDoorW14x
import Derived.ProofKit
import Derived.OpenShut
import Derived.ChangeOld
import Derived.SizedLaws
import Derived.Deep.RegionHeld
set_option linter.unusedVariables false
set_option linter.unusedSimpArgs false
set_option maxHeartbeats 16000000
set_option maxRecDepth 20000
namespace Go.Proofs.YthejkolknalpaaaGreatDoor
namespace B
open Ieee
def val (f:Format) (r:Nat):Nat:=if r<f.binade then r else (f.binade+r%f.binade)*2^(r/f.binade-1)
theorem binade_pos (f:Format):0<f.binade:=Nat.two_pow_pos _
theorem val_succ (f:Format) (r:Nat):val f (r+1)=val f r+2^(r/f.binade-1):=by
 have hb:=binade_pos f;unfold val;generalize hB:f.binade=B at *
 by_cases h:r<B
 · rw [if_pos h,Nat.div_eq_of_lt h]
   by_cases h1:r+1<B
   · rw [if_pos h1]
   · have e:r+1=B:=by omega
     rw [if_neg h1,e,Nat.mod_self,Nat.div_self hb];simp
 · have h1:¬ r+1<B:=by omega
   rw [if_neg h,if_neg h1]
   have hq:1≤r/B:=by
    have:=Nat.div_le_div_right (c:=B) (Nat.le_of_not_lt h);rw [Nat.div_self hb] at this;exact this
   have hm:=Nat.mod_lt r hb;have hd:=Nat.div_add_mod r B;generalize r/B=q at *;generalize hmm:r%B=m at *;obtain ⟨q,rfl⟩:∃ k,q=k+1:=⟨q-1,by omega⟩
   by_cases h2:m+1<B
   · have e:r+1=B*(q+1)+(m+1):=by omega
     have e1:(r+1)%B=m+1:=by rw [e,Nat.mul_add_mod,Nat.mod_eq_of_lt h2]
     have e2:(r+1)/B=q+1:=by rw [e,Nat.mul_add_div hb,Nat.div_eq_of_lt h2]
     rw [e1,e2,Nat.add_sub_cancel,←Nat.add_assoc,Nat.add_mul,Nat.one_mul]
   · have hm1:m+1=B:=by omega
     have e:r+1=B*(q+2):=by rw [show q+2=(q+1)+1 from rfl,Nat.mul_succ];omega
     have e1:(r+1)%B=0:=by rw [e,Nat.mul_mod_right]
     have e2:(r+1)/B=q+2:=by rw [e,Nat.mul_div_cancel_left _ hb]
     rw [e1,e2];have:B+m=2*B-1:=by omega
     have h3:(B+m)*2^q+2^q=(2*B)*2^q:=by
      rw [←Nat.succ_mul];congr 1;omega
     show (B+0)*2^(q+1)=(B+m)*2^q+2^q
     rw [h3,Nat.pow_succ,Nat.add_zero,Nat.mul_comm 2 B,Nat.mul_assoc,Nat.mul_comm 2]
theorem val_lt_succ (f:Format) (r:Nat):val f r<val f (r+1):=by
 rw [val_succ];exact Nat.lt_add_of_pos_right (Nat.two_pow_pos _)
theorem val_lt (f:Format) {r s:Nat}(h:r<s):val f r<val f s:=by
 induction s with
 | zero=>omega
 | succ s ih =>
   by_cases e:r=s
   · subst e;exact val_lt_succ f r
   · exact Nat.lt_trans (ih (by omega)) (val_lt_succ f s)
theorem val_lt_iff (f:Format) {r s:Nat}:val f r<val f s↔r<s:=by
 constructor
 · intro h
   by_cases e:r<s
   · exact e
   · by_cases e2:r=s
     · subst e2;omega
     · have:=val_lt f (show s<r by omega);omega
 · exact val_lt f
theorem val_inj (f:Format) {r s:Nat}(h:val f r=val f s):r=s:=by
 by_cases e:r<s
 · have:=val_lt f e;omega
 · by_cases e2:s<r
   · have:=val_lt f e2;omega
   · omega
theorem val_zero (f:Format):val f 0=0:=by
 unfold val;rw [if_pos (binade_pos f)]
def sg (s:Bool) (r:Nat):Int:=if s then -(r:Int) else r
theorem sg_val_lt (f:Format) (s t:Bool) (r u:Nat):sg s (val f r)<sg t (val f u)↔sg s r<sg t u:=by
 have h1:=@val_lt_iff f r u;have h2:=@val_lt_iff f u r;have z:=val_zero f;have h3:=@val_lt_iff f 0 r;have h4:=@val_lt_iff f 0 u
 cases s <;> cases t <;> simp only [sg,if_true,if_false,Bool.false_eq_true] <;> omega
theorem signed_eq (s:Bool) (m k:Nat):signed s m k=sg s (m*2^k):=by
 unfold signed sg;rw [Nat.shiftLeft_eq]
theorem read_word (f:Format) (s:Bool) (r:Nat) (hr:r<f.infRung) (hs:f.infRung<f.signWeight) :
 ∃ m:Nat,∃ k:Nat,f.read (f.word s r)=.number s m (f.leastPlace+k)∧m*2^k=val f r:=by
 have e1:(f.word s r/f.signWeight%2==1)=s:=by
  unfold Format.word
  cases s
  · simp only [Bool.false_eq_true,if_false]
    rw [Nat.div_eq_of_lt (by omega)];rfl
  · simp only [if_true]
    rw [Nat.add_div_left _ (by omega),Nat.div_eq_of_lt (by omega)];rfl
 have e2:f.word s r%f.signWeight=r:=by
  unfold Format.word
  cases s
  · simp only [Bool.false_eq_true,if_false];exact Nat.mod_eq_of_lt (by omega)
  · simp only [if_true];rw [Nat.add_mod_left];exact Nat.mod_eq_of_lt (by omega)
 unfold Format.read;simp only [e1,e2];unfold val
 by_cases h:r<f.binade
 · rw [if_pos h,if_pos h]
   exact ⟨r,0,by simp,by simp⟩
 · rw [if_neg h,if_neg h,if_pos hr]
   exact ⟨_,_,rfl,rfl⟩
theorem read_inf (f:Format) (s:Bool) (hs:f.infRung<f.signWeight) (hb:f.binade≤f.infRung) :
 f.read (f.word s f.infRung)=.infinity s:=by
 have e1:(f.word s f.infRung/f.signWeight%2==1)=s:=by
  unfold Format.word
  cases s
  · simp only [Bool.false_eq_true,if_false]
    rw [Nat.div_eq_of_lt (by omega)];rfl
  · simp only [if_true]
    rw [Nat.add_div_left _ (by omega),Nat.div_eq_of_lt (by omega)];rfl
 have e2:f.word s f.infRung%f.signWeight=f.infRung:=by
  unfold Format.word
  cases s
  · simp only [Bool.false_eq_true,if_false];exact Nat.mod_eq_of_lt (by omega)
  · simp only [if_true];rw [Nat.add_mod_left];exact Nat.mod_eq_of_lt (by omega)
 unfold Format.read;simp only [e1,e2];rw [if_neg (by omega),if_neg (by omega),if_pos trivial]
theorem read_nan (f:Format) (w:Nat) (h:f.infRung<w%f.signWeight) (hb:f.binade≤f.infRung) :
 f.read w=.nan (w/f.signWeight%2==1) (w%f.signWeight-f.infRung):=by
 unfold Format.read;simp only;rw [if_neg (by omega),if_neg (by omega),if_neg (by omega)]
theorem compare_of (a b c d:Int) (h1:a<b↔c<d) (h2:b<a↔d<c):compare a b=compare c d:=by
 by_cases x:a<b
 · rw [Int.compare_eq_lt.2 x,Int.compare_eq_lt.2 (h1.1 x)]
 · by_cases y:b<a
   · rw [Int.compare_eq_gt.2 y,Int.compare_eq_gt.2 (h2.1 y)]
   · have e1:a=b:=by omega
     have e2:c=d:=by
      have n1:=mt h1.2 x;have n2:=mt h2.2 y;omega
     rw [Int.compare_eq_eq.2 e1,Int.compare_eq_eq.2 e2]
theorem sg_mul (s:Bool) (a k:Nat):sg s (a*k)=sg s a*(k:Int):=by
 unfold sg;cases s <;> simp [Int.neg_mul]
theorem order_num (s t:Bool) (m n j k:Nat) (p:Int) :
 Datum.order (.number s m (p+j)) (.number t n (p+k))=some (compare (sg s (m*2^j)) (sg t (n*2^k))):=by
 unfold Datum.order;simp only [signed_eq]
 congr 1
 have hb:∃ c:Nat,min (p+(j:Int)) (p+(k:Int))=p+c:=⟨min j k,by omega⟩
 obtain ⟨c,hc⟩:=hb;have hj:(p+(j:Int)-min (p+(j:Int)) (p+(k:Int))).toNat=j-c:=by rw [hc];omega
 have hk:(p+(k:Int)-min (p+(j:Int)) (p+(k:Int))).toNat=k-c:=by rw [hc];omega
 have cj:c≤j:=by omega
 have ck:c≤k:=by omega
 rw [hj,hk];have ej:m*2^j=m*2^(j-c)*2^c:=by rw [Nat.mul_assoc,←Nat.pow_add,Nat.sub_add_cancel cj]
 have ek:n*2^k=n*2^(k-c)*2^c:=by rw [Nat.mul_assoc,←Nat.pow_add,Nat.sub_add_cancel ck]
 rw [ej,ek,sg_mul s (m*2^(j-c)),sg_mul t (n*2^(k-c))];have hp:(0:Int)<((2^c:Nat):Int):=by exact_mod_cast Nat.two_pow_pos c
 refine compare_of _ _ _ _ ?_ ?_
 · exact ⟨fun h=>Int.mul_lt_mul_of_pos_right h hp,fun h=>Int.lt_of_mul_lt_mul_right h (Int.le_of_lt hp)⟩
 · exact ⟨fun h=>Int.mul_lt_mul_of_pos_right h hp,fun h=>Int.lt_of_mul_lt_mul_right h (Int.le_of_lt hp)⟩
theorem order_word (f:Format) (hs:f.infRung<f.signWeight) (hb:f.binade≤f.infRung) (s t:Bool) (r u:Nat) (hr:r≤f.infRung) (hu:u≤f.infRung) :
 f.order (f.word s r) (f.word t u)=some (compare (sg s r) (sg t u)):=by
 have hB:=binade_pos f;unfold Format.order
 by_cases r1:r=f.infRung
 · by_cases u1:u=f.infRung
   · subst r1 u1
     rw [read_inf f s hs hb,read_inf f t hs hb];unfold Datum.order;simp only
     congr 1
     cases s <;> cases t <;> simp only [sg,Bool.toNat_true,Bool.toNat_false,if_true,if_false,Bool.false_eq_true]
     · rw [Int.compare_eq_eq.2 rfl];rfl
     · rw [Int.compare_eq_gt.2 (by omega)];rfl
     · rw [Int.compare_eq_lt.2 (by omega)];rfl
     · rw [Int.compare_eq_eq.2 rfl];rfl
   · obtain ⟨n,k,e,hv⟩:=read_word f t u (by omega) hs
     subst r1;rw [read_inf f s hs hb,e];unfold Datum.order;simp only
     cases s <;> cases t <;> simp only [sg,if_true,if_false,Bool.false_eq_true] <;>
      first | rw [Int.compare_eq_gt.2 (by omega)] | rw [Int.compare_eq_lt.2 (by omega)]
 · obtain ⟨m,j,e,hv⟩:=read_word f s r (by omega) hs
   by_cases u1:u=f.infRung
   · subst u1
     rw [read_inf f t hs hb,e];unfold Datum.order;simp only
     cases s <;> cases t <;> simp only [sg,if_true,if_false,Bool.false_eq_true] <;>
      first | rw [Int.compare_eq_gt.2 (by omega)] | rw [Int.compare_eq_lt.2 (by omega)]
   · obtain ⟨n,k,e2,hv2⟩:=read_word f t u (by omega) hs
     rw [e,e2,order_num,hv,hv2]
     congr 1
     exact compare_of _ _ _ _ (sg_val_lt f s t r u) (sg_val_lt f t s u r)
def rte (n g:Nat):Nat:=n/g+(decide (g<2*(n%g)) || (g==2*(n%g)&&n/g%2==1)).toNat
theorem cut_even (neg:Bool) (n drop:Nat):Toward.even.cut neg n drop=rte n (2^drop):=by
 unfold Toward.cut rte;simp only [Nat.shiftLeft_eq,Nat.one_mul]
 by_cases h:drop≤n.log2+2
 · rw [Nat.min_eq_left h]
 · rw [Nat.min_eq_right (by omega)]
   have hn:n<2^(n.log2+1):=Nat.lt_log2_self;have h1:n<2^(n.log2+2):=by rw [Nat.pow_succ];omega
   have h2:2^(n.log2+2)≤2^drop:=Nat.pow_le_pow_right (by omega) (by omega)
   have h3:2*n<2^(n.log2+2):=by rw [Nat.pow_succ];omega
   rw [Nat.div_eq_of_lt h1,Nat.mod_eq_of_lt h1,Nat.div_eq_of_lt (show n<2^drop by omega),Nat.mod_eq_of_lt (show n<2^drop by omega)]
   have a1:decide (2^(n.log2+2)<2*n)=false:=by simp;omega
   have a2:decide (2^drop<2*n)=false:=by simp;omega
   simp only [a1,a2,Nat.zero_mod];simp
theorem rte_exact (n g:Nat) (hg:0<g):rte (n*g) g=n:=by
 unfold rte;rw [Nat.mul_div_cancel _ hg,Nat.mul_mod_left];have:decide (g<2*0)=false:=by simp
 have h2:(g==2*0)=false:=by simp;omega
 rw [this,h2];simp
theorem rte_one (n:Nat):rte n 1=n:=by
 have:=rte_exact n 1 (by omega)
 rwa [Nat.mul_one] at this
theorem nearest_exact (f:Format) (neg:Bool) (mag k r:Nat) (hr:r<f.infRung) (h:mag*2^k=val f r) :
 f.nearest neg mag (f.leastPlace+k)=f.word neg r:=by
 unfold Format.nearest
 by_cases hm:mag=0
 · rw [if_pos hm]
   have:val f r=val f 0:=by rw [val_zero,←h,hm,Nat.zero_mul]
   rw [val_inj f this]
 · rw [if_neg hm]
   simp only [cut_even,Nat.shiftLeft_eq];have hl:=(Nat.log2_eq_iff hm (k:=mag.log2)).1 rfl;generalize mag.log2=L at *;have hB:f.binade=2^f.fractionBits:=rfl;have hb:=binade_pos f;unfold val at h
   by_cases hlt:r<f.binade
   · rw [if_pos hlt] at h
     have h1:2^(L+k)<2^f.fractionBits:=by
      rw [Nat.pow_add,←hB];exact Nat.lt_of_le_of_lt (Nat.mul_le_mul_right _ hl.1) (by omega)
     have h2:=(Nat.pow_lt_pow_iff_right (a:=2) (by omega)).1 h1
     have e:max (f.leastPlace+(k:Int)+(L:Int)-(f.fractionBits:Int)) f.leastPlace=f.leastPlace:=by omega
     rw [e];have e1:(f.leastPlace+(k:Int)-f.leastPlace).toNat=k:=by omega
     have e2:(f.leastPlace-(f.leastPlace+(k:Int))).toNat=0:=by omega
     have e3:(f.leastPlace-f.leastPlace).toNat=0:=by omega
     rw [e1,e2,e3,h,Nat.pow_zero,rte_one,Nat.zero_mul,Nat.zero_add,Nat.min_eq_left (by omega)]
   · rw [if_neg hlt] at h
     have hq:1≤r/f.binade:=by
      have:=Nat.div_le_div_right (c:=f.binade) (Nat.le_of_not_lt hlt);rw [Nat.div_self hb] at this;exact this
     have hmm:=Nat.mod_lt r hb;have hd:=Nat.div_add_mod r f.binade;generalize r/f.binade=q at *;generalize r%f.binade=m at *;obtain ⟨q,rfl⟩:∃ j,q=j+1:=⟨q-1,by omega⟩
     rw [Nat.add_sub_cancel] at h
     -- the logarithms
     have lo1:2^(L+k)≤mag*2^k:=by rw [Nat.pow_add];exact Nat.mul_le_mul_right _ hl.1
     have hi1:mag*2^k<2^(L+1+k):=by rw [Nat.pow_add];exact Nat.mul_lt_mul_of_pos_right hl.2 (Nat.two_pow_pos _)
     have lo2:2^(f.fractionBits+q)≤(f.binade+m)*2^q:=by rw [Nat.pow_add];exact Nat.mul_le_mul_right _ (by omega)
     have hi2:(f.binade+m)*2^q<2^(f.fractionBits+1+q):=by
      rw [Nat.pow_add,Nat.pow_succ];exact Nat.mul_lt_mul_of_pos_right (by omega) (Nat.two_pow_pos _)
     have c1:=(Nat.pow_lt_pow_iff_right (a:=2) (by omega)).1 (show 2^(L+k)<2^(f.fractionBits+1+q) by omega)
     have c2:=(Nat.pow_lt_pow_iff_right (a:=2) (by omega)).1 (show 2^(f.fractionBits+q)<2^(L+1+k) by omega)
     have cL:L+k=f.fractionBits+q:=by omega
     have e:max (f.leastPlace+(k:Int)+(L:Int)-(f.fractionBits:Int)) f.leastPlace=f.leastPlace+q:=by omega
     rw [e];have e3:(f.leastPlace+(q:Int)-f.leastPlace).toNat=q:=by omega
     rw [e3]
     have fin:q*f.binade+(f.binade+m)=r:=by
      rw [←hd,Nat.mul_succ,Nat.mul_comm q];omega
     by_cases hk:q≤k
     · have e1:(f.leastPlace+(k:Int)-(f.leastPlace+(q:Int))).toNat=k-q:=by omega
       have e2:(f.leastPlace+(q:Int)-(f.leastPlace+(k:Int))).toNat=0:=by omega
       have hh:mag*2^(k-q)=f.binade+m:=by
        have:mag*2^(k-q)*2^q=(f.binade+m)*2^q:=by
         rw [Nat.mul_assoc,←Nat.pow_add,Nat.sub_add_cancel hk];exact h
        exact Nat.eq_of_mul_eq_mul_right (Nat.two_pow_pos _) this
       rw [e1,e2,hh,Nat.pow_zero,rte_one,fin,Nat.min_eq_left (by omega)]
     · have e1:(f.leastPlace+(k:Int)-(f.leastPlace+(q:Int))).toNat=0:=by omega
       have e2:(f.leastPlace+(q:Int)-(f.leastPlace+(k:Int))).toNat=q-k:=by omega
       have hh:mag=(f.binade+m)*2^(q-k):=by
        have:mag*2^k=(f.binade+m)*2^(q-k)*2^k:=by
         rw [Nat.mul_assoc,←Nat.pow_add,Nat.sub_add_cancel (by omega)];exact h
        exact Nat.eq_of_mul_eq_mul_right (Nat.two_pow_pos _) this
       rw [e1,e2,Nat.pow_zero,Nat.mul_one,hh,rte_exact _ _ (Nat.two_pow_pos _),fin,Nat.min_eq_left (by omega)]
end B
namespace B
def bw (s:Bool) (e f:Nat):Nat:=s.toNat*9223372036854775808+e*4503599627370496+f
theorem bw_of (b:Nat) (hb:b<18446744073709551616):∃ s e f,e<2048∧f<4503599627370496∧b=bw s e f:=by
 refine ⟨decide (9223372036854775808≤b),b%9223372036854775808/4503599627370496,b%4503599627370496,by omega,by omega,?_⟩
 unfold bw
 by_cases h:9223372036854775808≤b
 · rw [decide_eq_true h];simp only [Bool.toNat_true];omega
 · rw [decide_eq_false h];simp only [Bool.toNat_false];omega
theorem bw_lt (s:Bool) (e f:Nat) (he:e<2048) (hf:f<4503599627370496):bw s e f<18446744073709551616:=by
 unfold bw;cases s <;> simp only [Bool.toNat_true,Bool.toNat_false] <;> omega
theorem wraps_i64 (n:Int) (h0:0≤n) (h1:n<2^63):IntKind.i64.wrap n=n:=by rw [IntKind.wrap_i64];omega
theorem wraps_u64 (n:Int) (h0:0≤n) (h1:n<2^64):IntKind.u64.wrap n=n:=by
 simp [IntKind.wrap,IntKind.bits,IntKind.signed];omega
theorem bw_exp (s:Bool) (e f:Nat) (he:e<2048) (hf:f<4503599627370496):bits .and .i64 ((bw s e f:Int)/4503599627370496) 2047=(e:Int):=by
 have hl:=bw_lt s e f he hf;have h:=bits_mask .i64 63 (by decide) wraps_i64 11 (by decide) ((bw s e f:Int)/4503599627370496) (by omega) (by omega)
 rw [show ((2:Int)^11-1)=2047 from rfl] at h
 rw [h];unfold bw;cases s <;> simp only [Bool.toNat_true,Bool.toNat_false] <;> omega
theorem bw_frac (s:Bool) (e f:Nat) (he:e<2048) (hf:f<4503599627370496):bits .and .u64 ((bw s e f:Nat):Int) 4503599627370495=(f:Int):=by
 have hl:=bw_lt s e f he hf;have h:=bits_mask .u64 64 (by decide) wraps_u64 52 (by decide) (bw s e f:Int) (by omega) (by omega)
 rw [show ((2:Int)^52-1)=4503599627370495 from rfl] at h
 rw [h];unfold bw;cases s <;> simp only [Bool.toNat_true,Bool.toNat_false] <;> omega
theorem bw_sign (s:Bool) (e f:Nat) (he:e<2048) (hf:f<4503599627370496):bits .and .u64 ((bw s e f:Int)/9223372036854775808) 1=(s.toNat:Int):=by
 have hl:=bw_lt s e f he hf;have h:=bits_mask .u64 64 (by decide) wraps_u64 1 (by decide) ((bw s e f:Int)/9223372036854775808) (by omega) (by omega)
 rw [show ((2:Int)^1-1)=1 from rfl] at h
 rw [h];unfold bw;cases s <;> simp only [Bool.toNat_true,Bool.toNat_false] <;> omega
theorem frac_or (f:Nat) (hf:f<4503599627370496):bits .or .u64 (f:Int) 4503599627370496=(f:Int)+4503599627370496:=by
 have hc:bits .or .u64 (f:Int) 4503599627370496=bits .or .u64 4503599627370496 (f:Int):=by simp only [bits,BitVec.or_comm]
 rw [hc,bits_join .u64 64 (by decide) wraps_u64 52 4503599627370496 (f:Int) (by decide) (by decide) (by decide) (by omega) (by omega) (by omega)]
 omega
theorem or_sign (x:Int) (h0:0≤x) (h1:x<9223372036854775808):bits .or .u64 x 9223372036854775808=x+9223372036854775808:=by
 have hc:bits .or .u64 x 9223372036854775808=bits .or .u64 9223372036854775808 x:=by simp only [bits,BitVec.or_comm]
 rw [hc,bits_join .u64 64 (by decide) wraps_u64 63 9223372036854775808 x (by decide) (by decide) (by decide) h0 (by omega) (by omega)]
 omega
def pv (neg:Bool) (c x:Int) (f:Int):Value:=.agg #[.bool neg,.int .i64 c,.int .i64 x,.int .u64 f]
def cls (e f:Nat):Int:=if e=2047 then (if f=0 then 3 else 4) else if e=0 then (if f=0 then 0 else 1) else 2
def xp (e:Nat):Int:=if e=2047 then 0 else if e=0 then -1074 else (e:Int)-1075
def fr (e f:Nat):Int:=if e=2047 then 0 else if e=0 then (f:Int) else (f:Int)+4503599627370496
def ng (s:Bool) (e f:Nat):Bool:=if e=2047∧f≠0 then false else s
def splitV (s:Bool) (e f:Nat):Value:=pv (ng s e f) (cls e f) (xp e) (fr e f)
theorem splitV_odd (s:Bool) (e f:Nat) (h:e=2047) (h2:((f:Int) != 0)=true):splitV s e f=.agg #[.bool false,.int .i64 4,.int .i64 0,.int .u64 0]:=by
 have:f≠0:=by intro h;subst h;simp at h2
 simp [splitV,pv,ng,cls,xp,fr,h,this]
theorem splitV_end (s:Bool) (e f:Nat) (h:e=2047) (h2:((f:Int) != 0)=false):splitV s e f=.agg #[.bool s,.int .i64 3,.int .i64 0,.int .u64 0]:=by
 have:f=0:=by simp at h2;omega
 simp [splitV,pv,ng,cls,xp,fr,h,this]
theorem splitV_nought (s:Bool) (e f:Nat) (h:e=0) (h2:((f:Int)==0)=true):splitV s e f=.agg #[.bool s,.int .i64 0,.int .i64 (-1074),.int .u64 0]:=by
 have:f=0:=by simp at h2;omega
 simp [splitV,pv,ng,cls,xp,fr,h,this]
theorem splitV_small (s:Bool) (e f:Nat) (h:e=0) (h2:((f:Int)==0)=false):splitV s e f=.agg #[.bool s,.int .i64 1,.int .i64 (-1074),.int .u64 f]:=by
 have:f≠0:=by intro h;subst h;simp at h2
 simp [splitV,pv,ng,cls,xp,fr,h,this]
theorem splitV_plain (s:Bool) (e f:Nat) (h:e≠2047) (h2:e≠0):splitV s e f=.agg #[.bool s,.int .i64 2,.int .i64 ((e:Int)-1075),.int .u64 ((f:Int)+4503599627370496)]:=by
 simp [splitV,pv,ng,cls,xp,fr,h,h2]
def odd (e f:Nat):Bool:=e==2047&&f != 0
theorem not_odd (e f:Nat) (h:odd e f=false):¬ (e=2047∧f≠0):=by
 rintro ⟨h1,h2⟩;simp [odd,h1,h2] at h
theorem is_odd (e f:Nat) (h:odd e f=true):e=2047∧f≠0:=by
 simpa [odd] using h
def cb (s:Bool) (e f:Nat):Nat:=if e=2047∧f≠0 then 9221120237041090560 else bw s e f
theorem cb_odd (s:Bool) (e f:Nat) (h:e=2047∧f≠0):cb s e f=9221120237041090560:=if_pos h
theorem cb_else (s:Bool) (e f:Nat) (h:¬ (e=2047∧f≠0)):cb s e f=bw s e f:=if_neg h
theorem bw_mod (s:Bool) (e f:Nat) (he:e<2048) (hf:f<4503599627370496):(bw s e f:Int)%9223372036854775808=(e:Int)*4503599627370496+f:=by
 unfold bw;cases s <;> simp only [Bool.toNat_true,Bool.toNat_false] <;> omega
theorem dInf:Ieee.double.infRung=9218868437227405312:=by decide
theorem dSign:Ieee.double.signWeight=9223372036854775808:=by decide
theorem dBin:Ieee.double.binade=4503599627370496:=by decide
theorem dHs:Ieee.double.infRung<Ieee.double.signWeight:=by decide
theorem dHb:Ieee.double.binade≤Ieee.double.infRung:=by decide
theorem bw_word (s:Bool) (e f:Nat):bw s e f=Ieee.double.word s (e*4503599627370496+f):=by
 unfold bw Ieee.Format.word;rw [dSign]
 cases s <;> simp [Nat.add_assoc]
theorem bw_read_odd (s:Bool) (e f:Nat) (hf:f<4503599627370496) (h:odd e f=true):Ieee.double.read (bw s e f)=.nan s f:=by
 have h0:e=2047∧f≠0:=by simpa [odd] using h
 have e1:bw s e f%Ieee.double.signWeight=e*4503599627370496+f:=by
  rw [dSign];unfold bw;cases s <;> simp only [Bool.toNat_true,Bool.toNat_false] <;> omega
 have e2:(bw s e f/Ieee.double.signWeight%2==1)=s:=by
  rw [dSign]
  cases s
  · have:bw false e f/9223372036854775808%2=0:=by unfold bw;simp only [Bool.toNat_false];omega
    rw [this];rfl
  · have:bw true e f/9223372036854775808%2=1:=by unfold bw;simp only [Bool.toNat_true];omega
    rw [this];rfl
 rw [read_nan Ieee.double _ (by rw [e1,dInf];omega) dHb,e1,e2,dInf,show e*4503599627370496+f-9218868437227405312=f from by omega]
theorem rung_le (e f:Nat) (he:e<2048) (hf:f<4503599627370496) (h:odd e f=false):e*4503599627370496+f≤Ieee.double.infRung:=by
 rw [dInf];have:=not_odd e f h;omega
theorem bw_ne_nan (s:Bool) (e f:Nat) (he:e<2048) (hf:f<4503599627370496) (h:odd e f=false):¬ bw s e f=9221120237041090560:=by
 have:=not_odd e f h;unfold bw;cases s <;> simp only [Bool.toNat_true,Bool.toNat_false] <;> omega
def pl (s:Bool) (e f:Nat):Int:=sg s (e*4503599627370496+f)
theorem ord (s t:Bool) (e f u v:Nat) (he:e<2048) (hf:f<4503599627370496) (hu:u<2048) (hv:v<4503599627370496) :
 FloatKind.f64.format.order (bw s e f) (bw t u v)=if odd e f || odd u v then none else some (compare (pl s e f) (pl t u v)):=by
 show Ieee.double.order _ _=_
 by_cases h1:odd e f=true
 · rw [h1]
   show (Ieee.double.read (bw s e f)).order _=none
   rw [bw_read_odd s e f hf h1];rfl
 · by_cases h2:odd u v=true
   · rw [h2]
     show (Ieee.double.read (bw s e f)).order (Ieee.double.read (bw t u v))=if (odd e f || true)=true then none else _
     rw [bw_read_odd t u v hv h2,Bool.or_true,if_pos rfl]
     cases Ieee.double.read (bw s e f) <;> rfl
   · have h3:odd e f=false:=by simpa using h1
     have h4:odd u v=false:=by simpa using h2
     rw [h3,h4,bw_word,bw_word];rw [order_word Ieee.double dHs dHb s t _ _ (rung_le e f he hf h3) (rung_le u v hu hv h4)];simp [pl]
theorem order_self (s:Bool) (e f:Nat) (he:e<2048) (hf:f<4503599627370496):(FloatKind.f64.format.order (bw s e f) (bw s e f) != some .eq)=odd e f:=by
 rw [ord s s e f e f he hf he hf,Bool.or_self,Int.compare_eq_eq.2 rfl]
 cases odd e f <;> rfl
end B
namespace B
open Go.RowKit
theorem split_any (s:Bool) (e f:Nat) (he:e<2048) (hf:f<4503599627370496) (w:World) :
 Calls Tryz.prog 135 #[.int .u64 (bw s e f),.int .u64 52,.int .u64 11,.int .i64 (-1074)] w fun r w'=>r=.returned (splitV s e f)∧Below w.heap.size w w':=by
 have hl:=bw_lt s e f he hf;have h1:=bw_exp s e f he hf;have h2:=bw_frac s e f he hf;have h3:=bw_sign s e f he hf;have h4:=frac_or f hf;have h5:((s.toNat:Int)==1)=s:=by cases s <;> rfl
 go_enter Tryz.func135,Tryz.ntmps135;go_wp2
 · rw [splitV_odd s e f (by omega) ‹_›]
   exact bodyPost_ret (v:=.agg #[.bool false,.int .i64 4,.int .i64 0,.int .u64 0]) (by simp [results,Tryz.results135,go_sem]) rfl ⟨rfl,(by repeat (first | exact Below.refl _ _ | assumption | exact Nat.le_refl _ | (simp;done) | (simp;omega) | refine Below.alloc ?_ ?_ _ | refine Below.setCell ?_ ?_ _ | refine Below.drew ?_))⟩
 · rw [splitV_end s e f (by omega) ‹_›]
   exact bodyPost_ret (v:=.agg #[.bool s,.int .i64 3,.int .i64 0,.int .u64 0]) (by simp [results,Tryz.results135,go_sem]) rfl ⟨rfl,(by repeat (first | exact Below.refl _ _ | assumption | exact Nat.le_refl _ | (simp;done) | (simp;omega) | refine Below.alloc ?_ ?_ _ | refine Below.setCell ?_ ?_ _ | refine Below.drew ?_))⟩
 · rw [splitV_nought s e f (by omega) ‹_›]
   exact bodyPost_ret (v:=.agg #[.bool s,.int .i64 0,.int .i64 (-1074),.int .u64 0]) (by simp [results,Tryz.results135,go_sem]) rfl ⟨rfl,(by repeat (first | exact Below.refl _ _ | assumption | exact Nat.le_refl _ | (simp;done) | (simp;omega) | refine Below.alloc ?_ ?_ _ | refine Below.setCell ?_ ?_ _ | refine Below.drew ?_))⟩
 · rw [splitV_small s e f (by omega) ‹_›]
   exact bodyPost_ret (v:=.agg #[.bool s,.int .i64 1,.int .i64 (-1074),.int .u64 f]) (by simp [results,Tryz.results135,go_sem]) rfl ⟨rfl,(by repeat (first | exact Below.refl _ _ | assumption | exact Nat.le_refl _ | (simp;done) | (simp;omega) | refine Below.alloc ?_ ?_ _ | refine Below.setCell ?_ ?_ _ | refine Below.drew ?_))⟩
 · rw [splitV_plain s e f (by omega) (by omega)]
   refine bodyPost_ret (v:=.agg #[.bool s,.int .i64 2,.int .i64 ((e:Int)-1075),.int .u64 ((f:Int)+4503599627370496)]) (by simp [results,Tryz.results135,go_sem];try omega) rfl ⟨rfl,(by repeat (first | exact Below.refl _ _ | assumption | exact Nat.le_refl _ | (simp;done) | (simp;omega) | refine Below.alloc ?_ ?_ _ | refine Below.setCell ?_ ?_ _ | refine Below.drew ?_))⟩
end B
namespace B
theorem f64bits (b:Nat) (w:World):(callFunc 48 #[.float .f64 b]).run Tryz.prog w=.ok (.value (.int .u64 b)) w:=by
 rw [run_callFunc_extern (e:=Extern.MathFloatBits.float64bits) Tryz.func48 (by kernel_rfl) (by kernel_rfl) (by kernel_rfl) (by kernel_rfl)];rfl
theorem f64frombits (n:Int) (w:World):(callFunc 70 #[.int .u64 n]).run Tryz.prog w=.ok (.value (.float .f64 n.toNat)) w:=by
 rw [run_callFunc_extern (e:=Extern.MathFloatBits.float64frombits) Tryz.func70 (by kernel_rfl) (by kernel_rfl) (by kernel_rfl) (by kernel_rfl)];rfl
end B
namespace B
open Go.RowKit
attribute [local go_sem] f64bits f64frombits
theorem bcell {W w1:World}(hb:Below W.heap.size W w1):(∀ b o,b<W.heap.size→w1.cell? ⟨b,o,none⟩=W.cell? ⟨b,o,none⟩)∧(∀ b o,b<W.heap.size→w1.frozen? ⟨b,o,none⟩=W.frozen? ⟨b,o,none⟩) :=
 ⟨fun b o h=>hb.cell (p:=⟨b,o,none⟩) h,fun b o h=>hb.frozen (p:=⟨b,o,none⟩) h⟩
theorem split_lit (s:Bool) (e f:Nat) (he:e<2048) (hf:f<4503599627370496) (w:World) :
 Calls Tryz.prog 135 #[.int .u64 (bw s e f),.int .u64 52,.int .u64 11,.int .i64 (-1074)] w fun r w'=>r=.returned (.agg #[.bool (ng s e f),.int .i64 (cls e f),.int .i64 (xp e),.int .u64 (fr e f)])∧Below w.heap.size w w' :=
 split_any s e f he hf w
theorem nan_any (w:World):Calls Tryz.prog 37 #[] w fun r w'=>r=.returned (.float .f64 9221120237041090560)∧w'=w:=by
 go_enter Tryz.func37,Tryz.ntmps37;go_wp2;go_ret;exact ⟨rfl,rfl⟩
theorem Split_any (s:Bool) (e f:Nat) (he:e<2048) (hf:f<4503599627370496) (w:World) :
 Calls Tryz.prog 110 #[.float .f64 (bw s e f)] w fun r w'=>r=.returned (.agg #[.bool (ng s e f),.int .i64 (cls e f),.int .i64 (xp e),.int .u64 (fr e f)])∧Below w.heap.size w w':=by
 go_enter Tryz.func110,Tryz.ntmps110
 go_wp2_with (go_at_call 135;refine (split_lit s e f he hf _).mono ?_;rintro r w1 ⟨rfl,hb⟩;(obtain ⟨hc,hfz⟩:=bcell hb;have hz:w.heap.size<w1.heap.size:=by (have:=hb.size;simp at this;omega)))
 exact bodyPost_ret (v:=(.agg #[.bool (ng s e f),.int .i64 (cls e f),.int .i64 (xp e),.int .u64 (fr e f)])) (by simp [results,Tryz.results110,go_sem,hc]) rfl ⟨rfl,(by repeat (first | exact Below.refl _ _ | exact ((Below.refl _ _).alloc (Nat.le_refl _) _).trans (hb.mono (by simp)) | exact Nat.le_refl _ | (simp;done) | (simp;omega) | refine Below.alloc ?_ ?_ _ | refine Below.setCell ?_ ?_ _ | refine Below.drew ?_))⟩
theorem isNaN_any (s:Bool) (e f:Nat) (he:e<2048) (hf:f<4503599627370496) (w:World) :
 Calls Tryz.prog 23 #[.float .f64 (bw s e f)] w fun r w'=>r=.returned (.bool (odd e f))∧w'=w:=by
 have h1:=order_self s e f he hf;go_enter Tryz.func23,Tryz.ntmps23;go_wp2;go_ret;exact ⟨rfl,rfl⟩
end B
section
open Go.RowKit
theorem But.drewN {g:Nat}{a w:World}(h:But g a w) (n:Nat):But g a (w.drewN n):=⟨h.os,h.tape,h.output,h.size,h.block⟩
abbrev Rw (lo:Nat) (w:World) (v:Value) (n:Nat) (ys:List Value):Prop:=w.ownsRow lo 89 1 v n ys
theorem row_other {w w':World}{lo e s:Nat}{v:Value}{n:Nat}{ys:List Value}(h:w.ownsRow lo e s v n ys) (hb:∀ g,v.ownBlock=some g→w'.heap[g]?=w.heap[g]?):w'.ownsRow lo e s v n ys:=by
 refine ⟨h.1,?_⟩
 rcases h.2 with hn|⟨g,cap,cur,rfl,hlo,hg,rest⟩
 · exact .inl hn
 · refine .inr ⟨g,cap,cur,rfl,hlo,?_,rest⟩
   rw [hb g rfl];exact hg
theorem bit_words (xs:List Nat) (hx:Wf xs) (k r:Nat) (hk:k<xs.length) (hr:r<32):val xs/2^(32*k+r)%2=xs.getD k 0/2^r%2:=by
 have e:=val_take_drop xs k (by omega)
 have hl:val (xs.take k)<pw k:=by
  have:=val_lt _ (hx.take k);rwa [List.length_take,Nat.min_eq_left (by omega)] at this
 rw [pw_two,←Nat.div_div_eq_div_mul,e,Nat.add_mul_div_left _ _ (pw_pos k),Nat.div_eq_of_lt hl,Nat.zero_add,val_drop_succ xs k hk]
 have e2:4294967296*val (xs.drop (k+1))=2^r*(2*(2^(31-r)*val (xs.drop (k+1)))):=by
  have:(4294967296:Nat)=2^r*(2*2^(31-r)):=by
   rw [←Nat.mul_assoc,Nat.mul_comm (2^r) 2,Nat.mul_assoc,←Nat.pow_add,show r+(31-r)=31 by omega]
  rw [this];grind
 rw [e2,Nat.add_mul_div_left _ _ (Nat.two_pow_pos r),Nat.add_mul_mod_self_left]
theorem bit_beyond (xs:List Nat) (hx:Wf xs) (i:Nat) (h:xs.length≤i/32):val xs/2^i%2=0:=by
 have h1:=val_lt xs hx
 have h2:pw xs.length≤2^i:=by
  have:pw xs.length=2^(32*xs.length):=by rw [←Nat.add_zero (32*xs.length),pw_two];simp
  rw [this];exact Nat.pow_le_pow_right (by decide) (by omega)
 rw [Nat.div_eq_of_lt (by omega)]
theorem and_one (z:Nat) (h:z<4294967296):bits BinOp.and IntKind.u32 (z:Int) 1=((z%2:Nat):Int):=by
 have:=and32 z 1 h (by decide)
 rw [Nat.and_one_is_mod] at this;exact this
theorem bit_neg (ao:Option Addr) (n cap:Nat) (i:Int) (w:World) (hi:i<0) :
 Calls Tryz.prog 148 #[.slice ao n cap,.int .i64 i] w fun r w'=>r=.returned (.bool false)∧w'=w:=by
 go_enter Tryz.func148,Tryz.ntmps148;go_wp2;go_ret;exact ⟨rfl,rfl⟩
theorem bit_any (xs:List Nat) (ao:Option Addr) (n cap B i:Nat) (w:World) (hn:n=xs.length) (hx:Wf xs) (hR:Rd B w ao xs) (hi:i≤9223372036854775807) :
 Calls Tryz.prog 148 #[.slice ao n cap,.int .i64 (i:Int)] w fun r w'=>r=.returned (.bool (decide (val xs/2^i%2=1)))∧w'=w:=by
 obtain ⟨k,hk⟩:∃ k,k=i/32:=⟨_,rfl⟩;obtain ⟨r,hr⟩:∃ r,r=i%32:=⟨_,rfl⟩;have e1:(i:Int)/32=(k:Int):=by omega
 have e2:(i:Int)%32=(r:Int):=by omega
 by_cases hkn:k<n
 · have hb:=bit_words xs hx k r (by omega) (by omega)
   rw [show 32*k+r=i by omega] at hb
   rw [hb];obtain ⟨b,off,hB,rfl,hcell⟩:=hR (by intro e;subst e;simp at hn;omega)
   have hck:=hcell k (by omega)
   obtain ⟨t,ht⟩:∃ t,xs.getD k 0=t:=⟨_,rfl⟩;have htl:t<4294967296:=ht ▸ hx.get k;rw [ht] at hck ⊢;obtain ⟨z,hz⟩:∃ z,z=t/2^r:=⟨_,rfl⟩;have hzt:z≤t:=by rw [hz];exact Nat.div_le_self _ _
   have e3:(t:Int)/2^r=(z:Int):=by rw [hz];simp
   have e4:=and_one z (by omega)
   have hr32:r<32:=by omega
   rw [←hz];clear hb hn hx hR hcell ht hz hk hr
   rcases (by omega:z%2=0∨z%2=1) with hz2|hz2
   · rw [hz2] at e4 ⊢
     clear hz2;go_enter Tryz.func148,Tryz.ntmps148;go_wp2;go_ret;exact ⟨rfl,rfl⟩
   · rw [hz2] at e4 ⊢
     clear hz2;go_enter Tryz.func148,Tryz.ntmps148;go_wp2;go_ret;exact ⟨rfl,rfl⟩
 · rw [bit_beyond xs hx i (by omega)]
   clear hn hx hR hk hr;go_enter Tryz.func148,Tryz.ntmps148;go_wp2;go_ret;exact ⟨rfl,rfl⟩
def smallV (X:Nat):Value:=if X<18446744073709551616 then .tuple #[.int .u64 (X:Int),.int .i64 0] else .tuple #[.int .u64 0,.int .i64 2]
theorem nl_two (xs:List Nat) (hx:Wf xs):nl xs≤2↔val xs<18446744073709551616:=by
 rw [nl_eq_length xs hx,ws_len_le];rfl
theorem small_any (xs:List Nat) (ao:Option Addr) (n cap B:Nat) (w:World) (hn:n=xs.length) (hc:n≤cap) (hm:n≤70368744177664) (hx:Wf xs) (hR:Rd B w ao xs) :
 Calls Tryz.prog 147 #[.slice ao n cap] w fun r w'=>r=.returned (smallV (val xs))∧w'=w:=by
 have H:=hid (trim_any xs ao n cap B w hn hc (by omega) hR)
 have hl:=nl_le xs;have h2:=nl_two xs hx;have hf:=val_form xs hx;obtain ⟨m,hm'⟩:∃ m,nl xs=m:=⟨_,rfl⟩;rw [hm'] at H hl h2 hf;unfold smallV
 by_cases h:2<m
 · rw [if_neg (by omega)]
   clear h2 hl hn hx hR hm' hf;go_enter Tryz.func147,Tryz.ntmps147
   go_wp2_with fail
   refine H.out.mono ?_;rintro r w1 ⟨rfl,rfl⟩;go_wp2
   go_ret2
   exact ⟨rfl,rfl⟩
 · rw [if_pos (by omega)]
   rw [←sg_val_take] at hf;have HR:=(qsd (ai hR (ai hn (ai hx (ai hl hf)))));have hm2:m≤2:=by omega
   clear h2 hl hn hx hR hm' hf h;go_enter Tryz.func147,Tryz.ntmps147
   go_wp2_with fail
   refine H.out.mono ?_;rintro r w1 ⟨rfl,rfl⟩;go_wp2
   go_loopg [4,14] m (fun gk s i wr=>∃ (k sv:Nat),gk+k=m∧s=.int .u64 (sv:Nat)∧i=.int .i64 (k:Nat)∧wr=w1∧Aside (sv=sg xs 0 k))
   case atStart=>exact ⟨0,0,by omega,rfl,rfl,rfl,(sg_zero _ _).symm⟩
   case round =>
    obtain ⟨k,sv,hgk,rfl,rfl,rfl,HA⟩:=hrel
    by_cases hk:k<m
    · obtain ⟨hR,hn,hx,hl,hf⟩:=HR.out
      obtain ⟨b,off,hB,rfl,hcell⟩:=hR (by intro e;subst e;simp at hl;omega)
      have hck:=hcell k (by omega)
      obtain ⟨t,ht⟩:∃ t,xs.getD k 0=t:=⟨_,rfl⟩;have htl:t<4294967296:=ht ▸ hx.get k;rw [ht] at hck;have hs1:=sg_lt xs 0 k hx (by omega)
      have hs2:=sg_succ xs 0 k (by omega)
      rw [Nat.zero_add,ht,←HA.out] at hs2;rw [←HA.out] at hs1;have HX:=(qsd (ai hs1 hs2));clear hR hn hx hl hf hcell ht hs1 hs2
      rcases (by omega:k=0∨k=1) with rfl|rfl
      · have hsv:sv=0:=by have:=HX.out.1;rw [pw_zero] at this;omega
        have e:bits BinOp.or IntKind.u64 (sv:Int) (t:Int)=(t:Int):=by rw [bits_or_u64_nat _ _ (by omega) (by omega),hsv,Nat.zero_or]
        rw [Nat.add_zero] at hck;have HS:=(qsd hsv);clear hsv;go_wp2
        go_roundg (gk-1)
        case measure=>omega
        case rel =>
         refine ⟨1,t,by omega,by first | rfl | rw [e],by go_num,rfl,?_⟩
         have:=HX.out.2;rw [pw_zero,HS.out] at this;rw [Aside,this];omega
      · have hsv:sv<4294967296:=by have:=HX.out.1;rw [show (1:Nat)=0+1 from rfl,pw_succ,pw_zero] at this;omega
        have e:=or64_join2 t sv htl hsv;go_wp2
        go_roundg (gk-1)
        case measure=>omega
        case rel =>
         refine ⟨2,sv+t*4294967296,by omega,by first | rfl | rw [e] | (rw [e];rfl),by go_num,rfl,?_⟩
         have:=HX.out.2;rw [show pw 1=4294967296 from rfl] at this
         rw [Aside,this];omega
    · obtain rfl:k=m:=by omega
      go_wp2
      go_ret2
      obtain ⟨hR,hn,hx,hl,hf⟩:=HR.out;rw [←hf,←HA.out];exact ⟨rfl,rfl⟩
theorem Below.drewN' {B:Nat}{a w:World}(h:Below B a w) (n:Nat):Below B a (w.drewN n):=⟨h.os,h.tape,h.output,h.size,h.block⟩
theorem below_alloc (w:World) (o:Obj):Below w.heap.size w (w.alloc o):=(Below.refl _ _).alloc (Nat.le_refl _) _
theorem bl_pw (N n:Nat) (h:N<pw n):bl N≤32*n:=by
 by_cases h0:N=0
 · rw [h0,bl_zero];omega
 · have h1:=bl_ge N h0
   rcases Nat.lt_or_ge (32*n) (bl N) with h2|h2
   · exfalso
     have h3:2^(32*n)≤2^(bl N-1):=Nat.pow_le_pow_right (by omega) (by omega)
     have h4:pw n=2^(32*n):=by unfold pw;rw [Nat.pow_mul]
     omega
   · exact h2
theorem Nt.but {lo g:Nat}{w w':World}{v:Value}{X:Nat}(h:Nt lo w v X) (hb:But g w w') (hg:g<lo):Nt lo w' v X:=by
 have h1:Rw lo w v (ws X).length ((ws X).map U):=h
 exact row_other h1 fun b hb2=>by
  obtain ⟨h2,h3⟩:=h.lt b hb2;exact hb.block b h3 (by omega)
theorem cmpI_ge {x y:Nat}(h:y≤x):0≤cmpI x y:=by unfold cmpI;split <;> (try split) <;> omega
theorem lo_form (X:Nat) (h:X≠0):∃ m,X=2^lo X*(2*m+1):=by
 have key:∀ Y:Nat,Y≠0→∃ i m,Y=2^i*(2*m+1):=by
  intro Y
  induction Y using Nat.strongRecOn with
  | ind Y ih =>
    intro hY
    rcases Nat.mod_two_eq_zero_or_one Y with h0|h1
    · obtain ⟨i,m,e⟩:=ih (Y/2) (by omega) (by omega)
      refine ⟨i+1,m,?_⟩;rw [Nat.pow_succ,Nat.mul_comm (2^i) 2,Nat.mul_assoc,←e];omega
    · exact ⟨0,Y/2,by omega⟩
 obtain ⟨i,m,e⟩:=key X h;refine ⟨m,?_⟩;rw [e,lo_eq]
theorem Arg.drew' {w:World}{a:Option Addr}{n c:Nat}{xs:List Nat}(h:Arg w a n c xs):Arg w.drew a n c xs:=⟨h.len,h.cap,h.big,h.wf,h.rd,h.nil⟩
def mkS (neg:Bool) (X:Nat) (e:Int):Option (Bool×Nat×Int) :=
 if X=0 then some (false,0,0)
 else if 262144<bl X-lo X∨1048576-(lo X:Int)<e∨e < -1048576-(lo X:Int) then none
 else some (neg,X/2^lo X,e+lo X)
def dN (o:Option (Bool×Nat×Int)):Bool:=(o.getD (false,0,0)).1
def dX (o:Option (Bool×Nat×Int)):Nat:=(o.getD (false,0,0)).2.1
def dE (o:Option (Bool×Nat×Int)):Int:=(o.getD (false,0,0)).2.2
def erS (o:Option (Bool×Nat×Int)):Int:=if o.isSome then 0 else 2
theorem bl_gt (X m:Nat):m<bl X↔2^m≤X:=by
 constructor
 · intro h
   have h0:X≠0:=by rintro rfl;rw [bl_zero] at h;omega
   exact Nat.le_trans (Nat.pow_le_pow_right (by omega) (by omega:m≤bl X-1)) (bl_ge X h0)
 · intro h
   exact (Nat.pow_lt_pow_iff_right (by omega)).1 (Nat.lt_of_le_of_lt h (bl_lt X))
theorem len_bl (X k m:Nat) (hm:m=32*k):k<(ws X).length↔m<bl X:=by
 rw [bl_gt,hm,Nat.pow_mul];have h:=ws_len_le X k;unfold pw at h;rw [show (2:Nat)^32=4294967296 from rfl]
 generalize 4294967296^k=P at h ⊢;omega
theorem LG_bl (X:Nat):LG X↔262144<bl X:=len_bl X 8192 262144 rfl
theorem bl_mul_pow (k Y:Nat) (h:Y≠0):bl (2^k*Y)=k+bl Y:=by
 have h1:=bl_lt Y;have h2:=bl_ge Y h;have h3:=bl_pos Y h;have e:k+bl Y=(k+(bl Y-1))+1:=by omega
 rw [e]
 apply bl_eq
 · rw [Nat.pow_add];exact Nat.mul_le_mul_left _ h2
 · rw [show k+(bl Y-1)+1=k+bl Y by omega,Nat.pow_add]
   exact Nat.mul_lt_mul_of_pos_left h1 (Nat.two_pow_pos k)
theorem odd_part (X:Nat) (h:X≠0):∃ m,X=2^lo X*(2*m+1)∧X/2^lo X=2*m+1∧bl X=lo X+bl (X/2^lo X):=by
 obtain ⟨m,hm⟩:=lo_form X h
 have e:X/2^lo X=2*m+1:=by
  obtain ⟨k,hk⟩:∃ k,lo X=k:=⟨_,rfl⟩;rw [hk] at hm ⊢;rw [hm,Nat.mul_div_cancel_left _ (Nat.two_pow_pos k)]
 refine ⟨m,hm,e,?_⟩;rw [e];obtain ⟨k,hk⟩:∃ k,lo X=k:=⟨_,rfl⟩;rw [hk] at hm ⊢;rw [hm];exact bl_mul_pow k _ (by omega)
theorem lo_double (X:Nat) (h:X≠0):lo (2*X)=lo X+1:=by
 obtain ⟨m,hm⟩:=lo_form X h;obtain ⟨k,hk⟩:∃ k,lo X=k:=⟨_,rfl⟩;rw [hk] at hm ⊢;have e:2*X=2^(k+1)*(2*m+1):=by rw [hm,Nat.pow_succ];grind
 rw [e];exact lo_eq (k+1) m
theorem bl_double (X:Nat) (h:X≠0):bl (2*X)=bl X+1:=by
 have:=bl_mul_pow 1 X h;rw [Nat.pow_one] at this;omega
theorem mkS_double (n:Bool) (X:Nat) (e:Int):mkS n (2*X) e=mkS n X (e+1):=by
 unfold mkS
 by_cases h:X=0
 · subst h;simp
 · rw [if_neg (by omega),if_neg h,lo_double X h,bl_double X h]
   have e1:2*X/2^(lo X+1)=X/2^lo X:=by
    rw [Nat.pow_succ,Nat.mul_comm (2^lo X) 2,Nat.mul_div_mul_left _ _ (by omega)]
   rw [e1];have e2:(262144<bl X+1-(lo X+1)∨1048576-((lo X+1:Nat):Int)<e∨e < -1048576-((lo X+1:Nat):Int))↔(262144<bl X-lo X∨1048576-(lo X:Int)<e+1∨e+1 < -1048576-(lo X:Int)):=by omega
   by_cases h2:262144<bl X-lo X∨1048576-(lo X:Int)<e+1∨e+1 < -1048576-(lo X:Int)
   · rw [if_pos h2,if_pos (e2.2 h2)]
   · rw [if_neg h2,if_neg (fun h3=>h2 (e2.1 h3))]
     congr 3
     omega
theorem mkS_zero (n:Bool) (e:Int):mkS n 0 e=some (false,0,0):=by unfold mkS;rw [if_pos rfl]
theorem lo_odd' (X:Nat) (h:X%2=1):lo X=0:=by
 have:=lo_odd (X/2);rw [show 2*(X/2)+1=X by omega] at this
 exact this
theorem mkS_odd (n:Bool) (X:Nat) (e:Int) (h:X%2=1):mkS n X e=if 262144<bl X∨1048576<e∨e < -1048576 then none else some (n,X,e):=by
 have h0:X≠0:=by omega
 unfold mkS;rw [if_neg h0,lo_odd' X h];simp only [Nat.sub_zero,Nat.pow_zero,Nat.div_one]
 by_cases h2:262144<bl X∨1048576<e∨e < -1048576
 · rw [if_pos h2,if_pos (by omega)]
 · rw [if_neg h2,if_neg (by omega)]
   congr 3
   omega
structure Frm (n:Bool) (X:Nat) (e:Int):Prop where
 odd:X%2=1∨(X=0∧n=false∧e=0)
 size:bl X≤262144
 up:e≤1048576
 down:-1048576≤e
theorem mkS_frm {n n':Bool}{X Y:Nat}{e f:Int}(h:mkS n X e=some (n',Y,f)):Frm n' Y f:=by
 unfold mkS at h
 split at h
 · cases h
   exact ⟨.inr ⟨rfl,rfl,rfl⟩,by rw [bl_zero];omega,by omega,by omega⟩
 · next h0 =>
   split at h
   · cases h
   · next h1 =>
     obtain ⟨m,hm,e1,hb⟩:=odd_part X h0
     cases h
     refine ⟨.inl (by rw [e1];omega),by omega,by omega,by omega⟩
theorem Frm.self {n:Bool}{X:Nat}{e:Int}(h:Frm n X e):mkS n X e=some (n,X,e):=by
 rcases h.odd with h1|⟨rfl,rfl,rfl⟩
 · rw [mkS_odd n X e h1,if_neg]
   have:=h.size;have:=h.up;have:=h.down;omega
 · exact mkS_zero _ _
theorem frm_len {n:Bool}{X:Nat}{e:Int}(h:Frm n X e):(ws X).length≤8192:=by
 have h1:=LG_bl X;have h2:=h.size;unfold LG at h1;omega
theorem mkS_len (n:Bool) (X:Nat) (e:Int):(ws (dX (mkS n X e))).length≤8192:=by
 unfold dX
 cases h:mkS n X e with
 | none=>simp [ws_zero]
 | some d =>
   obtain ⟨n',Y,f⟩:=d;exact frm_len (mkS_frm h)
theorem word_in (xs:List Nat) (ao:Option Addr) (n cap B i:Nat) (w:World) (hn:n=xs.length) (hm:n≤70368744177664) (hx:Wf xs) (hR:Rd B w ao xs) (hi:i<n) :
 Calls Tryz.prog 151 #[.slice ao n cap,.int .i64 (i:Nat)] w fun r w'=>r=.returned (.int .u32 ((xs.getD i 0:Nat):Int))∧w'=w:=by
 obtain ⟨b,off,hb,rfl,hc⟩:=hR (by intro e;subst e;simp at hn;omega)
 have hcell:=hc i (by omega)
 obtain ⟨x,hx2⟩:∃ x,xs.getD i 0=x:=⟨_,rfl⟩;rw [hx2] at hcell ⊢;have hi1:decide (n≤i)=false:=decide_eq_false (by omega)
 clear hc hx hn hx2;go_enter Tryz.func151,Tryz.ntmps151;go_wp2;go_ret;exact ⟨rfl,rfl⟩
theorem word_out (xs:List Nat) (ao:Option Addr) (n cap:Nat) (i:Int) (w:World) (hn:n=xs.length) (hm:n≤70368744177664) (hi:i<0∨(n:Int)≤i) :
 Calls Tryz.prog 151 #[.slice ao n cap,.int .i64 i] w fun r w'=>r=.returned (.int .u32 0)∧w'=w:=by
 clear hn
 rcases hi with h|h
 · go_enter Tryz.func151,Tryz.ntmps151
   go_wp2;go_ret;exact ⟨rfl,rfl⟩
 · have h0:decide (i<0)=false:=decide_eq_false (by omega)
   go_enter Tryz.func151,Tryz.ntmps151;go_wp2;go_ret;exact ⟨rfl,rfl⟩
def wd (xs:List Nat) (i:Int):Nat:=if i<0 then 0 else xs.getD i.toNat 0
theorem wd_lt (xs:List Nat) (hx:Wf xs) (i:Int):wd xs i<4294967296:=by
 unfold wd;split
 · omega
 · exact hx.get _
theorem word_any (xs:List Nat) (ao:Option Addr) (n cap B:Nat) (i:Int) (w:World) (hn:n=xs.length) (hm:n≤70368744177664) (hx:Wf xs) (hR:Rd B w ao xs) :
 Calls Tryz.prog 151 #[.slice ao n cap,.int .i64 i] w fun r w'=>r=.returned (.int .u32 ((wd xs i:Nat):Int))∧w'=w:=by
 by_cases h:i<0
 · unfold wd;rw [if_pos h];exact word_out xs ao n cap i w hn hm (.inl h)
 · obtain ⟨k,rfl⟩:∃ k:Nat,i=(k:Int):=⟨i.toNat,by omega⟩
   unfold wd;rw [if_neg h,Int.toNat_natCast]
   by_cases hk:k<n
   · exact word_in xs ao n cap B k w hn hm hx hR hk
   · rw [List.getD_eq_getElem?_getD,List.getElem?_eq_none (by omega)]
     exact word_out xs ao n cap k w hn hm (.inr (by omega))
def win (X:Nat) (i:Int):Nat:=if i<0 then X*2^(-i).toNat%4294967296 else X/2^i.toNat%4294967296
theorem val_mod (xs:List Nat):val xs%4294967296=xs.getD 0 0%4294967296:=by
 cases xs with
 | nil=>simp [val]
 | cons x xs=>simp [val]
theorem val_word (xs:List Nat) (hx:Wf xs) (q:Nat):∃ R,val xs/pw q=xs.getD q 0+4294967296*(xs.getD (q+1) 0+4294967296*R):=by
 by_cases h:q<xs.length
 · have h1:val xs/pw q=val (xs.drop q):=by
    have h5:=val_take_drop xs q (by omega)
    have h6:=val_lt (xs.take q) (hx.take q);rw [List.length_take,Nat.min_eq_left (by omega)] at h6
    rw [h5,Nat.add_mul_div_left _ _ (pw_pos q),Nat.div_eq_of_lt h6,Nat.zero_add]
   obtain ⟨R,hR⟩:∃ R,val (xs.drop (q+1))=xs.getD (q+1) 0+4294967296*R:=by
    by_cases h:q+1<xs.length
    · exact ⟨_,val_drop_succ xs (q+1) h⟩
    · refine ⟨0,?_⟩
      rw [List.drop_of_length_le (by omega),List.getD_eq_getElem?_getD,List.getElem?_eq_none (by omega)]
      rfl
   exact ⟨R,by rw [h1,val_drop_succ xs q h,hR]⟩
 · refine ⟨0,?_⟩
   have h1:=val_lt xs hx;have h2:=pw_mono (show xs.length≤q by omega)
   rw [Nat.div_eq_of_lt (by omega),List.getD_eq_getElem?_getD,List.getElem?_eq_none (by omega),List.getD_eq_getElem?_getD,List.getElem?_eq_none (by omega)]
   rfl
theorem win_pos (xs:List Nat) (hx:Wf xs) (q r:Nat) (hr:r<32):(xs.getD (q+1) 0*4294967296+xs.getD q 0)/2^r%4294967296=val xs/2^(32*q+r)%4294967296:=by
 rw [pw_two,←Nat.div_div_eq_div_mul];obtain ⟨R,hR⟩:=val_word xs hx q;rw [hR]
 have e:xs.getD q 0+4294967296*(xs.getD (q+1) 0+4294967296*R)=(xs.getD (q+1) 0*4294967296+xs.getD q 0)+2^r*(4294967296*(2^(32-r)*R)):=by
  have h1:=two_pow_rest r hr;have:2^r*(4294967296*(2^(32-r)*R))=4294967296*(4294967296*R):=by rw [←h1];grind
  rw [this];omega
 rw [e,Nat.add_mul_div_left _ _ (Nat.two_pow_pos _),Nat.add_mul_mod_self_left]
theorem shl_mod (V k:Nat):V*2^k%4294967296=V%4294967296*2^k%4294967296:=by
 simp [Nat.mul_mod]
theorem win_eq (xs:List Nat) (hx:Wf xs) (i at':Int) (rest:Nat) (h1:at'=i/32) (h2:(rest:Int)=i%32) :
 (wd xs (at'+1)*4294967296+wd xs at')/2^rest%4294967296=win (val xs) i:=by
 have hr:rest<32:=by omega
 by_cases h:i<0
 · unfold win
   rw [if_pos h]
   by_cases h3:at'=-1
   · subst h3
     have e1:wd xs (-1)=0:=by unfold wd;rw [if_pos (by omega)]
     have e2:wd xs (-1+1)=xs.getD 0 0:=by unfold wd;rw [if_neg (by omega)];rfl
     rw [e1,e2,Nat.add_zero];obtain ⟨k,hk⟩:∃ k,(-i).toNat=k:=⟨_,rfl⟩;have e3:k=32-rest:=by omega
     rw [hk,shl_mod,val_mod,←shl_mod,←two_pow_rest rest hr,e3];rw [show xs.getD 0 0*(2^rest*2^(32-rest))=2^rest*(xs.getD 0 0*2^(32-rest)) by grind,Nat.mul_div_cancel_left _ (Nat.two_pow_pos rest)]
   · have e1:wd xs at'=0:=by unfold wd;rw [if_pos (by omega)]
     have e2:wd xs (at'+1)=0:=by unfold wd;rw [if_pos (by omega)]
     rw [e1,e2];obtain ⟨k,hk⟩:∃ k,(-i).toNat=k+32:=⟨(-i).toNat-32,by omega⟩
     rw [hk,Nat.pow_add,show (2:Nat)^32=4294967296 from rfl,←Nat.mul_assoc,Nat.mul_mod_left]
     simp
 · obtain ⟨n,rfl⟩:∃ n:Nat,i=(n:Int):=⟨i.toNat,by omega⟩
   obtain ⟨q,rfl⟩:∃ q:Nat,at'=(q:Int):=⟨at'.toNat,by omega⟩
   have e1:wd xs ((q:Int)+1)=xs.getD (q+1) 0:=by unfold wd;rw [if_neg (by omega)];rfl
   have e2:wd xs (q:Int)=xs.getD q 0:=by unfold wd;rw [if_neg (by omega)];rfl
   unfold win;rw [if_neg h,e1,e2,Int.toNat_natCast,win_pos xs hx q rest hr];rw [show 32*q+rest=n by omega]
theorem and31 (i:Int) (h0:-9223372036854775808≤i) (h1:i≤9223372036854775807):bits BinOp.and IntKind.i64 i 31=i%32:=by
 unfold bits;simp [IntKind.bits,IntKind.signed,IntKind.wrap]
 have e:(BitVec.ofInt 64 i &&& 31#64).toNat=(i%18446744073709551616).toNat%32:=by
  rw [BitVec.toNat_and,BitVec.toNat_ofInt];exact Nat.and_two_pow_sub_one_eq_mod _ 5
 show (if 9223372036854775808≤(((BitVec.ofInt 64 i &&& 31#64:BitVec 64).toNat:Nat):Int)%18446744073709551616 then (((BitVec.ofInt 64 i &&& 31#64:BitVec 64).toNat:Nat):Int)%18446744073709551616-18446744073709551616 else (((BitVec.ofInt 64 i &&& 31#64:BitVec 64).toNat:Nat):Int)%18446744073709551616)=i%32
 rw [e];generalize hz:(i%18446744073709551616).toNat=z;have hz2:(z:Int)=i%18446744073709551616:=by omega
 split <;> omega
theorem window_any (xs:List Nat) (ao:Option Addr) (n cap B:Nat) (i:Int) (w:World) (hn:n=xs.length) (hm:n≤70368744177664) (hx:Wf xs) (hR:Rd B w ao xs) (h0:-9223372036854775808≤i) (h1:i≤9223372036854775807) :
 Calls Tryz.prog 128 #[.slice ao n cap,.int .i64 i] w fun r w'=>r=.returned (.int .u32 ((win (val xs) i:Nat):Int))∧w'=w:=by
 obtain ⟨at',hat⟩:∃ a,a=i/32:=⟨_,rfl⟩;obtain ⟨rest,hrest⟩:∃ r:Nat,(r:Int)=i%32:=⟨(i%32).toNat,by omega⟩
 have hw:=win_eq xs hx i at' rest hat hrest;have W1:=hid (word_any xs ao n cap B (at'+1) w hn hm hx hR);have W2:=hid (word_any xs ao n cap B at' w hn hm hx hR);have l1:=wd_lt xs hx (at'+1);have l2:=wd_lt xs hx at';generalize wd xs (at'+1)=a at *;generalize wd xs at'=b at *;generalize win (val xs) i=v at *;have e1:i/32=at':=hat.symm;have e2:bits BinOp.and IntKind.i64 i 31=(rest:Int):=by rw [and31 i h0 h1,hrest]
 have e3:=or64_join a b l1 l2;have hr:rest<32:=by omega
 have ha0:-288230376151711744≤at':=by omega
 have ha1:at'≤288230376151711744:=by omega
 obtain ⟨t,ht⟩:∃ t:Nat,a*4294967296+b=t:=⟨_,rfl⟩;rw [ht] at e3 hw;have e4:(t:Int)/2^rest%4294967296=(v:Int):=by rw [←hw];simp
 clear hat hrest hw hn hx hR ht;go_enter Tryz.func128,Tryz.ntmps128
 go_wp2_with fail
 refine W1.out.mono ?_;rintro r w1 ⟨rfl,rfl⟩
 go_wp2_with fail
 refine W2.out.mono ?_;rintro r w2 ⟨rfl,rfl⟩;go_wp2;go_ret;exact ⟨by simp [e4],rfl⟩
theorem ws_getD (Y i:Nat):(ws Y).getD i 0=Y/pw i%4294967296:=by
 induction i generalizing Y with
 | zero =>
   by_cases h:Y=0
   · subst h;simp [ws_zero]
   · rw [ws_pos Y h,pw_zero];simp
 | succ i ih =>
   by_cases h:Y=0
   · subst h;simp [ws_zero]
   · rw [ws_pos Y h,pw_succ,←Nat.div_div_eq_div_mul,←ih]
     simp
theorem win_word (X low i:Nat):win X ((low:Int)+32*(i:Int))=(ws (X/2^low)).getD i 0:=by
 rw [ws_getD,Nat.div_div_eq_div_mul];unfold win;rw [if_neg (by omega),show ((low:Int)+32*(i:Int)).toNat=low+32*i by omega,Nat.pow_add,Nat.pow_mul]
 rfl
theorem part_set (Ys:List Nat) (k:Nat) (hk:k<Ys.length) :
 (Ys.take k++List.replicate (Ys.length-k) 0).set k (Ys.getD k 0)=Ys.take (k+1)++List.replicate (Ys.length-(k+1)) 0:=by
 apply List.ext_getElem?
 intro j;rw [List.getElem?_set]
 by_cases hj:k=j
 · subst hj
   rw [if_pos rfl,if_pos (by simp;omega),List.getElem?_append_left (by simp;omega)]
   simp [List.getD_eq_getElem?_getD,hk]
 · rw [if_neg hj]
   by_cases h1:j<k
   · rw [List.getElem?_append_left (by simp;omega),List.getElem?_append_left (by simp;omega)]
     simp [h1,show j<k+1 by omega]
   · rw [List.getElem?_append_right (by simp;omega),List.getElem?_append_right (by simp;omega)]
     simp only [List.getElem?_replicate,List.length_take]
     congr 1
     simp only [eq_iff_iff];omega
theorem odd_any {w:World}{a:Option Addr}{n c:Nat}{xs:List Nat}(h1:Arg w a n c xs) (low size:Nat) (hle:low≤size) (hsz:size≤1125899906842624) (hlen:(size-low+31)/32=(ws (val xs/2^low)).length) :
 Calls Tryz.prog 98 #[.slice a n c,.int .i64 (low:Nat),.int .i64 (size:Nat)] w fun r w'=>∃ v,r=.returned v∧Nt w.heap.size w' v (val xs/2^low)∧Below w.heap.size w w':=by
 obtain ⟨m,hm⟩:∃ m,m=(size-low+31)/32:=⟨_,rfl⟩;rw [←hm] at hlen;have e1:((size:Int)-low+32-1)/32=(m:Int):=by omega
 have hmb:m≤35184372088832:=by omega
 obtain ⟨W1,hW1⟩:∃ W,W=w.alloc (.cells (madeCells #[.int .u32 0] m) 89):=⟨_,rfl⟩;have hO1:Own W1 w.heap.size (List.replicate m 0):=by rw [hW1];exact Own.made w m
 have hB1:Below w.heap.size w W1:=by rw [hW1];exact (Below.refl _ _).alloc (Nat.le_refl _) _
 have hmk:=make_words (m:Int) m rfl (by omega) w
 rw [←hW1] at hmk;have A1:=h1.below hB1;obtain ⟨g,hg⟩:∃ g,g=w.heap.size:=⟨_,rfl⟩;rw [←hg] at hO1 hmk;obtain ⟨Ys,hYs⟩:∃ Ys,ws (val xs/2^low)=Ys:=⟨_,rfl⟩;have hYw:Wf Ys:=hYs ▸ wf_ws _;rw [hYs] at hlen
 have WN:Hid (∀ wr,But g W1 wr→∀ i:Nat,i<m→Calls Tryz.prog 128 #[.slice a n c,.int .i64 ((low:Int)+32*(i:Int))] wr fun r w'=>r=.returned (.int .u32 ((Ys.getD i 0:Nat):Int))∧w'=wr):=by
  intro wr hb i hi;have hR:Rd w.heap.size wr a xs:=(h1.rd.below hB1).but hb (by rw [hg] at *;have:=hB1.size;omega) (by omega)
  have:=window_any xs a n c w.heap.size ((low:Int)+32*(i:Int)) wr h1.len (by have:=h1.big;omega) h1.wf hR (by omega) (by omega)
  rw [win_word,hYs] at this;exact this
 have HR:=(qsd (ai hB1 (ai hg (ai hYs (ai hYw hlen)))))
 have HO:Hid (Own W1 g (Ys.take 0++List.replicate (Ys.length-0) 0)):=by
  rw [←hlen];exact hid (by simpa using hO1)
 clear hm h1 hO1 hB1 A1 hg hYs hYw hW1 hlen;go_enter Tryz.func98,Tryz.ntmps98;go_wp2
 go_loopg [18] m (fun gk iv wr=>∃ (k:Nat),gk+k=m∧iv=.int .i64 (k:Nat)∧Hid (Own wr g (Ys.take k++List.replicate (Ys.length-k) 0))∧Aside (But g W1 wr))
 case atStart=>exact ⟨0,by omega,rfl,HO,But.refl _ _⟩
 case round =>
  clear HO e1;obtain ⟨k,hgk,rfl,HM,HA⟩:=hrel
  by_cases hk:k<m
  · have hlen:=HR.out.2.2.2.2
    have hgc:=HM.out.cell k (by simp;omega)
    have hgf:=HM.out.frozen k;obtain ⟨old,hold⟩:∃ o:Nat,(Ys.take k++List.replicate (Ys.length-k) 0).getD k 0=o:=⟨_,rfl⟩;rw [hold] at hgc;obtain ⟨y,hy⟩:∃ y:Nat,Ys.getD k 0=y:=⟨_,rfl⟩;have W2:=hid (WN.out wr HA.out k hk);rw [hy] at W2;have HY:=qsd hy;clear hlen hold hy
    go_wp2_with fail
    refine W2.out.mono ?_;rintro r w2 ⟨rfl,rfl⟩;go_wp2
    go_roundg (gk-1)
    case measure=>omega
    case rel =>
     refine ⟨k+1,by omega,by first | go_num | (congr 1;omega),?_,HA.out.set _ _⟩
     rw [←part_set Ys k (by have:=HR.out.2.2.2.2;omega),HY.out]
     exact HM.out.set _ _
  · obtain rfl:k=m:=by omega
    go_wp2;go_ret;obtain ⟨hB1,hg,hYs,hYw,hlen⟩:=HR.out;have hO:=HM.out;rw [hlen,List.take_length,Nat.sub_self,List.replicate_zero,List.append_nil] at hO;have hN:=Nt.ofOwn hO (lo:=w.heap.size) (by omega) hYw (by unfold maxLen;omega)
    have e2:nl Ys=Ys.length:=by rw [←hYs];exact nl_ws _
    rw [e2,←hYs,val_ws] at hN;rw [hlen,←hYs];exact ⟨_,rfl,hN,But.below hB1 HA.out hB1.size (by omega)⟩
def DAns (lo:Nat) (w:World) (r:Ending) (o:Option (Bool×Nat×Int)):Prop :=
 ∃ v,r=.returned (.tuple #[.agg #[.bool (dN o),v,.int .i64 (dE o)],.int .i64 (erS o)])∧Nt lo w v (dX o)
theorem bcell {W w1:World}(hb:Below W.heap.size W w1):(∀ b o,b<W.heap.size→w1.cell? ⟨b,o,none⟩=W.cell? ⟨b,o,none⟩)∧(∀ b o,b<W.heap.size→w1.frozen? ⟨b,o,none⟩=W.frozen? ⟨b,o,none⟩) :=
 ⟨fun b o h=>hb.cell (p:=⟨b,o,none⟩) h,fun b o h=>hb.frozen (p:=⟨b,o,none⟩) h⟩
theorem ws_len_bl (X:Nat):(ws X).length=(bl X+31)/32:=by
 by_cases h:X=0
 · subst h;simp [ws_zero,bl_zero]
 · have h1:=len_bl X ((ws X).length-1) _ rfl
   have h2:=len_bl X (ws X).length _ rfl;have h3:(ws X).length≠0:=fun e=>h ((ws_len_zero X).1 e)
   omega
theorem mk_len (X:Nat) (h:X≠0):(bl X-lo X+31)/32=(ws (X/2^lo X)).length:=by
 obtain ⟨m,_,_,hb⟩:=odd_part X h;rw [ws_len_bl]
 congr 2
 omega
theorem set3_but (g:Nat) (w:World) (x y z:Value):But g w (((w.setCell ⟨g,0,none⟩ x).setCell ⟨g,1,none⟩ y).setCell ⟨g,2,none⟩ z):=(((But.refl g w).set _ _).set _ _).set _ _
theorem laid3 {w W1 w2:World}{v:Value}{Y:Nat}(hB:Below w.heap.size w W1) (hs:w.heap.size<W1.heap.size) (hN:Nt W1.heap.size w2 v Y) (hb:Below W1.heap.size W1 w2) (x y z:Value) :
 Nt w.heap.size (((w2.setCell ⟨w.heap.size,0,none⟩ x).setCell ⟨w.heap.size,1,none⟩ y).setCell ⟨w.heap.size,2,none⟩ z) v Y∧Below w.heap.size w (((w2.setCell ⟨w.heap.size,0,none⟩ x).setCell ⟨w.heap.size,1,none⟩ y).setCell ⟨w.heap.size,2,none⟩ z) :=
 ⟨(hN.but (set3_but _ _ _ _ _) hs).mono (by omega),But.below (hB.trans (hb.mono (by omega))) (set3_but _ _ _ _ _) (by have:=hb.size;omega) (Nat.le_refl _)⟩
theorem Make_any {w:World}{a:Option Addr}{n c:Nat}{xs:List Nat}(h1:Arg w a n c xs) (hT:Tab w) (neg:Bool) (e:Int) (he0:-9223372036854775808≤e) (he1:e≤9223372036854775807) :
 Calls Tryz.prog 63 #[.bool neg,.slice a n c,.int .i64 e] w fun r w'=>DAns w.heap.size w' r (mkS neg (val xs) e)∧Below w.heap.size w w':=by
 obtain ⟨W1,hW1⟩:∃ W,W=w.alloc (.cells #[.bool false,.slice none 0 0,.int .i64 0] 67):=⟨_,rfl⟩;have hB1:Below w.heap.size w W1:=by rw [hW1];exact (Below.refl _ _).alloc (Nat.le_refl _) _
 have A1:=h1.below hB1;have hT1:=hT.belows hB1;have hbig:=h1.big;have H1:=hid (len_any xs a n c W1.heap.size W1 A1.len A1.cap (by omega) A1.wf A1.rd)
 have H2:=hid (low_any xs a n c W1.heap.size W1 A1.len (by omega) A1.wf A1.rd hT1)
 have hbl:bl (val xs)≤32*n:=by
  have:=val_lt xs h1.wf;rw [←h1.len] at this;exact bl_pw _ _ this
 obtain ⟨X,hX⟩:∃ X,val xs=X:=⟨_,rfl⟩;rw [hX] at H1 H2 hbl ⊢;obtain ⟨b,hb⟩:∃ b,bl X=b:=⟨_,rfl⟩;obtain ⟨l,hl⟩:∃ l,lo X=l:=⟨_,rfl⟩;rw [hb] at H1 hbl;rw [hl] at H2;unfold mkS;rw [hb,hl]
 have hlb:l≤b:=by
  by_cases h0:X=0
  · subst h0;rw [lo_zero] at hl;omega
  · obtain ⟨m,_,_,hbb⟩:=odd_part X h0
    omega
 have HB:=qsd hB1;have SZ:W1.heap.size=w.heap.size+1:=by rw [hW1];simp
 by_cases h0:X=0
 · have hb0:b=0:=by rw [←hb,h0,bl_zero]
   subst hb0;rw [if_pos h0];clear hb hl hX h0 hB1 A1 hT1 hT h1 hlb hbl SZ;subst hW1;go_enter Tryz.func63,Tryz.ntmps63
   go_wp2_with fail
   refine H1.out.mono ?_;rintro r w1 ⟨rfl,rfl⟩
   go_wp2_with fail
   refine H2.out.mono ?_;rintro r w1 ⟨rfl,rfl⟩;go_wp2;refine bodyPost_ret (v:=.tuple #[.agg #[.bool false,.slice none 0 0,.int .i64 0],.int .i64 0]) (by simp [results,Tryz.results63,go_sem]) rfl ⟨⟨_,rfl,Nt.nil _ _⟩,HB.out⟩
 · rw [if_neg h0]
   have hb0:((b:Int)==0)=false:=by have:=bl_pos X h0;simp;omega
   have hOD:=odd_any A1 l b hlb (by omega) (by rw [hX,←hb,←hl];exact mk_len X h0)
   rw [hX] at hOD;have H3:=hid hOD
   by_cases h2:262144<b-l
   · rw [if_pos (.inl h2)]
     have h2':(262144:Int)<(b:Int)-l:=by omega
     clear hb hl hX h0 hB1 A1 hT1 hT h1 SZ H3 h2 hOD;subst hW1;go_enter Tryz.func63,Tryz.ntmps63
     go_wp2_with fail
     refine H1.out.mono ?_;rintro r w1 ⟨rfl,rfl⟩
     go_wp2_with fail
     refine H2.out.mono ?_;rintro r w1 ⟨rfl,rfl⟩;go_wp2;refine bodyPost_ret (v:=.tuple #[.agg #[.bool false,.slice none 0 0,.int .i64 0],.int .i64 2]) (by simp [results,Tryz.results63,go_sem]) rfl ⟨⟨_,rfl,Nt.nil _ _⟩,HB.out⟩
   · have h2':decide ((262144:Int)<(b:Int)-l)=false:=decide_eq_false (by omega)
     by_cases h3:1048576-(l:Int)<e
     · rw [if_pos (.inr (.inl h3))]
       clear hb hl hX h0 hB1 A1 hT1 hT h1 SZ H3 h2 hOD;subst hW1;go_enter Tryz.func63,Tryz.ntmps63
       go_wp2_with fail
       refine H1.out.mono ?_;rintro r w1 ⟨rfl,rfl⟩
       go_wp2_with fail
       refine H2.out.mono ?_;rintro r w1 ⟨rfl,rfl⟩;go_wp2;refine bodyPost_ret (v:=.tuple #[.agg #[.bool false,.slice none 0 0,.int .i64 0],.int .i64 2]) (by simp [results,Tryz.results63,go_sem]) rfl ⟨⟨_,rfl,Nt.nil _ _⟩,HB.out⟩
     · have h3':decide (1048576-(l:Int)<e)=false:=decide_eq_false h3
       by_cases h4:e < -1048576-(l:Int)
       · rw [if_pos (.inr (.inr h4))]
         clear hb hl hX h0 hB1 A1 hT1 hT h1 SZ H3 h2 hOD;subst hW1;go_enter Tryz.func63,Tryz.ntmps63
         go_wp2_with fail
         refine H1.out.mono ?_;rintro r w1 ⟨rfl,rfl⟩
         go_wp2_with fail
         refine H2.out.mono ?_;rintro r w1 ⟨rfl,rfl⟩;go_wp2;refine bodyPost_ret (v:=.tuple #[.agg #[.bool false,.slice none 0 0,.int .i64 0],.int .i64 2]) (by simp [results,Tryz.results63,go_sem]) rfl ⟨⟨_,rfl,Nt.nil _ _⟩,HB.out⟩
       · have h4':decide (e < -1048576-(l:Int))=false:=decide_eq_false h4
         rw [if_neg (by omega)]
         obtain ⟨Y,hY⟩:∃ Y,X/2^l=Y:=⟨_,rfl⟩;rw [hY] at H3 ⊢;have hs:(ws Y).length≤35184372088832:=by rw [←hY,←hl,←mk_len X h0];omega
         have h5:e+l≤1048576:=by omega
         have h6:-1048576≤e+l:=by omega
         clear hb hl hX h0 hB1 A1 hT1 hT h1 hOD h2 h3 h4;subst hW1;go_enter Tryz.func63,Tryz.ntmps63
         go_wp2_with fail
         refine H1.out.mono ?_;rintro r w1 ⟨rfl,rfl⟩
         go_wp2_with fail
         refine H2.out.mono ?_;rintro r w1 ⟨rfl,rfl⟩
         go_wp2_with fail
         refine H3.out.mono ?_;rintro r w2 ⟨v,rfl,hN,hb⟩;obtain ⟨a2,c2,rfl,_⟩:=hN.arg hs;obtain ⟨hc,hf⟩:=bcell hb;have HN:=(qsd (ai hN hb));have hz:=hb.size;clear hN hb;go_wp2;obtain ⟨q1,q2⟩:=laid3 HB.out (by simp) HN.out.1 HN.out.2 (.bool neg) (.slice a2 (ws Y).length c2) (.int .i64 (e+l))
         exact bodyPost_ret (v:=.tuple #[.agg #[.bool neg,.slice a2 (ws Y).length c2,.int .i64 (e+l)],.int .i64 0]) (by simp [results,Tryz.results63,go_sem,hc]) rfl ⟨⟨_,rfl,q1⟩,q2⟩
theorem But.setC {g:Nat}(w:World) (i:Nat) (u:Value):But g w (w.setCell ⟨g,i,none⟩ u):=(But.refl g w).set _ _
theorem Nt.setC {lo:Nat}{w:World}{v:Value}{X:Nat}(h:Nt lo w v X) (b i:Nat) (u:Value) (hb:b<lo):Nt lo (w.setCell ⟨b,i,none⟩ u) v X:=h.but (But.setC w i u) hb
theorem Nt.allocC {lo:Nat}{w:World}{v:Value}{X:Nat}(h:Nt lo w v X) (o:Obj):Nt lo (w.alloc o) v X:=h.below (below_alloc w o)
theorem Below.setC {lo:Nat}{w0 w:World}(h:Below lo w0 w) (b i:Nat) (u:Value) (hb:lo≤b) (hs:lo≤w.heap.size):Below lo w0 (w.setCell ⟨b,i,none⟩ u):=But.below h (But.setC w i u) hs hb
structure Fin (lo m:Nat) (w0 w:World) (v:Value) (X:Nat):Prop where
 nt:Nt m w v X
 bel:Below lo w0 w
 size:lo≤w.heap.size
theorem Fin.set {lo m:Nat}{w0 w:World}{v:Value}{X:Nat}(H:Fin lo m w0 w v X) (b i:Nat) (u:Value) (h1:lo≤b) (h2:b<m):Fin lo m w0 (w.setCell ⟨b,i,none⟩ u) v X :=
 ⟨H.nt.setC b i u h2,Below.setC H.bel b i u h1 H.size,by simpa [World.setCell] using H.size⟩
theorem Fin.alloc {lo m:Nat}{w0 w:World}{v:Value}{X:Nat}(H:Fin lo m w0 w v X) (o:Obj):Fin lo m w0 (w.alloc o) v X :=
 ⟨H.nt.allocC o,H.bel.alloc H.size o,by have:=H.size;simp;omega⟩
theorem Fin.of {lo:Nat}{w0 W1 w2:World}{v:Value}{X:Nat}(k:Nat) (hB:Below lo w0 W1) (hk:W1.heap.size=lo+k) (hN:Nt W1.heap.size w2 v X) (hb:Below W1.heap.size W1 w2):Fin lo (lo+k) w0 w2 v X :=
 ⟨hk ▸ hN,hB.trans (hb.mono (by omega)),by have:=hb.size;omega⟩
theorem Fin.dans {lo m:Nat}{w0 w:World}{n:Bool}{v:Value}{X:Nat}{e:Int}{k:Value}(H:Fin lo m w0 w v X) (h:lo≤m) :
 (∃ v',Ending.returned (.tuple #[.agg #[.bool n,v,.int .i64 e],k])=.returned (.tuple #[.agg #[.bool n,v',.int .i64 e],k])∧Nt lo w v' X)∧Below lo w0 w:=⟨⟨v,rfl,H.nt.mono h⟩,H.bel⟩
def SplitIs (x:Nat) (n:Bool) (c e:Int) (f:Nat):Prop:=∀ w:World,Calls Tryz.prog 110 #[.float .f64 x] w fun r w'=>r=.returned (.agg #[.bool n,.int .i64 c,.int .i64 e,.int .u64 (f:Nat)])∧Below w.heap.size w w'
def Th (lo:Nat) (w:World) (v:Value) (k:Nat) (T:Int):Prop :=
 ∃ ng a n c p xs,(∀ ad:Addr,a=some ad→lo≤ad.block)∧v=.agg #[.int .i64 (k:Nat),.bool ng,.slice a n c,.int .i64 ((p:Nat):Int)]∧Arg w a n c xs∧p+32*n≤4256∧sgn7 ng (val xs*2^p)=T
theorem Th.plain (lo:Nat) (w:World) (k:Nat):Th lo w (.agg #[.int .i64 (k:Nat),.bool false,.slice none 0 0,.int .i64 0]) k 0 :=
 ⟨false,none,0,0,0,[],fun _ e=>(by cases e),rfl,⟨rfl,Nat.le_refl _,by decide,Wf.nil,Rd.nil _ _ _,fun _=>rfl⟩,by decide,by simp [sgn7,val]⟩
theorem put4 {w:World}{g T:Nat}{a b c d v0 v1 v2 v3:Value}(h:Bl w g T [a,b,c,d]):Bl ((((w.setCell ⟨g,0,none⟩ v0).setCell ⟨g,1,none⟩ v1).setCell ⟨g,2,none⟩ v2).setCell ⟨g,3,none⟩ v3) g T [v0,v1,v2,v3] :=
 (((h.set 0 v0).set 1 v1).set 2 v2).set 3 v3
theorem Nt.but7 {lo g:Nat}{w w':World}{v:Value}{X:Nat}(h:Nt lo w v X) (hb:But g w w') (hg:g<lo):Nt lo w' v X:=by
 refine ⟨h.1,?_⟩
 rcases h.2 with hn|⟨g',cap,cur,rfl,hlo,hgc,rest⟩
 · exact .inl hn
 · exact .inr ⟨g',cap,cur,rfl,hlo,(hb.block g' (Array.getElem?_eq_some_iff.1 hgc).1 (by omega)).trans hgc,rest⟩
theorem mul_nt {w:World}{v1 v2:Value}{X Y V lo1 lo2:Nat}(N1:Nt lo1 w v1 X) (N2:Nt lo2 w v2 Y) (s1:(ws X).length≤1000) (s2:(ws Y).length≤1000) (e:mulS X Y=(V,0)) :
 Calls Tryz.prog 121 #[v1,v2] w fun r w'=>∃ v,r=.returned (.tuple #[v,.int .i64 0])∧Nt w.heap.size w' v V∧Below w.heap.size w w':=by
 obtain ⟨a,c,rfl,A1⟩:=N1.arg (by omega)
 obtain ⟨b,d,rfl,A2⟩:=N2.arg (by omega)
 exact Mul_arg A1 A2 (by rw [val_ws,val_ws];exact e)
theorem Bl.four {w:World}{g T:Nat}{a b c d:Value}(h:Bl w g T [a,b,c,d]):w.cell? ⟨g,0,none⟩=some a∧w.cell? ⟨g,1,none⟩=some b∧w.cell? ⟨g,2,none⟩=some c∧w.cell? ⟨g,3,none⟩=some d :=
 ⟨h.cell 0 _ rfl,h.cell 1 _ rfl,h.cell 2 _ rfl,h.cell 3 _ rfl⟩
theorem put4_below {B:Nat}{a w:World}{g:Nat}{v0 v1 v2 v3:Value}(h:Below B a w) (hB:B≤w.heap.size) (hg:B≤g):Below B a ((((w.setCell ⟨g,0,none⟩ v0).setCell ⟨g,1,none⟩ v1).setCell ⟨g,2,none⟩ v2).setCell ⟨g,3,none⟩ v3) :=
 But.below h (((((But.refl g w).set 0 v0).set 1 v1).set 2 v2).set 3 v3) hB hg
theorem mulS_small (f1 f2:Nat) (hf1:f1<9007199254740992) (hf2:f2<9007199254740992):mulS f1 f2=(f1*f2,0)∧(ws (f1*f2)).length≤4:=by
 have h1:f1*f2<pw 4:=by
  have:f1*f2≤9007199254740992*9007199254740992:=Nat.mul_le_mul (by omega) (by omega)
  have e:pw 4=340282366920938463463374607431768211456:=by decide
  omega
 have e4:pw 2=18446744073709551616:=by decide
 have g1:=bl_le_words f1 2 (by omega)
 have g2:=bl_le_words f2 2 (by omega)
 have g3:=bl_le_words (f1*f2) 4 h1;refine ⟨?_,(ws_len_le _ _).2 h1⟩;unfold mulS;rw [if_neg (by rw [LG_bl,LG_bl];omega),if_neg (by rw [LG_bl];omega)]
def pk (hi lo:Int) (ng:Bool):Nat:=if hi=4∨hi=3∧lo=0 then 1 else if hi=3 then (if ng then 3 else 2) else if lo=0 then (if ng then 4 else 5) else 0
def pv7 (hi lo:Int) (ng:Bool) (f1 f2:Nat) (e:Int):Int:=if pk hi lo ng=0 then sgn7 ng (f1*f2*2^(e+2148).toNat) else 0
theorem pv7_no {hi lo:Int}{ng:Bool}{f1 f2:Nat}{e:Int}(h:pk hi lo ng≠0):pv7 hi lo ng f1 f2 e=0:=by unfold pv7;rw [if_neg h]
theorem pv7_yes {hi lo:Int}{ng:Bool}{f1 f2:Nat}{e:Int}(h:pk hi lo ng=0):pv7 hi lo ng f1 f2 e=sgn7 ng (f1*f2*2^(e+2148).toNat):=by unfold pv7;rw [if_pos h]
theorem product_any (x y:Nat) (n1 n2:Bool) (c1 c2 x1 x2:Int) (f1 f2:Nat) (w:World) (H1:SplitIs x n1 c1 x1 f1) (H2:SplitIs y n2 c2 x2 f2)
 (hx1:-1074≤x1∧x1≤971) (hx2:-1074≤x2∧x2≤971) (hf1:f1<9007199254740992) (hf2:f2<9007199254740992) :
 Calls Tryz.prog 88 #[.float .f64 x,.float .f64 y] w fun r w'=>∃ v,r=.returned v ∧
  Th w.heap.size w' v (pk (max c1 c2) (min c1 c2) (!n1==n2)) (pv7 (max c1 c2) (min c1 c2) (!n1==n2) f1 f2 (x1+x2))∧Below w.heap.size w w':=by
 have H1:=hid H1;have H2:=hid H2;go_enter Tryz.func88,Tryz.ntmps88
 go_wp2_with fail
 refine Calls.mono (H1.out _) ?_;rintro r w1 ⟨rfl,hb1⟩;have B1:=qsd hb1;clear hb1
 go_wp2_with fail
 refine Calls.mono (H2.out _) ?_;rintro r w2 ⟨rfl,hb2⟩;have B2:=qsd hb2;clear hb2;go_wp2
 go_region
 obtain ⟨w4,hw4⟩:∃ w4,w4=((w2.alloc (Obj.cells #[Value.bool n1,Value.int IntKind.i64 c1,Value.int IntKind.i64 x1,Value.int IntKind.u64 (f1:Nat)] 151)).alloc (Obj.cells #[Value.bool n2,Value.int IntKind.i64 c2,Value.int IntKind.i64 x2,Value.int IntKind.u64 (f2:Nat)] 151)).drew:=⟨_,rfl⟩;rw [←hw4]
 have H4:Aside (Bl w4 w.heap.size 117 [Value.int .i64 0,Value.bool false,Value.slice none 0 0,Value.int .i64 0]∧Bl w4 w2.heap.size 151 [Value.bool n1,Value.int IntKind.i64 c1,Value.int IntKind.i64 x1,Value.int IntKind.u64 (f1:Nat)]∧Bl w4 (w2.heap.size+1) 151 [Value.bool n2,Value.int IntKind.i64 c2,Value.int IntKind.i64 x2,Value.int IntKind.u64 (f2:Nat)]∧Below w.heap.size w w4∧w.heap.size<w2.heap.size∧w4.heap.size=w2.heap.size+2):=by
  subst hw4;have z0:=Bl.new w 117 [Value.int .i64 0,Value.bool false,Value.slice none 0 0,Value.int .i64 0];have s0:w.heap.size<w1.heap.size:=by have:=B1.out.size;simp at this;omega
  have z1:=z0.below B1.out (by simp)
  have z2:=z1.below B2.out s0;have s2:=B2.out.size;refine ⟨((z2.alloc _).alloc _).drew,((Bl.new w2 151 [_,_,_,_]).alloc _).drew,(Bl.new' _ 151 _ [_,_,_,_] (by simp)).drew,?_,by omega,by simp⟩
  refine Below.drew ?_;refine ((((bel_alloc w _).trans (B1.out.mono (by simp))).trans (B2.out.mono (by omega))).trans ((bel_alloc _ _).mono (by omega))).trans ((bel_alloc _ _).mono (by simp;omega))
 clear hw4;obtain ⟨ng,hng⟩:∃ ng,ng=(!n1==n2):=⟨_,rfl⟩;obtain ⟨hi,hhi⟩:∃ hi,hi=max c1 c2:=⟨_,rfl⟩;obtain ⟨lo,hlo⟩:∃ lo,lo=min c1 c2:=⟨_,rfl⟩;rw [←hng,←hhi,←hlo];have HG:Aside (ng=(!n1==n2)∧hi=max c1 c2∧lo=min c1 c2):=⟨hng,hhi,hlo⟩;clear hng hhi hlo;have hne:w.heap.size≠w2.heap.size:=Nat.ne_of_lt H4.out.2.2.2.2.1;have hne2:w.heap.size≠w2.heap.size+1:=by have:=H4.out.2.2.2.2.1;omega
 have z0:=H4.out.1.cell 0 _ rfl;have z1:=H4.out.1.cell 1 _ rfl;have z2:=H4.out.1.cell 2 _ rfl;have z3:=H4.out.1.cell 3 _ rfl;have g0:=H4.out.1.frozen 0;have g1:=H4.out.1.frozen 1;have g2:=H4.out.1.frozen 2;have g3:=H4.out.1.frozen 3
 by_cases hodd:hi=4
 · subst hodd
   go_wp2;obtain ⟨w5,hw5⟩:∃ w5,w5=((((w4.setCell ⟨w.heap.size,0,none⟩ (.int .i64 1)).setCell ⟨w.heap.size,1,none⟩ (.bool false)).setCell ⟨w.heap.size,2,none⟩ (.slice none 0 0)).setCell ⟨w.heap.size,3,none⟩ (.int .i64 0)):=⟨_,rfl⟩;rw [←hw5];have q:Bl w5 w.heap.size 117 [.int .i64 1,.bool false,.slice none 0 0,.int .i64 0]:=by rw [hw5];exact put4 H4.out.1
   have qb:Below w.heap.size w w5:=by rw [hw5];exact put4_below H4.out.2.2.2.1 H4.out.2.2.2.1.size (Nat.le_refl _)
   skip
   clear hw5;obtain ⟨q0,q1,q2,q3⟩:=q.four;refine bodyPost_ret (v:=.agg #[.int .i64 1,.bool false,.slice none 0 0,.int .i64 0]) (by simp [results,Tryz.results88,go_sem,q0,q1,q2,q3]) rfl ?_
   rw [←HG.out.1,←HG.out.2.1,←HG.out.2.2];have hk:pk 4 lo ng=1:=by unfold pk;rw [if_pos (Or.inl rfl)]
   rw [pv7_no (by rw [hk];decide),hk]
   exact ⟨_,rfl,Th.plain _ _ _,qb⟩
 by_cases hinf:hi=3
 · subst hinf
   by_cases hz:lo=0
   · subst hz
     go_wp2;obtain ⟨w5,hw5⟩:∃ w5,w5=((((w4.setCell ⟨w.heap.size,0,none⟩ (.int .i64 1)).setCell ⟨w.heap.size,1,none⟩ (.bool false)).setCell ⟨w.heap.size,2,none⟩ (.slice none 0 0)).setCell ⟨w.heap.size,3,none⟩ (.int .i64 0)):=⟨_,rfl⟩;rw [←hw5];have q:Bl w5 w.heap.size 117 [.int .i64 1,.bool false,.slice none 0 0,.int .i64 0]:=by rw [hw5];exact put4 H4.out.1
     have qb:Below w.heap.size w w5:=by rw [hw5];exact put4_below H4.out.2.2.2.1 H4.out.2.2.2.1.size (Nat.le_refl _)
     skip
     clear hw5;obtain ⟨q0,q1,q2,q3⟩:=q.four;refine bodyPost_ret (v:=.agg #[.int .i64 1,.bool false,.slice none 0 0,.int .i64 0]) (by simp [results,Tryz.results88,go_sem,q0,q1,q2,q3]) rfl ?_
     rw [←HG.out.1,←HG.out.2.1,←HG.out.2.2];have hk:pk 3 0 ng=1:=by unfold pk;rw [if_pos (Or.inr ⟨rfl,rfl⟩)]
     rw [pv7_no (by rw [hk];decide),hk]
     exact ⟨_,rfl,Th.plain _ _ _,qb⟩
   · have hz':(lo==0)=false:=by simpa using hz
     cases ng
     · go_wp2_with (go_at_call 120;refine (signed_any _ _ _ _).mono ?_;rintro r u ⟨rfl,rfl⟩)
       obtain ⟨w5,hw5⟩:∃ w5,w5=((((u.setCell ⟨w.heap.size,0,none⟩ (.int .i64 2)).setCell ⟨w.heap.size,1,none⟩ (.bool false)).setCell ⟨w.heap.size,2,none⟩ (.slice none 0 0)).setCell ⟨w.heap.size,3,none⟩ (.int .i64 0)):=⟨_,rfl⟩;rw [←hw5];have q:Bl w5 w.heap.size 117 [.int .i64 2,.bool false,.slice none 0 0,.int .i64 0]:=by rw [hw5];exact put4 H4.out.1
       have qb:Below w.heap.size w w5:=by rw [hw5];exact put4_below H4.out.2.2.2.1 H4.out.2.2.2.1.size (Nat.le_refl _)
       skip
       clear hw5;obtain ⟨q0,q1,q2,q3⟩:=q.four;refine bodyPost_ret (v:=.agg #[.int .i64 2,.bool false,.slice none 0 0,.int .i64 0]) (by simp [results,Tryz.results88,go_sem,q0,q1,q2,q3]) rfl ?_
       rw [←HG.out.1,←HG.out.2.1,←HG.out.2.2];have hk:pk 3 lo false=2:=by unfold pk;rw [if_neg (by omega),if_pos rfl];rfl
       rw [pv7_no (by rw [hk];decide),hk]
       exact ⟨_,rfl,Th.plain _ _ _,qb⟩
     · go_wp2_with (go_at_call 120;refine (signed_any _ _ _ _).mono ?_;rintro r u ⟨rfl,rfl⟩)
       obtain ⟨w5,hw5⟩:∃ w5,w5=((((u.setCell ⟨w.heap.size,0,none⟩ (.int .i64 3)).setCell ⟨w.heap.size,1,none⟩ (.bool false)).setCell ⟨w.heap.size,2,none⟩ (.slice none 0 0)).setCell ⟨w.heap.size,3,none⟩ (.int .i64 0)):=⟨_,rfl⟩;rw [←hw5];have q:Bl w5 w.heap.size 117 [.int .i64 3,.bool false,.slice none 0 0,.int .i64 0]:=by rw [hw5];exact put4 H4.out.1
       have qb:Below w.heap.size w w5:=by rw [hw5];exact put4_below H4.out.2.2.2.1 H4.out.2.2.2.1.size (Nat.le_refl _)
       skip
       clear hw5;obtain ⟨q0,q1,q2,q3⟩:=q.four;refine bodyPost_ret (v:=.agg #[.int .i64 3,.bool false,.slice none 0 0,.int .i64 0]) (by simp [results,Tryz.results88,go_sem,q0,q1,q2,q3]) rfl ?_
       rw [←HG.out.1,←HG.out.2.1,←HG.out.2.2];have hk:pk 3 lo true=3:=by unfold pk;rw [if_neg (by omega),if_pos rfl];rfl
       rw [pv7_no (by rw [hk];decide),hk]
       exact ⟨_,rfl,Th.plain _ _ _,qb⟩
 have ho':(hi==4)=false:=by simpa using hodd
 have hi':(hi==3)=false:=by simpa using hinf
 by_cases hz:lo=0
 · subst hz
   cases ng
   · go_wp2_with (go_at_call 120;refine (signed_any _ _ _ _).mono ?_;rintro r u ⟨rfl,rfl⟩)
     obtain ⟨w5,hw5⟩:∃ w5,w5=((((u.setCell ⟨w.heap.size,0,none⟩ (.int .i64 5)).setCell ⟨w.heap.size,1,none⟩ (.bool false)).setCell ⟨w.heap.size,2,none⟩ (.slice none 0 0)).setCell ⟨w.heap.size,3,none⟩ (.int .i64 0)):=⟨_,rfl⟩;rw [←hw5];have q:Bl w5 w.heap.size 117 [.int .i64 5,.bool false,.slice none 0 0,.int .i64 0]:=by rw [hw5];exact put4 H4.out.1
     have qb:Below w.heap.size w w5:=by rw [hw5];exact put4_below H4.out.2.2.2.1 H4.out.2.2.2.1.size (Nat.le_refl _)
     skip
     clear hw5;obtain ⟨q0,q1,q2,q3⟩:=q.four;refine bodyPost_ret (v:=.agg #[.int .i64 5,.bool false,.slice none 0 0,.int .i64 0]) (by simp [results,Tryz.results88,go_sem,q0,q1,q2,q3]) rfl ?_
     rw [←HG.out.1,←HG.out.2.1,←HG.out.2.2];have hk:pk hi 0 false=5:=by unfold pk;rw [if_neg (by omega),if_neg (by omega),if_pos rfl];rfl
     rw [pv7_no (by rw [hk];decide),hk]
     exact ⟨_,rfl,Th.plain _ _ _,qb⟩
   · go_wp2_with (go_at_call 120;refine (signed_any _ _ _ _).mono ?_;rintro r u ⟨rfl,rfl⟩)
     obtain ⟨w5,hw5⟩:∃ w5,w5=((((u.setCell ⟨w.heap.size,0,none⟩ (.int .i64 4)).setCell ⟨w.heap.size,1,none⟩ (.bool false)).setCell ⟨w.heap.size,2,none⟩ (.slice none 0 0)).setCell ⟨w.heap.size,3,none⟩ (.int .i64 0)):=⟨_,rfl⟩;rw [←hw5];have q:Bl w5 w.heap.size 117 [.int .i64 4,.bool false,.slice none 0 0,.int .i64 0]:=by rw [hw5];exact put4 H4.out.1
     have qb:Below w.heap.size w w5:=by rw [hw5];exact put4_below H4.out.2.2.2.1 H4.out.2.2.2.1.size (Nat.le_refl _)
     skip
     clear hw5;obtain ⟨q0,q1,q2,q3⟩:=q.four;refine bodyPost_ret (v:=.agg #[.int .i64 4,.bool false,.slice none 0 0,.int .i64 0]) (by simp [results,Tryz.results88,go_sem,q0,q1,q2,q3]) rfl ?_
     rw [←HG.out.1,←HG.out.2.1,←HG.out.2.2];have hk:pk hi 0 true=4:=by unfold pk;rw [if_neg (by omega),if_neg (by omega),if_pos rfl];rfl
     rw [pv7_no (by rw [hk];decide),hk]
     exact ⟨_,rfl,Th.plain _ _ _,qb⟩
 have hz':(lo==0)=false:=by simpa using hz
 have hk0:pk hi lo ng=0:=by unfold pk;rw [if_neg (by omega),if_neg (by omega),if_neg (by omega)]
 have HK:=qsd hk0;clear hk0;have kS:Aside (w4.drew.cell? ⟨w2.heap.size,3,none⟩=some (.int .u64 (f1:Nat))∧w4.drew.cell? ⟨w2.heap.size+1,3,none⟩=some (.int .u64 (f2:Nat))):=⟨H4.out.2.1.drew.four.2.2.2,H4.out.2.2.1.drew.four.2.2.2⟩;have BB:Aside (Below w4.heap.size w4 w4.drew):=(Below.refl _ _).drew;have O1:=hid (fun u:World=>of_any f1 u (by omega))
 have O2:=hid (fun u:World=>of_any f2 u (by omega))
 have MS:=qsd (mulS_small f1 f2 hf1 hf2)
 have hpw2:Aside ((ws f1).length≤1000∧(ws f2).length≤1000):=by
  have e:pw 2=18446744073709551616:=by decide
  exact ⟨Nat.le_trans ((ws_len_le f1 2).2 (by omega)) (by decide),Nat.le_trans ((ws_len_le f2 2).2 (by omega)) (by decide)⟩
 clear hodd hinf hz z0 z1 z2 z3 g0 g1 g2 g3;go_wp2
 go_region_held (fun w'=>w'.cell? ⟨w2.heap.size,3,none⟩=some (.int .u64 (f1:Nat))∧w'.cell? ⟨w2.heap.size+1,3,none⟩=some (.int .u64 (f2:Nat))) (with_reducible exact kS.out) (first
  | (go_at_call 103
     with_reducible refine (O1.out _).mono ?_
     rintro r u ⟨v1,rfl,N1,hb⟩
     try have N2:=qsd (N2.out.below hb)
     have BB:=qsd (BB.out.trans (hb.mono BB.out.size));have kS:=qsd (ai (H4.out.2.1.below BB.out (by have:=H4.out.2.2.2.2.2;omega)).four.2.2.2 (H4.out.2.2.1.below BB.out (by have:=H4.out.2.2.2.2.2;omega)).four.2.2.2)
     have N1:=qsd N1;clear hb)
  | (go_at_call 103
     with_reducible refine (O2.out _).mono ?_
     rintro r u ⟨v2,rfl,N2,hb⟩
     try have N1:=qsd (N1.out.below hb)
     have BB:=qsd (BB.out.trans (hb.mono BB.out.size));have kS:=qsd (ai (H4.out.2.1.below BB.out (by have:=H4.out.2.2.2.2.2;omega)).four.2.2.2 (H4.out.2.2.1.below BB.out (by have:=H4.out.2.2.2.2.2;omega)).four.2.2.2)
     have N2:=qsd N2;clear hb)
  | (go_at_call 121
     with_reducible refine (mul_nt N1.out N2.out hpw2.out.1 hpw2.out.2 MS.out.1).mono ?_
     rintro r u ⟨v,rfl,NV,hb⟩;have NV:=qsd (ai NV BB.out.size);have BB:=qsd (BB.out.trans (hb.mono BB.out.size));have kS:=qsd (ai (H4.out.2.1.below BB.out (by have:=H4.out.2.2.2.2.2;omega)).four.2.2.2 (H4.out.2.2.1.below BB.out (by have:=H4.out.2.2.2.2.2;omega)).four.2.2.2)
     clear hb))
 all_goals (
  obtain ⟨a,c,rfl,_⟩:=NV.out.1.arg (Nat.le_trans MS.out.2 (by decide))
  have Z:=qsd (H4.out.1.below BB.out (by have:=H4.out.2.2.2.2.1;have:=H4.out.2.2.2.2.2;omega))
  obtain ⟨z0,z1,z2,z3⟩:=Z.out.four;have g0:=Z.out.frozen 0;have g1:=Z.out.frozen 1;have g2:=Z.out.frozen 2;have g3:=Z.out.frozen 3;have p2:=(H4.out.2.1.below BB.out (by have:=H4.out.2.2.2.2.2;omega)).four.2.2.1
  have r2:=(H4.out.2.2.1.below BB.out (by have:=H4.out.2.2.2.2.2;omega)).four.2.2.1
  have BW:=qsd (H4.out.2.2.2.1.trans (BB.out.mono H4.out.2.2.2.1.size));clear kS BB N1 N2;go_wp2;obtain ⟨w5,hw5⟩:∃ w5,w5=((((u.setCell ⟨w.heap.size,0,none⟩ (.int .i64 0)).setCell ⟨w.heap.size,1,none⟩ (.bool ng)).setCell ⟨w.heap.size,2,none⟩ (.slice a (ws (f1*f2)).length c)).setCell ⟨w.heap.size,3,none⟩ (.int .i64 (x1+x2+2148))):=⟨_,rfl⟩;rw [←hw5];have q:Bl w5 w.heap.size 117 [.int .i64 0,.bool ng,.slice a (ws (f1*f2)).length c,.int .i64 (x1+x2+2148)]:=by rw [hw5];exact put4 Z.out
  have qb:Below w.heap.size w w5:=by rw [hw5];exact put4_below BW.out BW.out.size (Nat.le_refl _)
  have qn:=NV.out.1.but7 (w':=w5) (g:=w.heap.size) (by rw [hw5];exact ((((But.refl _ u).set 0 _).set 1 _).set 2 _).set 3 _) (by have:=NV.out.2;have:=H4.out.2.2.2.2.1;have:=H4.out.2.2.2.2.2;omega)
  clear hw5;obtain ⟨q0,q1,q2,q3⟩:=q.four;refine bodyPost_ret (v:=.agg #[.int .i64 0,.bool ng,.slice a (ws (f1*f2)).length c,.int .i64 (x1+x2+2148)]) (by simp [results,Tryz.results88,go_sem,q0,q1,q2,q3]) rfl ?_
  rw [←HG.out.1,←HG.out.2.1,←HG.out.2.2,pv7_yes HK.out,HK.out];obtain ⟨a',c',e,AV⟩:=qn.arg (Nat.le_trans MS.out.2 (by decide))
  cases e
  refine ⟨_,rfl,⟨ng,a,_,c,(x1+x2+2148).toNat,ws (f1*f2),fun ad e=>?_,?_,AV,?_,?_⟩,qb⟩
  · subst e
    have h1:=(qn.lt ad.block rfl).1;have:=NV.out.2;have:=H4.out.2.2.2.2.1;have:=H4.out.2.2.2.2.2;omega
  · rw [Int.toNat_of_nonneg (by omega)];rfl
  · have:=MS.out.2
    omega
  · rw [val_ws])
theorem splitIs (s:Bool) (e f:Nat) (he:e<2048) (hf:f<4503599627370496):SplitIs (B.bw s e f) (B.ng s e f) (B.cls e f) (B.xp e) (B.fr e f).toNat:=fun w =>
 (B.Split_any s e f he hf w).mono fun r w' ⟨h1,h2⟩=>⟨by rw [h1,Int.toNat_of_nonneg];unfold B.fr;split <;> (try split) <;> omega,h2⟩
theorem xp_bound (e:Nat) (he:e<2048):-1074≤B.xp e∧B.xp e≤971:=by unfold B.xp;split <;> (try split) <;> omega
theorem fr_bound (e f:Nat) (hf:f<4503599627370496):(B.fr e f).toNat<9007199254740992:=by unfold B.fr;split <;> (try split) <;> omega
def Acc7 (w:World) (g:Nat) (V:Int) (s:Sp):Prop:=∃ L:List Nat,L.length=133∧Wf L∧(val L:Int)=V%(PB:Int)∧-(HB:Int)<V∧V<(HB:Int)∧Ac w g L s
theorem Acc7.lt {w:World}{g:Nat}{V:Int}{s:Sp}(h:Acc7 w g V s):g<w.heap.size:=by obtain ⟨L,_,_,_,_,_,h⟩:=h;exact h.lt
theorem Acc7.below {w w':World}{g B:Nat}{V:Int}{s:Sp}(h:Acc7 w g V s) (hb:Below B w w') (hg:g<B):Acc7 w' g V s:=by
 obtain ⟨L,h1,h2,h3,h4,h5,h6⟩:=h;exact ⟨L,h1,h2,h3,h4,h5,h6.below hb hg⟩
theorem Acc7.bel {w w':World}{g:Nat}{V:Int}{s:Sp}(h:Acc7 w g V s) (hb:Below w.heap.size w w'):Acc7 w' g V s:=h.below hb h.lt
theorem PB_HB:PB=262144*HB:=by rw [PB_top,HB_eq];omega
theorem bey_val (N:Nat) (V:Int) (h:(N:Int)=V%(PB:Int)) (h0:-(2*HB:Int)<V) (h1:V<2*(HB:Int)):bey N=!(decide (-(HB:Int)<V∧V<(HB:Int))):=by
 have e:=PB_HB;have hp:=HB_pos;unfold bey
 by_cases hv:0≤V
 · rw [Int.emod_eq_of_lt hv (by omega)] at h
   by_cases hc:V<(HB:Int)
   · rw [decide_eq_false (by omega),decide_eq_true (by omega)];rfl
   · rw [decide_eq_true (by omega),decide_eq_false (by omega)];rfl
 · have h2:V%(PB:Int)=V+PB:=by
    rw [←Int.add_emod_right,Int.emod_eq_of_lt (by omega) (by omega)]
   rw [h2] at h
   by_cases hc:-(HB:Int)<V
   · rw [decide_eq_false (by omega),decide_eq_true (by omega)];rfl
   · rw [decide_eq_true (by omega),decide_eq_false (by omega)];rfl
def Did (g:Nat) (w:World) (X:Int×Int×Sp) (r:Ending) (w':World):Prop:=r=.returned (.int .i64 X.1)∧Acc7 w' g X.2.1 X.2.2∧But g w w'
def step7 (V:Int) (s:Sp) (T:Int) (t:Sp):Int×Int×Sp:=if -(HB:Int)<V+T∧V+T<(HB:Int) then (0,V+T,t) else (2,V,s)
def putS (V:Int) (s:Sp) (k:Nat) (T:Int):Int×Int×Sp:=if s.a=1099511627776 then (2,V,s) else step7 V s T (s.cnt k 1)
def dropS (V:Int) (s:Sp) (k:Nat) (T:Int):Int×Int×Sp:=if s.has k=0 then (3,V,s) else step7 V s (-T) (s.cnt k (-1))
theorem become_any (g:Nat) (L M:List Nat) (V T:Int) (s t:Sp) (w:World) (hA:Ac w g L s) (hl:L.length=133) (hL:Wf L) (hv:(val L:Int)=V%(PB:Int)) (h0:-(HB:Int)<V) (h1:V<(HB:Int)) (hM:Wf M) (hm:M.length=133)
 (hvM:(val M:Int)=(V+T)%(PB:Int)) (hT0:-(HB:Int)<T) (hT1:T<(HB:Int)) :
 Calls Tryz.prog 107 #[.pointer (some ⟨g,0,none⟩),.agg (M.map U).toArray,t.agg] w (Did g w (step7 V s T t)):=by
 have hb:=bey_val (val M) (V+T) hvM (by omega) (by omega)
 by_cases hc:-(HB:Int)<V+T∧V+T<(HB:Int)
 · rw [decide_eq_true hc] at hb
   refine (become_yes g L M s t w hA hl hM hm hb).mono fun r w' ⟨a,b,c⟩=>?_
   unfold step7;rw [if_pos hc];exact ⟨a,⟨M,hm,hM,hvM,hc.1,hc.2,b⟩,c⟩
 · rw [decide_eq_false hc] at hb
   refine (become_no g L M s t w hA hM hm hb).mono fun r w' ⟨a,b⟩=>?_
   unfold step7;rw [if_neg hc];exact ⟨a,⟨L,hl,hL,hv,h0,h1,hA.below b hA.lt⟩,(But.refl g w).of_bel b⟩
end
end Go.Proofs.YthejkolknalpaaaGreatDoor
