import Derived.Test.YtihjfhpoiheomaaGreatDoorD30x
import Derived.BigQuiet
import Derived.Deep.RegionHeld3
import Derived.Test.YtihjfhpoiheomaaGreatDoorD8x
import Derived.Test.YtihjfhpoiheomaaGreatDoorM4x
import Derived.Test.YtihjfhpoiheomaaGreatDoorW25x
import Derived.Laws.IdiomStrings
import Derived.Deep.Cut
import Derived.Test.YtihjfhpoiheomaaGreatDoorRS8x
import Derived.Deep.CutRange
import Derived.Test.YtihjfhpoiheomaaGreatDoorD16x
import Derived.Test.YtihjfhpoiheomaaGreatDoorD21x
import Derived.Deep.RegionWith
import Derived.Deep.OwnRows
import Derived.Deep.LoopGhost
import Derived.Test.YtihjfhpoiheomaaGreatDoorM1x
import Derived.Laws.FloatArith
import Derived.ProofKit
import Derived.OpenShut
import Derived.ChangeOld
import Derived.SizedLaws
import Derived.ChangeArms
import Derived.KernelRfl
import Derived.ArgAppend
import Derived.Maps.AppendAt
import Derived.WalkMore
import Derived.OwnWalk
import Derived.Deep.MidRow
import Derived.ChangeKeysEq
import Derived.Laws.OwnMore
import Derived.Lib.SliceRun
import Derived.Deep.RegionHeld
import Derived.RangeFuncNested
import Derived.RangeFuncBound
import Derived.RangeFuncCalls
import Derived.RangeFuncLeaves
import Derived.RangeFuncBox
import Derived.Shelf.Abstract
import Derived.Shelf.RegionOpen
import Derived.WalkKit
import Derived.OwnWalkIn
import Derived.TacticsInMore
import Derived.LoopNIn
import Derived.LoopIn
set_option linter.unusedVariables false
set_option linter.unusedSimpArgs false
set_option maxHeartbeats 16000000
set_option maxRecDepth 20000
namespace Go.Proofs.YtihjfhpoiheomaaGreatDoor
namespace J
end J
section
open Go.RowKit J
abbrev finW (x:Nat):Prop:=magW x<9218868437227405312
def fvW (x:Nat):Int:=B.sg (negW x) (vK (magW x))
def EQ:Nat:=2096
theorem exQ:∃ q:Nat,q=2^EQ:=⟨_,rfl⟩
noncomputable def QQ:Nat:=Classical.choose exQ
theorem Q_eq:QQ=2^EQ:=Classical.choose_spec exQ
theorem sg_abs (s:Bool) (v:Nat):(B.sg s v).natAbs=v:=absSg s v
theorem vK_F (K:Nat):∃ m k:Nat,vK K=m*2^k∧m≤9007199254740992:=by
 show ∃ m k,B.val Ieee.double K=m*2^k∧m≤9007199254740992
 unfold B.val;rw [B.dBin]
 split
 · exact ⟨K,0,by simp,by omega⟩
 · exact ⟨_,_,rfl,by omega⟩
theorem F_vK {f:Int}(h:IsF f):∃ L,vK L=f.natAbs:=by
 by_cases hs:f.natAbs≤9007199254740992
 · refine ⟨f.natAbs,?_⟩
   have:=vK_word 0 f.natAbs (.inl rfl) hs;simpa using this
 · obtain ⟨k,h1,h2,h3⟩:=h.placed
   have h2':2^(52+k)≤f.natAbs:=by
    rcases h2 with rfl|h2
    · omega
    · exact h2
   obtain ⟨q,hq⟩:=h3;have hf:f.natAbs=q.natAbs*2^k:=by rw [hq,Int.natAbs_mul,natAbs_p2,Nat.mul_comm]
   rw [hf] at h1 h2' ⊢;rw [Nat.pow_add] at h1 h2';have a1:=Nat.lt_of_mul_lt_mul_right h1;have a2:=Nat.le_of_mul_le_mul_right h2' (Nat.two_pow_pos _);exact ⟨_,vK_word k q.natAbs (.inr (by omega)) (by omega)⟩
theorem ne_near {R V L:Nat}(h:NE R V 1):((vK R:Int)-V).natAbs≤((vK L:Int)-V).natAbs:=by
 have u:2*V≤vK R+vK (R+1):=by have:=h.up;rw [Nat.mul_one] at this;exact this
 rcases Nat.lt_trichotomy L R with c|c|c
 · have d:vK (R-1)+vK R≤2*V:=by have:=h.dn (by omega);rw [Nat.mul_one] at this;exact this
   have m1:vK L≤vK (R-1):=vmono (by omega)
   have m2:vK (R-1)<vK R:=vK_lt.2 (by omega)
   omega
 · rw [c];omega
 · have m1:vK (R+1)≤vK L:=vmono (by omega)
   have m2:vK R<vK (R+1):=vK_lt.2 (by omega)
   omega
theorem ne_rn {R:Nat}{T:Int}(h:NE R T.natAbs 1) {s:Bool}(hs:T≠0→s=decide (T<0)):IsRn T (B.sg s (vK R)):=by
 have hF:IsF (B.sg s (vK R)):=by
  obtain ⟨m,k,h1,h2⟩:=vK_F R;unfold B.sg;rw [h1]
  cases s
  · exact ⟨(m:Int),k,by simp,by omega,by omega⟩
  · exact ⟨-(m:Int),k,by simp [Int.neg_mul],by omega,by omega⟩
 refine ⟨hF,fun f hf=>?_⟩
 obtain ⟨L,hL⟩:=F_vK hf;have n:=ne_near (L:=L) h
 by_cases hT:T=0
 · subst hT
   have:NE 0 (0:Int).natAbs 1:=NEf.own (by decide) (by rw [B.val_zero];rfl)
   rw [h.one this (by decide),show vK 0=0 from B.val_zero _]
   unfold B.sg
   cases s <;> simp
 · have e:=hs hT
   unfold B.sg
   by_cases hn:T<0
   · rw [decide_eq_true hn] at e;subst e
     simp only [if_true];omega
   · rw [decide_eq_false hn] at e;subst e
     simp only [Bool.false_eq_true,if_false];omega
theorem top_half (K:Nat) (h:9218868437227405311≤K):2*QQ<vK K:=by
 obtain ⟨c,hc⟩:∃ c:Nat,c=2045:=⟨_,rfl⟩;have h1:=vK_word c 4503599627370496 (.inr (by omega)) (by omega)
 have h2:c*4503599627370496+4503599627370496<K:=by rw [hc];omega
 have h3:=vK_lt.2 h2;rw [h1] at h3
 have h4:2*QQ=4503599627370496*2^c:=by
  have a1:EQ+1=52+c:=by rw [hc];unfold EQ;rfl
  have a2:2*2^EQ=2^(EQ+1):=by rw [Nat.pow_succ,Nat.mul_comm]
  rw [Q_eq,a2,a1,Nat.pow_add]
 omega
theorem ne_fin {R V:Nat}(h:NE R V 1) (hV:V≤3*QQ):R<9218868437227405312:=by
 apply Nat.lt_of_not_le;intro hh
 have d:vK (R-1)+vK R≤2*V:=by have:=h.dn (by omega);rw [Nat.mul_one] at this;exact this
 have a1:=top_half (R-1) (by omega)
 obtain ⟨c,hc⟩:∃ c:Nat,c=2045:=⟨_,rfl⟩;have h1:=vK_word c 9007199254740992 (.inr (by omega)) (by omega)
 have h2:c*4503599627370496+9007199254740992≤R:=by rw [hc];omega
 have h3:vK (c*4503599627370496+9007199254740992)≤vK R:=vmono h2;rw [h1] at h3
 have h4:4*QQ=9007199254740992*2^c:=by
  have a1:EQ+2=53+c:=by rw [hc];unfold EQ;rfl
  have a2:4*2^EQ=2^(EQ+2):=by rw [Nat.pow_add,Nat.mul_comm]
  rw [Q_eq,a2,a1,Nat.pow_add]
 omega
theorem fv_wd (s:Bool) (K:Nat) (h:K<9218868437227405312):finW (wd64 s K)∧fvW (wd64 s K)=B.sg s (vK K):=by
 obtain ⟨h1,h2,_⟩:=magW_wd s K (by omega)
 unfold fvW;rw [h1,h2];exact ⟨by unfold finW;rw [h1];exact h,rfl⟩
end
section
open Go.RowKit J
def Hh (x:Nat) (k:Int):Prop:=x<18446744073709551616∧finW x∧fvW x*2=k*((2^1074:Nat):Int)
theorem pw1074:((2^1074:Nat):Int)=2*((2^1073:Nat):Int):=by
 obtain ⟨e,he⟩:∃ e,e=1073:=⟨_,rfl⟩;rw [show 1074=e+1 by omega,←he,Nat.pow_succ];omega
theorem isF_hh (k:Int) (h0:-9007199254740992≤k) (h1:k≤9007199254740992):IsF (k*((2^1073:Nat):Int)):=by
 obtain ⟨e,he⟩:∃ e,e=1073:=⟨_,rfl⟩;rw [←he];exact ⟨k,e,by rw [Int.natCast_pow];rfl,h0,h1⟩
theorem isF_wh (k:Int) (h0:-9007199254740992≤k) (h1:k≤9007199254740992):IsF (k*((2^1074:Nat):Int)):=by
 obtain ⟨e,he⟩:∃ e,e=1074:=⟨_,rfl⟩;rw [←he];exact ⟨k,e,by rw [Int.natCast_pow];rfl,h0,h1⟩
theorem small_wh (k:Int) (h0:-9007199254740992≤k) (h1:k≤9007199254740992):(k*((2^1074:Nat):Int)).natAbs≤3*QQ:=by
 obtain ⟨e,he⟩:∃ e,e=1074:=⟨_,rfl⟩;rw [←he,Int.natAbs_mul,Int.natAbs_natCast,Q_eq];have h2:k.natAbs*2^e≤2^53*2^e:=Nat.mul_le_mul_right _ (by omega)
 have h3:2^53*2^e≤2^EQ:=by
  rw [←Nat.pow_add];exact Nat.pow_le_pow_right (by decide) (by rw [he];decide)
 generalize 2^EQ=K at *;omega
theorem rn_own {V s:Int}(h:IsRn V s) (hV:IsF V):s=V:=by
 have:=h.2 V hV;rw [Int.sub_self] at this;omega
theorem Hh.val {x:Nat}{k:Int}(h:Hh x k):fvW x=k*((2^1073:Nat):Int):=by
 have:=h.2.2;rw [pw1074] at this;generalize ((2^1073:Nat):Int)=K at *;have e:k*(2*K)=k*K*2:=by rw [Int.mul_comm 2 K,Int.mul_assoc]
 omega
theorem int_hh (k:Int) (h0:-9007199254740992≤k) (h1:k≤9007199254740992):Hh (floatOfInt .f64 k) (2*k):=by
 have e0:floatOfInt .f64 k=Ieee.double.nearest (decide (k<0)) k.natAbs 0:=rfl
 suffices H:floatOfInt .f64 k<18446744073709551616∧finW (floatOfInt .f64 k)∧fvW (floatOfInt .f64 k)=k*((2^1074:Nat):Int) by
  refine ⟨H.1,H.2.1,?_⟩;rw [H.2.2,Int.mul_comm 2 k,Int.mul_assoc,Int.mul_assoc,Int.mul_comm 2]
 by_cases hz:k=0
 · subst hz
   have:floatOfInt .f64 0=0:=by decide
   rw [this];refine ⟨by decide,by unfold finW magW;decide,?_⟩
   rw [Int.zero_mul];unfold fvW B.sg;rw [show magW 0=0 from rfl,show vK 0=0 from B.val_zero _,show negW 0=false from rfl];rfl
 · obtain ⟨R,hR,hN⟩:=nearest_ne (decide (k<0)) k.natAbs B.LP 0 (by omega)
   rw [B.dLP,show -(B.LP:Int)+(B.LP:Int)-((0:Nat):Int)=0 by omega,←e0,B.dInf,←wd_word] at hR
   rw [Nat.pow_zero] at hN
   have hV:(k*((2^1074:Nat):Int)).natAbs=k.natAbs*2^B.LP:=by
    rw [Int.natAbs_mul,Int.natAbs_natCast,show B.LP=1074 from rfl]
   rw [←hV] at hN;have hf:=ne_fin hN (small_wh k h0 h1);rw [Nat.min_eq_left (by omega)] at hR
   have hr:IsRn (k*((2^1074:Nat):Int)) (B.sg (decide (k<0)) (vK R)):=ne_rn hN (fun _=>by
    obtain ⟨e,he⟩:∃ e,e=1074:=⟨_,rfl⟩;rw [←he,decide_eq_decide];have:=Nat.two_pow_pos e;generalize 2^e=K at *
    constructor
    · intro h;exact Int.mul_neg_of_neg_of_pos h (by omega)
    · intro h;apply Int.lt_of_not_ge;intro h2;have:=Int.mul_nonneg h2 (show (0:Int)≤K by omega);omega)
   have hv:=rn_own hr (isF_wh k h0 h1);obtain ⟨k1,k2⟩:=fv_wd (decide (k<0)) R hf;rw [hR];exact ⟨(magW_wd _ R (by omega)).2.2,k1,by rw [k2,hv]⟩
theorem vK_inj0 {K L:Nat}(h:vK K=vK L):K=L:=by
 rcases Nat.lt_trichotomy K L with c|c|c
 · have:=vK_lt.2 c;omega
 · exact c
 · have:=vK_lt.2 c;omega
theorem fv_pos {x:Nat}(h:0<fvW x):negW x=false∧fvW x=(vK (magW x):Int):=by
 unfold fvW B.sg at *
 cases hn:negW x
 · simp
 · rw [hn] at h;simp at h;omega
theorem Hh.one {x y:Nat}{k:Int}(hx:Hh x k) (hy:Hh y k) (hk:0<k):x=y:=by
 have ex:=hx.val;have ey:=hy.val;have hp:0<k*((2^1073:Nat):Int):=Int.mul_pos hk (by obtain ⟨e,he⟩:∃ e,e=1073:=⟨_,rfl⟩;rw [←he];have:=Nat.two_pow_pos e;omega)
 obtain ⟨a1,a2⟩:=fv_pos (x:=x) (by omega)
 obtain ⟨b1,b2⟩:=fv_pos (x:=y) (by omega)
 rw [wd_of x hx.1,wd_of y hy.1,a1,b1,vK_inj0 (K:=magW x) (L:=magW y) (by omega)]
theorem read_bd (x:Nat) (hx:x<18446744073709551616) (h:magW x<9218868437227405312):∃ m k,Ieee.double.read x=.number (negW x) m (Ieee.double.leastPlace+(k:Nat))∧m*2^k=vK (magW x)∧m<9007199254740992:=by
 obtain ⟨m,k,h1,h2⟩:=read_finW x hx h;refine ⟨m,k,h1,h2,?_⟩;unfold Ieee.Format.read at h1;simp only [dB] at h1
 split at h1
 · injection h1 with _ h3 _;omega
 · split at h1
   · injection h1 with _ h3 _;omega
   · split at h1 <;> cases h1
def hvW (k:Int):Nat:=(floatBits .quo .f64 (floatOfInt .f64 k) 4611686018427387904).getD 0
theorem hv_run (k:Int) (h0:0≤k) (h1:k≤9007199254740992):floatBits .quo .f64 (floatOfInt .f64 k) 4611686018427387904=some (hvW k)∧Hh (hvW k) k:=by
 suffices H:∃ z,floatBits .quo .f64 (floatOfInt .f64 k) 4611686018427387904=some z∧Hh z k by
  obtain ⟨z,h,hz⟩:=H;have e:hvW k=z:=by unfold hvW;rw [h];rfl
  rw [e];exact ⟨h,hz⟩
 rcases Int.lt_or_eq_of_le h0 with hk|rfl
 · have W:=int_hh k (by omega) h1
   have hv:=W.val;rw [show (2*k)*((2^1073:Nat):Int)=k*((2^1074:Nat):Int) by rw [pw1074,Int.mul_comm 2 k,Int.mul_assoc]] at hv
   obtain ⟨x,hx⟩:∃ x,x=floatOfInt .f64 k:=⟨_,rfl⟩;rw [←hx] at W hv ⊢;have hp:0<k*((2^1074:Nat):Int):=Int.mul_pos hk (by obtain ⟨e,he⟩:∃ e,e=1074:=⟨_,rfl⟩;rw [←he];have:=Nat.two_pow_pos e;omega)
   obtain ⟨n0,ev⟩:=fv_pos (x:=x) (by omega)
   obtain ⟨m,j,hr,hm,hb⟩:=read_bd x W.1 W.2.1;rw [n0] at hr;have ef:Ieee.double.fractionBits+2=54:=by decide
   have r2:Ieee.double.read 4611686018427387904=.number false 4503599627370496 (-51):=by decide +kernel
   have l2:Nat.log2 4503599627370496=52:=by decide +kernel
   obtain ⟨E,hE⟩:∃ E,E=1074:=⟨_,rfl⟩;obtain ⟨E1,hE1⟩:∃ E,E=1073:=⟨_,rfl⟩
   have hmE:(m*2^j:Nat)=k.toNat*2^E:=by
    rw [hm];have:((vK (magW x):Nat):Int)=k*((2^E:Nat):Int):=by rw [←ev,hv,hE]
    have h2:((k.toNat*2^E:Nat):Int)=k*((2^E:Nat):Int):=by rw [Int.natCast_mul,Int.toNat_of_nonneg (by omega)]
    omega
   have hm0:m≠0:=by
    rintro rfl;have:=Nat.mul_pos (show 0<k.toNat by omega) (Nat.two_pow_pos E)
    omega
   have hl:=(Nat.log2_eq_iff hm0 (k:=m.log2)).1 rfl;obtain ⟨L,hL⟩:∃ L,L=m.log2:=⟨_,rfl⟩;rw [←hL] at hl
   have L52:L≤52:=by
    rcases Nat.lt_or_ge 52 L with q|q
    · have:=Nat.pow_le_pow_right (show 0<2 by decide) q
      omega
    · exact q
   have hLj:E≤L+j:=by
    rcases Nat.lt_or_ge (L+j) E with q|q
    · exfalso
      have a1:m*2^j<2^(L+1)*2^j:=Nat.mul_lt_mul_of_pos_right hl.2 (Nat.two_pow_pos j);rw [←Nat.pow_add] at a1;have a2:2^(L+1+j)≤2^E:=Nat.pow_le_pow_right (by decide) (by omega)
      have a3:1*2^E≤k.toNat*2^E:=Nat.mul_le_mul_right _ (by omega)
      omega
    · exact q
   obtain ⟨q,hq⟩:∃ q,54-L=q:=⟨_,rfl⟩;have em:54+52-L=q+52:=by omega
   have ed:m <<< (q+52)/4503599627370496=m*2^q:=by
    rw [Nat.shiftLeft_eq,Nat.pow_add,←Nat.mul_assoc];exact Nat.mul_div_cancel _ (by decide)
   have er:m <<< (q+52)%4503599627370496=0:=by
    rw [Nat.shiftLeft_eq,Nat.pow_add,←Nat.mul_assoc];exact Nat.mul_mod_left _ _
   obtain ⟨c,hc⟩:∃ c:Nat,j=c+q+2:=⟨j-q-2,by omega⟩
   have ep:(Ieee.double.leastPlace+(j:Nat):Int)-(-51)-((q+52:Nat):Int)-1=Ieee.double.leastPlace+((c:Nat):Int):=by omega
   have hquo:floatBits .quo .f64 x 4611686018427387904=some (Ieee.double.nearest false (2*(m*2^q)) (Ieee.double.leastPlace+((c:Nat):Int))):=by
    show ((Ieee.double.read x).quotient (Ieee.double.fractionBits+2) (Ieee.double.read 4611686018427387904)).map Ieee.double.write=_
    rw [hr,r2,ef];unfold Ieee.Datum.quotient;simp only [l2,←hL,em,ed,er,ep];rfl
   obtain ⟨r,hrr⟩:=F_vK (isF_hh k (by omega) h1)
   rw [Int.natAbs_mul,Int.natAbs_natCast,←hE1] at hrr;have e2:2^E=2*2^E1:=by rw [show E=E1+1 by omega,Nat.pow_succ,Nat.mul_comm]
   have ha:k.natAbs=k.toNat:=by omega
   have e5:k.toNat*2^E=2*(k.toNat*2^E1):=by rw [e2];exact Nat.mul_left_comm _ _ _
   have hmag:2*(m*2^q)*2^c=vK r:=by
    rw [hrr,ha]
    have:2*(2*(m*2^q)*2^c)=m*2^j:=by
     rw [hc,Nat.pow_add,Nat.pow_add]
     show 2*(2*(m*2^q)*2^c)=m*(2^c*2^q*4)
     generalize 2^q=A;generalize 2^c=C;rw [Nat.mul_comm C A,Nat.mul_assoc 2,←Nat.mul_assoc 2 2,Nat.mul_assoc m A C,show m*(A*C*4)=2*2*(m*(A*C)) by rw [←Nat.mul_assoc m (A*C) 4];omega]
    rw [hmE,e5] at this;generalize 2*(m*2^q)*2^c=P at *;generalize k.toNat*2^E1=Q at *;omega
   have hlt:r<9218868437227405312:=by
    have:r≤magW x:=by
     rcases Nat.lt_or_ge (magW x) r with c|c
     · have h1:=vK_lt.2 c
       rw [←hm,hmE,e5] at h1;rw [hrr,ha] at h1;omega
     · exact c
    exact Nat.lt_of_le_of_lt this W.2.1
   have hN:=B.nearest_exact Ieee.double false (2*(m*2^q)) c r (by rw [B.dInf];exact hlt) hmag
   rw [hN,←wd_word] at hquo;obtain ⟨k1,k2⟩:=fv_wd false r hlt;refine ⟨_,hquo,(magW_wd _ r (by omega)).2.2,k1,?_⟩
   rw [k2]
   show ((vK r:Nat):Int)*2=k*((2^1074:Nat):Int)
   rw [hrr,ha,←hE,e2,Int.natCast_mul,Int.natCast_mul,Int.toNat_of_nonneg (by omega),Int.mul_assoc,Int.mul_comm ((2^E1:Nat):Int)]
   rfl
 · refine ⟨0,by decide +kernel,by decide,by unfold finW magW;decide,?_⟩
   rw [Int.zero_mul];unfold fvW B.sg;rw [show magW 0=0 from rfl,show vK 0=0 from B.val_zero _,show negW 0=false from rfl];rfl
theorem hv_even (k:Int) (h0:1≤k) (h1:k≤4503599627370496):hvW (2*k)=floatOfInt .f64 k:=(hv_run (2*k) (by omega) (by omega)).2.one (int_hh k (by omega) (by omega)) (by omega)
end
section
open Go.RowKit J
attribute [local go_sem] fld15
def kyR (xs:List Nat) (j:Nat):Int:=tk (xs.getD ((rowL xs).getD j 0) 0)
theorem kyR_mono {xs:List Nat}{i j:Nat}(h:i≤j) (hj:j<xs.length):kyR xs i≤kyR xs j:=by
 rcases Nat.eq_or_lt_of_le h with rfl|h
 · exact Int.le_refl _
 have hl:=rowL_len xs;have:=List.pairwise_iff_getElem.1 (rowI_sorted xs (List.range xs.length)) i j (by rw [rowI_len,List.length_range];omega) (by rw [rowI_len,List.length_range];omega) h
 unfold leI at this;have:=of_decide_eq_true this
 have e:∀ k (hk:k<(rowI xs (List.range xs.length)).length),(rowL xs).getD k 0=(rowI xs (List.range xs.length))[k]:=fun k hk=>by
  unfold rowL;rw [List.getD_eq_getElem?_getD,List.getElem?_eq_getElem hk];rfl
 unfold kyR;rw [e i (by rw [rowI_len,List.length_range];omega),e j (by rw [rowI_len,List.length_range];omega)]
 omega
def stR (xs:List Nat):Nat→Nat×Nat
 | 0=>(0,0)
 | p+1=>if kyR xs (p+1)=kyR xs p then stR xs p else (p+1,(stR xs p).2+1)
def enF (xs:List Nat):Nat→Nat→Nat
 | 0,p=>p+1
 | f+1,p=>if p+1<xs.length∧kyR xs (p+1)=kyR xs p then enF xs f (p+1) else p+1
def enR (xs:List Nat) (p:Nat):Nat:=enF xs xs.length p
structure Bh (xs:List Nat) (a b:Nat):Prop where
 lt:a<b
 le:b≤xs.length
 al:∀ j,a≤j→j<b→kyR xs j=kyR xs a
 un:b<xs.length→kyR xs b≠kyR xs a
theorem Bh.enf {xs:List Nat}{a b:Nat}(h:Bh xs a b):∀ f p,a≤p→p<b→b≤p+f→enF xs f p=b
 | 0,p,h1,h2,h3=>absurd h3 (by omega)
 | f+1,p,h1,h2,h3=>by
   unfold enF
   by_cases e:p+1=b
   · rw [if_neg,e]
     rintro ⟨q1,q2⟩;rw [e] at q1 q2;exact h.un q1 (by rw [q2];exact h.al p h1 h2)
   · have:=h.le
     rw [if_pos ⟨by omega,by rw [h.al (p+1) (by omega) (by omega),h.al p h1 h2]⟩]
     exact Bh.enf h f (p+1) (by omega) (by omega) (by omega)
theorem Bh.en {xs:List Nat}{a b:Nat}(h:Bh xs a b) {p:Nat}(h1:a≤p) (h2:p<b):enR xs p=b:=by
 have:=h.le;exact h.enf _ p h1 h2 (by omega)
theorem Bh.st {xs:List Nat}{a b:Nat}(h:Bh xs a b):∀ p,a≤p→p<b→stR xs p=stR xs a
 | 0,h1,h2=>by rw [show a=0 by omega]
 | p+1,h1,h2=>by
   rcases Nat.eq_or_lt_of_le h1 with e|e
   · rw [e]
   · have:=h.st p (by omega) (by omega)
     rw [←this]
     show (if kyR xs (p+1)=kyR xs p then stR xs p else _)=_
     rw [if_pos (by rw [h.al (p+1) h1 h2,h.al p (by omega) (by omega)])]
theorem Bh.next {xs:List Nat}{a b:Nat}(h:Bh xs a b) (hb:b<xs.length):stR xs b=(b,(stR xs a).2+1):=by
 obtain ⟨p,rfl⟩:∃ p,b=p+1:=⟨b-1,by have:=h.lt;omega⟩
 have h1:=h.lt;have e:=h.st p (by omega) (by omega)
 show (if kyR xs (p+1)=kyR xs p then stR xs p else _)=_
 rw [if_neg (fun q=>h.un hb (by rw [q];exact h.al p (by omega) (by omega))),e]
theorem row_len {xs:List Nat}{k:Nat}(h:k<xs.length):k<(rowL xs).length:=by rw [rowL_len];exact h
theorem oc0 (a b:Int):(B.oc a b==0)=decide (a=b):=by
 unfold B.oc
 by_cases h:a<b
 · rw [if_pos h,decide_eq_false (by omega)];rfl
 · rw [if_neg h]
   by_cases h2:b<a
   · rw [if_pos h2,decide_eq_false (by omega)];rfl
   · rw [if_neg h2,decide_eq_true (by omega)];rfl
theorem behind15 (xs:List Nat) (ao:Option Addr) (n cap g a:Nat) (w:World) (hF:Fs w.heap.size w ao xs) (hO:OwnI w g (rowL xs)) (hn:n=xs.length) (hb:n≤17592186044416) (hW:W64 xs) (ha:a<n) :
 Calls Tryz.prog 54 #[.agg #[.slice ao n cap,.slice (some ⟨g,0,none⟩) n n],.int .i64 (a:Nat)] w fun r w'=>∃ b:Nat,r=.returned (.int .i64 (b:Nat))∧Bh xs a b∧Below w.heap.size w w':=by
 have hg:=hO.lt;obtain ⟨W1,hW1⟩:∃ W,W=w.alloc (Obj.cells #[Value.slice ao n cap,Value.slice (some ⟨g,0,none⟩) n n] 48):=⟨_,rfl⟩
 have o2:Below w.heap.size w W1:=by
  rw [hW1];exact (Below.refl w.heap.size w).alloc (Nat.le_refl _) _
 have r1:W1.cell? ⟨w.heap.size,0,none⟩=some (.slice ao n cap):=by
  rw [hW1,World.cell?_alloc_new];rfl
 have r2:W1.cell? ⟨w.heap.size,1,none⟩=some (.slice (some ⟨g,0,none⟩) n n):=by
  rw [hW1,World.cell?_alloc_new];rfl
 obtain ⟨G,hG⟩:∃ G,G=w.heap.size:=⟨_,rfl⟩;have hl:w.heap.size<W1.heap.size:=by rw [hW1];simp
 rw [←hG] at r1 r2 hl
 have HR:Aside (∀ u:World,Below W1.heap.size W1 u→u.cell? ⟨G,0,none⟩=some (.slice ao n cap)∧u.cell? ⟨G,1,none⟩=some (.slice (some ⟨g,0,none⟩) n n)):=fun u hu =>
  ⟨(World.cell?_of_block (a:=⟨G,0,none⟩) (hu.block G hl)).trans r1,(World.cell?_of_block (a:=⟨G,1,none⟩) (hu.block G hl)).trans r2⟩
 obtain ⟨a1,ha1⟩:∃ x,x=a+1:=⟨_,rfl⟩;have wa:IntKind.i64.wrap ((a:Int)+1)=(a1:Int):=wrapZ (by omega) (by omega)
 have HG:=qsd hG;have HN:=(qsd (ai hn (ai hO (ai hg (ai hF (ai hW ha))))));have HA:Aside (Below W1.heap.size W1 W1):=Below.refl _ _;have HB:=qsd o2;have HW1:=qsd hW1;have HA1:=qsd ha1;clear o2 hn hO hg hG hW1 r1 r2 hl hF hW ha ha1;go_enter Tryz.func54,Tryz.ntmps54
 go_upto_region 2 with fail
 rw [←HW1.out,←HG.out]
 go_loopg [5] (n+1-a1) (fun gk iv wr=>∃ k:Nat,gk+k=n+1∧iv=.int .i64 (k:Nat)∧Aside (a<k∧k≤n∧(∀ j,a≤j→j<k→kyR xs j=kyR xs a)∧Below W1.heap.size W1 wr))
 case atStart =>
  refine ⟨a1,by have:=HA1.out;have:=HN.out.2.2.2.2.2;omega,by first | rfl | simp,by have:=HA1.out;omega,by have:=HA1.out;have:=HN.out.2.2.2.2.2;omega,fun j h1 h2=>by rw [show j=a by have:=HA1.out;omega],HA.out⟩
 case round =>
  clear HA wa;obtain ⟨k,hgk,rfl,HA⟩:=hrel;obtain ⟨r1,r2⟩:=HR.out _ HA.out.2.2.2
  by_cases hk:k<n
  · have hdk:decide (k<n)=true:=by simp;omega
    have bk:(k:Int)<(n:Int):=by omega
    obtain ⟨k1,hk1⟩:∃ x,x=k+1:=⟨_,rfl⟩;have wk:IntKind.i64.wrap ((k:Int)+1)=(k1:Int):=wrapZ (by omega) (by omega)
    obtain ⟨hn,hO,hg,hF,hW,ha⟩:=HN.out;have hAW:Below w.heap.size w wr:=HB.out.trans (HA.out.2.2.2.mono HB.out.size);have hkx:k<xs.length:=by omega
    have hax:a<xs.length:=by omega
    obtain ⟨i,hi⟩:∃ i,i=(rowL xs).getD k 0:=⟨_,rfl⟩;obtain ⟨j,hj⟩:∃ i,i=(rowL xs).getD a 0:=⟨_,rfl⟩;have hO':=hO.below hAW hg;have c1:=hO'.cell k (row_len hkx);have c2:=hO'.cell a (row_len hax);have hin:i<n:=by rw [hi,hn];exact rowL_lt hkx
    have hjn:j<n:=by rw [hj,hn];exact rowL_lt hax
    rw [←hi] at c1;rw [←hj] at c2;have bi:(i:Int)<(n:Int):=by omega
    have bj:(j:Int)<(n:Int):=by omega
    have ba:(a:Int)<(n:Int):=by omega
    obtain ⟨b,off,rfl,d1⟩:=hF.at hAW i (by omega)
    obtain ⟨b',off',e,d2⟩:=hF.at hAW j (by omega)
    obtain ⟨rfl,rfl⟩:b=b'∧off=off':=by simpa using e
    have hx:xs.getD i 0<18446744073709551616:=hW _ (getD_mem15 (by omega))
    have hy:xs.getD j 0<18446744073709551616:=hW _ (getD_mem15 (by omega))
    have ek:kyR xs k=tk (xs.getD i 0):=by unfold kyR;rw [hi]
    have ea:kyR xs a=tk (xs.getD j 0):=by unfold kyR;rw [hj]
    obtain ⟨x,hxx⟩:∃ x,x=xs.getD i 0:=⟨_,rfl⟩;obtain ⟨y,hyy⟩:∃ x,x=xs.getD j 0:=⟨_,rfl⟩;rw [←hxx] at d1 hx ek;rw [←hyy] at d2 hy ea;have CO:=hid (fun v:World=>order15 hy hx v)
    have q:=oc0 (tk y) (tk x);obtain ⟨z,hz⟩:∃ z,z=B.oc (tk y) (tk x):=⟨_,rfl⟩;rw [←hz] at CO q;have hHB:Aside (∀ m,Below W1.heap.size W1 (wr.drewN m)):=fun m=>by obtain ⟨_,_,_,h⟩:=HA.out;exact ⟨h.os,h.tape,h.output,h.size,h.block⟩
    have HK:=(qsd (ai hk1 (ai ek (ai ea hn))))
    by_cases h:tk y=tk x
    · rw [decide_eq_true h] at q
      have Hh:=qsd h;clear hn hO hg hF hW ha hAW hkx hax hi hj hO' hx hy ek ea hxx hyy hz hk1 e h hk
      go_wp2_with fail
      go_quiet (first | (go_at_call 68;exact Calls.quiet_of_same (CO.out _)))
      go_wp2
      go_roundg (n+1-k1)
      case measure=>have:=HK.out.1;omega
      case rel =>
       obtain ⟨hk1,ek,ea,hn⟩:=HK.out;refine ⟨k1,by omega,by first | rfl | simp,by have:=HA.out.1;omega,by omega,fun j h1 h2=>?_,hHB.out _⟩
       by_cases c:j=k
       · rw [c,ek,ea,Hh.out]
       · exact HA.out.2.2.1 j h1 (by omega)
    · rw [decide_eq_false h] at q
      have Hh:=qsd h;have Hk:=qsd hk;clear hn hO hg hF hW ha hAW hkx hax hi hj hO' hx hy ek ea hxx hyy hz hk1 e h hk
      go_wp2_with fail
      go_quiet (first | (go_at_call 68;exact Calls.quiet_of_same (CO.out _)))
      go_wp2;go_ret;obtain ⟨hk1,ek,ea,hn⟩:=HK.out;exact ⟨k,rfl,⟨HA.out.1,by have:=Hk.out;omega,HA.out.2.2.1,fun _ q=>Hh.out (by rw [←ek,←ea,q])⟩,HB.out.trans ((hHB.out _).mono HB.out.size)⟩
  · obtain rfl:n=k:=by have:=HA.out.2.1;omega
    have hdk:decide (n<n)=false:=by simp
    have hHB:Aside (∀ m,Below W1.heap.size W1 (wr.drewN m)):=fun m=>by obtain ⟨_,_,_,h⟩:=HA.out;exact ⟨h.os,h.tape,h.output,h.size,h.block⟩
    go_wp2_with fail
    go_quiet (fail)
    go_wp2;go_ret;exact ⟨n,rfl,⟨HA.out.1,by have:=HN.out.1;omega,HA.out.2.2.1,fun q=>absurd HN.out.1 (by omega)⟩,HB.out.trans ((hHB.out _).mono HB.out.size)⟩
end
section
open Go.RowKit J
attribute [local go_sem] fld15
theorem und_runs15:Tryz.prog.underlying 53=some (.slice 57):=by kernel_rfl
theorem info_run15:(Tryz.prog.info? 57).map (fun i=>(i.zero,i.size,i.bytes))=some (some (.agg #[.int .i64 0,.int .i64 0,.int .i64 0]),3,24):=by kernel_rfl
theorem make_runs15 (z:Int) (n:Nat) (hz:z=(n:Int)) (hn:n≤65536) (w:World) :
 (Instr.makeSlice 53 (.int .i64 z) (.int .i64 z)).run Tryz.prog w=.ok (.slice (some ⟨w.heap.size,0,none⟩) n n) (w.alloc (.cells (madeCells #[.int .i64 0,.int .i64 0,.int .i64 0] (n*3)) 57)):=by
 subst hz;have h:=info_run15
 cases hi:Tryz.prog.info? 57 with
 | none=>rw [hi] at h;cases h
 | some i =>
   rw [hi] at h;simp only [Option.map_some,Option.some.injEq,Prod.mk.injEq] at h;have:=run_make (P:=Tryz.prog) w 53 57 i _ und_runs15 hi h.1 .i64 .i64 n n (by omega) (Int.le_refl _) (by rw [h.2.2];omega) (by omega)
   rw [h.2.1] at this;simp only [Int.toNat_natCast] at this;exact this
def OwnR (w:World) (g n:Nat) (f:Nat→Nat×Nat×Nat):Prop :=
 g<w.heap.size∧(∀ o,w.frozen? ⟨g,o,none⟩=false)∧∀ i,i<n→w.cell? ⟨g,i*3,none⟩=some (.int .i64 ((f i).1:Nat))∧w.cell? ⟨g,i*3+1,none⟩=some (.int .i64 ((f i).2.1:Nat))∧w.cell? ⟨g,i*3+2,none⟩=some (.int .i64 ((f i).2.2:Nat))
theorem made3 (n i:Nat) (h:i<n):(madeCells #[Value.int .i64 0,.int .i64 0,.int .i64 0] n)[i]?=some (.int .i64 0):=by
 unfold madeCells;rw [Array.getElem?_map,Array.getElem?_range]
 rw [if_pos h]
 show some (#[Value.int .i64 0,.int .i64 0,.int .i64 0][i%3]!)=_
 obtain q|q|q:i%3=0∨i%3=1∨i%3=2:=by omega
 all_goals rw [q];rfl
theorem OwnR.made (w:World) (n:Nat):OwnR (w.alloc (.cells (madeCells #[.int .i64 0,.int .i64 0,.int .i64 0] (n*3)) 57)) w.heap.size n fun _=>(0,0,0):=by
 refine ⟨by simp,fun o=>World.frozen?_alloc_new _ _ _ _,fun i hi=>⟨?_,?_,?_⟩⟩ <;> (rw [World.cell?_alloc_new];exact made3 _ _ (by omega))
theorem OwnR.below {w w':World}{g n B:Nat}{f:Nat→Nat×Nat×Nat}(h:OwnR w g n f) (hb:Below B w w') (hg:g<B):OwnR w' g n f:=by
 obtain ⟨h1,h2,h3⟩:=h;have e:=hb.block g hg;have c:∀ o,w'.cell? ⟨g,o,none⟩=w.cell? ⟨g,o,none⟩:=fun o=>World.cell?_of_block (a:=⟨g,o,none⟩) e
 refine ⟨Nat.lt_of_lt_of_le h1 hb.size,fun o=>?_,fun i hi=>?_⟩
 · unfold World.frozen? at *;rw [e];exact h2 o
 · rw [c,c,c];exact h3 i hi
theorem OwnR.set {w:World}{g n:Nat}{f f':Nat→Nat×Nat×Nat}(h:OwnR w g n f) (k:Nat) (a b c:Nat) (hk:k<n) (hs:f' k=(a,b,c)) (ho:∀ i,i≠k→i<n→f' i=f i) :
 OwnR (((w.setCell ⟨g,k*3,none⟩ (.int .i64 (a:Nat))).setCell ⟨g,k*3+1,none⟩ (.int .i64 (b:Nat))).setCell ⟨g,k*3+2,none⟩ (.int .i64 (c:Nat))) g n f':=by
 obtain ⟨h1,h2,h3⟩:=h;have q:=h3 k hk;refine ⟨by simpa [World.setCell] using h1,fun o=>?_,fun i hi=>?_⟩
 · simpa using h2 o
 · by_cases e:i=k
   · subst e
     rw [hs];refine ⟨?_,?_,?_⟩
     · rw [World.cell?_setCell_other _ _ _ _ (by simp),World.cell?_setCell_other _ _ _ _ (by simp)]
       exact World.cell?_setCell_same _ _ _ q.1
     · rw [World.cell?_setCell_other _ _ _ _ (by simp)]
       exact World.cell?_setCell_same _ _ _ (by rw [World.cell?_setCell_other _ _ _ _ (by simp)];exact q.2.1)
     · exact World.cell?_setCell_same _ _ _ (by rw [World.cell?_setCell_other _ _ _ _ (by simp),World.cell?_setCell_other _ _ _ _ (by simp)];exact q.2.2)
   · rw [ho i e hi]
     have:=h3 i hi;refine ⟨?_,?_,?_⟩ <;> (rw [World.cell?_setCell_other _ _ _ _ (by simp <;> omega),World.cell?_setCell_other _ _ _ _ (by simp <;> omega),World.cell?_setCell_other _ _ _ _ (by simp <;> omega)])
     · exact this.1
     · exact this.2.1
     · exact this.2.2
def rnR (xs:List Nat) (i:Nat):Nat×Nat×Nat:=((stR xs i).1,enR xs i-(stR xs i).1,(stR xs i).2)
def rnTo (xs:List Nat) (k i:Nat):Nat×Nat×Nat:=if i<k then rnR xs i else (0,0,0)
theorem runs15 (xs:List Nat) (ao:Option Addr) (n cap g:Nat) (w:World) (hF:Fs w.heap.size w ao xs) (hO:OwnI w g (rowL xs)) (hn:n=xs.length) (hb:n≤65536) (hW:W64 xs) :
 Calls Tryz.prog 36 #[.agg #[.slice ao n cap,.slice (some ⟨g,0,none⟩) n n]] w fun r w'=>∃ G,r=.returned (.slice (some ⟨G,0,none⟩) n n)∧OwnR w' G n (rnR xs)∧Below w.heap.size w w'∧w.heap.size≤G:=by
 have mk:=make_runs15 n n rfl hb;have hg:=hO.lt;obtain ⟨W1,hW1⟩:∃ W,W=((w.alloc (Obj.cells #[Value.slice ao n cap,Value.slice (some ⟨g,0,none⟩) n n] 48)).alloc (Obj.cells (madeCells #[Value.int IntKind.i64 0,Value.int IntKind.i64 0,Value.int IntKind.i64 0] (n*3)) 57)):=⟨_,rfl⟩
 have o1:OwnR W1 (w.heap.size+1) n (rnTo xs 0):=by
  rw [hW1];have:=OwnR.made (w.alloc (Obj.cells #[Value.slice ao n cap,Value.slice (some ⟨g,0,none⟩) n n] 48)) n;rw [World.size_alloc] at this;exact this
 have o2:Below w.heap.size w W1:=by
  rw [hW1];exact ((Below.refl w.heap.size w).alloc (Nat.le_refl _) _).alloc (by simp) _
 have r1:W1.cell? ⟨w.heap.size,0,none⟩=some (.slice ao n cap):=by
  rw [hW1,World.cell?_alloc_lt _ _ _ (by simp),World.cell?_alloc_new];rfl
 have r2:W1.cell? ⟨w.heap.size,1,none⟩=some (.slice (some ⟨g,0,none⟩) n n):=by
  rw [hW1,World.cell?_alloc_lt _ _ _ (by simp),World.cell?_alloc_new];rfl
 obtain ⟨G,hG⟩:∃ G,G=w.heap.size+1:=⟨_,rfl⟩;obtain ⟨R,hR⟩:∃ G,G=w.heap.size:=⟨_,rfl⟩;rw [←hG] at o1;rw [←hR] at r1 r2;have hRl:R<W1.heap.size:=by rw [hW1,hR];simp;omega
 have HR:Aside (∀ u:World,But G W1 u→u.cell? ⟨R,0,none⟩=some (.slice ao n cap)∧u.cell? ⟨R,1,none⟩=some (.slice (some ⟨g,0,none⟩) n n)):=fun u hu =>
  ⟨(World.cell?_of_block (a:=⟨R,0,none⟩) (hu.block R hRl (by omega))).trans r1,(World.cell?_of_block (a:=⟨R,1,none⟩) (hu.block R hRl (by omega))).trans r2⟩
 have HG:=(qsd (ai hG hR));have HB:Aside (∀ u:World,But G W1 u→Below w.heap.size w u):=fun u hu=>But.below o2 hu o2.size (by omega)
 have HN:=(qsd (ai hn (ai hO (ai hg (ai hF hW)))));have HA:Aside (OwnR W1 G n (rnTo xs 0)∧But G W1 W1):=⟨o1,But.refl _ _⟩;have HW1:=qsd hW1;clear o1 o2 hn hO hg hF hW hG hR hW1 r1 r2 hRl;go_enter Tryz.func36,Tryz.ntmps36
 go_upto_region 2 with fail
 rw [←HW1.out,←HG.out.1,←HG.out.2];clear mk;go_wp2
 go_loopg [4,5] n (fun gk i4 i5 wr=>∃ a u:Nat,gk+a=n∧i4=.int .i64 (a:Nat)∧i5=.int .i64 (u:Nat)∧u≤a∧Aside ((a<n→stR xs a=(a,u))∧OwnR wr G n (rnTo xs a)∧But G W1 wr))
 case atStart=>exact ⟨0,0,rfl,by first | rfl | simp,by first | rfl | simp,by omega,fun _=>rfl,HA.out⟩
 case round =>
  clear HA;obtain ⟨a,u,hgk,rfl,rfl,hua,HA⟩:=hrel;obtain ⟨r1,r2⟩:=HR.out _ HA.out.2.2
  by_cases hk:a<n
  · have hdk:decide ((a:Int)<(n:Int))=true:=by simp;omega
    obtain ⟨hn,hO,hg,hF,hW⟩:=HN.out;have hBw:=HB.out _ HA.out.2.2;have D:=hid (behind15 xs ao n cap g a wr ((hF.below hBw).mono hBw.size) (hO.below hBw hg) hn (by omega) hW hk)
    clear hn hO hg hF hW hBw;obtain ⟨wo,hwo⟩:∃ W,W=wr:=⟨_,rfl⟩;rw [←hwo] at D HA r1 r2 ⊢;clear hwo
    go_wp2_with fail
    refine D.out.mono ?_;rintro r v ⟨b,rfl,hB,hv⟩;have hlt:=hB.lt;have hle:b≤n:=by have:=hB.le;have:=HN.out.1;omega
    have HP:=(qsd (ai hB hk));have HO:Aside (OwnR v G n (rnTo xs a)∧But G W1 v):=⟨HA.out.2.1.below hv HA.out.2.1.1,HA.out.2.2.of_bel15 hv⟩;have HS:=qsd (HA.out.1 hk);obtain ⟨d,hd⟩:∃ d,d=b-a:=⟨_,rfl⟩;obtain ⟨u1,hu1⟩:∃ d,d=u+1:=⟨_,rfl⟩;have wd:IntKind.i64.wrap ((b:Int)-(a:Int))=(d:Int):=wrapZ (by omega) (by omega)
    have wu:IntKind.i64.wrap ((u:Int)+1)=(u1:Int):=wrapZ (by omega) (by omega)
    have HD:=(qsd (ai hd (ai hu1 hgk)));have hbn:b≤65536:=by omega
    clear D hB hv HA hd hu1 hk r1 r2 hdk hgk;go_wp2
    go_loopg [7] (b-a) (fun gq i7 wr=>∃ k:Nat,gq+k=b∧i7=.int .i64 (k:Nat)∧Aside (a≤k∧OwnR wr G n (rnTo xs k)∧But G W1 wr))
    case atStart=>exact ⟨a,by omega,by first | rfl | simp,Nat.le_refl _,HO.out⟩
    case round =>
     clear HO;obtain ⟨k,hgq,rfl,HK⟩:=hrel
     by_cases hkb:k<b
     · have hdq:decide ((k:Int)<(b:Int))=true:=by simp;omega
       have bk:(k:Int)<(n:Int):=by omega
       obtain ⟨k1,hk1⟩:∃ x,x=k+1:=⟨_,rfl⟩;have wk:IntKind.i64.wrap ((k:Int)+1)=(k1:Int):=wrapZ (by omega) (by omega)
       have c0:=(HK.out.2.1.2.2 k (by omega)).1
       have c1:=(HK.out.2.1.2.2 k (by omega)).2.1
       have c2:=(HK.out.2.1.2.2 k (by omega)).2.2
       have z0:=HK.out.2.1.2.1
       have ex:rnTo xs k1 k=(a,d,u):=by
        unfold rnTo rnR;have hP:=HP.out.1;rw [if_pos (by omega),hP.st k HK.out.1 hkb,HS.out,hP.en HK.out.1 hkb,HD.out.1]
       have eo:∀ i,i≠k→i<n→rnTo xs k1 i=rnTo xs k i:=fun i h1 h2=>by
        unfold rnTo
        by_cases c:i<k
        · rw [if_pos c,if_pos (by omega)]
        · rw [if_neg c,if_neg (by omega)]
       have HX:Aside (OwnR (((wr.setCell ⟨G,k*3,none⟩ (.int .i64 (a:Nat))).setCell ⟨G,k*3+1,none⟩ (.int .i64 (d:Nat))).setCell ⟨G,k*3+2,none⟩ (.int .i64 (u:Nat))) G n (rnTo xs k1)∧But G W1 (((wr.setCell ⟨G,k*3,none⟩ (.int .i64 (a:Nat))).setCell ⟨G,k*3+1,none⟩ (.int .i64 (d:Nat))).setCell ⟨G,k*3+2,none⟩ (.int .i64 (u:Nat)))) :=
        ⟨HK.out.2.1.set k a d u (by omega) ex eo,((HK.out.2.2.set _ _).set _ _).set _ _⟩
       have hak:=HK.out.1;obtain ⟨y0,hy0⟩:∃ y,y=(rnTo xs k k).1:=⟨_,rfl⟩;obtain ⟨y1,hy1⟩:∃ y,y=(rnTo xs k k).2.1:=⟨_,rfl⟩;obtain ⟨y2,hy2⟩:∃ y,y=(rnTo xs k k).2.2:=⟨_,rfl⟩;rw [←hy0] at c0;rw [←hy1] at c1;rw [←hy2] at c2;have HK1:=qsd hk1;clear HK hy0 hy1 hy2 ex eo hk1;go_wp2
       go_roundg (b-k1)
       case measure=>have:=HK1.out;omega
       case rel=>exact ⟨k1,by have:=HK1.out;omega,by first | rfl | simp,by have:=HK1.out;omega,HX.out⟩
     · obtain rfl:k=b:=by omega
       have hdq:decide ((k:Int)<(k:Int))=false:=by simp
       have HK2:=qsd HK.out.2;have HP2:=qsd HP.out.1;clear HK HP;go_wp2
       go_roundg (n-k)
       case measure=>have:=HD.out;omega
       case rel =>
        obtain ⟨hd,hu1,hgk⟩:=HD.out;refine ⟨k,u1,by omega,by first | rfl | simp,by first | rfl | simp,by omega,fun q=>?_,HK2.out⟩
        rw [HP2.out.next (by have:=HN.out.1;omega),HS.out,hu1]
  · obtain rfl:a=n:=by omega
    have hdk:decide ((a:Int)<(a:Int))=false:=by simp
    go_wp2;go_ret;obtain ⟨h1,h2,h3⟩:=HA.out;refine ⟨G,rfl,⟨h2.1,h2.2.1,fun i hi=>?_⟩,HB.out _ h3,by have:=HG.out.1;omega⟩
    have:=h2.2.2 i hi;unfold rnTo at this;rw [if_pos hi] at this;exact this
end
section
open Go.RowKit J
attribute [local go_sem] fld15 st_float
theorem cb15 {w w':World}{p:Addr}{v:Value}(h:w.cell? p=some v) (hb:Below w.heap.size w w'):w'.cell? p=some v:=(hb.cell (p:=p) (World.block_lt_of_cell? w p h)).trans h
def rkW (tie:Int) (b a u p:Nat):Nat :=
 if tie=0 then floatOfInt .f64 ((b+1:Nat):Int) else if tie=1 then floatOfInt .f64 ((b+a:Nat):Int) else if tie=2 then hvW ((2*b+a+1:Nat):Int) else if tie=3 then floatOfInt .f64 ((u+1:Nat):Int) else floatOfInt .f64 ((p+1:Nat):Int)
theorem rank15 (tie:Int) (b a u p:Nat) (h0:0≤tie) (h4:tie≤4) (hb:b≤65536) (ha:a≤65536) (hu:u≤65536) (hp:p≤65536) (w:World) :
 Calls Tryz.prog 39 #[.agg #[.int .i64 (b:Nat),.int .i64 (a:Nat),.int .i64 (u:Nat)],.int .i64 (p:Nat),.int .i64 tie] w fun r w'=>r=.returned (.float .f64 (rkW tie b a u p))∧Below w.heap.size w w':=by
 have w1:IntKind.i64.wrap ((b:Int)+1)=((b+1:Nat):Int):=wrapZ (by omega) (by omega)
 have w2:IntKind.i64.wrap ((b:Int)+(a:Int))=((b+a:Nat):Int):=wrapZ (by omega) (by omega)
 have w3:IntKind.i64.wrap (2*(b:Int))=((2*b:Nat):Int):=wrapZ (by omega) (by omega)
 have w4:IntKind.i64.wrap (((2*b:Nat):Int)+(a:Int))=((2*b+a:Nat):Int):=wrapZ (by omega) (by omega)
 have w5:IntKind.i64.wrap (((2*b+a:Nat):Int)+1)=((2*b+a+1:Nat):Int):=wrapZ (by omega) (by omega)
 have w6:IntKind.i64.wrap ((u:Int)+1)=((u+1:Nat):Int):=wrapZ (by omega) (by omega)
 have w7:IntKind.i64.wrap ((p:Int)+1)=((p+1:Nat):Int):=wrapZ (by omega) (by omega)
 have d:=fun W:World=>run_float_arith (P:=Tryz.prog) W .quo 40 .f64 (floatOfInt .f64 ((2*b+a+1:Nat):Int)) 4611686018427387904 (hvW ((2*b+a+1:Nat):Int)) (hv_run _ (by omega) (by omega)).1
 obtain ⟨x1,e1⟩:∃ x:Nat,x=b+1:=⟨_,rfl⟩;obtain ⟨x2,e2⟩:∃ x:Nat,x=b+a:=⟨_,rfl⟩;obtain ⟨x3,e3⟩:∃ x:Nat,x=2*b:=⟨_,rfl⟩;obtain ⟨x4,e4⟩:∃ x:Nat,x=2*b+a:=⟨_,rfl⟩;obtain ⟨x5,e5⟩:∃ x:Nat,x=2*b+a+1:=⟨_,rfl⟩;obtain ⟨x6,e6⟩:∃ x:Nat,x=u+1:=⟨_,rfl⟩;obtain ⟨x7,e7⟩:∃ x:Nat,x=p+1:=⟨_,rfl⟩;obtain ⟨y5,f5⟩:∃ y:Nat,y=hvW (x5:Int):=⟨_,rfl⟩;have E:Aside (rkW tie b a u p=if tie=0 then floatOfInt .f64 (x1:Int) else if tie=1 then floatOfInt .f64 (x2:Int) else if tie=2 then y5 else if tie=3 then floatOfInt .f64 (x6:Int) else floatOfInt .f64 (x7:Int)):=by unfold rkW;rw [e1,e2,e6,e7,f5,e5];exact qsd rfl
 rw [←e1] at w1;rw [←e2] at w2;rw [←e5] at w5 d;rw [←e4] at w4 w5;rw [←e3] at w3 w4;rw [←f5] at d;rw [←e6] at w6;rw [←e7] at w7;obtain ⟨z,hz⟩:∃ z,z=rkW tie b a u p:=⟨_,rfl⟩;rw [←hz] at E ⊢;clear e1 e2 e3 e4 e5 e6 e7 f5 hz hb ha hu hp;obtain rfl|rfl|rfl|rfl|rfl:tie=0∨tie=1∨tie=2∨tie=3∨tie=4:=by omega
 · have ez:=E.out
   rw [if_pos rfl] at ez;rw [ez];clear h0 h4 E ez;go_enter Tryz.func39,Tryz.ntmps39;go_wp2;go_ret;exact ⟨rfl,(Below.refl w.heap.size w).alloc (Nat.le_refl _) _⟩
 · have ez:=E.out
   rw [if_neg (by decide),if_pos rfl] at ez
   rw [ez];clear h0 h4 E ez;go_enter Tryz.func39,Tryz.ntmps39;go_wp2;go_ret;exact ⟨rfl,(Below.refl w.heap.size w).alloc (Nat.le_refl _) _⟩
 · have ez:=E.out
   rw [if_neg (by decide),if_neg (by decide),if_pos rfl] at ez
   rw [ez];clear h0 h4 E ez;go_enter Tryz.func39,Tryz.ntmps39;go_wp2;go_ret;exact ⟨rfl,(Below.refl w.heap.size w).alloc (Nat.le_refl _) _⟩
 · have ez:=E.out
   rw [if_neg (by decide),if_neg (by decide),if_neg (by decide),if_pos rfl] at ez
   rw [ez];clear h0 h4 E ez;go_enter Tryz.func39,Tryz.ntmps39;go_wp2;go_ret;exact ⟨rfl,(Below.refl w.heap.size w).alloc (Nat.le_refl _) _⟩
 · have ez:=E.out
   rw [if_neg (by decide),if_neg (by decide),if_neg (by decide),if_neg (by decide)] at ez
   rw [ez];clear h0 h4 E ez;go_enter Tryz.func39,Tryz.ntmps39;go_wp2;go_ret;exact ⟨rfl,(Below.refl w.heap.size w).alloc (Nat.le_refl _) _⟩
theorem rankAt15 (tie:Int) (n k G p7 p3:Nat) (f:Nat→Nat×Nat×Nat) (h0:0≤tie) (h4:tie≤4) (hf:(f k).1≤65536∧(f k).2.1≤65536∧(f k).2.2≤65536) (hk:k<n) (hn:n≤65536) (w:World) (hO:OwnR w G n f)
 (c7:w.cell? ⟨p7,0,none⟩=some (.slice (some ⟨G,0,none⟩) n n)) (c3:w.cell? ⟨p3,0,none⟩=some (.int .i64 tie)) :
 Calls Tryz.prog 38 #[.int .i64 (k:Nat),.pointer (some ⟨p7,0,none⟩),.pointer (some ⟨p3,0,none⟩)] w fun r w'=>r=.returned (.float .f64 (rkW tie (f k).1 (f k).2.1 (f k).2.2 k))∧Below w.heap.size w w':=by
 obtain ⟨q0,q1,q2⟩:=hO.2.2 k hk;obtain ⟨b,hb⟩:∃ b,b=(f k).1:=⟨_,rfl⟩;obtain ⟨a,ha⟩:∃ b,b=(f k).2.1:=⟨_,rfl⟩;obtain ⟨u,hu⟩:∃ b,b=(f k).2.2:=⟨_,rfl⟩;rw [←hb,←ha,←hu] at hf;rw [←hb] at q0 ⊢;rw [←ha] at q1 ⊢;rw [←hu] at q2 ⊢;have C:=hid (fun W:World=>rank15 tie b a u k h0 h4 hf.1 hf.2.1 hf.2.2 (by omega) W)
 obtain ⟨z,hz⟩:∃ z,z=rkW tie b a u k:=⟨_,rfl⟩;rw [←hz] at C ⊢;have bk:(k:Int)<(n:Int):=by omega
 have kS:Aside (w.drew.cell? ⟨p7,0,none⟩=some (.slice (some ⟨G,0,none⟩) n n)∧w.drew.cell? ⟨p3,0,none⟩=some (.int .i64 tie)∧w.drew.cell? ⟨G,k*3,none⟩=some (.int .i64 (b:Nat))∧w.drew.cell? ⟨G,k*3+1,none⟩=some (.int .i64 (a:Nat))∧w.drew.cell? ⟨G,k*3+2,none⟩=some (.int .i64 (u:Nat))):=⟨c7,c3,q0,q1,q2⟩;clear hb ha hu hf hz c7 c3 q0 q1 q2 hO h0 h4 hk;go_enter Tryz.func38,Tryz.ntmps38
 go_upto_region 1 with fail
 go_region_held3 (fun w'=>w'.cell? ⟨p7,0,none⟩=some (.slice (some ⟨G,0,none⟩) n n)∧w'.cell? ⟨p3,0,none⟩=some (.int .i64 tie)∧w'.cell? ⟨G,k*3,none⟩=some (.int .i64 (b:Nat))∧w'.cell? ⟨G,k*3+1,none⟩=some (.int .i64 (a:Nat))∧w'.cell? ⟨G,k*3+2,none⟩=some (.int .i64 (u:Nat))) (with_reducible exact kS.out) (first
  | (go_at_call 39
     with_reducible refine (C.out _).mono ?_
     rintro r v ⟨rfl,hb⟩;have HB:=qsd ((Below.refl w.heap.size w).drew.trans (hb.mono (Nat.le_refl _)))
     have kS:Aside (v.cell? ⟨p7,0,none⟩=some (.slice (some ⟨G,0,none⟩) n n)∧v.cell? ⟨p3,0,none⟩=some (.int .i64 tie)∧v.cell? ⟨G,k*3,none⟩=some (.int .i64 (b:Nat))∧v.cell? ⟨G,k*3+1,none⟩=some (.int .i64 (a:Nat))∧v.cell? ⟨G,k*3+2,none⟩=some (.int .i64 (u:Nat))):=by
      obtain ⟨s1,s2,s3,s4,s5⟩:=kS.out;exact ⟨cb15 s1 hb,cb15 s2 hb,cb15 s3 hb,cb15 s4 hb,cb15 s5 hb⟩
     clear hb))
 all_goals
  go_wp2;go_ret;exact ⟨rfl,HB.out⟩
theorem eachF15 (xs:List Nat) (f:Nat→Nat) (ao:Option Addr) (n cap g p7 p3:Nat) (w:World) (hO:OwnI w g (rowL xs)) (hn:n=xs.length) (hb:n≤17592186044416)
 (HM:Hid (∀ (k:Nat) (u:World),k<n→Below w.heap.size w u→Calls Tryz.prog 38 #[.int .i64 (k:Nat),.pointer (some ⟨p7,0,none⟩),.pointer (some ⟨p3,0,none⟩)] u fun r u'=>r=.returned (.float .f64 (f k))∧Below u.heap.size u u')) :
 Calls Tryz.prog 37 #[.agg #[.slice ao n cap,.slice (some ⟨g,0,none⟩) n n],.func (.func 38) #[] #[.pointer (some ⟨p7,0,none⟩),.pointer (some ⟨p3,0,none⟩)]] w fun r w'=>r=.returned (.slice (some ⟨w.heap.size+1,0,none⟩) n n)∧OwnF w' (w.heap.size+1) (eachL xs f)∧Below w.heap.size w w':=by
 have mk:=make_floats n n rfl hb;have hg:=hO.lt;obtain ⟨W1,hW1⟩:∃ W,W=((w.alloc (Obj.cells #[Value.slice ao n cap,Value.slice (some ⟨g,0,none⟩) n n] 48)).alloc (Obj.cells (madeCells #[Value.float FloatKind.f64 0] n) 40)):=⟨_,rfl⟩
 have o1:OwnF W1 (w.heap.size+1) (eachTo xs f 0 0):=by
  rw [hW1,eachTo_zero,←hn];have:=(OwnF.made (w.alloc (Obj.cells #[Value.slice ao n cap,Value.slice (some ⟨g,0,none⟩) n n] 48)) n);rw [World.size_alloc] at this;exact this
 have o2:Below w.heap.size w W1:=by
  rw [hW1];exact ((Below.refl w.heap.size w).alloc (Nat.le_refl _) _).alloc (by simp) _
 have r2:W1.cell? ⟨w.heap.size,1,none⟩=some (.slice (some ⟨g,0,none⟩) n n):=by
  rw [hW1,World.cell?_alloc_lt _ _ _ (by simp),World.cell?_alloc_new];rfl
 obtain ⟨G,hG⟩:∃ G,G=w.heap.size+1:=⟨_,rfl⟩;rw [←hG] at o1 ⊢;have HG:=qsd hG;have hGl:G<W1.heap.size:=o1.lt;have HN:=(qsd (ai hn (ai hO (ai hg hGl))));have HA:Aside (OwnF W1 G (eachTo xs f 0 0)∧Below w.heap.size w W1∧G<W1.heap.size):=⟨o1,o2,hGl⟩;have HW1:=qsd hW1;clear o1 o2 hn hO hg hGl hG hW1;go_enter Tryz.func37,Tryz.ntmps37
 go_upto_region 2 with fail
 rw [←HW1.out,←HG.out];clear mk;go_wp2
 go_loopg [15] n (fun gk iv wr=>∃ k:Nat,gk+k=n∧iv=.int .i64 (k:Nat)∧Aside (OwnF wr G (eachTo xs f 0 k)∧Below w.heap.size w wr∧G<wr.heap.size))
 case atStart=>exact ⟨0,rfl,by first | rfl | simp,HA.out⟩
 case round =>
  clear HA r2;obtain ⟨k,hgk,rfl,HA⟩:=hrel
  by_cases hk:k<n
  · have hdk:decide ((k:Int)<(n:Int))=true:=by simp;omega
    have bk:(k:Int)<(n:Int):=by omega
    obtain ⟨k1,hk1⟩:∃ x,x=k+1:=⟨_,rfl⟩;have wk:IntKind.i64.wrap ((k:Int)+1)=(k1:Int):=wrapZ (by omega) (by omega)
    obtain ⟨a1,a3,a4⟩:=HA.out;obtain ⟨hn,hO,hg,hGl⟩:=HN.out;have hkx:k<xs.length:=by omega
    obtain ⟨i,hi⟩:∃ i,i=(rowL xs).getD k 0:=⟨_,rfl⟩;have c1:=(hO.below a3 hg).cell k (row_len hkx);have hin:i<n:=by rw [hi,hn];exact rowL_lt hkx
    rw [←hi] at c1;have bi:(i:Int)<(n:Int):=by omega
    obtain ⟨y,hy⟩:∃ y,y=(eachTo xs f 0 k).getD i 0:=⟨_,rfl⟩;obtain ⟨z,hz⟩:∃ y,y=f k:=⟨_,rfl⟩
    have HX:Aside (∀ v,Below wr.heap.size wr v→v.cell? ⟨G,i,none⟩=some (.float .f64 y)∧v.frozen? ⟨G,i,none⟩=false∧OwnF (v.setCell ⟨G,i,none⟩ (.float .f64 z)) G (eachTo xs f 0 k1)∧Below w.heap.size w (v.setCell ⟨G,i,none⟩ (.float .f64 z))∧G<(v.setCell ⟨G,i,none⟩ (.float .f64 z)).heap.size):=fun v hv=>by
     have a1':=a1.below hv a4;refine ⟨?_,a1'.frozen i,?_,(a3.trans (hv.mono a3.size)).setCell (show w.heap.size≤G by have:=HG.out;omega) _,?_⟩
     · rw [a1'.cell i (by rw [eachTo_len,←hn];exact hin),hy]
     · have:=a1'.set i z
       rw [hi,hz,eachTo_succ xs f 0 hkx,←hk1] at this;rw [hi,hz];exact this
     · have:=a1'.lt
       simpa [World.setCell] using this
    have D:=hid (HM.out k wr hk a3);rw [←hz] at D;have HK:=qsd hk1;clear HA a1 a3 a4 hn hO hg hGl hi hkx hy hz hk1
    go_wp2_with fail
    refine D.out.mono ?_;rintro r v ⟨rfl,hv⟩;obtain ⟨x1,x2,x3⟩:=HX.out v hv;have HY:=qsd x3;clear D HX x3 hv;go_wp2
    go_roundg (n-k1)
    case measure=>have:=HK.out;omega
    case rel=>exact ⟨k1,by have:=HK.out;omega,by first | rfl | simp,HY.out⟩
  · have hdk:decide ((k:Int)<(n:Int))=false:=by simp;omega
    go_wp2;go_ret;obtain ⟨a1,a3,a4⟩:=HA.out;obtain ⟨hn,hO,hg,hGl⟩:=HN.out;rw [show k=xs.length by omega,eachTo_all] at a1
    exact ⟨rfl,a1,a3⟩
end
section
open Go.RowKit J
attribute [local go_sem] fld15 st_float
theorem stR_le (xs:List Nat):∀ p,(stR xs p).1≤p∧(stR xs p).2≤p
 | 0=>⟨Nat.le_refl _,Nat.le_refl _⟩
 | p+1=>by
   have:=stR_le xs p;unfold stR
   split
   · omega
   · simp only;omega
theorem enF_le (xs:List Nat):∀ f p,p<xs.length→p<enF xs f p∧enF xs f p≤xs.length
 | 0,p,h=>by unfold enF;omega
 | f+1,p,h=>by
   unfold enF
   split
   · rename_i q
     have:=enF_le xs f (p+1) q.1;omega
   · omega
theorem rnR_le {xs:List Nat}{k:Nat}(hk:k<xs.length):(rnR xs k).1≤xs.length∧(rnR xs k).2.1≤xs.length∧(rnR xs k).2.2≤xs.length∧(rnR xs k).1+(rnR xs k).2.1=enR xs k:=by
 have h1:=stR_le xs k;have h2:=enF_le xs xs.length k hk;unfold rnR enR;simp only;omega
def rkL (xs:List Nat) (tie:Int):List Nat:=eachL xs fun p=>rkW tie (rnR xs p).1 (rnR xs p).2.1 (rnR xs p).2.2 p
theorem Ranks15 (xs:List Nat) (ao:Option Addr) (n cap:Nat) (tie:Int) (w:World) (hF:Fs w.heap.size w ao xs) (hn:n=xs.length) (hb:n≤65536) (hW:W64 xs) (h0:0≤tie) (h4:tie≤4) :
 Calls Tryz.prog 20 #[.slice ao n cap,.int .i64 tie] w fun r w'=>∃ g,r=.returned (.tuple #[.slice (some ⟨g,0,none⟩) n n,.int .i64 0])∧OwnF w' g (rkL xs tie)∧Below w.heap.size w w'∧w.heap.size≤g:=by
 have d1:decide (tie<0)=false:=by simp;omega
 have d2:decide (4<tie)=false:=by simp;omega
 have d3:decide ((65536:Int)<(n:Int))=false:=by simp;omega
 obtain ⟨W0,hW0⟩:∃ W,W=w.alloc (Obj.cells #[Value.int .i64 tie] 3):=⟨_,rfl⟩;have b0:Below w.heap.size w W0:=by rw [hW0];exact below_alloc _ _
 have l0:w.heap.size<W0.heap.size:=by rw [hW0];simp
 have c0:W0.cell? ⟨w.heap.size,0,none⟩=some (.int .i64 tie):=by rw [hW0,World.cell?_alloc_new];rfl
 have C:=hid (rowOf15 xs ao n cap W0 ((hF.below b0).mono b0.size) hn (by omega) hW)
 have HN:=(qsd (ai hn (ai hW (ai hF (ai hb (ai h0 h4))))));have HB:=(qsd (ai b0 (ai l0 c0)));have HW0:=qsd hW0;clear hF hn hW b0 l0 c0 hW0 hb h0 h4;go_enter Tryz.func20,Tryz.ntmps20
 go_upto_region 5 with fail
 rw [←HW0.out];clear HW0 d1 d2 d3;obtain ⟨P3,hP3⟩:∃ P,P=w.heap.size:=⟨_,rfl⟩;rw [←hP3] at HB ⊢;have HP3:=qsd hP3;clear hP3
 go_wp2_with fail
 refine C.out.mono ?_;rintro r v ⟨g,rfl,e1,e2,e3⟩;obtain ⟨V1,hV1⟩:∃ V,V=v.alloc (Obj.cells #[.slice ao n cap,.slice (some ⟨g,0,none⟩) n n] 48):=⟨_,rfl⟩;have b1:Below v.heap.size v V1:=by rw [hV1];exact below_alloc _ _
 have k1:V1.cell? ⟨v.heap.size,0,none⟩=some (.slice ao n cap):=by rw [hV1,World.cell?_alloc_new];rfl
 have k2:V1.cell? ⟨v.heap.size,1,none⟩=some (.slice (some ⟨g,0,none⟩) n n):=by rw [hV1,World.cell?_alloc_new];rfl
 obtain ⟨P6,hP6⟩:∃ P,P=v.heap.size:=⟨_,rfl⟩
 have HX1:Aside (OwnI V1 g (rowL xs)∧Below P3 w V1∧V1.cell? ⟨P3,0,none⟩=some (.int .i64 tie)∧P3<V1.heap.size):=by
  obtain ⟨b0,l0,c0⟩:=HB.out;have hs:=e2.size;exact ⟨e1.below b1 e1.lt,(b0.trans (e2.mono (by have:=b0.size;have:=HP3.out;omega))).trans (b1.mono (by omega)),cb15 (cb15 c0 e2) b1,by have:=b1.size;omega⟩
 rw [←hP6] at k1 k2;have HV:=(qsd (ai hV1 hP6));clear C HB e1 e2 e3 b1 hV1 hP6
 go_upto_region 6 with fail
 rw [←HV.out.1,←HV.out.2];clear HV;obtain ⟨hn,hW,hF,hb,h0,h4⟩:=HN.out;have hF1:Fs V1.heap.size V1 ao xs:=by have:=HX1.out.2.1;rw [HP3.out] at this;exact (hF.below this).mono this.size
 have C:=hid (runs15 xs ao n cap g V1 hF1 HX1.out.1 hn hb hW);clear hn hW hF hb h0 h4 hF1;have HK:=(qsd (ai k1 k2))
 go_wp2_with fail
 refine C.out.mono ?_;rintro r u ⟨G,rfl,e1,e2,e3⟩;obtain ⟨V2,hV2⟩:∃ V,V=u.alloc (Obj.cells #[.slice (some ⟨G,0,none⟩) n n] 53):=⟨_,rfl⟩;have b2:Below u.heap.size u V2:=by rw [hV2];exact below_alloc _ _
 have k3:V2.cell? ⟨u.heap.size,0,none⟩=some (.slice (some ⟨G,0,none⟩) n n):=by rw [hV2,World.cell?_alloc_new];rfl
 obtain ⟨P7,hP7⟩:∃ P,P=u.heap.size:=⟨_,rfl⟩;rw [←hP7] at k3
 have HX2:Aside (OwnI V2 g (rowL xs)∧Below P3 w V2∧V2.cell? ⟨P3,0,none⟩=some (.int .i64 tie)∧OwnR V2 G n (rnR xs)):=by
  obtain ⟨x1,x2,x3,x4⟩:=HX1.out;have hs:=e2.size;exact ⟨(x1.below e2 x1.lt).below b2 (by have:=x1.lt;omega),(x2.trans (e2.mono (by omega))).trans (b2.mono (by omega)),cb15 (cb15 x3 e2) b2,e1.below b2 e1.1⟩
 have j1:=cb15 (cb15 HK.out.1 e2) b2;have j2:=cb15 (cb15 HK.out.2 e2) b2;have HV:=(qsd (ai hV2 hP7));clear C HX1 HK k1 k2 e1 e2 e3 b2 hV2 hP7
 go_upto_region 7 with fail
 rw [←HV.out.1,←HV.out.2];clear HV;obtain ⟨hn,hW,hF,hb,h0,h4⟩:=HN.out;have HM:=hid (fun (k:Nat) (z:World) (hk:k<n) (hz:Below V2.heap.size V2 z)=>rankAt15 tie n k G P7 P3 (rnR xs) h0 h4 (by have:=rnR_le (xs:=xs) (k:=k) (by omega);omega) hk hb z (HX2.out.2.2.2.below hz HX2.out.2.2.2.1) (cb15 k3 hz) (cb15 HX2.out.2.2.1 hz))
 have C:=hid (eachF15 xs (fun p=>rkW tie (rnR xs p).1 (rnR xs p).2.1 (rnR xs p).2.2 p) ao n cap g P7 P3 V2 HX2.out.1 hn (by omega) HM)
 clear hn hW hF hb h0 h4 HM
 go_wp2_with fail
 refine C.out.mono ?_;rintro r z ⟨rfl,e1,e2⟩
 have HE:Aside (OwnF z (V2.heap.size+1) (rkL xs tie)∧Below P3 w z∧P3≤V2.heap.size+1):=by
  have q:=HX2.out.2.1;have hs:=q.size;rw [←HP3.out] at hs;exact ⟨e1,q.trans (e2.mono (by omega)),by omega⟩
 clear C HX2 e1 e2 k3 j1 j2;go_wp2
 go_ret2
 exact ⟨_,rfl,HE.out.1,by have:=HE.out.2.1;rw [HP3.out] at this;exact this,by have:=HE.out.2.2;have:=HP3.out;omega⟩
theorem Pick15 (xs:List Nat) (ao:Option Addr) (n cap p:Nat) (w:World) (hF:Fs w.heap.size w ao xs) (hn:n=xs.length) (hb:n≤65536) (hW:W64 xs) (hp:p<n) :
 Calls Tryz.prog 22 #[.slice ao n cap,.int .i64 (p:Nat)] w fun r w'=>r=.returned (.tuple #[.float .f64 ((sortL xs).getD p 0),.int .i64 0])∧Below w.heap.size w w':=by
 have d1:decide ((p:Int)<0)=false:=by simp
 have d2:decide ((65536:Int)<(n:Int))=false:=by simp;omega
 have d3:((n:Int)==0)=false:=by simp;omega
 have d4:decide ((n:Int)≤(p:Int))=false:=by simp;omega
 have bp:(p:Int)<(n:Int):=by omega
 have C:=hid (Sort15 xs ao n cap w hF hn (by omega) hW)
 have HP:Aside (p<(sortL xs).length):=by rw [sortL_len,←hn];exact qsd hp
 obtain ⟨z,hz⟩:∃ z,z=(sortL xs).getD p 0:=⟨_,rfl⟩;rw [←hz];have HZ:=qsd hz;clear hF hn hb hW hp hz;go_enter Tryz.func22,Tryz.ntmps22
 go_wp2_with fail
 refine C.out.mono ?_;rintro r v ⟨rfl,e1,e2⟩;have c1:=e1.cell p HP.out;rw [←HZ.out] at c1;have HB:=qsd e2;clear C e1 e2;go_wp2
 go_ret2
 exact ⟨rfl,HB.out⟩
end
section
open Go.RowKit
theorem Nt.off {lo:Nat}{w w':World}{v:Value}{X g:Nat}(h:Nt lo w v X) (hb:But g w w') (hg:v.ownBlock≠Option.some g):Nt lo w' v X:=by
 refine ⟨h.1,?_⟩
 rcases h.2 with hn|⟨g',cap,cur,rfl,hlo,hg',rest⟩
 · exact .inl hn
 · refine .inr ⟨g',cap,cur,rfl,hlo,?_,rest⟩
   rw [hb.block g' (Array.getElem?_eq_some_iff.1 hg').1 (by intro e;subst e;exact hg (by simp [Value.ownBlock]))];exact hg'
end
section
open Go.RowKit
theorem bl_lt_pow {X k:Nat}(h:X<2^k):bl X≤k:=by
 by_cases h0:X=0
 · subst h0;rw [bl_zero];omega
 · have:=(Nat.pow_lt_pow_iff_right (a:=2) (by decide)).1 (Nat.lt_of_le_of_lt (bl_ge X h0) h)
   have:=bl_pos X h0;omega
end
section
open Go.RowKit
def Iv (o:Option (Bool×Nat×Int)) (lo hi:Int):Prop:=∃ n X e,o=some (n,X,e)∧Frm n X e∧(X=0∨(lo≤e∧e+(bl X:Int)≤hi))
theorem Iv.mono {o:Option (Bool×Nat×Int)}{a b c d:Int}(h:Iv o a b) (h1:c≤a) (h2:b≤d):Iv o c d:=by
 obtain ⟨n,X,e,h,F,hb⟩:=h;exact ⟨n,X,e,h,F,by omega⟩
theorem mkS_iv (n:Bool) (X:Nat) (e a b:Int) (h:X=0∨(a≤e∧e+(bl X:Int)≤b)) (hw:b-a≤262144) (ha:-1048576≤a) (hb:b≤1048576):Iv (mkS n X e) a b:=by
 by_cases h0:X=0
 · subst h0
   rw [mkS_zero];exact ⟨false,0,0,rfl,⟨.inr ⟨rfl,rfl,rfl⟩,by rw [bl_zero];omega,by omega,by omega⟩,.inl rfl⟩
 · obtain ⟨h1,h2⟩:=h.resolve_left h0
   obtain ⟨k,o1,o2,o3⟩:=odd_part X h0;have hp:=bl_pos (X/2^lo X) (by omega)
   have e1:mkS n X e=some (n,X/2^lo X,e+lo X):=by
    unfold mkS;rw [if_neg h0,if_neg (by omega)]
   exact ⟨n,_,_,e1,mkS_frm e1,.inr (by omega)⟩
theorem bl_mul_le (X Y:Nat):bl (X*Y)≤bl X+bl Y:=bl_lt_pow (by rw [Nat.pow_add];exact Nat.mul_lt_mul'' (bl_lt X) (bl_lt Y))
theorem Iv.mul {o p:Option (Bool×Nat×Int)}{a b c d:Int}(h1:Iv o a b) (h2:Iv p c d) (hw:(b+d)-(a+c)≤262144) (hl:-1048576≤a+c) (hh:b+d≤1048576):Iv (mulD o p) (a+c) (b+d):=by
 obtain ⟨n,X,e,rfl,F,hx⟩:=h1;obtain ⟨m,Y,f,rfl,G,hy⟩:=h2
 show Iv (mkS (n != m) (X*Y) (e+f)) _ _
 refine mkS_iv _ _ _ _ _ ?_ hw hl hh
 rcases hx with rfl|hx
 · left;rw [Nat.zero_mul]
 · rcases hy with rfl | hy
   · left;rw [Nat.mul_zero]
   · right
     have:=bl_mul_le X Y;omega
theorem pow_bound {X k:Nat}{j:Nat}(h:bl X+k≤j):X*2^k<2^j:=by
 have h1:=bl_lt X;have h2:X*2^k<2^bl X*2^k:=Nat.mul_lt_mul_of_pos_right h1 (Nat.two_pow_pos k);rw [←Nat.pow_add] at h2;exact Nat.lt_of_lt_of_le h2 (Nat.pow_le_pow_right (by decide) h)
theorem addUp_iv (n m:Bool) (X Y:Nat) (e f a b:Int) (hfe:f≤e) (ha:a≤f) (h1:e+(bl X:Int)≤b) (h2:f+(bl Y:Int)≤b) (hw:b+1-a≤262144) (hl:-1048576≤a) (hh:b+1≤1048576) (hX:X≠0):Iv (addUp n X e m Y f) a (b+1):=by
 have hp:=bl_pos X hX;unfold addUp;rw [if_neg (by omega)]
 obtain ⟨j,hj⟩:∃ j:Nat,(j:Int)=b-f:=⟨(b-f).toNat,by omega⟩
 have b1:X*2^(e-f).toNat<2^j:=pow_bound (by omega)
 have b2:Y<2^j:=Nat.lt_of_lt_of_le (bl_lt Y) (Nat.pow_le_pow_right (by decide) (by omega))
 have fin:∀ (s:Bool) (Z:Nat),Z<2^(j+1)→Iv (mkS s Z f) a (b+1):=by
  intro s Z hZ;refine mkS_iv s Z f a (b+1) ?_ hw hl hh
  by_cases h0:Z=0
  · exact .inl h0
  · right
    have:=bl_lt_pow hZ;omega
 have b3:(2:Nat)^(j+1)=2*2^j:=by rw [Nat.pow_succ,Nat.mul_comm]
 split
 · exact fin _ _ (by omega)
 · split
   · exact fin _ _ (by omega)
   · exact fin _ _ (by omega)
theorem Iv.add {o p:Option (Bool×Nat×Int)}{a b:Int}(h1:Iv o a b) (h2:Iv p a b) (hw:b+1-a≤262144) (hl:-1048576≤a) (hh:b+1≤1048576):Iv (addD o p) a (b+1):=by
 have h1':=h1;have h2':=h2;obtain ⟨n,X,e,rfl,F,hx⟩:=h1;obtain ⟨m,Y,f,rfl,G,hy⟩:=h2
 show Iv (addF (n,X,e) (m,Y,f)) a (b+1)
 unfold addF;simp only
 by_cases hX:X=0
 · rw [if_pos hX];exact h2'.mono (by omega) (by omega)
 · rw [if_neg hX]
   by_cases hY:Y=0
   · rw [if_pos hY];exact h1'.mono (by omega) (by omega)
   · rw [if_neg hY]
     have ex:=hx.resolve_left hX;have ey:=hy.resolve_left hY
     split
     · exact addUp_iv m n Y X f e a b (by omega) ex.1 ey.2 ex.2 hw hl hh hY
     · exact addUp_iv n m X Y e f a b (by omega) ey.1 ex.2 ey.2 hw hl hh hX
def valO (o:Option (Bool×Nat×Int)):Int:=zv (-1048576) (dN o,dX o,dE o)
theorem fvO {o:Option (Bool×Nat×Int)}{n:Bool}{X:Nat}{e:Int}(h:mkS n X e=o) (hs:o.isSome=true):Fv (-1048576) o (valO o):=by
 cases o with
 | none=>cases hs
 | some d=>obtain ⟨n1,X1,e1⟩:=d;exact ⟨n1,X1,e1,rfl,mkS_frm h,rfl⟩
theorem Fv.reform {o:Option (Bool×Nat×Int)}{B z:Int}(h:Fv B o z):mkS (dN o) (dX o) (dE o)=o:=by
 obtain ⟨n,X,e,rfl,F,rfl⟩:=h.ex;exact F.self
end
section
open Go.RowKit
theorem Fv.len {o:Option (Bool×Nat×Int)}{B z:Int}(h:Fv B o z):(ws (dX o)).length≤8192:=by
 obtain ⟨n,X,e,rfl,F,_⟩:=h.ex;exact frm_len F
end
section
open Go.RowKit
def Fm (o:Option (Bool×Nat×Int)):Prop:=∃ B x,Fv B o x
theorem Fm.len {o:Option (Bool×Nat×Int)}(h:Fm o):(ws (dX o)).length≤8192:=by obtain ⟨B,x,h⟩:=h;exact h.len
theorem Fm.re {o:Option (Bool×Nat×Int)}(h:Fm o):mkS (dN o) (dX o) (dE o)=o:=by obtain ⟨B,x,h⟩:=h;exact h.reform
theorem Fm.rng {o:Option (Bool×Nat×Int)}(h:Fm o):-9223372036854775808≤dE o∧dE o≤9223372036854775807:=by
 obtain ⟨B,x,h⟩:=h;obtain ⟨n,X,e,rfl,F,_⟩:=h.ex;have:=F.up;have:=F.down
 show -9223372036854775808≤e∧e≤9223372036854775807
 omega
end
section
open Go.RowKit
def fo8 (V:Int):Option (Bool×Nat×Int):=mkS (decide (V<0)) V.natAbs (-1074)
theorem sg1_abs (V:Int):sg1 (decide (V<0))*(V.natAbs:Int)=V:=by
 unfold sg1
 by_cases h:V<0
 · rw [decide_eq_true h,if_pos rfl];omega
 · rw [decide_eq_false h,if_neg (by decide)];omega
theorem fo8_fo (V:Int) (m:Nat) (hm:m≤200000) (hV:V.natAbs<2^m):Fo (fo8 V) (V*(UU:Int)) (-1074) ((m:Int)-1074):=by
 by_cases h0:V=0
 · subst h0
   refine ⟨⟨false,0,0,?_,?_,?_,.inl rfl⟩⟩
   · unfold fo8;exact mkS_zero _ _
   · exact mkS_frm (mkS_zero false 0)
   · rw [zv_zero _ rfl];simp
 · obtain ⟨X,e,h1,h2,h3,h4⟩:=mkS_sz (decide (V<0)) V.natAbs (-1074) (-1074) ((m:Int)-1074) (by omega) (by omega) (by have:=blLe hV;omega) (by omega) (by omega) (by omega)
   refine ⟨⟨_,X,e,h1,mkS_frm h1,?_,.inr ⟨h3,h4⟩⟩⟩;rw [zv_mkS h1 (-2097152) (.inr (by omega))]
   have e1:(2:Nat)^((-1074:Int) - -2097152).toNat=UU*SS:=US _ (by decide)
   rw [e1,Int.natCast_mul,Int.natCast_mul,←Int.mul_assoc,sg1_abs,Int.mul_assoc]
theorem fo8_one {o:Option (Bool×Nat×Int)}{V L H:Int}(h:Fo o (V*(UU:Int)) L H) (m:Nat) (hm:m≤200000) (hV:V.natAbs<2^m):o=fo8 V:=by
 obtain ⟨n,X,e,rfl,F1,z1,_⟩:=h.ex;obtain ⟨n',X',e',h2,F2,z2,_⟩:=(fo8_fo V m hm hV).ex;rw [h2];obtain ⟨rfl,rfl,rfl⟩:=zv_inj F1 F2 (-2097152) (by omega) (by rw [z1,z2])
 rfl
theorem top_fv {x:Nat}(hx:Wd x) (fx:finW x) (m:Nat) (hm:m=2098):(fvW x).natAbs<2^m:=by
 unfold fvW;rw [sg_abs];have:=top_v (magW x) fx 2045 rfl;obtain ⟨a,ha⟩:∃ a,a=2045:=⟨_,rfl⟩;have h2:=top_v (magW x) fx a ha;rw [show m=53+a by omega,Nat.pow_add]
 exact h2
theorem of_fo8 {x:Nat}(hx:Wd x) (fx:finW x):ofK (negW x) (magW x)=fo8 (fvW x):=by
 obtain ⟨n,X,e,h1,h2,_⟩:=of_fo (negW x) (magW x) fx;rw [h1];exact fo8_one h2 2098 (by omega) (top_fv hx fx 2098 rfl)
end
section
open Go.RowKit
theorem of_any8 (x:Nat) (hx:Wd x∧finW x) (w:World) (hT:Tab w) :
 Calls Tryz.prog 74 #[.float .f64 x] w fun r w'=>(∃ v,r=.returned (.tuple #[.agg #[.bool (dN (fo8 (fvW x))),v,.int .i64 (dE (fo8 (fvW x)))],.int .i64 0])∧Nt w.heap.size w' v (dX (fo8 (fvW x))))∧Below w.heap.size w w':=by
 obtain ⟨h1,h2,h3,_⟩:=wd64_bw (negW x) (magW x) (Nat.le_of_lt hx.2);have:=Of_any (negW x) (magW x/4503599627370496) (magW x%4503599627370496) h2 h3 w hT;rw [←h1,←wd_of x hx.1] at this;refine this.mono ?_;rintro r w' ⟨⟨v,rfl,hN⟩,hb⟩;have e:=of_fo8 hx.1 hx.2;unfold ofK at e;rw [e] at hN ⊢;have he:ofE (magW x/4503599627370496)=0:=by unfold ofE;rw [if_neg (by have:=hx.2;omega)]
 rw [he];exact ⟨⟨v,rfl,hN⟩,hb⟩
end
section
open Go.RowKit J
theorem st3_but12 (g:Nat) (w:World) (x y z:Value):But g w (st3 w g x y z):=(((But.refl g w).set _ _).set _ _).set _ _
def Lo (w:World) (g:Nat) (o:Option (Bool×Nat×Int)):Prop:=∃ a c,Dk w g (dN o) (.slice a (ws (dX o)).length c) (dE o)∧Nt 0 w (.slice a (ws (dX o)).length c) (dX o)
theorem Lo.below {w w':World}{g:Nat}{o:Option (Bool×Nat×Int)}(h:Lo w g o) (hb:Below w.heap.size w w'):Lo w' g o:=by
 obtain ⟨a,c,h1,h2⟩:=h;exact ⟨a,c,h1.below hb,h2.below hb⟩
theorem Nt.off12 {lo g:Nat}{w:World}{v:Value}{X:Nat}{n:Bool}{a:Option Addr}{l c:Nat}{e:Int}(h:Nt lo w v X) (D:Dk w g n (.slice a l c) e) (x y z:Value):Nt lo (st3 w g x y z) v X:=by
 refine h.off (st3_but12 g w x y z) ?_
 rcases h.2 with ⟨rfl,_⟩|⟨g',cap,cur,rfl,_,hg,_⟩
 · simp [Value.ownBlock]
 · intro e'
   obtain rfl:g'=g:=by simpa [Value.ownBlock] using e'
   rw [show w.heap[g']?=_ from D] at hg
   simp at hg
abbrev o00:Option (Bool×Nat×Int):=some (false,0,0)
theorem len00:(ws (dX o00)).length=0:=by simp [dX,ws_zero]
theorem Lo.zero (w:World):Lo (w.alloc (Obj.cells #[.bool false,.slice none 0 0,.int .i64 0] 77)) w.heap.size o00:=by
 refine ⟨none,0,?_,?_⟩
 · rw [len00];exact Dk.new _ _ _ _
 · rw [len00];exact Nt.nil _ _
theorem st3_bel12 {B g:Nat}{a w:World}(h:Below B a w) (hB:B≤w.heap.size) (hg:B≤g) (x y z:Value):Below B a (st3 w g x y z):=But.below h (st3_but12 g w x y z) hB hg
theorem Fm.er {o:Option (Bool×Nat×Int)}(h:Fm o):erS o=0:=by
 obtain ⟨B,x,h⟩:=h;obtain ⟨n,X,e,rfl,_⟩:=h.ex;rfl
theorem Fm.a12 {o:Option (Bool×Nat×Int)}{w:World}{a:Option Addr}{c:Nat}(F:Fm o) (N:Nt 0 w (.slice a (ws (dX o)).length c) (dX o)):Arg w a (ws (dX o)).length c (ws (dX o)):=(N.arg' (Nat.le_trans F.len (by decide))).2
theorem mulP12 {U:World}{a b:Option Addr}{c d:Nat}{o p q:Option (Bool×Nat×Int)}(F:Fm o) (G:Fm p) (N1:Nt 0 U (.slice a (ws (dX o)).length c) (dX o)) (N2:Nt 0 U (.slice b (ws (dX p)).length d) (dX p)) (hT:Tab U) (h:mulD o p=q) (H:Fm q) :
 Calls Tryz.prog 76 #[.agg #[.bool (dN o),.slice a (ws (dX o)).length c,.int .i64 (dE o)],.agg #[.bool (dN p),.slice b (ws (dX p)).length d,.int .i64 (dE p)]] U fun r w'=>(∃ v,r=.returned (.tuple #[.agg #[.bool (dN q),v,.int .i64 (dE q)],.int .i64 0])∧Nt U.heap.size w' v (dX q))∧Below U.heap.size U w':=by
 have:=Mul_any3 (F.a12 N1) (G.a12 N2) hT (dN o) (dN p) (dE o) (dE p) F.rng.1 F.rng.2 G.rng.1 G.rng.2;rw [val_ws,val_ws,F.re,G.re,h] at this;unfold DAns at this;rw [H.er] at this;exact this
theorem addP12' {U:World}{a b:Option Addr}{c d:Nat}{o p q:Option (Bool×Nat×Int)}(F:Fm o) (G:Fm p) (N1:Nt 0 U (.slice a (ws (dX o)).length c) (dX o)) (N2:Nt 0 U (.slice b (ws (dX p)).length d) (dX p)) (hT:Tab U) (h:addD o p=q) (H:Fm q) :
 Calls Tryz.prog 75 #[.agg #[.bool (dN o),.slice a (ws (dX o)).length c,.int .i64 (dE o)],.agg #[.bool (dN p),.slice b (ws (dX p)).length d,.int .i64 (dE p)]] U fun r w'=>(∃ v,r=.returned (.tuple #[.agg #[.bool (dN q),v,.int .i64 (dE q)],.int .i64 0])∧Nt U.heap.size w' v (dX q))∧Below U.heap.size U w':=by
 have:=Add_any3 (F.a12 N1) (G.a12 N2) hT (dN o) (dN p) (dE o) (dE p) F.rng.1 F.rng.2 G.rng.1 G.rng.2;rw [val_ws,val_ws,F.re,G.re,h] at this;unfold DAns at this;rw [H.er] at this;exact this
theorem Lo.shape {w:World}{lo:Nat}{v:Value}{q:Option (Bool×Nat×Int)}(H:Fm q) (h:Nt lo w v (dX q)):∃ a c,v=.slice a (ws (dX q)).length c∧Nt 0 w v (dX q):=by
 obtain ⟨a,c,rfl,_⟩:=h.arg (Nat.le_trans H.len (by decide))
 exact ⟨a,c,rfl,h.mono (Nat.zero_le _)⟩
end
section
open Go.RowKit
theorem frm_fv {n:Bool}{X:Nat}{e:Int}(F:Frm n X e) (B:Int):Fv B (some (n,X,e)) (zv B (n,X,e)):=⟨n,X,e,rfl,F,rfl⟩
end
section
open Go.RowKit Go.Shelf J
attribute [local go_sem] Oper.semAt_some
def oW (x:Nat):Option (Bool×Nat×Int):=fo8 (fvW x)
theorem of12 (x:Nat) (hx:x<18446744073709551616) (fx:finW x) (u:World) (hT:Tab u):Calls Tryz.prog 74 #[.float .f64 x] u fun r w'=>(∃ v,r=.returned (.tuple #[.agg #[.bool (dN (oW x)),v,.int .i64 (dE (oW x))],.int .i64 0])∧Nt u.heap.size w' v (dX (oW x)))∧Below u.heap.size u w':=of_any8 x ⟨hx,fx⟩ u hT
end
section
open Go.RowKit
theorem Iv.fm {o:Option (Bool×Nat×Int)}{a b:Int}(h:Iv o a b):Fm o:=by
 obtain ⟨n,X,e,rfl,F,_⟩:=h;exact ⟨0,_,frm_fv F 0⟩
end
section
open Go.RowKit
theorem rebase {o:Option (Bool×Nat×Int)}{B x:Int}(h:Fv B o x) (hB:B≤-1048576) (D:Int) (hD:D≤0):Fv (B+D) o (x*((2^(0-D).toNat:Nat):Int)):=by
 obtain ⟨n',X',e',hx,F',hz⟩:=h.ex;refine ⟨n',X',e',hx,F',?_⟩;rw [←hz];unfold zv;simp only;rw [Int.mul_assoc,←Int.natCast_mul,Nat.mul_assoc,←Nat.pow_add];have:=F'.down;rw [show (e'-(B+D)).toNat=(e'-B).toNat+(0-D).toNat by omega]
end
section
open Go.RowKit J
def EK:Nat:=1048576
theorem exP (a:Nat):∃ u:Nat,u=2^a:=⟨_,rfl⟩
noncomputable def MM:Nat:=Classical.choose (exP EK)
theorem M_eq:MM=2^EK:=Classical.choose_spec (exP EK)
theorem M_pos:0<MM:=by rw [M_eq];exact Nat.two_pow_pos _
theorem Fm.sm {o:Option (Bool×Nat×Int)}(h:Fm o):o.isSome=true:=by
 obtain ⟨B,x,h⟩:=h;obtain ⟨n,X,e,rfl,_⟩:=h.ex;rfl
theorem Fm.val {o:Option (Bool×Nat×Int)}(h:Fm o):Fv (-1048576) o (valO o):=fvO h.re h.sm
theorem Fv.uniq {B x y:Int}{o:Option (Bool×Nat×Int)}(h1:Fv B o x) (h2:Fv B o y):x=y:=by
 obtain ⟨n,X,e,ho,_,hz⟩:=h1.ex;obtain ⟨n',X',e',ho',_,hz'⟩:=h2.ex;rw [ho] at ho'
 cases ho'
 exact hz.symm.trans hz'
theorem val_mul {o p:Option (Bool×Nat×Int)}(F:Fm o) (G:Fm p) (H:Fm (mulD o p)):valO (mulD o p)*(MM:Int)=valO o*valO p:=by
 have h1:=Fv.mul (by decide) (by decide) F.val G.val H.sm
 have h2:=rebase H.val (by decide) (-1048576) (by decide)
 rw [show ((0:Int) - -1048576).toNat=EK from rfl,←M_eq] at h2
 exact (h1.uniq h2).symm
theorem val_add {o p:Option (Bool×Nat×Int)}(F:Fm o) (G:Fm p) (H:Fm (addD o p)):valO (addD o p)=valO o+valO p :=
 H.val.uniq (Fv.add (by decide) F.val G.val H.sm)
theorem valO_inj {o p:Option (Bool×Nat×Int)}(F:Fm o) (G:Fm p) (h:valO o=valO p):o=p:=by
 obtain ⟨h1,h2,h3⟩:=Fv.same (by decide) F.val G.val h
 obtain ⟨n,X,e,rfl,_⟩:=F.val.ex;obtain ⟨m,Y,f,rfl,_⟩:=G.val.ex;have h1:n=m:=h1;have h2:X=Y:=h2;have h3:e=f:=h3;rw [h1,h2,h3]
theorem val_mk {n:Bool}{X:Nat}{e:Int}(h:Fm (mkS n X e)) (he:-1048576≤e) (k:Nat) (hk:(e+1048576).toNat=k):valO (mkS n X e)=sg1 n*((X*2^k:Nat):Int):=by
 obtain ⟨⟨n',Y,f⟩,ho⟩:=Option.isSome_iff_exists.1 h.sm;have:=zv_mkS ho (-1048576) (.inr he);rw [show (e - -1048576).toNat=k by rw [←hk];congr 1] at this
 rw [←this,ho];rfl
theorem sg1_natAbs (V:Int) (K:Nat):sg1 (decide (V<0))*((V.natAbs*K:Nat):Int)=V*(K:Int):=by
 rw [Int.natCast_mul,←Int.mul_assoc]
 congr 1
 unfold sg1
 by_cases h:V<0
 · rw [decide_eq_true h,if_pos rfl];omega
 · rw [decide_eq_false h,if_neg (by decide)];omega
end
section
open Go.RowKit J
def Bd (m:Nat) (V:Int):Prop:=V.natAbs≤2^m
theorem Bd.lt {m:Nat}{V:Int}(h:Bd m V):V.natAbs<2^(m+1):=by
 unfold Bd at h;rw [Nat.pow_succ];have:=Nat.two_pow_pos m;omega
theorem Bd.mul {a b:Nat}{V W:Int}(h:Bd a V) (k:Bd b W):Bd (a+b) (V*W):=by
 unfold Bd at *;rw [Int.natAbs_mul,Nat.pow_add];exact Nat.mul_le_mul h k
theorem Bd.add {m:Nat}{V W:Int}(h:Bd m V) (k:Bd m W):Bd (m+1) (V+W):=by
 unfold Bd at *;rw [Nat.pow_succ];omega
theorem Bd.nat {n k:Nat}(h:n≤2^k):Bd k (n:Int):=h
def gV (u:Nat) (V:Int):Option (Bool×Nat×Int):=mkS (decide (V<0)) V.natAbs (-(u:Int))
theorem g_iv {u m:Nat}{V:Int}(hu:u≤100000) (hm:m≤99999) (hV:Bd m V):Iv (gV u V) (-(u:Int)) (((m+1:Nat):Int)-(u:Int)):=by
 unfold gV;refine mkS_iv _ _ _ _ _ (.inr ⟨by omega,?_⟩) (by omega) (by omega) (by omega)
 have:=bl_lt_pow hV.lt;omega
theorem g_fm {u m:Nat}{V:Int}(hu:u≤100000) (hm:m≤99999) (hV:Bd m V):Fm (gV u V):=(g_iv hu hm hV).fm
theorem val_g {u:Nat}{V:Int}(h:Fm (gV u V)) (hu:u≤1000000) (k:Nat) (hk:k+u=EK):valO (gV u V)=V*((2^k:Nat):Int):=by
 unfold gV at h ⊢;rw [val_mk h (by omega) k (by unfold EK at hk;omega),sg1_natAbs]
theorem exK (u:Nat) (hu:u≤1000000):∃ k,k+u=EK:=⟨EK-u,by unfold EK;omega⟩
theorem g_mul {u v a b:Nat}{V W:Int}(hu:u≤50000) (hv:v≤50000) (ha:a≤40000) (hb:b≤40000) (h1:Bd a V) (h2:Bd b W):mulD (gV u V) (gV v W)=gV (u+v) (V*W):=by
 have F:=g_iv (u:=u) (by omega) (by omega) h1
 have G:=g_iv (u:=v) (by omega) (by omega) h2
 have hF:=(F.mul G (by omega) (by omega) (by omega)).fm
 have hG:=g_fm (u:=u+v) (by omega) (by omega) (h1.mul h2)
 refine valO_inj hF hG ?_;obtain ⟨k1,e1⟩:=exK u (by omega)
 obtain ⟨k2,e2⟩:=exK v (by omega)
 obtain ⟨k3,e3⟩:=exK (u+v) (by omega)
 have h:=val_mul F.fm G.fm hF;rw [val_g F.fm (by omega) k1 e1,val_g G.fm (by omega) k2 e2] at h
 rw [val_g hG (by omega) k3 e3]
 have hM:=M_pos;refine Int.eq_of_mul_eq_mul_right (a:=(MM:Int)) (by omega) (h.trans ?_)
 have e:((2^k1:Nat):Int)*((2^k2:Nat):Int)=((2^k3:Nat):Int)*(MM:Int):=by
  rw [←Int.natCast_mul,←Int.natCast_mul,M_eq,←Nat.pow_add,←Nat.pow_add,show k1+k2=k3+EK by omega]
 rw [Int.mul_assoc (V*W),←e,Int.mul_assoc,Int.mul_assoc,Int.mul_left_comm W]
theorem g_add {u m:Nat}{V W:Int}(hu:u≤100000) (hm:m≤90000) (h1:Bd m V) (h2:Bd m W):addD (gV u V) (gV u W)=gV u (V+W):=by
 have F:=g_iv (u:=u) (by omega) (by omega) h1
 have G:=g_iv (u:=u) (by omega) (by omega) h2
 have hF:=(F.add G (by omega) (by omega) (by omega)).fm
 have hG:=g_fm (u:=u) (by omega) (by omega) (h1.add h2)
 refine valO_inj hF hG ?_;obtain ⟨k1,e1⟩:=exK u (by omega)
 rw [val_add F.fm G.fm hF,val_g F.fm (by omega) k1 e1,val_g G.fm (by omega) k1 e1,val_g hG (by omega) k1 e1,Int.add_mul]
theorem fv_bd {x:Nat}(hx:x<18446744073709551616) (fx:finW x):Bd 2098 (fvW x):=by
 obtain ⟨m,hm⟩:∃ m,m=2098:=⟨_,rfl⟩;have h:Bd m (fvW x):=Nat.le_of_lt (top_fv hx fx m hm);rw [hm] at h;exact h
attribute [irreducible] Bd
end
section
open Go.RowKit Go.Shelf J
theorem roundP12 {U:World}{a:Option Addr}{c:Nat}{o:Option (Bool×Nat×Int)}(F:Fm o) (N:Nt 0 U (.slice a (ws (dX o)).length c) (dX o)) (hT:Tab U) (mode:Int) (z:Nat×Int) (hz:rndS o mode=z) :
 Calls Tryz.prog 58 #[.agg #[.bool (dN o),.slice a (ws (dX o)).length c,.int .i64 (dE o)],.int .i64 mode] U fun r w'=>r=.returned (.tuple #[.float .f64 z.1,.int .i64 z.2])∧Below U.heap.size U w':=by
 have:=Round_any (F.a12 N) hT (dN o) (dE o) mode F.rng.1 F.rng.2;rw [val_ws,F.re,hz] at this;exact this
attribute [local go_sem] Oper.semAt_some st_float
end
section
open Go Go.RowKit J
section
variable {P : Program} {ops : Array Oper} {Q : Exit → Act → World → Prop} {md : Region.Mode} {S : World → Prop} {stop : Nat}
end
theorem row14d:∃ d:TypeDesc,Tryz.prog.underlying 77=some d∧d.isRow=true:=by
 have h:(Tryz.prog.underlying 77).any (·.isRow)=true:=by kernel_rfl
 cases hd:Tryz.prog.underlying 77 with
 | none=>rw [hd] at h;cases h
 | some d=>rw [hd] at h;exact ⟨d,rfl,h⟩
theorem size14d:(Tryz.prog.info? 77).map (·.size)=some 3:=by kernel_rfl
theorem result14 {fn:Func}{p:Tmp}(h:fn.results=#[.cell p 77]) (tmps:Array Value) (W:World) (g:Nat) (n:Bool) (v:Value) (e:Int) (hp:tmps.getD p undef=.pointer (some ⟨g,0,none⟩)) (hD:Dk W g n v e) :
 (results fn tmps).run Tryz.prog W=.ok (.agg #[.bool n,v,.int .i64 e]) W:=by
 obtain ⟨d,h1,h2⟩:=row14d
 cases d <;> first
  | exact results_cell_row (P:=Tryz.prog) h tmps W g 77 _ _ _ hp hD h1 rfl (by rw [size14d];rfl)
  | exact absurd h2 (by simp [TypeDesc.isRow])
theorem end14 {fn:Func}{p:Tmp}(hfn:fn.results=#[.cell p 77]) {w base:World}{tmps:Array Value}{o q:Option (Bool×Nat×Int)}{a:Option Addr}{c g:Nat}(h2:tmps.getD p undef=.pointer (some ⟨g,0,none⟩))
 (hL:Lo base g q) (hbw:Below w.heap.size w base) (hg:w.heap.size≤g) (hN:Nt 0 base (.slice a (ws (dX o)).length c) (dX o)) :
 bodyPost Tryz.prog fn (fun r w'=>DVal 0 w' r o∧Below w.heap.size w w') .ret ⟨tmps,[]⟩
  (((base.setCell ⟨g,0,none⟩ (.bool (dN o))).setCell ⟨g,1,none⟩ (.slice a (ws (dX o)).length c)).setCell ⟨g,2,none⟩ (.int .i64 (dE o))):=by
 obtain ⟨a0,c0,hD,hM⟩:=hL;exact bodyPost_ret (v:=.agg #[.bool (dN o),.slice a (ws (dX o)).length c,.int .i64 (dE o)]) (result14 hfn _ _ g _ _ _ h2 (hD.set _ _ _)) rfl ⟨⟨_,rfl,hN.off12 hD _ _ _⟩,st3_bel12 hbw hbw.size hg _ _ _⟩
end
end Go.Proofs.YtihjfhpoiheomaaGreatDoor
