import Derived.Test.YtmkmndlpjenemaaGreatDoorF2x
import Derived.Test.YtmkmndlpjenemaaGreatDoorBW6x
import Derived.Test.YtmkmndlpjenemaaGreatDoorN4x
import Derived.Test.YtmkmndlpjenemaaGreatDoorM1x
import Derived.OwnWalk
import Derived.ArgAppend
import Derived.Maps.AppendAt
import Derived.WalkMore
import Derived.Deep.RegionHeld
import Derived.BigQuiet
import Derived.Test.YtmkmndlpjenemaaGreatDoorZ14x
import Derived.RangeFuncNested
import Derived.RangeFuncBound
import Derived.RangeFuncCalls
import Derived.RangeFuncLeaves
import Derived.RangeFuncBox
import Derived.Shelf.Abstract
import Derived.Shelf.RegionOpen
import Derived.WalkKit
import Derived.OwnWalkIn
import Derived.TacticsInMore
import Derived.LoopNIn
import Derived.LoopIn
import Derived.Test.YtmkmndlpjenemaaGreatDoorD21x
import Derived.Test.YtmkmndlpjenemaaGreatDoorD16x
import Derived.Deep.RegionHeld3
import Derived.Test.YtmkmndlpjenemaaGreatDoorS11ax
import Derived.Test.YtmkmndlpjenemaaGreatDoorW24x
import Derived.Deep.CutRange
import Derived.Test.YtmkmndlpjenemaaGreatDoorD30x
import Derived.Test.YtmkmndlpjenemaaGreatDoorBIeeex
set_option linter.unusedVariables false
set_option linter.unusedSimpArgs false
set_option maxHeartbeats 16000000
set_option maxRecDepth 20000
namespace Go.Proofs.YtmkmndlpjenemaaGreatDoor
namespace J
end J
section
open Go.RowKit J
def NXt (x:Nat):Nat:=if magW x=0 then 1 else if negW x then x-1 else x+1
def PVt (x:Nat):Nat:=if magW x=0 then 9223372036854775809 else if negW x then x+1 else x-1
theorem bwN {x:Nat}(hx:x<18446744073709551616):x=B.bw (negW x) (magW x/4503599627370496) (magW x%4503599627370496)∧magW x/4503599627370496<2048∧magW x%4503599627370496<4503599627370496:=by
 have hm:magW x<9223372036854775808:=by unfold magW;omega
 refine ⟨?_,by omega,by omega⟩
 unfold B.bw negW magW at *
 by_cases h:9223372036854775808≤x
 · rw [decide_eq_true h];simp only [Bool.toNat_true];omega
 · rw [decide_eq_false h];simp only [Bool.toNat_false];omega
theorem nxN {x:Nat}(hx:x<18446744073709551616) (fx:finW x):B.nx (negW x) (magW x/4503599627370496) (magW x%4503599627370496)=NXt x:=by
 obtain ⟨h1,h2,h3⟩:=bwN hx;have hm:magW x<9218868437227405312:=fx;unfold B.nx NXt;rw [←h1,if_neg (by omega),if_neg (by omega)]
 by_cases hz:magW x=0
 · rw [if_pos (by omega),if_pos hz]
 · rw [if_neg (by omega),if_neg hz]
theorem nextT {x:Nat}(hx:x<18446744073709551616) (fx:finW x) (w:World):Calls Tryz.prog 19 #[.float .f64 x] w fun r w'=>r=.returned (.float .f64 (NXt x))∧w'=w:=by
 obtain ⟨h1,h2,h3⟩:=bwN hx;have:=B.next_any (negW x) (magW x/4503599627370496) (magW x%4503599627370496) h2 h3 w;rw [nxN hx fx,←h1] at this;exact this
theorem prevT {x:Nat}(hx:x<18446744073709551616) (fx:finW x) (w:World):Calls Tryz.prog 64 #[.float .f64 x] w fun r w'=>r=.returned (.float .f64 (PVt x))∧w'=w:=by
 obtain ⟨h1,h2,h3⟩:=bwN hx;have hm:magW x<9218868437227405312:=fx
 have ho:B.odd (magW x/4503599627370496) (magW x%4503599627370496)=false:=by
  unfold B.odd
  by_cases q:magW x/4503599627370496=2047
  · exfalso;omega
  · simp [q]
 obtain ⟨y,hy⟩:∃ y,y=if negW x then x-9223372036854775808 else x+9223372036854775808:=⟨_,rfl⟩
 have hxs:negW x=true↔9223372036854775808≤x:=by unfold negW;simp
 have hy64:y<18446744073709551616:=by
  rw [hy]
  cases hn:negW x
  · simp only [Bool.false_eq_true,if_false];have:¬ 9223372036854775808≤x:=fun q=>by rw [hxs.2 q] at hn;cases hn
    omega
  · simp only [if_true];omega
 have hyn:negW y=!negW x∧magW y=magW x:=by
  rw [hy]
  cases hn:negW x
  · have q:¬ 9223372036854775808≤x:=fun q=>by rw [hxs.2 q] at hn;cases hn
    simp only [Bool.false_eq_true,if_false];unfold negW magW;exact ⟨by simp,by omega⟩
  · have q:=hxs.1 hn
    simp only [if_true];unfold negW magW;exact ⟨by simp;omega,by omega⟩
 have hnx:=nxN hy64 (show magW y<_ by rw [hyn.2];exact hm)
 rw [hyn.1,hyn.2] at hnx;obtain ⟨z,hz⟩:∃ z,z=NXt y:=⟨_,rfl⟩
 have hz64:z<18446744073709551616:=by
  rw [hz];unfold NXt;have:magW y<9218868437227405312:=by rw [hyn.2];exact hm
  split
  · decide
  · split
    · omega
    · rename_i q1 q2
      have:¬ 9223372036854775808≤y:=fun q=>q2 (by unfold negW;simp [q])
      omega
 obtain ⟨g1,g2,g3⟩:=bwN hz64;rw [←hz] at hnx;have:=B.prev_even (negW x) (magW x/4503599627370496) (magW x%4503599627370496) h2 h3 ho (negW z) (magW z/4503599627370496) (magW z%4503599627370496) g2 g3 (hnx.trans g1) w;rw [←h1] at this
 have e:B.bw (!negW z) (magW z/4503599627370496) (magW z%4503599627370496)=PVt x:=by
  unfold PVt;have hm':=hyn.2
  by_cases q0:magW x=0
  · rw [if_pos q0]
    have:z=1:=by rw [hz];unfold NXt;rw [if_pos (by rw [hm'];exact q0)]
    rw [this];decide
  · rw [if_neg q0]
    have hzz:z=if negW y then y-1 else y+1:=by rw [hz];unfold NXt;rw [if_neg (by rw [hm'];exact q0)]
    have hmx:magW x=x%9223372036854775808:=rfl
    cases hn:negW x
    · have q:¬ 9223372036854775808≤x:=fun q=>by rw [hxs.2 q] at hn;cases hn
      rw [hyn.1,hn] at hzz;simp only [Bool.not_false,if_true] at hzz;rw [hn] at hy;simp only [Bool.false_eq_true,if_false] at hy ⊢;have e1:negW z=true:=by unfold negW;simp;omega
      have e2:magW z=x-1:=by unfold magW;omega
      rw [e1,e2];unfold B.bw;simp only [Bool.not_true,Bool.toNat_false];omega
    · have q:=hxs.1 hn
      rw [hyn.1,hn] at hzz;simp only [Bool.not_true,Bool.false_eq_true,if_false] at hzz;rw [hn] at hy;simp only [if_true] at hy ⊢;have e1:negW z=false:=by unfold negW;simp;omega
      have e2:magW z=magW x+1:=by unfold magW;omega
      rw [e1,e2];unfold B.bw;simp only [Bool.not_false,Bool.toNat_true];omega
 rw [e] at this;exact this
structure Nst (S:Int) (n x lo hi:Nat):Prop where
 wx:x<18446744073709551616
 mx:magW x+1<9218868437227405312
 dn:(S-fvW x*n).natAbs≤(S-fvW (NXt x)*n).natAbs
 en:(S-fvW x*n).natAbs=(S-fvW (NXt x)*n).natAbs→x%2=0
 dp:(S-fvW x*n).natAbs≤(S-fvW (PVt x)*n).natAbs
 ep:(S-fvW x*n).natAbs=(S-fvW (PVt x)*n).natAbs→x%2=0
 wl:lo<18446744073709551616
 ml:magW lo+1<9218868437227405312
 wh:hi<18446744073709551616
 mh:magW hi<9218868437227405312
 le1:fvW lo*n≤S
 le2:S≤fvW hi*n
 cl:fvW lo*n=fvW hi*n∨NXt lo=hi
theorem fv_wdN (b:Bool) (r:Nat) (h:r<9223372036854775808):fvW (wd64 b r)=B.sg b (vK r)∧magW (wd64 b r)=r∧negW (wd64 b r)=b∧wd64 b r<18446744073709551616∧wd64 b r%2=r%2:=by
 unfold wd64;obtain ⟨h1,h2,h3⟩:=fv_sum (r:=r) (b:=b) h;exact ⟨h1,h2,h3,by split <;> omega,by split <;> omega⟩
theorem wd_t (r:Nat):wd64 true r=r+9223372036854775808:=by unfold wd64;rw [if_pos rfl]
theorem wd_f (r:Nat):wd64 false r=r:=by unfold wd64;rw [if_neg (by decide),Nat.add_zero]
theorem NX_wd (b:Bool) (r:Nat) (h:r+1<9218868437227405312):NXt (wd64 b r)=if b then (if r=0 then wd64 false 1 else wd64 true (r-1)) else wd64 false (r+1):=by
 obtain ⟨_,h2,h3,_,_⟩:=fv_wdN b r (by omega)
 unfold NXt;rw [h2,h3]
 cases b
 · rw [wd_f,wd_f,wd_f]
   by_cases q:r=0
   · rw [if_pos q,if_neg (by decide),q]
   · rw [if_neg q,if_neg (by decide),if_neg (by decide)]
 · rw [if_pos (c:=true=true) rfl,wd_t,wd_t,wd_f]
   by_cases q:r=0
   · rw [if_pos q,if_pos rfl,if_pos q]
   · rw [if_neg q,if_pos rfl,if_neg q];omega
theorem wd_succ (r:Nat):wd64 true r+1=wd64 true (r+1):=(congrArg (fun z=>z+1) (wd_t r)).trans ((Nat.add_right_comm r 9223372036854775808 1).trans (wd_t (r+1)).symm)
theorem wd_one:wd64 true 1=9223372036854775809:=by rw [wd_t]
theorem PV_wd (b:Bool) (r:Nat) (h:r+1<9218868437227405312):PVt (wd64 b r)=if b then wd64 true (r+1) else (if r=0 then wd64 true 1 else wd64 false (r-1)):=by
 obtain ⟨_,h2,h3,_,_⟩:=fv_wdN b r (by omega)
 unfold PVt;rw [h2,h3];clear h2 h3
 cases b
 · by_cases q:r=0
   · rw [if_pos q,if_neg (by decide),if_pos q,wd_one]
   · rw [if_neg q,if_neg (by decide),if_neg (by decide),if_neg q,wd_f,wd_f]
 · by_cases q:r=0
   · rw [if_pos q,if_pos rfl,q,wd_one]
   · rw [if_neg q,if_pos rfl,if_pos rfl,wd_succ]
theorem rK_modes (b:Bool) (K:Nat) (t:Bool) (m:Int):rK 3 b K t m=(if t then K else if b then K+1 else K)∧rK 2 b K t m=(if t then K else if b then K else K+1):=by
 unfold rK outS
 cases t <;> cases b <;> simp
theorem dist_same (b:Bool) (S:Int) (hS:b=decide (S<0)) (n L:Nat):(S-B.sg b (vK L)*n).natAbs=(((vK L*n:Nat):Int)-(S.natAbs:Int)).natAbs:=by
 have c:((vK L*n:Nat):Int)=(vK L:Int)*n:=Int.natCast_mul _ _;unfold B.sg
 by_cases q:S<0
 · rw [hS,decide_eq_true q]
   simp only [if_true,Int.neg_mul];omega
 · rw [hS,decide_eq_false q]
   simp only [Bool.false_eq_true,if_false];omega
theorem dist_other (b:Bool) (S:Int) (hS:b=decide (S<0)) (n L:Nat):(S-B.sg (!b) (vK L)*n).natAbs=S.natAbs+vK L*n:=by
 have c:((vK L*n:Nat):Int)=(vK L:Int)*n:=Int.natCast_mul _ _;unfold B.sg
 by_cases q:S<0
 · rw [hS,decide_eq_true q]
   simp only [Bool.not_true,Bool.false_eq_true,if_false];omega
 · rw [hS,decide_eq_false q]
   simp only [Bool.not_false,if_true,Int.neg_mul];omega
theorem key_g (g:Nat→Nat) (mono:∀ a,g a<g (a+1)) (z:g 0=0) {V K:Nat}{t:Bool}{m:Int}(hV:0<V) (h1:t=true→V=g K) (h2:t=false→g K<V∧V<g (K+1))
 (h3:t=false→(m=-1∧2*V<g K+g (K+1))∨(m=0∧2*V=g K+g (K+1))∨(m=1∧g K+g (K+1)<2*V)) (b:Bool) (r:Nat) (hr:r=rK 0 b K t m) :
 (r=K∨r=K+1)∧(((g r:Int)-(V:Int)).natAbs≤((g (r+1):Int)-(V:Int)).natAbs∧(((g r:Int)-(V:Int)).natAbs=((g (r+1):Int)-(V:Int)).natAbs→r%2=0)) ∧
  (r≠0→((g r:Int)-(V:Int)).natAbs≤((g (r-1):Int)-(V:Int)).natAbs∧(((g r:Int)-(V:Int)).natAbs=((g (r-1):Int)-(V:Int)).natAbs→r%2=0)) ∧
  (r=0→((g r:Int)-(V:Int)).natAbs<V+g 1):=by
 have mK:=mono K;have mK1:=mono (K+1);have mK0:K≠0→g (K-1)<g K:=fun q=>by have:=mono (K-1);rw [show K-1+1=K by omega] at this;exact this
 have m01:=mono 0;rw [z,Nat.zero_add] at m01
 cases t
 · obtain ⟨a1,a2⟩:=h2 rfl
   have hout:r=if outS 0 K m b then K+1 else K:=by rw [hr];unfold rK;simp
   unfold outS at hout;rw [if_pos rfl] at hout
   have low:r=K→2*V≤g K+g (K+1)→(2*V=g K+g (K+1)→K%2=0)→_:=fun e c1 c2=>(show (r=K∨r=K+1)∧(((g r:Int)-(V:Int)).natAbs≤((g (r+1):Int)-(V:Int)).natAbs∧(((g r:Int)-(V:Int)).natAbs=((g (r+1):Int)-(V:Int)).natAbs→r%2=0)) ∧
    (r≠0→((g r:Int)-(V:Int)).natAbs≤((g (r-1):Int)-(V:Int)).natAbs∧(((g r:Int)-(V:Int)).natAbs=((g (r-1):Int)-(V:Int)).natAbs→r%2=0)) ∧
    (r=0→((g r:Int)-(V:Int)).natAbs<V+g 1) by
     subst e;refine ⟨.inl rfl,⟨by omega,fun q=>c2 (by omega)⟩,fun q=>?_,fun q=>?_⟩
     · have:=mK0 q;exact ⟨by omega,fun _=>by omega⟩
     · rw [q] at a1 ⊢;omega)
   have high:r=K+1→g K+g (K+1)≤2*V→(2*V=g K+g (K+1)→(K+1)%2=0)→_:=fun e c1 c2=>(show (r=K∨r=K+1)∧(((g r:Int)-(V:Int)).natAbs≤((g (r+1):Int)-(V:Int)).natAbs∧(((g r:Int)-(V:Int)).natAbs=((g (r+1):Int)-(V:Int)).natAbs→r%2=0)) ∧
    (r≠0→((g r:Int)-(V:Int)).natAbs≤((g (r-1):Int)-(V:Int)).natAbs∧(((g r:Int)-(V:Int)).natAbs=((g (r-1):Int)-(V:Int)).natAbs→r%2=0)) ∧
    (r=0→((g r:Int)-(V:Int)).natAbs<V+g 1) by
     subst e;refine ⟨.inr rfl,⟨by omega,fun q=>by omega⟩,fun q=>?_,fun q=>absurd q (by omega)⟩
     rw [show K+1-1=K by omega]
     exact ⟨by omega,fun q=>c2 (by omega)⟩)
   rcases h3 rfl with ⟨rfl,c⟩|⟨rfl,c⟩|⟨rfl,c⟩
   · exact low (by rw [hout];simp) (by omega) (fun q=>by omega)
   · by_cases ho:K%2=1
     · exact high (by rw [hout];simp [ho]) (by omega) (fun _=>by omega)
     · exact low (by rw [hout];simp [ho]) (by omega) (fun _=>by omega)
   · exact high (by rw [hout];simp) (by omega) (fun q=>by omega)
 · have a1:=h1 rfl
   have e:r=K:=by rw [hr];unfold rK;simp
   subst e;refine ⟨.inl rfl,⟨by omega,fun q=>by omega⟩,fun q=>?_,fun q=>?_⟩
   · have:=mK0 q;exact ⟨by omega,fun _=>by omega⟩
   · rw [q] at a1 ⊢;omega
theorem ends_g {S:Int}{a c V:Nat}(hV:V=S.natAbs) (b:Bool) (hb:b=decide (S<0)) (h1:a≤V) (h2:V≤c):B.sg b (if b then c else a)≤S∧S≤B.sg b (if b then a else c):=by
 unfold B.sg
 by_cases q:S<0
 · rw [hb,decide_eq_true q];simp only [if_true];omega
 · rw [hb,decide_eq_false q];simp only [Bool.false_eq_true,if_false];omega
theorem sg_muln (b:Bool) (v n:Nat):B.sg b v*(n:Int)=B.sg b (v*n):=by
 unfold B.sg;cases b <;> simp [Int.neg_mul]
theorem nst_lies {S:Int}{n K:Nat}{t:Bool}{m:Int}(hS:S≠0) (hL:Lies K t m S.natAbs n) (hK:K+4<9218868437227405312) (b:Bool) (hb:b=decide (S<0)) :
 Nst S n (wd64 b (rK 0 b K t m)) (wd64 b (rK 3 b K t m)) (wd64 b (rK 2 b K t m)):=by
 have hp:=hL.pos;have hV:0<S.natAbs:=by omega
 obtain ⟨g,hg⟩:∃ g:Nat→Nat,∀ L,vK L*n=g L:=⟨fun L=>vK L*n,fun _=>rfl⟩
 have mono:∀ a:Nat,g a<g (a+1):=fun a=>by rw [←hg,←hg];exact Nat.mul_lt_mul_of_pos_right (vK_lt.2 (Nat.lt_succ_self a)) hp
 have z0:g 0=0:=by rw [←hg,grid64.zero,Nat.zero_mul]
 have L1:t=true→S.natAbs=g K:=fun h=>by rw [←hg];exact hL.one h
 have L2:t=false→g K<S.natAbs∧S.natAbs<g (K+1):=fun h=>by
  rw [←hg,←hg];refine ⟨hL.low h,?_⟩
  rcases hL.high h with q|⟨q,_⟩
  · exact q
  · omega
 have L3:t=false→(m=-1∧2*S.natAbs<g K+g (K+1))∨(m=0∧2*S.natAbs=g K+g (K+1))∨(m=1∧g K+g (K+1)<2*S.natAbs):=fun h=>by
  have:=hL.mids h (by rw [hg];exact (L2 h).2)
  rw [hg,hg] at this;exact this
 obtain ⟨r,hr⟩:∃ r,r=rK 0 b K t m:=⟨_,rfl⟩;obtain ⟨hrK,hkk⟩:=key_g g mono z0 hV L1 L2 L3 b r hr;have HK:=qsd hkk;clear hkk;rw [←hr];obtain ⟨w1,w2,w3,w4,w5⟩:=fv_wdN b r (by omega)
 obtain ⟨q3,q2⟩:=rK_modes b K t m;have dS:∀ L,(S-B.sg b (vK L)*n).natAbs=((g L:Int)-(S.natAbs:Int)).natAbs:=fun L=>(dist_same b S hb n L).trans (by rw [hg L])
 have dO:(S-B.sg (!b) (vK 1)*n).natAbs=S.natAbs+g 1:=(dist_other b S hb n 1).trans (by rw [hg 1])
 have vA:=(fv_wdN b (r+1) (by omega)).1
 have vO:fvW (wd64 (!b) 1)=B.sg (!b) (vK 1):=(fv_wdN (!b) 1 (by omega)).1
 have vI:r≠0→fvW (wd64 b (r-1))=B.sg b (vK (r-1)):=fun q=>(fv_wdN b (r-1) (by omega)).1
 have out1:∀ y,fvW y=B.sg b (vK (r+1))→(S-fvW (wd64 b r)*n).natAbs≤(S-fvW y*n).natAbs∧((S-fvW (wd64 b r)*n).natAbs=(S-fvW y*n).natAbs→wd64 b r%2=0):=fun y hy=>by
  rw [hy,w1,dS,dS,w5];exact HK.out.1
 have in1:∀ y,(r=0→fvW y=B.sg (!b) (vK 1))→(r≠0→fvW y=B.sg b (vK (r-1)))→(S-fvW (wd64 b r)*n).natAbs≤(S-fvW y*n).natAbs∧((S-fvW (wd64 b r)*n).natAbs=(S-fvW y*n).natAbs→wd64 b r%2=0):=fun y h0 h1=>by
  by_cases q:r=0
  · rw [h0 q,w1,dS,dO]
    have k4:=HK.out.2.2 q;exact ⟨Nat.le_of_lt k4,fun e=>absurd e (Nat.ne_of_lt k4)⟩
  · rw [h1 q,w1,dS,dS,w5]
    exact HK.out.2.1 q
 have hN:=NX_wd b r (by omega)
 have hP:=PV_wd b r (by omega)
 have N1:(S-fvW (wd64 b r)*n).natAbs≤(S-fvW (NXt (wd64 b r))*n).natAbs∧((S-fvW (wd64 b r)*n).natAbs=(S-fvW (NXt (wd64 b r))*n).natAbs→wd64 b r%2=0):=by
  rw [hN];clear hN hP hb hL w2 w3 w4 q3 q2 hr hS
  cases b
  · rw [if_neg (by decide)]
    exact out1 _ vA
  · rw [if_pos rfl]
    exact in1 _ (fun q=>by rw [if_pos q];exact vO) (fun q=>by rw [if_neg q];exact vI q)
 have P1:(S-fvW (wd64 b r)*n).natAbs≤(S-fvW (PVt (wd64 b r))*n).natAbs∧((S-fvW (wd64 b r)*n).natAbs=(S-fvW (PVt (wd64 b r))*n).natAbs→wd64 b r%2=0):=by
  rw [hP];clear hN hP hb hL w2 w3 w4 q3 q2 hr hS N1
  cases b
  · rw [if_neg (by decide)]
    exact in1 _ (fun q=>by rw [if_pos q];exact vO) (fun q=>by rw [if_neg q];exact vI q)
  · rw [if_pos rfl]
    exact out1 _ vA
 have ends:=ends_g (S:=S) (a:=g K) (c:=if t then g K else g (K+1)) rfl b hb (by cases t;exact Nat.le_of_lt (L2 rfl).1;rw [L1 rfl];exact Nat.le_refl _) (by cases t;exact Nat.le_of_lt (L2 rfl).2;rw [L1 rfl];exact Nat.le_refl _)
 have e3:vK (rK 3 b K t m)*n=if b then (if t then g K else g (K+1)) else g K:=by rw [q3,hg];cases t <;> cases b <;> simp
 have e2:vK (rK 2 b K t m)*n=if b then g K else (if t then g K else g (K+1)):=by rw [q2,hg];cases t <;> cases b <;> simp
 have r3b:rK 3 b K t m≤K+1:=by rw [q3];cases t <;> cases b <;> simp
 have r2b:rK 2 b K t m≤K+1:=by rw [q2];cases t <;> cases b <;> simp
 obtain ⟨l1,l2,l3,l4,_⟩:=fv_wdN b (rK 3 b K t m) (by omega)
 obtain ⟨u1,u2,u3,u4,_⟩:=fv_wdN b (rK 2 b K t m) (by omega)
 refine ⟨w4,by rw [w2];omega,N1.1,N1.2,P1.1,P1.2,l4,by rw [l2];omega,u4,by rw [u2];omega,?_,?_,?_⟩
 · rw [l1,sg_muln,e3];exact ends.1
 · rw [u1,sg_muln,e2];exact ends.2
 · cases t
   · right
     rw [NX_wd b _ (by omega),q3,q2]
     cases b
     · simp
     · simp
   · left
     rw [l1,u1,q3,q2];simp
theorem nst_zero {n x lo hi:Nat}(hn:0<n) (hx:x=0∨x=9223372036854775808) (hl:lo=0∨lo=9223372036854775808) (hh:hi=0∨hi=9223372036854775808):Nst 0 n x lo hi:=by
 have f0:∀ q,q=0∨q=9223372036854775808→fvW q=0∧q<18446744073709551616∧magW q=0∧q%2=0:=fun q h=>by rcases h with rfl | rfl <;> decide +kernel
 obtain ⟨x1,x2,x3,x4⟩:=f0 x hx;obtain ⟨l1,l2,l3,_⟩:=f0 lo hl;obtain ⟨h1,h2,h3,_⟩:=f0 hi hh;exact ⟨x2,by rw [x3];decide,by rw [x1];simp,fun _=>x4,by rw [x1];simp,fun _=>x4,l2,by rw [l3];decide,h2,by rw [h3];decide,by rw [l1];simp,by rw [h1];simp,.inl (by rw [l1,h1])⟩
end
section
open Go.RowKit J
attribute [local go_sem] st_float
theorem fo_absT (V:Int) (m:Nat) (hm:m≤100000) (hV:V.natAbs<2^m):dN (fo8 (V.natAbs:Int))=false∧dX (fo8 (V.natAbs:Int))=dX (fo8 V)∧dE (fo8 (V.natAbs:Int))=dE (fo8 V):=by
 unfold fo8;rw [decide_eq_false (show ¬ ((V.natAbs:Int)<0) by omega),Int.natAbs_natCast]
 unfold mkS
 by_cases q:V.natAbs=0
 · rw [if_pos q,if_pos q];exact ⟨rfl,rfl,rfl⟩
 · rw [if_neg q,if_neg q]
   split <;> exact ⟨rfl,rfl,rfl⟩
theorem bndT {N:Nat}{SV:Int}(m:Nat) (hm:m=3000) (hS:SV.natAbs<2^m) (hN:N≤65536) (z:Nat) (hz:z<18446744073709551616) (fz:finW z):(fvW z).natAbs<2^m∧(fvW z*N).natAbs<2^m∧(SV-fvW z*N).natAbs<2^(m+1):=by
 obtain ⟨j,hj⟩:∃ j:Nat,j=2098:=⟨_,rfl⟩;have t:=top_fv (x:=z) hz fz j hj
 have t2:(fvW z*N).natAbs<2^m:=by
  rw [Int.natAbs_mul,Int.natAbs_natCast];have a1:(fvW z).natAbs*N≤2^j*65536:=Nat.mul_le_mul (Nat.le_of_lt t) hN
  have a2:2^j*65536<2^m:=by
   rw [show (65536:Nat)=2^16 by decide,←Nat.pow_add]
   exact Nat.pow_lt_pow_right (by decide) (by omega)
  omega
 refine ⟨Nat.lt_of_lt_of_le t (Nat.pow_le_pow_right (by decide) (by omega)),t2,?_⟩
 have:=Int.natAbs_sub_le SV (fvW z*N);rw [Nat.pow_succ];omega
theorem offT (x:Nat) (SV:Int) (N:Nat) (p:Option Addr) (q:Nat) (w:World) (hx:x<18446744073709551616) (fx:finW x) (m:Nat) (hm:m=3000) (hS:SV.natAbs<2^m) (hN:N≤65536) (hT:Tab w)
 (hNt:Nt 0 w (.slice p (ws (dX (fo8 SV))).length q) (dX (fo8 SV))) :
 Calls Tryz.prog 63 #[.agg #[.bool (dN (fo8 SV)),.slice p (ws (dX (fo8 SV))).length q,.int .i64 (dE (fo8 SV))],.int .i64 (N:Nat),.float .f64 x] w fun r w' =>
  (∃ a c,r=.returned (.tuple #[.agg #[.bool (dN (fo8 ((SV-fvW x*N).natAbs:Int))),.slice a (ws (dX (fo8 ((SV-fvW x*N).natAbs:Int)))).length c,.int .i64 (dE (fo8 ((SV-fvW x*N).natAbs:Int)))],.bool true])∧Nt w.heap.size w' (.slice a (ws (dX (fo8 ((SV-fvW x*N).natAbs:Int)))).length c) (dX (fo8 ((SV-fvW x*N).natAbs:Int))))∧Below w.heap.size w w':=by
 obtain ⟨bx1,bx2,bx3⟩:=bndT m hm hS hN x hx fx;obtain ⟨f1,f2,f3⟩:=fo_absT (SV-fvW x*(N:Int)) (m+1) (by omega) bx3
 rw [f1,f2,f3];have up:∀ {z:Int},z.natAbs<2^m→z.natAbs<2^(m+1):=fun {z} h=>by rw [Nat.pow_succ];omega
 have FS:=qsd (fo_fm13 SV m (by omega) hS)
 have FI:=qsd (int_fm N (by omega))
 have FX0:=qsd (fo_fm13 _ m (by omega) bx1)
 have FX1:=qsd (fo_fm13 _ m (by omega) bx2)
 have FX2:=qsd (fo_fm13 _ (m+1) (by omega) bx3)
 have HO:=hid (fun (u:World) (hT:Tab u)=>of_any8 x ⟨hx,fx⟩ u hT)
 have HII:Hid (∀ u:World,Tab u→Calls Tryz.prog 45 #[.int .i64 (N:Nat)] u fun r w'=>(∃ v,r=.returned (.agg #[.bool (dN (mkS false N 0)),v,.int .i64 (dE (mkS false N 0))])∧Nt u.heap.size w' v (dX (mkS false N 0)))∧Below u.heap.size u w'):=fun u hT=>by
  have:=Int_any (N:Nat) u hT (by omega) (by omega)
  rw [decide_eq_false (by omega),Int.natAbs_natCast] at this
  exact this
 have HMX:=hid (fun (U:World) (a b:Option Addr) (c d:Nat) (n1:Nt 0 U (.slice a (ws (dX (fo8 (fvW x)))).length c) (dX (fo8 (fvW x)))) (n2:Nt 0 U (.slice b (ws (dX (mkS false N 0))).length d) (dX (mkS false N 0))) (hT:Tab U)=>mulI13 m (by omega) (by omega) bx1 bx2 hN n1 n2 hT)
 have HSX:=hid (fun (U:World) (a b:Option Addr) (c d:Nat) (n1:Nt 0 U (.slice a (ws (dX (fo8 SV))).length c) (dX (fo8 SV))) (n2:Nt 0 U (.slice b (ws (dX (fo8 (fvW x*N)))).length d) (dX (fo8 (fvW x*N)))) (hT:Tab U)=>subP13 (m+1) (by omega) (up hS) (up bx2) bx3 n1 n2 hT)
 obtain ⟨oS,hoS⟩:∃ o,fo8 SV=o:=⟨_,rfl⟩;obtain ⟨oX0,hoX0⟩:∃ o,fo8 (fvW x)=o:=⟨_,rfl⟩;obtain ⟨oX1,hoX1⟩:∃ o,fo8 (fvW x*N)=o:=⟨_,rfl⟩;obtain ⟨oX2,hoX2⟩:∃ o,fo8 (SV-fvW x*N)=o:=⟨_,rfl⟩;obtain ⟨oI,hoI⟩:∃ o,mkS false N 0=o:=⟨_,rfl⟩;rw [hoS] at hNt HSX FS ⊢;rw [hoX0] at HO HMX FX0;rw [hoX1] at HMX HSX FX1;rw [hoX2] at HSX FX2 ⊢;rw [hoI] at HII HMX FI;obtain ⟨W,hW⟩:∃ W,W=(w.alloc (Obj.cells #[.bool (dN oS),.slice p (ws (dX oS)).length q,.int .i64 (dE oS)] 42)).alloc (Obj.cells #[.bool false,.slice none 0 0,.int .i64 0] 42):=⟨_,rfl⟩;obtain ⟨gs,hgs⟩:∃ g,g=w.heap.size:=⟨_,rfl⟩;obtain ⟨gb,hgb⟩:∃ g,g=w.heap.size+1:=⟨_,rfl⟩
 have B0:Aside (Lo W gs oS∧Lo W gb o00∧Below w.heap.size w W∧Tab W∧W.heap.size=w.heap.size+2):=by
  have hbW:Below w.heap.size w W:=by rw [hW];exact (below_alloc _ _).trans ((below_alloc _ _).mono (by simp))
  have z1:=Lo.zero (w.alloc (Obj.cells #[.bool (dN oS),.slice p (ws (dX oS)).length q,.int .i64 (dE oS)] 42));rw [World.size_alloc] at z1;refine ⟨?_,?_,hbW,hT.belows hbW,by rw [hW];simp⟩
  · rw [hW,hgs];exact (Lo.new hNt).below (below_alloc _ _)
  · rw [hW,hgb];exact z1
 have HW:=(qsd (ai hW (ai hgs (ai hgb hT))));clear hW hT hNt hx fx hS hN bx1 bx2 bx3 f1 f2 f3 up hoS hoX0 hoX1 hoX2 hoI hm;go_enter Tryz.func63,Tryz.ntmps63
 go_wp2_with fail
 rw [←HW.out.1]
 try rw [←hgb]
 try rw [←hgs]
 refine (HO.out _ B0.out.2.2.2.1).mono ?_;rintro r u ⟨⟨v,rfl,hN⟩,hb⟩;obtain ⟨p1,q1,rfl,hN⟩:=Lo.shape FX0.out hN;obtain ⟨U,hU⟩:∃ U,U=u.alloc (Obj.cells #[.bool (dN oX0),.slice p1 (ws (dX oX0)).length q1,.int .i64 (dE oX0)] 42):=⟨_,rfl⟩;obtain ⟨ga,hga⟩:∃ g,u.heap.size=g:=⟨_,rfl⟩
 have HG:Aside (w.heap.size≤gs∧w.heap.size≤ga∧w.heap.size≤gb∧gs≠ga∧gs≠gb∧ga≠gb):=by
  have h1:=B0.out.2.2.2.2;have h2:=hb.size;have h3:=HW.out.2.1;have h4:=HW.out.2.2.1;exact ⟨by omega,by omega,by omega,by omega,by omega,by omega⟩
 have B2:Aside (St w U gs ga gb oS oX0 o00):=by
  have b1:Below W.heap.size W U:=by rw [hU];exact hb.trans ((below_alloc _ _).mono hb.size)
  exact ⟨B0.out.1.below b1,by rw [hU,←hga];exact Lo.new hN,B0.out.2.1.below b1,B0.out.2.2.1.trans (b1.mono B0.out.2.2.1.size),B0.out.2.2.2.1.belows b1⟩
 have HU:=(qsd (ai hU hga));clear hb hN HO B0 hU hga hgs hgb
 go_upto_region 4 with fail
 rw [←HU.out.1,HU.out.2];clear HU
 go_cut [9] from 18 to 24 (fun v wx=>v=.int .i64 0∧Aside (St w wx gs ga gb oS oX1 o00))
 case first =>
  have hdr:=(Below.refl U.heap.size U).drew;have BD:=qsd (B2.out.below hdr);clear hdr B2;obtain ⟨p9,q9,D9,M9⟩:=BD.out.a;obtain ⟨x0,x1,x2,xf0,xf1,xf2⟩:=D9.facts;have MM9:=qsd M9;clear D9 M9
  go_region_with (first
   | (go_at_call 65
      with_reducible refine (HMX.out _ p9 a2 q9 c2 MM9.out Q2.out BD.out.tab).mono ?_
      rintro r v ⟨⟨z,rfl,hN⟩,hb⟩;obtain ⟨p8,q8,rfl,hN0⟩:=Lo.shape FX1.out hN;have BD:=qsd (BD.out.below hb);have N8:=qsd hN0;obtain ⟨p7,q7,D7,_⟩:=BD.out.a;obtain ⟨x0,x1,x2,xf0,xf1,xf2⟩:=D7.facts;clear hb hN hN0 D7)
   | (go_at_call 45
      with_reducible refine (HII.out _ BD.out.tab).mono ?_
      rintro r v ⟨⟨z,rfl,hN⟩,hb⟩;obtain ⟨a2,c2,rfl,hN0⟩:=Lo.shape FI.out hN;have BD:=qsd (BD.out.below hb);have MM9:=qsd (MM9.out.below hb);have Q2:=qsd hN0;have x0:=(World.cell?_of_block (a:=⟨ga,0,none⟩) (hb.block ga (lt_of_cell13 x0))).trans x0;have x1:=(World.cell?_of_block (a:=⟨ga,1,none⟩) (hb.block ga (lt_of_cell13 x1))).trans x1;have x2:=(World.cell?_of_block (a:=⟨ga,2,none⟩) (hb.block ga (lt_of_cell13 x2))).trans x2;clear hb hN hN0))
  all_goals
   go_wp2_with fail
   go_meet
   case rel=>exact ⟨rfl,BD.out.seta HG.out.2.1 HG.out.2.2.2.1 (fun h=>HG.out.2.2.2.2.2 h.symm) N8.out HW.out.2.2.2⟩
 clear B2;obtain ⟨rfl,B4⟩:=hcut;obtain ⟨pa,qa,Da,Ma⟩:=B4.out.a;obtain ⟨ps,qs,Ds,Ms⟩:=B4.out.s;obtain ⟨x0,x1,x2,xf0,xf1,xf2⟩:=Da.facts;obtain ⟨y0,y1,y2,yf0,yf1,yf2⟩:=Ds.facts;have C9:=hid (HSX.out _ ps pa qs qa Ms Ma B4.out.tab);clear Da Ds Ma Ms
 go_wp2_with fail
 refine C9.out.mono ?_;rintro r v ⟨⟨z,rfl,hN⟩,hb⟩;obtain ⟨p8,q8,rfl,hN0⟩:=Lo.shape FX2.out hN;have BD:=qsd (B4.out.below hb);have hlo:w.heap.size≤wc.heap.size:=B4.out.bel.size;clear x0 x1 x2 xf0 xf1 xf2 y0 y1 y2 yf0 yf1 yf2;obtain ⟨p7,q7,D7,_⟩:=BD.out.a;obtain ⟨p6,q6,D6,_⟩:=BD.out.b;obtain ⟨x0,x1,x2,xf0,xf1,xf2⟩:=D7.facts;obtain ⟨z0,z1,z2,zf0,zf1,zf2⟩:=D6.facts;have hne:=HG.out.2.2.2.2.2;have hne2:gb≠ga:=fun h=>hne h.symm
 have HF:Aside (Dk (st3 ((st3 v ga (.bool (dN oX2)) (.slice p8 (ws (dX oX2)).length q8) (.int .i64 (dE oX2))).setCell ⟨ga,0,none⟩ (.bool false)) gb (.bool false) (.slice p8 (ws (dX oX2)).length q8) (.int .i64 (dE oX2))) gb false (.slice p8 (ws (dX oX2)).length q8) (dE oX2) ∧
  Nt w.heap.size (st3 ((st3 v ga (.bool (dN oX2)) (.slice p8 (ws (dX oX2)).length q8) (.int .i64 (dE oX2))).setCell ⟨ga,0,none⟩ (.bool false)) gb (.bool false) (.slice p8 (ws (dX oX2)).length q8) (.int .i64 (dE oX2))) (.slice p8 (ws (dX oX2)).length q8) (dX oX2) ∧
  Below w.heap.size w (st3 ((st3 v ga (.bool (dN oX2)) (.slice p8 (ws (dX oX2)).length q8) (.int .i64 (dE oX2))).setCell ⟨ga,0,none⟩ (.bool false)) gb (.bool false) (.slice p8 (ws (dX oX2)).length q8) (.int .i64 (dE oX2)))):=by
  have bt:But ga v ((st3 v ga (.bool (dN oX2)) (.slice p8 (ws (dX oX2)).length q8) (.int .i64 (dE oX2))).setCell ⟨ga,0,none⟩ (.bool false)):=(st3_but12 ga v _ _ _).set 0 _;have n1:Nt w.heap.size v (.slice p8 (ws (dX oX2)).length q8) (dX oX2):=hN.mono hlo
  have nb:(Value.slice p8 (ws (dX oX2)).length q8).ownBlock≠some ga:=by
   rcases n1.2 with ⟨e,_⟩|⟨g',cap,cur,e,_,hg,_⟩
   · rw [e];simp [Value.ownBlock]
   · rw [e]
     intro e';obtain rfl:g'=ga:=by simpa [Value.ownBlock] using e'
     rw [show v.heap[g']?=_ from D7] at hg
     simp at hg
  have d6:=D6.but bt hne2;have n2:=n1.off bt nb;have b2:=But.below BD.out.bel bt BD.out.bel.size HG.out.2.1;exact ⟨d6.set _ _ _,n2.off12 d6 _ _ _,st3_bel13 b2 b2.size HG.out.2.2.1 _ _ _⟩
 unfold st3 at HF;clear D7 D6 hN hN0 hb C9 B4 BD hlo;go_wp2;obtain ⟨f0,f1,f2,_,_,_⟩:=HF.out.1.facts;refine bodyPost_ret (v:=.tuple #[.agg #[.bool false,.slice p8 (ws (dX oX2)).length q8,.int .i64 (dE oX2)],.bool true]) (by simp [results,Tryz.results63,go_sem,f0,f1,f2]) rfl ⟨⟨_,_,rfl,HF.out.2.1⟩,HF.out.2.2⟩
end
section
open Go.RowKit J
attribute [local go_sem] st_float
theorem exactlyT (xs:List Nat) (a:Option Addr) (n c:Nat) (w:World) (hn:n=xs.length) (hF:Fs w.heap.size w a xs) (hW:W64 xs) (hf:∀ x ∈ xs,finW x) (hT:Tab w) (hl:n≤65536) :
 Calls Tryz.prog 23 #[.slice a n c] w fun r w'=>(∃ p q,r=.returned (.tuple #[.agg #[.bool (dN (fo8 (fS xs))),.slice p (ws (dX (fo8 (fS xs)))).length q,.int .i64 (dE (fo8 (fS xs)))],.bool true])∧Nt 0 w' (.slice p (ws (dX (fo8 (fS xs)))).length q) (dX (fo8 (fS xs))))∧Below w.heap.size w w':=by
 obtain ⟨m,hm⟩:∃ m:Nat,m=3000:=⟨_,rfl⟩
 have bd:∀ k,k≤xs.length→(fS (xs.take k)).natAbs<2^m:=fun k hk=>by
  obtain ⟨i,hi⟩:∃ i:Nat,i=2098:=⟨_,rfl⟩;have h1:=fS_bd 9218868437227405311 (xs:=xs.take k) (fun x hx=>by have:magW x<9218868437227405312:=hf x (List.mem_of_mem_take hx);omega)
  have h2:vK 9218868437227405311<2^i:=by subst hi;decide +kernel
  have h3:(xs.take k).length≤2^16:=by rw [List.length_take];omega
  have h4:(fS (xs.take k)).natAbs≤2^16*2^i:=Nat.le_trans h1 (Nat.mul_le_mul h3 (Nat.le_of_lt h2));rw [←Nat.pow_add] at h4;exact Nat.lt_of_le_of_lt h4 (Nat.pow_lt_pow_right (by decide) (by omega))
 have FK:∀ k,k≤xs.length→Fm (fo8 (fS (xs.take k))):=fun k hk=>fo_fm13 _ m (by omega) (bd k hk)
 have fx:∀ k,k<xs.length→xs.getD k 0<18446744073709551616∧finW (xs.getD k 0):=fun k hk=>by
  have hm:xs.getD k 0 ∈ xs:=by rw [List.getD_eq_getElem?_getD,List.getElem?_eq_getElem hk];exact List.getElem_mem _
  exact ⟨hW _ hm,hf _ hm⟩
 have AD:Hid (∀ (k:Nat) (U:World) (a b:Option Addr) (c d:Nat),k<xs.length→Nt 0 U (.slice a (ws (dX (fo8 (fS (xs.take k))))).length c) (dX (fo8 (fS (xs.take k))))→Nt 0 U (.slice b (ws (dX (fo8 (fvW (xs.getD k 0))))).length d) (dX (fo8 (fvW (xs.getD k 0))))→Tab U →
  Calls Tryz.prog 62 #[.agg #[.bool (dN (fo8 (fS (xs.take k)))),.slice a (ws (dX (fo8 (fS (xs.take k))))).length c,.int .i64 (dE (fo8 (fS (xs.take k))))],.agg #[.bool (dN (fo8 (fvW (xs.getD k 0)))),.slice b (ws (dX (fo8 (fvW (xs.getD k 0))))).length d,.int .i64 (dE (fo8 (fvW (xs.getD k 0))))]] U fun r w'=>(∃ v,r=.returned (.tuple #[.agg #[.bool (dN (fo8 (fS (xs.take (k+1))))),v,.int .i64 (dE (fo8 (fS (xs.take (k+1)))))],.int .i64 0])∧Nt U.heap.size w' v (dX (fo8 (fS (xs.take (k+1))))))∧Below U.heap.size U w'):=by
  intro k U a b c d hk n1 n2 hT
  have hb2:(fvW (xs.getD k 0)).natAbs<2^m:=by
   obtain ⟨j,hj⟩:∃ j:Nat,j=2098:=⟨_,rfl⟩;exact Nat.lt_of_lt_of_le (top_fv (fx k hk).1 (fx k hk).2 j hj) (Nat.pow_le_pow_right (by decide) (by omega))
  exact addP12' (FK k (by omega)) (fo_fm13 _ m (by omega) hb2) n1 n2 hT (by rw [fS_take xs k hk,fo8_add _ _ m (by omega) (bd k (by omega)) hb2]) (FK (k+1) (by omega))
 have HO:Hid (∀ (k:Nat) (u:World),k<xs.length→Tab u→Calls Tryz.prog 17 #[.float .f64 (xs.getD k 0)] u fun r w'=>(∃ v,r=.returned (.tuple #[.agg #[.bool (dN (fo8 (fvW (xs.getD k 0)))),v,.int .i64 (dE (fo8 (fvW (xs.getD k 0))))],.int .i64 0])∧Nt u.heap.size w' v (dX (fo8 (fvW (xs.getD k 0)))))∧Below u.heap.size u w'):=fun k u hk hT=>of_any8 _ (fx k hk) u hT
 have FV:∀ k,k<xs.length→Fm (fo8 (fvW (xs.getD k 0))):=fun k hk=>by
  obtain ⟨j,hj⟩:∃ j:Nat,j=2098:=⟨_,rfl⟩;exact fo_fm13 _ m (by omega) (Nat.lt_of_lt_of_le (top_fv (fx k hk).1 (fx k hk).2 j hj) (Nat.pow_le_pow_right (by decide) (by omega)))
 obtain ⟨W,hWW⟩:∃ W,W=(w.alloc (Obj.cells #[.bool false,.slice none 0 0,.int .i64 0] 42)).alloc (Obj.cells #[.bool false,.slice none 0 0,.int .i64 0] 42):=⟨_,rfl⟩;obtain ⟨gr,hgr⟩:∃ g,g=w.heap.size:=⟨_,rfl⟩;obtain ⟨gs,hgs⟩:∃ g,g=w.heap.size+1:=⟨_,rfl⟩;have z00:fo8 (fS (xs.take 0))=o00:=by rw [List.take_zero];exact mkS_zero _ _
 have B0:Aside (Lo W gr o00∧Lo W gs (fo8 (fS (xs.take 0)))∧Below w.heap.size w W):=by
  have hbW:Below w.heap.size w W:=by rw [hWW];exact (below_alloc _ _).trans ((below_alloc _ _).mono (by simp))
  have z1:=Lo.zero (w.alloc (Obj.cells #[.bool false,.slice none 0 0,.int .i64 0] 42));rw [World.size_alloc] at z1;refine ⟨?_,?_,hbW⟩
  · rw [hWW,hgr];exact (Lo.zero w).below (below_alloc _ _)
  · rw [z00,hWW,hgs];exact z1
 have HX:=(qsd (ai hn (ai hF (ai FK (ai FV hT)))));have HG:Aside (w.heap.size≤gr∧w.heap.size≤gs∧gr≠gs):=⟨by omega,by omega,by omega⟩
 have HWW:=qsd hWW;have hnb:n<4611686018427387904:=by omega
 obtain ⟨oS,hoS⟩:∃ o,fo8 (fS xs)=o:=⟨_,rfl⟩;rw [hoS];have HoS:=qsd hoS;clear hn hF hW hf hT hl bd FK fx FV z00 hWW hm hoS;go_enter Tryz.func23,Tryz.ntmps23;go_wp2;rw [←HWW.out]
 try rw [←hgs]
 try rw [←hgr]
 clear HWW hgr hgs
 go_loopg [12] n (fun gk iv wr=>∃ k:Nat,gk+k=n∧iv=.int .i64 (k:Nat)∧Aside (Lo wr gr o00∧Lo wr gs (fo8 (fS (xs.take k)))∧Below w.heap.size w wr))
 case atStart=>exact ⟨0,by omega,by simp,B0.out⟩
 case round =>
  clear B0;obtain ⟨k,hgk,rfl,HA⟩:=hrel
  by_cases hk:k<n
  · have hkx:k<xs.length:=by rw [←HX.out.1];exact hk
    obtain ⟨b,off,rfl,hc⟩:=HX.out.2.1.at HA.out.2.2 k hkx;have C:=hid (HO.out k wr hkx (HX.out.2.2.2.2.belows HA.out.2.2));have CA:=hid (fun U a b c d=>AD.out k U a b c d hkx)
    have FV:=qsd (HX.out.2.2.2.1 k hkx);have FK:=qsd (HX.out.2.2.1 (k+1) hkx);obtain ⟨x,hx⟩:∃ x,x=xs.getD k 0:=⟨_,rfl⟩;rw [←hx] at hc C CA FV;obtain ⟨oK,hoK⟩:∃ o,fo8 (fS (xs.take k))=o:=⟨_,rfl⟩;obtain ⟨oN,hoN⟩:∃ o,fo8 (fS (xs.take (k+1)))=o:=⟨_,rfl⟩;obtain ⟨oV,hoV⟩:∃ o,fo8 (fvW x)=o:=⟨_,rfl⟩;rw [hoK] at CA HA;rw [hoN] at CA FK;rw [hoV] at C CA FV;have HN:=qsd hoN;have hd:decide ((k:Int)<(n:Nat))=true:=by simp;omega
    have hkb:k<4611686018427387904:=by omega
    clear hx hoK hoN hoV hkx HO AD
    go_wp2_with fail
    refine C.out.mono ?_;rintro r u ⟨⟨v,rfl,hN⟩,hb⟩;obtain ⟨p1,q1,rfl,hN⟩:=Lo.shape FV.out hN;obtain ⟨U,hU⟩:∃ U,U=u.alloc (Obj.cells #[.bool (dN oV),.slice p1 (ws (dX oV)).length q1,.int .i64 (dE oV)] 42):=⟨_,rfl⟩;obtain ⟨ga,hga⟩:∃ g,u.heap.size=g:=⟨_,rfl⟩
    have B1:Aside (Lo U gr o00∧Lo U gs oK∧Lo U ga oV∧Below w.heap.size w U∧Tab U):=by
     have b1:Below wr.heap.size wr U:=by rw [hU];exact hb.trans ((below_alloc _ _).mono hb.size)
     have b2:=HA.out.2.2.trans (b1.mono HA.out.2.2.size);exact ⟨HA.out.1.below b1,HA.out.2.1.below b1,by rw [hU,←hga];exact Lo.new hN,b2,HX.out.2.2.2.2.belows b2⟩
    have HU:=(qsd (ai hU hga));clear hb hN C HA hU hga
    go_upto_region 8 with fail
    rw [←HU.out.1,HU.out.2];clear HU;obtain ⟨p2,q2,D2,M2⟩:=B1.out.2.1;obtain ⟨p3,q3,D3,M3⟩:=B1.out.2.2.1;obtain ⟨x0,x1,x2,xf0,xf1,xf2⟩:=D2.facts;obtain ⟨y0,y1,y2,yf0,yf1,yf2⟩:=D3.facts;have C2:=hid (CA.out U p2 p3 q2 q3 M2 M3 B1.out.2.2.2.2);clear D2 D3 M2 M3 CA
    go_wp2_with fail
    refine C2.out.mono ?_;rintro r u2 ⟨⟨v,rfl,hN⟩,hb⟩;obtain ⟨p4,q4,rfl,hN⟩:=Lo.shape FK.out hN;clear x0 x1 x2 xf0 xf1 xf2 y0 y1 y2 yf0 yf1 yf2;have s1:=B1.out.2.1.below hb
    have H3:Aside (Lo (st3 u2 gs (.bool (dN oN)) (.slice p4 (ws (dX oN)).length q4) (.int .i64 (dE oN))) gr o00∧Lo (st3 u2 gs (.bool (dN oN)) (.slice p4 (ws (dX oN)).length q4) (.int .i64 (dE oN))) gs oN∧Below w.heap.size w (st3 u2 gs (.bool (dN oN)) (.slice p4 (ws (dX oN)).length q4) (.int .i64 (dE oN)))):=by
     have b3:=B1.out.2.2.2.1.trans (hb.mono B1.out.2.2.2.1.size);exact ⟨(B1.out.1.below hb).other s1 HG.out.2.2 _ _ _,s1.set hN,st3_bel13 b3 b3.size HG.out.2.1 _ _ _⟩
    obtain ⟨p5,q5,D5,_⟩:=s1;obtain ⟨x0,x1,x2,xf0,xf1,xf2⟩:=D5.facts;rw [←HN.out] at H3;unfold st3 at H3;clear D5 hb hN C2 B1;go_wp2
    go_roundg (gk-1)
    case measure=>omega
    case rel=>exact ⟨k+1,by omega,by first | rfl | simp,by rw [HN.out] at H3;rw [HN.out];exact H3.out⟩
  · obtain rfl:n=k:=by omega
    have hd:decide ((n:Int)<(n:Nat))=false:=by simp
    have e:xs.take n=xs:=by rw [List.take_of_length_le];rw [←HX.out.1];omega
    rw [e,HoS.out] at HA;obtain ⟨p4,q4,D4,M4⟩:=HA.out.2.1;obtain ⟨p5,q5,D5,M5⟩:=HA.out.1;obtain ⟨x0,x1,x2,xf0,xf1,xf2⟩:=D4.facts;obtain ⟨z0,z1,z2,zf0,zf1,zf2⟩:=D5.facts
    have HF:Aside (Dk (st3 wr gr (.bool (dN oS)) (.slice p4 (ws (dX oS)).length q4) (.int .i64 (dE oS))) gr (dN oS) (.slice p4 (ws (dX oS)).length q4) (dE oS)∧Nt 0 (st3 wr gr (.bool (dN oS)) (.slice p4 (ws (dX oS)).length q4) (.int .i64 (dE oS))) (.slice p4 (ws (dX oS)).length q4) (dX oS)∧Below w.heap.size w (st3 wr gr (.bool (dN oS)) (.slice p4 (ws (dX oS)).length q4) (.int .i64 (dE oS)))) :=
     ⟨D5.set _ _ _,M4.off12 D5 _ _ _,st3_bel13 HA.out.2.2 HA.out.2.2.size HG.out.1 _ _ _⟩
    unfold st3 at HF;clear D4 M4 D5 M5 HA HO AD e;go_wp2;obtain ⟨f0,f1,f2,_,_,_⟩:=HF.out.1.facts;refine bodyPost_ret (v:=.tuple #[.agg #[.bool (dN oS),.slice p4 (ws (dX oS)).length q4,.int .i64 (dE oS)],.bool true]) (by simp [results,Tryz.results23,go_sem,f0,f1,f2]) rfl ⟨⟨_,_,rfl,HF.out.2.1⟩,HF.out.2.2⟩
end
section
open Go.RowKit J
attribute [local go_sem] st_float B.f64bits B.f64frombits
theorem cmpT {U:World}{a b:Option Addr}{c d:Nat}{A C:Int}(m:Nat) (hm:m≤5000) (hA:A.natAbs<2^m) (hC:C.natAbs<2^m) (N1:Nt 0 U (.slice a (ws (dX (fo8 A))).length c) (dX (fo8 A))) (N2:Nt 0 U (.slice b (ws (dX (fo8 C))).length d) (dX (fo8 C))) :
 Calls Tryz.prog 21 #[.agg #[.bool (dN (fo8 A)),.slice a (ws (dX (fo8 A))).length c,.int .i64 (dE (fo8 A))],.agg #[.bool (dN (fo8 C)),.slice b (ws (dX (fo8 C))).length d,.int .i64 (dE (fo8 C))]] U fun r w'=>r=.returned (.int .i64 (cmpZ A C))∧Below U.heap.size U w':=by
 have F:=fo_fm13 A m (by omega) hA
 have G:=fo_fm13 C m (by omega) hC
 refine (Cmp_any3 (F.a12 N1) (G.a12 N2) (dN (fo8 A)) (dN (fo8 C)) (dE (fo8 A)) (dE (fo8 C)) F.rng.1 F.rng.2 G.rng.1 G.rng.2).mono ?_;rintro r w' ⟨rfl,hb⟩;refine ⟨?_,hb⟩;rw [val_ws,val_ws];have h1:=fo8_fo A m (by omega) hA
 have h2:=fo8_fo C m (by omega) hC
 obtain ⟨n,X,e,q1,_⟩:=fo8_frm A m (by omega) hA
 obtain ⟨n',X',e',q2,_⟩:=fo8_frm C m (by omega) hC
 rw [q1] at h1;rw [q2] at h2;rw [q1,q2]
 show Ending.returned (.int .i64 (cmpV n X e n' X' e'))=_
 rw [cmp_fo h1 h2];have hU:(0:Int)<(UU:Int):=by have:=U_pos;omega
 unfold cmpZ;have e1:A*(UU:Int)<C*(UU:Int)↔A<C:=Int.mul_lt_mul_right hU;have e2:C*(UU:Int)<A*(UU:Int)↔C<A:=Int.mul_lt_mul_right hU
 by_cases c1:A<C
 · rw [if_pos c1,if_pos (e1.2 c1)]
 · rw [if_neg c1,if_neg (fun h=>c1 (e1.1 h))]
   by_cases c2:C<A
   · rw [if_pos c2,if_pos (e2.2 c2)]
   · rw [if_neg c2,if_neg (fun h=>c2 (e2.1 h))]
def LoL (u:World) (L:List (Nat×Option (Bool×Nat×Int))):Prop:=∀ e ∈ L,Lo u e.1 e.2
theorem LoL.below {u v:World}{L:List (Nat×Option (Bool×Nat×Int))}(h:LoL u L) (hb:Below u.heap.size u v):LoL v L:=fun e he=>(h e he).below hb
theorem LoL.new {u:World}{L:List (Nat×Option (Bool×Nat×Int))}(h:LoL u L) {o:Option (Bool×Nat×Int)}{p:Option Addr}{q:Nat}(hN:Nt 0 u (.slice p (ws (dX o)).length q) (dX o)):LoL (u.alloc (Obj.cells #[.bool (dN o),.slice p (ws (dX o)).length q,.int .i64 (dE o)] 42)) ((u.heap.size,o)::L):=by
 intro e he
 rcases List.mem_cons.1 he with rfl|he
 · exact Lo.new hN
 · exact (h e he).below (below_alloc _ _)
theorem LoL.set {u:World}{g:Nat}{o p:Option (Bool×Nat×Int)}{L:List (Nat×Option (Bool×Nat×Int))}(h:LoL u ((g,o)::L)) (hne:∀ e ∈ L,e.1≠g) {a:Option Addr}{c:Nat}(hN:Nt 0 u (.slice a (ws (dX p)).length c) (dX p)):LoL (st3 u g (.bool (dN p)) (.slice a (ws (dX p)).length c) (.int .i64 (dE p))) ((g,p)::L):=by
 have hg:=h (g,o) List.mem_cons_self;intro e he
 rcases List.mem_cons.1 he with rfl|he2
 · exact hg.set hN
 · exact (h e (List.mem_cons_of_mem _ he2)).other hg (hne e he2) _ _ _
theorem LoL.sub {u:World}{L M:List (Nat×Option (Bool×Nat×Int))}(h:LoL u L) (hs:∀ e ∈ M,e ∈ L):LoL u M:=fun e he=>h e (hs e he)
structure Sn (w u:World) (L:List (Nat×Option (Bool×Nat×Int))):Prop where
 l:LoL u L
 b:Below w.heap.size w u
 t:Tab u
theorem Sn.below {w u v:World}{L:List (Nat×Option (Bool×Nat×Int))}(h:Sn w u L) (hb:Below u.heap.size u v):Sn w v L:=⟨h.l.below hb,h.b.trans (hb.mono h.b.size),h.t.belows hb⟩
theorem Sn.new {w u:World}{L:List (Nat×Option (Bool×Nat×Int))}(h:Sn w u L) {o:Option (Bool×Nat×Int)}{p:Option Addr}{q:Nat}(hN:Nt 0 u (.slice p (ws (dX o)).length q) (dX o)):Sn w (u.alloc (Obj.cells #[.bool (dN o),.slice p (ws (dX o)).length q,.int .i64 (dE o)] 42)) ((u.heap.size,o)::L) :=
 ⟨h.l.new hN,h.b.trans ((below_alloc _ _).mono h.b.size),h.t.belows (below_alloc _ _)⟩
theorem Sn.sub {w u:World}{L M:List (Nat×Option (Bool×Nat×Int))}(h:Sn w u L) (hs:∀ e ∈ M,e ∈ L):Sn w u M:=⟨h.l.sub hs,h.b,h.t⟩
theorem Sn.put {w u:World}{g:Nat}{o p:Option (Bool×Nat×Int)}{L:List (Nat×Option (Bool×Nat×Int))}(h:Sn w u ((g,o)::L)) (hne:∀ e ∈ L,e.1≠g) (hg:w.heap.size≤g) (hT:Tab w) {a:Option Addr}{c:Nat}(hN:Nt 0 u (.slice a (ws (dX p)).length c) (dX p)):Sn w (st3 u g (.bool (dN p)) (.slice a (ws (dX p)).length c) (.int .i64 (dE p))) ((g,p)::L):=by
 have hb:=st3_bel13 h.b h.b.size hg (.bool (dN p)) (.slice a (ws (dX p)).length c) (.int .i64 (dE p));exact ⟨h.l.set hne hN,hb,hT.belows hb⟩
theorem nx_ok {x:Nat}(hx:x<18446744073709551616) (hm:magW x+1<9218868437227405312):NXt x<18446744073709551616∧finW (NXt x):=by
 have e:magW x=x%9223372036854775808:=rfl;have hs:negW x=decide (9223372036854775808≤x):=rfl;unfold NXt
 by_cases q:magW x=0
 · rw [if_pos q];decide
 · rw [if_neg q]
   by_cases s:9223372036854775808≤x
   · rw [hs,decide_eq_true s,if_pos rfl]
     exact ⟨by omega,by show (x-1)%9223372036854775808<_;omega⟩
   · rw [hs,decide_eq_false s,if_neg (by decide)]
     exact ⟨by omega,by show (x+1)%9223372036854775808<_;omega⟩
theorem pv_ok {x:Nat}(hx:x<18446744073709551616) (hm:magW x+1<9218868437227405312):PVt x<18446744073709551616∧finW (PVt x):=by
 have e:magW x=x%9223372036854775808:=rfl;have hs:negW x=decide (9223372036854775808≤x):=rfl;unfold PVt
 by_cases q:magW x=0
 · rw [if_pos q];decide
 · rw [if_neg q]
   by_cases s:9223372036854775808≤x
   · rw [hs,decide_eq_true s,if_pos rfl]
     exact ⟨by omega,by show (x+1)%9223372036854775808<_;omega⟩
   · rw [hs,decide_eq_false s,if_neg (by decide)]
     exact ⟨by omega,by show (x-1)%9223372036854775808<_;omega⟩
theorem lo_lt {u:World}{g:Nat}{o:Option (Bool×Nat×Int)}(h:Lo u g o):g<u.heap.size:=by
 obtain ⟨a,c,D,_⟩:=h;exact lt_of_cell13 D.facts.1
theorem ne4 {a b c g4 g5 g6 m s:Nat}{oL oM oS oH oI:Option (Bool×Nat×Int)}(h4:(∀ e ∈ [(m,oM),(s,oS)],e.1<g4)∧a≤g4) (h5:(∀ e ∈ [(g4,oL),(m,oM),(s,oS)],e.1<g5)∧b≤g5) (h6:(∀ e ∈ [(g5,oH),(g4,oL),(m,oM),(s,oS)],e.1<g6)∧c≤g6) (e:Nat×Option (Bool×Nat×Int)) (he:e ∈ [(g6,oI),(g5,oH),(s,oS)]):e.1≠g4:=by
 have q1:s<g4:=h4.1 (s,oS) (by simp)
 have q2:g4<g5:=h5.1 (g4,oL) (by simp)
 have q3:g4<g6:=h6.1 (g4,oL) (by simp)
 simp only [List.mem_cons,List.not_mem_nil,or_false] at he
 rcases he with rfl|rfl|rfl
 · show g6≠g4;omega
 · show g5≠g4;omega
 · show s≠g4;omega
theorem ne5 {a b c g4 g5 g6 m s:Nat}{oL oM oS oH oK:Option (Bool×Nat×Int)}(h4:(∀ e ∈ [(m,oM),(s,oS)],e.1<g4)∧a≤g4) (h5:(∀ e ∈ [(g4,oL),(m,oM),(s,oS)],e.1<g5)∧b≤g5) (h6:(∀ e ∈ [(g5,oH),(g4,oL),(m,oM),(s,oS)],e.1<g6)∧c≤g6) (e:Nat×Option (Bool×Nat×Int)) (he:e ∈ [(g4,oK),(s,oS)]):e.1≠g5:=by
 have q1:s<g5:=h5.1 (s,oS) (by simp)
 have q2:g4<g5:=h5.1 (g4,oL) (by simp)
 simp only [List.mem_cons,List.not_mem_nil,or_false] at he
 rcases he with rfl|rfl
 · show g4≠g5;omega
 · show s≠g5;omega
theorem nearestT (SV:Int) (n x lo hi:Nat) (p:Option Addr) (q:Nat) (w:World) (m:Nat) (hm:m=3000) (hS:SV.natAbs<2^m) (hn0:0<n) (hn:n≤65536) (hT:Tab w)
 (hNt:Nt 0 w (.slice p (ws (dX (fo8 SV))).length q) (dX (fo8 SV))) (H:Nst SV n x lo hi) :
 Calls Tryz.prog 24 #[.agg #[.bool (dN (fo8 SV)),.slice p (ws (dX (fo8 SV))).length q,.int .i64 (dE (fo8 SV))],.int .i64 (n:Nat),.float .f64 x,.float .f64 lo,.float .f64 hi] w fun r w'=>r=.returned (.bool true)∧Below w.heap.size w w':=by
 have hm':∀ z,magW z<9218868437227405312→finW z:=fun z h=>h
 have fx:finW x:=hm' x (by have:=H.mx;omega)
 have fl:finW lo:=hm' lo (by have:=H.ml;omega)
 have fh:finW hi:=H.mh;obtain ⟨nx,hnx⟩:∃ y,y=NXt x:=⟨_,rfl⟩;obtain ⟨pv,hpv⟩:∃ y,y=PVt x:=⟨_,rfl⟩;have wnx:nx<18446744073709551616∧finW nx:=by rw [hnx];exact nx_ok H.wx H.mx
 have wpv:pv<18446744073709551616∧finW pv:=by rw [hpv];exact pv_ok H.wx H.mx
 have HNx:=hid (fun u:World=>nextT H.wx fx u)
 have HPv:=hid (fun u:World=>prevT H.wx fx u)
 have HNl:=hid (fun u:World=>nextT H.wl fl u)
 rw [←hnx] at HNx;rw [←hpv] at HPv
 have OFF:Hid (∀ (y:Nat) (u:World) (p:Option Addr) (q:Nat),y<18446744073709551616→finW y→Tab u→Nt 0 u (.slice p (ws (dX (fo8 SV))).length q) (dX (fo8 SV))→Calls Tryz.prog 63 #[.agg #[.bool (dN (fo8 SV)),.slice p (ws (dX (fo8 SV))).length q,.int .i64 (dE (fo8 SV))],.int .i64 (n:Nat),.float .f64 y] u fun r w' =>
  (∃ a c,r=.returned (.tuple #[.agg #[.bool (dN (fo8 ((SV-fvW y*n).natAbs:Int))),.slice a (ws (dX (fo8 ((SV-fvW y*n).natAbs:Int)))).length c,.int .i64 (dE (fo8 ((SV-fvW y*n).natAbs:Int)))],.bool true])∧Nt u.heap.size w' (.slice a (ws (dX (fo8 ((SV-fvW y*n).natAbs:Int)))).length c) (dX (fo8 ((SV-fvW y*n).natAbs:Int))))∧Below u.heap.size u w') :=
  fun y u p q hy fy hT hN=>offT y SV n p q u hy fy m hm hS hn hT hN
 have bd:∀ y,y<18446744073709551616→finW y→(fvW y).natAbs<2^m∧(fvW y*n).natAbs<2^m∧(((SV-fvW y*n).natAbs:Nat):Int).natAbs<2^(m+1):=fun y hy fy=>by
  obtain ⟨h1,h2,h3⟩:=bndT m hm hS hn y hy fy;exact ⟨h1,h2,by rw [Int.natAbs_natCast];exact h3⟩
 have up:∀ {z:Int},z.natAbs<2^m→z.natAbs<2^(m+1):=fun {z} h=>by rw [Nat.pow_succ];omega
 have CF:Hid (∀ (y:Nat) (U:World) (a b:Option Addr) (c d:Nat),y<18446744073709551616→finW y→Nt 0 U (.slice a (ws (dX (fo8 ((SV-fvW x*n).natAbs:Int)))).length c) (dX (fo8 ((SV-fvW x*n).natAbs:Int)))→Nt 0 U (.slice b (ws (dX (fo8 ((SV-fvW y*n).natAbs:Int)))).length d) (dX (fo8 ((SV-fvW y*n).natAbs:Int))) →
  Calls Tryz.prog 21 #[.agg #[.bool (dN (fo8 ((SV-fvW x*n).natAbs:Int))),.slice a (ws (dX (fo8 ((SV-fvW x*n).natAbs:Int)))).length c,.int .i64 (dE (fo8 ((SV-fvW x*n).natAbs:Int)))],.agg #[.bool (dN (fo8 ((SV-fvW y*n).natAbs:Int))),.slice b (ws (dX (fo8 ((SV-fvW y*n).natAbs:Int)))).length d,.int .i64 (dE (fo8 ((SV-fvW y*n).natAbs:Int)))]] U fun r w'=>r=.returned (.int .i64 (cmpZ ((SV-fvW x*n).natAbs:Int) ((SV-fvW y*n).natAbs:Int)))∧Below U.heap.size U w') :=
  fun y U a b c d hy fy n1 n2=>cmpT (m+1) (by omega) (bd x H.wx fx).2.2 (bd y hy fy).2.2 n1 n2
 have FMy:∀ y,y<18446744073709551616→finW y→Fm (fo8 ((SV-fvW y*n).natAbs:Int)):=fun y hy fy=>fo_fm13 _ (m+1) (by omega) (bd y hy fy).2.2
 have HOl:=hid (fun (u:World) (hT:Tab u)=>of_any8 lo ⟨H.wl,fl⟩ u hT)
 have HOh:=hid (fun (u:World) (hT:Tab u)=>of_any8 hi ⟨H.wh,fh⟩ u hT)
 have HII:Hid (∀ u:World,Tab u→Calls Tryz.prog 45 #[.int .i64 (n:Nat)] u fun r w'=>(∃ v,r=.returned (.agg #[.bool (dN (mkS false n 0)),v,.int .i64 (dE (mkS false n 0))])∧Nt u.heap.size w' v (dX (mkS false n 0)))∧Below u.heap.size u w'):=fun u hT=>by
  have:=Int_any (n:Nat) u hT (by omega) (by omega)
  rw [decide_eq_false (by omega),Int.natAbs_natCast] at this
  exact this
 have HMl:=hid (fun (U:World) (a b:Option Addr) (c d:Nat) (n1:Nt 0 U (.slice a (ws (dX (fo8 (fvW lo)))).length c) (dX (fo8 (fvW lo)))) (n2:Nt 0 U (.slice b (ws (dX (mkS false n 0))).length d) (dX (mkS false n 0))) (hT:Tab U)=>mulI13 m (by omega) (by omega) (bd lo H.wl fl).1 (bd lo H.wl fl).2.1 hn n1 n2 hT)
 have HMh:=hid (fun (U:World) (a b:Option Addr) (c d:Nat) (n1:Nt 0 U (.slice a (ws (dX (fo8 (fvW hi)))).length c) (dX (fo8 (fvW hi)))) (n2:Nt 0 U (.slice b (ws (dX (mkS false n 0))).length d) (dX (mkS false n 0))) (hT:Tab U)=>mulI13 m (by omega) (by omega) (bd hi H.wh fh).1 (bd hi H.wh fh).2.1 hn n1 n2 hT)
 have C1:=hid (fun (U:World) (a b:Option Addr) (c d:Nat) (n1:Nt 0 U (.slice a (ws (dX (fo8 (fvW lo*n)))).length c) (dX (fo8 (fvW lo*n)))) (n2:Nt 0 U (.slice b (ws (dX (fo8 SV))).length d) (dX (fo8 SV)))=>cmpT m (by omega) (bd lo H.wl fl).2.1 hS n1 n2)
 have C2:=hid (fun (U:World) (a b:Option Addr) (c d:Nat) (n1:Nt 0 U (.slice a (ws (dX (fo8 SV))).length c) (dX (fo8 SV))) (n2:Nt 0 U (.slice b (ws (dX (fo8 (fvW hi*n)))).length d) (dX (fo8 (fvW hi*n))))=>cmpT m (by omega) hS (bd hi H.wh fh).2.1 n1 n2)
 have C3:=hid (fun (U:World) (a b:Option Addr) (c d:Nat) (n1:Nt 0 U (.slice a (ws (dX (fo8 (fvW lo*n)))).length c) (dX (fo8 (fvW lo*n)))) (n2:Nt 0 U (.slice b (ws (dX (fo8 (fvW hi*n)))).length d) (dX (fo8 (fvW hi*n))))=>cmpT m (by omega) (bd lo H.wl fl).2.1 (bd hi H.wh fh).2.1 n1 n2)
 have FS:=qsd (fo_fm13 SV m (by omega) hS)
 have FI:=qsd (int_fm n (by omega))
 have FL:=qsd (fo_fm13 _ m (by omega) (bd lo H.wl fl).1)
 have FH:=qsd (fo_fm13 _ m (by omega) (bd hi H.wh fh).1)
 have FLn:=qsd (fo_fm13 _ m (by omega) (bd lo H.wl fl).2.1)
 have FHn:=qsd (fo_fm13 _ m (by omega) (bd hi H.wh fh).2.1)
 have c1:¬ 0<cmpZ (fvW lo*n) SV:=by
  have:=H.le1;unfold cmpZ
  by_cases q1:fvW lo*n<SV
  · rw [if_pos q1];decide
  · rw [if_neg q1,if_neg (by omega)];decide
 have c2:¬ 0<cmpZ SV (fvW hi*n):=by
  have:=H.le2;unfold cmpZ
  by_cases q1:SV<fvW hi*n
  · rw [if_pos q1];decide
  · rw [if_neg q1,if_neg (by omega)];decide
 obtain ⟨k1,hk1⟩:∃ k,cmpZ (fvW lo*n) SV=k:=⟨_,rfl⟩;obtain ⟨k2,hk2⟩:∃ k,cmpZ SV (fvW hi*n)=k:=⟨_,rfl⟩;obtain ⟨k3,hk3⟩:∃ k,cmpZ (fvW lo*n) (fvW hi*n)=k:=⟨_,rfl⟩
 have c3:k3=0∨NXt lo=hi:=by
  rcases H.cl with e|e
  · left;rw [←hk3,e];unfold cmpZ;rw [if_neg (by omega),if_neg (by omega)]
  · exact .inr e
 rw [hk1] at C1 c1;rw [hk2] at C2 c2;rw [hk3] at C3;have d1:decide (0<k1)=false:=by simp;omega
 have d2:decide (0<k2)=false:=by simp;omega
 have HY:Aside (∀ y,y=nx∨y=pv→y<18446744073709551616∧finW y∧(SV-fvW x*n).natAbs≤(SV-fvW y*n).natAbs∧((SV-fvW x*n).natAbs=(SV-fvW y*n).natAbs→x%2=0)):=fun y hy=>by
  rcases hy with rfl|rfl
  · exact ⟨wnx.1,wnx.2,by rw [hnx];exact H.dn,by rw [hnx];exact H.en⟩
  · exact ⟨wpv.1,wpv.2,by rw [hpv];exact H.dp,by rw [hpv];exact H.ep⟩
 have HM9:=(qsd (ai FMy (ai c3 (ai hT (ai H.wx fx)))));obtain ⟨oS,hoS⟩:∃ o,fo8 SV=o:=⟨_,rfl⟩;obtain ⟨oM,hoM⟩:∃ o,fo8 ((SV-fvW x*n).natAbs:Int)=o:=⟨_,rfl⟩;obtain ⟨oL,hoL⟩:∃ o,fo8 (fvW lo)=o:=⟨_,rfl⟩;obtain ⟨oH,hoH⟩:∃ o,fo8 (fvW hi)=o:=⟨_,rfl⟩;obtain ⟨oLn,hoLn⟩:∃ o,fo8 (fvW lo*n)=o:=⟨_,rfl⟩;obtain ⟨oHn,hoHn⟩:∃ o,fo8 (fvW hi*n)=o:=⟨_,rfl⟩;obtain ⟨oI,hoI⟩:∃ o,mkS false n 0=o:=⟨_,rfl⟩;have OFX:=hid (fun (u:World) (p:Option Addr) (q:Nat)=>OFF.out x u p q H.wx fx)
 rw [hoM] at OFX CF;rw [hoS] at hNt OFF OFX C1 C2 FS ⊢;rw [hoL] at HOl HMl FL;rw [hoH] at HOh HMh FH;rw [hoLn] at HMl C1 C3 FLn;rw [hoHn] at HMh C2 C3 FHn;rw [hoI] at HII HMl HMh FI;have FM:=qsd (FMy x H.wx fx);rw [hoM] at FM;obtain ⟨gs,hgs⟩:∃ g,g=w.heap.size:=⟨_,rfl⟩;obtain ⟨W,hW⟩:∃ W,W=w.alloc (Obj.cells #[.bool (dN oS),.slice p (ws (dX oS)).length q,.int .i64 (dE oS)] 42):=⟨_,rfl⟩
 have S0:Aside (Sn w W [(gs,oS)]):=by
  rw [hW,hgs];exact ⟨fun e he=>by rw [List.mem_singleton.1 he];exact Lo.new hNt,below_alloc _ _,hT.belows (below_alloc _ _)⟩
 have HW:=(qsd (ai hW hgs));have NW:Aside (Nt 0 W (.slice p (ws (dX oS)).length q) (dX oS)):=by rw [hW];exact hNt.allocC _
 clear hW hgs hNt hT hS hn bd up FMy c3 H hm' fl fh hnx hpv wnx wpv hoM hoS hoL hoH hoLn hoHn hoI c1 c2 hk1 hk2 hk3 hm fx;go_enter Tryz.func24,Tryz.ntmps24;have C:=hid (OFX.out W p q S0.out.t NW.out);clear NW
 go_wp2_with fail
 rw [←HW.out.1]
 try rw [←HW.out.2]
 refine C.out.mono ?_;rintro r u1 ⟨⟨a1,c1,rfl,hN⟩,hb⟩;replace hN:=hN.mono (Nat.zero_le _);clear C;obtain ⟨U1,hU⟩:∃ U,U=u1.alloc (Obj.cells #[.bool (dN oM),.slice a1 (ws (dX oM)).length c1,.int .i64 (dE oM)] 42):=⟨_,rfl⟩;obtain ⟨gm,hg⟩:∃ g,u1.heap.size=g:=⟨_,rfl⟩;have S1:Aside (Sn w U1 [(gm,oM),(gs,oS)]):=by rw [hU,←hg];exact (S0.out.below hb).new hN
 have HU:=(qsd (ai hU hg));clear hb hN hU hg S0
 go_upto_region 2 with fail
 rw [←HU.out.1,HU.out.2];clear HU
 have B2:Aside (Sn w (U1.alloc (Obj.cells #[.float .f64 nx,.float .f64 pv] 22)) [(gm,oM),(gs,oS)]∧(U1.alloc (Obj.cells #[.float .f64 nx,.float .f64 pv] 22)).cell? ⟨U1.heap.size,0,none⟩=some (.float .f64 nx)∧(U1.alloc (Obj.cells #[.float .f64 nx,.float .f64 pv] 22)).cell? ⟨U1.heap.size,1,none⟩=some (.float .f64 pv)) :=
  ⟨S1.out.below (below_alloc _ _),by unfold World.cell?;simp only [heap_alloc_new];rfl,by unfold World.cell?;simp only [heap_alloc_new];rfl⟩
 go_wp2_with (first | (go_at_call 19;refine (HNx.out _).mono ?_;rintro r z ⟨rfl,hz⟩;rw [hz];clear hz) | (go_at_call 64;refine (HPv.out _).mono ?_;rintro r z ⟨rfl,hz⟩;rw [hz];clear hz))
 obtain ⟨gl,hgl⟩:∃ g,g=U1.heap.size:=⟨_,rfl⟩;rw [←hgl] at B2 ⊢;clear hgl S1 HNx HPv
 go_loopg [38] 2 (fun gk iv wr=>∃ k:Nat,gk+k=2∧iv=.int .i64 (k:Nat)∧Aside (Sn w wr [(gm,oM),(gs,oS)]∧wr.cell? ⟨gl,0,none⟩=some (.float .f64 nx)∧wr.cell? ⟨gl,1,none⟩=some (.float .f64 pv)))
 case atStart=>exact ⟨0,by omega,by simp,B2.out⟩
 case round =>
  clear B2;obtain ⟨k,hgk,rfl,HA⟩:=hrel
  by_cases hk:k<2
  · obtain ⟨y,hy,hyc⟩:∃ y,(y=nx∨y=pv)∧wr.cell? ⟨gl,k,none⟩=some (.float .f64 y):=by
     by_cases k0:k=0
     · subst k0;exact ⟨nx,.inl rfl,HA.out.2.1⟩
     · obtain rfl:k=1:=by omega
       exact ⟨pv,.inr rfl,HA.out.2.2⟩
    obtain ⟨y1,y2,y3,y4⟩:=HY.out y hy;have CO:=hid (fun (u:World) (p:Option Addr) (q:Nat)=>OFF.out y u p q y1 y2)
    have CC:=hid (fun (U:World) (a b:Option Addr) (c d:Nat)=>CF.out y U a b c d y1 y2)
    have FY:=qsd (HM9.out.1 y y1 y2);obtain ⟨oF,hoF⟩:∃ o,fo8 ((SV-fvW y*n).natAbs:Int)=o:=⟨_,rfl⟩;rw [hoF] at CO CC FY;obtain ⟨z,hz⟩:∃ z,cmpZ ((SV-fvW x*n).natAbs:Int) ((SV-fvW y*n).natAbs:Int)=z:=⟨_,rfl⟩
    have z1:z≤0∧(z=0→x%2=0):=by
     rw [←hz];unfold cmpZ
     by_cases q1:((SV-fvW x*n).natAbs:Int)<((SV-fvW y*n).natAbs:Int)
     · rw [if_pos q1];exact ⟨by decide,fun h=>absurd h (by decide)⟩
     · rw [if_neg q1,if_neg (by omega)];exact ⟨by decide,fun _=>y4 (by omega)⟩
    rw [hz] at CC;have HZ:=qsd z1.2;have d3:decide (0<z)=false:=by have:=z1.1;simp;omega
    have hd:decide ((k:Int)<2)=true:=by simp;omega
    have HB:=qsd HA.out.2;have hkb:k<4611686018427387904:=by omega
    clear hz z1 hoF y1 y2 y3 y4 hy;obtain ⟨pb,qb,Db,Mb⟩:=HA.out.1.l (gs,oS) (by simp)
    obtain ⟨xb0,xb1,xb2,yb0,yb1,yb2⟩:=Db.facts;have C:=hid (CO.out wr pb qb HA.out.1.t Mb);clear Db Mb CO
    go_wp2_with fail
    refine C.out.mono ?_;rintro r u2 ⟨⟨a2,c2,rfl,hN⟩,hb⟩;replace hN:=hN.mono (Nat.zero_le _);clear xb0 xb1 xb2 yb0 yb1 yb2 C;obtain ⟨U2,hU⟩:∃ U,U=u2.alloc (Obj.cells #[.bool (dN oF),.slice a2 (ws (dX oF)).length c2,.int .i64 (dE oF)] 42):=⟨_,rfl⟩;obtain ⟨gf,hg⟩:∃ g,u2.heap.size=g:=⟨_,rfl⟩;have S2:Aside (Sn w U2 [(gf,oF),(gm,oM),(gs,oS)]):=by rw [hU,←hg];exact (HA.out.1.below hb).new hN
    have HC2:Aside (U2.cell? ⟨gl,0,none⟩=some (.float .f64 nx)∧U2.cell? ⟨gl,1,none⟩=some (.float .f64 pv)):=by
     have b2:Below wr.heap.size wr U2:=by rw [hU];exact hb.trans ((below_alloc _ _).mono hb.size)
     exact ⟨(b2.cell (p:=⟨gl,0,none⟩) (lt_of_cell13 HA.out.2.1)).trans HA.out.2.1,(b2.cell (p:=⟨gl,1,none⟩) (lt_of_cell13 HA.out.2.2)).trans HA.out.2.2⟩
    have HU:=(qsd (ai hU hg));clear hb hN hU hg HA hyc
    go_upto_region 6 with fail
    rw [←HU.out.1,HU.out.2];clear HU;obtain ⟨pb,qb,Db,Mb⟩:=S2.out.l (gm,oM) (by simp)
    obtain ⟨xb0,xb1,xb2,yb0,yb1,yb2⟩:=Db.facts;obtain ⟨pd,qd,Dd,Md⟩:=S2.out.l (gf,oF) (by simp)
    obtain ⟨xd0,xd1,xd2,yd0,yd1,yd2⟩:=Dd.facts;have C:=hid (CC.out U2 pb pd qb qd Mb Md);clear Db Mb Dd Md CC
    go_wp2_with fail
    refine C.out.mono ?_;rintro r u3 ⟨rfl,hb⟩
    have S3:Aside (Sn w u3 [(gm,oM),(gs,oS)]∧u3.cell? ⟨gl,0,none⟩=some (.float .f64 nx)∧u3.cell? ⟨gl,1,none⟩=some (.float .f64 pv)) :=
     ⟨⟨(S2.out.below hb).l.sub (fun e he=>List.mem_cons_of_mem _ he),(S2.out.below hb).b,(S2.out.below hb).t⟩,(hb.cell (p:=⟨gl,0,none⟩) (lt_of_cell13 HC2.out.1)).trans HC2.out.1,(hb.cell (p:=⟨gl,1,none⟩) (lt_of_cell13 HC2.out.2)).trans HC2.out.2⟩
    clear xb0 xb1 xb2 yb0 yb1 yb2 xd0 xd1 xd2 yd0 yd1 yd2 C hb S2 HC2
    by_cases hz0:z=0
    · have e0:(z==0)=true:=by simp [hz0]
      have ev:=HZ.out hz0;have eb:(bits .and .u64 (x:Int) 1 != 0)=false:=by rw [and_one64 x HM9.out.2.2.2.1,ev];rfl
      subst hz0;go_wp2
      go_roundg (gk-1)
      case measure=>omega
      case rel=>exact ⟨k+1,by omega,by first | rfl | simp,S3.out⟩
    · have e0:(z==0)=false:=by simp [hz0]
      go_wp2
      go_roundg (gk-1)
      case measure=>omega
      case rel=>exact ⟨k+1,by omega,by first | rfl | simp,S3.out⟩
  · obtain rfl:k=2:=by omega
    have hd:decide (((2:Nat):Int)<2)=false:=by decide
    have S3:=qsd HA.out.1;clear HA hgk
    go_wp2_with fail
    refine (HOl.out _ S3.out.t).mono ?_;rintro r u4 ⟨⟨v,rfl,hN⟩,hb⟩;obtain ⟨a4,c4,rfl,hN⟩:=Lo.shape FL.out hN;obtain ⟨U4,hU⟩:∃ U,U=u4.alloc (Obj.cells #[.bool (dN oL),.slice a4 (ws (dX oL)).length c4,.int .i64 (dE oL)] 42):=⟨_,rfl⟩;obtain ⟨g4,hg⟩:∃ g,u4.heap.size=g:=⟨_,rfl⟩;have S4:Aside (Sn w U4 ((g4,oL)::[(gm,oM),(gs,oS)])):=by rw [hU,←hg];exact (S3.out.below hb).new hN
    have L4:Aside ((∀ e ∈ [(gm,oM),(gs,oS)],e.1<g4)∧w.heap.size≤g4):=by rw [←hg];exact ⟨fun e he=>lo_lt ((S3.out.below hb).l e he),(S3.out.below hb).b.size⟩
    have HU:=(qsd (ai hU hg));clear hb hN hU hg S3
    go_upto_region 11 with fail
    rw [←HU.out.1,HU.out.2];clear HU
    go_wp2_with fail
    refine (HOh.out _ S4.out.t).mono ?_;rintro r u5 ⟨⟨v,rfl,hN⟩,hb⟩;obtain ⟨a5,c5,rfl,hN⟩:=Lo.shape FH.out hN;obtain ⟨U5,hU⟩:∃ U,U=u5.alloc (Obj.cells #[.bool (dN oH),.slice a5 (ws (dX oH)).length c5,.int .i64 (dE oH)] 42):=⟨_,rfl⟩;obtain ⟨g5,hg⟩:∃ g,u5.heap.size=g:=⟨_,rfl⟩;have S5:Aside (Sn w U5 ((g5,oH)::[(g4,oL),(gm,oM),(gs,oS)])):=by rw [hU,←hg];exact (S4.out.below hb).new hN
    have L5:Aside ((∀ e ∈ [(g4,oL),(gm,oM),(gs,oS)],e.1<g5)∧w.heap.size≤g5):=by rw [←hg];exact ⟨fun e he=>lo_lt ((S4.out.below hb).l e he),(S4.out.below hb).b.size⟩
    have HU:=(qsd (ai hU hg));clear hb hN hU hg S4
    go_upto_region 12 with fail
    rw [←HU.out.1,HU.out.2];clear HU
    go_wp2_with fail
    refine (HII.out _ S5.out.t).mono ?_;rintro r u6 ⟨⟨v,rfl,hN⟩,hb⟩;obtain ⟨a6,c6,rfl,hN⟩:=Lo.shape FI.out hN;obtain ⟨U6,hU⟩:∃ U,U=u6.alloc (Obj.cells #[.bool (dN oI),.slice a6 (ws (dX oI)).length c6,.int .i64 (dE oI)] 42):=⟨_,rfl⟩;obtain ⟨g6,hg⟩:∃ g,u6.heap.size=g:=⟨_,rfl⟩;have S6:Aside (Sn w U6 ((g6,oI)::[(g5,oH),(g4,oL),(gm,oM),(gs,oS)])):=by rw [hU,←hg];exact (S5.out.below hb).new hN
    have L6:Aside ((∀ e ∈ [(g5,oH),(g4,oL),(gm,oM),(gs,oS)],e.1<g6)∧w.heap.size≤g6):=by rw [←hg];exact ⟨fun e he=>lo_lt ((S5.out.below hb).l e he),(S5.out.below hb).b.size⟩
    have HU:=(qsd (ai hU hg));clear hb hN hU hg S5
    go_upto_region 13 with fail
    rw [←HU.out.1,HU.out.2];clear HU;obtain ⟨pe,qe,De,Me⟩:=S6.out.l (g4,oL) (by simp)
    obtain ⟨xe0,xe1,xe2,ye0,ye1,ye2⟩:=De.facts;obtain ⟨pf,qf,Df,Mf⟩:=S6.out.l (g6,oI) (by simp)
    obtain ⟨xf0,xf1,xf2,yf0,yf1,yf2⟩:=Df.facts;have C:=hid (HMl.out _ pe pf qe qf Me Mf S6.out.t);clear De Me Df Mf
    go_wp2_with fail
    refine C.out.mono ?_;rintro r u7 ⟨⟨v,rfl,hN⟩,hb⟩;obtain ⟨a7,c7,rfl,hN⟩:=Lo.shape FLn.out hN;clear xe0 xe1 xe2 ye0 ye1 ye2 xf0 xf1 xf2 yf0 yf1 yf2 C;have SQ:=qsd (S6.out.below hb);obtain ⟨U7,hU⟩:∃ U,U=st3 u7 g4 (.bool (dN oLn)) (.slice a7 (ws (dX oLn)).length c7) (.int .i64 (dE oLn)):=⟨_,rfl⟩
    have S7:Aside (Sn w U7 ((g4,oLn)::[(g6,oI),(g5,oH),(gs,oS)])):=by
     rw [hU];exact (SQ.out.sub (M:=(g4,oL)::[(g6,oI),(g5,oH),(gs,oS)]) (fun e he=>by simp only [List.mem_cons,List.not_mem_nil,or_false] at he ⊢;rcases he with h | h | h | h <;> simp [h])).put (fun e he=>ne4 L4.out L5.out L6.out e he) (L4.out.2) HM9.out.2.2.1 hN
    unfold st3 at hU;have HU:=qsd hU;clear hU hb hN S6;obtain ⟨pe,qe,De,Me⟩:=SQ.out.l (g4,oL) (by simp)
    obtain ⟨xe0,xe1,xe2,ye0,ye1,ye2⟩:=De.facts;clear De Me SQ
    go_upto_region 14 with fail
    rw [←HU.out];clear HU xe0 xe1 xe2 ye0 ye1 ye2;obtain ⟨pe,qe,De,Me⟩:=S7.out.l (g5,oH) (by simp)
    obtain ⟨xe0,xe1,xe2,ye0,ye1,ye2⟩:=De.facts;obtain ⟨pf,qf,Df,Mf⟩:=S7.out.l (g6,oI) (by simp)
    obtain ⟨xf0,xf1,xf2,yf0,yf1,yf2⟩:=Df.facts;have C:=hid (HMh.out _ pe pf qe qf Me Mf S7.out.t);clear De Me Df Mf
    go_wp2_with fail
    refine C.out.mono ?_;rintro r u8 ⟨⟨v,rfl,hN⟩,hb⟩;obtain ⟨a8,c8,rfl,hN⟩:=Lo.shape FHn.out hN;clear xe0 xe1 xe2 ye0 ye1 ye2 xf0 xf1 xf2 yf0 yf1 yf2 C;have SQ:=qsd (S7.out.below hb);obtain ⟨U8,hU⟩:∃ U,U=st3 u8 g5 (.bool (dN oHn)) (.slice a8 (ws (dX oHn)).length c8) (.int .i64 (dE oHn)):=⟨_,rfl⟩
    have S8:Aside (Sn w U8 ((g5,oHn)::[(g4,oLn),(gs,oS)])):=by
     rw [hU];exact (SQ.out.sub (M:=(g5,oH)::[(g4,oLn),(gs,oS)]) (fun e he=>by simp only [List.mem_cons,List.not_mem_nil,or_false] at he ⊢;rcases he with h | h | h <;> simp [h])).put (fun e he=>ne5 L4.out L5.out L6.out e he) (L5.out.2) HM9.out.2.2.1 hN
    unfold st3 at hU;have HU:=qsd hU;clear hU hb hN S7;obtain ⟨pe,qe,De,Me⟩:=SQ.out.l (g5,oH) (by simp)
    obtain ⟨xe0,xe1,xe2,ye0,ye1,ye2⟩:=De.facts;clear De Me SQ
    go_upto_region 15 with fail
    rw [←HU.out];clear HU xe0 xe1 xe2 ye0 ye1 ye2;obtain ⟨pe,qe,De,Me⟩:=S8.out.l (g4,oLn) (by simp)
    obtain ⟨xe0,xe1,xe2,ye0,ye1,ye2⟩:=De.facts;obtain ⟨pf,qf,Df,Mf⟩:=S8.out.l (gs,oS) (by simp)
    obtain ⟨xf0,xf1,xf2,yf0,yf1,yf2⟩:=Df.facts;have C:=hid (C1.out _ pe pf qe qf Me Mf);clear De Me Df Mf
    go_wp2_with fail
    refine C.out.mono ?_;rintro r u9 ⟨rfl,hb⟩;have S9:=qsd (S8.out.below hb);clear xe0 xe1 xe2 ye0 ye1 ye2 xf0 xf1 xf2 yf0 yf1 yf2 C hb S8;obtain ⟨pe,qe,De,Me⟩:=S9.out.l (gs,oS) (by simp)
    obtain ⟨xe0,xe1,xe2,ye0,ye1,ye2⟩:=De.facts;obtain ⟨pf,qf,Df,Mf⟩:=S9.out.l (g5,oHn) (by simp)
    obtain ⟨xf0,xf1,xf2,yf0,yf1,yf2⟩:=Df.facts;have C:=hid (C2.out _ pe pf qe qf Me Mf);clear De Me Df Mf
    go_wp2_with fail
    refine C.out.mono ?_;rintro r uA ⟨rfl,hb⟩;have SA:=qsd (S9.out.below hb);clear xe0 xe1 xe2 ye0 ye1 ye2 xf0 xf1 xf2 yf0 yf1 yf2 C hb S9;obtain ⟨pe,qe,De,Me⟩:=SA.out.l (g4,oLn) (by simp)
    obtain ⟨xe0,xe1,xe2,ye0,ye1,ye2⟩:=De.facts;obtain ⟨pf,qf,Df,Mf⟩:=SA.out.l (g5,oHn) (by simp)
    obtain ⟨xf0,xf1,xf2,yf0,yf1,yf2⟩:=Df.facts;have C:=hid (C3.out _ pe pf qe qf Me Mf);clear De Me Df Mf
    go_wp2_with fail
    refine C.out.mono ?_;rintro r uB ⟨rfl,hb⟩;have SB:=qsd (SA.out.below hb);clear xe0 xe1 xe2 ye0 ye1 ye2 xf0 xf1 xf2 yf0 yf1 yf2 C hb SA
    by_cases k0:k3=0
    · have e0:(k3==0)=true:=by simp [k0]
      go_wp2;go_ret;exact ⟨rfl,SB.out.b⟩
    · have e0:(k3==0)=false:=by simp [k0]
      have e1:NXt lo=hi:=HM9.out.2.1.resolve_left k0;rw [e1] at HNl
      go_wp2_with fail
      refine (HNl.out _).mono ?_;rintro r z ⟨rfl,hz⟩;rw [hz];clear hz;go_wp2;go_ret;exact ⟨rfl,SB.out.b⟩
end
section
open Go.RowKit J
theorem exV_someT {V:Int}(h0:-(HB:Int)<V) (h1:V<(HB:Int)):∃ n X e,exV V=some (n,X,e)∧mkS n X e=some (n,X,e):=by
 by_cases hv:V=0
 · subst hv
   exact ⟨false,0,0,by unfold exV;exact mkS_zero _ _,mkS_zero _ _⟩
 · have hb:bl V.natAbs≤4238:=by
    refine Nat.le_of_not_lt (fun q=>?_)
    obtain ⟨k,hk⟩:∃ k,k=4238:=⟨_,rfl⟩;rw [←hk] at q;have h2:=(bl_gt V.natAbs k).1 q;have h3:=HB_two k hk;omega
   have hlo:lo V.natAbs≤bl V.natAbs:=by
    obtain ⟨m,o1,o2,o3⟩:=odd_part V.natAbs (by omega)
    omega
   have hs:mkS (decide (V<0)) V.natAbs (-2148)=some (decide (V<0),V.natAbs/2^lo V.natAbs,-2148+(lo V.natAbs:Int)):=by
    unfold mkS;rw [if_neg (by omega),if_neg (by omega)]
   exact ⟨_,_,_,hs,mkS_idem (mkS_frm hs)⟩
theorem vd_no (ok:Bool) (a b:Int):(vd ok 0 0 0 a b).2=false:=by
 unfold vd
 (repeat' split) <;> first | rfl | (exfalso;omega)
theorem rd_keyT {V:Int}{mode:Int}(h0:-(HB:Int)<V) (h1:V<(HB:Int)) (q:Sp) (hq:q.n=0∧q.u=0∧q.d=0):(V=0→rd10 V q mode 0 0=(nt (snd q.n q.u q.d q.m q.p q.a) q.n q.u q.d q.m q.p q.a mode,0))∧(V≠0→rd10 V q mode 0 0=rndS (exV V) mode):=by
 obtain ⟨q1,q2,q3⟩:=hq;have hv:(vd (snd q.n q.u q.d q.m q.p q.a&&may 0 0) q.n q.u q.d 0 0).2=false:=by rw [q1,q2,q3];exact vd_no _ _ _
 have hr:rd10 V q mode 0 0=rd7 V q mode 0 0:=by unfold rd10;rw [if_neg (by omega),if_neg (by omega)]
 rw [hr];refine ⟨fun hV=>?_,fun hV=>?_⟩
 · have ha:ahd V q mode 0 0=(nt (snd q.n q.u q.d q.m q.p q.a) q.n q.u q.d q.m q.p q.a mode,true,0):=by unfold ahd;rw [hv,if_neg (by decide),if_pos hV]
   unfold rd7;rw [ha,if_pos rfl]
 · have ha:ahd V q mode 0 0=(0,false,0):=by unfold ahd;rw [hv,if_neg (by decide),if_neg hV]
   obtain ⟨n,X,e,h2,h3⟩:=exV_someT h0 h1;unfold rd7;rw [ha,if_neg (by decide),h2]
   show rndS (mkS n X e) mode=_
   rw [h3]
theorem sum_lies {xs:List Nat}(hW:W64 xs) (hf:∀ x ∈ xs,finW x) (hl:xs.length≤65536) (hS:fS xs≠0) :
 ∃ K t m,Lies K t m (fS xs).natAbs 1∧∀ mode:Int,0≤mode→mode≤4→rndS (exV (vS xs)) mode=(wd64 (decide (fS xs<0)) (rK mode (decide (fS xs<0)) K t m),0):=by
 obtain ⟨j,hj⟩:∃ k:Nat,k=1074:=⟨_,rfl⟩;have hV:=vS_fS j hj hW hf;have hpj:=Nat.two_pow_pos j;have hV0:vS xs≠0:=by rw [hV];intro h;rcases Int.mul_eq_zero.1 h with q | q;exact hS q;omega
 have hs:decide (vS xs<0)=decide (fS xs<0):=by
  rw [hV];refine decide_eq_decide.2 ⟨fun h=>?_,fun h=>Int.mul_neg_of_neg_of_pos h (by omega)⟩
  rcases Int.lt_or_le (fS xs) 0 with q|q
  · exact q
  · have:=Int.mul_nonneg q (Int.natCast_nonneg (2^j));omega
 obtain ⟨k,hk,hb⟩:=vS_bd hW hl;obtain ⟨X,e,e1,e2,e3,e4,e5,_,F⟩:=ex_parts13 hV0 k (by omega) hb
 have L:=lies X e e2 (by omega) (by omega) (-2148) e3 (by omega)
 refine ⟨_,_,_,L.ratio (V':=(fS xs).natAbs) (S':=1) (by omega) ?_,fun mode h0 h4=>?_⟩
 · have q:X*2^(e - -2148).toNat=(vS xs).natAbs:=by rw [←e5];congr 2
   have ej:(-1074 - -2148:Int).toNat=j:=by omega
   rw [q,hV,Int.natAbs_mul,Int.natAbs_natCast,Nat.mul_one,ej]
 · rw [e1,rndS_form mode _ X e h0 h4,hs]
   unfold rS rW;rw [if_neg (by omega),if_neg (by omega),rndK_eq]
theorem k_top {K V n T:Nat}{t:Bool}{m:Int}(hL:Lies K t m V n) (h:V≤n*vK T):K≤T:=by
 have h1:vK K*n≤V:=by
  cases t
  · exact Nat.le_of_lt (hL.low rfl)
  · rw [hL.one rfl];exact Nat.le_refl _
 have h2:vK K≤vK T:=Nat.le_of_mul_le_mul_right (by rw [Nat.mul_comm n] at h;exact Nat.le_trans h1 h) hL.pos
 refine Nat.le_of_not_lt (fun q=>?_)
 have:=vK_lt.2 q;omega
theorem vK_13:8192*vK 9110782046170513408=vK 9169328841326329856:=by decide +kernel
theorem nst_sum {xs:List Nat}(hW:W64 xs) (hm:∀ x ∈ xs,magW x≤9110782046170513408) (hl:xs.length≤8192) :
 ∃ x lo hi,rd10 (vS xs) (sS xs) 0 0 0=(x,0)∧rd10 (vS xs) (sS xs) 3 0 0=(lo,0)∧rd10 (vS xs) (sS xs) 2 0 0=(hi,0)∧Nst (fS xs) 1 x lo hi:=by
 have hf:∀ x ∈ xs,finW x:=fun x hx=>by show magW x<_;have:=hm x hx;omega
 have hq:=sS_fin hW hf (by omega)
 have hbd:=vS_bound xs hW xs.length (Nat.le_refl _);rw [List.take_length] at hbd
 have hHB:-(HB:Int)<vS xs∧vS xs<(HB:Int):=by
  have h3:xs.length*QB≤65536*QB:=Nat.mul_le_mul_right _ (by omega)
  have h4:=QB_HB;have h5:=QB_pos;omega
 obtain ⟨j,hj⟩:∃ k:Nat,k=1074:=⟨_,rfl⟩
 by_cases h0:fS xs=0
 · have hV:vS xs=0:=by rw [vS_fS j hj hW hf,h0,Int.zero_mul]
   have R:=fun mode:Int=>(rd_keyT (mode:=mode) hHB.1 hHB.2 (sS xs) hq).1 hV
   refine ⟨_,_,_,R 0,R 3,R 2,?_⟩;rw [h0];exact nst_zero (by omega) (nt_nought _ _ _ _ _ _ _ _) (nt_nought _ _ _ _ _ _ _ _) (nt_nought _ _ _ _ _ _ _ _)
 · have hV:vS xs≠0:=by
    rw [vS_fS j hj hW hf];intro h;have:=Nat.two_pow_pos j
    rcases Int.mul_eq_zero.1 h with q|q;exact h0 q;omega
   obtain ⟨K,t,m,hL,hR⟩:=sum_lies hW hf (by omega) h0
   have R:=fun mode:Int=>(rd_keyT (mode:=mode) hHB.1 hHB.2 (sS xs) hq).2 hV
   refine ⟨_,_,_,(R 0).trans (hR 0 (by omega) (by omega)),(R 3).trans (hR 3 (by omega) (by omega)),(R 2).trans (hR 2 (by omega) (by omega)),?_⟩
   refine nst_lies h0 hL ?_ _ rfl;have h1:=fS_bd 9110782046170513408 hm
   have h2:(fS xs).natAbs≤1*vK 9169328841326329856:=by
    rw [←vK_13,Nat.one_mul];exact Nat.le_trans h1 (Nat.mul_le_mul_right _ hl)
   have:=k_top hL h2;omega
theorem nst_mean {xs:List Nat}(hW:W64 xs) (hm:∀ x ∈ xs,magW x≤9110782046170513408) (hne:xs≠[]) (hl:xs.length≤8192) :
 ∃ x lo hi,meanR xs 0 0 0=(x,0)∧meanR xs 3 0 0=(lo,0)∧meanR xs 2 0 0=(hi,0)∧Nst (fS xs) xs.length x lo hi:=by
 have hf:∀ x ∈ xs,finW x:=fun x hx=>by show magW x<_;have:=hm x hx;omega
 have M:=fun (mode:Int) (h:askE mode=0)=>mean_fin (mode:=mode) (pa:=0) (pb:=0) hW hf (by omega) h (by decide)
 have hp:0<xs.length:=List.length_pos_iff.2 hne;obtain ⟨j,hj⟩:∃ k:Nat,k=1074:=⟨_,rfl⟩
 by_cases h0:fS xs=0
 · have hV:vS xs=0:=by rw [vS_fS j hj hW hf,h0,Int.zero_mul]
   have R:∀ mode:Int,levR xs (sS xs) mode=(nt (snd (sS xs).n (sS xs).u (sS xs).d (sS xs).m (sS xs).p (sS xs).a) (sS xs).n (sS xs).u (sS xs).d (sS xs).m (sS xs).p (sS xs).a mode,0):=fun mode=>by unfold levR;rw [if_neg hne,if_pos hV]
   refine ⟨_,_,_,(M 0 (by decide)).trans (R 0),(M 3 (by decide)).trans (R 3),(M 2 (by decide)).trans (R 2),?_⟩
   rw [h0];exact nst_zero hp (nt_nought _ _ _ _ _ _ _ _) (nt_nought _ _ _ _ _ _ _ _) (nt_nought _ _ _ _ _ _ _ _)
 · obtain ⟨K,t,m,hL,hR⟩:=mean_lies hW hf hne (by omega) h0
   have R:=fun (mode:Int) (a:0≤mode) (b:mode≤4)=>hR mode a b (sS xs)
   have ew:∀ r:Nat,r+(if fS xs<0 then 9223372036854775808 else 0)=wd64 (decide (fS xs<0)) r:=fun r=>by
    unfold wd64
    by_cases q:fS xs<0
    · rw [if_pos q,decide_eq_true q,if_pos rfl]
    · rw [if_neg q,decide_eq_false q,if_neg (by decide)]
   refine ⟨_,_,_,(M 0 (by decide)).trans (R 0 (by omega) (by omega)),(M 3 (by decide)).trans (R 3 (by omega) (by omega)),(M 2 (by decide)).trans (R 2 (by omega) (by omega)),?_⟩
   rw [ew,ew,ew];refine nst_lies h0 hL ?_ _ rfl;have:=k_top hL (fS_bd 9110782046170513408 hm);omega
theorem fS_bdT {xs:List Nat}(hm:∀ x ∈ xs,magW x≤9110782046170513408) (hl:xs.length≤8192) (m:Nat) (h:m=3000):(fS xs).natAbs<2^m:=by
 have h1:=fS_bd 9110782046170513408 hm;have h2:(fS xs).natAbs≤vK 9169328841326329856:=by rw [←vK_13];exact Nat.le_trans h1 (Nat.mul_le_mul_right _ hl)
 have h3:vK 9169328841326329856<2^3000:=by decide +kernel
 subst h;exact Nat.lt_of_le_of_lt h2 h3
end
section
open Go.RowKit
def Rf (lo:Nat) (w:World) (v:Value) (R:List Nat):Prop:=w.ownsRow lo 22 1 v R.length (R.map Fw10)
theorem Rf.nil (lo:Nat) (w:World):Rf lo w (.slice none 0 0) []:=World.ownsRow_nil w lo 22 1
theorem Rf.alloc {lo:Nat}{w:World}{v:Value}{R:List Nat}(h:Rf lo w v R) (o:Obj):Rf lo (w.alloc o) v R:=World.ownsRow.alloc h o
theorem Rf.lt {lo:Nat}{w:World}{v:Value}{R:List Nat}(h:Rf lo w v R) (b:Nat) (hb:v.ownBlock=some b):lo≤b∧b<w.heap.size:=by
 rcases h.2 with ⟨rfl,_⟩|⟨g,cap,cur,rfl,hlo,hg,_⟩
 · simp [Value.ownBlock] at hb
 · simp [Value.ownBlock] at hb
   subst hb;exact ⟨hlo,(Array.getElem?_eq_some_iff.1 hg).1⟩
theorem Rf.shape {lo:Nat}{w:World}{v:Value}{R:List Nat}(h:Rf lo w v R) (hR:0<R.length):∃ g cap,v=.slice (some ⟨g,0,none⟩) R.length cap∧lo≤g∧g<w.heap.size∧R.length≤cap∧cap≤maxLen∧∀ i,i<R.length→w.cell? ⟨g,i,none⟩=some (.float .f64 (R.getD i 0)):=by
 have h':=h
 rcases h.2 with ⟨_,h0⟩|⟨g,cap,cur,rfl,hlo,hg,hn,hm,hs,ht⟩
 · omega
 · refine ⟨g,cap,rfl,hlo,(Array.getElem?_eq_some_iff.1 hg).1,hn,hm,fun i hi=>?_⟩
   have:=World.ownsRow.cellAt h' i (by omega)
   rw [this,List.getElem?_map,List.getElem?_eq_getElem hi,List.getD_eq_getElem?_getD,List.getElem?_eq_getElem hi]
   rfl
theorem Rf.shape0 {lo:Nat}{w:World}{v:Value}{R:List Nat}(h:Rf lo w v R):∃ ao cap,v=.slice ao R.length cap∧R.length≤cap:=by
 rcases h.2 with ⟨rfl,h0⟩|⟨g,cap,cur,rfl,_,_,hn,_⟩
 · exact ⟨none,0,by rw [h0],by omega⟩
 · exact ⟨_,cap,rfl,hn⟩
theorem Rf.fs {lo:Nat}{w:World}{ao:Option Addr}{n c:Nat}{R:List Nat}(h:Rf lo w (.slice ao n c) R):Fs w.heap.size w ao R:=by
 intro hne;obtain ⟨g,cap,e,h1,h2,h3,h4,h5⟩:=h.shape (List.length_pos_iff.2 hne)
 cases e
 exact ⟨g,0,h2,rfl,fun i hi=>by rw [Nat.zero_add];exact h5 i hi⟩
theorem append_flts (w:World) (lo:Nat) (v:Value) (xs src:List Nat) (ao:Option Addr) (m c:Nat) (ty:TypeId) (hown:Rf lo w v xs) (hm:m=src.length)
 (hR:src≠[]→∃ b off,ao=some ⟨b,off,none⟩∧∀ i,i<src.length→w.cell? ⟨b,off+i,none⟩=some (.float .f64 (src.getD i 0)))
 (hnn:ao≠none) (hbig:xs.length+m≤100000) (hlo:lo≤w.heap.size) :
 ∃ v' w',(Builtin.append_ #[24,24] ty #[v,.slice ao m c]).run Tryz.prog w=.ok v' w'∧Rf lo w' v' (xs++src)∧w.grownBy w' v.ownBlock∧(v'.ownBlock=v.ownBlock∨v'.ownBlock=some w.heap.size):=by
 obtain ⟨i0,hi,hz0,hz1,hz2⟩:=info_parts Tryz.info_f64;subst hm;obtain ⟨a,rfl⟩:∃ a,ao=some a:=by cases ao;exact absurd rfl hnn;exact ⟨_,rfl⟩
 obtain ⟨v',w',h1,h2,h3,_,h5⟩:=run_append_own_at (P:=Tryz.prog) w lo 24 ty 22 i0 (.float .f64 0) 1 8 Tryz.und_floats hi hz0 hz1 hz2 rfl (by decide) v xs.length (xs.map Fw10) hown a src.length c (src.map Fw10) (by simp) (by
  intro j u hj;have hj2:j<src.length:=by have:=(List.getElem?_eq_some_iff.1 hj).1;simpa using this
  obtain ⟨b,off,e,hc⟩:=hR (by intro e;subst e;simp at hj2)
  cases e
  have hadd:(⟨b,off,none⟩:Addr).add j=⟨b,off+j,none⟩:=by unfold Addr.add;split <;> simp_all
  rw [hadd,hc j hj2];rw [List.getElem?_map,List.getElem?_eq_getElem hj2] at hj
  rw [List.getD_eq_getElem?_getD,List.getElem?_eq_getElem hj2]
  exact hj) (by
  intro u hu;obtain ⟨x,_,rfl⟩:=List.mem_map.1 hu
  rfl) (by unfold maxLen;omega) (by omega) hlo
 exact ⟨v',w',h1,by unfold Rf;rw [List.map_append,List.length_append];exact h2,h3,h5⟩
theorem wpList_append_flt {w:World}{ops:Array Oper}{rest:List Oper}{o:Oper}{a:Act}{Q:Exit→Act→World→Prop}(hgd:o.guard=none) (s x:Operand)
 (ho:o.op=.call { callee:=.builtin .append,args:=#[s,x],argTypes:=#[24,24] }) (v u:Value) (hs:a.eval s=v) (hx:a.eval x=u) (v':Value) (w':World)
 (hrun:(Builtin.append_ #[24,24] o.type #[v,u]).run Tryz.prog w=.ok v' w') (h:wpList Tryz.prog ops Q rest (a.put o.dst v') w'):wpList Tryz.prog ops Q (o::rest) a w:=by
 refine wpList_plain hgd fun K hK=>?_
 unfold Oper.wp;simp [execOp,ho,resolve,invoke,builtin,hs,hx,hrun,Result.andThen];exact hK _ _ h
end
section
open Go.RowKit J
attribute [local go_sem] st_float B.f64bits B.f64frombits
theorem ldexp_powT (e E:Nat) (x:Int) (w:World) (he0:0<e) (he1:e<2047) (hE0:0<E) (hE:E<2047) (hx0:-3000≤x) (hx1:x≤3000) (hxE:(E:Int)=x+e) :
 Calls Tryz.prog 59 #[.float .f64 (B.bw false e 0),.int .i64 x] w fun r w'=>r=.returned (.float .f64 (B.bw false E 0))∧w'=w:=by
 have hb:B.bw false e 0=e*4503599627370496+0:=by unfold B.bw;simp
 have hd:B.bw false E 0=E*4503599627370496+0:=by unfold B.bw;simp
 exact B.ldexp_norm (B.bw false e 0) e 0 (B.bw false E 0) x (x+((e:Int)-1023)) ((E:Int)*4503599627370496) w (by rw [hb];omega) hx0 hx1 he0 he1 (by omega)
  (by rw [B.eq_zero false e 0 (by omega) (by omega)];simp;omega) (hid fun u=>B.isInf0 e 0 (by omega) (by omega) u) (hid fun u=>B.nan_no e 0 (by omega) (by omega) u) (hid fun u=>B.normalize_any e 0 he0 (by omega) (by omega) u)
  (B.bw_exp false e 0 (by omega) (by omega)) (B.mask_clear e 0 (by omega) (by omega)) rfl (by omega) (by omega) (by omega) (by omega) (by omega) (B.join_exp E 0 (by omega) (by omega)) (B.mul_one _ (by rw [hd];omega) (by rw [hd];omega) _)
theorem LdexpT (E:Nat) (x:Int) (r:Nat) (hE0:0<E) (hE:E<2047) (hx0:-3000≤x) (hx1:x≤3000) (hxE:(E:Int)=x+(1023:Nat)) (hr:B.bw false E 0=r) (w:World):Calls Tryz.prog 20 #[.float .f64 4607182418800017408,.int .i64 x] w fun r' w'=>r'=.returned (.float .f64 r)∧w'=w:=by
 have H:=hid (ldexp_powT 1023 E x w (by decide) (by decide) hE0 hE hx0 hx1 hxE)
 rw [show B.bw false 1023 0=4607182418800017408 by decide,hr] at H
 go_enter Tryz.func20,Tryz.ntmps20
 go_wp2_with fail
 refine H.out.mono ?_;rintro r w1 ⟨rfl,rfl⟩;go_wp2;go_ret;exact ⟨rfl,rfl⟩
theorem Ldexp1000 (w:World):Calls Tryz.prog 20 #[.float .f64 4607182418800017408,.int .i64 1000] w fun r w'=>r=.returned (.float .f64 9110782046170513408)∧w'=w:=LdexpT 2023 1000 _ (by decide) (by decide) (by decide) (by decide) (by decide) (by decide) w
theorem Ldexp52 (w:World):Calls Tryz.prog 20 #[.float .f64 4607182418800017408,.int .i64 (-52)] w fun r w'=>r=.returned (.float .f64 4372995238176751616)∧w'=w:=LdexpT 971 (-52) _ (by decide) (by decide) (by decide) (by decide) (by decide) (by decide) w
theorem bwT {x:Nat}(hx:x<18446744073709551616):∃ s e f,e<2048∧f<4503599627370496∧x=B.bw s e f∧magW x=B.bw false e f:=by
 have hm:magW x<9223372036854775808:=by unfold magW;omega
 refine ⟨negW x,magW x/4503599627370496,magW x%4503599627370496,by omega,by omega,?_,?_⟩
 · unfold B.bw negW magW at *
   by_cases h:9223372036854775808≤x
   · rw [decide_eq_true h];simp only [Bool.toNat_true];omega
   · rw [decide_eq_false h];simp only [Bool.toNat_false];omega
 · unfold B.bw
   simp only [Bool.toNat_false];omega
theorem absT {x:Nat}(hx:x<18446744073709551616) (w:World):Calls Tryz.prog 22 #[.float .f64 x] w fun r w'=>r=.returned (.float .f64 (magW x))∧w'=w:=by
 obtain ⟨s,e,f,h1,h2,h3,h4⟩:=bwT hx;have:=B.abs_any s e f h1 h2 w;rw [←h3,←h4] at this;exact this
def smT (x:Nat):Bool:=decide (magW x≤9110782046170513408)
theorem leT {m:Nat}(hm:m<9223372036854775808):(FloatKind.f64.format.order m 9110782046170513408==some .lt || FloatKind.f64.format.order m 9110782046170513408==some .eq)=decide (m≤9110782046170513408):=by
 by_cases hn:m≤9218868437227405312
 · have h1:=lt64 false false m 9110782046170513408 hn (by decide)
   have h2:=eq64 false false m 9110782046170513408 hn (by decide)
   have e:∀ k,k<9223372036854775808→wd64 false k=k:=fun k hk=>by unfold wd64;simp
   rw [e m hm,e _ (by decide)] at h1 h2
   rw [h1,h2];unfold sK;simp only [Bool.false_eq_true,if_false];rw [←Bool.decide_or];exact decide_eq_decide.2 (by omega)
 · have hmm:magW m=m:=by unfold magW;omega
   obtain ⟨s,t,hr⟩:=read_nanW m (by rw [hmm];omega)
   have ho:FloatKind.f64.format.order m 9110782046170513408=none:=by
    show Ieee.Datum.order (Ieee.double.read m) (Ieee.double.read 9110782046170513408)=none
    rw [hr];rfl
   rw [ho,decide_eq_false (by omega)]
   rfl
theorem take_snT (l:List Nat) (k:Nat) (h:k<l.length):l.take (k+1)=l.take k++[l.getD k 0]:=by
 rw [List.take_succ_eq_append_getElem h,List.getD_eq_getElem?_getD,List.getElem?_eq_getElem h];rfl
theorem ft_take {zs:List Nat}{k:Nat}(h:k<zs.length):(zs.take (k+1)).filter smT=if smT (zs.getD k 0) then (zs.take k).filter smT++[zs.getD k 0] else (zs.take k).filter smT:=by
 rw [take_snT zs k h,List.filter_append];generalize zs.getD k 0=y
 cases hs:smT y <;> simp [hs]
theorem fs_takeT {B:Nat}{w:World}{a:Option Addr}{xs:List Nat}(h:Fs B w a xs) (k:Nat):Fs B w a (xs.take k):=by
 intro hne;obtain ⟨b,off,h1,h2,h3⟩:=h (by rintro rfl;simp at hne)
 refine ⟨b,off,h1,h2,fun i hi=>?_⟩
 rw [List.length_take] at hi;rw [h3 i (by omega),List.getD_eq_getElem?_getD,List.getD_eq_getElem?_getD,List.getElem?_take,if_pos (by omega)]
theorem cl1:cmpZ (fvW 4607182418800017408) (fvW 4611686018427387904)=-1∧cmpZ (fvW 4611686018427387904) (fvW 4607182418800017408)=1:=by decide +kernel
theorem cl2:(fvW 4607182418800017408).natAbs<2^3000∧(fvW 4611686018427387904).natAbs<2^3000:=by decide +kernel
theorem cl3:rd10 (vS [4602678819172646912,4598175219545276416]) (sS [4602678819172646912,4598175219545276416]) 0 0 0=(4604930618986332160,0):=by decide +kernel
theorem cl4:NXt 4607182418800017408=4607182418800017409:=by decide
theorem kp_all {zs K:List Nat}(hW:W64 zs) (hl:zs.length≤4096) (hK:K=zs.filter smT++[4602678819172646912]):W64 K∧(∀ x ∈ K,magW x≤9110782046170513408)∧K≠[]∧K.length≤4097:=by
 have hm:∀ x ∈ K,x<18446744073709551616∧magW x≤9110782046170513408:=fun x hx=>by
  rw [hK] at hx
  rcases List.mem_append.1 hx with h|h
  · obtain ⟨h1,h2⟩:=List.mem_filter.1 h
    exact ⟨hW x h1,of_decide_eq_true h2⟩
  · rw [List.mem_singleton.1 h];decide
 refine ⟨fun x hx=>(hm x hx).1,fun x hx=>(hm x hx).2,by rw [hK];simp,?_⟩
 rw [hK,List.length_append];have:=List.length_filter_le smT zs;simp;omega
structure En (Z u:World) (gs gp:Nat) (o:Option (Bool×Nat×Int)):Prop where
 l:Lo u gs o
 p0:u.cell? ⟨gp,0,none⟩=some (.int .i64 0)
 p1:u.cell? ⟨gp,1,none⟩=some (.int .i64 0)
 b:Below Z.heap.size Z u
theorem En.below {Z u v:World}{gs gp:Nat}{o:Option (Bool×Nat×Int)}(h:En Z u gs gp o) (hb:Below u.heap.size u v):En Z v gs gp o :=
 ⟨h.l.below hb,(hb.cell (p:=⟨gp,0,none⟩) (lt_of_cell13 h.p0)).trans h.p0,(hb.cell (p:=⟨gp,1,none⟩) (lt_of_cell13 h.p1)).trans h.p1,h.b.trans (hb.mono h.b.size)⟩
end
end Go.Proofs.YtmkmndlpjenemaaGreatDoor
