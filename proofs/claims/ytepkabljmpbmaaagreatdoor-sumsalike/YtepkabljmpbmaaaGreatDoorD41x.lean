import Derived.Test.YtepkabljmpbmaaaGreatDoorD32x
import Derived.Test.YtepkabljmpbmaaaGreatDoorD21x
import Derived.Test.YtepkabljmpbmaaaGreatDoorW53x
import Derived.Laws.Bits64
import Derived.Laws.Bits64b
import Derived.Test.YtepkabljmpbmaaaGreatDoorD14x
import Derived.BigQuiet
import Derived.Deep.Cut
import Derived.Test.YtepkabljmpbmaaaGreatDoorW33x
import Derived.Deep.RegionWith
import Derived.Deep.RegionHeld3
import Derived.Deep.CutRange
import Derived.Test.YtepkabljmpbmaaaGreatDoorBIeeex
set_option linter.unusedVariables false
set_option linter.unusedSimpArgs false
set_option maxHeartbeats 16000000
set_option maxRecDepth 20000
namespace Go.Proofs.YtepkabljmpbmaaaGreatDoor
namespace J
end J
section
open Go.RowKit
theorem mkS_idem {n:Bool}{X:Nat}{e:Int}(F:Frm n X e):mkS n X e=some (n,X,e):=by
 unfold mkS;rcases F.odd with h|⟨rfl,rfl,rfl⟩
 · have h1:=F.size;have h2:=F.up;have h3:=F.down;rw [if_neg (by omega),lo_odd1 h,if_neg (by omega),Nat.pow_zero,Nat.div_one];simp
 · rw [if_pos rfl]
theorem addUp_frm {n m:Bool}{X Y:Nat}{e f:Int}{n':Bool}{Z:Nat}{g:Int}(h:addUp n X e m Y f=some (n',Z,g)):Frm n' Z g:=by
 unfold addUp at h
 split at h
 · cases h
 · split at h
   · exact mkS_frm h
   · split at h
     · exact mkS_frm h
     · exact mkS_frm h
theorem addF_frm {n m:Bool}{X Y:Nat}{e f:Int}(FX:Frm n X e) (FY:Frm m Y f) {n':Bool}{Z:Nat}{g:Int}(h:addF (n,X,e) (m,Y,f)=some (n',Z,g)):Frm n' Z g:=by
 unfold addF at h;simp only at h
 split at h
 · cases h;exact FY
 · split at h
   · cases h;exact FX
   · split at h
     · exact addUp_frm h
     · exact addUp_frm h
theorem addD_some {o p:Option (Bool×Nat×Int)}(h:(addD o p).isSome=true):∃ x y z,o=some x∧p=some y∧addF x y=some z∧addD o p=some z:=by
 cases o with
 | none=>cases h
 | some x =>
   cases p with
   | none=>cases h
   | some y =>
     obtain ⟨z,hz⟩:=Option.isSome_iff_exists.1 h;exact ⟨x,y,z,rfl,rfl,hz,hz⟩
structure Fv (B:Int) (o:Option (Bool×Nat×Int)) (z:Int):Prop where
 ex:∃ n X e,o=some (n,X,e)∧Frm n X e∧zv B (n,X,e)=z
theorem Frm.base {n:Bool}{X:Nat}{e:Int}(F:Frm n X e) {B:Int}(hB:B≤-1048576):X=0∨B≤e:=.inr (by have:=F.down;omega)
theorem Fv.add {B:Int}(hB:B≤-1048576) {o p:Option (Bool×Nat×Int)}{x y:Int}(h1:Fv B o x) (h2:Fv B p y) (h:(addD o p).isSome=true):Fv B (addD o p) (x+y):=by
 obtain ⟨n,X,e,rfl,F,rfl⟩:=h1.ex;obtain ⟨m,Y,f,rfl,G,rfl⟩:=h2.ex;obtain ⟨_,_,z,e1,e2,hz,hd⟩:=addD_some h
 cases e1;cases e2
 obtain ⟨n',Z,g⟩:=z;exact ⟨n',Z,g,hd,addF_frm F G hz,zv_addF hz B (F.base hB) (G.base hB)⟩
theorem cmpI_scale (x y k:Nat) (hk:0<k):cmpI (x*k) (y*k)=cmpI x y:=by
 unfold cmpI;simp only [Nat.mul_lt_mul_right hk]
theorem cmpP_base (X:Nat) (e:Int) (Y:Nat) (f B:Int) (h1:B≤e) (h2:B≤f):cmpP X e Y f=cmpI (X*2^(e-B).toNat) (Y*2^(f-B).toNat):=by
 unfold cmpP
 by_cases h:e<f
 · rw [if_pos h,←cmpI_scale _ _ (2^(e-B).toNat) (Nat.two_pow_pos _),Nat.mul_assoc,←Nat.pow_add,show (f-e).toNat+(e-B).toNat=(f-B).toNat by omega]
 · rw [if_neg h,←cmpI_scale _ _ (2^(f-B).toNat) (Nat.two_pow_pos _),Nat.mul_assoc,←Nat.pow_add,show (e-f).toNat+(f-B).toNat=(e-B).toNat by omega]
theorem pos_iff (X k:Nat):X*2^k=0↔X=0:=by
 constructor
 · intro h;rcases Nat.mul_eq_zero.1 h with h|h
   · exact h
   · have:=Nat.two_pow_pos k;omega
 · rintro rfl;exact Nat.zero_mul _
end
section
open Go.RowKit
theorem plc_floor (dg:Nat) (least top:Int) (X:Nat) (e:Int) (ho:X%2=1) (Bs:Int) (h1:Bs≤e) (h2:Bs≤least) (hin:¬ top<e+(bl X:Int)) :
 Bs≤(plc dg least top X e).2.1 ∧
 (((plc dg least top X e).2.2.1=true∧X*2^(e-Bs).toNat=(plc dg least top X e).1*2^((plc dg least top X e).2.1-Bs).toNat) ∨
  ((plc dg least top X e).2.2.1=false∧(plc dg least top X e).1*2^((plc dg least top X e).2.1-Bs).toNat<X*2^(e-Bs).toNat∧X*2^(e-Bs).toNat<((plc dg least top X e).1+1)*2^((plc dg least top X e).2.1-Bs).toNat ∧
   ((plc dg least top X e).2.2.2=-1∧2*(X*2^(e-Bs).toNat)<(2*(plc dg least top X e).1+1)*2^((plc dg least top X e).2.1-Bs).toNat ∨
    (plc dg least top X e).2.2.2=0∧2*(X*2^(e-Bs).toNat)=(2*(plc dg least top X e).1+1)*2^((plc dg least top X e).2.1-Bs).toNat ∨
    (plc dg least top X e).2.2.2=1∧(2*(plc dg least top X e).1+1)*2^((plc dg least top X e).2.1-Bs).toNat<2*(X*2^(e-Bs).toNat)))):=by
 unfold plc;rw [if_neg hin];simp only;obtain ⟨ex,hex⟩:∃ ex,max (e+(bl X:Int)-(dg:Int)) least=ex:=⟨_,rfl⟩;rw [hex];have hle:least≤ex:=by omega
 by_cases hoff:ex-e≤0
 · rw [if_pos hoff];simp only;refine ⟨by omega,.inl ⟨trivial,?_⟩⟩;rw [Nat.mul_assoc,←Nat.pow_add,show (-(ex-e)).toNat+(ex-Bs).toNat=(e-Bs).toNat by omega]
 · rw [if_neg hoff];simp only;obtain ⟨k,hk⟩:∃ k:Nat,(ex-e).toNat=k:=⟨_,rfl⟩;have hk0:0<k:=by omega
   have hexB:(ex-Bs).toNat=k+(e-Bs).toNat:=by omega
   have hk1:(ex-e-1).toNat=k-1:=by omega
   rw [hk,hexB,hk1,Nat.pow_add];obtain ⟨Q,hQ⟩:∃ Q,2^(e-Bs).toNat=Q:=⟨_,rfl⟩;have hQ0:0<Q:=by rw [←hQ];exact Nat.two_pow_pos _
   rw [hQ];have hdm:=Nat.div_add_mod X (2^k);have hmod:=Nat.mod_lt X (Nat.two_pow_pos k);obtain ⟨F,hF⟩:∃ F,X/2^k=F:=⟨_,rfl⟩;obtain ⟨R,hR⟩:∃ R,X%2^k=R:=⟨_,rfl⟩;have hhalf:2^k=2*2^(k-1):=by rw [show k=k-1+1 by omega,Nat.pow_succ,Nat.mul_comm];rfl
   have hbit:X/2^(k-1)%2=R/2^(k-1):=by
    rw [←hR,hhalf];rw [Nat.mul_comm 2,Nat.mod_mul_right_div_self]
   obtain ⟨Hf,hHf⟩:∃ Hf,2^(k-1)=Hf:=⟨_,rfl⟩;have hHf0:0<Hf:=by rw [←hHf];exact Nat.two_pow_pos _
   rw [hHf] at hhalf hbit ⊢;rw [hbit];rw [hhalf] at hdm hmod hF hR ⊢;rw [hF,hR] at hdm;rw [hR] at hmod;rw [hF]
   have hR0:R≠0:=by
    intro h;rw [h,Nat.add_zero,Nat.mul_assoc] at hdm;omega
   have e1:F*(2*Hf*Q)=(F*(2*Hf))*Q:=(Nat.mul_assoc _ _ _).symm;have e2:(F+1)*(2*Hf*Q)=((F+1)*(2*Hf))*Q:=(Nat.mul_assoc _ _ _).symm
   have e3:(2*F+1)*(2*Hf*Q)=(2*(F*(2*Hf))+2*Hf)*Q:=by
    rw [Nat.add_mul,Nat.add_mul,Nat.one_mul,Nat.mul_assoc 2 F,←Nat.mul_assoc F,Nat.mul_assoc 2 (F*(2*Hf)) Q]
   have e4:2*(X*Q)=(2*X)*Q:=by rw [Nat.mul_assoc]
   have e5:2*Hf*F=F*(2*Hf):=Nat.mul_comm _ _;rw [e5] at hdm;have e6:(F+1)*(2*Hf)=F*(2*Hf)+2*Hf:=by rw [Nat.add_mul,Nat.one_mul]
   rw [e1,e2,e3,e4,e6];generalize F*(2*Hf)=G at hdm ⊢;refine ⟨by omega,.inr ⟨trivial,Nat.mul_lt_mul_of_pos_right (by omega) hQ0,Nat.mul_lt_mul_of_pos_right (by omega) hQ0,?_⟩⟩
   by_cases hone:ex-e=1
   · rw [if_pos hone];have hk1':k=1:=by omega
     have hHf1:Hf=1:=by rw [←hHf,hk1']
     refine .inr (.inl ⟨rfl,?_⟩);congr 1;omega
   · rw [if_neg hone]
     have hHf2:Hf%2=0:=by
      rw [←hHf,show k-1=k-2+1 by omega,Nat.pow_succ];omega
     have hRodd:R%2=1:=by
      have:G%2=0∨True:=.inr trivial;rw [←hR];rw [Nat.mod_mul_right_mod];exact ho
     by_cases hge:Hf≤R
     · have hd1:R/Hf=1:=by
        rw [Nat.div_eq_iff hHf0];omega
       rw [hd1,if_pos rfl];refine .inr (.inr ⟨rfl,Nat.mul_lt_mul_of_pos_right ?_ hQ0⟩);have:R≠Hf:=by intro h;rw [h] at hRodd;omega
       omega
     · have hd0:R/Hf=0:=Nat.div_eq_of_lt (by omega);rw [hd0,if_neg (by omega)];exact .inl ⟨rfl,Nat.mul_lt_mul_of_pos_right (by omega) hQ0⟩
def flK (X:Nat) (e:Int):Nat:=((plc 53 (-1074) 1024 X e).2.1+1074).toNat*4503599627370496+(plc 53 (-1074) 1024 X e).1
abbrev vK (K:Nat):Nat:=B.val Ieee.double K
theorem vK_lt {K L:Nat}:vK K<vK L↔K<L:=B.val_lt_iff Ieee.double
theorem vK_word (j F:Nat) (h:j=0∨4503599627370496≤F) (hF:F≤9007199254740992):vK (j*4503599627370496+F)=F*2^j:=by
 have:=B.val_at Ieee.double j F (by rw [B.dBin];exact h) (by rw [B.dBin];omega);rw [B.dBin] at this;exact this
structure Lies (K:Nat) (at':Bool) (mid:Int) (V S:Nat):Prop where
 fin:K<9218868437227405312
 pos:0<S
 one:at'=true→V=vK K*S
 low:at'=false→vK K*S<V
 mids:at'=false→V<vK (K+1)*S→(mid=-1∧2*V<vK K*S+vK (K+1)*S∨mid=0∧2*V=vK K*S+vK (K+1)*S∨mid=1∧vK K*S+vK (K+1)*S<2*V)
 high:at'=false→V<vK (K+1)*S∨(K=9218868437227405311∧mid=1)
theorem lies (X:Nat) (e:Int) (hX:X%2=1) (he0:-1048576≤e) (he1:e≤1048576) (Bs:Int) (h1:Bs≤e) (h2:Bs≤-1074) :
 Lies (flK X e) (plc 53 (-1074) 1024 X e).2.2.1 (plc 53 (-1074) 1024 X e).2.2.2 (X*2^(e-Bs).toNat) (2^(-1074-Bs).toNat):=by
 have hX0:X≠0:=by omega
 obtain ⟨f1,f2,f3,f4⟩:=plc_facts X e hX0 he0 he1;obtain ⟨j,hj⟩:∃ j:Nat,((plc 53 (-1074) 1024 X e).2.1+1074).toNat=j:=⟨_,rfl⟩;have hS:0<2^(-1074-Bs).toNat:=Nat.two_pow_pos _
 have hw:∀ F,F≤9007199254740992→(j=0∨4503599627370496≤F)→vK (j*4503599627370496+F)*2^(-1074-Bs).toNat=F*2^((plc 53 (-1074) 1024 X e).2.1-Bs).toNat:=by
  intro F hF hn;rw [vK_word j F hn hF,Nat.mul_assoc,←Nat.pow_add];congr 2;omega
 have hn1:j=0∨4503599627370496≤(plc 53 (-1074) 1024 X e).1:=by
  rcases f4 with h|h
  · left;omega
  · exact .inr h
 have w1:=hw (plc 53 (-1074) 1024 X e).1 (by omega) hn1;have w2:=hw ((plc 53 (-1074) 1024 X e).1+1) (by omega) (by rcases hn1 with h | h;exact .inl h;exact .inr (by omega));have hflK:flK X e=j*4503599627370496+(plc 53 (-1074) 1024 X e).1:=by unfold flK;rw [hj]
 have hflK1:flK X e+1=j*4503599627370496+((plc 53 (-1074) 1024 X e).1+1):=by rw [hflK];omega
 have hfin:flK X e<9218868437227405312:=by rw [hflK];omega
 rw [←hflK] at w1;rw [←hflK1] at w2
 by_cases hin:1024<e+(bl X:Int)
 · have hp:plc 53 (-1074) 1024 X e=((2^53-1:Nat),((1024:Int)-((53:Nat):Int)),false,(1:Int)):=by unfold plc;rw [if_pos hin]
   have hK:flK X e=9218868437227405311:=by unfold flK;rw [hp];rfl
   refine ⟨hfin,hS,fun h=>(by rw [hp] at h;cases h),fun _=>?_,fun _ hlt=>?_,fun _=>.inr ⟨hK,(by rw [hp])⟩⟩
   · rw [w1];have hlow:(2^53-1)*2^(971-Bs).toNat<2^53*2^(971-Bs).toNat:=Nat.mul_lt_mul_of_pos_right (by decide) (Nat.two_pow_pos _)
     have hup:2^53*2^(971-Bs).toNat≤X*2^(e-Bs).toNat:=by
      have hb:=bl_ge X hX0;have hbp:=bl_pos X hX0;refine Nat.le_trans ?_ (Nat.mul_le_mul_right _ hb);rw [←Nat.pow_add,←Nat.pow_add];exact Nat.pow_le_pow_right (by omega) (by omega)
     rw [hp];exact Nat.lt_of_lt_of_le hlow hup
   · exfalso;rw [w2,hp] at hlt
     have hup:2^53*2^(971-Bs).toNat≤X*2^(e-Bs).toNat:=by
      have hb:=bl_ge X hX0;have hbp:=bl_pos X hX0;refine Nat.le_trans ?_ (Nat.mul_le_mul_right _ hb);rw [←Nat.pow_add,←Nat.pow_add];exact Nat.pow_le_pow_right (by omega) (by omega)
     exact absurd hlt (Nat.not_lt.2 hup)
 · obtain ⟨_,hfl⟩:=plc_floor 53 (-1074) 1024 X e hX Bs h1 h2 hin
   have hmid:vK (flK X e)*2^(-1074-Bs).toNat+vK (flK X e+1)*2^(-1074-Bs).toNat=(2*(plc 53 (-1074) 1024 X e).1+1)*2^((plc 53 (-1074) 1024 X e).2.1-Bs).toNat:=by
    rw [w1,w2,←Nat.add_mul];congr 1;omega
   rcases hfl with ⟨ht,hv⟩|⟨hf,hlo,hhi,hm⟩
   · exact ⟨hfin,hS,fun _=>(by rw [w1];exact hv),fun h=>(by rw [ht] at h;cases h),fun h=>(by rw [ht] at h;cases h),fun h=>(by rw [ht] at h;cases h)⟩
   · refine ⟨hfin,hS,fun h=>(by rw [hf] at h;cases h),fun _=>(by rw [w1];exact hlo),fun _ _=>(by rw [hmid];exact hm),fun _=>.inl (by rw [w2];exact hhi)⟩
end
section
open Go.RowKit
theorem vS_le {K L S:Nat}(h:K≤L):vK K*S≤vK L*S:=by
 rcases Nat.lt_or_ge K L with k|k
 · exact Nat.mul_le_mul_right _ (Nat.le_of_lt (vK_lt.2 k))
 · rw [show K=L by omega];exact Nat.le_refl _
theorem vS_lt {K L S:Nat}(hS:0<S) (h:K<L):vK K*S<vK L*S:=Nat.mul_lt_mul_of_pos_right (vK_lt.2 h) hS
theorem Lies.ge {K:Nat}{t:Bool}{m:Int}{V S:Nat}(h:Lies K t m V S):vK K*S≤V:=by
 cases ht:t
 · exact Nat.le_of_lt (h.low ht)
 · rw [h.one ht];exact Nat.le_refl _
def rK (mode:Int) (n:Bool) (K:Nat) (t:Bool) (m:Int):Nat:=if t then K else if outS mode K m n then K+1 else K
theorem outS_par (mode:Int) (j F:Nat) (m:Int) (n:Bool):outS mode (j*4503599627370496+F) m n=outS mode F m n:=by
 unfold outS;rw [show (j*4503599627370496+F)%2=F%2 by omega]
theorem rndK_eq (mode:Int) (n:Bool) (X:Nat) (e:Int):rndK mode n X e=rK mode n (flK X e) (plc 53 (-1074) 1024 X e).2.2.1 (plc 53 (-1074) 1024 X e).2.2.2:=by
 unfold rndK rK flK;simp only;rw [outS_par]
 split
 · rfl
 · split <;> omega
end
section
open Go.RowKit
def wd64 (s:Bool) (K:Nat):Nat:=K+(if s then 9223372036854775808 else 0)
def sK (s:Bool) (K:Nat):Int:=if s then -(K:Int) else K
theorem wd64_bw (s:Bool) (K:Nat) (h:K≤9218868437227405312):wd64 s K=B.bw s (K/4503599627370496) (K%4503599627370496)∧K/4503599627370496<2048∧K%4503599627370496<4503599627370496∧B.odd (K/4503599627370496) (K%4503599627370496)=false∧B.pl s (K/4503599627370496) (K%4503599627370496)=sK s K:=by
 refine ⟨?_,by omega,by omega,?_,?_⟩
 · unfold wd64 B.bw
   cases s
   · simp;omega
   · simp;omega
 · unfold B.odd;simp;omega
 · unfold B.pl B.sg sK;rw [show K/4503599627370496*4503599627370496+K%4503599627370496=K by omega]
def rS (n:Bool) (X:Nat):Bool:=if X=0 then false else n
def rW (mode:Int) (n:Bool) (X:Nat) (e:Int):Nat:=if X=0 then 0 else rndK mode n X e
theorem rndS_form (mode:Int) (n:Bool) (X:Nat) (e:Int) (h0:0≤mode) (h4:mode≤4):rndS (some (n,X,e)) mode=(wd64 (rS n X) (rW mode n X e),0):=by
 unfold rndS;rw [if_neg (by omega)];simp only;unfold rS rW wd64
 by_cases h:X=0
 · rw [if_pos h,if_pos h,if_pos h];rfl
 · rw [if_neg h,if_neg h,if_neg h]
theorem rW_le (mode:Int) (n:Bool) (X:Nat) (e:Int) (F:Frm n X e):rW mode n X e≤9218868437227405312:=by
 unfold rW
 split
 · omega
 · rename_i h;have ho:X%2=1:=by rcases F.odd with k | k;exact k;exact absurd k.1 h
   have L:=lies X e ho F.down F.up (min e (-1074)) (by omega) (by omega);rw [rndK_eq];have:=L.fin;unfold rK
   split
   · omega
   · split <;> omega
theorem cmpZ_le {x y:Int}:cmpZ x y≤0↔x≤y:=by
 unfold cmpZ
 by_cases h:x<y
 · rw [if_pos h];omega
 · rw [if_neg h]
   by_cases h2:y<x
   · rw [if_pos h2];omega
   · rw [if_neg h2];omega
theorem frm_odd {n:Bool}{X:Nat}{e:Int}(F:Frm n X e) (h:X≠0):X%2=1:=by rcases F.odd with k | k;exact k;exact absurd k.1 h
end
section
open Go.RowKit
attribute [local go_sem] B.f64bits B.f64frombits st_float
def magW (x:Nat):Nat:=x%9223372036854775808
def negW (x:Nat):Bool:=decide (9223372036854775808≤x)
def turnW (x:Nat):Nat:=if 9223372036854775808≤x then x-9223372036854775808 else x+9223372036854775808
end
section
open Go.RowKit
def ofK (s:Bool) (K:Nat):Option (Bool×Nat×Int):=ofR s (K/4503599627370496) (K%4503599627370496)
theorem ofK_val (s:Bool) (K:Nat) (hK:K<9218868437227405312):∃ n X e,ofK s K=some (n,X,e)∧Frm n X e∧(X≠0→n=s)∧(X=0↔K=0)∧∀ Bs:Int,Bs≤-1074→zv Bs (n,X,e)=sg1 s*((vK K*2^(-1074-Bs).toNat:Nat):Int):=by
 obtain ⟨x,hx⟩:∃ x,K/4503599627370496=x:=⟨_,rfl⟩;obtain ⟨f,hf⟩:∃ f,K%4503599627370496=f:=⟨_,rfl⟩;have hxl:x<2047:=by omega
 have hfl:f<4503599627370496:=by omega
 obtain ⟨M,hM⟩:∃ M,(if x=0 then f else f+4503599627370496)=M:=⟨_,rfl⟩;obtain ⟨E,hE⟩:∃ E:Int,(if x=0 then (-1074:Int) else (x:Int)-1075)=E:=⟨_,rfl⟩
 have hME:(x=0∧M=f∧E=-1074)∨(x≠0∧M=f+4503599627370496∧E=(x:Int)-1075):=by
  by_cases h:x=0
  · rw [if_pos h] at hM hE;exact .inl ⟨h,hM.symm,hE.symm⟩
  · rw [if_neg h] at hM hE;exact .inr ⟨h,hM.symm,hE.symm⟩
 have hMl:M<9007199254740992:=by omega
 have hO:ofK s K=mkS s M E:=by unfold ofK ofR;rw [hx,hf,if_neg (by omega),hM,hE]
 have hsome:(mkS s M E).isSome=true:=by
  unfold mkS
  split
  · rfl
  · rename_i h0;have hb:=bl_le53 M hMl;obtain ⟨_,_,_,hbb⟩:=odd_part M h0;rw [if_neg (by omega)];rfl
 obtain ⟨⟨n,X,e⟩,hz⟩:=Option.isSome_iff_exists.1 hsome;have hKw:K=(E+1074).toNat*4503599627370496+M:=by rcases hME with h | h <;> omega
 have hv:vK K=M*2^(E+1074).toNat:=by
  rw [hKw];exact vK_word _ _ (by rcases hME with h | h;left;omega;right;omega) (by omega)
 have hM0:M=0↔K=0:=by rcases hME with h | h <;> omega
 refine ⟨n,X,e,by rw [hO,hz],mkS_frm hz,?_,?_,?_⟩
 · intro hX;unfold mkS at hz
   split at hz
   · cases hz;exact absurd rfl hX
   · split at hz
     · cases hz
     · cases hz;rfl
 · rw [←hM0];constructor
   · intro hX;unfold mkS at hz
     split at hz
     · assumption
     · rename_i h0
       split at hz
       · cases hz
       · obtain ⟨m,_,hd,_⟩:=odd_part M h0
         cases hz
         omega
   · intro h0;unfold mkS at hz;rw [if_pos h0] at hz
     cases hz;rfl
 · intro Bs hBs;rw [zv_mkS hz Bs (.inr (by omega)),hv,Nat.mul_assoc,←Nat.pow_add,show (E+1074).toNat+(-1074-Bs).toNat=(E-Bs).toNat by omega]
end
section
open Go.RowKit J
theorem wd_word (s:Bool) (K:Nat):wd64 s K=Ieee.double.word s K:=by
 unfold wd64;have e:Ieee.double.word s K=(if s then 9223372036854775808+K else K):=rfl;rw [e]
 cases s <;> simp;omega
theorem hInf:Ieee.double.infRung<Ieee.double.signWeight:=by rw [B.dInf,B.dSign];omega
theorem hBin:Ieee.double.binade≤Ieee.double.infRung:=by rw [B.dInf,B.dBin];omega
theorem wd_of (x:Nat) (h:x<18446744073709551616):x=wd64 (negW x) (magW x):=by
 unfold wd64 negW magW
 by_cases hx:9223372036854775808≤x
 · rw [decide_eq_true hx,if_pos rfl];omega
 · rw [decide_eq_false hx,if_neg (by simp)];omega
theorem magW_wd (s:Bool) (K:Nat) (h:K<9223372036854775808):magW (wd64 s K)=K∧negW (wd64 s K)=s∧wd64 s K<18446744073709551616:=by
 unfold magW negW wd64
 cases s <;> simp <;> omega
theorem rK_ne {K R:Nat}{t n:Bool}{m:Int}{V S:Nat}(h:Lies K t m V S) (hR:NE R V S):rK 0 n K t m=min R 9218868437227405312:=by
 have hf:=h.fin;have hS:=h.pos
 cases t with
 | true =>
   have:NE K V S:=NEf.own hS (h.one rfl);rw [hR.one this hS];unfold rK;rw [if_pos rfl,Nat.min_eq_left (by omega)]
 | false =>
   have hlow:B.val Ieee.double K*S<V:=h.low rfl;have hmids:V<B.val Ieee.double (K+1)*S→(m=-1∧2*V<B.val Ieee.double K*S+B.val Ieee.double (K+1)*S∨m=0∧2*V=B.val Ieee.double K*S+B.val Ieee.double (K+1)*S∨m=1∧B.val Ieee.double K*S+B.val Ieee.double (K+1)*S<2*V):=h.mids rfl;have hhigh:V<B.val Ieee.double (K+1)*S∨(K=9218868437227405311∧m=1):=h.high rfl;unfold rK;rw [if_neg (by simp)]
   by_cases hh:V<B.val Ieee.double (K+1)*S
   · have e:(B.val Ieee.double K+B.val Ieee.double (K+1))*S=B.val Ieee.double K*S+B.val Ieee.double (K+1)*S:=Nat.add_mul _ _ _;have s2:B.val Ieee.double (K+1)*S<B.val Ieee.double (K+2)*S:=Nat.mul_lt_mul_of_pos_right (B.val_lt_succ Ieee.double (K+1)) hS;have eU:(B.val Ieee.double (K+1)+B.val Ieee.double (K+2))*S=B.val Ieee.double (K+1)*S+B.val Ieee.double (K+2)*S:=Nat.add_mul _ _ _
     have stay:(2*V<B.val Ieee.double K*S+B.val Ieee.double (K+1)*S∨2*V=B.val Ieee.double K*S+B.val Ieee.double (K+1)*S∧K%2=0)→NE K V S:=by
      intro hc;refine ⟨by rw [e];omega,fun h1=>by rw [e] at h1;omega,fun h0=>?_,fun h0 h1=>?_⟩
      · have:=Nat.mul_lt_mul_of_pos_right (B.val_lt Ieee.double (show K-1<K by omega)) hS;rw [Nat.add_mul];omega
      · have:=Nat.mul_lt_mul_of_pos_right (B.val_lt Ieee.double (show K-1<K by omega)) hS;rw [Nat.add_mul] at h1;omega
     have go:(B.val Ieee.double K*S+B.val Ieee.double (K+1)*S<2*V∨2*V=B.val Ieee.double K*S+B.val Ieee.double (K+1)*S∧K%2=1)→NE (K+1) V S:=by
      intro hc;refine ⟨by rw [eU];omega,fun h1=>by rw [eU] at h1;omega,fun h0=>?_,fun h0 h1=>?_⟩
      · rw [show K+1-1=K from rfl,e];omega
      · rw [show K+1-1=K from rfl,e] at h1;omega
     rcases hmids hh with ⟨h1,h2⟩|⟨h1,h2⟩|⟨h1,h2⟩
     · have ho:outS 0 K m n=false:=by unfold outS;subst h1;simp
       rw [ho,if_neg (by simp),hR.one (stay (.inl h2)) hS,Nat.min_eq_left (by omega)]
     · by_cases hp:K%2=1
       · have ho:outS 0 K m n=true:=by unfold outS;subst h1;simp [hp]
         rw [ho,if_pos rfl,hR.one (go (.inr ⟨h2,hp⟩)) hS,Nat.min_eq_left (by omega)]
       · have ho:outS 0 K m n=false:=by unfold outS;subst h1;simp [hp]
         rw [ho,if_neg (by simp),hR.one (stay (.inr ⟨h2,by omega⟩)) hS,Nat.min_eq_left (by omega)]
     · have ho:outS 0 K m n=true:=by unfold outS;subst h1;simp
       rw [ho,if_pos rfl,hR.one (go (.inl h2)) hS,Nat.min_eq_left (by omega)]
   · obtain ⟨h1,h2⟩:K=9218868437227405311∧m=1:=by
      rcases hhigh with q|q
      · exact absurd q hh
      · exact q
     have ho:outS 0 K m n=true:=by unfold outS;subst h2;simp
     rw [ho,if_pos rfl]
     have hRi:9218868437227405312≤R:=by
      apply Nat.le_of_not_lt;intro hlt;have u:=hR.up;have m1:B.val Ieee.double R*S<B.val Ieee.double (R+1)*S:=Nat.mul_lt_mul_of_pos_right (B.val_lt_succ Ieee.double R) hS;have m2:B.val Ieee.double (R+1)*S≤B.val Ieee.double (K+1)*S:=Nat.mul_le_mul_right S (vmono (by omega));rw [Nat.add_mul] at u;omega
     rw [Nat.min_eq_right hRi];omega
theorem rW_ne {n:Bool}{X:Nat}{e:Int}(F:Frm n X e) (hX:X≠0) (Bs:Int) (hB:Bs≤-1048576) {V U S R:Nat}(h1:X*2^(e-Bs).toNat=V*S) (h2:2^(-1074-Bs).toNat=U*S) (hR:NE R V U):rW 0 n X e=min R 9218868437227405312:=by
 have ho:=frm_odd F hX;have L:=lies X e ho F.down F.up Bs (by have:=F.down;omega) (by omega)
 have hS:0<S:=by
  rcases Nat.eq_zero_or_pos S with h|h
  · rw [h,Nat.mul_zero] at h2;have:=Nat.two_pow_pos (-1074-Bs).toNat;omega
  · exact h
 unfold rW;rw [if_neg hX,rndK_eq];rw [h1,h2] at L;exact rK_ne L (hR.scale S hS)
end
section
open Go.RowKit J
theorem exU (a:Nat):∃ u:Nat,u=2^a:=⟨_,rfl⟩
def EU:Nat:=1074
def ES:Nat:=2095004
noncomputable def UU:Nat:=Classical.choose (exU EU)
noncomputable def SS:Nat:=Classical.choose (exU ES)
theorem U_eq:UU=2^EU:=Classical.choose_spec (exU EU)
theorem S_eq:SS=2^ES:=Classical.choose_spec (exU ES)
theorem U_pos:0<UU:=by rw [U_eq];exact Nat.two_pow_pos _
theorem S_pos:0<SS:=by rw [S_eq];exact Nat.two_pow_pos _
theorem EUS:EU+ES=2096078:=by unfold EU ES;rfl
theorem US (a:Nat) (h:a=2096078):2^a=UU*SS:=by
 rw [U_eq,S_eq,←Nat.pow_add,EUS,h]
theorem mkSz (n:Bool) (e:Int):mkS n 0 e=some (false,0,0):=by unfold mkS;rw [if_pos rfl]
structure Fo (o:Option (Bool×Nat×Int)) (z:Int) (L H:Int):Prop where
 ex:∃ n X e,o=some (n,X,e)∧Frm n X e∧zv (-2097152) (n,X,e)=z*(SS:Int)∧(X=0∨L≤e∧e+(bl X:Int)≤H)
theorem Fo.frm {n:Bool}{X:Nat}{e z L H:Int}(h:Fo (some (n,X,e)) z L H):Frm n X e∧zv (-2097152) (n,X,e)=z*(SS:Int)∧(X=0∨L≤e∧e+(bl X:Int)≤H):=by
 obtain ⟨n',X',e',h1,h2,h3,h4⟩:=h.ex
 cases h1
 exact ⟨h2,h3,h4⟩
theorem mkS_sz (n:Bool) (Z:Nat) (f L H:Int) (hZ:Z≠0) (h1:L≤f) (h2:f+(bl Z:Int)≤H) (hL:-1000000≤L) (hH:H≤1000000) (hd:H-L≤262144) :
 ∃ X e,mkS n Z f=some (n,X,e)∧X≠0∧L≤e∧e+(bl X:Int)≤H:=by
 obtain ⟨m,e0,e1,e2⟩:=odd_part Z hZ;unfold mkS;rw [if_neg hZ,if_neg (by omega)];exact ⟨_,_,rfl,by omega,by omega,by omega⟩
theorem blLe {X m:Nat}(h:X<2^m):bl X≤m:=by
 apply Nat.le_of_not_lt;intro hh;have:=(bl_gt X m).1 hh;omega
theorem lt_bl (X:Nat):X<2^bl X:=bl_lt X
theorem addUp_sz (n:Bool) (X:Nat) (e:Int) (m:Bool) (Y:Nat) (f L H:Int) (hX:X≠0) (hY:Y≠0) (hfe:f≤e) (h1:L≤f) (h2:e+(bl X:Int)≤H) (h3:f+(bl Y:Int)≤H) (hL:-1000000≤L) (hH:H≤999999) (hd:H-L≤262143) :
 ∃ n' Z g,addUp n X e m Y f=some (n',Z,g)∧(Z=0∨L≤g∧g+(bl Z:Int)≤H+1):=by
 obtain ⟨d,hdd⟩:∃ d:Nat,(e-f).toNat=d:=⟨_,rfl⟩;have hb:X*2^d<2^(bl X+d):=by rw [Nat.pow_add];exact Nat.mul_lt_mul_of_pos_right (lt_bl X) (Nat.two_pow_pos _)
 obtain ⟨q,hq⟩:∃ q:Nat,max (bl X+d) (bl Y)=q:=⟨_,rfl⟩;have q1:X*2^d<2^q:=Nat.lt_of_lt_of_le hb (Nat.pow_le_pow_right (by decide) (by omega));have q2:Y<2^q:=Nat.lt_of_lt_of_le (lt_bl Y) (Nat.pow_le_pow_right (by decide) (by omega));have q3:2^(q+1)=2^q+2^q:=by rw [Nat.pow_succ];omega
 have hq4:f+(q:Int)≤H:=by omega
 have out:∀ (n'':Bool) (Z:Nat),Z<2^(q+1)→∃ n' Z' g,mkS n'' Z f=some (n',Z',g)∧(Z'=0∨L≤g∧g+(bl Z':Int)≤H+1):=by
  intro n'' Z hZ
  by_cases h0:Z=0
  · subst h0;rw [mkSz];exact ⟨_,_,_,rfl,.inl rfl⟩
  · have:=blLe hZ;obtain ⟨X',e',k1,k2,k3,k4⟩:=mkS_sz n'' Z f L (H+1) h0 h1 (by omega) hL (by omega) (by omega);exact ⟨_,_,_,k1,.inr ⟨k3,k4⟩⟩
 unfold addUp;rw [hdd,if_neg (by omega)]
 split
 · exact out _ _ (by omega)
 · split
   · exact out _ _ (by omega)
   · exact out _ _ (by omega)
theorem addD_sz {o p:Option (Bool×Nat×Int)}{x y L H:Int}(h1:Fo o x L H) (h2:Fo p y L H) (hL:-1000000≤L) (hH:H≤999999) (hd:H-L≤262143):∃ n Z g,addD o p=some (n,Z,g)∧(Z=0∨L≤g∧g+(bl Z:Int)≤H+1):=by
 obtain ⟨n,X,e,rfl,F,_,b1⟩:=h1.ex;obtain ⟨m,Y,f,rfl,G,_,b2⟩:=h2.ex;unfold addD addF;simp only
 by_cases hX:X=0
 · rw [if_pos hX];exact ⟨_,_,_,rfl,by omega⟩
 · rw [if_neg hX]
   by_cases hY:Y=0
   · rw [if_pos hY];exact ⟨_,_,_,rfl,by omega⟩
   · rw [if_neg hY]
     by_cases hlt:e<f
     · rw [if_pos hlt];exact addUp_sz m Y f n X e L H hY hX (by omega) (by omega) (by omega) (by omega) hL hH hd
     · rw [if_neg hlt];exact addUp_sz n X e m Y f L H hX hY (by omega) (by omega) (by omega) (by omega) hL hH hd
theorem Fo.add {o p:Option (Bool×Nat×Int)}{x y L H:Int}(h1:Fo o x L H) (h2:Fo p y L H) (hL:-1000000≤L) (hH:H≤999999) (hd:H-L≤262143):Fo (addD o p) (x+y) L (H+1):=by
 obtain ⟨n,Z,g,hz,hb⟩:=addD_sz h1 h2 hL hH hd;obtain ⟨n1,X1,e1,r1,F1,v1,_⟩:=h1.ex;obtain ⟨n2,X2,e2,r2,F2,v2,_⟩:=h2.ex;have V:=Fv.add (B:=-2097152) (by omega) ⟨n1,X1,e1,r1,F1,v1⟩ ⟨n2,X2,e2,r2,F2,v2⟩ (by rw [hz];rfl);obtain ⟨n',Z',g',r,F,v⟩:=V.ex;rw [hz] at r
 cases r
 exact ⟨n,Z,g,hz,F,by rw [v,Int.add_mul],hb⟩
end
section
open Go.RowKit
theorem Lies.doc {K:Nat}{t:Bool}{m:Int}{V S:Nat}(h:Lies K t m V S) (k:Nat) (hk:k<9218868437227405312) (h1:vK k*S≤V) (h2:k+1=9218868437227405312∨V<vK (k+1)*S) :
 k=K∧t=decide (V=vK K*S)∧(t=false→m=cmpZ ((2*V:Nat):Int) ((vK K*S+vK (K+1)*S:Nat):Int)):=by
 have hge:=h.ge;have hfin:=h.fin;have hpos:=h.pos
 have hkK:k=K:=by
  rcases Nat.lt_trichotomy k K with q|q|q
  · exfalso;rcases h2 with e|e
    · omega
    · have:=vS_le (S:=S) (show k+1≤K by omega);omega
  · exact q
  · exfalso;have a1:=vS_le (S:=S) (show K+1≤k by omega);have a2:=vS_lt (K:=K) (L:=K+1) hpos (by omega)
    cases t with
    | true =>
      have:=h.one rfl;omega
    | false =>
      rcases h.high rfl with e|e
      · omega
      · omega
 subst hkK;refine ⟨rfl,?_,?_⟩
 · cases t with
   | true=>exact (decide_eq_true (h.one rfl)).symm
   | false =>
     have:=h.low rfl;exact (decide_eq_false (by omega)).symm
 · intro ht;have a2:=vS_lt (K:=k) (L:=k+1) hpos (by omega)
   by_cases hb:V<vK (k+1)*S
   · have hm:=h.mids ht hb;generalize vK k*S=A at *;generalize vK (k+1)*S=C at *;unfold cmpZ;rcases hm with ⟨e,q⟩|⟨e,q⟩|⟨e,q⟩
     · rw [if_pos (by omega),e]
     · rw [if_neg (by omega),if_neg (by omega),e]
     · rw [if_neg (by omega),if_pos (by omega),e]
   · rcases h.high ht with e | ⟨_,e⟩
     · exact absurd e hb
     · generalize vK k*S=A at *;generalize vK (k+1)*S=C at *;unfold cmpZ;rw [if_neg (by omega),if_pos (by omega),e]
end
section
open Go.RowKit
def Zk (w:World) (g:Nat) (dg ls En:Int):Prop:=w.heap[g]?=some (.cells #[.int .i64 dg,.int .i64 ls,.int .u64 En] 135 (0,0))
theorem Zk.lt {w:World}{g:Nat}{dg ls En:Int}(h:Zk w g dg ls En):g<w.heap.size:=(Array.getElem?_eq_some_iff.1 h).1
theorem Zk.below {w w':World}{g:Nat}{dg ls En:Int}(h:Zk w g dg ls En) (hb:Below w.heap.size w w'):Zk w' g dg ls En:=by
 unfold Zk;rw [hb.block g h.lt];exact h
theorem Zk.facts {w:World}{g:Nat}{dg ls En:Int}(h:Zk w g dg ls En):w.cell? ⟨g,0,none⟩=some (.int .i64 dg)∧w.cell? ⟨g,1,none⟩=some (.int .i64 ls)∧w.cell? ⟨g,2,none⟩=some (.int .u64 En):=by
 unfold Zk at h;simp [World.cell?,h]
structure Half (w:World) (dg ls:Int) (En:Nat) (ag:Nat→Int) (f t:Nat) (u:World):Prop where
 bel:Below w.heap.size w u
 sz:Zk u w.heap.size dg ls En
 ft:f<t
 tE:t≤En
 lo:f=0∨ag f≤0
 hi:t=En∨0<ag t
theorem below_core {w:World}{a:Option Addr}{l c:Nat}(dg ls:Int) (En:Nat) (e:Int) (hE:0<En) (hE2:En<9223372036854775808) (num:Nat→Nat×Int) (ag:Nat→Int) (lnum:∀ k,(ws (num k).1).length≤8192)
 (HN:Hid (∀ (k:Nat) (u:World),k<En→Calls Tryz.prog 120 #[.agg #[.int .i64 dg,.int .i64 ls,.int .u64 (En:Nat)],.int .u64 (k:Nat)] u fun r w'=>∃ v,r=.returned (.tuple #[v,.int .i64 (num k).2])∧Nt u.heap.size w' v (num k).1∧Below u.heap.size u w'))
 (HA:Hid (∀ (k:Nat) (u:World) (p:Option Addr) (s:Nat),k<En→Below w.heap.size w u→Arg u p (ws (num k).1).length s (ws (num k).1)→Calls Tryz.prog 123 #[.slice p (ws (num k).1).length s,.int .i64 (num k).2,.slice a l c,.int .i64 e] u fun r w'=>r=.returned (.int .i64 (ag k))∧Below u.heap.size u w')) :
 Calls Tryz.prog 122 #[.agg #[.int .i64 dg,.int .i64 ls,.int .u64 (En:Nat)],.slice a l c,.int .i64 e] w fun r w' =>
  (∃ k:Nat,r=.returned (.int .u64 (k:Nat))∧k<En∧(k=0∨ag k≤0)∧(k+1=En∨0<ag (k+1)))∧Below w.heap.size w w':=by
 obtain ⟨W1,hW1⟩:∃ W,W=w.alloc (.cells #[.int .i64 dg,.int .i64 ls,.int .u64 (En:Nat)] 135):=⟨_,rfl⟩;have Z:Zk W1 w.heap.size dg ls En:=by rw [hW1];exact heap_alloc_new _ _
 have hB:Below w.heap.size w W1:=by rw [hW1];exact below_alloc w _
 obtain ⟨p0,p1,p2⟩:=Z.facts;have S0:Aside (Half w dg ls En ag 0 En W1):=qsd ⟨hB,Z,hE,Nat.le_refl _,.inl rfl,.inl rfl⟩;clear Z hB;have hw:∀ n:Int,0≤n→n<18446744073709551616→IntKind.u64.wrap n=n:=fun n h1 h2=>by simp [IntKind.wrap,IntKind.bits,IntKind.signed];omega
 have HW:=qsd hw;clear hw;go_enter Tryz.func122,Tryz.ntmps122
 go_upto_region 2 with fail
 rw [←hW1];clear hW1;go_wp2_with fail;clear p0 p1 p2
 go_loopg [7,8] En (fun gk fv tv wr=>∃ f t:Nat,gk+f=t∧fv=.int .u64 (f:Nat)∧tv=.int .u64 (t:Nat)∧f<t∧t≤En∧Aside (Half w dg ls En ag f t wr))
 case atStart=>exact ⟨0,En,by omega,rfl,rfl,hE,Nat.le_refl _,S0⟩
 case round =>
  obtain ⟨f,t,hgk,rfl,rfl,hft,htE,S1⟩:=hrel;have e1:=HW.out ((t:Int)-(f:Int)) (by omega) (by omega)
  by_cases hone:1<(t:Int)-(f:Int)
  · obtain ⟨m,hm⟩:∃ m,(f+t)/2=m:=⟨_,rfl⟩;have e2:=HW.out ((f:Int)+(t:Int)) (by omega) (by omega);have e3:((f:Int)+(t:Int))/2=(m:Nat):=by omega
    have e4:IntKind.u64.wrap ((m:Nat):Int)=(m:Nat):=HW.out _ (by omega) (by omega);have hmE:m<En:=by omega
    obtain ⟨p0,p1,p2⟩:=S1.out.sz.facts;obtain ⟨X,hX⟩:∃ X,(num m).1=X:=⟨_,rfl⟩;obtain ⟨y,hy⟩:∃ y,(num m).2=y:=⟨_,rfl⟩;have H1:=hid (HN.out m wr hmE);have H2:=hid fun u p s=>HA.out m u p s hmE;have lX:=lnum m;rw [hX,hy] at H1 H2;rw [hX] at lX;go_wp2_with fail;clear p0 p1 p2;refine H1.out.mono ?_;rintro r u1 ⟨v,rfl,hN,hb⟩;obtain ⟨b1,c1,rfl,hArg⟩:=hN.arg (by omega);have S2:=qsd (⟨S1.out.bel.trans (hb.mono S1.out.bel.size),S1.out.sz.below hb,S1.out.ft,S1.out.tE,S1.out.lo,S1.out.hi⟩:Half w dg ls En ag f t u1);have H3:=hid (H2.out u1 b1 c1 S2.out.bel hArg);clear hb hN hArg S1 H1 H2;go_wp2_with fail;refine H3.out.mono ?_;rintro r u2 ⟨rfl,hb⟩;have S3:=qsd (⟨S2.out.bel.trans (hb.mono S2.out.bel.size),S2.out.sz.below hb,S2.out.ft,S2.out.tE,S2.out.lo,S2.out.hi⟩:Half w dg ls En ag f t u2);clear hb H3 S2
    by_cases hag:ag m≤0
    · go_wp2_with fail;go_roundg (t-m)
      case measure=>omega
      case rel=>exact ⟨m,t,by omega,rfl,rfl,by omega,htE,qsd ⟨S3.out.bel,S3.out.sz,by omega,htE,.inr hag,S3.out.hi⟩⟩
    · have hag':decide (ag m≤0)=false:=decide_eq_false hag;go_wp2_with fail;go_roundg (m-f)
      case measure=>omega
      case rel=>exact ⟨f,m,by omega,rfl,rfl,by omega,by omega,qsd ⟨S3.out.bel,S3.out.sz,by omega,by omega,S3.out.lo,.inr (by omega)⟩⟩
  · have hone':decide (1<(t:Int)-(f:Int))=false:=decide_eq_false hone;obtain rfl:t=f+1:=by omega
    have e5:((f+1:Nat):Int)-(f:Int)=1:=by omega
    go_wp2_with fail;go_ret;exact ⟨⟨f,rfl,by omega,S1.out.lo,S1.out.hi⟩,S1.out.bel⟩
end
section
open Go.RowKit
theorem half_core {w:World}{a:Option Addr}{l c:Nat}(dg ls En k k1 e f g q:Int) (A Bv MV SM TW:Nat) (hv:Int) (lA:(ws A).length≤8192) (lB:(ws Bv).length≤8192) (lM:(ws MV).length≤8192) (lS:(ws SM).length≤8192) (lT:(ws TW).length≤35184372088832)
 (ek:IntKind.u64.wrap (k+1)=k1) (hgf:decide (g<f)=false) (eq:IntKind.i64.wrap (g-f)=q)
 (HN:Hid (∀ (u:World),Calls Tryz.prog 120 #[.agg #[.int .i64 dg,.int .i64 ls,.int .u64 En],.int .u64 k] u fun r w'=>∃ v,r=.returned (.tuple #[v,.int .i64 f])∧Nt u.heap.size w' v A∧Below u.heap.size u w'))
 (HN1:Hid (∀ (u:World),Calls Tryz.prog 120 #[.agg #[.int .i64 dg,.int .i64 ls,.int .u64 En],.int .u64 k1] u fun r w'=>∃ v,r=.returned (.tuple #[v,.int .i64 g])∧Nt u.heap.size w' v Bv∧Below u.heap.size u w'))
 (HM:Hid (∀ (u:World) (p:Option Addr) (s lo:Nat),Nt lo u (.slice p (ws Bv).length s) Bv→Calls Tryz.prog 126 #[.slice p (ws Bv).length s,.int .i64 q] u fun r w'=>∃ v,r=.returned v∧Nt u.heap.size w' v MV∧Below u.heap.size u w'))
 (HP:Hid (∀ (u:World) (p:Option Addr) (s:Nat) (p2:Option Addr) (s2:Nat),Arg u p (ws A).length s (ws A)→Arg u p2 (ws MV).length s2 (ws MV)→Calls Tryz.prog 129 #[.slice p (ws A).length s,.slice p2 (ws MV).length s2] u fun r w'=>∃ v,r=.returned v∧Nt u.heap.size w' v SM∧Below u.heap.size u w'))
 (HT:Hid (∀ (u:World) (p:Option Addr),Below w.heap.size w u→Arg u p 1 1 [2]→Calls Tryz.prog 93 #[.slice a l c,.slice p 1 1] u fun r w'=>∃ v,r=.returned v∧Nt u.heap.size w' v TW∧Below u.heap.size u w'))
 (HA:Hid (∀ (u:World) (p:Option Addr) (s:Nat) (p2:Option Addr) (s2:Nat),Arg u p (ws TW).length s (ws TW)→Arg u p2 (ws SM).length s2 (ws SM)→Calls Tryz.prog 123 #[.slice p (ws TW).length s,.int .i64 e,.slice p2 (ws SM).length s2,.int .i64 f] u fun r w'=>r=.returned (.int .i64 hv)∧Below u.heap.size u w')) :
 Calls Tryz.prog 124 #[.agg #[.int .i64 dg,.int .i64 ls,.int .u64 En],.int .u64 k,.slice a l c,.int .i64 e] w fun r w'=>r=.returned (.int .i64 hv)∧Below w.heap.size w w':=by
 obtain ⟨W1,hW1⟩:∃ W,W=w.alloc (.cells #[.int .i64 dg,.int .i64 ls,.int .u64 En] 135):=⟨_,rfl⟩;have Z:Zk W1 w.heap.size dg ls En:=by rw [hW1];exact heap_alloc_new _ _
 have hB:Below w.heap.size w W1:=by rw [hW1];exact below_alloc w _
 obtain ⟨p0,p1,p2⟩:=Z.facts;have S0:=(qsd (ai hB Z));clear Z hB;have H1:=hid (HN.out W1);go_enter Tryz.func124,Tryz.ntmps124
 go_upto_region 1 with fail
 rw [←hW1];clear hW1;go_wp2_with fail;clear p0 p1 p2;refine H1.out.mono ?_;rintro r u1 ⟨v,rfl,hN,hb⟩;obtain ⟨a1,c1,rfl,_⟩:=hN.arg (by omega);have Z1:=S0.out.2.below hb;obtain ⟨p0,p1,p2⟩:=Z1.facts;have B1:=S0.out.1.trans (hb.mono S0.out.1.size);have S1:=(qsd (ai B1 (ai Z1 hN)));have H2:=hid (HN1.out u1);clear hb hN Z1 B1 S0 H1;go_wp2_with fail;clear p0 p1 p2;refine H2.out.mono ?_;rintro r u2 ⟨v,rfl,hN,hb⟩;obtain ⟨a2,c2,rfl,_⟩:=hN.arg (by omega);have B2:=S1.out.1.trans (hb.mono S1.out.1.size);have N1:=S1.out.2.2.below hb;have H3:=hid (HM.out u2 a2 c2 _ hN);have S2:=(qsd (ai B2 N1));clear hb hN B2 N1 S1 H2;go_wp2_with fail;refine H3.out.mono ?_;rintro r u3 ⟨v,rfl,hN,hb⟩;obtain ⟨a3,c3,rfl,hA3⟩:=hN.arg (by omega);have B3:=S2.out.1.trans (hb.mono S2.out.1.size);have N3:=S2.out.2.below hb;have H4:=hid (HP.out u3 a1 c1 a3 c3 (N3.arg' (by omega)).2 hA3);have S3:=qsd B3;clear hb hN hA3 B3 N3 S2 H3;go_wp2_with fail;refine H4.out.mono ?_;rintro r u4 ⟨v,rfl,hN,hb⟩;obtain ⟨a4,c4,rfl,_⟩:=hN.arg (by omega);have B4:=S3.out.trans (hb.mono S3.out.size);obtain ⟨U,hU⟩:∃ U,U=u4.alloc (.cells #[.int .u32 2] 81):=⟨_,rfl⟩;have hA:Below u4.heap.size u4 U:=by rw [hU];exact below_alloc _ _
 have B5:=B4.trans (hA.mono B4.size);have AL:Arg U (some ⟨u4.heap.size,0,none⟩) 1 1 [2]:=by rw [hU];exact lit_arg u4 2 (by omega)
 have H5:=hid (HT.out U (some ⟨u4.heap.size,0,none⟩) B5 AL);have N5:=hN.below hA;have S5:=(qsd (ai B5 N5));clear hb hN B4 hA B5 AL N5 S3 H4;go_wp2_with fail;rw [←hU];clear hU;refine H5.out.mono ?_;rintro r u6 ⟨v,rfl,hN,hb⟩;obtain ⟨a6,c6,rfl,hA6⟩:=hN.arg (by omega);have B6:=S5.out.1.trans (hb.mono S5.out.1.size);have N6:=S5.out.2.below hb;have H6:=hid (HA.out u6 a6 c6 a4 c4 hA6 (N6.arg' (by omega)).2);have S6:=qsd B6;clear hb hN hA6 B6 N6 S5 H5;go_wp2_with fail;refine H6.out.mono ?_;rintro r u7 ⟨rfl,hb⟩;have B7:=qsd (S6.out.trans (hb.mono S6.out.size));clear hb H6 S6;go_wp2;go_ret;exact ⟨rfl,B7.out⟩
def nbyD (mode:Int) (n:Bool) (k:Nat) (z hv:Int):Nat:=if z=0 then k else if outS mode k hv n then k+1 else k
end
section
open Go.RowKit
theorem nearby_core {w:World}{a:Option Addr}{l c:Nat}(dg ls En:Int) (n:Bool) (k:Nat) (e f mode:Int) (A:Nat) (z hv:Int) (lA:(ws A).length≤8192) (hk:k<9223372036854775808) (hm0:0≤mode) (hm4:mode≤4) (hv3:hv=-1∨hv=0∨hv=1)
 (HB:Hid (∀ (u:World),Below w.heap.size w u→Calls Tryz.prog 122 #[.agg #[.int .i64 dg,.int .i64 ls,.int .u64 En],.slice a l c,.int .i64 e] u fun r w'=>r=.returned (.int .u64 (k:Nat))∧Below u.heap.size u w'))
 (HN:Hid (∀ (u:World),Calls Tryz.prog 120 #[.agg #[.int .i64 dg,.int .i64 ls,.int .u64 En],.int .u64 (k:Nat)] u fun r w'=>∃ v,r=.returned (.tuple #[v,.int .i64 f])∧Nt u.heap.size w' v A∧Below u.heap.size u w'))
 (HA:Hid (∀ (u:World) (p:Option Addr) (s:Nat),Below w.heap.size w u→Arg u p (ws A).length s (ws A)→Calls Tryz.prog 123 #[.slice p (ws A).length s,.int .i64 f,.slice a l c,.int .i64 e] u fun r w'=>r=.returned (.int .i64 z)∧Below u.heap.size u w'))
 (HH:Hid (∀ (u:World),Below w.heap.size w u→Calls Tryz.prog 124 #[.agg #[.int .i64 dg,.int .i64 ls,.int .u64 En],.int .u64 (k:Nat),.slice a l c,.int .i64 e] u fun r w'=>r=.returned (.int .i64 hv)∧Below u.heap.size u w')) :
 Calls Tryz.prog 90 #[.agg #[.int .i64 dg,.int .i64 ls,.int .u64 En],.bool n,.slice a l c,.int .i64 e,.int .i64 mode] w fun r w'=>r=.returned (.int .u64 (nbyD mode n k z hv:Nat))∧Below w.heap.size w w':=by
 obtain ⟨W1,hW1⟩:∃ W,W=w.alloc (.cells #[.int .i64 dg,.int .i64 ls,.int .u64 En] 135):=⟨_,rfl⟩;have Z:Zk W1 w.heap.size dg ls En:=by rw [hW1];exact heap_alloc_new _ _
 have hB:Below w.heap.size w W1:=by rw [hW1];exact below_alloc w _
 obtain ⟨p0,p1,p2⟩:=Z.facts;have H1:=hid (HB.out W1 hB);have S0:=(qsd (ai hB Z));clear Z hB;have ek:IntKind.u64.wrap ((k:Int)+1)=(k:Int)+1:=by simp [IntKind.wrap,IntKind.bits,IntKind.signed];omega
 obtain ⟨R,hR⟩:∃ R,nbyD mode n k z hv=R:=⟨_,rfl⟩;rw [hR];go_enter Tryz.func90,Tryz.ntmps90
 go_upto_region 1 with fail
 rw [←hW1];clear hW1;go_wp2_with fail;clear p0 p1 p2;refine H1.out.mono ?_;rintro r u1 ⟨rfl,hb⟩;have Z1:=S0.out.2.below hb;obtain ⟨p0,p1,p2⟩:=Z1.facts;have B1:=S0.out.1.trans (hb.mono S0.out.1.size);have S1:=(qsd (ai B1 Z1));have H2:=hid (HN.out u1);clear hb Z1 B1 S0 H1;go_wp2_with fail;clear p0 p1 p2;refine H2.out.mono ?_;rintro r u2 ⟨v,rfl,hN,hb⟩;obtain ⟨a2,c2,rfl,hA2⟩:=hN.arg (by omega);have Z2:=S1.out.2.below hb;have B2:=S1.out.1.trans (hb.mono S1.out.1.size);have H3:=hid (HA.out u2 a2 c2 B2 hA2);have S2:=(qsd (ai B2 Z2));clear hb hN hA2 Z2 B2 S1 H2;go_wp2_with fail;refine H3.out.mono ?_;rintro r u3 ⟨rfl,hb⟩;have Z3:=S2.out.2.below hb;have B3:=S2.out.1.trans (hb.mono S2.out.1.size);have S3:=(qsd (ai B3 Z3));obtain ⟨p0,p1,p2⟩:=Z3.facts;have H4:=hid (HH.out u3 B3);clear hb Z3 B3 S2 H3
 by_cases hz:z=0
 · subst hz;obtain rfl:k=R:=by rw [←hR];unfold nbyD;rw [if_pos rfl]
   clear hR;go_wp2_with fail;go_ret;exact ⟨rfl,S3.out.1⟩
 · have hz':(z==0)=false:=by simpa using hz
   have hR2:(if outS mode k hv n then k+1 else k)=R:=by rw [←hR];unfold nbyD;rw [if_neg hz]
   clear hR hz;go_wp2_with fail;clear p0 p1 p2;refine H4.out.mono ?_;rintro r u4 ⟨rfl,hb⟩;have B4:=qsd (S3.out.1.trans (hb.mono S3.out.1.size));clear hb S3 H4 hz';have hc:mode=0∨mode=1∨mode=2∨mode=3∨mode=4:=by omega
   clear hm0 hm4;rcases hc with rfl|rfl|rfl|rfl|rfl
   · rcases hv3 with rfl | rfl | rfl
     · have:=qsd hR2;clear hR2;go_wp2;go_ret;exact ⟨by rw [←this.out];simp [outS],B4.out⟩
     · by_cases hp:k%2=1
       · have hp':(k:Int)%2=1:=by omega
         have:=qsd hR2;clear hR2;go_wp2;go_ret;exact ⟨by rw [←this.out];simp [outS,hp],B4.out⟩
       · have hp':(k:Int)%2=0:=by omega
         have:=qsd hR2;clear hR2;go_wp2;go_ret;exact ⟨by rw [←this.out];simp [outS,hp],B4.out⟩
     · have:=qsd hR2;clear hR2;go_wp2;go_ret;exact ⟨by rw [←this.out];simp [outS],B4.out⟩
   · have:=qsd hR2;clear hR2;go_wp2;go_ret;exact ⟨by rw [←this.out];simp [outS],B4.out⟩
   · cases n
     all_goals (
      have:=qsd hR2;clear hR2;go_wp2;go_ret
      exact ⟨by rw [←this.out];simp [outS],B4.out⟩)
   · cases n
     all_goals (
      have:=qsd hR2;clear hR2;go_wp2;go_ret
      exact ⟨by rw [←this.out];simp [outS],B4.out⟩)
   · rcases hv3 with rfl | rfl | rfl
     all_goals (
      have:=qsd hR2;clear hR2;go_wp2;go_ret
      exact ⟨by rw [←this.out];simp [outS],B4.out⟩)
end
section
open Go.RowKit
attribute [local go_sem] B.f64frombits
theorem rRound_lo {w:World}{a:Option Addr}{l c:Nat}(n:Bool) (e mode:Int) (hm:mode<0) :
 Calls Tryz.prog 68 #[.agg #[.bool n,.slice a l c,.int .i64 e],.int .i64 mode] w fun r w'=>r=.returned (.tuple #[.float .f64 0,.int .i64 1])∧Below w.heap.size w w':=by
 obtain ⟨W1,hW1⟩:∃ W,W=w.alloc (.cells #[.bool n,.slice a l c,.int .i64 e] 70):=⟨_,rfl⟩;have D0:Dk W1 w.heap.size n (.slice a l c) e:=by rw [hW1];exact Dk.new _ _ _ _
 have hB:Below w.heap.size w W1:=by rw [hW1];exact below_alloc w _
 have S0:=qsd hB;clear D0 hB;go_enter Tryz.func68,Tryz.ntmps68
 go_upto_region 1 with fail
 rw [←hW1];clear hW1;go_wp2
 go_ret2
 exact ⟨rfl,S0.out⟩
theorem rRound_hi {w:World}{a:Option Addr}{l c:Nat}(n:Bool) (e mode:Int) (hm0:decide (mode<0)=false) (hm:4<mode) :
 Calls Tryz.prog 68 #[.agg #[.bool n,.slice a l c,.int .i64 e],.int .i64 mode] w fun r w'=>r=.returned (.tuple #[.float .f64 0,.int .i64 1])∧Below w.heap.size w w':=by
 obtain ⟨W1,hW1⟩:∃ W,W=w.alloc (.cells #[.bool n,.slice a l c,.int .i64 e] 70):=⟨_,rfl⟩;have D0:Dk W1 w.heap.size n (.slice a l c) e:=by rw [hW1];exact Dk.new _ _ _ _
 have hB:Below w.heap.size w W1:=by rw [hW1];exact below_alloc w _
 have S0:=qsd hB;clear D0 hB;go_enter Tryz.func68,Tryz.ntmps68
 go_upto_region 1 with fail
 rw [←hW1];clear hW1;go_wp2
 go_ret2
 exact ⟨rfl,S0.out⟩
theorem rRound_no {w:World}{a:Option Addr}{l c:Nat}(n:Bool) (e mode:Int) (nD:Bool) (eD:Int) (XD:Nat) (hm0:0≤mode) (hm4:mode≤4) (lX:(ws XD).length≤8192)
 (HM:Hid (∀ (u:World),Below w.heap.size w u→Calls Tryz.prog 89 #[.agg #[.bool n,.slice a l c,.int .i64 e]] u fun r w'=>(∃ v,r=.returned (.tuple #[.agg #[.bool nD,v,.int .i64 eD],.bool false])∧Nt u.heap.size w' v XD)∧Below u.heap.size u w')) :
 Calls Tryz.prog 68 #[.agg #[.bool n,.slice a l c,.int .i64 e],.int .i64 mode] w fun r w'=>r=.returned (.tuple #[.float .f64 0,.int .i64 2])∧Below w.heap.size w w':=by
 obtain ⟨W1,hW1⟩:∃ W,W=w.alloc (.cells #[.bool n,.slice a l c,.int .i64 e] 70):=⟨_,rfl⟩;have D0:Dk W1 w.heap.size n (.slice a l c) e:=by rw [hW1];exact Dk.new _ _ _ _
 have hB:Below w.heap.size w W1:=by rw [hW1];exact below_alloc w _
 obtain ⟨p0,p1,p2,pf0,pf1,pf2⟩:=D0.facts;have H1:=hid (HM.out W1 hB);have S0:=qsd hB;have hm1:decide (mode<0)=false:=decide_eq_false (by omega);have hm2:decide (4<mode)=false:=decide_eq_false (by omega);clear D0 hB;go_enter Tryz.func68,Tryz.ntmps68
 go_upto_region 1 with fail
 rw [←hW1];clear hW1;go_wp2_with fail;clear p0 p1 p2 pf0 pf1 pf2;refine H1.out.mono ?_;rintro r u1 ⟨⟨v,rfl,hN⟩,hb⟩;obtain ⟨a1,c1,rfl,_⟩:=hN.arg (by omega);obtain ⟨U1,hU1⟩:∃ U,U=u1.alloc (.cells #[.bool nD,.slice a1 (ws XD).length c1,.int .i64 eD] 70):=⟨_,rfl⟩;have hA:Below u1.heap.size u1 U1:=by rw [hU1];exact below_alloc _ _
 have DX:Dk U1 u1.heap.size nD (.slice a1 (ws XD).length c1) eD:=by rw [hU1];exact Dk.new _ _ _ _
 have B1:=S0.out.trans (hb.mono S0.out.size);have BU:=B1.trans (hA.mono B1.size);have NX:=hN.below hA;have S1:=(qsd (ai BU (ai DX NX)));clear hb hN hA DX B1 BU NX S0 H1
 go_upto_region 4 with fail
 rw [←hU1];clear hU1;go_wp2
 go_ret2
 exact ⟨rfl,S1.out.1⟩
theorem rRound_p {w:World}{a:Option Addr}{l c:Nat}(n:Bool) (e mode:Int) (eD:Int) (XD R:Nat) (kk k2:Int) (hm0:0≤mode) (hm4:mode≤4) (lX:(ws XD).length≤8192) (hk0:0≤kk) (hR:kk.toNat=R)
 (HM:Hid (∀ (u:World),Below w.heap.size w u→Calls Tryz.prog 89 #[.agg #[.bool n,.slice a l c,.int .i64 e]] u fun r w'=>(∃ v,r=.returned (.tuple #[.agg #[.bool false,v,.int .i64 eD],.bool true])∧Nt u.heap.size w' v XD)∧Below u.heap.size u w'))
 (HO:Hid (∀ (u:World),Calls Tryz.prog 87 #[] u fun r w'=>r=.returned (.agg #[.int .i64 53,.int .i64 (-1074),.int .u64 9218868437227405312])∧Below u.heap.size u w'))
 (HB:Hid (∀ (u:World) (p:Option Addr) (s:Nat),Arg u p (ws XD).length s (ws XD)→Calls Tryz.prog 90 #[.agg #[.int .i64 53,.int .i64 (-1074),.int .u64 9218868437227405312],.bool false,.slice p (ws XD).length s,.int .i64 eD,.int .i64 mode] u fun r w'=>r=.returned (.int .u64 kk)∧Below u.heap.size u w')) :
 Calls Tryz.prog 68 #[.agg #[.bool n,.slice a l c,.int .i64 e],.int .i64 mode] w fun r w'=>r=.returned (.tuple #[.float .f64 R,.int .i64 0])∧Below w.heap.size w w':=by
 obtain ⟨W1,hW1⟩:∃ W,W=w.alloc (.cells #[.bool n,.slice a l c,.int .i64 e] 70):=⟨_,rfl⟩;have D0:Dk W1 w.heap.size n (.slice a l c) e:=by rw [hW1];exact Dk.new _ _ _ _
 have hB:Below w.heap.size w W1:=by rw [hW1];exact below_alloc w _
 obtain ⟨p0,p1,p2,pf0,pf1,pf2⟩:=D0.facts;have H1:=hid (HM.out W1 hB);have S0:=qsd hB;have hm1:decide (mode<0)=false:=decide_eq_false (by omega);have hm2:decide (4<mode)=false:=decide_eq_false (by omega);clear D0 hB;go_enter Tryz.func68,Tryz.ntmps68
 go_upto_region 1 with fail
 rw [←hW1];clear hW1;go_wp2_with fail;clear p0 p1 p2 pf0 pf1 pf2;refine H1.out.mono ?_;rintro r u1 ⟨⟨v,rfl,hN⟩,hb⟩;obtain ⟨a1,c1,rfl,_⟩:=hN.arg (by omega);obtain ⟨U1,hU1⟩:∃ U,U=u1.alloc (.cells #[.bool false,.slice a1 (ws XD).length c1,.int .i64 eD] 70):=⟨_,rfl⟩;have hA:Below u1.heap.size u1 U1:=by rw [hU1];exact below_alloc _ _
 have DX:Dk U1 u1.heap.size false (.slice a1 (ws XD).length c1) eD:=by rw [hU1];exact Dk.new _ _ _ _
 have B1:=S0.out.trans (hb.mono S0.out.size);have BU:=B1.trans (hA.mono B1.size);have NX:=hN.below hA;have S1:=(qsd (ai BU (ai DX NX)));clear hb hN hA DX B1 BU NX S0 H1
 go_upto_region 4 with fail
 rw [←hU1];clear hU1;obtain ⟨p0,p1,p2,pf0,pf1,pf2⟩:=S1.out.2.1.facts
 go_upto_region 6 with fail
 go_cut [8] from 22 to 30 (fun kv wx=>kv=.int .u64 kk∧Aside (Below w.heap.size w wx∧Dk wx u1.heap.size false (.slice a1 (ws XD).length c1) eD))
 case first =>
  have O1:=hid (HO.out U1);have O2:=hid (HO.out U1.drew)
  go_region_held3 (fun w'=>w'.cell? ⟨u1.heap.size,0,none⟩=some (.bool false)∧w'.cell? ⟨u1.heap.size,1,none⟩=some (.slice a1 (ws XD).length c1)∧w'.cell? ⟨u1.heap.size,2,none⟩=some (.int .i64 eD)) (go_keep) (first
   | (go_at_call 87
      first | with_reducible refine O1.out.mono ?_ | with_reducible refine O2.out.mono ?_
      rintro r u3 ⟨rfl,hb⟩;have hb3:Below U1.heap.size U1 u3:=by first | exact hb | exact ((Below.refl _ U1).drew).trans (hb.mono (Nat.le_refl _))
      have KD:=S1.out.2.1.below hb3;have KN:=S1.out.2.2.below hb3;have KB:=S1.out.1.trans (hb3.mono S1.out.1.size);have HB3:=hid (HB.out u3 a1 c1 (KN.arg' (by omega)).2);obtain ⟨q0,q1,q2,qf0,qf1,qf2⟩:=KD.facts;have S9:=(qsd (ai KB KD))
      clear hb hb3 KD KN KB)
   | (go_at_call 90
      with_reducible refine HB3.out.mono ?_
      rintro r u4 ⟨rfl,hb⟩;have LD:=S9.out.2.below hb;obtain ⟨t0,t1,t2,tf0,tf1,tf2⟩:=LD.facts;have LB:=S9.out.1.trans (hb.mono S9.out.1.size);have S10:=(qsd (ai LB LD))
      clear hb LD LB))
  all_goals (
   go_wp2
   go_meet
   case rel=>exact ⟨rfl,S10⟩)
 case rest =>
  obtain ⟨rfl,S2⟩:=hcut;clear p0 p1 p2 pf0 pf1 pf2;obtain ⟨p0,p1,p2,pf0,pf1,pf2⟩:=S2.out.2.facts;go_wp2
  go_ret2
  exact ⟨rfl,S2.out.1⟩
theorem rRound_n {w:World}{a:Option Addr}{l c:Nat}(n:Bool) (e mode:Int) (eD:Int) (XD R:Nat) (kk k2:Int) (hm0:0≤mode) (hm4:mode≤4) (lX:(ws XD).length≤8192) (hk0:0≤kk) (e1:IntKind.u64.wrap (kk+9223372036854775808)=k2) (hR:k2.toNat=R)
 (HM:Hid (∀ (u:World),Below w.heap.size w u→Calls Tryz.prog 89 #[.agg #[.bool n,.slice a l c,.int .i64 e]] u fun r w'=>(∃ v,r=.returned (.tuple #[.agg #[.bool true,v,.int .i64 eD],.bool true])∧Nt u.heap.size w' v XD)∧Below u.heap.size u w'))
 (HO:Hid (∀ (u:World),Calls Tryz.prog 87 #[] u fun r w'=>r=.returned (.agg #[.int .i64 53,.int .i64 (-1074),.int .u64 9218868437227405312])∧Below u.heap.size u w'))
 (HB:Hid (∀ (u:World) (p:Option Addr) (s:Nat),Arg u p (ws XD).length s (ws XD)→Calls Tryz.prog 90 #[.agg #[.int .i64 53,.int .i64 (-1074),.int .u64 9218868437227405312],.bool true,.slice p (ws XD).length s,.int .i64 eD,.int .i64 mode] u fun r w'=>r=.returned (.int .u64 kk)∧Below u.heap.size u w')) :
 Calls Tryz.prog 68 #[.agg #[.bool n,.slice a l c,.int .i64 e],.int .i64 mode] w fun r w'=>r=.returned (.tuple #[.float .f64 R,.int .i64 0])∧Below w.heap.size w w':=by
 obtain ⟨W1,hW1⟩:∃ W,W=w.alloc (.cells #[.bool n,.slice a l c,.int .i64 e] 70):=⟨_,rfl⟩;have D0:Dk W1 w.heap.size n (.slice a l c) e:=by rw [hW1];exact Dk.new _ _ _ _
 have hB:Below w.heap.size w W1:=by rw [hW1];exact below_alloc w _
 obtain ⟨p0,p1,p2,pf0,pf1,pf2⟩:=D0.facts;have H1:=hid (HM.out W1 hB);have S0:=qsd hB;have hm1:decide (mode<0)=false:=decide_eq_false (by omega);have hm2:decide (4<mode)=false:=decide_eq_false (by omega);clear D0 hB;go_enter Tryz.func68,Tryz.ntmps68
 go_upto_region 1 with fail
 rw [←hW1];clear hW1;go_wp2_with fail;clear p0 p1 p2 pf0 pf1 pf2;refine H1.out.mono ?_;rintro r u1 ⟨⟨v,rfl,hN⟩,hb⟩;obtain ⟨a1,c1,rfl,_⟩:=hN.arg (by omega);obtain ⟨U1,hU1⟩:∃ U,U=u1.alloc (.cells #[.bool true,.slice a1 (ws XD).length c1,.int .i64 eD] 70):=⟨_,rfl⟩;have hA:Below u1.heap.size u1 U1:=by rw [hU1];exact below_alloc _ _
 have DX:Dk U1 u1.heap.size true (.slice a1 (ws XD).length c1) eD:=by rw [hU1];exact Dk.new _ _ _ _
 have B1:=S0.out.trans (hb.mono S0.out.size);have BU:=B1.trans (hA.mono B1.size);have NX:=hN.below hA;have S1:=(qsd (ai BU (ai DX NX)));clear hb hN hA DX B1 BU NX S0 H1
 go_upto_region 4 with fail
 rw [←hU1];clear hU1;obtain ⟨p0,p1,p2,pf0,pf1,pf2⟩:=S1.out.2.1.facts
 go_upto_region 6 with fail
 go_cut [8] from 22 to 30 (fun kv wx=>kv=.int .u64 kk∧Aside (Below w.heap.size w wx∧Dk wx u1.heap.size true (.slice a1 (ws XD).length c1) eD))
 case first =>
  have O1:=hid (HO.out U1);have O2:=hid (HO.out U1.drew)
  go_region_held3 (fun w'=>w'.cell? ⟨u1.heap.size,0,none⟩=some (.bool true)∧w'.cell? ⟨u1.heap.size,1,none⟩=some (.slice a1 (ws XD).length c1)∧w'.cell? ⟨u1.heap.size,2,none⟩=some (.int .i64 eD)) (go_keep) (first
   | (go_at_call 87
      first | with_reducible refine O1.out.mono ?_ | with_reducible refine O2.out.mono ?_
      rintro r u3 ⟨rfl,hb⟩;have hb3:Below U1.heap.size U1 u3:=by first | exact hb | exact ((Below.refl _ U1).drew).trans (hb.mono (Nat.le_refl _))
      have KD:=S1.out.2.1.below hb3;have KN:=S1.out.2.2.below hb3;have KB:=S1.out.1.trans (hb3.mono S1.out.1.size);have HB3:=hid (HB.out u3 a1 c1 (KN.arg' (by omega)).2);obtain ⟨q0,q1,q2,qf0,qf1,qf2⟩:=KD.facts;have S9:=(qsd (ai KB KD))
      clear hb hb3 KD KN KB)
   | (go_at_call 90
      with_reducible refine HB3.out.mono ?_
      rintro r u4 ⟨rfl,hb⟩;have LD:=S9.out.2.below hb;obtain ⟨t0,t1,t2,tf0,tf1,tf2⟩:=LD.facts;have LB:=S9.out.1.trans (hb.mono S9.out.1.size);have S10:=(qsd (ai LB LD))
      clear hb LD LB))
  all_goals (
   go_wp2
   go_meet
   case rel=>exact ⟨rfl,S10⟩)
 case rest =>
  obtain ⟨rfl,S2⟩:=hcut;clear p0 p1 p2 pf0 pf1 pf2;obtain ⟨p0,p1,p2,pf0,pf1,pf2⟩:=S2.out.2.facts;go_wp2
  go_ret2
  exact ⟨rfl,S2.out.1⟩
end
section
open Go.RowKit
theorem moved_raw {w:World}{a:Option Addr}{l c:Nat}{xs:List Nat}{X:Nat}(k:Nat) (h1:Arg w a l c xs) (hX:val xs=X) (hl:l≤2000000) (hk:k≤64000000) :
 Calls Tryz.prog 126 #[.slice a l c,.int .i64 (k:Nat)] w fun r w'=>∃ v,r=.returned v∧Nt w.heap.size w' v (X*2^k)∧Below w.heap.size w w':=by
 obtain ⟨q,hq⟩:∃ q,q=k/32:=⟨_,rfl⟩;obtain ⟨s,hs⟩:∃ s,s=k%32:=⟨_,rfl⟩;have e1:(k:Int)/32=(q:Int):=by omega
 have e2:(k:Int)%32=(s:Int):=by omega
 have hqb:q≤2000000:=by omega
 have hs32:s<32:=by omega
 obtain ⟨W1,hW1⟩:∃ W,W=w.alloc (.cells (madeCells #[.int .u32 0] q) 81):=⟨_,rfl⟩;have hO1:Own W1 w.heap.size (List.replicate q 0):=by rw [hW1];exact Own.made w q
 have hB1:Below w.heap.size w W1:=by rw [hW1];exact (Below.refl _ _).alloc (Nat.le_refl _) _
 have hmk:=make_words (q:Int) q rfl (by omega) w;rw [←hW1] at hmk;have hR:=own_row_made hO1 (by simp;omega);simp only [List.length_replicate] at hR;have A1:=h1.below hB1;obtain ⟨v',w2,hap,hown,hgrow⟩:=append_words W1 w.heap.size _ q (List.replicate q 0) xs a l c W1.heap.size 68 hR A1.len A1.rd A1.nil (by omega) hB1.size;have hB2:Below w.heap.size w w2:=hB1.grown hgrow hB1.size (fun k hk=>by simp [Value.ownBlock] at hk;omega);obtain ⟨a2,c2,rfl,hc2,hl2,hnil2,hRd2⟩:=Rw.words hown;have AO:Arg w2 a2 (q+l) c2 (List.replicate q 0++xs):=⟨hl2,hc2,by omega,(Wf.zeros q).append h1.wf,hRd2,hnil2⟩
 have hval:val (List.replicate q 0++xs)=X*pw q:=by
  rw [val_append,val_zeros,hX,List.length_replicate,Nat.zero_add,Nat.mul_comm]
 have hpw:pw q*2^s=2^k:=by
  have:pw q=2^(32*q):=by unfold pw;rw [Nat.pow_mul]
  rw [this,←Nat.pow_add];congr 1;omega
 have hps:=pow_small s hs32;obtain ⟨p,hp⟩:∃ p,p=2^s:=⟨_,rfl⟩
 have e3:(2:Int)^s=(p:Int):=by
  have h5:((2^s:Nat):Int)=(2:Int)^s:=by simp
  rw [←h5,←hp]
 have hpl:p<4294967296:=by omega
 have T1:=hid (rTimes_arg (V:=X*2^k) (AO.below (below_alloc w2 _)) (lit_arg w2 p (by omega)) (by omega) (by rw [hval];simp only [val];rw [←hpw,hp,Nat.mul_assoc];simp));have HAP:=hid hap;have hs2:=hB2.size;have S1:=qsd hB2;clear hap hown hgrow hB2 hl2 hnil2 hRd2 AO hval hpw A1 hR hO1 hB1 h1 hW1 hq hs hps hp hX;go_enter Tryz.func126,Tryz.ntmps126
 go_wp2_with (at_builtin;refine wpList_append_run2 rfl (.tmp 39) (.tmp 40) 68 rfl _ _ rfl rfl _ _ HAP.out ?_)
 refine T1.out.mono ?_;rintro r u3 ⟨v3,rfl,hN3,hb3⟩;have S2:=(qsd (ai hN3 hb3));clear hN3 hb3;go_wp2;go_ret;obtain ⟨hN3,hb3⟩:=S2.out;exact ⟨v3,rfl,hN3.mono (by simp;omega),S1.out.trans (((below_alloc w2 _).trans (hb3.mono (by simp))).mono hs2)⟩
theorem ag_zero1 {w:World}{a b:Option Addr}{n c m d:Nat}(e f:Int) (x y:Nat) (bx:x≤1125899906842624) (by':y≤1125899906842624) (hx:x=0) (z:Int)
 (H1:Hid (Calls Tryz.prog 125 #[.slice a n c] w fun r w'=>r=.returned (.int .i64 (x:Nat))∧w'=w))
 (H2:Hid (Calls Tryz.prog 125 #[.slice b m d] w fun r w'=>r=.returned (.int .i64 (y:Nat))∧w'=w))
 (HC:Hid (Calls Tryz.prog 130 #[.slice a n c,.slice b m d] w fun r w'=>r=.returned (.int .i64 z)∧Below w.heap.size w w')):Calls Tryz.prog 123 #[.slice a n c,.int .i64 e,.slice b m d,.int .i64 f] w fun r w'=>r=.returned (.int .i64 z)∧Below w.heap.size w w':=by
 have ex:IntKind.u64.wrap (x:Int)=(x:Int):=by rw [IntKind.wrap_u64];omega
 have ey:IntKind.u64.wrap (y:Int)=(y:Int):=by rw [IntKind.wrap_u64];omega
 subst hx;go_enter Tryz.func123,Tryz.ntmps123;go_wp2_with fail;refine H1.out.mono ?_;rintro r ww ⟨rfl,hw⟩;rw [hw];clear hw ww;go_wp2_with fail;refine H2.out.mono ?_;rintro r ww ⟨rfl,hw⟩;rw [hw];clear hw ww;go_wp2_with fail;refine HC.out.mono ?_;rintro r u1 ⟨rfl,hb⟩;have S1:=qsd hb;clear hb;go_wp2;go_ret;exact ⟨rfl,S1.out⟩
theorem ag_zero2 {w:World}{a b:Option Addr}{n c m d:Nat}(e f:Int) (x y:Nat) (bx:x≤1125899906842624) (by':y≤1125899906842624) (hx:((x:Int)==0)=false) (hy:y=0) (z:Int)
 (H1:Hid (Calls Tryz.prog 125 #[.slice a n c] w fun r w'=>r=.returned (.int .i64 (x:Nat))∧w'=w))
 (H2:Hid (Calls Tryz.prog 125 #[.slice b m d] w fun r w'=>r=.returned (.int .i64 (y:Nat))∧w'=w))
 (HC:Hid (Calls Tryz.prog 130 #[.slice a n c,.slice b m d] w fun r w'=>r=.returned (.int .i64 z)∧Below w.heap.size w w')):Calls Tryz.prog 123 #[.slice a n c,.int .i64 e,.slice b m d,.int .i64 f] w fun r w'=>r=.returned (.int .i64 z)∧Below w.heap.size w w':=by
 have ex:IntKind.u64.wrap (x:Int)=(x:Int):=by rw [IntKind.wrap_u64];omega
 have ey:IntKind.u64.wrap (y:Int)=(y:Int):=by rw [IntKind.wrap_u64];omega
 subst hy;go_enter Tryz.func123,Tryz.ntmps123;go_wp2_with fail;refine H1.out.mono ?_;rintro r ww ⟨rfl,hw⟩;rw [hw];clear hw ww;go_wp2_with fail;refine H2.out.mono ?_;rintro r ww ⟨rfl,hw⟩;rw [hw];clear hw ww;go_wp2_with fail;refine HC.out.mono ?_;rintro r u1 ⟨rfl,hb⟩;have S1:=qsd hb;clear hb;go_wp2;go_ret;exact ⟨rfl,S1.out⟩
theorem ag_turn {w:World}{a b:Option Addr}{n c m d:Nat}(e f:Int) (x y:Nat) (bx:x≤1125899906842624) (by':y≤1125899906842624) (hx:((x:Int)==0)=false) (hy:((y:Int)==0)=false) (hlt:e<f) (z:Int) (hz0:-1≤z) (hz1:z≤1)
 (H1:Hid (Calls Tryz.prog 125 #[.slice a n c] w fun r w'=>r=.returned (.int .i64 (x:Nat))∧w'=w))
 (H2:Hid (Calls Tryz.prog 125 #[.slice b m d] w fun r w'=>r=.returned (.int .i64 (y:Nat))∧w'=w))
 (HR:Hid (Calls Tryz.prog 123 #[.slice b m d,.int .i64 f,.slice a n c,.int .i64 e] w fun r w'=>r=.returned (.int .i64 z)∧Below w.heap.size w w')):Calls Tryz.prog 123 #[.slice a n c,.int .i64 e,.slice b m d,.int .i64 f] w fun r w'=>r=.returned (.int .i64 (-z))∧Below w.heap.size w w':=by
 have ex:IntKind.u64.wrap (x:Int)=(x:Int):=by rw [IntKind.wrap_u64];omega
 have ey:IntKind.u64.wrap (y:Int)=(y:Int):=by rw [IntKind.wrap_u64];omega
 go_enter Tryz.func123,Tryz.ntmps123;go_wp2_with fail;refine H1.out.mono ?_;rintro r ww ⟨rfl,hw⟩;rw [hw];clear hw ww;go_wp2_with fail;refine H2.out.mono ?_;rintro r ww ⟨rfl,hw⟩;rw [hw];clear hw ww;go_wp2_with fail;refine HR.out.mono ?_;rintro r u1 ⟨rfl,hb⟩;have S1:=qsd hb;clear hb;go_wp2;go_ret;exact ⟨rfl,S1.out⟩
theorem ag_far {w:World}{a b:Option Addr}{n c m d:Nat}(e f:Int) (x y:Nat) (bx:x≤1125899906842624) (by':y≤1125899906842624) (hx:((x:Int)==0)=false) (hy:((y:Int)==0)=false) (hge:decide (e<f)=false) (dd:Nat) (hap:IntKind.u64.wrap (IntKind.u64.wrap e-IntKind.u64.wrap f)=(dd:Int)) (hd:1099511627776<dd)
 (H1:Hid (Calls Tryz.prog 125 #[.slice a n c] w fun r w'=>r=.returned (.int .i64 (x:Nat))∧w'=w))
 (H2:Hid (Calls Tryz.prog 125 #[.slice b m d] w fun r w'=>r=.returned (.int .i64 (y:Nat))∧w'=w)):Calls Tryz.prog 123 #[.slice a n c,.int .i64 e,.slice b m d,.int .i64 f] w fun r w'=>r=.returned (.int .i64 1)∧Below w.heap.size w w':=by
 have hd2:(1099511627776:Int)<(dd:Int):=by omega
 have ex:IntKind.u64.wrap (x:Int)=(x:Int):=by rw [IntKind.wrap_u64];omega
 have ey:IntKind.u64.wrap (y:Int)=(y:Int):=by rw [IntKind.wrap_u64];omega
 go_enter Tryz.func123,Tryz.ntmps123;go_wp2_with fail;refine H1.out.mono ?_;rintro r ww ⟨rfl,hw⟩;rw [hw];clear hw ww;go_wp2_with fail;refine H2.out.mono ?_;rintro r ww ⟨rfl,hw⟩;rw [hw];clear hw ww;go_wp2;go_ret;exact ⟨rfl,Below.refl _ _⟩
theorem ag_more {w:World}{a b:Option Addr}{n c m d:Nat}(e f:Int) (x y:Nat) (bx:x≤1125899906842624) (by':y≤1125899906842624) (hx:((x:Int)==0)=false) (hy:((y:Int)==0)=false) (hge:decide (e<f)=false) (dd:Nat) (hap:IntKind.u64.wrap (IntKind.u64.wrap e-IntKind.u64.wrap f)=(dd:Int)) (hd:dd≤1099511627776) (h1:y<x+dd)
 (H1:Hid (Calls Tryz.prog 125 #[.slice a n c] w fun r w'=>r=.returned (.int .i64 (x:Nat))∧w'=w))
 (H2:Hid (Calls Tryz.prog 125 #[.slice b m d] w fun r w'=>r=.returned (.int .i64 (y:Nat))∧w'=w)):Calls Tryz.prog 123 #[.slice a n c,.int .i64 e,.slice b m d,.int .i64 f] w fun r w'=>r=.returned (.int .i64 1)∧Below w.heap.size w w':=by
 have hd2:decide ((1099511627776:Int)<(dd:Int))=false:=decide_eq_false (by omega);have hd3:decide (1099511627776<dd)=false:=decide_eq_false (by omega);have es:IntKind.u64.wrap ((x:Int)+(dd:Int))=(x:Int)+(dd:Int):=by rw [IntKind.wrap_u64];omega
 have h2:(y:Int)<(x:Int)+(dd:Int):=by omega
 have ex:IntKind.u64.wrap (x:Int)=(x:Int):=by rw [IntKind.wrap_u64];omega
 have ey:IntKind.u64.wrap (y:Int)=(y:Int):=by rw [IntKind.wrap_u64];omega
 go_enter Tryz.func123,Tryz.ntmps123;go_wp2_with fail;refine H1.out.mono ?_;rintro r ww ⟨rfl,hw⟩;rw [hw];clear hw ww;go_wp2_with fail;refine H2.out.mono ?_;rintro r ww ⟨rfl,hw⟩;rw [hw];clear hw ww;go_wp2;go_ret;exact ⟨rfl,Below.refl _ _⟩
theorem ag_less {w:World}{a b:Option Addr}{n c m d:Nat}(e f:Int) (x y:Nat) (bx:x≤1125899906842624) (by':y≤1125899906842624) (hx:((x:Int)==0)=false) (hy:((y:Int)==0)=false) (hge:decide (e<f)=false) (dd:Nat) (hap:IntKind.u64.wrap (IntKind.u64.wrap e-IntKind.u64.wrap f)=(dd:Int)) (hd:dd≤1099511627776) (h1:x+dd<y)
 (H1:Hid (Calls Tryz.prog 125 #[.slice a n c] w fun r w'=>r=.returned (.int .i64 (x:Nat))∧w'=w))
 (H2:Hid (Calls Tryz.prog 125 #[.slice b m d] w fun r w'=>r=.returned (.int .i64 (y:Nat))∧w'=w)):Calls Tryz.prog 123 #[.slice a n c,.int .i64 e,.slice b m d,.int .i64 f] w fun r w'=>r=.returned (.int .i64 (-1))∧Below w.heap.size w w':=by
 have hd2:decide ((1099511627776:Int)<(dd:Int))=false:=decide_eq_false (by omega);have hd3:decide (1099511627776<dd)=false:=decide_eq_false (by omega);have es:IntKind.u64.wrap ((x:Int)+(dd:Int))=(x:Int)+(dd:Int):=by rw [IntKind.wrap_u64];omega
 have h2:(x:Int)+(dd:Int)<(y:Int):=by omega
 have h3:decide ((y:Int)<(x:Int)+(dd:Int))=false:=decide_eq_false (by omega);have h4:decide (y<x+dd)=false:=decide_eq_false (by omega);have ex:IntKind.u64.wrap (x:Int)=(x:Int):=by rw [IntKind.wrap_u64];omega
 have ey:IntKind.u64.wrap (y:Int)=(y:Int):=by rw [IntKind.wrap_u64];omega
 go_enter Tryz.func123,Tryz.ntmps123;go_wp2_with fail;refine H1.out.mono ?_;rintro r ww ⟨rfl,hw⟩;rw [hw];clear hw ww;go_wp2_with fail;refine H2.out.mono ?_;rintro r ww ⟨rfl,hw⟩;rw [hw];clear hw ww;go_wp2;go_ret;exact ⟨rfl,Below.refl _ _⟩
theorem ag_even {w:World}{a b:Option Addr}{n c m d:Nat}(e f:Int) (x y:Nat) (bx:x≤1125899906842624) (by':y≤1125899906842624) (hx:((x:Int)==0)=false) (hy:((y:Int)==0)=false) (hge:decide (e<f)=false) (dd:Nat) (hap:IntKind.u64.wrap (IntKind.u64.wrap e-IntKind.u64.wrap f)=(dd:Int)) (hd:dd≤64000000) (h1:x+dd=y) (P:Nat) (lP:(ws P).length≤35184372088832) (z:Int)
 (H1:Hid (Calls Tryz.prog 125 #[.slice a n c] w fun r w'=>r=.returned (.int .i64 (x:Nat))∧w'=w))
 (H2:Hid (Calls Tryz.prog 125 #[.slice b m d] w fun r w'=>r=.returned (.int .i64 (y:Nat))∧w'=w))
 (HM:Hid (Calls Tryz.prog 126 #[.slice a n c,.int .i64 (dd:Nat)] w fun r w'=>∃ v,r=.returned v∧Nt w.heap.size w' v P∧Below w.heap.size w w'))
 (HC:Hid (∀ u p q,Below w.heap.size w u→Arg u p (ws P).length q (ws P)→Calls Tryz.prog 130 #[.slice p (ws P).length q,.slice b m d] u fun r w'=>r=.returned (.int .i64 z)∧Below u.heap.size u w')):Calls Tryz.prog 123 #[.slice a n c,.int .i64 e,.slice b m d,.int .i64 f] w fun r w'=>r=.returned (.int .i64 z)∧Below w.heap.size w w':=by
 have hd2:decide ((1099511627776:Int)<(dd:Int))=false:=decide_eq_false (by omega);have hd3:decide (1099511627776<dd)=false:=decide_eq_false (by omega);have es:IntKind.u64.wrap ((x:Int)+(dd:Int))=(x:Int)+(dd:Int):=by rw [IntKind.wrap_u64];omega
 have h2:decide ((x:Int)+(dd:Int)<(y:Int))=false:=decide_eq_false (by omega);have h3:decide ((y:Int)<(x:Int)+(dd:Int))=false:=decide_eq_false (by omega);have h4:decide (y<x+dd)=false:=decide_eq_false (by omega);have h5:decide (x+dd<y)=false:=decide_eq_false (by omega);have ed:IntKind.i64.wrap (dd:Int)=(dd:Int):=by rw [IntKind.wrap_i64];omega
 clear h1;have ex:IntKind.u64.wrap (x:Int)=(x:Int):=by rw [IntKind.wrap_u64];omega
 have ey:IntKind.u64.wrap (y:Int)=(y:Int):=by rw [IntKind.wrap_u64];omega
 go_enter Tryz.func123,Tryz.ntmps123;go_wp2_with fail;refine H1.out.mono ?_;rintro r ww ⟨rfl,hw⟩;rw [hw];clear hw ww;go_wp2_with fail;refine H2.out.mono ?_;rintro r ww ⟨rfl,hw⟩;rw [hw];clear hw ww;go_wp2_with fail;refine HM.out.mono ?_;rintro r u1 ⟨v,rfl,hN,hb⟩;obtain ⟨a1,c1,rfl,A1⟩:=hN.arg lP;have HC1:=hid (HC.out u1 a1 c1 hb A1);have hs1:=hb.size;have S1:=qsd hb;clear hN hb A1;go_wp2_with fail;refine HC1.out.mono ?_;rintro r u2 ⟨rfl,hb⟩;have S2:=qsd (S1.out.trans (hb.mono hs1));clear hb;go_wp2;go_ret;exact ⟨rfl,S2.out⟩
def agV (X:Nat) (e:Int) (Y:Nat) (f:Int):Int:=if X=0∨Y=0 then cmpI X Y else cmpP X e Y f
theorem against_ge {w:World}{a b:Option Addr}{n c m d:Nat}{xs ys:List Nat}(h1:Arg w a n c xs) (h2:Arg w b m d ys) (hn:n≤2000000) (hm:m≤2000000) (e f:Int) (he0:-9223372036854775808≤e) (he1:e≤9223372036854775807) (hf0:-9223372036854775808≤f) (hf1:f≤9223372036854775807) (h:f≤e) (hX:val xs≠0) (hY:val ys≠0) :
 Calls Tryz.prog 123 #[.slice a n c,.int .i64 e,.slice b m d,.int .i64 f] w fun r w'=>r=.returned (.int .i64 (cmpP (val xs) e (val ys) f))∧Below w.heap.size w w':=by
 have b1:=h1.big;have b2:=h2.big;have L1:=hid (rLen_any xs a n c w.heap.size w h1.len (by omega) h1.wf h1.rd);have L2:=hid (rLen_any ys b m d w.heap.size w h2.len (by omega) h2.wf h2.rd);have x0:(((bl (val xs):Nat):Int)==0)=false:=by have:=bl_pos _ hX;simp;omega
 have y0:(((bl (val ys):Nat):Int)==0)=false:=by have:=bl_pos _ hY;simp;omega
 have hap:=u64_apart e f he0 he1 hf0 hf1 h;have hge:decide (e<f)=false:=decide_eq_false (by omega);have c1:=bl_arg h1
 have c2:bl (val ys)≤64000000:=by
  have:=val_lt ys h2.wf;rw [←h2.len] at this;have:=bl_pw _ _ this;omega
 unfold cmpP;rw [if_neg (by omega)];obtain ⟨dd,hdd⟩:∃ dd,(e-f).toNat=dd:=⟨_,rfl⟩;rw [hdd] at hap ⊢;have hb:=bl_up (val xs) dd hX
 by_cases k1:1099511627776<dd
 · have:cmpI (val xs*2^dd) (val ys)=1:=by
    rw [cmpI_bl (by omega),hb];unfold cmpI;rw [if_neg (by omega),if_pos (by omega)]
   rw [this];exact ag_far e f _ _ c1 (by omega) x0 y0 hge dd hap k1 L1 L2
 · by_cases k2:bl (val ys)<bl (val xs)+dd
   · have:cmpI (val xs*2^dd) (val ys)=1:=by
      rw [cmpI_bl (by omega),hb];unfold cmpI;rw [if_neg (by omega),if_pos (by omega)]
     rw [this];exact ag_more e f _ _ c1 (by omega) x0 y0 hge dd hap (by omega) k2 L1 L2
   · by_cases k3:bl (val xs)+dd<bl (val ys)
     · have:cmpI (val xs*2^dd) (val ys)=-1:=by
        rw [cmpI_bl (by omega),hb];unfold cmpI;rw [if_pos (by omega)]
       rw [this];exact ag_less e f _ _ c1 (by omega) x0 y0 hge dd hap (by omega) k3 L1 L2
     · have lP:(ws (val xs*2^dd)).length≤35184372088832:=by rw [ws_len_bl,hb];omega
       obtain ⟨P,hP⟩:∃ P,val xs*2^dd=P:=⟨_,rfl⟩;have HM:=hid (moved_raw (X:=val xs) dd h1 rfl hn (by omega));rw [hP] at HM lP ⊢;exact ag_even e f _ _ c1 (by omega) x0 y0 hge dd hap (by omega) (by omega) P lP _ L1 L2 HM (hid fun u p q hu hA=>rCmp_arg hA (h2.below hu) _ (by rw [val_ws]))
theorem against_any {w:World}{a b:Option Addr}{n c m d:Nat}{xs ys:List Nat}(h1:Arg w a n c xs) (h2:Arg w b m d ys) (hn:n≤2000000) (hm:m≤2000000) (e f:Int) (he0:-9223372036854775808≤e) (he1:e≤9223372036854775807) (hf0:-9223372036854775808≤f) (hf1:f≤9223372036854775807) :
 Calls Tryz.prog 123 #[.slice a n c,.int .i64 e,.slice b m d,.int .i64 f] w fun r w'=>r=.returned (.int .i64 (agV (val xs) e (val ys) f))∧Below w.heap.size w w':=by
 have b1:=h1.big;have b2:=h2.big;have L1:=hid (rLen_any xs a n c w.heap.size w h1.len (by omega) h1.wf h1.rd);have L2:=hid (rLen_any ys b m d w.heap.size w h2.len (by omega) h2.wf h2.rd);have c1:=bl_arg h1;have c2:=bl_arg h2;unfold agV
 by_cases hX:val xs=0
 · rw [if_pos (.inl hX)];exact ag_zero1 e f _ _ c1 c2 (by rw [hX,bl_zero]) _ L1 L2 (hid (rCmp_arg h1 h2 _ rfl))
 · have x0:(((bl (val xs):Nat):Int)==0)=false:=by have:=bl_pos _ hX;simp;omega
   by_cases hY:val ys=0
   · rw [if_pos (.inr hY)];exact ag_zero2 e f _ _ c1 c2 x0 (by rw [hY,bl_zero]) _ L1 L2 (hid (rCmp_arg h1 h2 _ rfl))
   · have y0:(((bl (val ys):Nat):Int)==0)=false:=by have:=bl_pos _ hY;simp;omega
     rw [if_neg (fun h=>h.elim hX hY)]
     by_cases h:e<f
     · have hr:=cmpP_range (val ys) f (val xs) e;have:=ag_turn e f _ _ c1 c2 x0 y0 h (cmpP (val ys) f (val xs) e) (by omega) (by omega) L1 L2 (hid (against_ge h2 h1 hm hn f e hf0 hf1 he0 he1 (by omega) hY hX));rw [cmpP_neg] at this;exact this
     · exact against_ge h1 h2 hn hm e f he0 he1 hf0 hf1 (by omega) hX hY
end
section
open Go.RowKit
theorem agV_z (X:Nat) (e:Int) (Y:Nat) (f B:Int) (h1:B≤e) (h2:B≤f):agV X e Y f=cmpZ ((X*2^(e-B).toNat:Nat):Int) ((Y*2^(f-B).toNat:Nat):Int):=by
 rw [cmpZ_nat];unfold agV
 by_cases h:X=0∨Y=0
 · rw [if_pos h];have p1:=pos_iff X (e-B).toNat;have p2:=pos_iff Y (f-B).toNat;generalize X*2^(e-B).toNat=P at p1 ⊢;generalize Y*2^(f-B).toNat=Q at p2 ⊢
   have q1:X=0∧P=0∨X≠0∧P≠0:=by
    by_cases h:X=0
    · exact .inl ⟨h,p1.2 h⟩
    · exact .inr ⟨h,fun k=>h (p1.1 k)⟩
   have q2:Y=0∧Q=0∨Y≠0∧Q≠0:=by
    by_cases h:Y=0
    · exact .inl ⟨h,p2.2 h⟩
    · exact .inr ⟨h,fun k=>h (p2.1 k)⟩
   clear p1 p2;unfold cmpI;rcases h with h|h
   · rcases q1 with ⟨a,b⟩ | ⟨a,b⟩
     · rcases q2 with ⟨c,d⟩ | ⟨c,d⟩
       · rw [a,b,c,d]
       · rw [a,b,if_pos (by omega),if_pos (by omega)]
     · exact absurd h a
   · rcases q2 with ⟨c,d⟩ | ⟨c,d⟩
     · rcases q1 with ⟨a,b⟩ | ⟨a,b⟩
       · rw [a,b,c,d]
       · rw [c,d,if_neg (by omega),if_pos (by omega),if_neg (by omega),if_pos (by omega)]
     · exact absurd h c
 · rw [if_neg h];exact cmpP_base X e Y f B h1 h2
theorem num64_vK (k:Nat) (B:Int) (hB:B≤-1074):(num64 k).1*2^((num64 k).2-B).toNat=vK k*2^(-1074-B).toNat∧(num64 k).1<9007199254740992∧B≤(num64 k).2∧((num64 k).1=0↔k=0):=by
 unfold num64
 by_cases h:k/4503599627370496=0
 · rw [if_pos h];refine ⟨?_,by simp only;omega,by simp only;omega,by simp only;omega⟩;simp only;have:=vK_word 0 k (.inl rfl) (by omega);rw [Nat.zero_mul,Nat.zero_add,Nat.pow_zero,Nat.mul_one] at this;rw [this,show k%4503599627370496=k by omega]
 · rw [if_neg h];obtain ⟨q,hq⟩:∃ q,k/4503599627370496=q:=⟨_,rfl⟩;obtain ⟨f,hf⟩:∃ f,k%4503599627370496=f:=⟨_,rfl⟩;rw [hq,hf];refine ⟨?_,by simp only;omega,by simp only;omega,by simp only;omega⟩;simp only;have:=vK_word (q-1) (4503599627370496+f) (.inr (by omega)) (by omega);rw [show (q-1)*4503599627370496+(4503599627370496+f)=k by omega] at this;rw [this,Nat.mul_assoc,←Nat.pow_add,show (-1074+(q:Int)-1-B).toNat=q-1+(-1074-B).toNat by omega]
theorem num64_len (k:Nat):(ws (num64 k).1).length≤8192:=len8 (by have:=bl_le53 _ (num64_vK k (-1074) (Int.le_refl _)).2.1;omega)
theorem num64_step (k:Nat):(num64 k).2≤(num64 (k+1)).2∧(num64 (k+1)).2≤(num64 k).2+1∧-1074≤(num64 k).2:=by
 unfold num64
 by_cases h:k/4503599627370496=0
 · rw [if_pos h]
   by_cases h':(k+1)/4503599627370496=0
   · rw [if_pos h'];simp only;omega
   · rw [if_neg h'];simp only;omega
 · rw [if_neg h,if_neg (by omega)];simp only;omega
end
section
open Go.RowKit
theorem cmpZ_range (x y:Int):cmpZ x y=-1∨cmpZ x y=0∨cmpZ x y=1:=by
 unfold cmpZ
 split
 · exact .inl rfl
 · split
   · exact .inr (.inr rfl)
   · exact .inr (.inl rfl)
theorem cmpZ_eq {x y:Int}:cmpZ x y=0↔x=y:=by
 unfold cmpZ
 split
 · omega
 · split
   · omega
   · omega
theorem cmpZ_pos {x y:Int}:0<cmpZ x y↔y<x:=by
 unfold cmpZ
 split
 · omega
 · split
   · omega
   · omega
def endK (X:Nat) (e:Int):Nat:=if X=0 then 0 else flK X e
def endZ (X:Nat) (e:Int) (k:Nat):Int:=agV (num64 k).1 (num64 k).2 X e
def endH (X:Nat) (e:Int) (k:Nat):Int:=agV (X*2) e ((num64 k).1+(num64 (k+1)).1*2^((num64 (k+1)).2-(num64 k).2).toNat) (num64 k).2
theorem endZ_z (X:Nat) (e:Int) (he:-1048576≤e) (k:Nat):endZ X e k=cmpZ ((vK k*2^(-1074 - -1048576:Int).toNat:Nat):Int) ((X*2^(e - -1048576).toNat:Nat):Int):=by
 have h:=num64_vK k (-1048576) (by omega);unfold endZ;rw [agV_z _ _ _ _ (-1048576) h.2.2.1 he,h.1]
theorem endH_z (X:Nat) (e:Int) (he:-1048576≤e) (k:Nat):endH X e k=cmpZ ((2*(X*2^(e - -1048576).toNat):Nat):Int) ((vK k*2^(-1074 - -1048576:Int).toNat+vK (k+1)*2^(-1074 - -1048576:Int).toNat:Nat):Int):=by
 have h:=num64_vK k (-1048576) (by omega);have h1:=num64_vK (k+1) (-1048576) (by omega);have hs:=num64_step k;unfold endH;rw [agV_z _ _ _ _ (-1048576) he h.2.2.1,←h.1,←h1.1,Nat.add_mul,Nat.mul_assoc (num64 (k+1)).1,←Nat.pow_add,show ((num64 (k+1)).2-(num64 k).2).toNat+((num64 k).2 - -1048576).toNat=((num64 (k+1)).2 - -1048576).toNat by omega,Nat.mul_comm X 2,Nat.mul_assoc 2]
theorem end_uniq {n:Bool}{X:Nat}{e:Int}(F:Frm n X e) (k:Nat) (hk:k<9218868437227405312) (h1:k=0∨endZ X e k≤0) (h2:k+1=9218868437227405312∨0<endZ X e (k+1)):k=endK X e:=by
 have a1:vK k*2^(-1074 - -1048576:Int).toNat≤X*2^(e - -1048576).toNat:=by
  rcases h1 with rfl|h1
  · rw [show vK 0=0 from B.val_zero _,Nat.zero_mul];exact Nat.zero_le _
  · rw [endZ_z X e F.down,cmpZ_le] at h1;exact Int.ofNat_le.1 h1
 unfold endK
 by_cases hX:X=0
 · rw [if_pos hX];rw [hX,Nat.zero_mul] at a1
   by_cases h0:k=0
   · exact h0
   · have:=vS_lt (K:=0) (L:=k) (Nat.two_pow_pos (-1074 - -1048576:Int).toNat) (by omega);omega
 · rw [if_neg hX];have L:=lies X e (frm_odd F hX) F.down F.up (-1048576) F.down (by omega);refine (L.doc k hk a1 ?_).1;rcases h2 with h2|h2
   · exact .inl h2
   · rw [endZ_z X e F.down,cmpZ_pos] at h2;exact .inr (Int.ofNat_lt.1 h2)
theorem endK_lt {n:Bool}{X:Nat}{e:Int}(F:Frm n X e):endK X e<9218868437227405312:=by
 unfold endK
 split
 · omega
 · rename_i hX;exact (lies X e (frm_odd F hX) F.down F.up (-1048576) F.down (by omega)).fin
theorem end_rW (mode:Int) {n:Bool}{X:Nat}{e:Int}(F:Frm n X e):nbyD mode n (endK X e) (endZ X e (endK X e)) (endH X e (endK X e))=rW mode n X e:=by
 unfold nbyD rW;rw [endZ_z X e F.down,endH_z X e F.down]
 by_cases hX:X=0
 · rw [if_pos hX];have hk:endK X e=0:=by unfold endK;rw [if_pos hX]
   rw [hk,if_pos];rw [cmpZ_eq,hX,show vK 0=0 from B.val_zero _,Nat.zero_mul,Nat.zero_mul]
 · rw [if_neg hX];have L:=lies X e (frm_odd F hX) F.down F.up (-1048576) F.down (by omega);have hk:endK X e=flK X e:=by unfold endK;rw [if_neg hX]
   rw [hk,rndK_eq]
   have hd:=L.doc (flK X e) L.fin L.ge (by
    cases ht:(plc 53 (-1074) 1024 X e).2.2.1 with
    | true =>
      have:=L.one ht
      right
      rw [this];exact vS_lt L.pos (by omega)
    | false =>
      rcases L.high ht with h|h
      · exact .inr h
      · exact .inl (by omega))
   unfold rK
   cases ht:(plc 53 (-1074) 1024 X e).2.2.1 with
   | true =>
     have:=L.one ht;rw [if_pos (cmpZ_eq.2 (by rw [this])),if_pos rfl]
   | false =>
     have h1:=L.low ht;have h2:=hd.2.2 ht;rw [if_neg (fun q=>by have:=Int.ofNat.inj (cmpZ_eq.1 q);omega),←h2];rfl
theorem nearby64 {u:World}{p:Option Addr}{s:Nat}{n:Bool}{X:Nat}{e:Int}(A:Arg u p (ws X).length s (ws X)) (F:Frm n X e) (mode:Int) (hm0:0≤mode) (hm4:mode≤4) :
 Calls Tryz.prog 90 #[.agg #[.int .i64 53,.int .i64 (-1074),.int .u64 9218868437227405312],.bool n,.slice p (ws X).length s,.int .i64 e,.int .i64 mode] u fun r w'=>r=.returned (.int .u64 (rW mode n X e:Nat))∧Below u.heap.size u w':=by
 have hd:=F.down;have hu:=F.up;have lX:=frm_len F;have hsz:=F.size;have hK:=endK_lt F;rw [←end_rW mode F];obtain ⟨K,hKK⟩:∃ K,endK X e=K:=⟨_,rfl⟩;rw [hKK] at hK ⊢;have b0:=num64_vK K (-1074) (Int.le_refl _);have b1:=num64_vK (K+1) (-1074) (Int.le_refl _);have st:=num64_step K;have fr:(num64 K).2≤1000:=by unfold num64;split <;> simp only <;> omega
 have t2:(ws (X*2)).length≤8193:=by
  rw [ws_len_bl];have h:=bl_le (X:=X*2) (k:=bl X+1) (by have:=bl_lt X;rw [Nat.pow_succ];omega);omega
 have hMV:(num64 (K+1)).1*2^((num64 (K+1)).2-(num64 K).2).toNat<2^54:=by
  have hp:2^((num64 (K+1)).2-(num64 K).2).toNat≤2:=by
   have:((num64 (K+1)).2-(num64 K).2).toNat≤1:=by omega
   exact Nat.le_trans (Nat.pow_le_pow_right (by omega) this) (by omega)
  have:=Nat.mul_le_mul_left (num64 (K+1)).1 hp;have:=b1.2.1;omega
 have lM:=len8 (X:=(num64 (K+1)).1*2^((num64 (K+1)).2-(num64 K).2).toNat) (by have:=bl_le hMV;omega);have lS:=len8 (X:=(num64 K).1+(num64 (K+1)).1*2^((num64 (K+1)).2-(num64 K).2).toNat) (by have:=bl_le (X:=(num64 K).1+(num64 (K+1)).1*2^((num64 (K+1)).2-(num64 K).2).toNat) (k:=55) (by have:=b0.2.1;omega);omega);have hv3:endH X e K=-1∨endH X e K=0∨endH X e K=1:=by rw [endH_z X e hd];exact cmpZ_range _ _
 have HAg:∀ (k:Nat) (v:World) (q:Option Addr) (t:Nat),k<9218868437227405312→Below u.heap.size u v→Arg v q (ws (num64 k).1).length t (ws (num64 k).1)→Calls Tryz.prog 123 #[.slice q (ws (num64 k).1).length t,.int .i64 (num64 k).2,.slice p (ws X).length s,.int .i64 e] v fun r w'=>r=.returned (.int .i64 (endZ X e k))∧Below v.heap.size v w':=fun k v q t hk hb hA=>by
  have hl:=num64_len k;have hr:-1074≤(num64 k).2∧(num64 k).2≤1000:=by unfold num64;split <;> simp only <;> omega
  have:=against_any hA (A.below hb) (by omega) (by omega) (num64 k).2 e (by omega) (by omega) (by omega) (by omega);rw [val_ws,val_ws] at this;exact this
 refine nearby_core 53 (-1074) 9218868437227405312 n K e (num64 K).2 mode (num64 K).1 _ _ (num64_len K) (by omega) hm0 hm4 hv3 ?_ (hid fun v=>rNumber64 K (by omega) v) (hid fun v q t hb hA=>HAg K v q t hK hb hA) ?_
 · refine hid fun v hb=>?_;refine (below_core 53 (-1074) 9218868437227405312 e (by omega) (by omega) num64 (endZ X e) num64_len (hid fun k v hk=>rNumber64 k (by omega) v) (hid fun k v' q t hk hb' hA=>HAg k v' q t hk (hb.trans (hb'.mono hb.size)) hA)).mono ?_;rintro r w' ⟨⟨k,rfl,hk,h1,h2⟩,hb2⟩;rw [end_uniq F k hk h1 h2,hKK];exact ⟨rfl,hb2⟩
 · refine hid fun v hb=>?_;refine half_core 53 (-1074) 9218868437227405312 (K:Int) ((K+1:Nat):Int) e (num64 K).2 (num64 (K+1)).2 ((num64 (K+1)).2-(num64 K).2) (num64 K).1 (num64 (K+1)).1 ((num64 (K+1)).1*2^((num64 (K+1)).2-(num64 K).2).toNat) ((num64 K).1+(num64 (K+1)).1*2^((num64 (K+1)).2-(num64 K).2).toNat) (X*2) (endH X e K) (num64_len K) (num64_len _) lM lS (by omega) ?_ (decide_eq_false (by omega)) ?_ (hid fun v=>rNumber64 K (by omega) v) (hid fun v=>rNumber64 (K+1) (by omega) v) ?_ ?_ ?_ ?_
   · simp [IntKind.wrap,IntKind.bits,IntKind.signed];omega
   · simp [IntKind.wrap,IntKind.bits,IntKind.signed];omega
   · refine hid fun v' q t lo hN=>?_;have:=moved_any hN ((num64 (K+1)).2-(num64 K).2) (by omega) (by omega) (fun h=>by have:=b1.2.2.2.1 h;omega) (by have:=num64_len (K+1);omega);rw [if_neg (by omega)] at this;exact this
   · exact hid fun v' q t q2 t2 h1 h2=>rPlus_arg h1 h2 (by have:=num64_len K;omega) (by omega) (by rw [val_ws,val_ws])
   · exact hid fun v' q hb' hA=>rTimes_arg (A.below (hb.trans (hb'.mono hb.size))) hA (by omega) (by rw [val_ws];rfl)
   · refine hid fun v' q t q2 t3 h1 h2=>?_;have:=against_any h1 h2 (by omega) (by omega) e (num64 K).2 (by omega) (by omega) (by omega) (by omega);rw [val_ws,val_ws] at this;exact this
end
section
open Go.RowKit
theorem rRound_any {w:World}{a:Option Addr}{l c:Nat}{xs:List Nat}(h1:Arg w a l c xs) (hl:l≤2000000) (n:Bool) (e mode:Int) (he0:-9223372036854775808≤e) (he1:e≤9223372036854775807) :
 Calls Tryz.prog 68 #[.agg #[.bool n,.slice a l c,.int .i64 e],.int .i64 mode] w fun r w'=>r=.returned (.tuple #[.float .f64 (rndS (mkS n (val xs) e) mode).1,.int .i64 (rndS (mkS n (val xs) e) mode).2])∧Below w.heap.size w w':=by
 have HM:=hid fun u (hu:Below w.heap.size w u)=>rMade_any (h1.below hu) hl n e he0 he1
 by_cases hm0:mode<0
 · have hr:rndS (mkS n (val xs) e) mode=(0,1):=by unfold rndS;rw [if_pos (.inl hm0)]
   rw [hr];exact rRound_lo n e mode hm0
 · by_cases hm4:4<mode
   · have hr:rndS (mkS n (val xs) e) mode=(0,1):=by unfold rndS;rw [if_pos (.inr hm4)]
     rw [hr];exact rRound_hi n e mode (decide_eq_false hm0) hm4
   · have lX:=mkS_len n (val xs) e
     cases ho:mkS n (val xs) e with
     | none =>
       rw [ho] at HM lX;have hr:rndS none mode=(0,2):=by unfold rndS;rw [if_neg (by omega)]
       rw [hr];exact rRound_no n e mode (dN none) (dE none) (dX none) (by omega) (by omega) lX HM
     | some x =>
       obtain ⟨nD,XD,eD⟩:=x;have F:=mkS_frm ho;rw [ho] at HM lX;rw [rndS_form mode nD XD eD (by omega) (by omega)];have hle:=rW_le mode nD XD eD F;have HB:=hid fun (u:World) (p:Option Addr) (s:Nat) (hA:Arg u p (ws XD).length s (ws XD))=>nearby64 hA F mode (by omega) (by omega)
       cases nD with
       | false =>
         refine rRound_p n e mode eD XD _ _ 0 (by omega) (by omega) lX (by omega) ?_ HM (hid fun u=>of64_any u) HB;unfold wd64 rS
         split <;> simp
       | true =>
         have hX:XD≠0:=fun h=>by rcases F.odd with k | ⟨_,k,_⟩;omega;cases k
         refine rRound_n n e mode eD XD _ _ ((rW mode true XD eD:Nat)+9223372036854775808) (by omega) (by omega) lX (by omega) ?_ ?_ HM (hid fun u=>of64_any u) HB
         · simp [IntKind.wrap,IntKind.bits,IntKind.signed];omega
         · unfold wd64 rS;rw [if_neg hX,if_pos rfl];omega
end
end Go.Proofs.YtepkabljmpbmaaaGreatDoor
