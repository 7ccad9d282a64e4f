import Derived.Test.YtmkmndlpjenemaaGreatDoorD30x
import Derived.Test.YtmkmndlpjenemaaGreatDoorBW6x
import Derived.Deep.RegionHeld3
import Derived.BigQuiet
import Derived.Deep.Cut
import Derived.Test.YtmkmndlpjenemaaGreatDoorBIeeex
import Derived.Test.YtmkmndlpjenemaaGreatDoorD21x
import Derived.Deep.CutRange
import Derived.Test.YtmkmndlpjenemaaGreatDoorS11ax
import Derived.Test.YtmkmndlpjenemaaGreatDoorM1x
import Derived.Test.YtmkmndlpjenemaaGreatDoorW24x
import Derived.Laws.IdiomStrings
set_option linter.unusedVariables false
set_option linter.unusedSimpArgs false
set_option maxHeartbeats 16000000
set_option maxRecDepth 20000
namespace Go.Proofs.YtmkmndlpjenemaaGreatDoor
namespace J
end J
section
open Go.RowKit
def ofK (s:Bool) (K:Nat):Option (Bool×Nat×Int):=ofR s (K/4503599627370496) (K%4503599627370496)
theorem ofK_val (s:Bool) (K:Nat) (hK:K<9218868437227405312):∃ n X e,ofK s K=some (n,X,e)∧Frm n X e∧(X≠0→n=s)∧(X=0↔K=0)∧∀ Bs:Int,Bs≤-1074→zv Bs (n,X,e)=sg1 s*((vK K*2^(-1074-Bs).toNat:Nat):Int):=by
 obtain ⟨x,hx⟩:∃ x,K/4503599627370496=x:=⟨_,rfl⟩;obtain ⟨f,hf⟩:∃ f,K%4503599627370496=f:=⟨_,rfl⟩;have hxl:x<2047:=by omega
 have hfl:f<4503599627370496:=by omega
 obtain ⟨M,hM⟩:∃ M,(if x=0 then f else f+4503599627370496)=M:=⟨_,rfl⟩
 obtain ⟨E,hE⟩:∃ E:Int,(if x=0 then (-1074:Int) else (x:Int)-1075)=E:=⟨_,rfl⟩
 have hME:(x=0∧M=f∧E=-1074)∨(x≠0∧M=f+4503599627370496∧E=(x:Int)-1075):=by
  by_cases h:x=0
  · rw [if_pos h] at hM hE;exact .inl ⟨h,hM.symm,hE.symm⟩
  · rw [if_neg h] at hM hE;exact .inr ⟨h,hM.symm,hE.symm⟩
 have hMl:M<9007199254740992:=by omega
 have hO:ofK s K=mkS s M E:=by unfold ofK ofR;rw [hx,hf,if_neg (by omega),hM,hE]
 have hsome:(mkS s M E).isSome=true:=by
  unfold mkS
  split
  · rfl
  · rename_i h0
    have hb:=bl_le53 M hMl;obtain ⟨_,_,_,hbb⟩:=odd_part M h0;rw [if_neg (by omega)]
    rfl
 obtain ⟨⟨n,X,e⟩,hz⟩:=Option.isSome_iff_exists.1 hsome;have hKw:K=(E+1074).toNat*4503599627370496+M:=by rcases hME with h | h <;> omega
 have hv:vK K=M*2^(E+1074).toNat:=by
  rw [hKw];exact vK_word _ _ (by rcases hME with h | h;left;omega;right;omega) (by omega)
 have hM0:M=0↔K=0:=by rcases hME with h | h <;> omega
 refine ⟨n,X,e,by rw [hO,hz],mkS_frm hz,?_,?_,?_⟩
 · intro hX
   unfold mkS at hz
   split at hz
   · cases hz;exact absurd rfl hX
   · split at hz
     · cases hz
     · cases hz;rfl
 · rw [←hM0]
   constructor
   · intro hX
     unfold mkS at hz
     split at hz
     · assumption
     · rename_i h0
       split at hz
       · cases hz
       · obtain ⟨m,_,hd,_⟩:=odd_part M h0
         cases hz
         omega
   · intro h0
     unfold mkS at hz;rw [if_pos h0] at hz
     cases hz;rfl
 · intro Bs hBs
   rw [zv_mkS hz Bs (.inr (by omega)),hv,Nat.mul_assoc,←Nat.pow_add,show (E+1074).toNat+(-1074-Bs).toNat=(E-Bs).toNat by omega]
end
section
open Go.RowKit J
theorem hBin:Ieee.double.binade≤Ieee.double.infRung:=by rw [B.dInf,B.dBin];omega
theorem wd_of (x:Nat) (h:x<18446744073709551616):x=wd64 (negW x) (magW x):=by
 unfold wd64 negW magW
 by_cases hx:9223372036854775808≤x
 · rw [decide_eq_true hx,if_pos rfl];omega
 · rw [decide_eq_false hx,if_neg (by simp)];omega
theorem rK_ne {K R:Nat}{t n:Bool}{m:Int}{V S:Nat}(h:Lies K t m V S) (hR:NE R V S):rK 0 n K t m=min R 9218868437227405312:=by
 have hf:=h.fin;have hS:=h.pos
 cases t with
 | true =>
   have:NE K V S:=NEf.own hS (h.one rfl);rw [hR.one this hS];unfold rK;rw [if_pos rfl,Nat.min_eq_left (by omega)]
 | false =>
   have hlow:B.val Ieee.double K*S<V:=h.low rfl;have hmids:V<B.val Ieee.double (K+1)*S→(m=-1∧2*V<B.val Ieee.double K*S+B.val Ieee.double (K+1)*S∨m=0∧2*V=B.val Ieee.double K*S+B.val Ieee.double (K+1)*S∨m=1∧B.val Ieee.double K*S+B.val Ieee.double (K+1)*S<2*V):=h.mids rfl;have hhigh:V<B.val Ieee.double (K+1)*S∨(K=9218868437227405311∧m=1):=h.high rfl;unfold rK;rw [if_neg (by simp)]
   by_cases hh:V<B.val Ieee.double (K+1)*S
   · have e:(B.val Ieee.double K+B.val Ieee.double (K+1))*S=B.val Ieee.double K*S+B.val Ieee.double (K+1)*S:=Nat.add_mul _ _ _
     have s2:B.val Ieee.double (K+1)*S<B.val Ieee.double (K+2)*S:=Nat.mul_lt_mul_of_pos_right (B.val_lt_succ Ieee.double (K+1)) hS;have eU:(B.val Ieee.double (K+1)+B.val Ieee.double (K+2))*S=B.val Ieee.double (K+1)*S+B.val Ieee.double (K+2)*S:=Nat.add_mul _ _ _
     have stay:(2*V<B.val Ieee.double K*S+B.val Ieee.double (K+1)*S∨2*V=B.val Ieee.double K*S+B.val Ieee.double (K+1)*S∧K%2=0)→NE K V S:=by
      intro hc;refine ⟨by rw [e];omega,fun h1=>by rw [e] at h1;omega,fun h0=>?_,fun h0 h1=>?_⟩
      · have:=Nat.mul_lt_mul_of_pos_right (B.val_lt Ieee.double (show K-1<K by omega)) hS
        rw [Nat.add_mul];omega
      · have:=Nat.mul_lt_mul_of_pos_right (B.val_lt Ieee.double (show K-1<K by omega)) hS
        rw [Nat.add_mul] at h1;omega
     have go:(B.val Ieee.double K*S+B.val Ieee.double (K+1)*S<2*V∨2*V=B.val Ieee.double K*S+B.val Ieee.double (K+1)*S∧K%2=1)→NE (K+1) V S:=by
      intro hc;refine ⟨by rw [eU];omega,fun h1=>by rw [eU] at h1;omega,fun h0=>?_,fun h0 h1=>?_⟩
      · rw [show K+1-1=K from rfl,e];omega
      · rw [show K+1-1=K from rfl,e] at h1;omega
     rcases hmids hh with ⟨h1,h2⟩|⟨h1,h2⟩|⟨h1,h2⟩
     · have ho:outS 0 K m n=false:=by unfold outS;subst h1;simp
       rw [ho,if_neg (by simp),hR.one (stay (.inl h2)) hS,Nat.min_eq_left (by omega)]
     · by_cases hp:K%2=1
       · have ho:outS 0 K m n=true:=by unfold outS;subst h1;simp [hp]
         rw [ho,if_pos rfl,hR.one (go (.inr ⟨h2,hp⟩)) hS,Nat.min_eq_left (by omega)]
       · have ho:outS 0 K m n=false:=by unfold outS;subst h1;simp [hp]
         rw [ho,if_neg (by simp),hR.one (stay (.inr ⟨h2,by omega⟩)) hS,Nat.min_eq_left (by omega)]
     · have ho:outS 0 K m n=true:=by unfold outS;subst h1;simp
       rw [ho,if_pos rfl,hR.one (go (.inl h2)) hS,Nat.min_eq_left (by omega)]
   · obtain ⟨h1,h2⟩:K=9218868437227405311∧m=1:=by
      rcases hhigh with q|q
      · exact absurd q hh
      · exact q
     have ho:outS 0 K m n=true:=by unfold outS;subst h2;simp
     rw [ho,if_pos rfl]
     have hRi:9218868437227405312≤R:=by
      apply Nat.le_of_not_lt;intro hlt
      have u:=hR.up;have m1:B.val Ieee.double R*S<B.val Ieee.double (R+1)*S:=Nat.mul_lt_mul_of_pos_right (B.val_lt_succ Ieee.double R) hS;have m2:B.val Ieee.double (R+1)*S≤B.val Ieee.double (K+1)*S:=Nat.mul_le_mul_right S (vmono (by omega))
      rw [Nat.add_mul] at u;omega
     rw [Nat.min_eq_right hRi];omega
theorem rW_ne {n:Bool}{X:Nat}{e:Int}(F:Frm n X e) (hX:X≠0) (Bs:Int) (hB:Bs≤-1048576) {V U S R:Nat}(h1:X*2^(e-Bs).toNat=V*S) (h2:2^(-1074-Bs).toNat=U*S) (hR:NE R V U):rW 0 n X e=min R 9218868437227405312:=by
 have ho:=frm_odd F hX;have L:=lies X e ho F.down F.up Bs (by have:=F.down;omega) (by omega)
 have hS:0<S:=by
  rcases Nat.eq_zero_or_pos S with h|h
  · rw [h,Nat.mul_zero] at h2;have:=Nat.two_pow_pos (-1074-Bs).toNat;omega
  · exact h
 unfold rW;rw [if_neg hX,rndK_eq];rw [h1,h2] at L;exact rK_ne L (hR.scale S hS)
end
section
open Go.RowKit J
theorem exU (a:Nat):∃ u:Nat,u=2^a:=⟨_,rfl⟩
def EU:Nat:=1074
def ES:Nat:=2095004
noncomputable def UU:Nat:=Classical.choose (exU EU)
noncomputable def SS:Nat:=Classical.choose (exU ES)
theorem U_eq:UU=2^EU:=Classical.choose_spec (exU EU)
theorem S_eq:SS=2^ES:=Classical.choose_spec (exU ES)
theorem U_pos:0<UU:=by rw [U_eq];exact Nat.two_pow_pos _
theorem S_pos:0<SS:=by rw [S_eq];exact Nat.two_pow_pos _
theorem EUS:EU+ES=2096078:=by unfold EU ES;rfl
theorem US (a:Nat) (h:a=2096078):2^a=UU*SS:=by
 rw [U_eq,S_eq,←Nat.pow_add,EUS,h]
theorem mkSz (n:Bool) (e:Int):mkS n 0 e=some (false,0,0):=by unfold mkS;rw [if_pos rfl]
structure Fo (o:Option (Bool×Nat×Int)) (z:Int) (L H:Int):Prop where
 ex:∃ n X e,o=some (n,X,e)∧Frm n X e∧zv (-2097152) (n,X,e)=z*(SS:Int)∧(X=0∨L≤e∧e+(bl X:Int)≤H)
theorem Fo.frm {n:Bool}{X:Nat}{e z L H:Int}(h:Fo (some (n,X,e)) z L H):Frm n X e∧zv (-2097152) (n,X,e)=z*(SS:Int)∧(X=0∨L≤e∧e+(bl X:Int)≤H):=by
 obtain ⟨n',X',e',h1,h2,h3,h4⟩:=h.ex
 cases h1
 exact ⟨h2,h3,h4⟩
theorem mkS_sz (n:Bool) (Z:Nat) (f L H:Int) (hZ:Z≠0) (h1:L≤f) (h2:f+(bl Z:Int)≤H) (hL:-1000000≤L) (hH:H≤1000000) (hd:H-L≤262144) :
 ∃ X e,mkS n Z f=some (n,X,e)∧X≠0∧L≤e∧e+(bl X:Int)≤H:=by
 obtain ⟨m,e0,e1,e2⟩:=odd_part Z hZ;unfold mkS;rw [if_neg hZ,if_neg (by omega)]
 exact ⟨_,_,rfl,by omega,by omega,by omega⟩
theorem blLe {X m:Nat}(h:X<2^m):bl X≤m:=by
 apply Nat.le_of_not_lt;intro hh
 have:=(bl_gt X m).1 hh;omega
theorem lt_bl (X:Nat):X<2^bl X:=bl_lt X
theorem addUp_sz (n:Bool) (X:Nat) (e:Int) (m:Bool) (Y:Nat) (f L H:Int) (hX:X≠0) (hY:Y≠0) (hfe:f≤e) (h1:L≤f) (h2:e+(bl X:Int)≤H) (h3:f+(bl Y:Int)≤H) (hL:-1000000≤L) (hH:H≤999999) (hd:H-L≤262143) :
 ∃ n' Z g,addUp n X e m Y f=some (n',Z,g)∧(Z=0∨L≤g∧g+(bl Z:Int)≤H+1):=by
 obtain ⟨d,hdd⟩:∃ d:Nat,(e-f).toNat=d:=⟨_,rfl⟩;have hb:X*2^d<2^(bl X+d):=by rw [Nat.pow_add];exact Nat.mul_lt_mul_of_pos_right (lt_bl X) (Nat.two_pow_pos _)
 obtain ⟨q,hq⟩:∃ q:Nat,max (bl X+d) (bl Y)=q:=⟨_,rfl⟩;have q1:X*2^d<2^q:=Nat.lt_of_lt_of_le hb (Nat.pow_le_pow_right (by decide) (by omega))
 have q2:Y<2^q:=Nat.lt_of_lt_of_le (lt_bl Y) (Nat.pow_le_pow_right (by decide) (by omega))
 have q3:2^(q+1)=2^q+2^q:=by rw [Nat.pow_succ];omega
 have hq4:f+(q:Int)≤H:=by omega
 have out:∀ (n'':Bool) (Z:Nat),Z<2^(q+1)→∃ n' Z' g,mkS n'' Z f=some (n',Z',g)∧(Z'=0∨L≤g∧g+(bl Z':Int)≤H+1):=by
  intro n'' Z hZ
  by_cases h0:Z=0
  · subst h0;rw [mkSz];exact ⟨_,_,_,rfl,.inl rfl⟩
  · have:=blLe hZ
    obtain ⟨X',e',k1,k2,k3,k4⟩:=mkS_sz n'' Z f L (H+1) h0 h1 (by omega) hL (by omega) (by omega)
    exact ⟨_,_,_,k1,.inr ⟨k3,k4⟩⟩
 unfold addUp;rw [hdd,if_neg (by omega)]
 split
 · exact out _ _ (by omega)
 · split
   · exact out _ _ (by omega)
   · exact out _ _ (by omega)
theorem addD_sz {o p:Option (Bool×Nat×Int)}{x y L H:Int}(h1:Fo o x L H) (h2:Fo p y L H) (hL:-1000000≤L) (hH:H≤999999) (hd:H-L≤262143):∃ n Z g,addD o p=some (n,Z,g)∧(Z=0∨L≤g∧g+(bl Z:Int)≤H+1):=by
 obtain ⟨n,X,e,rfl,F,_,b1⟩:=h1.ex;obtain ⟨m,Y,f,rfl,G,_,b2⟩:=h2.ex;unfold addD addF;simp only
 by_cases hX:X=0
 · rw [if_pos hX];exact ⟨_,_,_,rfl,by omega⟩
 · rw [if_neg hX]
   by_cases hY:Y=0
   · rw [if_pos hY];exact ⟨_,_,_,rfl,by omega⟩
   · rw [if_neg hY]
     by_cases hlt:e<f
     · rw [if_pos hlt];exact addUp_sz m Y f n X e L H hY hX (by omega) (by omega) (by omega) (by omega) hL hH hd
     · rw [if_neg hlt];exact addUp_sz n X e m Y f L H hX hY (by omega) (by omega) (by omega) (by omega) hL hH hd
theorem Fo.add {o p:Option (Bool×Nat×Int)}{x y L H:Int}(h1:Fo o x L H) (h2:Fo p y L H) (hL:-1000000≤L) (hH:H≤999999) (hd:H-L≤262143):Fo (addD o p) (x+y) L (H+1):=by
 obtain ⟨n,Z,g,hz,hb⟩:=addD_sz h1 h2 hL hH hd;obtain ⟨n1,X1,e1,r1,F1,v1,_⟩:=h1.ex;obtain ⟨n2,X2,e2,r2,F2,v2,_⟩:=h2.ex;have V:=Fv.add (B:=-2097152) (by omega) ⟨n1,X1,e1,r1,F1,v1⟩ ⟨n2,X2,e2,r2,F2,v2⟩ (by rw [hz];rfl)
 obtain ⟨n',Z',g',r,F,v⟩:=V.ex;rw [hz] at r
 cases r
 exact ⟨n,Z,g,hz,F,by rw [v,Int.add_mul],hb⟩
end
section
open Go.RowKit J
theorem sg1_sg (s:Bool) (v:Nat):sg1 s*(v:Int)=B.sg s v:=by unfold sg1 B.sg;cases s <;> simp
theorem top_v (K:Nat) (hK:K<9218868437227405312) (a:Nat) (ha:a=2045):vK K<9007199254740992*2^a:=by
 have h:=vK_word a 9007199254740992 (.inr (by omega)) (by omega)
 have h2:a*4503599627370496+9007199254740992=9218868437227405312:=by rw [ha]
 rw [←h,h2];exact vK_lt.2 hK
theorem of_fo (s:Bool) (K:Nat) (hK:K<9218868437227405312):∃ n X e,ofK s K=some (n,X,e)∧Fo (some (n,X,e)) (B.sg s (vK K)*(UU:Int)) (-1074) 1024∧(X=0↔K=0):=by
 obtain ⟨n,X,e,h1,F,h2,h3,h4⟩:=ofK_val s K hK;refine ⟨n,X,e,h1,⟨n,X,e,rfl,F,?_,?_⟩,h3⟩
 · obtain ⟨a,ha⟩:∃ a:Nat,(-1074 - -2097152:Int).toNat=a:=⟨_,rfl⟩
   have h5:=h4 (-2097152) (by omega)
   rw [ha] at h5;rw [h5,US a (by omega),Int.natCast_mul,Int.natCast_mul,←Int.mul_assoc,←Int.mul_assoc,sg1_sg]
 · by_cases hX:X=0
   · exact .inl hX
   · right
     have ho:=frm_odd F hX;have hd:=F.down
     -- in units of the form's own place
     have h5:=h4 (min e (-1074)) (by omega)
     unfold zv at h5;simp only at h5;rw [h2 hX] at h5
     have h6:X*2^(e-min e (-1074)).toNat=vK K*2^(-1074-min e (-1074)).toNat:=by
      unfold sg1 at h5
      cases s
      · simp only [Bool.false_eq_true,if_false,Int.one_mul] at h5;exact_mod_cast h5
      · simp only [if_true] at h5;have:=Int.eq_of_mul_eq_mul_left (by decide) h5;exact_mod_cast this
     have he:-1074≤e:=by
      apply Int.le_of_not_gt;intro hlt
      rw [show (e-min e (-1074)).toNat=0 by omega,Nat.pow_zero,Nat.mul_one] at h6
      obtain ⟨q,hq⟩:∃ q,(-1074-min e (-1074)).toNat=q+1:=⟨(-1074-min e (-1074)).toNat-1,by omega⟩
      rw [hq,Nat.pow_succ,←Nat.mul_assoc] at h6;omega
     refine ⟨he,?_⟩;rw [show (-1074-min e (-1074)).toNat=0 by omega,Nat.pow_zero,Nat.mul_one] at h6
     obtain ⟨q,hq⟩:∃ q,(e-min e (-1074)).toNat=q:=⟨_,rfl⟩;rw [hq] at h6;obtain ⟨c,hc⟩:∃ c:Nat,c=2045:=⟨_,rfl⟩;have h7:=top_v K hK c hc;have h8:=bl_ge X hX;have h9:=bl_pos X hX;obtain ⟨b,hb⟩:∃ b,bl X=b+1:=⟨bl X-1,by omega⟩
     rw [hb,Nat.add_sub_cancel] at h8;have h10:2^b*2^q<9007199254740992*2^c:=Nat.lt_of_le_of_lt (Nat.mul_le_mul_right _ h8) (by rw [h6];exact h7)
     rw [←Nat.pow_add,show (9007199254740992:Nat)=2^53 from rfl,←Nat.pow_add] at h10
     have h11:=(Nat.pow_lt_pow_iff_right (by decide:1<2)).1 h10
     omega
theorem round_fo {n:Bool}{X:Nat}{e T L H:Int}(h:Fo (some (n,X,e)) T L H) (hT:T≠0):X≠0∧n=decide (T<0)∧∀ R,NE R T.natAbs UU→rW 0 n X e=min R 9218868437227405312:=by
 obtain ⟨F,hv,_⟩:=h.frm;have hS:=S_pos;unfold zv at hv;simp only at hv
 have hX:X≠0:=by
  intro h0;rw [h0,Nat.zero_mul] at hv;have:T*(SS:Int)=0:=by rw [←hv];simp
  rcases Int.mul_eq_zero.1 this with h|h <;> omega
 obtain ⟨q,hq⟩:∃ q,X*2^(e - -2097152).toNat=q:=⟨_,rfl⟩;have hq0:0<q:=by rw [←hq];exact Nat.mul_pos (by omega) (Nat.two_pow_pos _)
 rw [hq] at hv
 have hab:q=T.natAbs*SS:=by
  have:=congrArg Int.natAbs hv;rw [Int.natAbs_mul,Int.natAbs_mul,Int.natAbs_natCast,Int.natAbs_natCast] at this;rw [←this];unfold sg1;cases n <;> simp
 refine ⟨hX,?_,fun R hR=>?_⟩
 · have hTS:T<0→T*(SS:Int)<0:=fun h=>Int.mul_neg_of_neg_of_pos h (by omega)
   have hTP:0<T→0<T*(SS:Int):=fun h=>Int.mul_pos h (by omega)
   unfold sg1 at hv
   cases n
   · simp only [Bool.false_eq_true,if_false,Int.one_mul] at hv
     rw [decide_eq_false (by intro h;have:=hTS h;omega)]
   · simp only [if_true] at hv
     rw [decide_eq_true (by apply Int.lt_of_not_ge;intro h;have:=hTP (by omega);omega)]
 · exact rW_ne F hX (-2097152) (by omega) (V:=T.natAbs) (U:=UU) (S:=SS) (by rw [hq,hab]) (US _ (by omega)) hR
theorem read_nanW (x:Nat) (h:9218868437227405312<magW x):∃ s t,Ieee.double.read x=.nan s t:=⟨_,_,B.read_nan Ieee.double x (by rw [B.dInf,B.dSign];exact h) hBin⟩
end
section
open Go.RowKit J
theorem absSg (s:Bool) (v:Nat):(B.sg s v).natAbs=v:=by unfold B.sg;cases s <;> simp
end
section
open Go.RowKit J
abbrev Wd (x:Nat):Prop:=x<18446744073709551616
end
section
open Go.RowKit J
abbrev finW (x:Nat):Prop:=magW x<9218868437227405312
def fvW (x:Nat):Int:=B.sg (negW x) (vK (magW x))
theorem sg_abs (s:Bool) (v:Nat):(B.sg s v).natAbs=v:=absSg s v
end
section
open Go.RowKit J
theorem fin_parts {x:Nat}(hx:x<18446744073709551616) (fx:finW x):ngW x=negW x∧vK (magW x)=frW x*2^(xpW x+1074).toNat∧-1074≤xpW x∧((clW x=0∧frW x=0)∨((clW x=1∨clW x=2)∧frW x≠0)):=by
 have hm:magW x=eW x*4503599627370496+fW x:=by unfold magW eW fW;omega
 have he:eW x<2047:=by have h:magW x<9218868437227405312:=fx;omega
 have hf:fW x<4503599627370496:=Nat.mod_lt _ (by decide)
 refine ⟨by unfold ngW B.ng;rw [if_neg (by omega)];rfl,?_⟩
 by_cases h0:eW x=0
 · have hfr:frW x=fW x:=by unfold frW B.fr;rw [if_neg (by omega),if_pos h0];simp
   have hxp:xpW x=-1074:=by unfold xpW B.xp;rw [if_neg (by omega),if_pos h0]
   have hv:vK (magW x)=fW x:=by
    have:=vK_word 0 (fW x) (.inl rfl) (by omega)
    rw [hm,h0];simpa using this
   refine ⟨by rw [hv,hfr,hxp];simp,by omega,?_⟩
   by_cases hz:fW x=0
   · exact .inl ⟨by unfold clW B.cls;rw [if_neg (by omega),if_pos h0,if_pos hz],by omega⟩
   · exact .inr ⟨.inl (by unfold clW B.cls;rw [if_neg (by omega),if_pos h0,if_neg hz]),by omega⟩
 · have hfr:frW x=fW x+4503599627370496:=by unfold frW B.fr;rw [if_neg (by omega),if_neg h0];omega
   have hxp:xpW x=(eW x:Int)-1075:=by unfold xpW B.xp;rw [if_neg (by omega),if_neg h0]
   have hv:vK (magW x)=(fW x+4503599627370496)*2^(eW x-1):=by
    have:=vK_word (eW x-1) (fW x+4503599627370496) (.inr (by omega)) (by omega)
    rw [←this,hm,show eW x*4503599627370496+fW x=(eW x-1)*4503599627370496+(fW x+4503599627370496) by omega]
   refine ⟨by rw [hv,hfr,hxp,show ((eW x:Int)-1075+1074).toNat=eW x-1 by omega],by omega,.inr ⟨.inr (by unfold clW B.cls;rw [if_neg (by omega),if_neg h0]),by omega⟩⟩
theorem sg_prod (a b:Bool) (f g i j:Nat):sgn7 (!(a==b)) (f*g*2^(i+j))=B.sg a (f*2^i)*B.sg b (g*2^j):=by
 have e:f*g*2^(i+j)=(f*2^i)*(g*2^j):=by
  rw [Nat.pow_add,Nat.mul_mul_mul_comm]
 rw [e];generalize f*2^i=P;generalize g*2^j=Q;unfold sgn7 B.sg
 cases a <;> cases b <;> simp [Int.neg_mul,Int.mul_neg]
theorem pT_mul {x y:Nat}(hx:x<18446744073709551616) (hy:y<18446744073709551616) (fx:finW x) (fy:finW y):pT x y=fvW x*fvW y∧(pK x y=0∨pK x y=4∨pK x y=5):=by
 obtain ⟨n1,v1,x1,c1⟩:=fin_parts hx fx;obtain ⟨n2,v2,x2,c2⟩:=fin_parts hy fy;unfold pT pK fvW;rw [n1,n2,v1,v2]
 by_cases hz:clW x=0∨clW y=0
 · have hmin:min (clW x) (clW y)=0:=by omega
   have hmax:max (clW x) (clW y)≤2:=by omega
   have hpk:pk (max (clW x) (clW y)) (min (clW x) (clW y)) (!negW x==negW y)=4∨pk (max (clW x) (clW y)) (min (clW x) (clW y)) (!negW x==negW y)=5:=by
    unfold pk;rw [hmin,if_neg (by omega),if_neg (by omega),if_pos rfl]
    split
    · exact .inl rfl
    · exact .inr rfl
   refine ⟨?_,.inr hpk⟩;rw [pv7_no (by omega)]
   rcases c1 with ⟨_,f1⟩|⟨k1,_⟩
   · rw [f1];simp [B.sg]
   · rcases c2 with ⟨_,f2⟩ | ⟨k2,_⟩
     · rw [f2];simp [B.sg]
     · omega
 · have hpk:pk (max (clW x) (clW y)) (min (clW x) (clW y)) (!negW x==negW y)=0:=by
    unfold pk;rw [if_neg (by omega),if_neg (by omega),if_neg (by omega)]
   refine ⟨?_,.inl hpk⟩;rw [pv7_yes hpk,show (xpW x+xpW y+2148).toNat=(xpW x+1074).toNat+(xpW y+1074).toNat by omega]
   have e:(!negW x==negW y)=!(negW x==negW y):=by cases negW x <;> cases negW y <;> rfl
   rw [e];exact sg_prod _ _ _ _ _ _
theorem cl_nan {x:Nat}(h:9218868437227405312<magW x):clW x=4:=by
 have hm:magW x=eW x*4503599627370496+fW x:=by unfold magW eW fW;omega
 have hf:fW x<4503599627370496:=Nat.mod_lt _ (by decide)
 have he:eW x<2048:=by have:magW x<9223372036854775808:=Nat.mod_lt _ (by decide);omega
 unfold clW B.cls;rw [if_pos (by omega),if_neg (by omega)]
theorem cl_inf {x:Nat}(h:magW x=9218868437227405312):clW x=3∧ngW x=negW x:=by
 have hm:magW x=eW x*4503599627370496+fW x:=by unfold magW eW fW;omega
 have hf:fW x<4503599627370496:=Nat.mod_lt _ (by decide)
 unfold clW B.cls ngW B.ng;rw [if_pos (by omega),if_pos (by omega),if_neg (by omega)]
 exact ⟨rfl,rfl⟩
end
section
open Go.RowKit
theorem ahead10 (g:Nat) (V:Int) (s:Sp) (mode a b:Int) (w:World) (hA:Acc7 w g V s) (hs:s.ok) (hm0:0≤mode) (hm1:mode≤4) (hab:may a b=true) (ha:¬ (0<s.n∧a=2)) (hb:¬ (0<s.u+s.d∧b=2)) :
 Calls Tryz.prog 93 #[.pointer (some ⟨g,0,none⟩),.int .i64 mode,.agg #[.int .i64 a,.int .i64 b]] w fun r w'=>r=.returned (.tuple #[.float .f64 (ahd V s mode a b).1,.bool (ahd V s mode a b).2.1,.int .i64 (ahd V s mode a b).2.2])∧Below w.heap.size w w':=by
 obtain ⟨⟨X,tl,er⟩,hX⟩:∃ X,X=ahd V s mode a b:=⟨_,rfl⟩;rw [←hX];simp only;obtain ⟨L,a1,a2,a3,a4,a5,a6⟩:=hA;have hz:=zero_words L V a1 a2 a3 a4 a5;obtain ⟨n,u,d,m,p,l⟩:=s;have HM:=hid (fun u:World=>May_any a b u)
 rw [hab] at HM;have HV:=hid (fun w:World=>Verdict_any n u d m p l a b w)
 have HN:=hid (fun w:World=>Nought_any n u d m p l mode w)
 obtain ⟨⟨vx,vt⟩,hvd⟩:∃ v,v=vd (snd n u d m p l&&may a b) n u d a b:=⟨_,rfl⟩;obtain ⟨nx,hnt⟩:∃ v,v=nt (snd n u d m p l) n u d m p l mode:=⟨_,rfl⟩;rw [←hvd] at HV;rw [←hnt] at HN;simp only at HV;simp only [ahd] at hX;rw [←hvd,←hnt] at hX;simp only at hX;have HX:=qsd hX;have HA:=qsd (ai a1 (ai a6 hz));have hlt:=a6.lt;have hne:g≠w.heap.size:=Nat.ne_of_lt hlt;have hne1:g≠w.heap.size+1:=by omega
 have c0:=a6.cell a1 0 _ rfl;have c1:=a6.cell a1 1 _ rfl;have c2:=a6.cell a1 2 _ rfl;have c3:=a6.cell a1 3 _ rfl;have c4:=a6.cell a1 4 _ rfl;have c5:=a6.cell a1 5 _ rfl;obtain ⟨h0,h1,h2,h3,h4,h5⟩:=hs;have ha1:¬ (0<n∧a=2):=ha;have hb1:¬ (0<u+d∧b=2):=hb;have b0:decide (mode<0)=false:=by simp;omega
 have b1:decide (4<mode)=false:=by simp;omega
 clear a1 a2 a3 a4 a5 a6 hX hvd hnt hab ha hb hz;go_enter Tryz.func93,Tryz.ntmps93
 go_wp2_with fail
 refine (HM.out _).mono ?_;rintro r w1 ⟨rfl,hb1⟩;have hz1:w.heap.size+1<w1.heap.size:=by have:=hb1.size;simp at this;omega
 have B1:=qsd hb1
 have P1:Aside (Bl w1 w.heap.size 29 [.int .i64 a,.int .i64 b]∧Bl w1 (w.heap.size+1) 57 [.int .i64 n,.int .i64 u,.int .i64 d,.int .i64 m,.int .i64 p,.int .i64 l]∧Below w.heap.size w w1∧Ac w1 g L ⟨n,u,d,m,p,l⟩):=by
  have e0:=(bel_alloc w (Obj.cells #[.int .i64 a,.int .i64 b] 29)).trans ((bel_alloc (w.alloc (Obj.cells #[.int .i64 a,.int .i64 b] 29)) (Obj.cells #[.int .i64 n,.int .i64 u,.int .i64 d,.int .i64 m,.int .i64 p,.int .i64 l] 57)).mono (by simp))
  have e1:=e0.trans (hb1.mono e0.size);exact ⟨(((Bl.new w 29 [_,_]).alloc _).below hb1 (by simp;omega)),((Bl.new' (w.alloc _) 57 _ [_,_,_,_,_,_] (by simp)).below hb1 (by simp)),e1,HA.out.2.1.below e1 HA.out.2.1.lt⟩
 clear hb1 c0 c1 c2 c3 c4 c5;have q0:=P1.out.1.cell 0 _ rfl;have q1:=P1.out.1.cell 1 _ rfl;have s0:=P1.out.2.1.cell 0 _ rfl;have s1:=P1.out.2.1.cell 1 _ rfl;have s2:=P1.out.2.1.cell 2 _ rfl;have s3:=P1.out.2.1.cell 3 _ rfl;have s4:=P1.out.2.1.cell 4 _ rfl;have s5:=P1.out.2.1.cell 5 _ rfl
 have hca:(0<n∧(a==2)=false)∨n≤0:=by
  by_cases h:0<n
  · exact .inl ⟨h,by simp;intro e;exact ha1 ⟨h,e⟩⟩
  · exact .inr (by omega)
 have hcb:(0<u+d∧(b==2)=false)∨u+d≤0:=by
  by_cases h:0<u+d
  · exact .inl ⟨h,by simp;intro e;exact hb1 ⟨h,e⟩⟩
  · exact .inr (by omega)
 clear ha1 hb1
 rcases hca with ⟨hn,ha'⟩|hn <;> rcases hcb with ⟨hu,hb'⟩|hu
 all_goals (
  go_wp2_with fail
  refine (HV.out _).mono ?_;rintro r w2 ⟨rfl,hb2⟩
  have P2:Aside (Bl w2 (w.heap.size+1) 57 [.int .i64 n,.int .i64 u,.int .i64 d,.int .i64 m,.int .i64 p,.int .i64 l]∧Below w.heap.size w w2∧Ac w2 g L ⟨n,u,d,m,p,l⟩) :=
   ⟨P1.out.2.1.below hb2 P1.out.2.1.lt,P1.out.2.2.1.trans (hb2.mono P1.out.2.2.1.size),P1.out.2.2.2.below hb2 P1.out.2.2.2.lt⟩
  clear hb2 q0 q1 s0 s1 s2 s3 s4 s5 hn hu
  cases vt
  · have s0:=P2.out.1.cell 0 _ rfl
    have s1:=P2.out.1.cell 1 _ rfl;have s2:=P2.out.1.cell 2 _ rfl;have s3:=P2.out.1.cell 3 _ rfl;have s4:=P2.out.1.cell 4 _ rfl;have s5:=P2.out.1.cell 5 _ rfl
    go_wp2_with (first | (with_reducible refine wpList_load_mid (P:=Tryz.prog) rfl 78 (.tmp 57) rfl g 0 rfl (L.map U) _ P2.out.2.2.range Tryz.desc_words rfl (by simp [Tryz.size_words,HA.out.1]) ?_))
    rw [Tryz.nought_words,eq_words L _ w2 HA.out.1 (by simp),HA.out.2.2]
    generalize (List.replicate 133 0).map U=zz
    by_cases hV:V=0
    · rw [decide_eq_true hV]
      simp only [Result.andThen_ok,Oper.upon];have HX2:=qsd (show (X,tl,er)=(nx,true,0) by rw [HX.out,if_neg (by decide),if_pos hV])
      clear hV
      go_wp2_with fail
      refine (HN.out _).mono ?_;rintro r w3 ⟨rfl,hb3⟩;have B3:=qsd hb3;clear hb3;go_wp2;refine bodyPost_ret (v:=.tuple #[.float .f64 nx,.bool true,.int .i64 0]) (by simp [results,Tryz.results93,go_sem]) rfl ?_
      have e:=HX2.out
      cases e
      exact ⟨rfl,P2.out.2.1.trans (B3.out.mono P2.out.2.1.size)⟩
    · rw [decide_eq_false hV]
      simp only [Result.andThen_ok,Oper.upon];have HX2:=qsd (show (X,tl,er)=(0,false,0) by rw [HX.out,if_neg (by decide),if_neg hV])
      clear hV;go_wp2;refine bodyPost_ret (v:=.tuple #[.float .f64 0,.bool false,.int .i64 0]) (by simp [results,Tryz.results93,go_sem]) rfl ?_
      have e:=HX2.out
      cases e
      exact ⟨rfl,P2.out.2.1⟩
  · go_wp2
    refine bodyPost_ret (v:=.tuple #[.float .f64 vx,.bool true,.int .i64 0]) (by simp [results,Tryz.results93,go_sem]) rfl ?_
    have e:=HX.out;rw [if_pos trivial] at e
    cases e
    exact ⟨rfl,P2.out.2.1⟩)
theorem ahead10_nan (g:Nat) (V:Int) (s:Sp) (mode a b:Int) (w:World) (hA:Acc7 w g V s) (hs:s.ok) (hm0:0≤mode) (hm1:mode≤4) (hab:may a b=true) (hx:0<s.n∧a=2) :
 Calls Tryz.prog 93 #[.pointer (some ⟨g,0,none⟩),.int .i64 mode,.agg #[.int .i64 a,.int .i64 b]] w fun r w'=>r=.returned (.tuple #[.float .f64 0,.bool false,.int .i64 60])∧Below w.heap.size w w':=by
 obtain ⟨L,a1,a2,a3,a4,a5,a6⟩:=hA;obtain ⟨n,u,d,m,p,l⟩:=s;have HM:=hid (fun u:World=>May_any a b u)
 rw [hab] at HM;have HA:=qsd (ai a1 a6);have hlt:=a6.lt;have hne:g≠w.heap.size:=Nat.ne_of_lt hlt;have hne1:g≠w.heap.size+1:=by omega
 have c0:=a6.cell a1 0 _ rfl;have c1:=a6.cell a1 1 _ rfl;have c2:=a6.cell a1 2 _ rfl;have c3:=a6.cell a1 3 _ rfl;have c4:=a6.cell a1 4 _ rfl;have c5:=a6.cell a1 5 _ rfl;obtain ⟨h0,h1,h2,h3,h4,h5⟩:=hs;have b0:decide (mode<0)=false:=by simp;omega
 have b1:decide (4<mode)=false:=by simp;omega
 have hn:0<n:=hx.1;have ha2:(a==2)=true:=by simpa using hx.2
 clear hx;clear a1 a2 a3 a4 a5 a6 hab;go_enter Tryz.func93,Tryz.ntmps93
 go_wp2_with fail
 refine (HM.out _).mono ?_;rintro r w1 ⟨rfl,hb1⟩
 have P1:Aside (Bl w1 w.heap.size 29 [.int .i64 a,.int .i64 b]∧Bl w1 (w.heap.size+1) 57 [.int .i64 n,.int .i64 u,.int .i64 d,.int .i64 m,.int .i64 p,.int .i64 l]∧Below w.heap.size w w1):=by
  have e0:=(bel_alloc w (Obj.cells #[.int .i64 a,.int .i64 b] 29)).trans ((bel_alloc (w.alloc (Obj.cells #[.int .i64 a,.int .i64 b] 29)) (Obj.cells #[.int .i64 n,.int .i64 u,.int .i64 d,.int .i64 m,.int .i64 p,.int .i64 l] 57)).mono (by simp))
  have e1:=e0.trans (hb1.mono e0.size);exact ⟨(((Bl.new w 29 [_,_]).alloc _).below hb1 (by simp;omega)),((Bl.new' (w.alloc _) 57 _ [_,_,_,_,_,_] (by simp)).below hb1 (by simp)),e1⟩
 clear hb1 c0 c1 c2 c3 c4 c5;have q0:=P1.out.1.cell 0 _ rfl;have q1:=P1.out.1.cell 1 _ rfl;have s0:=P1.out.2.1.cell 0 _ rfl;have s1:=P1.out.2.1.cell 1 _ rfl;have s2:=P1.out.2.1.cell 2 _ rfl;have s3:=P1.out.2.1.cell 3 _ rfl;have s4:=P1.out.2.1.cell 4 _ rfl;have s5:=P1.out.2.1.cell 5 _ rfl
 all_goals
  go_wp2;refine bodyPost_ret (v:=.tuple #[.float .f64 0,.bool false,.int .i64 60]) (by simp [results,Tryz.results93,go_sem]) rfl ?_
  exact ⟨rfl,P1.out.2.2⟩
theorem ahead10_inf (g:Nat) (V:Int) (s:Sp) (mode a b:Int) (w:World) (hA:Acc7 w g V s) (hs:s.ok) (hm0:0≤mode) (hm1:mode≤4) (hab:may a b=true) (hn:¬ (0<s.n∧a=2)) (hx:0<s.u+s.d∧b=2) :
 Calls Tryz.prog 93 #[.pointer (some ⟨g,0,none⟩),.int .i64 mode,.agg #[.int .i64 a,.int .i64 b]] w fun r w'=>r=.returned (.tuple #[.float .f64 0,.bool false,.int .i64 61])∧Below w.heap.size w w':=by
 obtain ⟨L,a1,a2,a3,a4,a5,a6⟩:=hA;obtain ⟨n,u,d,m,p,l⟩:=s;have HM:=hid (fun u:World=>May_any a b u)
 rw [hab] at HM;have HA:=qsd (ai a1 a6);have hlt:=a6.lt;have hne:g≠w.heap.size:=Nat.ne_of_lt hlt;have hne1:g≠w.heap.size+1:=by omega
 have c0:=a6.cell a1 0 _ rfl;have c1:=a6.cell a1 1 _ rfl;have c2:=a6.cell a1 2 _ rfl;have c3:=a6.cell a1 3 _ rfl;have c4:=a6.cell a1 4 _ rfl;have c5:=a6.cell a1 5 _ rfl;obtain ⟨h0,h1,h2,h3,h4,h5⟩:=hs;have b0:decide (mode<0)=false:=by simp;omega
 have b1:decide (4<mode)=false:=by simp;omega
 have hu:0<u+d:=hx.1;have hb2:(b==2)=true:=by simpa using hx.2
 have hca:(0<n∧(a==2)=false)∨n≤0:=by
  by_cases h:0<n
  · exact .inl ⟨h,by simp;intro e;exact hn ⟨h,e⟩⟩
  · exact .inr (by omega)
 clear hx hn;clear a1 a2 a3 a4 a5 a6 hab;go_enter Tryz.func93,Tryz.ntmps93
 go_wp2_with fail
 refine (HM.out _).mono ?_;rintro r w1 ⟨rfl,hb1⟩
 have P1:Aside (Bl w1 w.heap.size 29 [.int .i64 a,.int .i64 b]∧Bl w1 (w.heap.size+1) 57 [.int .i64 n,.int .i64 u,.int .i64 d,.int .i64 m,.int .i64 p,.int .i64 l]∧Below w.heap.size w w1):=by
  have e0:=(bel_alloc w (Obj.cells #[.int .i64 a,.int .i64 b] 29)).trans ((bel_alloc (w.alloc (Obj.cells #[.int .i64 a,.int .i64 b] 29)) (Obj.cells #[.int .i64 n,.int .i64 u,.int .i64 d,.int .i64 m,.int .i64 p,.int .i64 l] 57)).mono (by simp))
  have e1:=e0.trans (hb1.mono e0.size);exact ⟨(((Bl.new w 29 [_,_]).alloc _).below hb1 (by simp;omega)),((Bl.new' (w.alloc _) 57 _ [_,_,_,_,_,_] (by simp)).below hb1 (by simp)),e1⟩
 clear hb1 c0 c1 c2 c3 c4 c5;have q0:=P1.out.1.cell 0 _ rfl;have q1:=P1.out.1.cell 1 _ rfl;have s0:=P1.out.2.1.cell 0 _ rfl;have s1:=P1.out.2.1.cell 1 _ rfl;have s2:=P1.out.2.1.cell 2 _ rfl;have s3:=P1.out.2.1.cell 3 _ rfl;have s4:=P1.out.2.1.cell 4 _ rfl;have s5:=P1.out.2.1.cell 5 _ rfl
 rcases hca with ⟨hn,ha2⟩|hn
 all_goals
  go_wp2;refine bodyPost_ret (v:=.tuple #[.float .f64 0,.bool false,.int .i64 61]) (by simp [results,Tryz.results93,go_sem]) rfl ?_
  exact ⟨rfl,P1.out.2.2⟩
end
section
open Go.RowKit
def rd10 (V:Int) (s:Sp) (mode a b:Int):Nat×Int:=if 0<s.n∧a=2 then (0,60) else if 0<s.u+s.d∧b=2 then (0,61) else rd7 V s mode a b
theorem round10_ok (g:Nat) (V:Int) (s:Sp) (mode a b:Int) (w:World) (hA:Acc7 w g V s) (hs:s.ok) (hT:Tab w) (hm0:0≤mode) (hm1:mode≤4) (hab:may a b=true) (ha:¬ (0<s.n∧a=2)) (hb:¬ (0<s.u+s.d∧b=2)) :
 Calls Tryz.prog 53 #[.pointer (some ⟨g,0,none⟩),.int .i64 mode,.agg #[.int .i64 a,.int .i64 b]] w fun r w'=>r=.returned (.tuple #[.float .f64 (rd7 V s mode a b).1,.int .i64 (rd7 V s mode a b).2])∧Below w.heap.size w w':=by
 obtain ⟨⟨X,er⟩,hX⟩:∃ X,X=rd7 V s mode a b:=⟨_,rfl⟩;rw [←hX];simp only;have hb0:=bel_alloc w (Obj.cells #[.int .i64 a,.int .i64 b] 29);have HH:=hid (ahead10 g V s mode a b _ (hA.bel hb0) hs hm0 hm1 hab ha hb);have her:=ahd_er V s mode a b;unfold rd7 at hX;obtain ⟨⟨ax,at',ae⟩,hAh⟩:∃ Y,Y=ahd V s mode a b:=⟨_,rfl⟩;rw [←hAh] at HH her hX;simp only at HH her hX;subst her;have HX:=qsd hX;have HA:=qsd (ai hA (ai hT hb0));clear hA hT hb0 hX hAh hs hab ha hb;go_enter Tryz.func53,Tryz.ntmps53
 go_wp2_with fail
 refine HH.out.mono ?_;rintro r w1 ⟨rfl,hb1⟩;have B1:=qsd (HA.out.2.2.trans (hb1.mono HA.out.2.2.size));clear hb1
 cases at'
 · go_wp2_with fail
   refine (Exact7 g V s w1 (HA.out.1.bel B1.out) (HA.out.2.1.belows B1.out)).mono ?_;rintro r w2 ⟨v,rfl,hN,hb2⟩;obtain ⟨L,_,_,_,h0,h1,_⟩:=HA.out.1;obtain ⟨ad,c,rfl,AV⟩:=hN.arg (Nat.le_trans (dX_small h0 h1) (by decide))
   have HR:=hid (Round_any AV (HA.out.2.1.belows (B1.out.trans (hb2.mono B1.out.size))) (dN (exV V)) (dE (exV V)) mode (dE_small V).1 (dE_small V).2);rw [val_ws] at HR;have HX2:=HX.out;rw [if_neg (by decide)] at HX2
   rw [←HX2] at HR;simp only at HR;have B2:=qsd (B1.out.trans (hb2.mono B1.out.size));clear hN hb2 AV h0 h1 HX2
   go_wp2_with fail
   refine HR.out.mono ?_;rintro r w3 ⟨rfl,hb3⟩;have B3:=qsd hb3;clear hb3;go_wp2;refine bodyPost_ret (v:=.tuple #[.float .f64 X,.int .i64 er]) (by simp [results,Tryz.results53,go_sem]) rfl ?_
   exact ⟨rfl,B2.out.trans (B3.out.mono B2.out.size)⟩
 · go_wp2
   have HX2:=HX.out;rw [if_pos trivial] at HX2
   cases HX2
   refine bodyPost_ret (v:=.tuple #[.float .f64 X,.int .i64 0]) (by simp [results,Tryz.results53,go_sem]) rfl ?_
   exact ⟨rfl,B1.out⟩
theorem round10_nan (g:Nat) (mode a b:Int) (w:World)
 (HH:Hid (∀ u:World,Below w.heap.size w u→Calls Tryz.prog 93 #[.pointer (some ⟨g,0,none⟩),.int .i64 mode,.agg #[.int .i64 a,.int .i64 b]] u fun r w'=>r=.returned (.tuple #[.float .f64 0,.bool false,.int .i64 60])∧Below u.heap.size u w')) :
 Calls Tryz.prog 53 #[.pointer (some ⟨g,0,none⟩),.int .i64 mode,.agg #[.int .i64 a,.int .i64 b]] w fun r w'=>r=.returned (.tuple #[.float .f64 0,.int .i64 60])∧Below w.heap.size w w':=by
 have hb0:=qsd (bel_alloc w (Obj.cells #[.int .i64 a,.int .i64 b] 29));go_enter Tryz.func53,Tryz.ntmps53
 go_wp2_with fail
 refine (HH.out _ hb0.out).mono ?_;rintro r w1 ⟨rfl,hb1⟩;have B1:=qsd (hb0.out.trans (hb1.mono hb0.out.size));clear hb1 HH;go_wp2;refine bodyPost_ret (v:=.tuple #[.float .f64 0,.int .i64 60]) (by simp [results,Tryz.results53,go_sem]) rfl ?_
 exact ⟨rfl,B1.out⟩
theorem round10_inf (g:Nat) (mode a b:Int) (w:World)
 (HH:Hid (∀ u:World,Below w.heap.size w u→Calls Tryz.prog 93 #[.pointer (some ⟨g,0,none⟩),.int .i64 mode,.agg #[.int .i64 a,.int .i64 b]] u fun r w'=>r=.returned (.tuple #[.float .f64 0,.bool false,.int .i64 61])∧Below u.heap.size u w')) :
 Calls Tryz.prog 53 #[.pointer (some ⟨g,0,none⟩),.int .i64 mode,.agg #[.int .i64 a,.int .i64 b]] w fun r w'=>r=.returned (.tuple #[.float .f64 0,.int .i64 61])∧Below w.heap.size w w':=by
 have hb0:=qsd (bel_alloc w (Obj.cells #[.int .i64 a,.int .i64 b] 29));go_enter Tryz.func53,Tryz.ntmps53
 go_wp2_with fail
 refine (HH.out _ hb0.out).mono ?_;rintro r w1 ⟨rfl,hb1⟩;have B1:=qsd (hb0.out.trans (hb1.mono hb0.out.size));clear hb1 HH;go_wp2;refine bodyPost_ret (v:=.tuple #[.float .f64 0,.int .i64 61]) (by simp [results,Tryz.results53,go_sem]) rfl ?_
 exact ⟨rfl,B1.out⟩
theorem Round10 (g:Nat) (V:Int) (s:Sp) (mode a b:Int) (w:World) (hA:Acc7 w g V s) (hs:s.ok) (hT:Tab w) (hm0:0≤mode) (hm1:mode≤4) (hab:may a b=true) :
 Calls Tryz.prog 53 #[.pointer (some ⟨g,0,none⟩),.int .i64 mode,.agg #[.int .i64 a,.int .i64 b]] w fun r w'=>r=.returned (.tuple #[.float .f64 (rd10 V s mode a b).1,.int .i64 (rd10 V s mode a b).2])∧Below w.heap.size w w':=by
 unfold rd10
 by_cases h1:0<s.n∧a=2
 · rw [if_pos h1]
   exact round10_nan g mode a b w (hid fun u hb=>ahead10_nan g V s mode a b u (hA.bel hb) hs hm0 hm1 hab h1)
 · rw [if_neg h1]
   by_cases h2:0<s.u+s.d∧b=2
   · rw [if_pos h2]
     exact round10_inf g mode a b w (hid fun u hb=>ahead10_inf g V s mode a b u (hA.bel hb) hs hm0 hm1 hab h1 h2)
   · rw [if_neg h2]
     exact round10_ok g V s mode a b w hA hs hT hm0 hm1 hab h1 h2
theorem Exact10_any (xs:List Nat) (a:Option Addr) (n c:Nat) (mode pa pb:Int) (w:World) (hn:n=xs.length) (hF:Fs w.heap.size w a xs) (hW:W64 xs) (hT:Tab w) (hm0:0≤mode) (hm1:mode≤4) (hab:may pa pb=true) (hl:n≤65536) :
 Calls Tryz.prog 18 #[.slice a n c,.int .i64 mode,.agg #[.int .i64 pa,.int .i64 pb]] w fun r w'=>r=.returned (.tuple #[.float .f64 (rd10 (vS xs) (sS xs) mode pa pb).1,.int .i64 (rd10 (vS xs) (sS xs) mode pa pb).2])∧Below w.heap.size w w' :=
 exact_core xs a n c mode pa pb _ _ w hn hF hW hT hm0 hm1 hab hl (hid fun g u hA hs hT=>Round10 g (vS xs) (sS xs) mode pa pb u hA hs hT hm0 hm1 hab)
end
section
open Go.RowKit
theorem pow_lt_iff {n a b:Nat}(hn:0<n):a^n<b^n↔a<b:=Nat.pow_lt_pow_iff_left (by omega)
theorem pow_inj_iff {n a b:Nat}(hn:0<n):a^n=b^n↔a=b:=by
 constructor
 · intro h
   rcases Nat.lt_trichotomy a b with k|k|k
   · have:=(pow_lt_iff hn).2 k;omega
   · exact k
   · have:=(pow_lt_iff hn).2 k;omega
 · intro h;rw [h]
structure Grid (v:Nat→Nat) (top:Nat):Prop where
 one:1<top
 zero:v 0=0
 mono:∀ {k l},k<l→v k<v l
 step:∀ k,k<top→∃ c j,v k=c*2^j∧v (k+1)=(c+1)*2^j∧c<9007199254740992∧j≤2045
structure LiesG (v:Nat→Nat) (top n:Nat) (K:Nat) (t:Bool) (m:Int) (V S:Nat):Prop where
 fin:K<top
 pos:0<S
 one:t=true→V=v K^n*S
 low:t=false→v K^n*S<V
 mids:t=false→V<v (K+1)^n*S→(m=-1∧2^n*V<(v K+v (K+1))^n*S∨m=0∧2^n*V=(v K+v (K+1))^n*S∨m=1∧(v K+v (K+1))^n*S<2^n*V)
 high:t=false→V<v (K+1)^n*S∨(K+1=top∧m=1)
def Alike (n P Q V S:Nat):Prop:=∀ c j,c≤18014398509481984→j≤2046→((c*2^j)*Q<2*P↔(c*2^j)^n*S<2^n*V)∧((c*2^j)*Q=2*P↔(c*2^j)^n*S=2^n*V)
theorem two_mul_pow (n a S V:Nat):((2*a)^n*S<2^n*V↔a^n*S<V)∧((2*a)^n*S=2^n*V↔a^n*S=V):=by
 have h:(2*a)^n*S=2^n*(a^n*S):=by rw [Nat.mul_pow,Nat.mul_assoc]
 have hp:0<2^n:=Nat.two_pow_pos n;rw [h];exact ⟨Nat.mul_lt_mul_left hp,⟨fun h=>Nat.eq_of_mul_eq_mul_left hp h,fun h=>by rw [h]⟩⟩
theorem LiesG.of_alike {v:Nat→Nat}{top n K:Nat}{t:Bool}{m:Int}{P Q V S:Nat}(G:Grid v top) (hn:0<n) (h:LiesG v top 1 K t m P Q) (hS:0<S) (hA:Alike n P Q V S):LiesG v top n K t m V S:=by
 obtain ⟨c,j,e1,e2,hc,hj⟩:=G.step K h.fin;have a1:=hA (2*c) j (by omega) (by omega)
 have a2:=hA (2*(c+1)) j (by omega) (by omega)
 have a3:=hA (2*c+1) j (by omega) (by omega)
 have g1:2*c*2^j=2*v K:=by rw [e1,Nat.mul_assoc]
 have g2:2*(c+1)*2^j=2*v (K+1):=by rw [e2,Nat.mul_assoc]
 have g3:(2*c+1)*2^j=v K+v (K+1):=by rw [e1,e2,←Nat.add_mul];congr 1;omega
 rw [g1] at a1;rw [g2] at a2;rw [g3] at a3;have b1:=two_mul_pow n (v K) S V;have b2:=two_mul_pow n (v (K+1)) S V;rw [b1.1,b1.2] at a1;rw [b2.1,b2.2] at a2;have d1:2*v K*Q=2*(v K*Q):=Nat.mul_assoc _ _ _;have d2:2*v (K+1)*Q=2*(v (K+1)*Q):=Nat.mul_assoc _ _ _;rw [d1] at a1;rw [d2] at a2;have h1:=h.one;have h2:=h.low;have h3:=h.mids;have h4:=h.high;simp only [Nat.pow_one] at h1 h2 h3 h4;generalize v K*Q=A at *;generalize v (K+1)*Q=B at *;generalize (v K+v (K+1))*Q=C at *
 have ge:∀ {x y x' y':Nat},((x<y↔x'<y')∧(x=y↔x'=y'))→(y<x↔y'<x'):=by
  intro x y x' y' ⟨p,q⟩
  constructor
  · intro hh
    rcases Nat.lt_trichotomy x' y' with k|k|k
    · have:=p.2 k;omega
    · have:=q.2 k;omega
    · exact k
  · intro hh
    rcases Nat.lt_trichotomy x y with k|k|k
    · have:=p.1 k;omega
    · have:=q.1 k;omega
    · exact k
 have a2':=ge a2;have a3':=ge a3;refine ⟨h.fin,hS,fun ht=>?_,fun ht=>?_,fun ht hlt=>?_,fun ht=>?_⟩
 · have:=h1 ht
   exact (a1.2.1 (by omega)).symm
 · exact a1.1.1 (by have:=h2 ht;omega)
 · have hb:P<B:=by have:=a2'.2 hlt;omega
   rcases h3 ht hb with ⟨q,r⟩|⟨q,r⟩|⟨q,r⟩
   · exact .inl ⟨q,a3'.1 r⟩
   · exact .inr (.inl ⟨q,(a3.2.1 r.symm).symm⟩)
   · exact .inr (.inr ⟨q,a3.1.1 r⟩)
 · rcases h4 ht with q | q
   · exact .inl (a2'.1 (by omega))
   · exact .inr q
theorem alike_span (n R p q V S d:Nat) (hn:0<n) (hS:0<S) (hR:9007199254740992≤R) (hd:d≤1)
 (h0:d=0→V*(2^q)^n=(R*2^p)^n*S) (h1:d=1→(R*2^p)^n*S<V*(2^q)^n∧V*(2^q)^n<((R+1)*2^p)^n*S) :
 Alike n ((2*R+d)*2^p) (2*2^q) V S:=by
 intro c j hc hj;have hq:0<(2^q)^n:=Nat.pow_pos (Nat.two_pow_pos q)
 -- both sides times 2^q
 have f1:(c*2^j)^n*S<2^n*V↔(c*2^(j+q))^n*S<2^n*(V*(2^q)^n):=by
  rw [←Nat.mul_lt_mul_right hq]
  have:(c*2^j)^n*S*(2^q)^n=(c*2^(j+q))^n*S:=by
   rw [Nat.mul_right_comm,←Nat.mul_pow,Nat.mul_assoc c,←Nat.pow_add]
  rw [this,Nat.mul_assoc]
 have f2:(c*2^j)^n*S=2^n*V↔(c*2^(j+q))^n*S=2^n*(V*(2^q)^n):=by
  have e:(c*2^j)^n*S*(2^q)^n=(c*2^(j+q))^n*S:=by
   rw [Nat.mul_right_comm,←Nat.mul_pow,Nat.mul_assoc c,←Nat.pow_add]
  rw [←e,←Nat.mul_assoc (2^n)];exact ⟨fun h=>by rw [h],fun h=>Nat.eq_of_mul_eq_mul_right hq h⟩
 have f3:c*2^j*(2*2^q)=2*(c*2^(j+q)):=by rw [Nat.pow_add,←Nat.mul_assoc c,Nat.mul_left_comm]
 rw [f1,f2,f3];generalize V*(2^q)^n=U at *;have g0:∀ a:Nat,(2*a)^n*S=2^n*(a^n*S):=fun a=>by rw [Nat.mul_pow,Nat.mul_assoc]
 have hp2:0<2^n:=Nat.two_pow_pos n;have hlt2:(c*2^(j+q)<(2*R+d)*2^p↔2*(c*2^(j+q))<2*((2*R+d)*2^p)):=by omega
 have heq2:(c*2^(j+q)=(2*R+d)*2^p↔2*(c*2^(j+q))=2*((2*R+d)*2^p)):=by omega
 rw [←hlt2,←heq2]
 -- powers times S
 have L:∀ a b:Nat,(a^n*S<b^n*S↔a<b):=fun a b=>by rw [Nat.mul_lt_mul_right hS,pow_lt_iff hn]
 have E:∀ a b:Nat,(a^n*S=b^n*S↔a=b):=fun a b=>⟨fun h=>(pow_inj_iff hn).1 (Nat.eq_of_mul_eq_mul_right hS h),fun h=>by rw [h]⟩
 rcases Nat.eq_zero_or_pos d with hd0|hd1
 · subst hd0
   have hU:=h0 rfl;have k1:(2*(R*2^p))^n*S=2^n*U:=by rw [g0,←hU]
   have k2:(2*R+0)*2^p=2*(R*2^p):=by rw [Nat.add_zero,Nat.mul_assoc]
   rw [k2,←k1,L,E];exact ⟨Iff.rfl,Iff.rfl⟩
 · obtain rfl:d=1:=by omega
   obtain ⟨u1,u2⟩:=h1 rfl;have k1:(2*(R*2^p))^n*S<2^n*U:=by rw [g0];exact Nat.mul_lt_mul_of_pos_left u1 hp2
   have k2:2^n*U<(2*((R+1)*2^p))^n*S:=by rw [g0];exact Nat.mul_lt_mul_of_pos_left u2 hp2
   have below:∀ x,x≤2*(R*2^p)→(x<(2*R+1)*2^p↔x^n*S<2^n*U)∧(x=(2*R+1)*2^p↔x^n*S=2^n*U):=by
    intro x hx
    have y1:x<(2*R+1)*2^p:=by
     have:=Nat.two_pow_pos p;rw [Nat.add_mul,Nat.mul_assoc,Nat.one_mul];omega
    have y2:x^n*S<2^n*U:=by
     refine Nat.lt_of_le_of_lt ?_ k1;exact Nat.mul_le_mul_right _ (Nat.pow_le_pow_left hx n)
    exact ⟨⟨fun _=>y2,fun _=>y1⟩,⟨fun h=>by omega,fun h=>by omega⟩⟩
   have above:∀ x,2*((R+1)*2^p)≤x→(x<(2*R+1)*2^p↔x^n*S<2^n*U)∧(x=(2*R+1)*2^p↔x^n*S=2^n*U):=by
    intro x hx
    have y1:(2*R+1)*2^p<x:=by
     have:=Nat.two_pow_pos p;refine Nat.lt_of_lt_of_le ?_ hx;rw [←Nat.mul_assoc];exact Nat.mul_lt_mul_of_pos_right (by omega) this
    have y2:2^n*U<x^n*S:=by
     refine Nat.lt_of_lt_of_le k2 ?_;exact Nat.mul_le_mul_right _ (Nat.pow_le_pow_left hx n)
    exact ⟨⟨fun h=>by omega,fun h=>by omega⟩,⟨fun h=>by omega,fun h=>by omega⟩⟩
   by_cases hjp:p<j+q
   · obtain ⟨i,hi⟩:∃ i,j+q=i+1+p:=⟨j+q-1-p,by omega⟩
     have e:c*2^(j+q)=2*((c*2^i)*2^p):=by
      rw [hi,Nat.pow_add,Nat.pow_succ,←Nat.mul_assoc,←Nat.mul_assoc,Nat.mul_comm (c*2^i) 2,Nat.mul_assoc 2]
     rw [e]
     rcases Nat.lt_or_ge R (c*2^i) with k|k
     · exact above _ (Nat.mul_le_mul_left _ (Nat.mul_le_mul_right _ k))
     · exact below _ (Nat.mul_le_mul_left _ (Nat.mul_le_mul_right _ k))
   · refine below _ ?_
     calc c*2^(j+q)≤18014398509481984*2^p:=Nat.mul_le_mul hc (Nat.pow_le_pow_right (by decide) (by omega))
      _≤(2*R)*2^p:=Nat.mul_le_mul_right _ (by omega)
      _=2*(R*2^p):=Nat.mul_assoc _ _ _
theorem alike_far (n P Q V S:Nat) (hn:0<n) (hP:∀ c j,c≤18014398509481984→j≤2046→c*2^j*Q<2*P) (hV:∀ c j,c≤18014398509481984→j≤2046→(c*2^j)^n*S<2^n*V):Alike n P Q V S:=by
 intro c j hc hj;have h1:=hP c j hc hj;have h2:=hV c j hc hj;exact ⟨⟨fun _=>h2,fun _=>h1⟩,⟨fun h=>by omega,fun h=>by omega⟩⟩
theorem alike_near (n P Q V S:Nat) (hn:0<n) (hP0:0<P) (hV0:0<V) (hS:0<S) (hP:2*P<Q) (hV:2^n*V<S):Alike n P Q V S:=by
 intro c j hc hj
 rcases Nat.eq_zero_or_pos (c*2^j) with h0|h0
 · rw [h0,Nat.zero_mul,Nat.zero_pow hn,Nat.zero_mul]
   have:=Nat.mul_pos (Nat.two_pow_pos n) hV0;exact ⟨⟨fun _=>this,fun _=>by omega⟩,⟨fun h=>by omega,fun h=>by omega⟩⟩
 · have h1:Q≤c*2^j*Q:=Nat.le_mul_of_pos_left _ h0
   have h2:S≤(c*2^j)^n*S:=Nat.le_mul_of_pos_left _ (Nat.pow_pos h0);exact ⟨⟨fun h=>by omega,fun h=>by omega⟩,⟨fun h=>by omega,fun h=>by omega⟩⟩
theorem scale_lt (a b i k i' k':Nat) (h:i'+k=k'+i):a*2^i<b*2^k↔a*2^i'<b*2^k':=by
 rcases Nat.le_total i i' with q|q
 · obtain ⟨d,rfl⟩:∃ d,i'=i+d:=⟨i'-i,by omega⟩
   obtain rfl:k'=k+d:=by omega
   rw [Nat.pow_add,Nat.pow_add,←Nat.mul_assoc,←Nat.mul_assoc,Nat.mul_lt_mul_right (Nat.two_pow_pos d)]
 · obtain ⟨d,rfl⟩:∃ d,i=i'+d:=⟨i-i',by omega⟩
   obtain rfl:k=k'+d:=by omega
   rw [Nat.pow_add,Nat.pow_add,←Nat.mul_assoc,←Nat.mul_assoc,Nat.mul_lt_mul_right (Nat.two_pow_pos d)]
theorem scale_eq (a b i k i' k':Nat) (h:i'+k=k'+i):a*2^i=b*2^k↔a*2^i'=b*2^k':=by
 have h1:=scale_lt a b i k i' k' h;have h2:=scale_lt b a k i k' i' (by omega)
 generalize a*2^i=A at *;generalize a*2^i'=A' at *;generalize b*2^k=B at *;generalize b*2^k'=B' at *
 constructor
 · intro e;rcases Nat.lt_trichotomy A' B' with q | q | q
   · have:=h1.2 q;omega
   · exact q
   · have:=h2.2 q;omega
 · intro e;rcases Nat.lt_trichotomy A B with q | q | q
   · have:=h1.1 q;omega
   · exact q
   · have:=h2.1 q;omega
def cutS (Y size:Nat):Nat:=bl Y+size-262144
def higS (Y size:Nat):Nat:=Y/2^cutS Y size
def byS (X Y size:Nat):Int:=(bl (higS Y size):Int)+size-bl X
def levS (X Y size:Nat):Nat:=if byS X Y size<0 then X/2^(-byS X Y size).toNat else X*2^(byS X Y size).toNat
def who0 (X Y size:Nat):Nat:=levS X Y size/higS Y size
def lefS (X Y size:Nat):Nat:=levS X Y size%higS Y size
def lowS (Y size:Nat):Nat:=Y-higS Y size*2^cutS Y size
def hasS (X Y size:Nat):Nat:=lefS X Y size*2^cutS Y size
def takS (X Y size:Nat):Nat:=who0 X Y size*lowS Y size
def whoS (X Y size:Nat):Nat:=if hasS X Y size<takS X Y size then who0 X Y size-1 else who0 X Y size
def atS (X Y size:Nat):Bool:=decide (hasS X Y size=takS X Y size)&&decide (0≤byS X Y size)
structure DivS (X Y size:Nat):Prop where
 one:atS X Y size=true→X*2^((byS X Y size).toNat+cutS Y size)=whoS X Y size*Y*2^(-byS X Y size).toNat
 low:atS X Y size=false→whoS X Y size*Y*2^(-byS X Y size).toNat<X*2^((byS X Y size).toNat+cutS Y size)
 high:atS X Y size=false→X*2^((byS X Y size).toNat+cutS Y size)<(whoS X Y size+1)*Y*2^(-byS X Y size).toNat
 least:X≠0→2^(size-1)≤whoS X Y size+1
 most:whoS X Y size<2^(size+1)
 less:hasS X Y size<takS X Y size→1≤who0 X Y size
 hig:higS Y size≠0
 low':higS Y size*2^cutS Y size≤Y
 lowlt:lowS Y size<2^cutS Y size
 w0:who0 X Y size<2^(size+1)
 blh:bl (higS Y size)=bl Y-cutS Y size
 lev:levS X Y size<2^(bl (higS Y size)+size)
 lef:lefS X Y size<higS Y size
theorem bl_unique {X k:Nat}(h1:2^k≤X) (h2:X<2^(k+1)):bl X=k+1:=by
 have h0:X≠0:=by have:=Nat.two_pow_pos k;omega
 have a:=bl_lt X;have b:=bl_ge X h0;have c:=bl_pos X h0;have d1:=(Nat.pow_lt_pow_iff_right (a:=2) (by decide)).1 (Nat.lt_of_le_of_lt h1 a)
 have d2:=(Nat.pow_lt_pow_iff_right (a:=2) (by decide)).1 (Nat.lt_of_le_of_lt b h2)
 omega
theorem divS_facts (X Y size:Nat) (hX:X=0∨X%2=1) (hY:Y≠0) (hs0:1≤size) (hs:size≤1000) (hbX:bl X≤262144) (hbY:bl Y≤262144):DivS X Y size:=by
 obtain ⟨cut,ecut⟩:∃ c,cutS Y size=c:=⟨_,rfl⟩;obtain ⟨H,eH⟩:∃ c,higS Y size=c:=⟨_,rfl⟩;have eH':Y/2^cut=H:=by rw [←eH,←ecut];rfl
 have hD:0<2^cut:=Nat.two_pow_pos cut;have hYlt:=bl_lt Y;have hYge:=bl_ge Y hY;have hYpos:=bl_pos Y hY;have hcut:cut<bl Y∧(0<cut→cut=bl Y+size-262144):=by unfold cutS at ecut;omega
 have hH1:2^(bl Y-1-cut)≤H:=by
  rw [←eH',Nat.le_div_iff_mul_le hD,←Nat.pow_add,show bl Y-1-cut+cut=bl Y-1 by omega];exact hYge
 have hH2:H<2^(bl Y-1-cut+1):=by
  rw [←eH',Nat.div_lt_iff_lt_mul hD,←Nat.pow_add,show bl Y-1-cut+1+cut=bl Y by omega];exact hYlt
 have hblH:bl H=bl Y-cut:=by rw [bl_unique hH1 hH2];omega
 have hH0:0<H:=Nat.lt_of_lt_of_le (Nat.two_pow_pos _) hH1;have hHD:H*2^cut≤Y:=by rw [←eH'];exact Nat.div_mul_le_self _ _
 have hYdm:H*2^cut+Y%2^cut=Y:=by rw [←eH',Nat.mul_comm];exact Nat.div_add_mod Y _
 have hYm:=Nat.mod_lt Y hD;obtain ⟨Lo,eLo⟩:∃ c,lowS Y size=c:=⟨_,rfl⟩;have eLo':Y-H*2^cut=Lo:=by rw [←eLo];unfold lowS;rw [eH,ecut]
 have hLo:Lo<2^cut:=by omega
 have hYs:Y=H*2^cut+Lo:=by omega
 obtain ⟨b,eb⟩:∃ b,byS X Y size=b:=⟨_,rfl⟩;have eb':(bl H:Int)+size-bl X=b:=by rw [←eb];unfold byS;rw [eH]
 obtain ⟨lev,elev⟩:∃ c,levS X Y size=c:=⟨_,rfl⟩;have elev':(if b<0 then X/2^(-b).toNat else X*2^b.toNat)=lev:=by rw [←elev];unfold levS;rw [eb]
 obtain ⟨W0,eW0⟩:∃ c,who0 X Y size=c:=⟨_,rfl⟩;have eW0':lev/H=W0:=by rw [←eW0];unfold who0;rw [elev,eH]
 obtain ⟨Lf,eLf⟩:∃ c,lefS X Y size=c:=⟨_,rfl⟩;have eLf':lev%H=Lf:=by rw [←eLf];unfold lefS;rw [elev,eH]
 have hdm:H*W0+Lf=lev:=by rw [←eW0',←eLf'];exact Nat.div_add_mod lev H
 have hLf:Lf<H:=by rw [←eLf'];exact Nat.mod_lt _ hH0
 have eHas:hasS X Y size=Lf*2^cut:=by unfold hasS;rw [eLf,ecut]
 have eTak:takS X Y size=W0*Lo:=by unfold takS;rw [eW0,eLo]
 have hXlt:=bl_lt X
 have hlevlt:lev<2^(bl H+size):=by
  rw [←elev']
  split
  · rename_i hb
    rw [Nat.div_lt_iff_lt_mul (Nat.two_pow_pos _),←Nat.pow_add,show bl H+size+(-b).toNat=bl X by omega];exact hXlt
  · rename_i hb
    refine Nat.lt_of_lt_of_le (Nat.mul_lt_mul_of_pos_right hXlt (Nat.two_pow_pos _)) ?_;rw [←Nat.pow_add];exact Nat.pow_le_pow_right (by decide) (by omega)
 have hW0lt:W0<2^(size+1):=by
  rw [←eW0',Nat.div_lt_iff_lt_mul hH0];refine Nat.lt_of_lt_of_le hlevlt ?_;have:2^(size+1)*2^(bl Y-1-cut)≤2^(size+1)*H:=Nat.mul_le_mul_left _ hH1;rw [←Nat.pow_add,show size+1+(bl Y-1-cut)=bl H+size by omega] at this
  exact this
 have hW0ge:X≠0→2^(size-1)≤W0:=by
  intro h0;have hXge:=bl_ge X h0;have hXp:=bl_pos X h0
  have hl:2^(bl H+size-1)≤lev:=by
   rw [←elev']
   split
   · rename_i hb
     rw [Nat.le_div_iff_mul_le (Nat.two_pow_pos _),←Nat.pow_add,show bl H+size-1+(-b).toNat=bl X-1 by omega];exact hXge
   · rename_i hb
     refine Nat.le_trans ?_ (Nat.mul_le_mul_right _ hXge);rw [←Nat.pow_add];exact Nat.pow_le_pow_right (by decide) (by omega)
  rw [←eW0',Nat.le_div_iff_mul_le hH0];refine Nat.le_trans ?_ hl;have:2^(size-1)*H≤2^(size-1)*2^(bl H):=Nat.mul_le_mul_left _ (Nat.le_of_lt (bl_lt H));rw [←Nat.pow_add,show size-1+bl H=bl H+size-1 by omega] at this
  exact this
 -- whole times the low end is below Y
 have hWL:W0*Lo<Y:=by
  by_cases hc:cut=0
  · subst hc
    have:Lo=0:=by simpa using hLo
    rw [this,Nat.mul_zero];omega
  · have h1:W0*Lo<2^(size+1)*2^cut:=Nat.mul_lt_mul'' hW0lt hLo
    rw [←Nat.pow_add] at h1;refine Nat.lt_of_lt_of_le h1 (Nat.le_trans ?_ hYge);exact Nat.pow_le_pow_right (by decide) (by omega)
 -- what the level is,by whole
 have hsum:lev*2^cut+W0*Lo=W0*Y+Lf*2^cut:=by
  rw [←hdm,hYs,Nat.add_mul,Nat.mul_add,Nat.mul_comm H W0,Nat.mul_assoc];omega
 have hLfD:Lf*2^cut<Y:=Nat.lt_of_lt_of_le (Nat.mul_lt_mul_of_pos_right hLf hD) hHD
 have hless:hasS X Y size<takS X Y size→1≤W0:=by
  intro h;rw [eHas,eTak] at h
  rcases Nat.eq_zero_or_pos W0 with q|q
  · rw [q,Nat.zero_mul] at h;omega
  · exact q
 have eWho:whoS X Y size=if Lf*2^cut<W0*Lo then W0-1 else W0:=by unfold whoS;rw [eHas,eTak,eW0]
 have eAt:atS X Y size=(decide (Lf*2^cut=W0*Lo)&&decide (0≤b)):=by unfold atS;rw [eHas,eTak,eb]
 have key:(atS X Y size=true→X*2^(b.toNat+cut)=whoS X Y size*Y*2^(-b).toNat)∧(atS X Y size=false→whoS X Y size*Y*2^(-b).toNat<X*2^(b.toNat+cut)∧X*2^(b.toNat+cut)<(whoS X Y size+1)*Y*2^(-b).toNat):=by
  rw [eAt,eWho]
  by_cases hb:b<0
  · have hc0:cut=0:=by omega
    have hX0:X≠0:=by intro h;rw [h,bl_zero] at eb';omega
    have hXo:X%2=1:=by omega
    rw [if_pos hb] at elev';subst hc0;have hL0:Lo=0:=by simpa using hLo
    have hb1:b.toNat=0:=by omega
    rw [hL0,Nat.mul_zero,if_neg (by omega),hb1,Nat.add_zero,Nat.pow_zero,Nat.mul_one]
    rw [hL0,Nat.pow_zero,Nat.mul_one,Nat.mul_one,Nat.mul_zero] at hsum;rw [decide_eq_false (show ¬ 0≤b by omega),Bool.and_false]
    refine ⟨fun h=>(by cases h),fun _=>?_⟩
    obtain ⟨k,hk⟩:∃ k,(-b).toNat=k:=⟨_,rfl⟩;have hk0:0<k:=by omega
    rw [hk] at elev' ⊢;have hP:=Nat.two_pow_pos k;have hxm:2^k*lev+X%2^k=X:=by rw [←elev'];exact Nat.div_add_mod X _
    have hxl:=Nat.mod_lt X hP
    have hx0:X%2^k≠0:=by
     intro h;rw [h] at hxm;rw [show k=k-1+1 by omega,Nat.pow_succ,Nat.mul_comm _ 2,Nat.mul_assoc] at hxm
     omega
    have h1:W0*Y≤lev:=by omega
    have h2:lev+1≤(W0+1)*Y:=by
     rw [Nat.add_mul,Nat.one_mul];rw [Nat.pow_zero,Nat.mul_one] at hLfD;omega
    have h3:=Nat.mul_le_mul_right (2^k) h1;have h4:=Nat.mul_le_mul_right (2^k) h2;rw [Nat.add_mul,Nat.one_mul] at h4;rw [Nat.mul_comm] at hxm;omega
  · rw [if_neg hb] at elev'
    have hb1:(-b).toNat=0:=by omega
    rw [hb1,Nat.pow_zero,Nat.mul_one,Nat.mul_one,decide_eq_true (show 0≤b by omega),Bool.and_true]
    have e1:X*2^(b.toNat+cut)=lev*2^cut:=by rw [Nat.pow_add,←Nat.mul_assoc,elev']
    rw [e1];generalize lev*2^cut=L at *;generalize Lf*2^cut=A at *;generalize hT:W0*Lo=T at *
    by_cases hlt:A<T
    · rw [if_pos hlt]
      have hW1:1≤W0:=hless (by rw [eHas,eTak];exact hlt)
      obtain ⟨W,rfl⟩:∃ W,W0=W+1:=⟨W0-1,by omega⟩
      rw [Nat.add_sub_cancel];rw [Nat.add_mul,Nat.one_mul] at hsum ⊢;refine ⟨fun h=>?_,fun _=>by omega⟩
      have:=of_decide_eq_true h;omega
    · rw [if_neg hlt]
      rw [Nat.add_mul,Nat.one_mul];refine ⟨fun h=>?_,fun h=>?_⟩
      · have:=of_decide_eq_true h;omega
      · have:=of_decide_eq_false h;omega
 refine ⟨?_,?_,?_,?_,?_,?_,?_,?_,?_,?_,?_,?_,?_⟩
 · rw [eb,ecut];exact key.1
 · rw [eb,ecut];exact fun h=>(key.2 h).1
 · rw [eb,ecut];exact fun h=>(key.2 h).2
 · intro h
   have:=hW0ge h;rw [eWho];split <;> omega
 · rw [eWho];split <;> omega
 · rw [eW0];exact hless
 · rw [eH];omega
 · rw [eH,ecut];exact hHD
 · rw [eLo,ecut];exact hLo
 · rw [eW0];exact hW0lt
 · rw [eH,ecut];exact hblH
 · rw [elev,eH];exact hlevlt
 · rw [eLf,eH];exact hLf
theorem Alike.scale {n P Q P' Q' V S:Nat}(h:Alike n P' Q' V S) (hQ:0<Q) (hQ':0<Q') (e:P*Q'=P'*Q):Alike n P Q V S:=by
 intro c j hc hj;obtain ⟨h1,h2⟩:=h c j hc hj;rw [←h1,←h2];generalize c*2^j=g;have e1:g*Q*Q'=g*Q'*Q:=Nat.mul_right_comm _ _ _;have e2:2*P*Q'=2*P'*Q:=by rw [Nat.mul_assoc,e,Nat.mul_assoc]
 constructor
 · rw [←Nat.mul_lt_mul_right hQ',e1,e2,Nat.mul_lt_mul_right hQ]
 · constructor
   · intro k
     have:=congrArg (·*Q') k
     simp only [e1,e2] at this;exact Nat.eq_of_mul_eq_mul_right hQ this
   · intro k
     have:=congrArg (·*Q) k
     simp only [←e1,←e2] at this;exact Nat.eq_of_mul_eq_mul_right hQ' this
structure InSpan (n R d V S u:Nat) (h:Int):Prop where
 pos:0<S
 one:d=0→V*(2^(-(h+u)).toNat)^n=(R*2^(h+u).toNat)^n*S
 in':d=1→(R*2^(h+u).toNat)^n*S<V*(2^(-(h+u)).toNat)^n∧V*(2^(-(h+u)).toNat)^n<((R+1)*2^(h+u).toNat)^n*S
def clampE (h:Int):Int:=min (max (h-1) (-4096)) 4096
theorem alike_clamp (n R d V S u:Nat) (h:Int) (hn:0<n) (hR1:9007199254740992≤R) (hR2:R<2^100) (hd:d≤1) (hu0:149≤u) (hu1:u≤1074) (hI:InSpan n R d V S u h) :
 Alike n ((2*R+d)*2^(clampE h+u).toNat) (2^(-(clampE h+u)).toNat) V S:=by
 have hS:=hI.pos
 have hlo:(R*2^(h+u).toNat)^n*S≤V*(2^(-(h+u)).toNat)^n:=by
  rcases Nat.eq_zero_or_pos d with q|q
  · rw [hI.one q];exact Nat.le_refl _
  · exact Nat.le_of_lt (hI.in' (by omega)).1
 have hhi:V*(2^(-(h+u)).toNat)^n<((R+1)*2^(h+u).toNat)^n*S:=by
  rcases Nat.eq_zero_or_pos d with q|q
  · rw [hI.one q]
    exact Nat.mul_lt_mul_of_pos_right ((pow_lt_iff hn).2 (Nat.mul_lt_mul_of_pos_right (by omega) (Nat.two_pow_pos _))) hS
  · exact (hI.in' (by omega)).2
 by_cases h1:h-1 < -4096
 · have hc:clampE h=-4096:=by unfold clampE;omega
   rw [hc];have e1:((-4096:Int)+u).toNat=0:=by omega
   have e2:(h+u).toNat=0:=by omega
   rw [e1,Nat.pow_zero,Nat.mul_one];rw [e2,Nat.pow_zero,Nat.mul_one] at hlo hhi;obtain ⟨q,hq⟩:∃ q,(-(h+u)).toNat=q:=⟨_,rfl⟩;have hq1:3000≤q:=by omega
   rw [hq] at hlo hhi;obtain ⟨q',hq'⟩:∃ q',(-((-4096:Int)+u)).toNat=q':=⟨_,rfl⟩;have hq'1:3000≤q':=by omega
   rw [hq'];have hbig:∀ k,103≤k→2^103≤2^k:=fun k hk=>Nat.pow_le_pow_right (by decide) hk
   have b1:=hbig q (by omega)
   have b2:=hbig q' (by omega)
   have e103:(2:Nat)^103=8*2^100:=by decide
   have hqn:0<(2^q)^n:=Nat.pow_pos (Nat.two_pow_pos q);refine alike_near n _ _ V S hn (by omega) ?_ hS (by omega) ?_
   · rcases Nat.eq_zero_or_pos V with z | z
     · rw [z,Nat.zero_mul] at hlo
       have:=Nat.mul_pos (Nat.pow_pos (n:=n) (show 0<R by omega)) hS
       omega
     · exact z
   · have s1:2^n*V*(2^q)^n<(2*(R+1))^n*S:=by
      rw [Nat.mul_pow,Nat.mul_assoc,Nat.mul_assoc];exact Nat.mul_lt_mul_of_pos_left hhi (Nat.two_pow_pos n)
     have s2:(2*(R+1))^n*S≤(2^q)^n*S:=Nat.mul_le_mul_right _ (Nat.pow_le_pow_left (by omega) n)
     have s3:2^n*V*(2^q)^n<S*(2^q)^n:=by rw [Nat.mul_comm S];exact Nat.lt_of_lt_of_le s1 s2
     exact (Nat.mul_lt_mul_right hqn).1 s3
 · by_cases h2:4096<h-1
   · have hc:clampE h=4096:=by unfold clampE;omega
     rw [hc];have e1:(-((4096:Int)+u)).toNat=0:=by omega
     have e2:(-(h+u)).toNat=0:=by omega
     rw [e1,Nat.pow_zero];rw [e2,Nat.pow_zero,Nat.one_pow,Nat.mul_one] at hlo hhi;obtain ⟨A,hA⟩:∃ A,((4096:Int)+u).toNat=A:=⟨_,rfl⟩;obtain ⟨p,hp⟩:∃ p,(h+u).toNat=p:=⟨_,rfl⟩;rw [hA];rw [hp] at hlo hhi;have hA1:2101≤A:=by omega
     have hp1:2101≤p:=by omega
     have top:∀ c j k,c≤18014398509481984→j≤2046→2101≤k→c*2^j<2^k:=by
      intro c j k hcc hj hk;have h54:(18014398509481984:Nat)=2^54:=by decide
      calc c*2^j≤2^54*2^j:=Nat.mul_le_mul_right _ (by omega)
       _=2^(54+j):=(Nat.pow_add _ _ _).symm
       _<2^k:=Nat.pow_lt_pow_right (by decide) (by omega)
     refine alike_far n _ _ V S hn ?_ ?_
     · intro c j hcc hj
       have t:=top c j A hcc hj hA1;have:2^A≤(2*R+d)*2^A:=Nat.le_mul_of_pos_left _ (by omega)
       rw [Nat.mul_one];omega
     · intro c j hcc hj
       have t:=top c j p hcc hj hp1;have t2:2^p≤R*2^p:=Nat.le_mul_of_pos_left _ (by omega)
       have t3:(c*2^j)^n*S<(R*2^p)^n*S:=Nat.mul_lt_mul_of_pos_right ((pow_lt_iff hn).2 (by omega)) hS
       have t4:V≤2^n*V:=Nat.le_mul_of_pos_left _ (Nat.two_pow_pos n);omega
   · have hc:clampE h=h-1:=by unfold clampE;omega
     rw [hc];have sp:=alike_span n R (h+u).toNat (-(h+u)).toNat V S d hn hS hR1 hd hI.one hI.in';refine sp.scale (Nat.two_pow_pos _) (Nat.mul_pos (by decide) (Nat.two_pow_pos _)) ?_
     have e:∀ a b c k:Nat,a+1+b=c+k→(2*R+d)*2^a*(2*2^b)=(2*R+d)*2^c*2^k:=by
      intro a b c k hh;rw [Nat.mul_assoc,Nat.mul_assoc,←Nat.pow_add,←hh,Nat.pow_add,Nat.pow_succ,Nat.mul_assoc (2^a)]
     exact e _ _ _ _ (by omega)
def rV11 (X:Nat) (e f:Int) (u n:Nat):Nat:=X*2^(e-f+(n*u:Nat)).toNat
def rS11 (Y:Nat) (e f:Int) (u n:Nat):Nat:=Y*2^(-(e-f+(n*u:Nat))).toNat
theorem quo_span (X Y:Nat) (e f:Int) (u:Nat) (hY:Y≠0) (hD:DivS X Y 64) :
 InSpan 1 (whoS X Y 64) (if atS X Y 64 then 0 else 1) (rV11 X e f u 1) (rS11 Y e f u 1) u (e-f-byS X Y 64-cutS Y 64):=by
 have h1:=hD.one;have h2:=hD.low;have h3:=hD.high;generalize whoS X Y 64=W at *;generalize byS X Y 64=b at *;generalize cutS Y 64=cut at *;generalize atS X Y 64=t at *;have hY0:0<Y:=by omega
 have sides:∀ R:Nat,(R*2^(e-f-b-cut+u).toNat)^1*rS11 Y e f u 1=R*Y*2^((e-f-b-cut+u).toNat+(-(e-f+(1*u:Nat))).toNat):=by
  intro R;unfold rS11;rw [Nat.pow_one,Nat.pow_add,Nat.mul_assoc R,Nat.mul_assoc R,←Nat.mul_assoc (2^_) Y,Nat.mul_comm (2^_) Y,Nat.mul_assoc Y]
 have left:rV11 X e f u 1*(2^(-(e-f-b-cut+u)).toNat)^1=X*2^((e-f+(1*u:Nat)).toNat+(-(e-f-b-cut+u)).toNat):=by
  unfold rV11;rw [Nat.pow_one,Nat.pow_add,Nat.mul_assoc]
 refine ⟨Nat.mul_pos hY0 (Nat.two_pow_pos _),fun hd=>?_,fun hd=>?_⟩
 · have ht:t=true:=by cases t with
    | true=>rfl
    | false=>simp at hd
   rw [left,sides];exact (scale_eq X (W*Y) _ _ _ _ (by omega)).1 (h1 ht)
 · have ht:t=false:=by cases t with
    | true=>simp at hd
    | false=>rfl
   rw [left,sides,sides];exact ⟨(scale_lt (W*Y) X _ _ _ _ (by omega)).1 (h2 ht),(scale_lt X ((W+1)*Y) _ _ _ _ (by omega)).1 (h3 ht)⟩
end
section
open Go.RowKit
theorem Div_arg {w:World}{a b:Option Addr}{n c m d:Nat}{xs ys:List Nat}{V U:Nat}{z:Int}(h1:Arg w a n c xs) (h2:Arg w b m d ys) (e:divS (val xs) (val ys)=(V,U,z)) :
 Calls Tryz.prog 135 #[.slice a n c,.slice b m d] w fun r w'=>∃ v u,r=.returned (.tuple #[v,u,.int .i64 z])∧Nt w.heap.size w' v V∧Nt w.heap.size w' u U∧Below w.heap.size w w' :=
 (Div_any xs ys a b n c m d w.heap.size w h1.len h2.len h1.cap h2.cap (by have:=h1.big;omega) (by have:=h2.big;omega) h1.wf h2.wf h1.rd h2.rd (Nat.le_refl _)).mono
  fun r w' ⟨⟨v,u,h3,h4,h5,h6⟩,hb⟩=>by rw [e] at h3 h4 h5;exact ⟨v,u,h3,h4,h5,hb⟩
end
section
open Go.RowKit
theorem Len_arg {w:World}{a:Option Addr}{n c:Nat}{xs:List Nat}{k:Nat}(h1:Arg w a n c xs) (e:bl (val xs)=k) :
 Calls Tryz.prog 73 #[.slice a n c] w fun r w'=>r=.returned (.int .i64 (k:Nat))∧Below w.heap.size w w':=by
 subst e;exact (len_any xs a n c w.heap.size w h1.len h1.cap (by have:=h1.big;omega) h1.wf h1.rd).mono fun r w' ⟨h,e⟩=>⟨h,by rw [e];exact Below.refl _ _⟩
theorem shiftS_up {X V:Nat}{k:Nat}(hX:¬ LG X) (hb:X=0∨bl X+k≤262144) (e:X*2^k=V):shiftS X (k:Int)=(V,0):=by
 unfold shiftS;rw [if_neg hX]
 by_cases h0:X=0
 · rw [if_pos h0,←e,h0,Nat.zero_mul]
 · rw [if_neg h0,if_neg (by omega),if_neg (by omega)]
   simp [e]
theorem shiftS_dn {X V:Nat}{k:Nat}(hX:¬ LG X) (e:X/2^k=V):shiftS X (-(k:Int))=(V,0):=by
 unfold shiftS;rw [if_neg hX]
 by_cases h0:X=0
 · rw [if_pos h0,←e,h0,Nat.zero_div]
 · rw [if_neg h0]
   by_cases hk:k=0
   · subst hk
     rw [if_neg (by simp),if_neg (by have:=mt (LG_bl X).2 hX;omega)]
     simp at e;simp [e]
   · rw [if_pos (by omega)]
     simp [e]
theorem divS_ok {X Y:Nat}(h1:¬ LG X) (h2:¬ LG Y) (h:Y≠0) {V U:Nat}(e1:X/Y=V) (e2:X%Y=U):divS X Y=(V,U,0):=by
 unfold divS;rw [if_neg (by simp [h1,h2]),if_neg h,e1,e2]
theorem cmpLow_any {w:World}{a b q h:Option Addr}{ca cb cq ch:Nat}(W0 Lf Y H cut Bk Lo Tk' Hs:Nat) (z:Int) (AW:Arg w a (ws W0).length ca (ws W0)) (AL:Arg w b (ws Lf).length cb (ws Lf)) (AY:Arg w q (ws Y).length cq (ws Y)) (AH:Arg w h (ws H).length ch (ws H))
 (hc:cut≤4611686018427387904) (e1:shiftS H (cut:Int)=(Bk,0)) (e2:subS Y Bk=(Lo,0)) (e3:mulS W0 Lo=(Tk',0)) (e4:shiftS Lf (cut:Int)=(Hs,0)) (e5:cmpI Hs Tk'=z)
 (l1:(ws Bk).length≤8192) (l2:(ws Lo).length≤8192) (l3:(ws Tk').length≤8192) (l4:(ws Hs).length≤8192) :
 Calls Tryz.prog 136 #[.slice a (ws W0).length ca,.slice b (ws Lf).length cb,.slice q (ws Y).length cq,.slice h (ws H).length ch,.int .i64 (cut:Nat)] w fun r w'=>r=.returned (.int .i64 z)∧Below w.heap.size w w':=by
 rw [←val_ws H] at e1;rw [←val_ws Y,←val_ws Bk] at e2;rw [←val_ws W0,←val_ws Lo] at e3;rw [←val_ws Lf] at e4;rw [←val_ws Hs,←val_ws Tk'] at e5;have E:=(qsd (ai e1 (ai e2 (ai e3 (ai e4 e5)))));clear e1 e2 e3 e4 e5;have hbel:=Below.refl w.heap.size w;have S0:=(qsd (ai hbel (ai AW (ai AL (ai AY AH)))));clear hbel;clear AW AL AY AH;go_enter Tryz.func136,Tryz.ntmps136;obtain ⟨bel,AW,AL,AY,AH⟩:=S0.out;have HC:=hid (Shift_arg (cut:Int) AH E.out.1 (by omega) (by omega))
 clear bel AW AL AY AH
 go_wp2_with fail
 refine HC.out.mono ?_;rintro r u1 ⟨v,rfl,hN,hb⟩;obtain ⟨a1,c1,rfl,_⟩:=hN.arg (by omega)
 clear HC;obtain ⟨bel,AW,AL,AY,AH⟩:=S0.out;have hbn:=bel.trans (hb.mono bel.size);have S1:=qsd (ai hbn (ai (AW.below hb) (ai (AL.below hb) (ai (AY.below hb) (ai (AH.below hb) (hN.mono bel.size))))));clear bel AW AL AY AH;clear hb hbn S0;clear hN;obtain ⟨bel,AW,AL,AY,AH,NB⟩:=S1.out;have HC:=hid (Sub_arg AY (NB.arg' (by omega)).2 E.out.2.1)
 clear bel AW AL AY AH NB
 go_wp2_with fail
 refine HC.out.mono ?_;rintro r u2 ⟨v,rfl,hN,hb⟩;obtain ⟨a2,c2,rfl,_⟩:=hN.arg (by omega)
 clear HC;obtain ⟨bel,AW,AL,AY,AH,NB⟩:=S1.out;have hbn:=bel.trans (hb.mono bel.size);have S2:=qsd (ai hbn (ai (AW.below hb) (ai (AL.below hb) (ai (AY.below hb) (ai (AH.below hb) (ai (NB.below hb) (hN.mono bel.size)))))));clear bel AW AL AY AH NB;clear hb hbn S1;clear hN;obtain ⟨bel,AW,AL,AY,AH,NB,NL⟩:=S2.out;have HC:=hid (Mul_arg AW (NL.arg' (by omega)).2 E.out.2.2.1)
 clear bel AW AL AY AH NB NL
 go_wp2_with fail
 refine HC.out.mono ?_;rintro r u3 ⟨v,rfl,hN,hb⟩;obtain ⟨a3,c3,rfl,_⟩:=hN.arg (by omega)
 clear HC;obtain ⟨bel,AW,AL,AY,AH,NB,NL⟩:=S2.out;have hbn:=bel.trans (hb.mono bel.size);have S3:=qsd (ai hbn (ai (AW.below hb) (ai (AL.below hb) (ai (AY.below hb) (ai (AH.below hb) (ai (NB.below hb) (ai (NL.below hb) (hN.mono bel.size))))))));clear bel AW AL AY AH NB NL;clear hb hbn S2;clear hN;obtain ⟨bel,AW,AL,AY,AH,NB,NL,NT⟩:=S3.out;have HC:=hid (Shift_arg (cut:Int) AL E.out.2.2.2.1 (by omega) (by omega))
 clear bel AW AL AY AH NB NL NT
 go_wp2_with fail
 refine HC.out.mono ?_;rintro r u4 ⟨v,rfl,hN,hb⟩;obtain ⟨a4,c4,rfl,_⟩:=hN.arg (by omega)
 clear HC;obtain ⟨bel,AW,AL,AY,AH,NB,NL,NT⟩:=S3.out;have hbn:=bel.trans (hb.mono bel.size);have S4:=qsd (ai hbn (ai (AW.below hb) (ai (AL.below hb) (ai (AY.below hb) (ai (AH.below hb) (ai (NB.below hb) (ai (NL.below hb) (ai (NT.below hb) (hN.mono bel.size)))))))));clear bel AW AL AY AH NB NL NT;clear hb hbn S3;clear hN;obtain ⟨bel,AW,AL,AY,AH,NB,NL,NT,NS⟩:=S4.out;have HC:=hid (Cmp_arg (NS.arg' (by omega)).2 (NT.arg' (by omega)).2 z E.out.2.2.2.2)
 clear bel AW AL AY AH NB NL NT NS
 go_wp2_with fail
 refine HC.out.mono ?_;rintro r u5 ⟨rfl,hb⟩;clear HC;obtain ⟨bel,AW,AL,AY,AH,NB,NL,NT,NS⟩:=S4.out;have hbn:=bel.trans (hb.mono bel.size);have S5:=qsd (ai hbn (ai (AW.below hb) (ai (AL.below hb) (ai (AY.below hb) (ai (AH.below hb) (ai (NB.below hb) (ai (NL.below hb) (ai (NT.below hb) (NS.below hb)))))))));clear bel AW AL AY AH NB NL NT NS;clear hb hbn S4;have hbW:=hid S5.out.1;clear S5 E;go_wp2;go_ret;exact ⟨rfl,hbW.out⟩
end
section
open Go.RowKit
def Tk (w:World) (g T:Nat) (x y z:Value):Prop:=w.heap[g]?=some (.cells #[x,y,z] T (0,0))
theorem Tk.lt {w:World}{g T:Nat}{x y z:Value}(h:Tk w g T x y z):g<w.heap.size:=(Array.getElem?_eq_some_iff.1 h).1
theorem Tk.below {w w':World}{g T:Nat}{x y z:Value}(h:Tk w g T x y z) (hb:Below w.heap.size w w'):Tk w' g T x y z:=by
 unfold Tk;rw [hb.block g h.lt];exact h
theorem Tk.alloc {w:World}{g T:Nat}{x y z:Value}(h:Tk w g T x y z) (o:Obj):Tk (w.alloc o) g T x y z:=h.below (below_alloc w o)
theorem Tk.new (w:World) (T:Nat) (x y z:Value):Tk (w.alloc (.cells #[x,y,z] T)) w.heap.size T x y z:=heap_alloc_new _ _
theorem Tk.facts {w:World}{g T:Nat}{x y z:Value}(h:Tk w g T x y z) :
 w.cell? ⟨g,0,none⟩=some x∧w.cell? ⟨g,1,none⟩=some y∧w.cell? ⟨g,2,none⟩=some z∧w.frozen? ⟨g,0,none⟩=false∧w.frozen? ⟨g,1,none⟩=false∧w.frozen? ⟨g,2,none⟩=false:=by
 unfold Tk at h;simp [World.cell?,World.frozen?,h]
theorem Tk.set {w:World}{g T:Nat}{x y z:Value}(h:Tk w g T x y z) (a b c:Value):Tk (st3 w g a b c) g T a b c:=by
 unfold Tk at h ⊢;simp [st3,World.setCell,Array.getElem?_modify,h]
def Rq (w:World) (g:Nat) (n:Bool) (v:Value) (e:Int) (m:Bool) (u:Value) (f:Int):Prop:=w.heap[g]?=some (.cells #[.bool n,v,.int .i64 e,.bool m,u,.int .i64 f] 67 (0,0))
theorem Rq.lt {w:World}{g:Nat}{n:Bool}{v:Value}{e:Int}{m:Bool}{u:Value}{f:Int}(h:Rq w g n v e m u f):g<w.heap.size:=(Array.getElem?_eq_some_iff.1 h).1
theorem Rq.below {w w':World}{g:Nat}{n:Bool}{v:Value}{e:Int}{m:Bool}{u:Value}{f:Int}(h:Rq w g n v e m u f) (hb:Below w.heap.size w w'):Rq w' g n v e m u f:=by
 unfold Rq;rw [hb.block g h.lt];exact h
theorem Rq.alloc {w:World}{g:Nat}{n:Bool}{v:Value}{e:Int}{m:Bool}{u:Value}{f:Int}(h:Rq w g n v e m u f) (o:Obj):Rq (w.alloc o) g n v e m u f:=h.below (below_alloc w o)
theorem Rq.new (w:World) (n:Bool) (v:Value) (e:Int) (m:Bool) (u:Value) (f:Int):Rq (w.alloc (.cells #[.bool n,v,.int .i64 e,.bool m,u,.int .i64 f] 67)) w.heap.size n v e m u f:=heap_alloc_new _ _
theorem Rq.facts {w:World}{g:Nat}{n:Bool}{v:Value}{e:Int}{m:Bool}{u:Value}{f:Int}(h:Rq w g n v e m u f) :
 w.cell? ⟨g,0,none⟩=some (.bool n)∧w.cell? ⟨g,1,none⟩=some v∧w.cell? ⟨g,2,none⟩=some (.int .i64 e)∧w.cell? ⟨g,3,none⟩=some (.bool m)∧w.cell? ⟨g,4,none⟩=some u∧w.cell? ⟨g,5,none⟩=some (.int .i64 f):=by
 unfold Rq at h;simp [World.cell?,h]
theorem Rq.frz {w:World}{g:Nat}{n:Bool}{v:Value}{e:Int}{m:Bool}{u:Value}{f:Int}(h:Rq w g n v e m u f) :
 w.frozen? ⟨g,0,none⟩=false∧w.frozen? ⟨g,1,none⟩=false∧w.frozen? ⟨g,2,none⟩=false∧w.frozen? ⟨g,3,none⟩=false∧w.frozen? ⟨g,4,none⟩=false∧w.frozen? ⟨g,5,none⟩=false:=by
 unfold Rq at h;simp [World.frozen?,h]
abbrev st6 (w:World) (g:Nat) (a b c d e f:Value):World:=(((((w.setCell ⟨g,0,none⟩ a).setCell ⟨g,1,none⟩ b).setCell ⟨g,2,none⟩ c).setCell ⟨g,3,none⟩ d).setCell ⟨g,4,none⟩ e).setCell ⟨g,5,none⟩ f
theorem st6_but (g:Nat) (w:World) (a b c d e f:Value):But g w (st6 w g a b c d e f):=((((((But.refl g w).set _ _).set _ _).set _ _).set _ _).set _ _).set _ _
theorem Rq.set {w:World}{g:Nat}{n:Bool}{v:Value}{e:Int}{m:Bool}{u:Value}{f:Int}(h:Rq w g n v e m u f) (n':Bool) (v':Value) (e':Int) (m':Bool) (u':Value) (f':Int) :
 Rq (st6 w g (.bool n') v' (.int .i64 e') (.bool m') u' (.int .i64 f')) g n' v' e' m' u' f':=by
 unfold Rq at h ⊢;simp [st6,World.setCell,Array.getElem?_modify,h]
theorem Nt.off {lo:Nat}{w w':World}{v:Value}{X g:Nat}(h:Nt lo w v X) (hb:But g w w') (hg:v.ownBlock≠Option.some g):Nt lo w' v X:=by
 refine ⟨h.1,?_⟩
 rcases h.2 with hn|⟨g',cap,cur,rfl,hlo,hg',rest⟩
 · exact .inl hn
 · refine .inr ⟨g',cap,cur,rfl,hlo,?_,rest⟩
   rw [hb.block g' (Array.getElem?_eq_some_iff.1 hg').1 (by intro e;subst e;exact hg (by simp [Value.ownBlock]))];exact hg'
theorem Nt.notin {lo:Nat}{w:World}{v:Value}{X g T:Nat}{C:Array Value}{fz:Nat×Nat}(h:Nt lo w v X) (hT:T≠76) (hg:w.heap[g]?=Option.some (.cells C T fz)):v.ownBlock≠Option.some g:=by
 intro e
 rcases h.2 with ⟨rfl,_⟩|⟨g',cap,cur,rfl,_,h2,_⟩
 · simp [Value.ownBlock] at e
 · simp [Value.ownBlock] at e
   subst e;rw [hg] at h2;simp at h2;exact hT h2.2.1
theorem Nt.st3k {lo:Nat}{w:World}{v:Value}{X g T:Nat}{x y z:Value}(h:Nt lo w v X) (D:Tk w g T x y z) (hT:T≠76) (a b c:Value):Nt lo (st3 w g a b c) v X:=h.off (set3_but g w a b c) (h.notin hT D)
theorem Nt.st6k {lo:Nat}{w:World}{v:Value}{X g:Nat}{n:Bool}{p:Value}{e:Int}{m:Bool}{u:Value}{f:Int}(h:Nt lo w v X) (D:Rq w g n p e m u f) (a b c d q r:Value):Nt lo (st6 w g a b c d q r) v X:=h.off (st6_but g w a b c d q r) (h.notin (by decide) D)
theorem below_st3 {B g:Nat}{a w:World}(h:Below B a w) (hB:B≤w.heap.size) (hg:B≤g) (x y z:Value):Below B a (st3 w g x y z):=But.below h (set3_but g w x y z) hB hg
theorem below_st6 {B g:Nat}{a w:World}(h:Below B a w) (hB:B≤w.heap.size) (hg:B≤g) (x y z p q r:Value):Below B a (st6 w g x y z p q r):=But.below h (st6_but g w x y z p q r) hB hg
def Ap (v u:Value):Prop:=∀ g,v.ownBlock=some g→u.ownBlock≠some g
theorem Nt.blk {lo:Nat}{w:World}{v:Value}{X g:Nat}(h:Nt lo w v X) (hg:v.ownBlock=Option.some g):lo≤g∧g<w.heap.size:=by
 rcases h.2 with ⟨rfl,_⟩|⟨g',cap,cur,rfl,h1,h2,_⟩
 · simp [Value.ownBlock] at hg
 · simp [Value.ownBlock] at hg
   subst hg;exact ⟨h1,(Array.getElem?_eq_some_iff.1 h2).1⟩
theorem Nt.ap {lo:Nat}{w w':World}{v u:Value}{X Y:Nat}(h:Nt lo w v X) (k:Nt w.heap.size w' u Y):Ap v u:=by
 intro g hg hu;have:=(h.blk hg).2;have:=(k.blk hu).1;omega
theorem ws0:(ws 0).length=0:=by rw [ws_zero];rfl
end
end Go.Proofs.YtmkmndlpjenemaaGreatDoor
