import Derived.Test.YtnpchhjhoadehaaGreatDoorD21x
import Derived.Deep.Cut
import Derived.Deep.RegionHeld3
import Derived.Deep.RegionWith
import Derived.Deep.CutRange
import Derived.Test.YtnpchhjhoadehaaGreatDoorW26x
import Derived.BigQuiet
import Derived.Test.YtnpchhjhoadehaaGreatDoorD14x
import Derived.Test.YtnpchhjhoadehaaGreatDoorM1x
import Derived.Test.YtnpchhjhoadehaaGreatDoorD16x
import Derived.Test.YtnpchhjhoadehaaGreatDoorW3x
import Derived.Deep.MidRow
import Derived.ChangeKeysEq
import Derived.Laws.OwnMore
import Derived.Lib.SliceRun
import Derived.Deep.RegionHeld
set_option linter.unusedVariables false
set_option linter.unusedSimpArgs false
set_option maxHeartbeats 16000000
set_option maxRecDepth 20000
namespace Go.Proofs.YtnpchhjhoadehaaGreatDoor
namespace J
end J
section
open Go.RowKit J
theorem wd_word (s:Bool) (K:Nat):wd64 s K=Ieee.double.word s K:=by
 unfold wd64;have e:Ieee.double.word s K=(if s then 9223372036854775808+K else K):=rfl
 rw [e]
 cases s <;> simp;omega
theorem hInf:Ieee.double.infRung<Ieee.double.signWeight:=by rw [B.dInf,B.dSign];omega
theorem hBin:Ieee.double.binade≤Ieee.double.infRung:=by rw [B.dInf,B.dBin];omega
theorem wd_of (x:Nat) (h:x<18446744073709551616):x=wd64 (negW x) (magW x):=by
 unfold wd64 negW magW
 by_cases hx:9223372036854775808≤x
 · rw [decide_eq_true hx,if_pos rfl];omega
 · rw [decide_eq_false hx,if_neg (by simp)];omega
theorem magW_wd (s:Bool) (K:Nat) (h:K<9223372036854775808):magW (wd64 s K)=K∧negW (wd64 s K)=s∧wd64 s K<18446744073709551616:=by
 unfold magW negW wd64
 cases s <;> simp <;> omega
theorem rK_ne {K R:Nat}{t n:Bool}{m:Int}{V S:Nat}(h:Lies K t m V S) (hR:NE R V S):rK 0 n K t m=min R 9218868437227405312:=by
 have hf:=h.fin;have hS:=h.pos
 cases t with
 | true =>
   have:NE K V S:=NEf.own hS (h.one rfl);rw [hR.one this hS];unfold rK;rw [if_pos rfl,Nat.min_eq_left (by omega)]
 | false =>
   have hlow:B.val Ieee.double K*S<V:=h.low rfl;have hmids:V<B.val Ieee.double (K+1)*S→(m=-1∧2*V<B.val Ieee.double K*S+B.val Ieee.double (K+1)*S∨m=0∧2*V=B.val Ieee.double K*S+B.val Ieee.double (K+1)*S∨m=1∧B.val Ieee.double K*S+B.val Ieee.double (K+1)*S<2*V):=h.mids rfl;have hhigh:V<B.val Ieee.double (K+1)*S∨(K=9218868437227405311∧m=1):=h.high rfl;unfold rK;rw [if_neg (by simp)]
   by_cases hh:V<B.val Ieee.double (K+1)*S
   · have e:(B.val Ieee.double K+B.val Ieee.double (K+1))*S=B.val Ieee.double K*S+B.val Ieee.double (K+1)*S:=Nat.add_mul _ _ _
     have s2:B.val Ieee.double (K+1)*S<B.val Ieee.double (K+2)*S:=Nat.mul_lt_mul_of_pos_right (B.val_lt_succ Ieee.double (K+1)) hS;have eU:(B.val Ieee.double (K+1)+B.val Ieee.double (K+2))*S=B.val Ieee.double (K+1)*S+B.val Ieee.double (K+2)*S:=Nat.add_mul _ _ _
     have stay:(2*V<B.val Ieee.double K*S+B.val Ieee.double (K+1)*S∨2*V=B.val Ieee.double K*S+B.val Ieee.double (K+1)*S∧K%2=0)→NE K V S:=by
      intro hc;refine ⟨by rw [e];omega,fun h1=>by rw [e] at h1;omega,fun h0=>?_,fun h0 h1=>?_⟩
      · have:=Nat.mul_lt_mul_of_pos_right (B.val_lt Ieee.double (show K-1<K by omega)) hS
        rw [Nat.add_mul];omega
      · have:=Nat.mul_lt_mul_of_pos_right (B.val_lt Ieee.double (show K-1<K by omega)) hS
        rw [Nat.add_mul] at h1;omega
     have go:(B.val Ieee.double K*S+B.val Ieee.double (K+1)*S<2*V∨2*V=B.val Ieee.double K*S+B.val Ieee.double (K+1)*S∧K%2=1)→NE (K+1) V S:=by
      intro hc;refine ⟨by rw [eU];omega,fun h1=>by rw [eU] at h1;omega,fun h0=>?_,fun h0 h1=>?_⟩
      · rw [show K+1-1=K from rfl,e];omega
      · rw [show K+1-1=K from rfl,e] at h1;omega
     rcases hmids hh with ⟨h1,h2⟩|⟨h1,h2⟩|⟨h1,h2⟩
     · have ho:outS 0 K m n=false:=by unfold outS;subst h1;simp
       rw [ho,if_neg (by simp),hR.one (stay (.inl h2)) hS,Nat.min_eq_left (by omega)]
     · by_cases hp:K%2=1
       · have ho:outS 0 K m n=true:=by unfold outS;subst h1;simp [hp]
         rw [ho,if_pos rfl,hR.one (go (.inr ⟨h2,hp⟩)) hS,Nat.min_eq_left (by omega)]
       · have ho:outS 0 K m n=false:=by unfold outS;subst h1;simp [hp]
         rw [ho,if_neg (by simp),hR.one (stay (.inr ⟨h2,by omega⟩)) hS,Nat.min_eq_left (by omega)]
     · have ho:outS 0 K m n=true:=by unfold outS;subst h1;simp
       rw [ho,if_pos rfl,hR.one (go (.inl h2)) hS,Nat.min_eq_left (by omega)]
   · obtain ⟨h1,h2⟩:K=9218868437227405311∧m=1:=by
      rcases hhigh with q|q
      · exact absurd q hh
      · exact q
     have ho:outS 0 K m n=true:=by unfold outS;subst h2;simp
     rw [ho,if_pos rfl]
     have hRi:9218868437227405312≤R:=by
      apply Nat.le_of_not_lt;intro hlt
      have u:=hR.up;have m1:B.val Ieee.double R*S<B.val Ieee.double (R+1)*S:=Nat.mul_lt_mul_of_pos_right (B.val_lt_succ Ieee.double R) hS;have m2:B.val Ieee.double (R+1)*S≤B.val Ieee.double (K+1)*S:=Nat.mul_le_mul_right S (vmono (by omega))
      rw [Nat.add_mul] at u;omega
     rw [Nat.min_eq_right hRi];omega
theorem rW_ne {n:Bool}{X:Nat}{e:Int}(F:Frm n X e) (hX:X≠0) (Bs:Int) (hB:Bs≤-1048576) {V U S R:Nat}(h1:X*2^(e-Bs).toNat=V*S) (h2:2^(-1074-Bs).toNat=U*S) (hR:NE R V U):rW 0 n X e=min R 9218868437227405312:=by
 have ho:=frm_odd F hX;have L:=lies X e ho F.down F.up Bs (by have:=F.down;omega) (by omega)
 have hS:0<S:=by
  rcases Nat.eq_zero_or_pos S with h|h
  · rw [h,Nat.mul_zero] at h2;have:=Nat.two_pow_pos (-1074-Bs).toNat;omega
  · exact h
 unfold rW;rw [if_neg hX,rndK_eq];rw [h1,h2] at L;exact rK_ne L (hR.scale S hS)
end
section
open Go.RowKit J
theorem exU (a:Nat):∃ u:Nat,u=2^a:=⟨_,rfl⟩
def EU:Nat:=1074
def ES:Nat:=2095004
noncomputable def UU:Nat:=Classical.choose (exU EU)
noncomputable def SS:Nat:=Classical.choose (exU ES)
theorem U_eq:UU=2^EU:=Classical.choose_spec (exU EU)
theorem S_eq:SS=2^ES:=Classical.choose_spec (exU ES)
theorem U_pos:0<UU:=by rw [U_eq];exact Nat.two_pow_pos _
theorem S_pos:0<SS:=by rw [S_eq];exact Nat.two_pow_pos _
theorem EUS:EU+ES=2096078:=by unfold EU ES;rfl
theorem US (a:Nat) (h:a=2096078):2^a=UU*SS:=by
 rw [U_eq,S_eq,←Nat.pow_add,EUS,h]
theorem mkSz (n:Bool) (e:Int):mkS n 0 e=some (false,0,0):=by unfold mkS;rw [if_pos rfl]
structure Fo (o:Option (Bool×Nat×Int)) (z:Int) (L H:Int):Prop where
 ex:∃ n X e,o=some (n,X,e)∧Frm n X e∧zv (-2097152) (n,X,e)=z*(SS:Int)∧(X=0∨L≤e∧e+(bl X:Int)≤H)
theorem Fo.frm {n:Bool}{X:Nat}{e z L H:Int}(h:Fo (some (n,X,e)) z L H):Frm n X e∧zv (-2097152) (n,X,e)=z*(SS:Int)∧(X=0∨L≤e∧e+(bl X:Int)≤H):=by
 obtain ⟨n',X',e',h1,h2,h3,h4⟩:=h.ex
 cases h1
 exact ⟨h2,h3,h4⟩
theorem mkS_sz (n:Bool) (Z:Nat) (f L H:Int) (hZ:Z≠0) (h1:L≤f) (h2:f+(bl Z:Int)≤H) (hL:-1000000≤L) (hH:H≤1000000) (hd:H-L≤262144) :
 ∃ X e,mkS n Z f=some (n,X,e)∧X≠0∧L≤e∧e+(bl X:Int)≤H:=by
 obtain ⟨m,e0,e1,e2⟩:=odd_part Z hZ;unfold mkS;rw [if_neg hZ,if_neg (by omega)]
 exact ⟨_,_,rfl,by omega,by omega,by omega⟩
theorem blLe {X m:Nat}(h:X<2^m):bl X≤m:=by
 apply Nat.le_of_not_lt;intro hh
 have:=(bl_gt X m).1 hh;omega
theorem lt_bl (X:Nat):X<2^bl X:=bl_lt X
theorem addUp_sz (n:Bool) (X:Nat) (e:Int) (m:Bool) (Y:Nat) (f L H:Int) (hX:X≠0) (hY:Y≠0) (hfe:f≤e) (h1:L≤f) (h2:e+(bl X:Int)≤H) (h3:f+(bl Y:Int)≤H) (hL:-1000000≤L) (hH:H≤999999) (hd:H-L≤262143) :
 ∃ n' Z g,addUp n X e m Y f=some (n',Z,g)∧(Z=0∨L≤g∧g+(bl Z:Int)≤H+1):=by
 obtain ⟨d,hdd⟩:∃ d:Nat,(e-f).toNat=d:=⟨_,rfl⟩;have hb:X*2^d<2^(bl X+d):=by rw [Nat.pow_add];exact Nat.mul_lt_mul_of_pos_right (lt_bl X) (Nat.two_pow_pos _)
 obtain ⟨q,hq⟩:∃ q:Nat,max (bl X+d) (bl Y)=q:=⟨_,rfl⟩;have q1:X*2^d<2^q:=Nat.lt_of_lt_of_le hb (Nat.pow_le_pow_right (by decide) (by omega))
 have q2:Y<2^q:=Nat.lt_of_lt_of_le (lt_bl Y) (Nat.pow_le_pow_right (by decide) (by omega))
 have q3:2^(q+1)=2^q+2^q:=by rw [Nat.pow_succ];omega
 have hq4:f+(q:Int)≤H:=by omega
 have out:∀ (n'':Bool) (Z:Nat),Z<2^(q+1)→∃ n' Z' g,mkS n'' Z f=some (n',Z',g)∧(Z'=0∨L≤g∧g+(bl Z':Int)≤H+1):=by
  intro n'' Z hZ
  by_cases h0:Z=0
  · subst h0;rw [mkSz];exact ⟨_,_,_,rfl,.inl rfl⟩
  · have:=blLe hZ
    obtain ⟨X',e',k1,k2,k3,k4⟩:=mkS_sz n'' Z f L (H+1) h0 h1 (by omega) hL (by omega) (by omega)
    exact ⟨_,_,_,k1,.inr ⟨k3,k4⟩⟩
 unfold addUp;rw [hdd,if_neg (by omega)]
 split
 · exact out _ _ (by omega)
 · split
   · exact out _ _ (by omega)
   · exact out _ _ (by omega)
theorem addD_sz {o p:Option (Bool×Nat×Int)}{x y L H:Int}(h1:Fo o x L H) (h2:Fo p y L H) (hL:-1000000≤L) (hH:H≤999999) (hd:H-L≤262143):∃ n Z g,addD o p=some (n,Z,g)∧(Z=0∨L≤g∧g+(bl Z:Int)≤H+1):=by
 obtain ⟨n,X,e,rfl,F,_,b1⟩:=h1.ex;obtain ⟨m,Y,f,rfl,G,_,b2⟩:=h2.ex;unfold addD addF;simp only
 by_cases hX:X=0
 · rw [if_pos hX];exact ⟨_,_,_,rfl,by omega⟩
 · rw [if_neg hX]
   by_cases hY:Y=0
   · rw [if_pos hY];exact ⟨_,_,_,rfl,by omega⟩
   · rw [if_neg hY]
     by_cases hlt:e<f
     · rw [if_pos hlt];exact addUp_sz m Y f n X e L H hY hX (by omega) (by omega) (by omega) (by omega) hL hH hd
     · rw [if_neg hlt];exact addUp_sz n X e m Y f L H hX hY (by omega) (by omega) (by omega) (by omega) hL hH hd
theorem Fo.add {o p:Option (Bool×Nat×Int)}{x y L H:Int}(h1:Fo o x L H) (h2:Fo p y L H) (hL:-1000000≤L) (hH:H≤999999) (hd:H-L≤262143):Fo (addD o p) (x+y) L (H+1):=by
 obtain ⟨n,Z,g,hz,hb⟩:=addD_sz h1 h2 hL hH hd;obtain ⟨n1,X1,e1,r1,F1,v1,_⟩:=h1.ex;obtain ⟨n2,X2,e2,r2,F2,v2,_⟩:=h2.ex;have V:=Fv.add (B:=-2097152) (by omega) ⟨n1,X1,e1,r1,F1,v1⟩ ⟨n2,X2,e2,r2,F2,v2⟩ (by rw [hz];rfl)
 obtain ⟨n',Z',g',r,F,v⟩:=V.ex;rw [hz] at r
 cases r
 exact ⟨n,Z,g,hz,F,by rw [v,Int.add_mul],hb⟩
end
section
open Go.RowKit J
theorem round_fo {n:Bool}{X:Nat}{e T L H:Int}(h:Fo (some (n,X,e)) T L H) (hT:T≠0):X≠0∧n=decide (T<0)∧∀ R,NE R T.natAbs UU→rW 0 n X e=min R 9218868437227405312:=by
 obtain ⟨F,hv,_⟩:=h.frm;have hS:=S_pos;unfold zv at hv;simp only at hv
 have hX:X≠0:=by
  intro h0;rw [h0,Nat.zero_mul] at hv;have:T*(SS:Int)=0:=by rw [←hv];simp
  rcases Int.mul_eq_zero.1 this with h|h <;> omega
 obtain ⟨q,hq⟩:∃ q,X*2^(e - -2097152).toNat=q:=⟨_,rfl⟩;have hq0:0<q:=by rw [←hq];exact Nat.mul_pos (by omega) (Nat.two_pow_pos _)
 rw [hq] at hv
 have hab:q=T.natAbs*SS:=by
  have:=congrArg Int.natAbs hv;rw [Int.natAbs_mul,Int.natAbs_mul,Int.natAbs_natCast,Int.natAbs_natCast] at this;rw [←this];unfold sg1;cases n <;> simp
 refine ⟨hX,?_,fun R hR=>?_⟩
 · have hTS:T<0→T*(SS:Int)<0:=fun h=>Int.mul_neg_of_neg_of_pos h (by omega)
   have hTP:0<T→0<T*(SS:Int):=fun h=>Int.mul_pos h (by omega)
   unfold sg1 at hv
   cases n
   · simp only [Bool.false_eq_true,if_false,Int.one_mul] at hv
     rw [decide_eq_false (by intro h;have:=hTS h;omega)]
   · simp only [if_true] at hv
     rw [decide_eq_true (by apply Int.lt_of_not_ge;intro h;have:=hTP (by omega);omega)]
 · exact rW_ne F hX (-2097152) (by omega) (V:=T.natAbs) (U:=UU) (S:=SS) (by rw [hq,hab]) (US _ (by omega)) hR
theorem frmLen {n:Bool}{X:Nat}{e:Int}(F:Frm n X e):(ws X).length≤8192:=by
 have:=mkS_len n X e;rw [mkS_idem F] at this;exact this
theorem kinds (x:Nat) (hx:x<18446744073709551616):(nanW x=true∧(magW x==9218868437227405312)=false∧(magW x==0)=false∧9218868437227405312<magW x)∨(nanW x=false∧(magW x==9218868437227405312)=true∧(magW x==0)=false∧magW x=9218868437227405312)∨(nanW x=false∧(magW x==9218868437227405312)=false∧magW x<9218868437227405312):=by
 have e:nanW x=decide (9218868437227405312<magW x):=rfl
 rcases Nat.lt_trichotomy (magW x) 9218868437227405312 with h|h|h
 · refine .inr (.inr ⟨?_,?_,h⟩)
   · rw [e];simp;omega
   · simp;omega
 · refine .inr (.inl ⟨?_,?_,?_,h⟩)
   · rw [e];simp;omega
   · simp;omega
   · simp;omega
 · refine .inl ⟨?_,?_,?_,h⟩
   · rw [e];simp;omega
   · simp;omega
   · simp;omega
theorem read_nanW (x:Nat) (h:9218868437227405312<magW x):∃ s t,Ieee.double.read x=.nan s t:=⟨_,_,B.read_nan Ieee.double x (by rw [B.dInf,B.dSign];exact h) hBin⟩
theorem read_infW (x:Nat) (hx:x<18446744073709551616) (h:magW x=9218868437227405312):Ieee.double.read x=.infinity (negW x):=by
 have e:=wd_of x hx;rw [h,wd_word,←B.dInf] at e;rw [e,B.read_inf Ieee.double _ hInf hBin,←e]
theorem read_finW (x:Nat) (hx:x<18446744073709551616) (h:magW x<9218868437227405312):∃ m k,Ieee.double.read x=.number (negW x) m (Ieee.double.leastPlace+(k:Nat))∧m*2^k=vK (magW x):=by
 have e:=wd_of x hx;rw [wd_word] at e;obtain ⟨m,k,h1,h2⟩:=B.read_word Ieee.double (negW x) (magW x) (by rw [B.dInf];exact h) hInf
 rw [←e] at h1;exact ⟨m,k,h1,h2⟩
end
section
open Go.RowKit J
theorem arW_add (x y:Nat):arW .add x y=(((Ieee.double.read x).sum (Ieee.double.read y)).map Ieee.double.write).getD oddW:=rfl
theorem arW_sub (x y:Nat):arW .sub x y=(((Ieee.double.read x).sum (Ieee.double.read y).opposite).map Ieee.double.write).getD oddW:=rfl
theorem turn_wd (s:Bool) (K:Nat) (h:K<9223372036854775808):turnW (wd64 s K)=wd64 (!s) K:=by
 unfold turnW wd64
 cases s <;> simp <;> omega
theorem turn_lt (y:Nat) (hy:y<18446744073709551616):turnW y<18446744073709551616:=by unfold turnW;split <;> omega
theorem readOpp (f:Ieee.Format) (hs:f.infRung<f.signWeight) (t:Bool) (u:Nat) (hu:u<f.infRung):(f.read (f.word t u)).opposite=f.read (f.word (!t) u):=by
 have key:∀ b:Bool,(f.word b u/f.signWeight%2==1)=b∧f.word b u%f.signWeight=u:=by
  intro b;unfold Ieee.Format.word
  cases b
  · simp only [Bool.false_eq_true,if_false]
    rw [Nat.div_eq_of_lt (by omega)];exact ⟨rfl,Nat.mod_eq_of_lt (by omega)⟩
  · simp only [if_true]
    rw [Nat.add_div_left _ (by omega),Nat.div_eq_of_lt (by omega),Nat.add_mod_left];exact ⟨rfl,Nat.mod_eq_of_lt (by omega)⟩
 unfold Ieee.Format.read;simp only [(key t).1,(key t).2,(key (!t)).1,(key (!t)).2]
 by_cases h:u<f.binade
 · rw [if_pos h,if_pos h];rfl
 · rw [if_neg h,if_neg h,if_pos hu,if_pos hu];rfl
theorem sub_turn (x y:Nat) (hy:y<18446744073709551616):arW .sub x y=arW .add x (turnW y):=by
 rw [arW_sub,arW_add];have ey:=wd_of y hy;have hm:magW y<9223372036854775808:=Nat.mod_lt _ (by decide)
 have et:turnW y=wd64 (!negW y) (magW y):=by rw [←turn_wd _ _ hm,←ey]
 obtain ⟨m1,m2,m3⟩:=magW_wd (!negW y) (magW y) hm
 rcases kinds y hy with ⟨b1,b2,b3,b4⟩|⟨b1,b2,b3,b4⟩|⟨b1,b2,b4⟩
 · obtain ⟨s,t,hr⟩:=read_nanW y b4
   obtain ⟨s2,t2,hr2⟩:=read_nanW (turnW y) (by rw [et,m1];exact b4)
   rw [hr,hr2]
   cases Ieee.double.read x <;> rfl
 · have hr:=read_infW y hy b4
   have hr2:=read_infW (turnW y) (turn_lt y hy) (by rw [et,m1];exact b4)
   rw [hr,hr2,et,m2];rfl
 · have hr:=readOpp Ieee.double hInf (negW y) (magW y) (by rw [B.dInf];exact b4)
   rw [←wd_word,←ey,←wd_word,←et] at hr;rw [hr]
end
section
open Go.RowKit J
def nrm (z:Nat):Nat:=if nanW z then oddW else z
theorem nan_odd:nanW oddW=true:=by decide
theorem nrm_idem (z:Nat):nrm (nrm z)=nrm z:=by
 unfold nrm
 cases h:nanW z
 · simp [h]
 · simp [nan_odd]
theorem nrm_lt {z:Nat}(h:z<18446744073709551616):nrm z<18446744073709551616:=by
 unfold nrm
 split
 · decide
 · exact h
theorem nan_nrm (z:Nat):nanW (nrm z)=nanW z:=by
 unfold nrm
 cases h:nanW z
 · simp [h]
 · simp [nan_odd]
theorem nan_mag {x:Nat}(h:nanW x=true):9218868437227405312<magW x:=of_decide_eq_true h
theorem nan_turn (y:Nat) (hy:y<18446744073709551616):nanW (turnW y)=nanW y:=by
 unfold nanW turnW;rw [decide_eq_decide]
 split <;> omega
theorem add_nan_l {x:Nat}(y:Nat) (h:nanW x=true):arW .add x y=oddW:=by
 obtain ⟨s,t,hr⟩:=read_nanW x (nan_mag h);rw [arW_add,hr];rfl
theorem add_nan_r {x y:Nat}(hx:x<18446744073709551616) (h:nanW y=true):arW .add x y=oddW:=by
 obtain ⟨s,t,hr2⟩:=read_nanW y (nan_mag h)
 rcases kinds x hx with ⟨a1,a2,a3,a4⟩|⟨a1,a2,a3,a4⟩|⟨a1,a2,a4⟩
 · exact add_nan_l y a1
 · rw [arW_add,read_infW x hx a4,hr2];rfl
 · obtain ⟨m,k,hr,_⟩:=read_finW x hx a4
   rw [arW_add,hr,hr2];rfl
theorem sub_nan_l {x y:Nat}(hy:y<18446744073709551616) (h:nanW x=true):arW .sub x y=oddW:=by rw [sub_turn x y hy];exact add_nan_l _ h
theorem sub_nan_r {x y:Nat}(hx:x<18446744073709551616) (hy:y<18446744073709551616) (h:nanW y=true):arW .sub x y=oddW:=by
 rw [sub_turn x y hy];exact add_nan_r hx (by rw [nan_turn y hy];exact h)
theorem add_nrm {x y:Nat}(hx:x<18446744073709551616) (hy:y<18446744073709551616):arW .add (nrm x) (nrm y)=arW .add x y:=by
 cases h1:nanW x
 · have e1:nrm x=x:=by unfold nrm;rw [h1];rfl
   rw [e1]
   cases h2:nanW y
   · have e2:nrm y=y:=by unfold nrm;rw [h2];rfl
     rw [e2]
   · rw [add_nan_r hx h2,add_nan_r hx (by rw [nan_nrm];exact h2)]
 · rw [add_nan_l _ h1,add_nan_l _ (by rw [nan_nrm];exact h1)]
theorem sub_nrm {x y:Nat}(hx:x<18446744073709551616) (hy:y<18446744073709551616):arW .sub (nrm x) (nrm y)=arW .sub x y:=by
 cases h1:nanW x
 · have e1:nrm x=x:=by unfold nrm;rw [h1];rfl
   rw [e1]
   cases h2:nanW y
   · have e2:nrm y=y:=by unfold nrm;rw [h2];rfl
     rw [e2]
   · rw [sub_nan_r hx hy h2,sub_nan_r hx (nrm_lt hy) (by rw [nan_nrm];exact h2)]
 · rw [sub_nan_l hy h1,sub_nan_l (nrm_lt hy) (by rw [nan_nrm];exact h1)]
def Gives (op:BinOp) (x y z:Nat):Prop:=floatBits op .f64 x y=some z∨floatBits op .f64 x y=none∧9218868437227405312<z%9223372036854775808∧z<18446744073709551616
theorem gives_nrm {op:BinOp}{x y z:Nat}(ho:op=.add∨op=.sub∨op=.mul) (h:Gives op x y z):nrm z=arW op x y∧z<18446744073709551616:=by
 rcases h with h|⟨h,h2,h3⟩
 · have hb:=bits_fin ho h
   refine ⟨?_,hb.2⟩;unfold nrm nanW arW;rw [h,if_neg (by simp;omega)];rfl
 · refine ⟨?_,h3⟩
   unfold nrm nanW arW;rw [h,if_pos (by simpa using h2)];rfl
theorem arW_nrm {op:BinOp}(ho:op=.add∨op=.sub∨op=.mul) (x y:Nat):nrm (arW op x y)=arW op x y∧arW op x y<18446744073709551616:=by
 unfold arW
 cases h:floatBits op .f64 x y with
 | none=>exact ⟨by decide,by decide⟩
 | some z =>
   have hb:=bits_fin ho h;refine ⟨?_,hb.2⟩
   show nrm z=z
   unfold nrm nanW;rw [if_neg (by simp;omega)]
abbrev plF (x y:Nat):Nat:=arW .add x y
abbrev miF (x y:Nat):Nat:=arW .sub x y
theorem plF_lt (x y:Nat):plF x y<18446744073709551616:=(arW_nrm (.inl rfl) x y).2
theorem miF_lt (x y:Nat):miF x y<18446744073709551616:=(arW_nrm (.inr (.inl rfl)) x y).2
theorem plF_nrm (x y:Nat):nrm (plF x y)=plF x y:=(arW_nrm (.inl rfl) x y).1
theorem miF_nrm (x y:Nat):nrm (miF x y)=miF x y:=(arW_nrm (.inr (.inl rfl)) x y).1
def runF:List Nat→Nat
 | []=>0
 | x::l=>l.foldl plF (nrm x)
theorem runF_snoc (l:List Nat) (y:Nat) (h:l≠[]):runF (l++[y])=plF (runF l) y:=by
 cases l with
 | nil=>exact absurd rfl h
 | cons x l=>simp [runF,List.foldl_append]
theorem runF_take (l:List Nat) (k:Nat) (h0:0<k) (h:k<l.length):runF (l.take (k+1))=plF (runF (l.take k)) (l.getD k 0):=by
 have e:l.take (k+1)=l.take k++[l.getD k 0]:=by
  rw [List.take_succ_eq_append_getElem h,List.getD_eq_getElem?_getD,List.getElem?_eq_getElem h];rfl
 rw [e,runF_snoc];intro h2;have:=congrArg List.length h2;rw [List.length_take,List.length_nil] at this;omega
theorem runF_one (l:List Nat) (h:0<l.length):runF (l.take 1)=nrm (l.getD 0 0):=by
 cases l with
 | nil=>simp at h
 | cons x l=>simp [runF]
theorem foldl_lt (l:List Nat) (s:Nat) (hs:s<18446744073709551616∧nrm s=s):l.foldl plF s<18446744073709551616∧nrm (l.foldl plF s)=l.foldl plF s:=by
 induction l generalizing s with
 | nil=>exact hs
 | cons x l ih=>exact ih _ ⟨plF_lt _ _,plF_nrm _ _⟩
theorem runF_ok (l:List Nat) (h:∀ x ∈ l,x<18446744073709551616):runF l<18446744073709551616∧nrm (runF l)=runF l:=by
 cases l with
 | nil=>exact ⟨by decide,by decide⟩
 | cons x l=>exact foldl_lt l _ ⟨nrm_lt (h x (List.mem_cons_self ..)),nrm_idem x⟩
def nbW (s x:Nat):Bool:=!nanW s&&!nanW x&&decide (magW x≤magW s)
def neV (s x:Nat):Nat:=if nbW s x then plF (miF s (plF s x)) x else plF (miF x (plF s x)) s
def neS (q:Nat×Nat) (x:Nat):Nat×Nat:=(plF q.1 x,plF q.2 (neV q.1 x))
def neF (l:List Nat):Nat×Nat:=l.foldl neS (0,0)
theorem foldl_take {α:Type}(f:α→Nat→α) (a:α) (l:List Nat) (k:Nat) (h:k<l.length):(l.take (k+1)).foldl f a=f ((l.take k).foldl f a) (l.getD k 0):=by
 have e:l.take (k+1)=l.take k++[l.getD k 0]:=by
  rw [List.take_succ_eq_append_getElem h,List.getD_eq_getElem?_getD,List.getElem?_eq_getElem h];rfl
 rw [e,List.foldl_append];rfl
theorem nbW_nrm (s x:Nat):nbW (nrm s) (nrm x)=nbW s x:=by
 unfold nbW;rw [nan_nrm,nan_nrm]
 cases h1:nanW s <;> cases h2:nanW x <;> simp [nrm,h1,h2]
theorem neS_ok (q:Nat×Nat) (x:Nat):(neS q x).1<18446744073709551616∧(neS q x).2<18446744073709551616∧nrm (neS q x).1=(neS q x).1∧nrm (neS q x).2=(neS q x).2:=⟨plF_lt _ _,plF_lt _ _,plF_nrm _ _,plF_nrm _ _⟩
theorem fold_ok (f:Nat×Nat→Nat→Nat×Nat) (hf:∀ q x,(f q x).1<18446744073709551616∧(f q x).2<18446744073709551616∧nrm (f q x).1=(f q x).1∧nrm (f q x).2=(f q x).2) (l:List Nat):(l.foldl f (0,0)).1<18446744073709551616∧(l.foldl f (0,0)).2<18446744073709551616∧nrm (l.foldl f (0,0)).1=(l.foldl f (0,0)).1∧nrm (l.foldl f (0,0)).2=(l.foldl f (0,0)).2:=by
 have h:∀ (l:List Nat) (q:Nat×Nat),(q.1<18446744073709551616∧q.2<18446744073709551616∧nrm q.1=q.1∧nrm q.2=q.2)→((l.foldl f q).1<18446744073709551616∧(l.foldl f q).2<18446744073709551616∧nrm (l.foldl f q).1=(l.foldl f q).1∧nrm (l.foldl f q).2=(l.foldl f q).2):=by
  intro l
  induction l with
  | nil=>intro q h;exact h
  | cons x l ih=>intro q _;exact ih _ (hf q x)
 exact h l (0,0) ⟨by decide,by decide,by decide,by decide⟩
end
section
open Go.RowKit J

def Fw10 (n:Nat):Value:=.float .f64 n
theorem Tryz.und_floats:Tryz.prog.underlying 22=some (.slice 28):=by kernel_rfl
theorem Tryz.info_f64:(Tryz.prog.info? 28).map (fun i=>(i.zero,i.size,i.bytes))=some (some (.float .f64 0),1,8):=by kernel_rfl
end
section
open Go.RowKit
def Wb (w:World) (g:Nat) (L:List Nat):Prop:=w.heap[g]?=some (.cells (L.map U).toArray 62 (0,0))
theorem Wb.lt {w:World}{g:Nat}{L:List Nat}(h:Wb w g L):g<w.heap.size:=(Array.getElem?_eq_some_iff.1 h).1
theorem Wb.cell {w:World}{g:Nat}{L:List Nat}(h:Wb w g L) (i:Nat) (hi:i<L.length):w.cell? ⟨g,i,none⟩=some (.int .u32 ((L.getD i 0:Nat):Int)):=by
 unfold Wb at h;simp only [World.cell?,h];simp [U,List.getD_eq_getElem?_getD,List.getElem?_eq_getElem hi]
theorem Wb.frozen {w:World}{g:Nat}{L:List Nat}(h:Wb w g L) (i:Nat):w.frozen? ⟨g,i,none⟩=false:=by
 unfold Wb at h;simp [World.frozen?,h]
theorem Wb.set {w:World}{g:Nat}{L:List Nat}(h:Wb w g L) (i x:Nat):Wb (w.setCell ⟨g,i,none⟩ (.int .u32 (x:Int))) g (L.set i x):=by
 unfold Wb at h ⊢;simp [World.setCell,Array.getElem?_modify,h,List.map_set,U]
theorem Wb.drew {w:World}{g:Nat}{L:List Nat}(h:Wb w g L):Wb w.drew g L:=h
def PB:Nat:=pw 133
theorem PB_pos:0<PB:=pw_pos 133
attribute [irreducible] PB
theorem val_lt_PB {L:List Nat}(hl:L.length=133) (hw:Wf L):val L<PB:=by
 have:=val_lt L hw;rw [hl] at this;unfold PB;exact this
theorem val_set (L:List Nat) (i x:Nat) (h:i<L.length):val (L.set i x)+L.getD i 0*pw i=val L+x*pw i:=by
 have h1:=val_take_drop L i (Nat.le_of_lt h);have h2:=val_take_drop (L.set i x) i (by simp;omega)
 rw [val_drop_succ L i h] at h1;rw [val_drop_succ (L.set i x) i (by simp;omega),getD_set_same _ _ _ h] at h2
 have e1:(L.set i x).take i=L.take i:=by rw [List.take_set];exact List.set_eq_of_length_le (by simp;omega)
 have e2:(L.set i x).drop (i+1)=L.drop (i+1):=by rw [List.drop_set,if_pos (by omega)]
 rw [e1,e2] at h2;rw [h2,h1]
 grind
theorem add_step (M:List Nat) (i c T s d:Nat) (h:i<M.length) (e:s+d*4294967296=c+M.getD i 0) (hT:val M+c*pw i=T):val (M.set i s)+d*pw (i+1)=T:=by
 have h1:=val_set M i s h;rw [pw_succ];have e2:(s+d*4294967296)*pw i=(c+M.getD i 0)*pw i:=by rw [e]
 rw [Nat.add_mul,Nat.add_mul,Nat.mul_assoc] at e2;omega
theorem take_step (M:List Nat) (i c T R s lo hi b:Nat) (h:i<M.length) (e:s+lo=M.getD i 0+b*4294967296) (hc:c=lo+hi*4294967296) (hT:val M+T=R+c*pw i):val (M.set i s)+T=R+(hi+b)*pw (i+1):=by
 have h1:=val_set M i s h;rw [pw_succ];have e2:(s+lo)*pw i=(M.getD i 0+b*4294967296)*pw i:=by rw [e]
 have e3:c*pw i=(lo+hi*4294967296)*pw i:=by rw [hc]
 rw [Nat.add_mul,Nat.add_mul,Nat.mul_assoc] at e2;rw [Nat.add_mul,Nat.mul_assoc] at e3;rw [Nat.add_mul];omega
theorem pw_pow (i:Nat):pw i=2^(32*i):=by unfold pw;rw [Nat.pow_mul]
theorem place_split (n p:Nat):n*2^(p%32)*pw (p/32)=n*2^p:=by
 rw [pw_pow,Nat.mul_assoc,←Nat.pow_add,Nat.mod_add_div]
theorem add_end (M:List Nat) (c T:Nat) (hl:M.length=133) (hw:Wf M) (h:val M+c*pw 133=T):val M=T%PB:=by
 have:=val_lt_PB hl hw;have e:pw 133=PB:=by unfold PB;rfl
 rw [←h,e,Nat.mul_comm,Nat.add_mul_mod_self_left,Nat.mod_eq_of_lt this]
theorem take_end (M:List Nat) (c T R:Nat) (hl:M.length=133) (hw:Wf M) (h:val M+T=R+c*pw 133):(val M:Int)=((R:Int)-(T:Int))%(PB:Int):=by
 have h1:=val_lt_PB hl hw;have e:pw 133=PB:=by unfold PB;rfl
 rw [e] at h
 have h2:(R:Int)-(T:Int)=(val M:Int)+(PB:Int)*(-(c:Int)):=by
  have:((val M+T:Nat):Int)=((R+c*PB:Nat):Int):=by rw [h]
  simp only [Int.natCast_add,Int.natCast_mul] at this;rw [Int.mul_neg,Int.mul_comm];omega
 rw [h2,Int.add_mul_emod_self_left,Int.emod_eq_of_lt (by omega) (by omega)]
end
section
open Go.RowKit
theorem shl_small (n q:Nat) (hn:n<4294967296) (hq:q<32):n*2^q<9223372036854775808:=by
 have h1:2^q≤2147483648:=by
  have:=Nat.pow_le_pow_right (n:=2) (by decide) (show q≤31 by omega)
  simpa using this
 calc n*2^q≤4294967295*2147483648:=Nat.mul_le_mul (by omega) h1
  _<_:=by decide
theorem shl_wrap (n p:Nat) (hn:n<4294967296):IntKind.u64.wrap ((n:Int)*2^(p%32))=((n*2^(p%32):Nat):Int):=by
 have h1:=shl_small n (p%32) hn (Nat.mod_lt _ (by decide))
 have e:((n:Int)*2^(p%32))=((n*2^(p%32):Nat):Int):=by simp
 rw [e];exact wrap_u64n _ (by omega) (by omega)
theorem wadd_any (L:List Nat) (g n p:Nat) (w:World) (hW:Wb w g L) (hl:L.length=133) (hL:Wf L) (hn:n<4294967296) (hp:p<4256) :
 Calls Tryz.prog 84 #[.pointer (some ⟨g,0,none⟩),.int .u32 (n:Nat),.int .i64 (p:Nat)] w fun r w' =>
  r=.returned (.tuple #[])∧∃ M,Wb w' g M∧M.length=133∧Wf M∧val M=(val L+n*2^p)%PB∧But g w w':=by
 have HR:Aside (Wf L∧L.length=133):=⟨hL,hl⟩;have HO:Hid (Wb w g L):=hW;clear hL hW hl;go_enter Tryz.func84,Tryz.ntmps84;go_wp2
 go_loopg [6,7] 133 (fun k c i wr=>∃ (cv iv:Nat) (M:List Nat),133≤k+iv∧iv≤133∧c=.int .u64 (cv:Nat)∧cv<9223372036854775808∧i=.int .i64 (iv:Nat) ∧
  Hid (Wb wr g M)∧Aside (Wf M∧M.length=133∧val M+cv*pw iv=val L+n*2^p∧But g w wr))
 case atStart =>
  exact ⟨n*2^(p%32),p/32,L,by omega,by omega,by rw [shl_wrap n p hn],shl_small n _ hn (Nat.mod_lt _ (by decide)),by simp,HO,HR.out.1,HR.out.2,by rw [place_split],But.refl _ _⟩
 case round =>
  obtain ⟨cv,iv,M,hk,hi,rfl,hcv,rfl,HM,HA⟩:=hrel
  by_cases h1:iv=133
  · subst h1
    go_wp2;refine bodyPost_end (v:=.tuple #[]) (by simp [results,Tryz.results84,go_sem]) rfl ?_
    obtain ⟨hMw,hMl,hMs,hbut⟩:=HA.out;exact ⟨rfl,M,HM.out,hMl,hMw,add_end M cv _ hMl hMw hMs,hbut⟩
  by_cases h2:cv=0
  · subst h2
    have h3:(iv:Int)<133:=by omega
    go_wp2;refine bodyPost_end (v:=.tuple #[]) (by simp [results,Tryz.results84,go_sem]) rfl ?_
    obtain ⟨hMw,hMl,hMs,hbut⟩:=HA.out;exact ⟨rfl,M,HM.out,hMl,hMw,add_end M 0 _ hMl hMw (by rw [←hMs];simp),hbut⟩
  · have h3:iv<133:=by omega
    have h4:0<cv:=by omega
    obtain ⟨hMw,hMl,hMs,hbut⟩:=HA.out;have hgc:=HM.out.cell iv (by omega)
    have hgf:=HM.out.frozen iv;obtain ⟨x,hx⟩:∃ x:Nat,M.getD iv 0=x:=⟨_,rfl⟩;have hxl:x<4294967296:=hx ▸ hMw.get _;rw [hx] at hgc;have HX:Aside (M.getD iv 0=x):=hx;clear hx hMw hMl hMs hbut h1 h2;obtain ⟨k,rfl⟩:∃ k,gk=k+1:=⟨gk-1,by omega⟩
    go_wp2
    go_roundg k
    case measure=>omega
    case rel =>
     obtain ⟨hMw,hMl,hMs,hbut⟩:=HA.out;have e1:((cv:Int)+(x:Int))%4294967296=(((cv+x)%4294967296:Nat):Int):=by omega
     have e2:((cv:Int)+(x:Int))/4294967296=(((cv+x)/4294967296:Nat):Int):=by omega
     rw [e1];exact ⟨(cv+x)/4294967296,iv+1,M.set iv ((cv+x)%4294967296),by omega,by omega,by rw [e2],by omega,by simp,HM.out.set iv _,hMw.set _ _ (Nat.mod_lt _ (by decide)),by simp [hMl],add_step M iv cv _ _ _ (by omega) (by rw [HX.out];omega) hMs,hbut.set iv _⟩
theorem wtake_any (L:List Nat) (g n p:Nat) (w:World) (hW:Wb w g L) (hl:L.length=133) (hL:Wf L) (hn:n<4294967296) (hp:p<4256) :
 Calls Tryz.prog 83 #[.pointer (some ⟨g,0,none⟩),.int .u32 (n:Nat),.int .i64 (p:Nat)] w fun r w' =>
  r=.returned (.tuple #[])∧∃ M,Wb w' g M∧M.length=133∧Wf M∧(val M:Int)=((val L:Int)-((n*2^p:Nat):Int))%(PB:Int)∧But g w w':=by
 have HR:Aside (Wf L∧L.length=133):=⟨hL,hl⟩;have HO:Hid (Wb w g L):=hW;clear hL hW hl;go_enter Tryz.func83,Tryz.ntmps83;go_wp2
 go_loopg [6,7] 133 (fun k c i wr=>∃ (cv iv:Nat) (M:List Nat),133≤k+iv∧iv≤133∧c=.int .u64 (cv:Nat)∧cv<9223372036854775808∧i=.int .i64 (iv:Nat) ∧
  Hid (Wb wr g M)∧Aside (Wf M∧M.length=133∧val M+n*2^p=val L+cv*pw iv∧But g w wr))
 case atStart =>
  exact ⟨n*2^(p%32),p/32,L,by omega,by omega,by rw [shl_wrap n p hn],shl_small n _ hn (Nat.mod_lt _ (by decide)),by simp,HO,HR.out.1,HR.out.2,by rw [place_split],But.refl _ _⟩
 case round =>
  obtain ⟨cv,iv,M,hk,hi,rfl,hcv,rfl,HM,HA⟩:=hrel
  by_cases h1:iv=133
  · subst h1
    go_wp2;refine bodyPost_end (v:=.tuple #[]) (by simp [results,Tryz.results83,go_sem]) rfl ?_
    obtain ⟨hMw,hMl,hMs,hbut⟩:=HA.out;exact ⟨rfl,M,HM.out,hMl,hMw,take_end M cv _ _ hMl hMw hMs,hbut⟩
  by_cases h2:cv=0
  · subst h2
    have h3:(iv:Int)<133:=by omega
    go_wp2;refine bodyPost_end (v:=.tuple #[]) (by simp [results,Tryz.results83,go_sem]) rfl ?_
    obtain ⟨hMw,hMl,hMs,hbut⟩:=HA.out;exact ⟨rfl,M,HM.out,hMl,hMw,take_end M 0 _ _ hMl hMw (by rw [hMs];simp),hbut⟩
  · have h3:iv<133:=by omega
    have h4:0<cv:=by omega
    obtain ⟨hMw,hMl,hMs,hbut⟩:=HA.out;have hgc:=HM.out.cell iv (by omega)
    have hgf:=HM.out.frozen iv;obtain ⟨x,hx⟩:∃ x:Nat,M.getD iv 0=x:=⟨_,rfl⟩;have hxl:x<4294967296:=hx ▸ hMw.get _;rw [hx] at hgc;obtain ⟨lo,hlo⟩:∃ lo:Nat,cv%4294967296=lo:=⟨_,rfl⟩;obtain ⟨hi',hhi⟩:∃ hi':Nat,cv/4294967296=hi':=⟨_,rfl⟩;have e1:(cv:Int)%4294967296=(lo:Int):=by omega
    have e2:(cv:Int)/4294967296=(hi':Int):=by omega
    have b1:lo<4294967296:=by omega
    have b2:hi'<2147483648:=by omega
    have HX:Aside (M.getD iv 0=x∧cv=lo+hi'*4294967296):=⟨hx,by omega⟩
    clear hx hMw hMl hMs hbut h1 h2 hlo hhi;obtain ⟨k,rfl⟩:∃ k,gk=k+1:=⟨gk-1,by omega⟩
    by_cases hlt:x<lo
    · have h5:decide (x<lo)=true:=by simp [hlt]
      go_wp2
      go_region
      all_goals (
       go_wp2
       go_roundg k
       case measure=>omega
       case rel =>
        obtain ⟨hMw,hMl,hMs,hbut⟩:=HA.out;have e3:((x:Int)-(lo:Int))%4294967296=((x+4294967296-lo:Nat):Int):=by omega
        rw [e3];exact ⟨hi'+1,iv+1,M.set iv (x+4294967296-lo),by omega,by omega,by simp,by omega,by simp,(HM.out.set iv _).drew,hMw.set _ _ (by omega),by simp [hMl],take_step M iv cv _ _ _ lo hi' 1 (by omega) (by rw [HX.out.1];omega) HX.out.2 hMs,(hbut.set iv _).drew⟩)
    · have h5:decide (x<lo)=false:=by simp [hlt]
      go_wp2
      go_region
      all_goals (
       go_wp2
       go_roundg k
       case measure=>omega
       case rel =>
        obtain ⟨hMw,hMl,hMs,hbut⟩:=HA.out;have e3:((x:Int)-(lo:Int))=((x-lo:Nat):Int):=by omega
        rw [e3];exact ⟨hi',iv+1,M.set iv (x-lo),by omega,by omega,by simp,by omega,by simp,(HM.out.set iv _).drew,hMw.set _ _ (by omega),by simp [hMl],by have:=take_step M iv cv _ _ (x-lo) lo hi' 0 (by omega) (by rw [HX.out.1];omega) HX.out.2 hMs;simpa using this,(hbut.set iv _).drew⟩)
end
section
open Go.RowKit
def Bl (w:World) (g T:Nat) (C:List Value):Prop:=w.heap[g]?=some (.cells C.toArray T (0,0))
theorem Bl.lt {w:World}{g T:Nat}{C:List Value}(h:Bl w g T C):g<w.heap.size:=(Array.getElem?_eq_some_iff.1 h).1
theorem Bl.cell {w:World}{g T:Nat}{C:List Value}(h:Bl w g T C) (i:Nat) (v:Value) (hv:C[i]?=some v):w.cell? ⟨g,i,none⟩=some v:=by
 unfold Bl at h;simp [World.cell?,h,hv]
theorem Bl.frozen {w:World}{g T:Nat}{C:List Value}(h:Bl w g T C) (i:Nat):w.frozen? ⟨g,i,none⟩=false:=by
 unfold Bl at h;simp [World.frozen?,h]
theorem Bl.set {w:World}{g T:Nat}{C:List Value}(h:Bl w g T C) (i:Nat) (v:Value):Bl (w.setCell ⟨g,i,none⟩ v) g T (C.set i v):=by
 unfold Bl at h ⊢;simp [World.setCell,Array.getElem?_modify,h]
theorem Bl.drew {w:World}{g T:Nat}{C:List Value}(h:Bl w g T C):Bl w.drew g T C:=h
theorem Bl.below {w w':World}{g T B:Nat}{C:List Value}(h:Bl w g T C) (hb:Below B w w') (hg:g<B):Bl w' g T C:=by
 unfold Bl at h ⊢;rw [hb.block g hg];exact h
theorem Bl.but {w w':World}{g g' T:Nat}{C:List Value}(h:Bl w g T C) (hb:But g' w w') (hg:g≠g'):Bl w' g T C:=by
 unfold Bl at h ⊢;rw [hb.block g (Bl.lt h) hg];exact h
theorem Bl.range {w:World}{g T:Nat}{C:List Value}(h:Bl w g T C) (o:Nat) (cs:List Value) (hc:∀ j v,cs[j]?=some v→C[o+j]?=some v):w.rangeAt g o cs :=
 fun j v hv=>h.cell _ _ (hc j v hv)
theorem Bl.there {w:World}{g T:Nat}{C:List Value}(h:Bl w g T C) (o n:Nat) (hn:o+n≤C.length):w.there g o n :=
 fun j hj=>⟨by rw [h.cell (o+j) _ (List.getElem?_eq_getElem (by omega))];rfl,h.frozen _⟩
theorem Bl.setCells {g T:Nat}:∀ (vs:List Value) (o:Nat) {w:World}{C:List Value}(h:Bl w g T C) (hn:o+vs.length≤C.length),Bl (w.setCells g o vs) g T (C.take o++vs++C.drop (o+vs.length))
 | [],o,w,C,h,hn=>by simpa [World.setCells] using h
 | v::r,o,w,C,h,hn=>by
   rw [World.setCells];have:=Bl.setCells r (o+1) (h.set o v) (by simp at hn ⊢;omega)
   simp only [List.length_cons] at hn
   have e:(C.set o v).take (o+1)++r++(C.set o v).drop (o+1+r.length)=C.take o++(v::r)++C.drop (o+(v::r).length):=by
    rw [List.drop_set,if_pos (by omega),List.take_succ_eq_append_getElem (by simp;omega),List.getElem_set_self,List.take_set,List.set_eq_of_length_le (by simp;omega)]
    simp [Nat.add_assoc,Nat.add_comm 1]
   rw [e] at this;exact this
theorem Bl.setAll {g T:Nat}{w:World}{C vs:List Value}(h:Bl w g T C) (hn:vs.length=C.length):Bl (w.setCells g 0 vs) g T vs:=by
 have:=Bl.setCells vs 0 h (by omega)
 rw [hn] at this;simpa using this
theorem But.setCells {g:Nat}{a:World}:∀ (vs:List Value) (o:Nat) {w:World}(h:But g a w),But g a (w.setCells g o vs)
 | [],o,w,h=>h
 | v::r,o,w,h=>by rw [World.setCells];exact But.setCells r (o+1) (h.set o v)
theorem bel_alloc (w:World) (o:Obj):Below w.heap.size w (w.alloc o):=(Below.refl _ _).alloc (Nat.le_refl _) _
theorem Bl.alloc {w:World}{g T:Nat}{C:List Value}(h:Bl w g T C) (o:Obj):Bl (w.alloc o) g T C:=by
 unfold Bl at h ⊢;rw [(bel_alloc w o).block g (Bl.lt h)];exact h
theorem Bl.new (w:World) (T:Nat) (C:List Value):Bl (w.alloc (.cells C.toArray T)) w.heap.size T C:=by
 unfold Bl;rw [heap_alloc_new]
theorem Bl.new' (w:World) (T n:Nat) (C:List Value) (hn:n=w.heap.size):Bl (w.alloc (.cells C.toArray T)) n T C:=by
 subst hn;exact Bl.new w T C
theorem Wb.bl {w:World}{g:Nat}{L:List Nat}(h:Wb w g L):Bl w g 62 (L.map U):=h
theorem Bl.wb {w:World}{g:Nat}{L:List Nat}(h:Bl w g 62 (L.map U)):Wb w g L:=h
theorem oneCell_U (L:List Nat):((L.map U).toArray).all (·.oneCell')=true:=all_oneCell_toArray fun v hv=>by
 obtain ⟨x,_,rfl⟩:=List.mem_map.1 hv;rfl
theorem Tryz.zero_words:Tryz.zeroCells62=(List.replicate 133 (Value.int .u32 0)).toArray:=by kernel_rfl
theorem Tryz.size_words:(Tryz.prog.info? 62).map (·.size)=some 133:=by kernel_rfl
theorem Tryz.desc_words:Tryz.prog.underlying 62=some (.array 133 60):=by kernel_rfl
theorem emod_add' (x y n:Int):(x%n+y)%n=(x+y)%n:=by simp
def sgn7 (ng:Bool) (T:Nat):Int:=if ng then -(T:Int) else (T:Int)
theorem sgn_zero (ng:Bool):sgn7 ng 0=0:=by cases ng <;> simp [sgn7]
theorem sgn_add (ng:Bool) (a b:Nat):sgn7 ng (a+b)=sgn7 ng a+sgn7 ng b:=by cases ng <;> simp [sgn7];omega
theorem with_step (xs:List Nat) (k p:Nat) (hk:k<xs.length):val (xs.take (k+1))*2^p=val (xs.take k)*2^p+xs.getD k 0*2^(p+32*k):=by
 rw [val_take_succ xs k hk,Nat.add_mul,pw_pow,Nat.pow_add]
 congr 1
 rw [Nat.mul_comm (2^(32*k)),Nat.mul_assoc,Nat.mul_comm (2^(32*k))]
theorem with_any (L xs:List Nat) (ao:Option Addr) (n cap p:Nat) (kd:Int) (ng:Bool) (w:World) (hl:L.length=133) (hL:Wf L) (hA:Arg w ao n cap xs) (hp:p+32*n≤4256) :
 Calls Tryz.prog 63 #[.agg (L.map U).toArray,.agg #[.int .i64 kd,.bool ng,.slice ao n cap,.int .i64 (p:Nat)]] w fun r w' =>
  ∃ M,r=.returned (.agg (M.map U).toArray)∧M.length=133∧Wf M∧(val M:Int)=((val L:Int)+sgn7 ng (val xs*2^p))%(PB:Int)∧Below w.heap.size w w':=by
 have HR:Aside (Wf L∧L.length=133∧Arg w ao n cap xs):=⟨hL,hl,hA⟩;clear hL hl hA;go_enter Tryz.func63,Tryz.ntmps63;go_wp2;obtain ⟨w3,hw3⟩:∃ w3,w3=(((w.alloc (Obj.cells (L.map U).toArray 62)).alloc (Obj.cells #[Value.int IntKind.i64 kd,Value.bool ng,Value.slice ao n cap,Value.int IntKind.i64 (p:Nat)] 71)).alloc (Obj.cells Tryz.zeroCells62 62)):=⟨_,rfl⟩;rw [←hw3]
 have H3:Aside (Below w.heap.size w w3∧Wb w3 w.heap.size L∧Bl w3 (w.heap.size+1) 71 [Value.int IntKind.i64 kd,Value.bool ng,Value.slice ao n cap,Value.int IntKind.i64 (p:Nat)]∧Bl w3 (w.heap.size+1+1) 62 (List.replicate 133 (Value.int .u32 0))∧w3.heap.size=w.heap.size+3):=by
  subst hw3;refine ⟨?_,?_,?_,?_,by simp⟩
  · exact ((bel_alloc w _).trans ((bel_alloc _ _).mono (by simp))).trans ((bel_alloc _ _).mono (by simp;omega))
  · exact (((Bl.new w 62 (L.map U)).alloc _).alloc _).wb
  · exact (Bl.new' (w.alloc (Obj.cells (L.map U).toArray 62)) 71 _ [_,_,_,_] (by simp)).alloc _
  · rw [Tryz.zero_words];exact Bl.new' _ 62 _ _ (by simp)
 clear hw3
 go_loopg [10] n (fun gk i wr=>∃ (k:Nat) (M:List Nat),gk+k=n∧i=.int .i64 (k:Nat) ∧
  Aside (Wb wr w.heap.size M∧Wf M∧M.length=133∧(val M:Int)=((val L:Int)+sgn7 ng (val (xs.take k)*2^p))%(PB:Int)∧But w.heap.size w3 wr))
 case atStart=>exact ⟨0,L,by omega,by simp,H3.out.2.1,HR.out.1,HR.out.2.1,by simp only [List.take_zero,val,Nat.zero_mul,sgn_zero,Int.add_zero];rw [Int.emod_eq_of_lt (by omega) (by have:=val_lt_PB HR.out.2.1 HR.out.1;omega)],But.refl _ _⟩
 case round =>
  obtain ⟨k,M,hgk,rfl,HA⟩:=hrel
  by_cases hk:k<n
  · obtain ⟨hL,hl,hA⟩:=HR.out
    obtain ⟨hM,hMw,hMl,hMs,hbut⟩:=HA.out;obtain ⟨b3,_,T3,Z3,s3⟩:=H3.out;obtain ⟨b,boff,hbB,rfl,hbc⟩:=hA.rd (by intro e;subst e;have:=hA.len;simp at this;omega)
    have hbk:wr.cell? ⟨b,boff+k,none⟩=some (.int .u32 ((xs.getD k 0:Nat):Int)):=by
     have h0:=b3.block b hbB;have h1:=hbut.block b (by omega) (by omega)
     exact (World.cell?_of_block (a:=⟨b,boff+k,none⟩) (h1.trans h0)).trans (hbc k (by rw [←hA.len];omega))
    have T4:=T3.but hbut (by omega)
    have c1:=T4.cell 1 _ rfl;have c3:=T4.cell 3 _ rfl;obtain ⟨y,hy⟩:∃ y:Nat,xs.getD k 0=y:=⟨_,rfl⟩;have hyl:y<4294967296:=hy ▸ hA.wf.get _;rw [hy] at hbk;have HX:Aside (xs.getD k 0=y):=hy;have HB:Aside (∀ i,i<xs.length→w.cell? ⟨b,boff+i,none⟩=some (.int .u32 ((xs.getD i 0:Nat):Int))):=hbc;clear hy hL hl hA hM hMw hMl hMs hbut b3 T3 Z3 s3 T4 hbc
    cases ng
    · go_wp2_with fail
      rw [show (p:Int)+32*(k:Int)=((p+32*k:Nat):Int) by simp]
      obtain ⟨hM,hMw,hMl,hMs,hbut⟩:=HA.out;refine (Calls.mono (wadd_any M w.heap.size y (p+32*k) wr hM hMl hMw hyl (by omega)) ?_)
      rintro r w' ⟨rfl,M',hM',hMl',hMw',hv',hb'⟩;have HA':Aside (Wb w' w.heap.size M'∧Wf M'∧M'.length=133∧val M'=(val M+y*2^(p+32*k))%PB∧But w.heap.size wr w'):=⟨hM',hMw',hMl',hv',hb'⟩;clear hM hMw hMl hMs hbut hM' hMl' hMw' hv' hb';go_wp2
      go_roundg (gk-1)
      case measure=>omega
      case rel =>
       obtain ⟨hM',hMw',hMl',hv',hb'⟩:=HA'.out;obtain ⟨hM,hMw,hMl,hMs,hbut⟩:=HA.out;refine ⟨k+1,M',by omega,by simp,hM',hMw',hMl',?_,hbut.trans hb'⟩
       rw [with_step xs k p (by rw [←HR.out.2.2.len];exact hk),HX.out,sgn_add,←Int.add_assoc,←emod_add',←hMs,hv']
       simp [sgn7]
    · go_wp2_with fail
      rw [show (p:Int)+32*(k:Int)=((p+32*k:Nat):Int) by simp]
      obtain ⟨hM,hMw,hMl,hMs,hbut⟩:=HA.out;refine (Calls.mono (wtake_any M w.heap.size y (p+32*k) wr hM hMl hMw hyl (by omega)) ?_)
      rintro r w' ⟨rfl,M',hM',hMl',hMw',hv',hb'⟩;have HA':Aside (Wb w' w.heap.size M'∧Wf M'∧M'.length=133∧(val M':Int)=((val M:Int)-((y*2^(p+32*k):Nat):Int))%(PB:Int)∧But w.heap.size wr w'):=⟨hM',hMw',hMl',hv',hb'⟩;clear hM hMw hMl hMs hbut hM' hMl' hMw' hv' hb';go_wp2
      go_roundg (gk-1)
      case measure=>omega
      case rel =>
       obtain ⟨hM',hMw',hMl',hv',hb'⟩:=HA'.out;obtain ⟨hM,hMw,hMl,hMs,hbut⟩:=HA.out;refine ⟨k+1,M',by omega,by simp,hM',hMw',hMl',?_,hbut.trans hb'⟩
       rw [with_step xs k p (by rw [←HR.out.2.2.len];exact hk),HX.out,sgn_add,←Int.add_assoc,←emod_add',←hMs,hv']
       simp only [sgn7,if_true,Int.sub_eq_add_neg]
  · obtain rfl:k=n:=by omega
    obtain ⟨hM,hMw,hMl,hMs,hbut⟩:=HA.out;obtain ⟨b3,_,T3,Z3,s3⟩:=H3.out;have HZ:Aside (Bl wr (w.heap.size+1+1) 62 (List.replicate 133 (Value.int .u32 0))):=Z3.but hbut (by omega)
    have HB:Aside (Below w.heap.size w w3∧w3.heap.size=w.heap.size+3):=⟨b3,s3⟩;clear hM hMw hMl hMs hbut b3 T3 Z3 s3
    go_wp2_with (first
     | (with_reducible refine wpList_load_mid (P:=Tryz.prog) rfl 62 (.tmp 2) rfl w.heap.size 0 rfl (M.map U) _ (HA.out.1.bl.range 0 _ (fun j v hv=>by simpa using hv)) Tryz.desc_words rfl (by simp [Tryz.size_words,HA.out.2.2.1]) ?_)
     | (with_reducible refine wpList_store_mid (P:=Tryz.prog) rfl 62 (.tmp 4) (.tmp 32) rfl (w.heap.size+1+1) 0 (M.map U).toArray rfl rfl (HZ.out.there 0 _ (by simp [HA.out.2.2.1])) (by simp [Tryz.size_words,HA.out.2.2.1]) (oneCell_U M) ?_))
    have hZ:Bl (wr.setCells (w.heap.size+1+1) 0 (M.map U)) (w.heap.size+1+1) 62 (M.map U):=HZ.out.setAll (by simp [HA.out.2.2.1])
    refine bodyPost_ret (v:=.agg (M.map U).toArray) (results_cell_row (P:=Tryz.prog) Tryz.results63 _ _ (w.heap.size+1+1) 62 _ _ _ rfl hZ Tryz.desc_words rfl (by simp [Tryz.size_words,HA.out.2.2.1])) rfl ?_
    obtain ⟨hM,hMw,hMl,hMs,hbut⟩:=HA.out;obtain ⟨b3,s3⟩:=HB.out;refine ⟨M,rfl,hMl,hMw,?_,?_⟩
    · rw [hMs,List.take_of_length_le (by rw [←HR.out.2.2.len];exact Nat.le_refl _)]
    · exact But.below (But.below b3 hbut (by omega) (Nat.le_refl _)) (But.setCells _ _ (But.refl _ _)) (by have:=hbut.size;omega) (by omega)
end
section
open Go.RowKit
def Hd (w:World) (g:Nat) (L:List Nat):Prop:=g<w.heap.size∧∀ i,i<L.length→w.cell? ⟨g,i,none⟩=some (.int .u32 ((L.getD i 0:Nat):Int))
theorem Hd.below {w w':World}{g B:Nat}{L:List Nat}(h:Hd w g L) (hb:Below B w w') (hg:g<B) (hB:B≤w.heap.size):Hd w' g L :=
 ⟨by have:=hb.size;omega,fun i hi=>(hb.cell (p:=⟨g,i,none⟩) hg).trans (h.2 i hi)⟩
theorem Bl.hd {w:World}{g T:Nat}{L:List Nat}{C:List Value}(h:Bl w g T (L.map U++C)):Hd w g L :=
 ⟨h.lt,fun i hi=>h.cell i _ (by rw [List.getElem?_append_left (by simpa using hi)];simp [U,List.getD_eq_getElem?_getD,List.getElem?_eq_getElem hi])⟩
theorem Wb.hd {w:World}{g:Nat}{L:List Nat}(h:Wb w g L):Hd w g L:=⟨h.lt,fun i hi=>h.cell i hi⟩
end
section
open Go.RowKit
theorem Tryz.plain_u32:Tryz.prog.plainKey 60=true:=by kernel_rfl
theorem Tryz.cells_u32:Tryz.prog.cellsOf 60=1:=by kernel_rfl
theorem Tryz.under_u32:Tryz.prog.underlying 60=some (.int .u32):=by kernel_rfl
theorem Tryz.there_u32:(Tryz.prog.info? 60).isSome=true:=by kernel_rfl
theorem eq_items (L K:List Nat) (d:Nat) (w:World):∀ (is:List Nat),(∀ i ∈ is,i<L.length∧i<K.length) →
 (Op.eqItems (d+1) 60 1 (L.map U).toArray (K.map U).toArray is).run Tryz.prog w=.ok (decide (∀ i ∈ is,L.getD i 0=K.getD i 0)) w
 | [],_=>by simp [Op.eqItems]
 | i::is,h=>by
   obtain ⟨h1,h2⟩:=h i (by simp)
   have ih:=eq_items L K d w is (fun j hj=>h j (by simp [hj]))
   have p1:(part 60 (L.map U).toArray (i*1)).run Tryz.prog w=.ok (.int .u32 ((L.getD i 0:Nat):Int)) w :=
    run_part_plain _ Tryz.plain_u32 (by simp [U,List.getD_eq_getElem?_getD,List.getElem?_eq_getElem h1])
   have p2:(part 60 (K.map U).toArray (i*1)).run Tryz.prog w=.ok (.int .u32 ((K.getD i 0:Nat):Int)) w :=
    run_part_plain _ Tryz.plain_u32 (by simp [U,List.getD_eq_getElem?_getD,List.getElem?_eq_getElem h2])
   simp only [Op.eqItems,Sem.run_bind,p1,p2,Result.andThen_ok,run_equalIn_int w d 60 .u32 .u32 _ _ Tryz.under_u32]
   by_cases e:L.getD i 0=K.getD i 0
   · rw [e]
     simp only [beq_self_eq_true,Bool.not_true];rw [if_neg (by decide),ih]
     simp only [List.mem_cons,forall_eq_or_imp,e,true_and]
   · have e2:(((L.getD i 0:Nat):Int)==((K.getD i 0:Nat):Int))=false:=by simp only [beq_eq_false_iff_ne,ne_eq];omega
     rw [e2];simp only [List.mem_cons,forall_eq_or_imp,e,false_and,decide_false,Bool.not_false,if_true,Sem.run_pure]
theorem eq_words (L K:List Nat) (w:World) (hl:L.length=133) (hk:K.length=133) :
 (Op.equalIn 10000 62 (.agg (L.map U).toArray) (.agg (K.map U).toArray)).run Tryz.prog w=.ok (decide (L=K)) w:=by
 obtain ⟨i,hi⟩:=Option.isSome_iff_exists.1 Tryz.there_u32;rw [show (10000:Nat)=9999+1 by rfl,run_equalIn_array _ 9999 _ _ Tryz.desc_words hi,Tryz.cells_u32,show (9999:Nat)=9998+1 by rfl,eq_items L K 9998 w (List.range 133) (fun i hi=>by simp at hi;omega)]
 congr 1
 rw [decide_eq_decide]
 constructor
 · intro h
   apply List.ext_getElem (by omega)
   intro i h1 h2;have:=h i (by simp;omega)
   simpa [List.getD_eq_getElem?_getD,List.getElem?_eq_getElem h1,List.getElem?_eq_getElem h2] using this
 · rintro rfl i _;rfl
def lowL:List Nat:=List.replicate 132 0++[4294950912]
theorem Tryz.low_words:Tryz.zeroCells62.setIfInBounds 132 (Value.int IntKind.u32 4294950912)=(lowL.map U).toArray:=by kernel_rfl
theorem lowL_len:lowL.length=133:=by simp [lowL]
theorem Tryz.nought_words:Tryz.zeroCells62=((List.replicate 133 0).map U).toArray:=by kernel_rfl
theorem below_lo (g t:Nat) (w:World) (hc:w.cell? ⟨g,132,none⟩=some (.int .u32 (t:Nat))) (ht:t<2147483648) :
 Calls Tryz.prog 70 #[.pointer (some ⟨g,0,none⟩)] w fun r w'=>r=.returned (.bool false)∧w'=w:=by
 go_enter Tryz.func70,Tryz.ntmps70;go_wp2;refine bodyPost_ret (v:=.bool false) (by simp [results,Tryz.results70,go_sem]) rfl ⟨rfl,rfl⟩
theorem below_hi (g t:Nat) (w:World) (hc:w.cell? ⟨g,132,none⟩=some (.int .u32 (t:Nat))) (ht0:2147483648≤t) (ht:t<4294967296) :
 Calls Tryz.prog 70 #[.pointer (some ⟨g,0,none⟩)] w fun r w'=>r=.returned (.bool true)∧w'=w:=by
 have hw:wrap32 (t:Int)=(t:Int)-4294967296:=by unfold wrap32;omega
 go_enter Tryz.func70,Tryz.ntmps70;go_wp2;refine bodyPost_ret (v:=.bool true) (by simp [results,Tryz.results70,go_sem];omega) rfl ⟨rfl,rfl⟩
theorem beyond_lo (g t:Nat) (w:World) (hc:w.cell? ⟨g,132,none⟩=some (.int .u32 (t:Nat))) (ht:t<16384) :
 Calls Tryz.prog 82 #[.pointer (some ⟨g,0,none⟩)] w fun r w'=>r=.returned (.bool false)∧w'=w:=by
 have hw:((t:Int)/16384==0)=true:=by simp;omega
 go_enter Tryz.func82,Tryz.ntmps82;go_wp2;refine bodyPost_ret (v:=.bool false) (by simp [results,Tryz.results82,go_sem]) rfl ⟨rfl,rfl⟩
theorem beyond_mid (g t:Nat) (w:World) (hc:w.cell? ⟨g,132,none⟩=some (.int .u32 (t:Nat))) (ht0:16384≤t) (ht:t<4294950912) :
 Calls Tryz.prog 82 #[.pointer (some ⟨g,0,none⟩)] w fun r w'=>r=.returned (.bool true)∧w'=w:=by
 have hw0:(wrap32 (t:Int)/16384==0)=false:=by simp;unfold wrap32;omega
 have hw1:(wrap32 (t:Int)/16384==-1)=false:=by simp;unfold wrap32;omega
 go_enter Tryz.func82,Tryz.ntmps82;go_wp2;refine bodyPost_ret (v:=.bool true) (by simp [results,Tryz.results82,go_sem]) rfl ⟨rfl,rfl⟩
theorem beyond_hi (g t:Nat) (L:List Nat) (w:World) (hc:w.cell? ⟨g,132,none⟩=some (.int .u32 (t:Nat))) (hr:w.rangeAt g 0 (L.map U)) (hl:L.length=133) (ht0:4294950912≤t) (ht:t<4294967296) :
 Calls Tryz.prog 82 #[.pointer (some ⟨g,0,none⟩)] w fun r w'=>r=.returned (.bool (decide (L=lowL)))∧w'=w:=by
 have hw0:(wrap32 (t:Int)/16384==0)=false:=by simp;unfold wrap32;omega
 have hw1:(wrap32 (t:Int)/16384==-1)=true:=by simp;unfold wrap32;omega
 have HL:Aside (L.length=133∧w.rangeAt g 0 (L.map U)):=⟨hl,hr⟩;clear hl hr;go_enter Tryz.func82,Tryz.ntmps82
 go_wp2_with (first | (with_reducible refine wpList_load_mid (P:=Tryz.prog) rfl 62 (.tmp 14) rfl g 0 rfl (L.map U) _ HL.out.2 Tryz.desc_words rfl (by simp [Tryz.size_words,HL.out.1]) ?_))
 rw [Tryz.low_words,eq_words L _ w HL.out.1 lowL_len];generalize hb:decide (L=lowL)=b;generalize hK:lowL=K at hb;have HK:Aside (decide (L=lowL)=b):=by rw [hK];exact hb
 clear hb hK;simp only [Result.andThen_ok,Oper.upon];go_wp2;exact bodyPost_ret (v:=.bool b) (by simp [results,Tryz.results82,go_sem]) rfl ⟨by rw [HK.out],rfl⟩
def HB:Nat:=16384*pw 132
theorem HB_pos:0<HB:=Nat.mul_pos (by decide) (pw_pos _)
theorem PB_top:PB=4294967296*pw 132:=by unfold PB;exact pw_succ 132
attribute [irreducible] HB
theorem HB_eq:HB=16384*pw 132:=by unfold HB;rfl
theorem top_val (L:List Nat) (hl:L.length=133) (hL:Wf L):∃ r,r<pw 132∧val L=r+pw 132*L.getD 132 0:=by
 refine ⟨val (L.take 132),?_,?_⟩
 · have:=val_lt (L.take 132) (hL.take 132)
   rwa [show (L.take 132).length=132 by simp;omega] at this
 · have h:=val_take_succ L 132 (by omega)
   rwa [List.take_of_length_le (by omega)] at h
theorem val_lowL:val lowL=4294950912*pw 132:=by
 unfold lowL;rw [val_append,val_zeros,List.length_replicate,Nat.zero_add,Nat.mul_comm];rfl
theorem wf_lowL:Wf lowL:=by
 intro y hy;unfold lowL at hy
 rcases List.mem_append.1 hy with h|h
 · have:=List.eq_of_mem_replicate h;omega
 · have:=List.mem_singleton.1 h;omega
theorem val_inj {L K:List Nat}(hl:L.length=K.length) (hL:Wf L) (hK:Wf K) (h:val L=val K):L=K:=by
 induction L generalizing K with
 | nil=>cases K <;> simp_all
 | cons x xs ih =>
   cases K with
   | nil=>simp at hl
   | cons y ys =>
     simp only [val] at h;have h1:=hL.head;have h2:=hK.head;have e1:x=y:=by omega
     have e2:val xs=val ys:=by omega
     rw [e1,ih (by simpa using hl) hL.tail hK.tail e2]
def neg7 (N:Nat):Bool:=decide (PB≤2*N)
theorem below_any (g:Nat) (L:List Nat) (w:World) (hl:L.length=133) (hL:Wf L) (hH:Hd w g L) :
 Calls Tryz.prog 70 #[.pointer (some ⟨g,0,none⟩)] w fun r w'=>r=.returned (.bool (neg7 (val L)))∧w'=w:=by
 have hc:=hH.2 132 (by omega)
 obtain ⟨r,hr,hv⟩:=top_val L hl hL;have ht:=hL.get 132;generalize L.getD 132 0=t at hc hv ht;have h0:=pw_pos 132
 by_cases h:t<2147483648
 · have e:neg7 (val L)=false:=by
    unfold neg7;rw [decide_eq_false_iff_not,hv,PB_top];generalize pw 132=q at hr h0 ⊢;have:q*t≤q*2147483647:=Nat.mul_le_mul_left _ (by omega)
    omega
   rw [e];exact below_lo g t w hc h
 · have e:neg7 (val L)=true:=by
    unfold neg7;rw [decide_eq_true_iff,hv,PB_top];generalize pw 132=q at hr h0 ⊢;have:q*2147483648≤q*t:=Nat.mul_le_mul_left _ (by omega)
    omega
   rw [e];exact below_hi g t w hc (by omega) ht
def bey (N:Nat):Bool:=decide (HB≤N∧N≤PB-HB)
theorem beyond_any (g:Nat) (L:List Nat) (w:World) (hl:L.length=133) (hL:Wf L) (hH:Hd w g L) :
 Calls Tryz.prog 82 #[.pointer (some ⟨g,0,none⟩)] w fun r w'=>r=.returned (.bool (bey (val L)))∧w'=w:=by
 have hc:=hH.2 132 (by omega)
 obtain ⟨r,hr,hv⟩:=top_val L hl hL;have ht:=hL.get 132
 have hg:w.rangeAt g 0 (L.map U):=fun j v hj=>by
  have hj2:j<L.length:=by have:=(List.getElem?_eq_some_iff.1 hj).1;simpa using this
  rw [Nat.zero_add,hH.2 j hj2,←hj,List.getElem?_map,List.getElem?_eq_getElem hj2,List.getD_eq_getElem?_getD,List.getElem?_eq_getElem hj2]
  rfl
 generalize htt:L.getD 132 0=t at hc hv ht;have h0:=pw_pos 132;have eP:=PB_top;have eH:=HB_eq;have eL:=val_lowL;generalize pw 132=q at hr h0 hv eP eH eL
 by_cases h:t<16384
 · have e:bey (val L)=false:=by
    unfold bey;rw [decide_eq_false_iff_not,hv];have:q*t≤q*16383:=Nat.mul_le_mul_left _ (by omega)
    omega
   rw [e];exact beyond_lo g t w hc h
 by_cases h2:t<4294950912
 · have e:bey (val L)=true:=by
    unfold bey;rw [decide_eq_true_iff,hv];have a1:q*16384≤q*t:=Nat.mul_le_mul_left _ (by omega)
    have a2:q*t≤q*4294950911:=Nat.mul_le_mul_left _ (by omega)
    omega
   rw [e];exact beyond_mid g t w hc (by omega) h2
 · have e:bey (val L)=decide (L=lowL):=by
    unfold bey;rw [decide_eq_decide]
    constructor
    · intro hb
      have a1:q*4294950912≤q*t:=Nat.mul_le_mul_left _ (by omega)
      refine val_inj (by rw [hl,lowL_len]) hL wf_lowL ?_
      rw [eL];omega
    · rintro rfl
      rw [eL];omega
   rw [e];exact beyond_hi g t L w hc hg hl (by omega) ht
end
section
open Go.RowKit
theorem Tryz.desc_row:Tryz.prog.underlying 68=some (.slice 60):=by kernel_rfl
theorem clone_any (b n c:Nat) (L:List Nat) (w:World) (hl:L.length=n) (hn:n≤1000) (hH:Hd w b L) :
 Calls Tryz.prog 95 #[.slice (some ⟨b,0,none⟩) n c] w fun r w'=>∃ v',r=.returned v'∧w'.ownsRow w.heap.size 60 1 v' n (L.map U)∧v'≠.slice none 0 0∧Below w.heap.size w w':=by
 obtain ⟨i0,hi,hz0,hz1,hz2⟩:=info_parts Tryz.info60;have q68:∀ (w:World) (a:Option Addr) (n c n' c':Nat),(binOp .eql 68 (.slice a n c) (.slice none n' c')).run Tryz.prog w=.ok (.bool a.isNone) w:=fun w a n c n' c'=>Lib.run_eql_slice_nil w _ _ a n c n' c' Tryz.desc_row
 have A:Aside (L.length=n∧Hd w b L):=⟨hl,hH⟩;clear hl hH;go_enter Tryz.func95,Tryz.ntmps95
 go_wp2_with (at_builtin;refine wpList_append_own _ rfl _ _ 68 rfl w.heap.size 60 i0 (.int .u32 0) 1 4 Tryz.desc_row hi hz0 hz1 hz2 rfl (by decide) _ _ _ rfl (World.ownsRow_made w #[] 0 (Nat.le_refl _) (Nat.zero_le _) (by simp)) ⟨b,0,none⟩ n c (L.map U) rfl ?qc1 ?qc2 ?qc3 ?qc4 ?qc5 ?qc6 ?_)
 case qc1=>simp [A.out.1]
 case qc2 =>
  intro j u hj;have hj2:j<L.length:=by have:=(List.getElem?_eq_some_iff.1 hj).1;simpa using this
  rw [Addr.add_lit];refine Lib.cell?_alloc_some _ ?_
  rw [Nat.zero_add,A.out.2.2 j hj2,←hj,List.getElem?_map,List.getElem?_eq_getElem hj2,List.getD_eq_getElem?_getD,List.getElem?_eq_getElem hj2]
  rfl
 case qc3=>intro u hu;obtain ⟨x,_,rfl⟩:=List.mem_map.1 hu;rfl
 case qc4=>unfold maxLen;omega
 case qc5=>omega
 case qc6=>simp
 intro v' w1 hown hgrow hnil;go_wp2;go_ret;refine ⟨v',rfl,by simpa using hown,hnil,?_⟩
 exact ((Below.refl _ w).alloc (Nat.le_refl _) _).grown hgrow (by simp) (by intro k hk;simp [Value.ownBlock] at hk;omega)
theorem xor32s (a b:Nat) (ha:a<4294967296) (hb:b<4294967296):bits .xor .u32 (a:Int) (b:Int)=((a ^^^ b:Nat):Int):=by
 have hx:a ^^^ b<2^32:=Nat.xor_lt_two_pow (by omega) (by omega)
 show IntKind.u32.wrap ((BitVec.ofInt 32 (a:Int) ^^^ BitVec.ofInt 32 (b:Int)).toNat:Int)=_
 rw [BitVec.toNat_xor,ofInt32 a ha,ofInt32 b hb,wrap_u32n];omega
theorem xor_max (x:Nat) (h:x<4294967296):bits BinOp.xor IntKind.u32 IntKind.u32.max (x:Int)=((4294967295-x:Nat):Int):=by
 have e:IntKind.u32.max=((4294967295:Nat):Int):=by decide
 rw [e,xor32s _ _ (by decide) h]
 congr 1
 have h1:(BitVec.allOnes 32 ^^^ BitVec.ofNat 32 x)= ~~~ (BitVec.ofNat 32 x):=BitVec.allOnes_xor;have h2:=congrArg BitVec.toNat h1;simp only [BitVec.toNat_xor,BitVec.toNat_allOnes,BitVec.toNat_not,BitVec.toNat_ofNat] at h2;rw [Nat.mod_eq_of_lt (by omega)] at h2
 exact h2
theorem turn_step (M L:List Nat) (k c s d:Nat) (hM:M.length=133) (hL:L.length=133) (hk:k<133) (hx:L.getD k 0<4294967296) (ho:∀ j,k≤j→M.getD j 0=L.getD j 0) (e:s+d*4294967296=c+(4294967295-L.getD k 0)) (h:sg M 0 k+c*pw k+sg L 0 k=pw k) :
 sg (M.set k s) 0 (k+1)+d*pw (k+1)+sg L 0 (k+1)=pw (k+1):=by
 have h1:=sg_set_last M 0 k s (by omega)
 rw [Nat.zero_add] at h1;rw [h1,sg_succ L 0 k (by omega),Nat.zero_add,pw_succ]
 have e2:(s+d*4294967296+L.getD k 0)*pw k=(c+4294967295)*pw k:=by congr 1;omega
 simp only [Nat.add_mul,Nat.mul_assoc] at e2;rw [Nat.mul_comm (pw k) s,Nat.mul_comm (pw k) (L.getD k 0)];omega
theorem turn_any (L:List Nat) (lo g cap:Nat) (w:World) (hl:L.length=133) (hL:Wf L) (hR:w.ownsRow lo 60 1 (.slice (some ⟨g,0,none⟩) 133 cap) 133 (L.map U)) :
 Calls Tryz.prog 96 #[.slice (some ⟨g,0,none⟩) 133 cap] w fun r w' =>
  r=.returned (.tuple #[])∧∃ M,w'.ownsRow lo 60 1 (.slice (some ⟨g,0,none⟩) 133 cap) 133 (M.map U)∧M.length=133∧Wf M∧val M=(PB-val L)%PB∧But g w w':=by
 have HR:Aside (Wf L∧L.length=133∧w.ownsRow lo 60 1 (.slice (some ⟨g,0,none⟩) 133 cap) 133 (L.map U)):=⟨hL,hl,hR⟩;clear hL hl hR;go_enter Tryz.func96,Tryz.ntmps96;go_wp2
 go_loopg [2,7] 133 (fun gk c i wr=>∃ (k cv:Nat) (M:List Nat),gk+k=133∧i=.int .i64 (k:Nat)∧c=.int .u64 (cv:Nat)∧cv<2 ∧
  Hid (wr.ownsRow lo 60 1 (.slice (some ⟨g,0,none⟩) 133 cap) 133 (M.map U))∧Aside (Wf M∧M.length=133∧(∀ j,k≤j→M.getD j 0=L.getD j 0)∧sg M 0 k+cv*pw k+sg L 0 k=pw k∧But g w wr))
 case atStart=>exact ⟨0,1,L,by omega,by simp,by simp,by omega,HR.out.2.2,HR.out.1,HR.out.2.1,fun _ _=>rfl,by simp [sg_zero],But.refl _ _⟩
 case round =>
  obtain ⟨k,cv,M,hgk,rfl,rfl,hcv,HM,HA⟩:=hrel
  by_cases hk:k<133
  · obtain ⟨hL,hl,hR⟩:=HR.out
    obtain ⟨hMw,hMl,hMo,hMs,hbut⟩:=HA.out
    have hgc:wr.cell? ⟨g,k,none⟩=some (.int .u32 ((M.getD k 0:Nat):Int)):=by
     rw [HM.out.cellAt k (by omega)];simp [U,List.getD_eq_getElem?_getD,List.getElem?_eq_getElem (show k<M.length by omega)]
    have hgf:=HM.out.frozenAt k;obtain ⟨x,hx⟩:∃ x:Nat,M.getD k 0=x:=⟨_,rfl⟩;have hxl:x<4294967296:=hx ▸ hMw.get _;rw [hx] at hgc;obtain ⟨y,hy⟩:∃ y:Nat,y=4294967295-x:=⟨_,rfl⟩;have e1:bits BinOp.xor IntKind.u32 IntKind.u32.max (x:Int)=(y:Int):=by rw [xor_max x hxl,hy]
    have hyl:y<4294967296:=by omega
    have HX:Aside (M.getD k 0=x∧y=4294967295-x):=⟨hx,hy⟩;clear hy;clear hx hL hl hR hMw hMl hMo hMs hbut;obtain ⟨gk,rfl⟩:∃ k,gk=k+1:=⟨gk-1,by omega⟩
    go_wp2
    go_roundg gk
    case measure=>omega
    case rel =>
     obtain ⟨hL,hl,hR⟩:=HR.out;obtain ⟨hMw,hMl,hMo,hMs,hbut⟩:=HA.out;obtain ⟨hx,hy⟩:=HX.out;have e2:((cv:Int)+(y:Int))%4294967296=(((cv+y)%4294967296:Nat):Int):=by omega
     have e3:((cv:Int)+(y:Int))/4294967296=(((cv+y)/4294967296:Nat):Int):=by omega
     rw [wrap_u64n (y:Int) (by omega) (by omega),wrap_u64n ((cv:Int)+(y:Int)) (by omega) (by omega),e2]
     refine ⟨k+1,(cv+y)/4294967296,M.set k ((cv+y)%4294967296),by omega,by simp,by rw [e3],by omega,?_,hMw.set _ _ (Nat.mod_lt _ (by decide)),by simp [hMl],fun j hj=>by rw [getD_set_ne _ _ _ _ (by omega)];exact hMo j (by omega),?_,hbut.set k _⟩
     · rw [List.map_set];exact (HM.out.stored k _).1
     · have hLx:L.getD k 0=x:=by rw [←hMo k (Nat.le_refl _)];exact hx
       exact turn_step M L k cv _ _ hMl hl hk (by omega) hMo (by rw [hLx];omega) hMs
  · obtain rfl:k=133:=by omega
    go_wp2;refine bodyPost_end (v:=.tuple #[]) (by simp [results,Tryz.results96,go_sem]) rfl ?_
    obtain ⟨hMw,hMl,hMo,hMs,hbut⟩:=HA.out;refine ⟨rfl,M,HM.out,hMl,hMw,?_,hbut⟩;have a1:=sg_all M;have a2:=sg_all L;rw [hMl] at a1;rw [HR.out.2.1] at a2;rw [a1,a2] at hMs;have hb:=val_lt_PB hMl hMw;have eP:pw 133=PB:=by unfold PB;rfl
    rw [eP] at hMs;have h2:PB-val L=val M+PB*cv:=by rw [Nat.mul_comm];omega
    rw [h2,Nat.add_mul_mod_self_left,Nat.mod_eq_of_lt hb]
def mag7 (N:Nat):Nat:=if neg7 N then PB-N else N
theorem row_arg {w:World}{lo cap:Nat}{L:List Nat}{g:Nat}(h:w.ownsRow lo 60 1 (.slice (some ⟨g,0,none⟩) 133 cap) 133 (L.map U)) (hl:L.length=133) (hL:Wf L):Arg w (some ⟨g,0,none⟩) 133 cap L:=by
 have hg:g<w.heap.size:=(h.lt g rfl).2
 have hc:133≤cap:=by
  rcases h.2 with ⟨h',_⟩|⟨g',cap',cur,h',_,_,hn,_⟩
  · simp at h'
  · simp only [Value.slice.injEq,Option.some.injEq,Addr.mk.injEq,and_true,true_and] at h'
    omega
 refine ⟨hl.symm,hc,by decide,hL,fun _=>⟨g,0,hg,rfl,fun i hi=>?_⟩,fun e=>by cases e⟩
 rw [Nat.zero_add,h.cellAt i (by omega),List.getElem?_map,List.getElem?_eq_getElem hi,List.getD_eq_getElem?_getD,List.getElem?_eq_getElem hi]
 rfl
theorem size7_any (L:List Nat) (g:Nat) (w:World) (hl:L.length=133) (hL:Wf L) (hH:Hd w g L) :
 Calls Tryz.prog 71 #[.pointer (some ⟨g,0,none⟩)] w fun r w' =>
  ∃ b cap M,r=.returned (.slice (some ⟨b,0,none⟩) 133 cap)∧Arg w' (some ⟨b,0,none⟩) 133 cap M∧val M=mag7 (val L)∧Below w.heap.size w w':=by
 have HR:Aside (Wf L∧L.length=133∧Hd w g L):=⟨hL,hl,hH⟩;clear hL hl hH;go_enter Tryz.func71,Tryz.ntmps71
 go_wp2_with fail
 refine Calls.mono (clone_any g 133 133 L w HR.out.2.1 (by decide) HR.out.2.2) ?_
 rintro r w1 ⟨v',rfl,hown,hnn,hb1⟩;have HO:Aside (w1.ownsRow w.heap.size 60 1 v' 133 (L.map U)∧Below w.heap.size w w1):=⟨hown,hb1⟩
 obtain ⟨b,cap,rfl⟩:∃ b cap,v'=.slice (some ⟨b,0,none⟩) 133 cap:=by
  rcases hown.2 with ⟨_,h⟩|⟨g',cap',cur,h,_⟩
  · cases h
  · exact ⟨g',cap',h⟩
 clear hown hnn hb1
 go_wp2_with fail
 obtain ⟨hL,hl,hH⟩:=HR.out;refine Calls.mono (below_any g L w1 hl hL (hH.below HO.out.2 hH.1 (Nat.le_refl _))) ?_;rintro r w2 ⟨rfl,rfl⟩;clear hL hl hH
 cases hn:neg7 (val L)
 · have HN:Aside (neg7 (val L)=false):=hn
   clear hn;go_wp2;go_ret;obtain ⟨hL,hl,hH⟩:=HR.out;exact ⟨b,cap,L,rfl,row_arg HO.out.1 hl hL,by unfold mag7;rw [HN.out];rfl,HO.out.2⟩
 · have HN:Aside (neg7 (val L)=true):=hn
   clear hn
   go_wp2_with fail
   obtain ⟨hL,hl,hH⟩:=HR.out;refine Calls.mono (turn_any L w.heap.size b cap w2 hl hL HO.out.1) ?_;rintro r w3 ⟨rfl,M,hM,hMl,hMw,hMv,hbut⟩;have HM:Aside (w3.ownsRow w.heap.size 60 1 (.slice (some ⟨b,0,none⟩) 133 cap) 133 (M.map U)∧M.length=133∧Wf M∧val M=(PB-val L)%PB∧But b w2 w3):=⟨hM,hMl,hMw,hMv,hbut⟩;clear hL hl hH hM hMl hMw hMv hbut;go_wp2;go_ret;obtain ⟨hM,hMl,hMw,hMv,hbut⟩:=HM.out;refine ⟨b,cap,M,rfl,row_arg hM hMl hMw,?_,But.below HO.out.2 hbut HO.out.2.size (HO.out.1.lt b rfl).1⟩;unfold mag7;rw [HN.out,hMv,if_pos rfl,Nat.mod_eq_of_lt];have h1:PB≤2*val L:=of_decide_eq_true HN.out;have:=PB_pos;omega
end
section
open Go.RowKit
theorem But.of_bel {g:Nat}{a w w':World}(h:But g a w) (hb:Below w.heap.size w w'):But g a w' :=
 h.trans ⟨hb.os,hb.tape,hb.output,hb.size,fun k hk _=>hb.block k hk⟩
structure Sp where
 (n u d m p a:Int)
def Sp.cells (s:Sp):List Value:=[.int .i64 s.n,.int .i64 s.u,.int .i64 s.d,.int .i64 s.m,.int .i64 s.p,.int .i64 s.a]
def Sp.agg (s:Sp):Value:=.agg #[.int .i64 s.n,.int .i64 s.u,.int .i64 s.d,.int .i64 s.m,.int .i64 s.p,.int .i64 s.a]
def Ac (w:World) (g:Nat) (L:List Nat) (s:Sp):Prop:=Bl w g 66 (L.map U++s.cells)
theorem Ac.lt {w:World}{g:Nat}{L:List Nat}{s:Sp}(h:Ac w g L s):g<w.heap.size:=Bl.lt h
theorem Ac.hd {w:World}{g:Nat}{L:List Nat}{s:Sp}(h:Ac w g L s):Hd w g L:=Bl.hd h
theorem Ac.cell {w:World}{g:Nat}{L:List Nat}{s:Sp}(h:Ac w g L s) (hl:L.length=133) (k:Nat) (v:Value) (hk:s.cells[k]?=some v):w.cell? ⟨g,133+k,none⟩=some v :=
 Bl.cell h _ _ (by rw [List.getElem?_append_right (by simp;omega)];simpa [hl] using hk)
theorem Ac.frozen {w:World}{g:Nat}{L:List Nat}{s:Sp}(h:Ac w g L s) (k:Nat):w.frozen? ⟨g,k,none⟩=false:=Bl.frozen h k
theorem Ac.below {w w':World}{g B:Nat}{L:List Nat}{s:Sp}(h:Ac w g L s) (hb:Below B w w') (hg:g<B):Ac w' g L s:=Bl.below h hb hg
theorem Ac.drew {w:World}{g:Nat}{L:List Nat}{s:Sp}(h:Ac w g L s):Ac w.drew g L s:=h
theorem Ac.alloc {w:World}{g:Nat}{L:List Nat}{s:Sp}(h:Ac w g L s) (o:Obj):Ac (w.alloc o) g L s:=Bl.alloc h o
theorem Ac.there {w:World}{g:Nat}{L:List Nat}{s:Sp}(h:Ac w g L s) (hl:L.length=133):w.there g 0 133:=Bl.there h 0 133 (by simp [hl])
theorem Ac.range {w:World}{g:Nat}{L:List Nat}{s:Sp}(h:Ac w g L s):w.rangeAt g 0 (L.map U):=Bl.range h 0 _ (fun j v hv=>by
 rw [Nat.zero_add,List.getElem?_append_left (List.getElem?_eq_some_iff.1 hv).1];exact hv)
theorem oneCell_Ul (L:List Nat):∀ v ∈ L.map U,v.oneCell'=true:=fun v hv=>by
 obtain ⟨x,_,rfl⟩:=List.mem_map.1 hv;rfl
theorem become_yes (g:Nat) (L M:List Nat) (s t:Sp) (w:World) (hA:Ac w g L s) (hl:L.length=133) (hM:Wf M) (hm:M.length=133) (hb:bey (val M)=false) :
 Calls Tryz.prog 62 #[.pointer (some ⟨g,0,none⟩),.agg (M.map U).toArray,t.agg] w fun r w' =>
  r=.returned (.int .i64 0)∧Ac w' g M t∧But g w w':=by
 obtain ⟨tn,tu,td,tm,tp,ta⟩:=t;simp only [Sp.agg];have HR:Aside (Ac w g L s∧L.length=133∧Wf M∧M.length=133∧bey (val M)=false):=⟨hA,hl,hM,hm,hb⟩;clear hA hl hM hm hb;go_enter Tryz.func62,Tryz.ntmps62
 go_wp2_with fail
 obtain ⟨w2,hw2⟩:∃ w2,w2=((w.alloc (Obj.cells (M.map U).toArray 62)).alloc (Obj.cells #[.int .i64 tn,.int .i64 tu,.int .i64 td,.int .i64 tm,.int .i64 tp,.int .i64 ta] 64)):=⟨_,rfl⟩;rw [←hw2]
 have H2:Aside (Ac w2 g L s∧Wb w2 w.heap.size M∧Bl w2 (w.heap.size+1) 64 [.int .i64 tn,.int .i64 tu,.int .i64 td,.int .i64 tm,.int .i64 tp,.int .i64 ta]∧Below w.heap.size w w2∧g<w.heap.size):=by
  subst hw2;refine ⟨(HR.out.1.alloc _).alloc _,((Bl.new w 62 (M.map U)).alloc _).wb,Bl.new' _ 64 _ [_,_,_,_,_,_] (by simp),(bel_alloc w _).trans ((bel_alloc _ _).mono (by simp)),HR.out.1.lt⟩
 clear hw2;refine Calls.mono (beyond_any w.heap.size M w2 HR.out.2.2.2.1 HR.out.2.2.1 H2.out.2.1.hd) ?_;rintro r w3 ⟨rfl,rfl⟩;rw [HR.out.2.2.2.2];go_wp2;have hne1:g≠w.heap.size:=Nat.ne_of_lt H2.out.2.2.2.2;have hne2:g≠w.heap.size+1:=by have:=H2.out.2.2.2.2;omega
 have hu:=Tryz.desc_words;have hsz:(Tryz.prog.info? 62).map (·.size)=some (M.map U).length:=by rw [Tryz.size_words,List.length_map,HR.out.2.2.2.1]
 have hlen:(M.map U).length=133:=by rw [List.length_map,HR.out.2.2.2.1]
 have hone:=oneCell_Ul M;obtain ⟨A2,B2,C2,_,hlt⟩:=H2.out;have hB0:But g w3 (w3.drew):=(But.refl _ _).drew;have hB1:But g w3 (w3.drew.setCells g 0 (M.map U)):=But.setCells _ _ hB0;have hB2:But g w3 (((((((w3.drew.setCells g 0 (M.map U)).setCell ⟨g,133,none⟩ (.int .i64 tn)).setCell ⟨g,134,none⟩ (.int .i64 tu)).setCell ⟨g,135,none⟩ (.int .i64 td)).setCell ⟨g,136,none⟩ (.int .i64 tm)).setCell ⟨g,137,none⟩ (.int .i64 tp)).setCell ⟨g,138,none⟩ (.int .i64 ta)):=(((((hB1.set _ _).set _ _).set _ _).set _ _).set _ _).set _ _
 have hA1:Bl (w3.drew.setCells g 0 (M.map U)) g 66 (M.map U++s.cells):=by
  have:=Bl.setCells (M.map U) 0 A2.drew (by simp [HR.out.2.1,HR.out.2.2.2.1])
  rw [List.take_zero,List.nil_append,Nat.zero_add,List.drop_left' (by simp [HR.out.2.1,HR.out.2.2.2.1])] at this
  exact this
 have hA2:Bl (((((((w3.drew.setCells g 0 (M.map U)).setCell ⟨g,133,none⟩ (.int .i64 tn)).setCell ⟨g,134,none⟩ (.int .i64 tu)).setCell ⟨g,135,none⟩ (.int .i64 td)).setCell ⟨g,136,none⟩ (.int .i64 tm)).setCell ⟨g,137,none⟩ (.int .i64 tp)).setCell ⟨g,138,none⟩ (.int .i64 ta)) g 66 (M.map U++[.int .i64 tn,.int .i64 tu,.int .i64 td,.int .i64 tm,.int .i64 tp,.int .i64 ta]):=by
  have:=(((((hA1.set 133 (.int .i64 tn)).set 134 (.int .i64 tu)).set 135 (.int .i64 td)).set 136 (.int .i64 tm)).set 137 (.int .i64 tp)).set 138 (.int .i64 ta);have hm:=HR.out.2.2.2.1;simpa [List.set_append,hm,Sp.cells] using this
 have kS0:Aside ((w3.drew).rangeAt w.heap.size 0 (M.map U)∧(w3.drew).there g 0 133∧(w3.drew).cell? ⟨w.heap.size+1,0,none⟩=some (.int .i64 tn)∧(w3.drew).cell? ⟨w.heap.size+1,1,none⟩=some (.int .i64 tu)∧(w3.drew).cell? ⟨w.heap.size+1,2,none⟩=some (.int .i64 td)∧(w3.drew).cell? ⟨w.heap.size+1,3,none⟩=some (.int .i64 tm)∧(w3.drew).cell? ⟨w.heap.size+1,4,none⟩=some (.int .i64 tp)∧(w3.drew).cell? ⟨w.heap.size+1,5,none⟩=some (.int .i64 ta)) :=
  ⟨(Bl.but B2.bl hB0 (by omega)).range 0 _ (fun j v hv=>by simpa using hv),A2.drew.there HR.out.2.1,(Bl.but C2 hB0 (by omega)).cell 0 _ rfl,(Bl.but C2 hB0 (by omega)).cell 1 _ rfl,(Bl.but C2 hB0 (by omega)).cell 2 _ rfl,(Bl.but C2 hB0 (by omega)).cell 3 _ rfl,(Bl.but C2 hB0 (by omega)).cell 4 _ rfl,(Bl.but C2 hB0 (by omega)).cell 5 _ rfl⟩
 have kS1:Aside ((w3.drew.setCells g 0 (M.map U)).rangeAt w.heap.size 0 (M.map U)∧(w3.drew.setCells g 0 (M.map U)).there g 0 133∧(w3.drew.setCells g 0 (M.map U)).cell? ⟨w.heap.size+1,0,none⟩=some (.int .i64 tn)∧(w3.drew.setCells g 0 (M.map U)).cell? ⟨w.heap.size+1,1,none⟩=some (.int .i64 tu)∧(w3.drew.setCells g 0 (M.map U)).cell? ⟨w.heap.size+1,2,none⟩=some (.int .i64 td)∧(w3.drew.setCells g 0 (M.map U)).cell? ⟨w.heap.size+1,3,none⟩=some (.int .i64 tm)∧(w3.drew.setCells g 0 (M.map U)).cell? ⟨w.heap.size+1,4,none⟩=some (.int .i64 tp)∧(w3.drew.setCells g 0 (M.map U)).cell? ⟨w.heap.size+1,5,none⟩=some (.int .i64 ta)) :=
  ⟨(Bl.but B2.bl hB1 (by omega)).range 0 _ (fun j v hv=>by simpa using hv),Bl.there hA1 0 133 (by simp [HR.out.2.2.2.1]),(Bl.but C2 hB1 (by omega)).cell 0 _ rfl,(Bl.but C2 hB1 (by omega)).cell 1 _ rfl,(Bl.but C2 hB1 (by omega)).cell 2 _ rfl,(Bl.but C2 hB1 (by omega)).cell 3 _ rfl,(Bl.but C2 hB1 (by omega)).cell 4 _ rfl,(Bl.but C2 hB1 (by omega)).cell 5 _ rfl⟩
 have kS2:Aside (((((((((w3.drew.setCells g 0 (M.map U)).setCell ⟨g,133,none⟩ (.int .i64 tn)).setCell ⟨g,134,none⟩ (.int .i64 tu)).setCell ⟨g,135,none⟩ (.int .i64 td)).setCell ⟨g,136,none⟩ (.int .i64 tm)).setCell ⟨g,137,none⟩ (.int .i64 tp)).setCell ⟨g,138,none⟩ (.int .i64 ta))).rangeAt w.heap.size 0 (M.map U)∧((((((((w3.drew.setCells g 0 (M.map U)).setCell ⟨g,133,none⟩ (.int .i64 tn)).setCell ⟨g,134,none⟩ (.int .i64 tu)).setCell ⟨g,135,none⟩ (.int .i64 td)).setCell ⟨g,136,none⟩ (.int .i64 tm)).setCell ⟨g,137,none⟩ (.int .i64 tp)).setCell ⟨g,138,none⟩ (.int .i64 ta))).there g 0 133∧((((((((w3.drew.setCells g 0 (M.map U)).setCell ⟨g,133,none⟩ (.int .i64 tn)).setCell ⟨g,134,none⟩ (.int .i64 tu)).setCell ⟨g,135,none⟩ (.int .i64 td)).setCell ⟨g,136,none⟩ (.int .i64 tm)).setCell ⟨g,137,none⟩ (.int .i64 tp)).setCell ⟨g,138,none⟩ (.int .i64 ta))).cell? ⟨w.heap.size+1,0,none⟩=some (.int .i64 tn)∧((((((((w3.drew.setCells g 0 (M.map U)).setCell ⟨g,133,none⟩ (.int .i64 tn)).setCell ⟨g,134,none⟩ (.int .i64 tu)).setCell ⟨g,135,none⟩ (.int .i64 td)).setCell ⟨g,136,none⟩ (.int .i64 tm)).setCell ⟨g,137,none⟩ (.int .i64 tp)).setCell ⟨g,138,none⟩ (.int .i64 ta))).cell? ⟨w.heap.size+1,1,none⟩=some (.int .i64 tu)∧((((((((w3.drew.setCells g 0 (M.map U)).setCell ⟨g,133,none⟩ (.int .i64 tn)).setCell ⟨g,134,none⟩ (.int .i64 tu)).setCell ⟨g,135,none⟩ (.int .i64 td)).setCell ⟨g,136,none⟩ (.int .i64 tm)).setCell ⟨g,137,none⟩ (.int .i64 tp)).setCell ⟨g,138,none⟩ (.int .i64 ta))).cell? ⟨w.heap.size+1,2,none⟩=some (.int .i64 td)∧((((((((w3.drew.setCells g 0 (M.map U)).setCell ⟨g,133,none⟩ (.int .i64 tn)).setCell ⟨g,134,none⟩ (.int .i64 tu)).setCell ⟨g,135,none⟩ (.int .i64 td)).setCell ⟨g,136,none⟩ (.int .i64 tm)).setCell ⟨g,137,none⟩ (.int .i64 tp)).setCell ⟨g,138,none⟩ (.int .i64 ta))).cell? ⟨w.heap.size+1,3,none⟩=some (.int .i64 tm)∧((((((((w3.drew.setCells g 0 (M.map U)).setCell ⟨g,133,none⟩ (.int .i64 tn)).setCell ⟨g,134,none⟩ (.int .i64 tu)).setCell ⟨g,135,none⟩ (.int .i64 td)).setCell ⟨g,136,none⟩ (.int .i64 tm)).setCell ⟨g,137,none⟩ (.int .i64 tp)).setCell ⟨g,138,none⟩ (.int .i64 ta))).cell? ⟨w.heap.size+1,4,none⟩=some (.int .i64 tp)∧((((((((w3.drew.setCells g 0 (M.map U)).setCell ⟨g,133,none⟩ (.int .i64 tn)).setCell ⟨g,134,none⟩ (.int .i64 tu)).setCell ⟨g,135,none⟩ (.int .i64 td)).setCell ⟨g,136,none⟩ (.int .i64 tm)).setCell ⟨g,137,none⟩ (.int .i64 tp)).setCell ⟨g,138,none⟩ (.int .i64 ta))).cell? ⟨w.heap.size+1,5,none⟩=some (.int .i64 ta)) :=
  ⟨(Bl.but B2.bl hB2 (by omega)).range 0 _ (fun j v hv=>by simpa using hv),Bl.there hA2 0 133 (by simp [HR.out.2.2.2.1]),(Bl.but C2 hB2 (by omega)).cell 0 _ rfl,(Bl.but C2 hB2 (by omega)).cell 1 _ rfl,(Bl.but C2 hB2 (by omega)).cell 2 _ rfl,(Bl.but C2 hB2 (by omega)).cell 3 _ rfl,(Bl.but C2 hB2 (by omega)).cell 4 _ rfl,(Bl.but C2 hB2 (by omega)).cell 5 _ rfl⟩
 have o0:=hA1.cell 133 _ (by rw [List.getElem?_append_right (by simp [HR.out.2.2.2.1])];simp [HR.out.2.2.2.1,Sp.cells];rfl)
 have f0:=hA1.frozen 133;have o1:=hA1.cell 134 _ (by rw [List.getElem?_append_right (by simp [HR.out.2.2.2.1])];simp [HR.out.2.2.2.1,Sp.cells];rfl)
 have f1:=hA1.frozen 134;have o2:=hA1.cell 135 _ (by rw [List.getElem?_append_right (by simp [HR.out.2.2.2.1])];simp [HR.out.2.2.2.1,Sp.cells];rfl)
 have f2:=hA1.frozen 135;have o3:=hA1.cell 136 _ (by rw [List.getElem?_append_right (by simp [HR.out.2.2.2.1])];simp [HR.out.2.2.2.1,Sp.cells];rfl)
 have f3:=hA1.frozen 136;have o4:=hA1.cell 137 _ (by rw [List.getElem?_append_right (by simp [HR.out.2.2.2.1])];simp [HR.out.2.2.2.1,Sp.cells];rfl)
 have f4:=hA1.frozen 137;have o5:=hA1.cell 138 _ (by rw [List.getElem?_append_right (by simp [HR.out.2.2.2.1])];simp [HR.out.2.2.2.1,Sp.cells];rfl)
 have f5:=hA1.frozen 138;have fw0:=H2.out.1.frozen 133;have fw1:=H2.out.1.frozen 134;have fw2:=H2.out.1.frozen 135;have fw3:=H2.out.1.frozen 136;have fw4:=H2.out.1.frozen 137;have fw5:=H2.out.1.frozen 138;have HE:Aside (Ac (((((((w3.drew.setCells g 0 (M.map U)).setCell ⟨g,133,none⟩ (.int .i64 tn)).setCell ⟨g,134,none⟩ (.int .i64 tu)).setCell ⟨g,135,none⟩ (.int .i64 td)).setCell ⟨g,136,none⟩ (.int .i64 tm)).setCell ⟨g,137,none⟩ (.int .i64 tp)).setCell ⟨g,138,none⟩ (.int .i64 ta)) g M ⟨tn,tu,td,tm,tp,ta⟩∧But g w3 (((((((w3.drew.setCells g 0 (M.map U)).setCell ⟨g,133,none⟩ (.int .i64 tn)).setCell ⟨g,134,none⟩ (.int .i64 tu)).setCell ⟨g,135,none⟩ (.int .i64 td)).setCell ⟨g,136,none⟩ (.int .i64 tm)).setCell ⟨g,137,none⟩ (.int .i64 tp)).setCell ⟨g,138,none⟩ (.int .i64 ta))):=⟨hA2,hB2⟩;clear A2 B2 C2 hB0 hB1 hB2 hA1 hA2
 go_region_held (fun w'=>(w').rangeAt w.heap.size 0 (M.map U)∧(w').there g 0 133∧(w').cell? ⟨w.heap.size+1,0,none⟩=some (.int .i64 tn)∧(w').cell? ⟨w.heap.size+1,1,none⟩=some (.int .i64 tu)∧(w').cell? ⟨w.heap.size+1,2,none⟩=some (.int .i64 td)∧(w').cell? ⟨w.heap.size+1,3,none⟩=some (.int .i64 tm)∧(w').cell? ⟨w.heap.size+1,4,none⟩=some (.int .i64 tp)∧(w').cell? ⟨w.heap.size+1,5,none⟩=some (.int .i64 ta)) (first | with_reducible exact kS2.out | with_reducible exact kS1.out | with_reducible exact kS0.out) (fail)
 clear kS0 kS1 kS2 o0 o1 o2 o3 o4 o5 f0 f1 f2 f3 f4 f5 fw0 fw1 fw2 fw3 fw4 fw5 hsz hone hlen hu;go_wp2;go_ret;exact ⟨rfl,HE.out.1,((But.refl g w).of_bel H2.out.2.2.2.1).trans HE.out.2⟩
theorem become_no (g:Nat) (L M:List Nat) (s t:Sp) (w:World) (hA:Ac w g L s) (hM:Wf M) (hm:M.length=133) (hb:bey (val M)=true) :
 Calls Tryz.prog 62 #[.pointer (some ⟨g,0,none⟩),.agg (M.map U).toArray,t.agg] w fun r w' =>
  r=.returned (.int .i64 2)∧Below w.heap.size w w':=by
 obtain ⟨tn,tu,td,tm,tp,ta⟩:=t;simp only [Sp.agg];have HR:Aside (Wf M∧M.length=133∧bey (val M)=true):=⟨hM,hm,hb⟩;clear hA hM hm hb;go_enter Tryz.func62,Tryz.ntmps62
 go_wp2_with fail
 obtain ⟨w2,hw2⟩:∃ w2,w2=((w.alloc (Obj.cells (M.map U).toArray 62)).alloc (Obj.cells #[.int .i64 tn,.int .i64 tu,.int .i64 td,.int .i64 tm,.int .i64 tp,.int .i64 ta] 64)):=⟨_,rfl⟩;rw [←hw2]
 have H2:Aside (Wb w2 w.heap.size M∧Below w.heap.size w w2):=by
  subst hw2;exact ⟨((Bl.new w 62 (M.map U)).alloc _).wb,(bel_alloc w _).trans ((bel_alloc _ _).mono (by simp))⟩
 clear hw2;refine Calls.mono (beyond_any w.heap.size M w2 HR.out.2.1 HR.out.1 H2.out.1.hd) ?_;rintro r w3 ⟨rfl,rfl⟩;rw [HR.out.2.2];go_wp2;go_ret;exact ⟨rfl,H2.out.2⟩
end
section
open Go.RowKit
def Sp.ok (s:Sp):Prop:=(-4398046511104≤s.n∧s.n≤4398046511104)∧(-4398046511104≤s.u∧s.u≤4398046511104)∧(-4398046511104≤s.d∧s.d≤4398046511104)∧(-4398046511104≤s.m∧s.m≤4398046511104)∧(-4398046511104≤s.p∧s.p≤4398046511104)∧(-4398046511104≤s.a∧s.a≤4398046511104)
def Sp.cnt (s:Sp) (k:Nat) (c:Int):Sp :=
 ⟨if k=1 then s.n+c else s.n,if k=2 then s.u+c else s.u,if k=3 then s.d+c else s.d,if k=4 then s.m+c else s.m,if k=5 then s.p+c else s.p,s.a+c⟩
theorem signed_any (b:Bool) (x y:Int) (w:World):Calls Tryz.prog 85 #[.bool b,.int .i64 x,.int .i64 y] w fun r w'=>r=.returned (.int .i64 (if b then x else y))∧w'=w:=by
 cases b
 · go_enter Tryz.func85,Tryz.ntmps85
   go_wp2;go_ret;exact ⟨rfl,rfl⟩
 · go_enter Tryz.func85,Tryz.ntmps85
   go_wp2;go_ret;exact ⟨rfl,rfl⟩
theorem counted_any (s:Sp) (k:Nat) (c:Int) (w:World) (hk:k≤5) (hs:s.ok) (hc0:-1≤c) (hc1:c≤1):Calls Tryz.prog 64 #[s.agg,.int .i64 (k:Nat),.int .i64 c] w fun r w'=>r=.returned (s.cnt k c).agg∧Below w.heap.size w w':=by
 obtain ⟨n,u,d,m,p,a⟩:=s;obtain ⟨h0,h1,h2,h3,h4,h5⟩:=hs;simp only [Sp.agg] at *;have hc:k=0∨k=1∨k=2∨k=3∨k=4∨k=5:=by omega
 rcases hc with rfl|rfl|rfl|rfl|rfl|rfl
 all_goals (
  go_enter Tryz.func64,Tryz.ntmps64;go_wp2;exact bodyPost_ret (v:=(Sp.cnt ⟨n,u,d,m,p,a⟩ _ c).agg) (by simp [results,Tryz.results64,go_sem,Sp.agg,Sp.cnt]) rfl ⟨rfl,(bel_alloc _ _).trans ((bel_alloc _ _).mono (by simp))⟩)
end
end Go.Proofs.YtnpchhjhoadehaaGreatDoor
