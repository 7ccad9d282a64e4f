import Derived.Test.YtblkpkgebigojaaGreatDoorZ5x
import Derived.Test.YtblkpkgebigojaaGreatDoorS9x
import Derived.Test.YtblkpkgebigojaaGreatDoorD39x
import Derived.BigQuiet
import Derived.Deep.RegionHeld3
import Derived.Deep.CutRange
import Derived.Test.YtblkpkgebigojaaGreatDoorD32cx
import Derived.Test.YtblkpkgebigojaaGreatDoorS7x
import Derived.Test.YtblkpkgebigojaaGreatDoorW17x
import Derived.ProofKit
import Derived.OpenShut
import Derived.ChangeOld
import Derived.SizedLaws
import Derived.ChangeArms
import Derived.Test.YtblkpkgebigojaaGreatDoorD8x
import Derived.KernelRfl
import Derived.ArgAppend
import Derived.Maps.AppendAt
import Derived.WalkMore
import Derived.OwnWalk
import Derived.Test.YtblkpkgebigojaaGreatDoorD15x
import Derived.Test.YtblkpkgebigojaaGreatDoorD19x
import Derived.Deep.RegionWith
import Derived.Test.YtblkpkgebigojaaGreatDoorU1x
import Derived.Deep.Cut
import Derived.RangeFuncNested
import Derived.RangeFuncBound
import Derived.RangeFuncCalls
import Derived.RangeFuncLeaves
import Derived.RangeFuncBox
import Derived.Shelf.Abstract
import Derived.Shelf.RegionOpen
import Derived.WalkKit
import Derived.OwnWalkIn
import Derived.TacticsInMore
import Derived.LoopNIn
import Derived.LoopIn
import Derived.Deep.RegionHeld
import Derived.Deep.LoopGhost
set_option linter.unusedVariables false
set_option linter.unusedSimpArgs false
set_option maxHeartbeats 16000000
set_option maxRecDepth 20000
namespace Go.Proofs.YtblkpkgebigojaaGreatDoor
namespace J
end J
section
open Go.RowKit
def Iv (o:Option (Bool×Nat×Int)) (lo hi:Int):Prop:=∃ n X e,o=some (n,X,e)∧Frm n X e∧(X=0∨(lo≤e∧e+(bl X:Int)≤hi))
theorem Iv.mono {o:Option (Bool×Nat×Int)}{a b c d:Int}(h:Iv o a b) (h1:c≤a) (h2:b≤d):Iv o c d:=by
 obtain ⟨n,X,e,h,F,hb⟩:=h;exact ⟨n,X,e,h,F,by omega⟩
theorem Zfc (n:Bool) (X:Nat) (e a b:Int) (h:X=0∨(a≤e∧e+(bl X:Int)≤b)) (hw:b-a≤262144) (ha:-1048576≤a) (hb:b≤1048576):Iv (mkS n X e) a b:=by
 by_cases h0:X=0
 · subst h0
   rw [Z4];exact ⟨false,0,0,rfl,⟨.inr ⟨rfl,rfl,rfl⟩,by rw [Zu];omega,by omega,by omega⟩,.inl rfl⟩
 · obtain ⟨h1,h2⟩:=h.resolve_left h0
   obtain ⟨k,o1,o2,o3⟩:=Qh X h0;have hp:=Zv (X/2^lo X) (by omega)
   have e1:mkS n X e=some (n,X/2^lo X,e+lo X):=by
    unfold mkS;rw [if_neg h0,if_neg (by omega)]
   exact ⟨n,_,_,e1,Zo e1,.inr (by omega)⟩
theorem Zbe (X Y:Nat):bl (X*Y)≤bl X+bl Y:=Z2 (by rw [Nat.pow_add];exact Nat.mul_lt_mul'' (Qo X) (Qo Y))
theorem Iv.mul {o p:Option (Bool×Nat×Int)}{a b c d:Int}(h1:Iv o a b) (h2:Iv p c d) (hw:(b+d)-(a+c)≤262144) (hl:-1048576≤a+c) (hh:b+d≤1048576):Iv (mulD o p) (a+c) (b+d):=by
 obtain ⟨n,X,e,rfl,F,hx⟩:=h1;obtain ⟨m,Y,f,rfl,G,hy⟩:=h2
 show Iv (mkS (n != m) (X*Y) (e+f)) _ _
 refine Zfc _ _ _ _ _ ?_ hw hl hh
 rcases hx with rfl|hx
 · left;rw [Nat.zero_mul]
 · rcases hy with rfl | hy
   · left;rw [Nat.mul_zero]
   · right
     have:=Zbe X Y;omega
theorem Zmh {X k:Nat}{j:Nat}(h:bl X+k≤j):X*2^k<2^j:=by
 have h1:=Qo X;have h2:X*2^k<2^bl X*2^k:=Nat.mul_lt_mul_of_pos_right h1 (Nat.two_pow_pos k);rw [←Nat.pow_add] at h2;exact Nat.lt_of_lt_of_le h2 (Nat.pow_le_pow_right (by decide) h)
theorem Zg3 (n m:Bool) (X Y:Nat) (e f a b:Int) (hfe:f≤e) (ha:a≤f) (h1:e+(bl X:Int)≤b) (h2:f+(bl Y:Int)≤b) (hw:b+1-a≤262144) (hl:-1048576≤a) (hh:b+1≤1048576) (hX:X≠0):Iv (addUp n X e m Y f) a (b+1):=by
 have hp:=Zv X hX;unfold addUp;rw [if_neg (by omega)]
 obtain ⟨j,hj⟩:∃ j:Nat,(j:Int)=b-f:=⟨(b-f).toNat,by omega⟩
 have b1:X*2^(e-f).toNat<2^j:=Zmh (by omega)
 have b2:Y<2^j:=Nat.lt_of_lt_of_le (Qo Y) (Nat.pow_le_pow_right (by decide) (by omega))
 have fin:∀ (s:Bool) (Z:Nat),Z<2^(j+1)→Iv (mkS s Z f) a (b+1):=by
  intro s Z hZ;refine Zfc s Z f a (b+1) ?_ hw hl hh
  by_cases h0:Z=0
  · exact .inl h0
  · right
    have:=Z2 hZ;omega
 have b3:(2:Nat)^(j+1)=2*2^j:=by rw [Nat.pow_succ,Nat.mul_comm]
 split
 · exact fin _ _ (by omega)
 · split
   · exact fin _ _ (by omega)
   · exact fin _ _ (by omega)
theorem Iv.add {o p:Option (Bool×Nat×Int)}{a b:Int}(h1:Iv o a b) (h2:Iv p a b) (hw:b+1-a≤262144) (hl:-1048576≤a) (hh:b+1≤1048576):Iv (addD o p) a (b+1):=by
 have h1':=h1;have h2':=h2;obtain ⟨n,X,e,rfl,F,hx⟩:=h1;obtain ⟨m,Y,f,rfl,G,hy⟩:=h2
 show Iv (addF (n,X,e) (m,Y,f)) a (b+1)
 unfold addF;simp only
 by_cases hX:X=0
 · rw [if_pos hX];exact h2'.mono (by omega) (by omega)
 · rw [if_neg hX]
   by_cases hY:Y=0
   · rw [if_pos hY];exact h1'.mono (by omega) (by omega)
   · rw [if_neg hY]
     have ex:=hx.resolve_left hX;have ey:=hy.resolve_left hY
     split
     · exact Zg3 m n Y X f e a b (by omega) ex.1 ey.2 ex.2 hw hl hh hY
     · exact Zg3 n m X Y e f a b (by omega) ey.1 ex.2 ey.2 hw hl hh hX
def valO (o:Option (Bool×Nat×Int)):Int:=zv (-1048576) (dN o,dX o,dE o)
theorem fvO {o:Option (Bool×Nat×Int)}{n:Bool}{X:Nat}{e:Int}(h:mkS n X e=o) (hs:o.isSome=true):Fv (-1048576) o (valO o):=by
 cases o with
 | none=>cases hs
 | some d=>obtain ⟨n1,X1,e1⟩:=d;exact ⟨n1,X1,e1,rfl,Zo h,rfl⟩
theorem Fv.zero_iff {o:Option (Bool×Nat×Int)}{B z:Int}(h:Fv B o z):dX o=0↔z=0:=by
 obtain ⟨n,X,e,rfl,F,rfl⟩:=h.ex
 constructor
 · intro h0;exact J7 B h0
 · intro h0
   show X=0
   rcases Nat.eq_zero_or_pos X with q|q
   · exact q
   · exfalso
     have:=Nat.mul_pos q (Nat.two_pow_pos (e-B).toNat);unfold zv sg1 at h0
     cases n <;> simp only [Bool.false_eq_true,if_false,if_true] at h0 <;> omega
theorem Fv.neg_iff {o:Option (Bool×Nat×Int)}{B z:Int}(h:Fv B o z):dN o=true↔z<0:=by
 obtain ⟨n,X,e,rfl,F,rfl⟩:=h.ex
 show n=true↔_
 rcases F.odd with q|⟨rfl,rfl,rfl⟩
 · have:=Nat.mul_pos (show 0<X by omega) (Nat.two_pow_pos (e-B).toNat)
   unfold zv sg1
   cases n <;> simp only [Bool.false_eq_true,if_false,if_true,false_iff,true_iff] <;> omega
 · simp [zv]
theorem Fv.reform {o:Option (Bool×Nat×Int)}{B z:Int}(h:Fv B o z):mkS (dN o) (dX o) (dE o)=o:=by
 obtain ⟨n,X,e,rfl,F,rfl⟩:=h.ex;exact F.self
theorem Zoo (x y:Int):cmpZ x y=-cmpZ y x:=by unfold cmpZ;split <;> split <;> omega
theorem Fv.len {o:Option (Bool×Nat×Int)}{B z:Int}(h:Fv B o z):(ws (dX o)).length≤8192:=by
 obtain ⟨n,X,e,rfl,F,_⟩:=h.ex;exact Z0 F
def Al (w:World) (v:Value) (X:Nat):Prop:=∃ a l c xs,v=.slice a l c∧Arg w a l c xs∧val xs=X∧l≤2000000
theorem Al.below {w w':World}{v:Value}{X:Nat}(h:Al w v X) (hb:Below w.heap.size w w'):Al w' v X:=by
 obtain ⟨a,l,c,xs,rfl,hA,hv,hl⟩:=h;exact ⟨a,l,c,xs,rfl,hA.below hb,hv,hl⟩
def Fm (o:Option (Bool×Nat×Int)):Prop:=∃ B x,Fv B o x
theorem Fm.len {o:Option (Bool×Nat×Int)}(h:Fm o):(ws (dX o)).length≤8192:=by obtain ⟨B,x,h⟩:=h;exact h.len
theorem Fm.re {o:Option (Bool×Nat×Int)}(h:Fm o):mkS (dN o) (dX o) (dE o)=o:=by obtain ⟨B,x,h⟩:=h;exact h.reform
theorem Fm.rng {o:Option (Bool×Nat×Int)}(h:Fm o):-9223372036854775808≤dE o∧dE o≤9223372036854775807:=by
 obtain ⟨B,x,h⟩:=h;obtain ⟨n,X,e,rfl,F,_⟩:=h.ex;have:=F.up;have:=F.down
 show -9223372036854775808≤e∧e≤9223372036854775807
 omega
def fo8 (V:Int):Option (Bool×Nat×Int):=mkS (decide (V<0)) V.natAbs (-1074)
theorem Zrp (V:Int):sg1 (decide (V<0))*(V.natAbs:Int)=V:=by
 unfold sg1
 by_cases h:V<0
 · rw [decide_eq_true h,if_pos rfl];omega
 · rw [decide_eq_false h,if_neg (by decide)];omega
theorem Ztk (V:Int) (m:Nat) (hm:m≤200000) (hV:V.natAbs<2^m):Fo (fo8 V) (V*(UU:Int)) (-1074) ((m:Int)-1074):=by
 by_cases h0:V=0
 · subst h0
   refine ⟨⟨false,0,0,?_,?_,?_,.inl rfl⟩⟩
   · unfold fo8;exact Z4 _ _
   · exact Zo (Z4 false 0)
   · rw [J7 _ rfl];simp
 · obtain ⟨X,e,h1,h2,h3,h4⟩:=Zsl (decide (V<0)) V.natAbs (-1074) (-1074) ((m:Int)-1074) (by omega) (by omega) (by have:=blLe hV;omega) (by omega) (by omega) (by omega)
   refine ⟨⟨_,X,e,h1,Zo h1,?_,.inr ⟨h3,h4⟩⟩⟩;rw [Yu h1 (-2097152) (.inr (by omega))]
   have e1:(2:Nat)^((-1074:Int) - -2097152).toNat=UU*SS:=US _ (by decide)
   rw [e1,Int.natCast_mul,Int.natCast_mul,←Int.mul_assoc,Zrp,Int.mul_assoc]
theorem Zrq {o:Option (Bool×Nat×Int)}{V L H:Int}(h:Fo o (V*(UU:Int)) L H) (m:Nat) (hm:m≤200000) (hV:V.natAbs<2^m):o=fo8 V:=by
 obtain ⟨n,X,e,rfl,F1,z1,_⟩:=h.ex;obtain ⟨n',X',e',h2,F2,z2,_⟩:=(Ztk V m hm hV).ex;rw [h2];obtain ⟨rfl,rfl,rfl⟩:=Zoy F1 F2 (-2097152) (by omega) (by rw [z1,z2])
 rfl
theorem Zo6 {x:Nat}(hx:Wd x) (fx:finW x) (m:Nat) (hm:m=2098):(fvW x).natAbs<2^m:=by
 unfold fvW;rw [Zso];have:=Zpc (magW x) fx 2045 rfl;obtain ⟨a,ha⟩:∃ a,a=2045:=⟨_,rfl⟩;have h2:=Zpc (magW x) fx a ha;rw [show m=53+a by omega,Nat.pow_add]
 exact h2
theorem Zo7 {x:Nat}(hx:Wd x) (fx:finW x):ofK (negW x) (magW x)=fo8 (fvW x):=by
 obtain ⟨n,X,e,h1,h2,_⟩:=Zt1 (negW x) (magW x) fx;rw [h1];exact Zrq h2 2098 (by omega) (Zo6 hx fx 2098 rfl)
theorem Zrr (x:Nat) (hx:Wd x∧finW x) (w:World) (hT:Tab w) :
 Calls Tryz.prog 51 #[.float .f64 x] w fun r w'=>(∃ v,r=.returned (.tuple #[.agg #[.bool (dN (fo8 (fvW x))),v,.int .i64 (dE (fo8 (fvW x)))],.int .i64 0])∧Nt w.heap.size w' v (dX (fo8 (fvW x))))∧Below w.heap.size w w':=by
 obtain ⟨h1,h2,h3,_⟩:=Zi3 (negW x) (magW x) (Nat.le_of_lt hx.2);have:=Zsp (negW x) (magW x/4503599627370496) (magW x%4503599627370496) h2 h3 w hT;rw [←h1,←Zr8 x hx.1] at this;refine this.mono ?_;rintro r w' ⟨⟨v,rfl,hN⟩,hb⟩;have e:=Zo7 hx.1 hx.2;unfold ofK at e;rw [e] at hN ⊢;have he:ofE (magW x/4503599627370496)=0:=by unfold ofE;rw [if_neg (by have:=hx.2;omega)]
 rw [he];exact ⟨⟨v,rfl,hN⟩,hb⟩
end
section
open Go.RowKit J
theorem Zd5 (g:Nat) (w:World) (x y z:Value):But g w (st3 w g x y z):=(((But.refl g w).set _ _).set _ _).set _ _
def Lo (w:World) (g:Nat) (o:Option (Bool×Nat×Int)):Prop:=∃ a c,Dk w g (dN o) (.slice a (ws (dX o)).length c) (dE o)∧Nt 0 w (.slice a (ws (dX o)).length c) (dX o)
theorem Lo.below {w w':World}{g:Nat}{o:Option (Bool×Nat×Int)}(h:Lo w g o) (hb:Below w.heap.size w w'):Lo w' g o:=by
 obtain ⟨a,c,h1,h2⟩:=h;exact ⟨a,c,h1.below hb,h2.below hb⟩
theorem Lo.lt {w:World}{g:Nat}{o:Option (Bool×Nat×Int)}(h:Lo w g o):g<w.heap.size:=by
 obtain ⟨a,c,h1,h2⟩:=h;exact h1.lt
theorem Nt.off12 {lo g:Nat}{w:World}{v:Value}{X:Nat}{n:Bool}{a:Option Addr}{l c:Nat}{e:Int}(h:Nt lo w v X) (D:Dk w g n (.slice a l c) e) (x y z:Value):Nt lo (st3 w g x y z) v X:=by
 refine h.off (Zd5 g w x y z) ?_
 rcases h.2 with ⟨rfl,_⟩|⟨g',cap,cur,rfl,_,hg,_⟩
 · simp [Value.ownBlock]
 · intro e'
   obtain rfl:g'=g:=by simpa [Value.ownBlock] using e'
   rw [show w.heap[g']?=_ from D] at hg
   simp at hg
theorem Lo.new {w:World}{o:Option (Bool×Nat×Int)}{a:Option Addr}{c:Nat}(hN:Nt 0 w (.slice a (ws (dX o)).length c) (dX o)):Lo (w.alloc (Obj.cells #[.bool (dN o),.slice a (ws (dX o)).length c,.int .i64 (dE o)] 62)) w.heap.size o :=
 ⟨a,c,Dk.new _ _ _ _,hN.below (Za _ _)⟩
abbrev o00:Option (Bool×Nat×Int):=some (false,0,0)
theorem Zby:(ws (dX o00)).length=0:=by simp [dX,Zj]
theorem Lo.zero (w:World):Lo (w.alloc (Obj.cells #[.bool false,.slice none 0 0,.int .i64 0] 62)) w.heap.size o00:=by
 refine ⟨none,0,?_,?_⟩
 · rw [Zby];exact Dk.new _ _ _ _
 · rw [Zby];exact Nt.nil _ _
theorem Zmi {B g:Nat}{a w:World}(h:Below B a w) (hB:B≤w.heap.size) (hg:B≤g) (x y z:Value):Below B a (st3 w g x y z):=But.below h (Zd5 g w x y z) hB hg
theorem Fm.er {o:Option (Bool×Nat×Int)}(h:Fm o):erS o=0:=by
 obtain ⟨B,x,h⟩:=h;obtain ⟨n,X,e,rfl,_⟩:=h.ex;rfl
theorem Fm.a12 {o:Option (Bool×Nat×Int)}{w:World}{a:Option Addr}{c:Nat}(F:Fm o) (N:Nt 0 w (.slice a (ws (dX o)).length c) (dX o)):Arg w a (ws (dX o)).length c (ws (dX o)):=(N.arg' (Nat.le_trans F.len (by decide))).2
theorem Ztl {U:World}{a b:Option Addr}{c d:Nat}{o p q:Option (Bool×Nat×Int)}(F:Fm o) (G:Fm p) (N1:Nt 0 U (.slice a (ws (dX o)).length c) (dX o)) (N2:Nt 0 U (.slice b (ws (dX p)).length d) (dX p)) (hT:Tab U) (h:mulD o p=q) (H:Fm q) :
 Calls Tryz.prog 89 #[.agg #[.bool (dN o),.slice a (ws (dX o)).length c,.int .i64 (dE o)],.agg #[.bool (dN p),.slice b (ws (dX p)).length d,.int .i64 (dE p)]] U fun r w'=>(∃ v,r=.returned (.tuple #[.agg #[.bool (dN q),v,.int .i64 (dE q)],.int .i64 0])∧Nt U.heap.size w' v (dX q))∧Below U.heap.size U w':=by
 have:=Zn1 (F.a12 N1) (G.a12 N2) hT (dN o) (dN p) (dE o) (dE p) F.rng.1 F.rng.2 G.rng.1 G.rng.2;rw [Zc,Zc,F.re,G.re,h] at this;unfold DAns at this;rw [H.er] at this;exact this
theorem Zrs {U:World}{a b:Option Addr}{c d:Nat}{o p q:Option (Bool×Nat×Int)}(F:Fm o) (G:Fm p) (N1:Nt 0 U (.slice a (ws (dX o)).length c) (dX o)) (N2:Nt 0 U (.slice b (ws (dX p)).length d) (dX p)) (hT:Tab U) (h:addD o p=q) (H:Fm q) :
 Calls Tryz.prog 88 #[.agg #[.bool (dN o),.slice a (ws (dX o)).length c,.int .i64 (dE o)],.agg #[.bool (dN p),.slice b (ws (dX p)).length d,.int .i64 (dE p)]] U fun r w'=>(∃ v,r=.returned (.tuple #[.agg #[.bool (dN q),v,.int .i64 (dE q)],.int .i64 0])∧Nt U.heap.size w' v (dX q))∧Below U.heap.size U w':=by
 have:=Zgd (F.a12 N1) (G.a12 N2) hT (dN o) (dN p) (dE o) (dE p) F.rng.1 F.rng.2 G.rng.1 G.rng.2;rw [Zc,Zc,F.re,G.re,h] at this;unfold DAns at this;rw [H.er] at this;exact this
theorem Lo.shape {w:World}{lo:Nat}{v:Value}{q:Option (Bool×Nat×Int)}(H:Fm q) (h:Nt lo w v (dX q)):∃ a c,v=.slice a (ws (dX q)).length c∧Nt 0 w v (dX q):=by
 obtain ⟨a,c,rfl,_⟩:=h.arg (Nat.le_trans H.len (by decide))
 exact ⟨a,c,rfl,h.mono (Nat.zero_le _)⟩
end
section
open Go.RowKit
theorem Zen (x y c:Int) (hc:0<c):cmpZ (x*c) (y*c)=cmpZ x y:=by
 unfold cmpZ;have h1:x*c<y*c↔x<y:=⟨fun h=>Int.lt_of_mul_lt_mul_right h (Int.le_of_lt hc),fun h=>Int.mul_lt_mul_of_pos_right h hc⟩
 have h2:y*c<x*c↔y<x:=⟨fun h=>Int.lt_of_mul_lt_mul_right h (Int.le_of_lt hc),fun h=>Int.mul_lt_mul_of_pos_right h hc⟩
 simp only [h1,h2]
theorem Ztm {n:Bool}{X:Nat}{e:Int}(F:Frm n X e) (B:Int):Fv B (some (n,X,e)) (zv B (n,X,e)):=⟨n,X,e,rfl,F,rfl⟩
end
section
open Go.RowKit Go.Shelf J
attribute [local go_sem] Oper.semAt_some
def oW (x:Nat):Option (Bool×Nat×Int):=fo8 (fvW x)
end
section
open Go.RowKit
theorem Iv.fm {o:Option (Bool×Nat×Int)}{a b:Int}(h:Iv o a b):Fm o:=by
 obtain ⟨n,X,e,rfl,F,_⟩:=h;exact ⟨0,_,Ztm F 0⟩
theorem rebase {o:Option (Bool×Nat×Int)}{B x:Int}(h:Fv B o x) (hB:B≤-1048576) (D:Int) (hD:D≤0):Fv (B+D) o (x*((2^(0-D).toNat:Nat):Int)):=by
 obtain ⟨n',X',e',hx,F',hz⟩:=h.ex;refine ⟨n',X',e',hx,F',?_⟩;rw [←hz];unfold zv;simp only;rw [Int.mul_assoc,←Int.natCast_mul,Nat.mul_assoc,←Nat.pow_add];have:=F'.down;rw [show (e'-(B+D)).toNat=(e'-B).toNat+(0-D).toNat by omega]
end
section
open Go.RowKit J
def EK:Nat:=1048576
theorem exP (a:Nat):∃ u:Nat,u=2^a:=⟨_,rfl⟩
noncomputable def MM:Nat:=Classical.choose (exP EK)
theorem Ztz:MM=2^EK:=Classical.choose_spec (exP EK)
theorem Zug:0<MM:=by rw [Ztz];exact Nat.two_pow_pos _
theorem Fm.sm {o:Option (Bool×Nat×Int)}(h:Fm o):o.isSome=true:=by
 obtain ⟨B,x,h⟩:=h;obtain ⟨n,X,e,rfl,_⟩:=h.ex;rfl
theorem Fm.val {o:Option (Bool×Nat×Int)}(h:Fm o):Fv (-1048576) o (valO o):=fvO h.re h.sm
theorem Fv.uniq {B x y:Int}{o:Option (Bool×Nat×Int)}(h1:Fv B o x) (h2:Fv B o y):x=y:=by
 obtain ⟨n,X,e,ho,_,hz⟩:=h1.ex;obtain ⟨n',X',e',ho',_,hz'⟩:=h2.ex;rw [ho] at ho'
 cases ho'
 exact hz.symm.trans hz'
theorem Zrt {o p:Option (Bool×Nat×Int)}(F:Fm o) (G:Fm p) (H:Fm (mulD o p)):valO (mulD o p)*(MM:Int)=valO o*valO p:=by
 have h1:=Fv.mul (by decide) (by decide) F.val G.val H.sm
 have h2:=rebase H.val (by decide) (-1048576) (by decide)
 rw [show ((0:Int) - -1048576).toNat=EK from rfl,←Ztz] at h2
 exact (h1.uniq h2).symm
theorem Zru {o p:Option (Bool×Nat×Int)}(F:Fm o) (G:Fm p) (H:Fm (addD o p)):valO (addD o p)=valO o+valO p :=
 H.val.uniq (Fv.add (by decide) F.val G.val H.sm)
theorem Zc2 {o p:Option (Bool×Nat×Int)}(F:Fm o) (G:Fm p) (h:valO o=valO p):o=p:=by
 obtain ⟨h1,h2,h3⟩:=Fv.same (by decide) F.val G.val h
 obtain ⟨n,X,e,rfl,_⟩:=F.val.ex;obtain ⟨m,Y,f,rfl,_⟩:=G.val.ex;have h1:n=m:=h1;have h2:X=Y:=h2;have h3:e=f:=h3;rw [h1,h2,h3]
theorem Ztn {n:Bool}{X:Nat}{e:Int}(h:Fm (mkS n X e)) (he:-1048576≤e) (k:Nat) (hk:(e+1048576).toNat=k):valO (mkS n X e)=sg1 n*((X*2^k:Nat):Int):=by
 obtain ⟨⟨n',Y,f⟩,ho⟩:=Option.isSome_iff_exists.1 h.sm;have:=Yu ho (-1048576) (.inr he);rw [show (e - -1048576).toNat=k by rw [←hk];congr 1] at this
 rw [←this,ho];rfl
theorem Zil (V:Int) (K:Nat):sg1 (decide (V<0))*((V.natAbs*K:Nat):Int)=V*(K:Int):=by
 rw [Int.natCast_mul,←Int.mul_assoc]
 congr 1
 unfold sg1
 by_cases h:V<0
 · rw [decide_eq_true h,if_pos rfl];omega
 · rw [decide_eq_false h,if_neg (by decide)];omega
theorem Zuh (V:Int) (m:Nat) (hm:m≤100000) (hV:V.natAbs<2^m):Iv (exV V) (-2148) ((m:Int)-2148):=by
 unfold exV;refine Zfc _ _ _ _ _ (.inr ⟨by omega,?_⟩) (by omega) (by omega) (by omega)
 have:=Z2 hV;omega
theorem Zui (V:Int) (m:Nat) (hm:m≤100000) (hV:V.natAbs<2^m):Fm (exV V):=(Zuh V m hm hV).fm
def Bd (m:Nat) (V:Int):Prop:=V.natAbs≤2^m
theorem Bd.mono {m k:Nat}{V:Int}(h:Bd m V) (hk:m≤k):Bd k V:=Nat.le_trans h (Nat.pow_le_pow_right (by decide) hk)
theorem Bd.lt {m:Nat}{V:Int}(h:Bd m V):V.natAbs<2^(m+1):=by
 unfold Bd at h;rw [Nat.pow_succ];have:=Nat.two_pow_pos m;omega
theorem Bd.mul {a b:Nat}{V W:Int}(h:Bd a V) (k:Bd b W):Bd (a+b) (V*W):=by
 unfold Bd at *;rw [Int.natAbs_mul,Nat.pow_add];exact Nat.mul_le_mul h k
theorem Bd.add {m:Nat}{V W:Int}(h:Bd m V) (k:Bd m W):Bd (m+1) (V+W):=by
 unfold Bd at *;rw [Nat.pow_succ];omega
theorem Bd.neg {m:Nat}{V:Int}(h:Bd m V):Bd m (-V):=by
 unfold Bd at *;rw [Int.natAbs_neg];exact h
theorem Bd.sub {m:Nat}{V W:Int}(h:Bd m V) (k:Bd m W):Bd (m+1) (V-W):=by
 rw [Int.sub_eq_add_neg];exact h.add k.neg
theorem Bd.nat {n k:Nat}(h:n≤2^k):Bd k (n:Int):=h
def gV (u:Nat) (V:Int):Option (Bool×Nat×Int):=mkS (decide (V<0)) V.natAbs (-(u:Int))
theorem Zmq {u m:Nat}{V:Int}(hu:u≤100000) (hm:m≤99999) (hV:Bd m V):Iv (gV u V) (-(u:Int)) (((m+1:Nat):Int)-(u:Int)):=by
 unfold gV;refine Zfc _ _ _ _ _ (.inr ⟨by omega,?_⟩) (by omega) (by omega) (by omega)
 have:=Z2 hV.lt;omega
theorem Zhc {u m:Nat}{V:Int}(hu:u≤100000) (hm:m≤99999) (hV:Bd m V):Fm (gV u V):=(Zmq hu hm hV).fm
theorem Za1 {u:Nat}{V:Int}(h:Fm (gV u V)) (hu:u≤1000000) (k:Nat) (hk:k+u=EK):valO (gV u V)=V*((2^k:Nat):Int):=by
 unfold gV at h ⊢;rw [Ztn h (by omega) k (by unfold EK at hk;omega),Zil]
theorem exK (u:Nat) (hu:u≤1000000):∃ k,k+u=EK:=⟨EK-u,by unfold EK;omega⟩
theorem Zuj {u v a b:Nat}{V W:Int}(hu:u≤50000) (hv:v≤50000) (ha:a≤40000) (hb:b≤40000) (h1:Bd a V) (h2:Bd b W):mulD (gV u V) (gV v W)=gV (u+v) (V*W):=by
 have F:=Zmq (u:=u) (by omega) (by omega) h1
 have G:=Zmq (u:=v) (by omega) (by omega) h2
 have hF:=(F.mul G (by omega) (by omega) (by omega)).fm
 have hG:=Zhc (u:=u+v) (by omega) (by omega) (h1.mul h2)
 refine Zc2 hF hG ?_;obtain ⟨k1,e1⟩:=exK u (by omega)
 obtain ⟨k2,e2⟩:=exK v (by omega)
 obtain ⟨k3,e3⟩:=exK (u+v) (by omega)
 have h:=Zrt F.fm G.fm hF;rw [Za1 F.fm (by omega) k1 e1,Za1 G.fm (by omega) k2 e2] at h
 rw [Za1 hG (by omega) k3 e3]
 have hM:=Zug;refine Int.eq_of_mul_eq_mul_right (a:=(MM:Int)) (by omega) (h.trans ?_)
 have e:((2^k1:Nat):Int)*((2^k2:Nat):Int)=((2^k3:Nat):Int)*(MM:Int):=by
  rw [←Int.natCast_mul,←Int.natCast_mul,Ztz,←Nat.pow_add,←Nat.pow_add,show k1+k2=k3+EK by omega]
 rw [Int.mul_assoc (V*W),←e,Int.mul_assoc,Int.mul_assoc,Int.mul_left_comm W]
theorem Zsf {u m:Nat}{V W:Int}(hu:u≤100000) (hm:m≤90000) (h1:Bd m V) (h2:Bd m W):addD (gV u V) (gV u W)=gV u (V+W):=by
 have F:=Zmq (u:=u) (by omega) (by omega) h1
 have G:=Zmq (u:=u) (by omega) (by omega) h2
 have hF:=(F.add G (by omega) (by omega) (by omega)).fm
 have hG:=Zhc (u:=u) (by omega) (by omega) (h1.add h2)
 refine Zc2 hF hG ?_;obtain ⟨k1,e1⟩:=exK u (by omega)
 rw [Zru F.fm G.fm hF,Za1 F.fm (by omega) k1 e1,Za1 G.fm (by omega) k1 e1,Za1 hG (by omega) k1 e1,Int.add_mul]
theorem Zuk (u:Nat) (W:Int):negO (gV u W)=gV u (-W):=by
 unfold gV;rw [Zov,Int.natAbs_neg]
 by_cases h:W=0
 · subst h;rw [Int.natAbs_zero,Z4,Z4]
 · congr 1
   by_cases h1:W<0
   · rw [decide_eq_true h1,decide_eq_false (by omega)];rfl
   · rw [decide_eq_false h1,decide_eq_true (by omega)];rfl
theorem Zul {u m:Nat}{V W:Int}(hu:u≤100000) (hm:m≤90000) (h1:Bd m V) (h2:Bd m W):addD (gV u V) (mkS (!dN (gV u W)) (dX (gV u W)) (dE (gV u W)))=gV u (V-W):=by
 rw [Zga (Zhc (u:=u) (by omega) (by omega) h2).sm,Zuk,Zsf hu hm h1 h2.neg,←Int.sub_eq_add_neg]
theorem Zbj (u:Nat):gV u 0=o00:=Z4 _ _
theorem Zto {u m:Nat}{V:Int}(hu:u≤100000) (hm:m≤90000) (h:Bd m V):(dX (gV u V)=0↔V=0)∧(dN (gV u V)=true↔V<0):=by
 have F:=Zhc (u:=u) hu (by omega) h
 obtain ⟨k,e⟩:=exK u (by omega)
 have hv:=F.val;rw [Za1 F (by omega) k e] at hv
 have hp:(0:Int)<((2^k:Nat):Int):=by have:=Nat.two_pow_pos k;omega
 refine ⟨hv.zero_iff.trans ?_,hv.neg_iff.trans ?_⟩
 · constructor
   · intro q
     rcases Int.mul_eq_zero.1 q with q|q
     · exact q
     · omega
   · rintro rfl;rw [Int.zero_mul]
 · constructor
   · intro q
     rcases Int.lt_or_le V 0 with r|r
     · exact r
     · have:=Int.mul_nonneg r (Int.le_of_lt hp);omega
   · intro q;exact Int.mul_neg_of_neg_of_pos q hp
theorem Yr {x:Nat}(hx:x<18446744073709551616) (fx:finW x):Bd 2098 (fvW x):=by
 obtain ⟨m,hm⟩:∃ m,m=2098:=⟨_,rfl⟩;have h:Bd m (fvW x):=Nat.le_of_lt (Zo6 hx fx m hm);rw [hm] at h;exact h
attribute [irreducible] Bd
end
section
open Go.RowKit
open Go.Proofs.YtblkpkgebigojaaGreatDoor.B (f64bits f64frombits bw)
attribute [local go_sem] f64bits f64frombits
def kd (b:Nat):Nat :=
 if 9218868437227405312<b%9223372036854775808 then 5
 else if b%9223372036854775808=9218868437227405312 then (if b/9223372036854775808=1 then 4 else 3)
 else if b%9223372036854775808=0 then (if b/9223372036854775808=1 then 1 else 2)
 else 0
def kp (k:Nat):Nat:=if k=5 then 0 else if k=3 then 1 else if k=4 then 2 else if k=1 then 3 else if k=2 then 4 else 5
theorem Zum (s:Bool) (e f:Nat) (he:e<2048) (hf:f<4503599627370496):kd (bw s e f)=if e=2047 then (if f=0 then (if s then 4 else 3) else 5) else if e=0∧f=0 then (if s then 1 else 2) else 0:=by
 unfold kd bw;have h1:(s.toNat*9223372036854775808+e*4503599627370496+f)%9223372036854775808=e*4503599627370496+f:=by cases s <;> simp only [Bool.toNat_true,Bool.toNat_false] <;> omega
 have h2:(s.toNat*9223372036854775808+e*4503599627370496+f)/9223372036854775808=s.toNat:=by cases s <;> simp only [Bool.toNat_true,Bool.toNat_false] <;> omega
 rw [h1,h2]
 by_cases he2:e=2047
 · subst he2
   rw [if_pos rfl]
   by_cases hf0:f=0
   · subst hf0;cases s <;> simp
   · rw [if_pos (by omega),if_neg hf0]
 · rw [if_neg he2,if_neg (by omega),if_neg (by omega)]
   by_cases h0:e=0∧f=0
   · obtain ⟨rfl,rfl⟩:=h0;cases s <;> simp
   · rw [if_neg (by omega),if_neg h0]
theorem Zct (neg:Bool) (a b:Int) (w:World):Calls Tryz.prog 190 #[.bool neg,.int .i64 a,.int .i64 b] w fun r w'=>r=.returned (.int .i64 (if neg then a else b))∧w'=w:=by
 cases neg <;>
 · go_enter Tryz.func190,Tryz.ntmps190
   go_wp2;go_ret;exact ⟨rfl,rfl⟩
theorem Zop (b:Nat) (hb:b<18446744073709551616) (w:World):Calls Tryz.prog 146 #[.float .f64 b] w fun r w'=>r=.returned (.int .i64 (kp (kd b):Nat))∧Below w.heap.size w w':=by
 obtain ⟨s,e,f,he,hf,rfl⟩:=B.bw_of b hb;rw [Zum s e f he hf];have H:=hid (B.Split_any s e f he hf);obtain ⟨x1,hx1⟩:∃ x,B.xp e=x:=⟨_,rfl⟩;obtain ⟨x2,hx2⟩:∃ x,B.fr e f=x:=⟨_,rfl⟩;rw [hx1,hx2] at H;clear hx1 hx2 hb
 by_cases he2:e=2047
 · subst he2
   by_cases hf0:f=0
   · subst hf0
     have hc:B.cls 2047 0=3:=by unfold B.cls;rw [if_pos rfl,if_pos rfl]
     have hg:B.ng s 2047 0=s:=by unfold B.ng;rw [if_neg (by simp)]
     rw [hc,hg] at H;rw [if_pos rfl,if_pos rfl];have HS:=hid (Zct s 2 1);obtain ⟨x,hx⟩:∃ x:Int,(if s then 2 else 1)=x:=⟨_,rfl⟩
     rw [hx] at HS;have hk:((kp (if s then 4 else 3):Nat):Int)=x:=by cases s <;> (subst hx;rfl)
     rw [hk];clear hc hg hx hk;go_enter Tryz.func146,Tryz.ntmps146
     go_wp2_with fail
     refine (H.out _).mono ?_;rintro r w1 ⟨rfl,hb1⟩;have HB:=qsd hb1;have hz:=hb1.size;clear hb1
     go_wp2_with fail
     refine (HS.out _).mono ?_;rintro r w2 ⟨rfl,rfl⟩;go_wp2;go_ret;exact ⟨rfl,(HB.out.alloc hz _)⟩
   · have hc:B.cls 2047 f=4:=by unfold B.cls;rw [if_pos rfl,if_neg hf0]
     rw [hc] at H;rw [if_pos rfl,if_neg hf0];obtain ⟨x3,hx3⟩:∃ x,B.ng s 2047 f=x:=⟨_,rfl⟩;rw [hx3] at H;clear hc hx3;go_enter Tryz.func146,Tryz.ntmps146
     go_wp2_with fail
     refine (H.out _).mono ?_;rintro r w1 ⟨rfl,hb1⟩;have HB:=qsd hb1;have hz:=hb1.size;clear hb1;go_wp2;go_ret;exact ⟨rfl,(HB.out.alloc hz _)⟩
 · rw [if_neg he2]
   have hg:B.ng s e f=s:=by unfold B.ng;rw [if_neg (fun h=>he2 h.1)]
   rw [hg] at H
   by_cases h0:e=0∧f=0
   · obtain ⟨rfl,rfl⟩:=h0
     have hc:B.cls 0 0=0:=by unfold B.cls;rw [if_neg (by omega),if_pos rfl,if_pos rfl]
     rw [hc] at H;rw [if_pos ⟨rfl,rfl⟩];have HS:=hid (Zct s 3 4);obtain ⟨x,hx⟩:∃ x:Int,(if s then 3 else 4)=x:=⟨_,rfl⟩
     rw [hx] at HS;have hk:((kp (if s then 1 else 2):Nat):Int)=x:=by cases s <;> (subst hx;rfl)
     rw [hk];clear hc hg hx hk;go_enter Tryz.func146,Tryz.ntmps146
     go_wp2_with fail
     refine (H.out _).mono ?_;rintro r w1 ⟨rfl,hb1⟩;have HB:=qsd hb1;have hz:=hb1.size;clear hb1
     go_wp2_with fail
     refine (HS.out _).mono ?_;rintro r w2 ⟨rfl,rfl⟩;go_wp2;go_ret;exact ⟨rfl,(HB.out.alloc hz _)⟩
   · rw [if_neg h0]
     obtain ⟨c,hc,h1,h2,h3⟩:∃ c:Int,B.cls e f=c∧(c==4)=false∧(c==3)=false∧(c==0)=false:=by
      unfold B.cls;rw [if_neg he2]
      by_cases he0:e=0
      · rw [if_pos he0,if_neg (fun h=>h0 ⟨he0,h⟩)];exact ⟨_,rfl,by decide,by decide,by decide⟩
      · rw [if_neg he0];exact ⟨_,rfl,by decide,by decide,by decide⟩
     rw [hc] at H;clear hc hg;go_enter Tryz.func146,Tryz.ntmps146
     go_wp2_with fail
     refine (H.out _).mono ?_;rintro r w1 ⟨rfl,hb1⟩;have HB:=qsd hb1;have hz:=hb1.size;clear hb1;go_wp2;go_ret;exact ⟨rfl,(HB.out.alloc hz _)⟩
end
section
open Go.RowKit
theorem Zu8 (x:Nat) (hx:Wd x∧finW x) (w:World) :
 Calls Tryz.prog 55 #[.float .f64 x] w fun r w'=>(∃ v,r=.returned (.tuple #[.agg #[.bool (dN (fo8 (fvW x))),v,.int .i64 (dE (fo8 (fvW x)))],.int .i64 0])∧Nt w.heap.size w' v (dX (fo8 (fvW x))))∧Below w.heap.size w w':=by
 obtain ⟨h1,h2,h3,_⟩:=Zi3 (negW x) (magW x) (Nat.le_of_lt hx.2);have:=Znd (negW x) (magW x/4503599627370496) (magW x%4503599627370496) h2 h3 w;rw [←h1,←Zr8 x hx.1] at this;refine this.mono ?_;rintro r w' ⟨⟨v,rfl,hN⟩,hb⟩;have e:=Zo7 hx.1 hx.2;unfold ofK at e;rw [e] at hN ⊢;have he:ofE (magW x/4503599627370496)=0:=by unfold ofE;rw [if_neg (by have:=hx.2;omega)]
 rw [he];exact ⟨⟨v,rfl,hN⟩,hb⟩
section
attribute [local go_sem] B.f64bits B.f64frombits
end
end
section
open Go.RowKit J
theorem Fm.two {o:Option (Bool×Nat×Int)}(h:Fm o):(ws (dX o)).length≤2000000:=Nat.le_trans h.len (by decide)
theorem Ztp {U:World}{a b:Option Addr}{c d:Nat}{o p q:Option (Bool×Nat×Int)}(F:Fm o) (G:Fm p) (N1:Nt 0 U (.slice a (ws (dX o)).length c) (dX o)) (N2:Nt 0 U (.slice b (ws (dX p)).length d) (dX p)) (h:mulD o p=q) (H:Fm q) :
 Calls Tryz.prog 80 #[.agg #[.bool (dN o),.slice a (ws (dX o)).length c,.int .i64 (dE o)],.agg #[.bool (dN p),.slice b (ws (dX p)).length d,.int .i64 (dE p)]] U fun r w'=>(∃ v,r=.returned (.tuple #[.agg #[.bool (dN q),v,.int .i64 (dE q)],.int .i64 0])∧Nt U.heap.size w' v (dX q))∧Below U.heap.size U w':=by
 have:=Zlz (F.a12 N1) (G.a12 N2) F.two G.two (dN o) (dN p) (dE o) (dE p) F.rng.1 F.rng.2 G.rng.1 G.rng.2;rw [Zc,Zc,F.re,G.re,h] at this;unfold DAns at this;rw [H.er] at this;exact this
theorem Ztq {U:World}{a b:Option Addr}{c d:Nat}{o p q:Option (Bool×Nat×Int)}(F:Fm o) (G:Fm p) (N1:Nt 0 U (.slice a (ws (dX o)).length c) (dX o)) (N2:Nt 0 U (.slice b (ws (dX p)).length d) (dX p)) (h:addD o p=q) (H:Fm q) :
 Calls Tryz.prog 93 #[.agg #[.bool (dN o),.slice a (ws (dX o)).length c,.int .i64 (dE o)],.agg #[.bool (dN p),.slice b (ws (dX p)).length d,.int .i64 (dE p)]] U fun r w'=>(∃ v,r=.returned (.tuple #[.agg #[.bool (dN q),v,.int .i64 (dE q)],.int .i64 0])∧Nt U.heap.size w' v (dX q))∧Below U.heap.size U w':=by
 have:=Zdj (F.a12 N1) (G.a12 N2) F.two G.two (dN o) (dN p) (dE o) (dE p) F.rng.1 F.rng.2 G.rng.1 G.rng.2;rw [Zc,Zc,F.re,G.re,h] at this;unfold DAns at this;rw [H.er] at this;exact this
theorem Zph (x:Nat) (hx:x<18446744073709551616) (fx:finW x) (w:World) :
 Calls Tryz.prog 55 #[.float .f64 x] w fun r w'=>(∃ v,r=.returned (.tuple #[.agg #[.bool (dN (oW x)),v,.int .i64 (dE (oW x))],.int .i64 0])∧Nt w.heap.size w' v (dX (oW x)))∧Below w.heap.size w w':=Zu8 x ⟨hx,fx⟩ w
end
section
open Go Go.RowKit J
theorem Ztr:∃ d:TypeDesc,Tryz.prog.underlying 62=some d∧d.isRow=true:=by
 have h:(Tryz.prog.underlying 62).any (·.isRow)=true:=by kernel_rfl
 cases hd:Tryz.prog.underlying 62 with
 | none=>rw [hd] at h;cases h
 | some d=>rw [hd] at h;exact ⟨d,rfl,h⟩
theorem Zrv:(Tryz.prog.info? 62).map (·.size)=some 3:=by kernel_rfl
theorem Zoq {fn:Func}{p:Tmp}(h:fn.results=#[.cell p 62]) (tmps:Array Value) (W:World) (g:Nat) (n:Bool) (v:Value) (e:Int) (hp:tmps.getD p undef=.pointer (some ⟨g,0,none⟩)) (hD:Dk W g n v e) :
 (results fn tmps).run Tryz.prog W=.ok (.agg #[.bool n,v,.int .i64 e]) W:=by
 obtain ⟨d,h1,h2⟩:=Ztr
 cases d <;> first
  | exact results_cell_row (P:=Tryz.prog) h tmps W g 62 _ _ _ hp hD h1 rfl (by rw [Zrv];rfl)
  | exact absurd h2 (by simp [TypeDesc.isRow])
theorem Za2 {fn:Func}{p:Tmp}(hfn:fn.results=#[.cell p 62]) {w base:World}{tmps:Array Value}{o q:Option (Bool×Nat×Int)}{a:Option Addr}{c g:Nat}(h2:tmps.getD p undef=.pointer (some ⟨g,0,none⟩))
 (hL:Lo base g q) (hbw:Below w.heap.size w base) (hg:w.heap.size≤g) (hN:Nt 0 base (.slice a (ws (dX o)).length c) (dX o)) :
 bodyPost Tryz.prog fn (fun r w'=>DVal 0 w' r o∧Below w.heap.size w w') .ret ⟨tmps,[]⟩
  (((base.setCell ⟨g,0,none⟩ (.bool (dN o))).setCell ⟨g,1,none⟩ (.slice a (ws (dX o)).length c)).setCell ⟨g,2,none⟩ (.int .i64 (dE o))):=by
 obtain ⟨a0,c0,hD,hM⟩:=hL;exact bodyPost_ret (v:=.agg #[.bool (dN o),.slice a (ws (dX o)).length c,.int .i64 (dE o)]) (Zoq hfn _ _ g _ _ _ h2 (hD.set _ _ _)) rfl ⟨⟨_,rfl,hN.off12 hD _ _ _⟩,Zmi hbw hbw.size hg _ _ _⟩
theorem DVal.mono14 {w:World}{r:Ending}{lo:Nat}{q:Option (Bool×Nat×Int)}(h:DVal lo w r q):DVal 0 w r q:=by
 obtain ⟨v,rfl,hN⟩:=h;exact ⟨v,rfl,hN.mono (Nat.zero_le _)⟩
theorem Zun (n:Int) (w:World) (hT:Tab w) (h0:-9223372036854775808≤n) (h1:n≤9223372036854775807) :
 Calls Tryz.prog 74 #[.int .i64 n] w fun r w'=>DVal 0 w' r (gV 0 n)∧Below w.heap.size w w' :=
 (Zp3 n w hT h0 h1).mono fun r w' h=>⟨h.1.mono14,h.2⟩
theorem Zts (n:Int) (w:World) (h0:-9223372036854775808≤n) (h1:n≤9223372036854775807) :
 Calls Tryz.prog 50 #[.int .i64 n] w fun r w'=>DVal 0 w' r (gV 0 n)∧Below w.heap.size w w' :=
 (Zne n w h0 h1).mono fun r w' h=>⟨h.1.mono14,h.2⟩
theorem Zeo (w:World) (a b:Option Addr) (ca cb:Nat) (o p q:Option (Bool×Nat×Int)) (F:Fm q)
 (HC:Hid (∀ u:World,Below w.heap.size w u→Calls Tryz.prog 89 #[.agg #[.bool (dN o),.slice a (ws (dX o)).length ca,.int .i64 (dE o)],.agg #[.bool (dN p),.slice b (ws (dX p)).length cb,.int .i64 (dE p)]] u fun r w'=>(∃ v,r=.returned (.tuple #[.agg #[.bool (dN q),v,.int .i64 (dE q)],.int .i64 0])∧Nt u.heap.size w' v (dX q))∧Below u.heap.size u w')) :
 Calls Tryz.prog 53 #[.agg #[.bool (dN o),.slice a (ws (dX o)).length ca,.int .i64 (dE o)],.agg #[.bool (dN p),.slice b (ws (dX p)).length cb,.int .i64 (dE p)]] w fun r w'=>DVal 0 w' r q∧Below w.heap.size w w':=by
 obtain ⟨W,hW⟩:∃ W,W=((w.alloc (Obj.cells #[.bool (dN o),.slice a (ws (dX o)).length ca,.int .i64 (dE o)] 62)).alloc (Obj.cells #[.bool (dN p),.slice b (ws (dX p)).length cb,.int .i64 (dE p)] 62)).alloc (Obj.cells #[.bool false,.slice none 0 0,.int .i64 0] 62):=⟨_,rfl⟩
 have H0:Aside (Dk W w.heap.size (dN o) (.slice a (ws (dX o)).length ca) (dE o)∧Dk W (w.heap.size+1) (dN p) (.slice b (ws (dX p)).length cb) (dE p)∧Lo W (w.heap.size+2) o00∧Below w.heap.size w W):=by
  subst hW;have z1:=Dk.new (w.alloc (Obj.cells #[.bool (dN o),.slice a (ws (dX o)).length ca,.int .i64 (dE o)] 62)) (dN p) (.slice b (ws (dX p)).length cb) (dE p);have z2:=Lo.zero ((w.alloc (Obj.cells #[.bool (dN o),.slice a (ws (dX o)).length ca,.int .i64 (dE o)] 62)).alloc (Obj.cells #[.bool (dN p),.slice b (ws (dX p)).length cb,.int .i64 (dE p)] 62));rw [World.size_alloc] at z1;rw [World.size_alloc,World.size_alloc] at z2;exact ⟨((Dk.new _ _ _ _).below (Za _ _)).below (Za _ _),z1.below (Za _ _),z2,((Za _ _).trans ((Za _ _).mono (by simp))).trans ((Za _ _).mono (by simp;omega))⟩
 have HW:=qsd hW;have HC1:=hid (HC.out W H0.out.2.2.2);have FF:=qsd F;clear hW HC F;go_enter Tryz.func53,Tryz.ntmps53
 go_upto_region 1 with fail
 rw [←HW.out];clear HW;obtain ⟨x0,x1,x2,xf0,xf1,xf2⟩:=H0.out.1.facts;obtain ⟨y0,y1,y2,yf0,yf1,yf2⟩:=H0.out.2.1.facts
 go_wp2_with fail
 refine HC1.out.mono ?_;rintro r u ⟨⟨v,rfl,hN⟩,hb⟩;obtain ⟨a1,c1,rfl,hN0⟩:=Lo.shape FF.out hN;obtain ⟨U,hU⟩:∃ U,U=u.alloc (Obj.cells #[.bool (dN q),.slice a1 (ws (dX q)).length c1,.int .i64 (dE q)] 62):=⟨_,rfl⟩
 have H1:Aside (Lo U (w.heap.size+2) o00∧Dk U u.heap.size (dN q) (.slice a1 (ws (dX q)).length c1) (dE q)∧Nt 0 U (.slice a1 (ws (dX q)).length c1) (dX q)∧Below w.heap.size w U):=by
  rw [hU];have b0:=H0.out.2.2.2;exact ⟨(H0.out.2.2.1.below hb).below (Za _ _),Dk.new _ _ _ _,hN0.below (Za _ _),(b0.trans (hb.mono b0.size)).trans ((Za _ _).mono (Nat.le_trans b0.size hb.size))⟩
 obtain ⟨gq,hgq⟩:∃ g,g=u.heap.size:=⟨_,rfl⟩;rw [←hgq] at H1;have HU:=(qsd (ai hU hgq));clear hU hN hN0 hb HC1 H0 x0 x1 x2 xf0 xf1 xf2 y0 y1 y2 yf0 yf1 yf2 hgq
 go_upto_region 2 with fail
 rw [←HU.out.1,←HU.out.2];clear HU;obtain ⟨x0,x1,x2,xf0,xf1,xf2⟩:=H1.out.2.1.facts;obtain ⟨p4,q4,D4,M4⟩:=H1.out.1;obtain ⟨y0,y1,y2,yf0,yf1,yf2⟩:=D4.facts;clear D4 M4;go_wp2;exact Za2 Tryz.results53 rfl H1.out.1 H1.out.2.2.2 (by omega) H1.out.2.2.1
theorem Zf5 (w:World) (a b:Option Addr) (ca cb:Nat) (o p q:Option (Bool×Nat×Int)) (F:Fm q)
 (HC:Hid (∀ u:World,Below w.heap.size w u→Calls Tryz.prog 88 #[.agg #[.bool (dN o),.slice a (ws (dX o)).length ca,.int .i64 (dE o)],.agg #[.bool (dN p),.slice b (ws (dX p)).length cb,.int .i64 (dE p)]] u fun r w'=>(∃ v,r=.returned (.tuple #[.agg #[.bool (dN q),v,.int .i64 (dE q)],.int .i64 0])∧Nt u.heap.size w' v (dX q))∧Below u.heap.size u w')) :
 Calls Tryz.prog 52 #[.agg #[.bool (dN o),.slice a (ws (dX o)).length ca,.int .i64 (dE o)],.agg #[.bool (dN p),.slice b (ws (dX p)).length cb,.int .i64 (dE p)]] w fun r w'=>DVal 0 w' r q∧Below w.heap.size w w':=by
 obtain ⟨W,hW⟩:∃ W,W=((w.alloc (Obj.cells #[.bool (dN o),.slice a (ws (dX o)).length ca,.int .i64 (dE o)] 62)).alloc (Obj.cells #[.bool (dN p),.slice b (ws (dX p)).length cb,.int .i64 (dE p)] 62)).alloc (Obj.cells #[.bool false,.slice none 0 0,.int .i64 0] 62):=⟨_,rfl⟩
 have H0:Aside (Dk W w.heap.size (dN o) (.slice a (ws (dX o)).length ca) (dE o)∧Dk W (w.heap.size+1) (dN p) (.slice b (ws (dX p)).length cb) (dE p)∧Lo W (w.heap.size+2) o00∧Below w.heap.size w W):=by
  subst hW;have z1:=Dk.new (w.alloc (Obj.cells #[.bool (dN o),.slice a (ws (dX o)).length ca,.int .i64 (dE o)] 62)) (dN p) (.slice b (ws (dX p)).length cb) (dE p);have z2:=Lo.zero ((w.alloc (Obj.cells #[.bool (dN o),.slice a (ws (dX o)).length ca,.int .i64 (dE o)] 62)).alloc (Obj.cells #[.bool (dN p),.slice b (ws (dX p)).length cb,.int .i64 (dE p)] 62));rw [World.size_alloc] at z1;rw [World.size_alloc,World.size_alloc] at z2;exact ⟨((Dk.new _ _ _ _).below (Za _ _)).below (Za _ _),z1.below (Za _ _),z2,((Za _ _).trans ((Za _ _).mono (by simp))).trans ((Za _ _).mono (by simp;omega))⟩
 have HW:=qsd hW;have HC1:=hid (HC.out W H0.out.2.2.2);have FF:=qsd F;clear hW HC F;go_enter Tryz.func52,Tryz.ntmps52
 go_upto_region 1 with fail
 rw [←HW.out];clear HW;obtain ⟨x0,x1,x2,xf0,xf1,xf2⟩:=H0.out.1.facts;obtain ⟨y0,y1,y2,yf0,yf1,yf2⟩:=H0.out.2.1.facts
 go_wp2_with fail
 refine HC1.out.mono ?_;rintro r u ⟨⟨v,rfl,hN⟩,hb⟩;obtain ⟨a1,c1,rfl,hN0⟩:=Lo.shape FF.out hN;obtain ⟨U,hU⟩:∃ U,U=u.alloc (Obj.cells #[.bool (dN q),.slice a1 (ws (dX q)).length c1,.int .i64 (dE q)] 62):=⟨_,rfl⟩
 have H1:Aside (Lo U (w.heap.size+2) o00∧Dk U u.heap.size (dN q) (.slice a1 (ws (dX q)).length c1) (dE q)∧Nt 0 U (.slice a1 (ws (dX q)).length c1) (dX q)∧Below w.heap.size w U):=by
  rw [hU];have b0:=H0.out.2.2.2;exact ⟨(H0.out.2.2.1.below hb).below (Za _ _),Dk.new _ _ _ _,hN0.below (Za _ _),(b0.trans (hb.mono b0.size)).trans ((Za _ _).mono (Nat.le_trans b0.size hb.size))⟩
 obtain ⟨gq,hgq⟩:∃ g,g=u.heap.size:=⟨_,rfl⟩;rw [←hgq] at H1;have HU:=(qsd (ai hU hgq));clear hU hN hN0 hb HC1 H0 x0 x1 x2 xf0 xf1 xf2 y0 y1 y2 yf0 yf1 yf2 hgq
 go_upto_region 2 with fail
 rw [←HU.out.1,←HU.out.2];clear HU;obtain ⟨x0,x1,x2,xf0,xf1,xf2⟩:=H1.out.2.1.facts;obtain ⟨p4,q4,D4,M4⟩:=H1.out.1;obtain ⟨y0,y1,y2,yf0,yf1,yf2⟩:=D4.facts;clear D4 M4;go_wp2;exact Za2 Tryz.results52 rfl H1.out.1 H1.out.2.2.2 (by omega) H1.out.2.2.1
theorem Zf6 (w:World) (a b:Option Addr) (ca cb:Nat) (o p q:Option (Bool×Nat×Int)) (F:Fm q)
 (HC:Hid (∀ u:World,Below w.heap.size w u→Calls Tryz.prog 112 #[.agg #[.bool (dN o),.slice a (ws (dX o)).length ca,.int .i64 (dE o)],.agg #[.bool (dN p),.slice b (ws (dX p)).length cb,.int .i64 (dE p)]] u fun r w'=>(∃ v,r=.returned (.tuple #[.agg #[.bool (dN q),v,.int .i64 (dE q)],.int .i64 0])∧Nt u.heap.size w' v (dX q))∧Below u.heap.size u w')) :
 Calls Tryz.prog 76 #[.agg #[.bool (dN o),.slice a (ws (dX o)).length ca,.int .i64 (dE o)],.agg #[.bool (dN p),.slice b (ws (dX p)).length cb,.int .i64 (dE p)]] w fun r w'=>DVal 0 w' r q∧Below w.heap.size w w':=by
 obtain ⟨W,hW⟩:∃ W,W=((w.alloc (Obj.cells #[.bool (dN o),.slice a (ws (dX o)).length ca,.int .i64 (dE o)] 62)).alloc (Obj.cells #[.bool (dN p),.slice b (ws (dX p)).length cb,.int .i64 (dE p)] 62)).alloc (Obj.cells #[.bool false,.slice none 0 0,.int .i64 0] 62):=⟨_,rfl⟩
 have H0:Aside (Dk W w.heap.size (dN o) (.slice a (ws (dX o)).length ca) (dE o)∧Dk W (w.heap.size+1) (dN p) (.slice b (ws (dX p)).length cb) (dE p)∧Lo W (w.heap.size+2) o00∧Below w.heap.size w W):=by
  subst hW;have z1:=Dk.new (w.alloc (Obj.cells #[.bool (dN o),.slice a (ws (dX o)).length ca,.int .i64 (dE o)] 62)) (dN p) (.slice b (ws (dX p)).length cb) (dE p);have z2:=Lo.zero ((w.alloc (Obj.cells #[.bool (dN o),.slice a (ws (dX o)).length ca,.int .i64 (dE o)] 62)).alloc (Obj.cells #[.bool (dN p),.slice b (ws (dX p)).length cb,.int .i64 (dE p)] 62));rw [World.size_alloc] at z1;rw [World.size_alloc,World.size_alloc] at z2;exact ⟨((Dk.new _ _ _ _).below (Za _ _)).below (Za _ _),z1.below (Za _ _),z2,((Za _ _).trans ((Za _ _).mono (by simp))).trans ((Za _ _).mono (by simp;omega))⟩
 have HW:=qsd hW;have HC1:=hid (HC.out W H0.out.2.2.2);have FF:=qsd F;clear hW HC F;go_enter Tryz.func76,Tryz.ntmps76
 go_upto_region 1 with fail
 rw [←HW.out];clear HW;obtain ⟨x0,x1,x2,xf0,xf1,xf2⟩:=H0.out.1.facts;obtain ⟨y0,y1,y2,yf0,yf1,yf2⟩:=H0.out.2.1.facts
 go_wp2_with fail
 refine HC1.out.mono ?_;rintro r u ⟨⟨v,rfl,hN⟩,hb⟩;obtain ⟨a1,c1,rfl,hN0⟩:=Lo.shape FF.out hN;obtain ⟨U,hU⟩:∃ U,U=u.alloc (Obj.cells #[.bool (dN q),.slice a1 (ws (dX q)).length c1,.int .i64 (dE q)] 62):=⟨_,rfl⟩
 have H1:Aside (Lo U (w.heap.size+2) o00∧Dk U u.heap.size (dN q) (.slice a1 (ws (dX q)).length c1) (dE q)∧Nt 0 U (.slice a1 (ws (dX q)).length c1) (dX q)∧Below w.heap.size w U):=by
  rw [hU];have b0:=H0.out.2.2.2;exact ⟨(H0.out.2.2.1.below hb).below (Za _ _),Dk.new _ _ _ _,hN0.below (Za _ _),(b0.trans (hb.mono b0.size)).trans ((Za _ _).mono (Nat.le_trans b0.size hb.size))⟩
 obtain ⟨gq,hgq⟩:∃ g,g=u.heap.size:=⟨_,rfl⟩;rw [←hgq] at H1;have HU:=(qsd (ai hU hgq));clear hU hN hN0 hb HC1 H0 x0 x1 x2 xf0 xf1 xf2 y0 y1 y2 yf0 yf1 yf2 hgq
 go_upto_region 2 with fail
 rw [←HU.out.1,←HU.out.2];clear HU;obtain ⟨x0,x1,x2,xf0,xf1,xf2⟩:=H1.out.2.1.facts;obtain ⟨p4,q4,D4,M4⟩:=H1.out.1;obtain ⟨y0,y1,y2,yf0,yf1,yf2⟩:=D4.facts;clear D4 M4;go_wp2;exact Za2 Tryz.results76 rfl H1.out.1 H1.out.2.2.2 (by omega) H1.out.2.2.1
theorem Zuo {U:World}{a b:Option Addr}{c d:Nat}{o p q:Option (Bool×Nat×Int)}(F:Fm o) (G:Fm p) (N1:Nt 0 U (.slice a (ws (dX o)).length c) (dX o)) (N2:Nt 0 U (.slice b (ws (dX p)).length d) (dX p)) (hT:Tab U) (h:addD o (mkS (!dN p) (dX p) (dE p))=q) (H:Fm q) :
 Calls Tryz.prog 112 #[.agg #[.bool (dN o),.slice a (ws (dX o)).length c,.int .i64 (dE o)],.agg #[.bool (dN p),.slice b (ws (dX p)).length d,.int .i64 (dE p)]] U fun r w'=>(∃ v,r=.returned (.tuple #[.agg #[.bool (dN q),v,.int .i64 (dE q)],.int .i64 0])∧Nt U.heap.size w' v (dX q))∧Below U.heap.size U w':=by
 have:=Zm3 (F.a12 N1) (G.a12 N2) hT (dN o) (dN p) (dE o) (dE p) F.rng.1 F.rng.2 G.rng.1 G.rng.2;rw [Zc,Zc,F.re,h] at this;unfold DAns at this;rw [H.er] at this;exact this
theorem Qe {w:World}{a b:Option Addr}{ca cb:Nat}{o p q:Option (Bool×Nat×Int)}(F:Fm o) (G:Fm p) (H:Fm q) (N1:Nt 0 w (.slice a (ws (dX o)).length ca) (dX o)) (N2:Nt 0 w (.slice b (ws (dX p)).length cb) (dX p)) (hT:Tab w) (h:mulD o p=q) :
 Calls Tryz.prog 53 #[.agg #[.bool (dN o),.slice a (ws (dX o)).length ca,.int .i64 (dE o)],.agg #[.bool (dN p),.slice b (ws (dX p)).length cb,.int .i64 (dE p)]] w fun r w'=>DVal 0 w' r q∧Below w.heap.size w w' :=
 Zeo w a b ca cb o p q H (hid fun u hu=>Ztl F G (N1.below hu) (N2.below hu) (hT.belows hu) h H)
theorem Ztt {w:World}{a b:Option Addr}{ca cb:Nat}{o p q:Option (Bool×Nat×Int)}(F:Fm o) (G:Fm p) (H:Fm q) (N1:Nt 0 w (.slice a (ws (dX o)).length ca) (dX o)) (N2:Nt 0 w (.slice b (ws (dX p)).length cb) (dX p)) (hT:Tab w) (h:addD o p=q) :
 Calls Tryz.prog 52 #[.agg #[.bool (dN o),.slice a (ws (dX o)).length ca,.int .i64 (dE o)],.agg #[.bool (dN p),.slice b (ws (dX p)).length cb,.int .i64 (dE p)]] w fun r w'=>DVal 0 w' r q∧Below w.heap.size w w' :=
 Zf5 w a b ca cb o p q H (hid fun u hu=>Zrs F G (N1.below hu) (N2.below hu) (hT.belows hu) h H)
theorem Zc8 {w:World}{a b:Option Addr}{ca cb:Nat}{o p q:Option (Bool×Nat×Int)}(F:Fm o) (G:Fm p) (H:Fm q) (N1:Nt 0 w (.slice a (ws (dX o)).length ca) (dX o)) (N2:Nt 0 w (.slice b (ws (dX p)).length cb) (dX p)) (hT:Tab w) (h:addD o (mkS (!dN p) (dX p) (dE p))=q) :
 Calls Tryz.prog 76 #[.agg #[.bool (dN o),.slice a (ws (dX o)).length ca,.int .i64 (dE o)],.agg #[.bool (dN p),.slice b (ws (dX p)).length cb,.int .i64 (dE p)]] w fun r w'=>DVal 0 w' r q∧Below w.heap.size w w' :=
 Zf6 w a b ca cb o p q H (hid fun u hu=>Zuo F G (N1.below hu) (N2.below hu) (hT.belows hu) h H)
def zS {α:Type} (f:α→Int):List α→Int
 | []=>0
 | a::l=>f a+zS f l
theorem Ze1 {α:Type}(f:α→Int):∀ (l:List α) (v:Int),l.foldl (fun v x=>v+f x) v=v+zS f l
 | [],v=>by simp [zS]
 | x::l,v=>by rw [List.foldl_cons,Ze1 f l];show _=v+(f x+zS f l);omega
theorem Zc3 {α:Type}{f g:α→Int}:∀ {l:List α},(∀ x ∈ l,f x=g x)→zS f l=zS g l
 | [],_=>rfl
 | x::l,h=>by show f x+zS f l=g x+zS g l;rw [h x List.mem_cons_self,Zc3 fun y hy=>h y (List.mem_cons_of_mem _ hy)]
theorem Zo8 {α:Type}(f:α→Int) (c:Int):∀ l:List α,zS (fun x=>f x*c) l=zS f l*c
 | []=>by simp [zS]
 | x::l=>by show f x*c+zS _ l=(f x+zS f l)*c;rw [Zo8 f c l,Int.add_mul]
theorem Zo9 {α β:Type}(f:β→Int) (g:α→β):∀ l:List α,zS f (l.map g)=zS (fun x=>f (g x)) l
 | []=>rfl
 | x::l=>by show f (g x)+zS f (l.map g)=f (g x)+zS _ l;rw [Zo9 f g l]
theorem Zsg {α:Type}{f:α→Int}{m:Nat}:∀ {l:List α},(∀ x ∈ l,Bd m (f x))→(zS f l).natAbs≤l.length*2^m
 | [],_=>by simp [zS]
 | x::l,h=>by
   have h1:=Zsg (l:=l) fun y hy=>h y (List.mem_cons_of_mem _ hy)
   have h2:=h x List.mem_cons_self;unfold Bd at h2
   show (f x+zS f l).natAbs≤(l.length+1)*2^m
   rw [Nat.succ_mul];omega
theorem Zg9 {α:Type}{f:α→Int}{m:Nat}{l:List α}(h:∀ x ∈ l,Bd m (f x)) (hn:l.length≤65536):Bd (m+16) (zS f l):=by
 have h1:=Zsg h;have h2:l.length*2^m≤65536*2^m:=Nat.mul_le_mul_right _ hn;unfold Bd;rw [Nat.pow_add,Nat.mul_comm (2^m)];exact Nat.le_trans h1 h2
theorem Ztu (k:Nat) (hk:k=1074):fvW 4607182418800017408=((2^k:Nat):Int):=by subst hk;decide +kernel
theorem Zup (k:Nat) (hk:k=1074) {xs:List Nat}(hW:W64 xs) (hf:∀ x ∈ xs,finW x):vS xs=zS fvW xs*((2^k:Nat):Int):=by
 unfold vS;rw [Ze1,Int.zero_add,←Zo8];refine Zc3 fun x hx=>?_
 rw [(Zoz (hW x hx) (by decide) (hf x hx) (by decide)).1,Ztu k hk]
theorem Zrw {u k m:Nat}{V:Int}(hu:u+k≤100000) (hm:m+k≤90000) (hV:Bd m V):gV (u+k) (V*((2^k:Nat):Int))=gV u V:=by
 have F:=Zhc (u:=u+k) hu (m:=m+k) (by omega) (hV.mul (Bd.nat (Nat.le_refl (2^k))))
 have G:=Zhc (u:=u) (by omega) (m:=m) (by omega) hV
 obtain ⟨j1,e1⟩:=exK (u+k) (by omega)
 obtain ⟨j2,e2⟩:=exK u (by omega)
 refine Zc2 F G ?_;rw [Za1 F (by omega) j1 e1,Za1 G (by omega) j2 e2,Int.mul_assoc,←Int.natCast_mul,←Nat.pow_add,show k+j1=j2 by omega]
theorem Za0 {xs:List Nat}(hW:W64 xs) (hf:∀ x ∈ xs,finW x) (hl:xs.length≤65536):Bd 2114 (zS fvW xs):=Zg9 (m:=2098) (fun x hx=>Yr (hW x hx) (hf x hx)) hl
theorem Zu9 (V:Int):exV V=gV 2148 V:=rfl
theorem Zuq {xs:List Nat}(hW:W64 xs) (hf:∀ x ∈ xs,finW x) (hl:xs.length≤65536):exV (vS xs)=gV 1074 (zS fvW xs):=by
 obtain ⟨k,hk⟩:∃ k:Nat,k=1074:=⟨_,rfl⟩;rw [Zup k hk hW hf,Zu9];have:=Zrw (u:=1074) (k:=k) (m:=2114) (by omega) (by omega) (Za0 hW hf hl)
 rw [show 1074+k=2148 by omega] at this
 exact this
theorem Zj0 {fn:Func}{p:Tmp}(hfn:fn.results=#[.cell p 62]) {w base:World}{tmps:Array Value}{o:Option (Bool×Nat×Int)}{v x y z:Value}{lo:Nat}(h2:tmps.getD p undef=.pointer (some ⟨w.heap.size,0,none⟩))
 (hZ:Bl base w.heap.size 62 [x,y,z]) (hbw:Below w.heap.size w base) (hN:Nt lo base v (dX o)) (hlo:w.heap.size<lo) :
 bodyPost Tryz.prog fn (fun r w'=>∃ v,r=.returned (.agg #[.bool (dN o),v,.int .i64 (dE o)])∧Nt w.heap.size w' v (dX o)∧Below w.heap.size w w') .ret ⟨tmps,[]⟩
  (((base.setCell ⟨w.heap.size,0,none⟩ (.bool (dN o))).setCell ⟨w.heap.size,1,none⟩ v).setCell ⟨w.heap.size,2,none⟩ (.int .i64 (dE o))):=by
 have q:Bl (((base.setCell ⟨w.heap.size,0,none⟩ (.bool (dN o))).setCell ⟨w.heap.size,1,none⟩ v).setCell ⟨w.heap.size,2,none⟩ (.int .i64 (dE o))) w.heap.size 62 [.bool (dN o),v,.int .i64 (dE o)]:=((hZ.set 0 _).set 1 _).set 2 _;have hbut:But w.heap.size base (((base.setCell ⟨w.heap.size,0,none⟩ (.bool (dN o))).setCell ⟨w.heap.size,1,none⟩ v).setCell ⟨w.heap.size,2,none⟩ (.int .i64 (dE o))):=(((But.refl _ _).set 0 _).set 1 _).set 2 _;refine bodyPost_ret (v:=.agg #[.bool (dN o),v,.int .i64 (dE o)]) (Qw hfn _ _ w.heap.size [.bool (dN o),v,.int .i64 (dE o)] h2 q Tryz.row_dyad (by rw [Tryz.size_dyad];rfl)) rfl ?_
 exact ⟨v,rfl,(hN.but7 hbut hlo).mono (by omega),But.below hbw hbut hbw.size (Nat.le_refl _)⟩
theorem Zva:∃ k:Nat,k=4238∧HB=2^k:=⟨4238,rfl,Ze7 4238 rfl⟩
theorem Zur {xs:List Nat}(hW:W64 xs) (hl:xs.length≤65536):∃ k:Nat,k=4238∧(vS xs).natAbs<2^k:=by
 obtain ⟨k,hk,e⟩:=Zva;refine ⟨k,hk,?_⟩;rw [←e];have h1:=Zc0 xs hW xs.length (Nat.le_refl _);rw [List.take_length] at h1;have h3:xs.length*QB≤65536*QB:=Nat.mul_le_mul_right _ hl;have h4:=Zj7;have h5:=Ze8;omega
theorem Zus {xs:List Nat}(hW:W64 xs) (hl:xs.length≤65536):Fm (exV (vS xs)):=by
 obtain ⟨k,hk,h⟩:=Zur hW hl;exact Zui _ k (by omega) h
theorem Zor (xs:List Nat) (a:Option Addr) (n c:Nat) (w:World) (hn:n=xs.length) (hF:Fs w.heap.size w a xs) (hW:W64 xs) (hT:Tab w) (hl:n≤65536) :
 Calls Tryz.prog 75 #[.slice a n c] w fun r w'=>∃ v,r=.returned (.agg #[.bool (dN (exV (vS xs))),v,.int .i64 (dE (exV (vS xs)))])∧Nt w.heap.size w' v (dX (exV (vS xs)))∧Below w.heap.size w w':=by
 have HX:=qsd (ai hn (ai hF (ai hW (ai hT hl))));obtain ⟨o,ho⟩:∃ o,o=exV (vS xs):=⟨_,rfl⟩;rw [←ho];have HO:=qsd ho;clear hn hF hW hT ho;obtain ⟨W1,hW1⟩:∃ W,W=w.alloc (.cells #[.bool false,.slice none 0 0,.int .i64 0] 62):=⟨_,rfl⟩
 have H1:Aside (Below w.heap.size w W1∧Bl W1 w.heap.size 62 [.bool false,.slice none 0 0,.int .i64 0]∧W1.heap.size=w.heap.size+1):=by
  subst hW1;exact ⟨Zd _ _,Bl.new _ 62 [_,_,_],by simp⟩
 go_enter Tryz.func75,Tryz.ntmps75
 go_wp2_with fail
 rw [←hW1];clear hW1;refine (Zuw W1).mono ?_;rintro r w2 ⟨rfl,hA,hb2⟩;obtain ⟨g,hg⟩:∃ g,g=W1.heap.size:=⟨_,rfl⟩;rw [←hg] at hA ⊢
 have P2:Aside (Bl w2 w.heap.size 62 [.bool false,.slice none 0 0,.int .i64 0]∧Below w.heap.size w w2∧w.heap.size<g∧Acc7 w2 g 0 ⟨0,0,0,0,0,0⟩) :=
  ⟨H1.out.2.1.below hb2 (by have:=H1.out.2.2;omega),H1.out.1.trans (hb2.mono (by have:=H1.out.2.2;omega)),by have:=H1.out.2.2;omega,hA⟩
 clear hb2 hA hg H1;go_wp2
 go_loopg [9] n (fun gk i wr=>∃ k:Nat,gk+k=n∧i=.int .i64 (k:Nat)∧Aside (Acc7 wr g (vS (xs.take k)) (sS (xs.take k))∧Bl wr w.heap.size 62 [.bool false,.slice none 0 0,.int .i64 0]∧Below w.heap.size w wr))
 case atStart=>exact ⟨0,by omega,by simp,by simpa [vS,sS] using P2.out.2.2.2,P2.out.1,P2.out.2.1⟩
 case round =>
  obtain ⟨k,hgk,rfl,HA⟩:=hrel
  by_cases hk:k<n
  · obtain ⟨b,off,rfl,hc⟩:=HX.out.2.1.at HA.out.2.2 k (by rw [←HX.out.1];exact hk)
    obtain ⟨x,hx⟩:∃ x,x=xs.getD k 0:=⟨_,rfl⟩;rw [←hx] at hc
    have C:Hid (Calls Tryz.prog 111 #[.pointer (some ⟨g,0,none⟩),.float .f64 x] wr (Did g wr (0,vS (xs.take (k+1)),sS (xs.take (k+1))))):=by
     have hk2:k<xs.length:=by rw [←HX.out.1];exact hk
     obtain ⟨p1,p2⟩:=Zo3 xs k (by omega)
     obtain ⟨v1,v2⟩:=Zc0 xs HX.out.2.2.1 k (by omega)
     have hx64:x<18446744073709551616:=by rw [hx];exact HX.out.2.2.1.get k
     have hsm:=Jm x 4607182418800017408 hx64 (by decide)
     have hl:=HX.out.2.2.2.2;have hkq:k*QB≤65536*QB:=Nat.mul_le_mul_right _ (by omega)
     have hQ:=Zj7;have hqp:=Ze8;have C:=Zu7 g (vS (xs.take k)) (sS (xs.take k)) x wr HA.out.1 (p1.ok (by omega)) hx64
     rw [Zo2 _ _ _ _ (by omega) (by omega) (by omega)] at C
     rw [Zjh xs k hk2,Zji xs k hk2,←hx];exact C
    have hkb:k<4611686018427387904:=by have:=HX.out.2.2.2.2;omega
    clear hx
    go_wp2_with fail
    refine (C.out).mono ?_;rintro r w3 ⟨rfl,hA3,hbut⟩;have H3:=qsd (ai hA3 (ai (HA.out.2.1.but hbut (by have:=P2.out.2.2.1;omega)) (But.below HA.out.2.2 hbut HA.out.2.2.size (by have:=P2.out.2.2.1;omega))))
    clear hA3 hbut C;go_wp2
    go_roundg (gk-1)
    case measure=>omega
    case rel=>exact ⟨k+1,by omega,by first | rfl | simp,H3.out⟩
  · obtain rfl:n=k:=by omega
    have hd:decide ((n:Int)<n)=false:=by simp
    have C:Hid (Calls Tryz.prog 96 #[.pointer (some ⟨g,0,none⟩)] wr fun r w'=>∃ v,r=.returned (.agg #[.bool (dN o),v,.int .i64 (dE o)])∧Nt wr.heap.size w' v (dX o)∧Below wr.heap.size wr w'):=by
     have e:xs.take n=xs:=by rw [List.take_of_length_le];rw [←HX.out.1];omega
     have hA:=HA.out.1;rw [e] at hA;rw [HO.out];exact Zo1 g _ _ wr hA (HX.out.2.2.2.1.belows HA.out.2.2)
    have HL:=qsd (HA.out.2.1.lt)
    go_wp2_with fail
    refine (C.out).mono ?_;rintro r w3 ⟨v,rfl,hN,hb3⟩;obtain ⟨a9,c9,rfl,_⟩:=Lo.shape (q:=o) (by rw [HO.out];exact Zus HX.out.2.2.1 (by rw [←HX.out.1];exact HX.out.2.2.2.2)) hN
    have B3:=qsd (ai (HA.out.2.1.below hb3 HL.out) (ai (HA.out.2.2.trans (hb3.mono HA.out.2.2.size)) hN));have z0:=B3.out.1.cell 0 _ rfl;have z1:=B3.out.1.cell 1 _ rfl;have z2:=B3.out.1.cell 2 _ rfl;have f0:=B3.out.1.frozen 0;have f1:=B3.out.1.frozen 1;have f2:=B3.out.1.frozen 2;clear hb3 C hN;go_wp2;refine Zj0 Tryz.results75 ?_ B3.out.1 B3.out.2.1 B3.out.2.2 (HL.out);rfl
theorem Zj1 (xs:List Nat) (a:Option Addr) (n c:Nat) (w:World) (hn:n=xs.length) (hF:Fs w.heap.size w a xs) (hW:W64 xs) (hf:∀ x ∈ xs,finW x) (hT:Tab w) (hl:n≤65536) :
 Calls Tryz.prog 75 #[.slice a n c] w fun r w'=>DVal 0 w' r (gV 1074 (zS fvW xs))∧Below w.heap.size w w':=by
 refine (Zor xs a n c w hn hF hW hT hl).mono ?_;rintro r w' ⟨v,rfl,hN,hb⟩;rw [Zuq hW hf (by omega)] at hN ⊢
 exact ⟨⟨v,rfl,hN.mono (Nat.zero_le _)⟩,hb⟩
def prI (xs ys:List Nat):List (Nat×Int):=(xs.zip ys).map fun p=>(pK p.1 p.2,pT p.1 p.2)
theorem Zj2 {xs ys:List Nat}(h:xs.length=ys.length):(prI xs ys).length=xs.length:=by unfold prI;rw [List.length_map,List.length_zip];omega
theorem Zos {xs ys:List Nat}(h:xs.length=ys.length) (k:Nat) (hk:k<xs.length):(prI xs ys).take (k+1)=(prI xs ys).take k++[(pK (xs.getD k 0) (ys.getD k 0),pT (xs.getD k 0) (ys.getD k 0))]:=by
 have hk2:k<ys.length:=by omega
 rw [List.take_succ_eq_append_getElem (by rw [Zj2 h];exact hk)]
 congr 2
 unfold prI;rw [List.getElem_map,List.getElem_zip];simp [List.getD_eq_getElem?_getD,List.getElem?_eq_getElem hk,List.getElem?_eq_getElem hk2]
theorem Zut (I:List (Nat×Int)):vI I=zS (fun p=>p.2) I:=by unfold vI;rw [Ze1,Int.zero_add]
def pS (xs ys:List Nat):Int:=zS (fun p:Nat×Nat=>fvW p.1*fvW p.2) (xs.zip ys)
theorem Zuu {xs ys:List Nat}(hW:W64 xs) (hV:W64 ys) (hf:∀ x ∈ xs,finW x) (hg:∀ x ∈ ys,finW x):vI (prI xs ys)=pS xs ys:=by
 unfold prI pS;rw [Zut,Zo9];refine Zc3 fun p hp=>?_
 have hp:=List.of_mem_zip hp;exact (Zoz (hW _ hp.1) (hV _ hp.2) (hf _ hp.1) (hg _ hp.2)).1
theorem Zj9 {xs ys:List Nat}(hW:W64 xs) (hV:W64 ys) (hf:∀ x ∈ xs,finW x) (hg:∀ x ∈ ys,finW x) (hl:xs.length≤65536):Bd 4212 (pS xs ys):=by
 refine Zg9 (m:=4196) (fun p hp=>?_) (by rw [List.length_zip];omega)
 have hp:=List.of_mem_zip hp;exact (Yr (hW _ hp.1) (hf _ hp.1)).mul (Yr (hV _ hp.2) (hg _ hp.2))
theorem Zf7 (xs ys:List Nat) (a b:Option Addr) (n c d:Nat) (w:World) (hn:n=xs.length) (hn2:n=ys.length) (hF:Fs w.heap.size w a xs) (hF2:Fs w.heap.size w b ys) (hW:W64 xs) (hW2:W64 ys) (hf:∀ x ∈ xs,finW x) (hf2:∀ x ∈ ys,finW x) (hT:Tab w) (hl:n≤65536) :
 Calls Tryz.prog 57 #[.slice a n c,.slice b n d] w fun r w'=>∃ v,r=.returned (.agg #[.bool (dN (gV 2148 (pS xs ys))),v,.int .i64 (dE (gV 2148 (pS xs ys)))])∧Nt w.heap.size w' v (dX (gV 2148 (pS xs ys)))∧Below w.heap.size w w':=by
 have HX:=qsd (ai (ai hn hn2) (ai (ai hF hF2) (ai (ai hW hW2) (ai hT hl))));have HV:Aside (vI (prI xs ys)=pS xs ys∧Fm (gV 2148 (pS xs ys))∧n=(prI xs ys).length):=⟨Zuu hW hW2 hf hf2,Zhc (m:=4212) (by omega) (by omega) (Zj9 hW hW2 hf hf2 (by omega)),by rw [Zj2 (by omega)];exact hn⟩
 obtain ⟨o,ho⟩:∃ o,o=gV 2148 (pS xs ys):=⟨_,rfl⟩;rw [←ho];have HO:=qsd ho;clear hn hn2 hF hF2 hW hW2 hf hf2 hT ho;obtain ⟨W1,hW1⟩:∃ W,W=w.alloc (.cells #[.bool false,.slice none 0 0,.int .i64 0] 62):=⟨_,rfl⟩
 have H1:Aside (Below w.heap.size w W1∧Bl W1 w.heap.size 62 [.bool false,.slice none 0 0,.int .i64 0]∧W1.heap.size=w.heap.size+1):=by
  subst hW1;exact ⟨Zd _ _,Bl.new _ 62 [_,_,_],by simp⟩
 go_enter Tryz.func57,Tryz.ntmps57
 go_wp2_with fail
 rw [←hW1];clear hW1;refine (Zuw W1).mono ?_;rintro r w2 ⟨rfl,hA,hb2⟩;obtain ⟨g,hg⟩:∃ g,g=W1.heap.size:=⟨_,rfl⟩;rw [←hg] at hA ⊢
 have P2:Aside (Bl w2 w.heap.size 62 [.bool false,.slice none 0 0,.int .i64 0]∧Below w.heap.size w w2∧w.heap.size<g∧Acc7 w2 g 0 ⟨0,0,0,0,0,0⟩) :=
  ⟨H1.out.2.1.below hb2 (by have:=H1.out.2.2;omega),H1.out.1.trans (hb2.mono (by have:=H1.out.2.2;omega)),by have:=H1.out.2.2;omega,hA⟩
 clear hb2 hA hg H1;go_wp2
 go_loopg [11] n (fun gk i wr=>∃ k:Nat,gk+k=n∧i=.int .i64 (k:Nat)∧Aside (At12 wr g ((prI xs ys).take k)∧Bl wr w.heap.size 62 [.bool false,.slice none 0 0,.int .i64 0]∧Below w.heap.size w wr))
 case atStart=>exact ⟨0,by omega,by simp,⟨by simpa [vI,sI] using P2.out.2.2.2,by simp⟩,P2.out.1,P2.out.2.1⟩
 case round =>
  obtain ⟨k,hgk,rfl,HA⟩:=hrel
  by_cases hk:k<n
  · obtain ⟨b1,off,rfl,hc⟩:=HX.out.2.1.1.at HA.out.2.2 k (by rw [←HX.out.1.1];exact hk)
    obtain ⟨b2,off2,rfl,hc2⟩:=HX.out.2.1.2.at HA.out.2.2 k (by rw [←HX.out.1.2];exact hk)
    obtain ⟨x,hx⟩:∃ x,x=xs.getD k 0:=⟨_,rfl⟩;rw [←hx] at hc;obtain ⟨y,hy⟩:∃ x,x=ys.getD k 0:=⟨_,rfl⟩;rw [←hy] at hc2
    have C:Hid (Calls Tryz.prog 95 #[.pointer (some ⟨g,0,none⟩),.float .f64 x,.float .f64 y] wr fun r w'=>r=.returned (.int .i64 0)∧At12 w' g ((prI xs ys).take (k+1))∧But g wr w'):=by
     have hk2:k<xs.length:=by rw [←HX.out.1.1];exact hk
     have hx64:x<18446744073709551616:=by rw [hx];exact HX.out.2.2.1.1.get k
     have hy64:y<18446744073709551616:=by rw [hy];exact HX.out.2.2.1.2.get k
     have hl:=HX.out.2.2.2.2;rw [Zos (by rw [←HX.out.1.1];exact HX.out.1.2) k hk2,←hx,←hy]
     exact Zs8 g _ x y wr HA.out.1 (by rw [List.length_take];omega) hx64 hy64
    have hkb:k<4611686018427387904:=by have:=HX.out.2.2.2.2;omega
    clear hx hy
    go_wp2_with fail
    refine (C.out).mono ?_;rintro r w3 ⟨rfl,hA3,hbut⟩;have H3:=qsd (ai hA3 (ai (HA.out.2.1.but hbut (by have:=P2.out.2.2.1;omega)) (But.below HA.out.2.2 hbut HA.out.2.2.size (by have:=P2.out.2.2.1;omega))))
    clear hA3 hbut C;go_wp2
    go_roundg (gk-1)
    case measure=>omega
    case rel=>exact ⟨k+1,by omega,by first | rfl | simp,H3.out⟩
  · obtain rfl:n=k:=by omega
    have hd:decide ((n:Int)<n)=false:=by simp
    have C:Hid (Calls Tryz.prog 96 #[.pointer (some ⟨g,0,none⟩)] wr fun r w'=>∃ v,r=.returned (.agg #[.bool (dN o),v,.int .i64 (dE o)])∧Nt wr.heap.size w' v (dX o)∧Below wr.heap.size wr w'):=by
     have e:(prI xs ys).take n=prI xs ys:=by rw [List.take_of_length_le];rw [←HV.out.2.2];omega
     have hA:=HA.out.1.1;rw [e] at hA;rw [HO.out,←HV.out.1];exact Zo1 g _ _ wr hA (HX.out.2.2.2.1.belows HA.out.2.2)
    have HL:=qsd (HA.out.2.1.lt)
    go_wp2_with fail
    refine (C.out).mono ?_;rintro r w3 ⟨v,rfl,hN,hb3⟩;obtain ⟨a9,c9,rfl,_⟩:=Lo.shape (q:=o) (by rw [HO.out];exact HV.out.2.1) hN
    have B3:=qsd (ai (HA.out.2.1.below hb3 HL.out) (ai (HA.out.2.2.trans (hb3.mono HA.out.2.2.size)) hN));have z0:=B3.out.1.cell 0 _ rfl;have z1:=B3.out.1.cell 1 _ rfl;have z2:=B3.out.1.cell 2 _ rfl;have f0:=B3.out.1.frozen 0;have f1:=B3.out.1.frozen 1;have f2:=B3.out.1.frozen 2;clear hb3 C hN;go_wp2;refine Zj0 Tryz.results57 ?_ B3.out.1 B3.out.2.1 B3.out.2.2 (HL.out);rfl
theorem Yj (xs ys:List Nat) (a b:Option Addr) (n c d:Nat) (w:World) (hn:n=xs.length) (hn2:n=ys.length) (hF:Fs w.heap.size w a xs) (hF2:Fs w.heap.size w b ys) (hW:W64 xs) (hW2:W64 ys) (hf:∀ x ∈ xs,finW x) (hf2:∀ x ∈ ys,finW x) (hT:Tab w) (hl:n≤65536) :
 Calls Tryz.prog 57 #[.slice a n c,.slice b n d] w fun r w'=>DVal 0 w' r (gV 2148 (pS xs ys))∧Below w.heap.size w w':=by
 refine (Zf7 xs ys a b n c d w hn hn2 hF hF2 hW hW2 hf hf2 hT hl).mono ?_;rintro r w' ⟨v,rfl,hN,hb⟩;exact ⟨⟨v,rfl,hN.mono (Nat.zero_le _)⟩,hb⟩
end
end Go.Proofs.YtblkpkgebigojaaGreatDoor
