import Derived.Test.YtgfemeencgjneaaGreatDoorZ5x
import Derived.Test.YtgfemeencgjneaaGreatDoorD5x
import Derived.Test.YtgfemeencgjneaaGreatDoorD39x
import Derived.BigQuiet
import Derived.Deep.RegionHeld3
import Derived.Deep.CutRange
import Derived.Test.YtgfemeencgjneaaGreatDoorD32cx
import Derived.Test.YtgfemeencgjneaaGreatDoorW25x
import Derived.ProofKit
import Derived.OpenShut
import Derived.ChangeOld
import Derived.SizedLaws
import Derived.ChangeArms
import Derived.KernelRfl
import Derived.ArgAppend
import Derived.Maps.AppendAt
import Derived.WalkMore
import Derived.OwnWalk
import Derived.Test.YtgfemeencgjneaaGreatDoorD16x
import Derived.Test.YtgfemeencgjneaaGreatDoorD21x
import Derived.Deep.RegionWith
import Derived.Test.YtgfemeencgjneaaGreatDoorM1x
import Derived.ChangeKeysEq
import Derived.Laws.OwnMore
import Derived.Lib.SliceRun
import Derived.Deep.RegionHeld
import Derived.Test.YtgfemeencgjneaaGreatDoorW7x
import Derived.Test.YtgfemeencgjneaaGreatDoorW44x
import Derived.Test.YtgfemeencgjneaaGreatDoorD30x
import Derived.Deep.Cut
import Derived.RangeFuncNested
import Derived.RangeFuncBound
import Derived.RangeFuncCalls
import Derived.RangeFuncLeaves
import Derived.RangeFuncBox
import Derived.Shelf.Abstract
import Derived.Shelf.RegionOpen
import Derived.WalkKit
import Derived.OwnWalkIn
import Derived.TacticsInMore
import Derived.LoopNIn
import Derived.LoopIn
import Derived.Laws.Cover2
import Derived.Deep.LoopGhost
set_option linter.unusedVariables false
set_option linter.unusedSimpArgs false
set_option maxHeartbeats 16000000
set_option maxRecDepth 20000
namespace Go.Proofs.YtgfemeencgjneaaGreatDoor
namespace J
end J
section
open Go.RowKit
def Iv (o:Option (Bool×Nat×Int)) (lo hi:Int):Prop:=∃ n X e,o=some (n,X,e)∧Frm n X e∧(X=0∨(lo≤e∧e+(bl X:Int)≤hi))
theorem Iv.mono {o:Option (Bool×Nat×Int)}{a b c d:Int}(h:Iv o a b) (h1:c≤a) (h2:b≤d):Iv o c d:=by
 obtain ⟨n,X,e,h,F,hb⟩:=h;exact ⟨n,X,e,h,F,by omega⟩
theorem mkS_iv (n:Bool) (X:Nat) (e a b:Int) (h:X=0∨(a≤e∧e+(bl X:Int)≤b)) (hw:b-a≤262144) (ha:-1048576≤a) (hb:b≤1048576):Iv (mkS n X e) a b:=by
 by_cases h0:X=0
 · subst h0
   rw [mkS_zero];exact ⟨false,0,0,rfl,⟨.inr ⟨rfl,rfl,rfl⟩,by rw [bl_zero];omega,by omega,by omega⟩,.inl rfl⟩
 · obtain ⟨h1,h2⟩:=h.resolve_left h0
   obtain ⟨k,o1,o2,o3⟩:=odd_part X h0;have hp:=bl_pos (X/2^lo X) (by omega)
   have e1:mkS n X e=some (n,X/2^lo X,e+lo X):=by
    unfold mkS;rw [if_neg h0,if_neg (by omega)]
   exact ⟨n,_,_,e1,mkS_frm e1,.inr (by omega)⟩
theorem bl_mul_le (X Y:Nat):bl (X*Y)≤bl X+bl Y:=bl_lt_pow (by rw [Nat.pow_add];exact Nat.mul_lt_mul'' (bl_lt X) (bl_lt Y))
theorem Iv.mul {o p:Option (Bool×Nat×Int)}{a b c d:Int}(h1:Iv o a b) (h2:Iv p c d) (hw:(b+d)-(a+c)≤262144) (hl:-1048576≤a+c) (hh:b+d≤1048576):Iv (mulD o p) (a+c) (b+d):=by
 obtain ⟨n,X,e,rfl,F,hx⟩:=h1;obtain ⟨m,Y,f,rfl,G,hy⟩:=h2
 show Iv (mkS (n != m) (X*Y) (e+f)) _ _
 refine mkS_iv _ _ _ _ _ ?_ hw hl hh
 rcases hx with rfl|hx
 · left;rw [Nat.zero_mul]
 · rcases hy with rfl | hy
   · left;rw [Nat.mul_zero]
   · right
     have:=bl_mul_le X Y;omega
theorem pow_bound {X k:Nat}{j:Nat}(h:bl X+k≤j):X*2^k<2^j:=by
 have h1:=bl_lt X;have h2:X*2^k<2^bl X*2^k:=Nat.mul_lt_mul_of_pos_right h1 (Nat.two_pow_pos k);rw [←Nat.pow_add] at h2;exact Nat.lt_of_lt_of_le h2 (Nat.pow_le_pow_right (by decide) h)
theorem addUp_iv (n m:Bool) (X Y:Nat) (e f a b:Int) (hfe:f≤e) (ha:a≤f) (h1:e+(bl X:Int)≤b) (h2:f+(bl Y:Int)≤b) (hw:b+1-a≤262144) (hl:-1048576≤a) (hh:b+1≤1048576) (hX:X≠0):Iv (addUp n X e m Y f) a (b+1):=by
 have hp:=bl_pos X hX;unfold addUp;rw [if_neg (by omega)]
 obtain ⟨j,hj⟩:∃ j:Nat,(j:Int)=b-f:=⟨(b-f).toNat,by omega⟩
 have b1:X*2^(e-f).toNat<2^j:=pow_bound (by omega)
 have b2:Y<2^j:=Nat.lt_of_lt_of_le (bl_lt Y) (Nat.pow_le_pow_right (by decide) (by omega))
 have fin:∀ (s:Bool) (Z:Nat),Z<2^(j+1)→Iv (mkS s Z f) a (b+1):=by
  intro s Z hZ;refine mkS_iv s Z f a (b+1) ?_ hw hl hh
  by_cases h0:Z=0
  · exact .inl h0
  · right
    have:=bl_lt_pow hZ;omega
 have b3:(2:Nat)^(j+1)=2*2^j:=by rw [Nat.pow_succ,Nat.mul_comm]
 split
 · exact fin _ _ (by omega)
 · split
   · exact fin _ _ (by omega)
   · exact fin _ _ (by omega)
theorem Iv.add {o p:Option (Bool×Nat×Int)}{a b:Int}(h1:Iv o a b) (h2:Iv p a b) (hw:b+1-a≤262144) (hl:-1048576≤a) (hh:b+1≤1048576):Iv (addD o p) a (b+1):=by
 have h1':=h1;have h2':=h2;obtain ⟨n,X,e,rfl,F,hx⟩:=h1;obtain ⟨m,Y,f,rfl,G,hy⟩:=h2
 show Iv (addF (n,X,e) (m,Y,f)) a (b+1)
 unfold addF;simp only
 by_cases hX:X=0
 · rw [if_pos hX];exact h2'.mono (by omega) (by omega)
 · rw [if_neg hX]
   by_cases hY:Y=0
   · rw [if_pos hY];exact h1'.mono (by omega) (by omega)
   · rw [if_neg hY]
     have ex:=hx.resolve_left hX;have ey:=hy.resolve_left hY
     split
     · exact addUp_iv m n Y X f e a b (by omega) ex.1 ey.2 ex.2 hw hl hh hY
     · exact addUp_iv n m X Y e f a b (by omega) ey.1 ex.2 ey.2 hw hl hh hX
def valO (o:Option (Bool×Nat×Int)):Int:=zv (-1048576) (dN o,dX o,dE o)
theorem fvO {o:Option (Bool×Nat×Int)}{n:Bool}{X:Nat}{e:Int}(h:mkS n X e=o) (hs:o.isSome=true):Fv (-1048576) o (valO o):=by
 cases o with
 | none=>cases hs
 | some d=>obtain ⟨n1,X1,e1⟩:=d;exact ⟨n1,X1,e1,rfl,mkS_frm h,rfl⟩
theorem Fv.reform {o:Option (Bool×Nat×Int)}{B z:Int}(h:Fv B o z):mkS (dN o) (dX o) (dE o)=o:=by
 obtain ⟨n,X,e,rfl,F,rfl⟩:=h.ex;exact F.self
theorem cmpZ_neg (x y:Int):cmpZ x y=-cmpZ y x:=by unfold cmpZ;split <;> split <;> omega
end
section
open Go.RowKit
theorem Fv.len {o:Option (Bool×Nat×Int)}{B z:Int}(h:Fv B o z):(ws (dX o)).length≤8192:=by
 obtain ⟨n,X,e,rfl,F,_⟩:=h.ex;exact frm_len F
end
section
open Go.RowKit
def Al (w:World) (v:Value) (X:Nat):Prop:=∃ a l c xs,v=.slice a l c∧Arg w a l c xs∧val xs=X∧l≤2000000
theorem Al.below {w w':World}{v:Value}{X:Nat}(h:Al w v X) (hb:Below w.heap.size w w'):Al w' v X:=by
 obtain ⟨a,l,c,xs,rfl,hA,hv,hl⟩:=h;exact ⟨a,l,c,xs,rfl,hA.below hb,hv,hl⟩
def Fm (o:Option (Bool×Nat×Int)):Prop:=∃ B x,Fv B o x
theorem Fm.len {o:Option (Bool×Nat×Int)}(h:Fm o):(ws (dX o)).length≤8192:=by obtain ⟨B,x,h⟩:=h;exact h.len
theorem Fm.re {o:Option (Bool×Nat×Int)}(h:Fm o):mkS (dN o) (dX o) (dE o)=o:=by obtain ⟨B,x,h⟩:=h;exact h.reform
theorem Fm.rng {o:Option (Bool×Nat×Int)}(h:Fm o):-9223372036854775808≤dE o∧dE o≤9223372036854775807:=by
 obtain ⟨B,x,h⟩:=h;obtain ⟨n,X,e,rfl,F,_⟩:=h.ex;have:=F.up;have:=F.down
 show -9223372036854775808≤e∧e≤9223372036854775807
 omega
end
section
open Go.RowKit
def fo8 (V:Int):Option (Bool×Nat×Int):=mkS (decide (V<0)) V.natAbs (-1074)
theorem sg1_abs (V:Int):sg1 (decide (V<0))*(V.natAbs:Int)=V:=by
 unfold sg1
 by_cases h:V<0
 · rw [decide_eq_true h,if_pos rfl];omega
 · rw [decide_eq_false h,if_neg (by decide)];omega
theorem fo8_fo (V:Int) (m:Nat) (hm:m≤200000) (hV:V.natAbs<2^m):Fo (fo8 V) (V*(UU:Int)) (-1074) ((m:Int)-1074):=by
 by_cases h0:V=0
 · subst h0
   refine ⟨⟨false,0,0,?_,?_,?_,.inl rfl⟩⟩
   · unfold fo8;exact mkS_zero _ _
   · exact mkS_frm (mkS_zero false 0)
   · rw [zv_zero _ rfl];simp
 · obtain ⟨X,e,h1,h2,h3,h4⟩:=mkS_sz (decide (V<0)) V.natAbs (-1074) (-1074) ((m:Int)-1074) (by omega) (by omega) (by have:=blLe hV;omega) (by omega) (by omega) (by omega)
   refine ⟨⟨_,X,e,h1,mkS_frm h1,?_,.inr ⟨h3,h4⟩⟩⟩;rw [zv_mkS h1 (-2097152) (.inr (by omega))]
   have e1:(2:Nat)^((-1074:Int) - -2097152).toNat=UU*SS:=US _ (by decide)
   rw [e1,Int.natCast_mul,Int.natCast_mul,←Int.mul_assoc,sg1_abs,Int.mul_assoc]
theorem fo8_one {o:Option (Bool×Nat×Int)}{V L H:Int}(h:Fo o (V*(UU:Int)) L H) (m:Nat) (hm:m≤200000) (hV:V.natAbs<2^m):o=fo8 V:=by
 obtain ⟨n,X,e,rfl,F1,z1,_⟩:=h.ex;obtain ⟨n',X',e',h2,F2,z2,_⟩:=(fo8_fo V m hm hV).ex;rw [h2];obtain ⟨rfl,rfl,rfl⟩:=zv_inj F1 F2 (-2097152) (by omega) (by rw [z1,z2])
 rfl
theorem top_fv {x:Nat}(hx:Wd x) (fx:finW x) (m:Nat) (hm:m=2098):(fvW x).natAbs<2^m:=by
 unfold fvW;rw [sg_abs];have:=top_v (magW x) fx 2045 rfl;obtain ⟨a,ha⟩:∃ a,a=2045:=⟨_,rfl⟩;have h2:=top_v (magW x) fx a ha;rw [show m=53+a by omega,Nat.pow_add]
 exact h2
theorem of_fo8 {x:Nat}(hx:Wd x) (fx:finW x):ofK (negW x) (magW x)=fo8 (fvW x):=by
 obtain ⟨n,X,e,h1,h2,_⟩:=of_fo (negW x) (magW x) fx;rw [h1];exact fo8_one h2 2098 (by omega) (top_fv hx fx 2098 rfl)
end
section
open Go.RowKit
theorem of_any8 (x:Nat) (hx:Wd x∧finW x) (w:World) (hT:Tab w) :
 Calls Tryz.prog 40 #[.float .f64 x] w fun r w'=>(∃ v,r=.returned (.tuple #[.agg #[.bool (dN (fo8 (fvW x))),v,.int .i64 (dE (fo8 (fvW x)))],.int .i64 0])∧Nt w.heap.size w' v (dX (fo8 (fvW x))))∧Below w.heap.size w w':=by
 obtain ⟨h1,h2,h3,_⟩:=wd64_bw (negW x) (magW x) (Nat.le_of_lt hx.2);have:=Of_any (negW x) (magW x/4503599627370496) (magW x%4503599627370496) h2 h3 w hT;rw [←h1,←wd_of x hx.1] at this;refine this.mono ?_;rintro r w' ⟨⟨v,rfl,hN⟩,hb⟩;have e:=of_fo8 hx.1 hx.2;unfold ofK at e;rw [e] at hN ⊢;have he:ofE (magW x/4503599627370496)=0:=by unfold ofE;rw [if_neg (by have:=hx.2;omega)]
 rw [he];exact ⟨⟨v,rfl,hN⟩,hb⟩
end
section
open Go.RowKit J
theorem st3_but12 (g:Nat) (w:World) (x y z:Value):But g w (st3 w g x y z):=(((But.refl g w).set _ _).set _ _).set _ _
def Lo (w:World) (g:Nat) (o:Option (Bool×Nat×Int)):Prop:=∃ a c,Dk w g (dN o) (.slice a (ws (dX o)).length c) (dE o)∧Nt 0 w (.slice a (ws (dX o)).length c) (dX o)
theorem Lo.below {w w':World}{g:Nat}{o:Option (Bool×Nat×Int)}(h:Lo w g o) (hb:Below w.heap.size w w'):Lo w' g o:=by
 obtain ⟨a,c,h1,h2⟩:=h;exact ⟨a,c,h1.below hb,h2.below hb⟩
theorem Lo.lt {w:World}{g:Nat}{o:Option (Bool×Nat×Int)}(h:Lo w g o):g<w.heap.size:=by
 obtain ⟨a,c,h1,h2⟩:=h;exact h1.lt
theorem Nt.off12 {lo g:Nat}{w:World}{v:Value}{X:Nat}{n:Bool}{a:Option Addr}{l c:Nat}{e:Int}(h:Nt lo w v X) (D:Dk w g n (.slice a l c) e) (x y z:Value):Nt lo (st3 w g x y z) v X:=by
 refine h.off (st3_but12 g w x y z) ?_
 rcases h.2 with ⟨rfl,_⟩|⟨g',cap,cur,rfl,_,hg,_⟩
 · simp [Value.ownBlock]
 · intro e'
   obtain rfl:g'=g:=by simpa [Value.ownBlock] using e'
   rw [show w.heap[g']?=_ from D] at hg
   simp at hg
theorem Lo.set {w:World}{g:Nat}{o p:Option (Bool×Nat×Int)}(h:Lo w g o) {a:Option Addr}{c:Nat}(hN:Nt 0 w (.slice a (ws (dX p)).length c) (dX p)) :
 Lo (st3 w g (.bool (dN p)) (.slice a (ws (dX p)).length c) (.int .i64 (dE p))) g p:=by
 obtain ⟨a0,c0,h1,h2⟩:=h;exact ⟨a,c,h1.set _ _ _,hN.off12 h1 _ _ _⟩
theorem Lo.other {w:World}{g g':Nat}{o p:Option (Bool×Nat×Int)}(h:Lo w g o) (h':Lo w g' p) (hg:g≠g') (x y z:Value):Lo (st3 w g' x y z) g o:=by
 obtain ⟨a,c,h1,h2⟩:=h;obtain ⟨a0,c0,k1,k2⟩:=h';exact ⟨a,c,h1.other _ hg _ _ _,h2.off12 k1 _ _ _⟩
theorem Lo.new {w:World}{o:Option (Bool×Nat×Int)}{a:Option Addr}{c:Nat}(hN:Nt 0 w (.slice a (ws (dX o)).length c) (dX o)):Lo (w.alloc (Obj.cells #[.bool (dN o),.slice a (ws (dX o)).length c,.int .i64 (dE o)] 70)) w.heap.size o :=
 ⟨a,c,Dk.new _ _ _ _,hN.below (below_alloc _ _)⟩
abbrev o00:Option (Bool×Nat×Int):=some (false,0,0)
theorem len00:(ws (dX o00)).length=0:=by simp [dX,ws_zero]
theorem Lo.zero (w:World):Lo (w.alloc (Obj.cells #[.bool false,.slice none 0 0,.int .i64 0] 70)) w.heap.size o00:=by
 refine ⟨none,0,?_,?_⟩
 · rw [len00];exact Dk.new _ _ _ _
 · rw [len00];exact Nt.nil _ _
theorem st3_bel12 {B g:Nat}{a w:World}(h:Below B a w) (hB:B≤w.heap.size) (hg:B≤g) (x y z:Value):Below B a (st3 w g x y z):=But.below h (st3_but12 g w x y z) hB hg
theorem Fm.er {o:Option (Bool×Nat×Int)}(h:Fm o):erS o=0:=by
 obtain ⟨B,x,h⟩:=h;obtain ⟨n,X,e,rfl,_⟩:=h.ex;rfl
theorem Fm.a12 {o:Option (Bool×Nat×Int)}{w:World}{a:Option Addr}{c:Nat}(F:Fm o) (N:Nt 0 w (.slice a (ws (dX o)).length c) (dX o)):Arg w a (ws (dX o)).length c (ws (dX o)):=(N.arg' (Nat.le_trans F.len (by decide))).2
theorem mulP12 {U:World}{a b:Option Addr}{c d:Nat}{o p q:Option (Bool×Nat×Int)}(F:Fm o) (G:Fm p) (N1:Nt 0 U (.slice a (ws (dX o)).length c) (dX o)) (N2:Nt 0 U (.slice b (ws (dX p)).length d) (dX p)) (hT:Tab U) (h:mulD o p=q) (H:Fm q) :
 Calls Tryz.prog 80 #[.agg #[.bool (dN o),.slice a (ws (dX o)).length c,.int .i64 (dE o)],.agg #[.bool (dN p),.slice b (ws (dX p)).length d,.int .i64 (dE p)]] U fun r w'=>(∃ v,r=.returned (.tuple #[.agg #[.bool (dN q),v,.int .i64 (dE q)],.int .i64 0])∧Nt U.heap.size w' v (dX q))∧Below U.heap.size U w':=by
 have:=Mul_any3 (F.a12 N1) (G.a12 N2) hT (dN o) (dN p) (dE o) (dE p) F.rng.1 F.rng.2 G.rng.1 G.rng.2;rw [val_ws,val_ws,F.re,G.re,h] at this;unfold DAns at this;rw [H.er] at this;exact this
theorem addP12' {U:World}{a b:Option Addr}{c d:Nat}{o p q:Option (Bool×Nat×Int)}(F:Fm o) (G:Fm p) (N1:Nt 0 U (.slice a (ws (dX o)).length c) (dX o)) (N2:Nt 0 U (.slice b (ws (dX p)).length d) (dX p)) (hT:Tab U) (h:addD o p=q) (H:Fm q) :
 Calls Tryz.prog 82 #[.agg #[.bool (dN o),.slice a (ws (dX o)).length c,.int .i64 (dE o)],.agg #[.bool (dN p),.slice b (ws (dX p)).length d,.int .i64 (dE p)]] U fun r w'=>(∃ v,r=.returned (.tuple #[.agg #[.bool (dN q),v,.int .i64 (dE q)],.int .i64 0])∧Nt U.heap.size w' v (dX q))∧Below U.heap.size U w':=by
 have:=Add_any3 (F.a12 N1) (G.a12 N2) hT (dN o) (dN p) (dE o) (dE p) F.rng.1 F.rng.2 G.rng.1 G.rng.2;rw [val_ws,val_ws,F.re,G.re,h] at this;unfold DAns at this;rw [H.er] at this;exact this
theorem Lo.shape {w:World}{lo:Nat}{v:Value}{q:Option (Bool×Nat×Int)}(H:Fm q) (h:Nt lo w v (dX q)):∃ a c,v=.slice a (ws (dX q)).length c∧Nt 0 w v (dX q):=by
 obtain ⟨a,c,rfl,_⟩:=h.arg (Nat.le_trans H.len (by decide))
 exact ⟨a,c,rfl,h.mono (Nat.zero_le _)⟩
end
section
open Go.RowKit
theorem cmpZ_scale11 (x y c:Int) (hc:0<c):cmpZ (x*c) (y*c)=cmpZ x y:=by
 unfold cmpZ;have h1:x*c<y*c↔x<y:=⟨fun h=>Int.lt_of_mul_lt_mul_right h (Int.le_of_lt hc),fun h=>Int.mul_lt_mul_of_pos_right h hc⟩
 have h2:y*c<x*c↔y<x:=⟨fun h=>Int.lt_of_mul_lt_mul_right h (Int.le_of_lt hc),fun h=>Int.mul_lt_mul_of_pos_right h hc⟩
 simp only [h1,h2]
theorem frm_fv {n:Bool}{X:Nat}{e:Int}(F:Frm n X e) (B:Int):Fv B (some (n,X,e)) (zv B (n,X,e)):=⟨n,X,e,rfl,F,rfl⟩
end
section
open Go.RowKit Go.Shelf J
attribute [local go_sem] Oper.semAt_some
def oW (x:Nat):Option (Bool×Nat×Int):=fo8 (fvW x)
theorem of12 (x:Nat) (hx:x<18446744073709551616) (fx:finW x) (u:World) (hT:Tab u):Calls Tryz.prog 40 #[.float .f64 x] u fun r w'=>(∃ v,r=.returned (.tuple #[.agg #[.bool (dN (oW x)),v,.int .i64 (dE (oW x))],.int .i64 0])∧Nt u.heap.size w' v (dX (oW x)))∧Below u.heap.size u w':=of_any8 x ⟨hx,fx⟩ u hT
end
section
open Go.RowKit
theorem Iv.fm {o:Option (Bool×Nat×Int)}{a b:Int}(h:Iv o a b):Fm o:=by
 obtain ⟨n,X,e,rfl,F,_⟩:=h;exact ⟨0,_,frm_fv F 0⟩
end
section
open Go.RowKit
theorem rebase {o:Option (Bool×Nat×Int)}{B x:Int}(h:Fv B o x) (hB:B≤-1048576) (D:Int) (hD:D≤0):Fv (B+D) o (x*((2^(0-D).toNat:Nat):Int)):=by
 obtain ⟨n',X',e',hx,F',hz⟩:=h.ex;refine ⟨n',X',e',hx,F',?_⟩;rw [←hz];unfold zv;simp only;rw [Int.mul_assoc,←Int.natCast_mul,Nat.mul_assoc,←Nat.pow_add];have:=F'.down;rw [show (e'-(B+D)).toNat=(e'-B).toNat+(0-D).toNat by omega]
end
section
open Go.RowKit J
def EK:Nat:=1048576
theorem exP (a:Nat):∃ u:Nat,u=2^a:=⟨_,rfl⟩
noncomputable def MM:Nat:=Classical.choose (exP EK)
theorem M_eq:MM=2^EK:=Classical.choose_spec (exP EK)
theorem M_pos:0<MM:=by rw [M_eq];exact Nat.two_pow_pos _
theorem Fm.sm {o:Option (Bool×Nat×Int)}(h:Fm o):o.isSome=true:=by
 obtain ⟨B,x,h⟩:=h;obtain ⟨n,X,e,rfl,_⟩:=h.ex;rfl
theorem Fm.val {o:Option (Bool×Nat×Int)}(h:Fm o):Fv (-1048576) o (valO o):=fvO h.re h.sm
theorem Fv.uniq {B x y:Int}{o:Option (Bool×Nat×Int)}(h1:Fv B o x) (h2:Fv B o y):x=y:=by
 obtain ⟨n,X,e,ho,_,hz⟩:=h1.ex;obtain ⟨n',X',e',ho',_,hz'⟩:=h2.ex;rw [ho] at ho'
 cases ho'
 exact hz.symm.trans hz'
theorem val_mul {o p:Option (Bool×Nat×Int)}(F:Fm o) (G:Fm p) (H:Fm (mulD o p)):valO (mulD o p)*(MM:Int)=valO o*valO p:=by
 have h1:=Fv.mul (by decide) (by decide) F.val G.val H.sm
 have h2:=rebase H.val (by decide) (-1048576) (by decide)
 rw [show ((0:Int) - -1048576).toNat=EK from rfl,←M_eq] at h2
 exact (h1.uniq h2).symm
theorem val_add {o p:Option (Bool×Nat×Int)}(F:Fm o) (G:Fm p) (H:Fm (addD o p)):valO (addD o p)=valO o+valO p :=
 H.val.uniq (Fv.add (by decide) F.val G.val H.sm)
theorem valO_inj {o p:Option (Bool×Nat×Int)}(F:Fm o) (G:Fm p) (h:valO o=valO p):o=p:=by
 obtain ⟨h1,h2,h3⟩:=Fv.same (by decide) F.val G.val h
 obtain ⟨n,X,e,rfl,_⟩:=F.val.ex;obtain ⟨m,Y,f,rfl,_⟩:=G.val.ex;have h1:n=m:=h1;have h2:X=Y:=h2;have h3:e=f:=h3;rw [h1,h2,h3]
theorem val_mk {n:Bool}{X:Nat}{e:Int}(h:Fm (mkS n X e)) (he:-1048576≤e) (k:Nat) (hk:(e+1048576).toNat=k):valO (mkS n X e)=sg1 n*((X*2^k:Nat):Int):=by
 obtain ⟨⟨n',Y,f⟩,ho⟩:=Option.isSome_iff_exists.1 h.sm;have:=zv_mkS ho (-1048576) (.inr he);rw [show (e - -1048576).toNat=k by rw [←hk];congr 1] at this
 rw [←this,ho];rfl
theorem sg1_natAbs (V:Int) (K:Nat):sg1 (decide (V<0))*((V.natAbs*K:Nat):Int)=V*(K:Int):=by
 rw [Int.natCast_mul,←Int.mul_assoc]
 congr 1
 unfold sg1
 by_cases h:V<0
 · rw [decide_eq_true h,if_pos rfl];omega
 · rw [decide_eq_false h,if_neg (by decide)];omega
end
section
open Go.RowKit J
def Bd (m:Nat) (V:Int):Prop:=V.natAbs≤2^m
theorem Bd.lt {m:Nat}{V:Int}(h:Bd m V):V.natAbs<2^(m+1):=by
 unfold Bd at h;rw [Nat.pow_succ];have:=Nat.two_pow_pos m;omega
theorem Bd.mul {a b:Nat}{V W:Int}(h:Bd a V) (k:Bd b W):Bd (a+b) (V*W):=by
 unfold Bd at *;rw [Int.natAbs_mul,Nat.pow_add];exact Nat.mul_le_mul h k
theorem Bd.add {m:Nat}{V W:Int}(h:Bd m V) (k:Bd m W):Bd (m+1) (V+W):=by
 unfold Bd at *;rw [Nat.pow_succ];omega
def gV (u:Nat) (V:Int):Option (Bool×Nat×Int):=mkS (decide (V<0)) V.natAbs (-(u:Int))
theorem g_iv {u m:Nat}{V:Int}(hu:u≤100000) (hm:m≤99999) (hV:Bd m V):Iv (gV u V) (-(u:Int)) (((m+1:Nat):Int)-(u:Int)):=by
 unfold gV;refine mkS_iv _ _ _ _ _ (.inr ⟨by omega,?_⟩) (by omega) (by omega) (by omega)
 have:=bl_lt_pow hV.lt;omega
theorem g_fm {u m:Nat}{V:Int}(hu:u≤100000) (hm:m≤99999) (hV:Bd m V):Fm (gV u V):=(g_iv hu hm hV).fm
theorem val_g {u:Nat}{V:Int}(h:Fm (gV u V)) (hu:u≤1000000) (k:Nat) (hk:k+u=EK):valO (gV u V)=V*((2^k:Nat):Int):=by
 unfold gV at h ⊢;rw [val_mk h (by omega) k (by unfold EK at hk;omega),sg1_natAbs]
theorem exK (u:Nat) (hu:u≤1000000):∃ k,k+u=EK:=⟨EK-u,by unfold EK;omega⟩
theorem g_mul {u v a b:Nat}{V W:Int}(hu:u≤50000) (hv:v≤50000) (ha:a≤40000) (hb:b≤40000) (h1:Bd a V) (h2:Bd b W):mulD (gV u V) (gV v W)=gV (u+v) (V*W):=by
 have F:=g_iv (u:=u) (by omega) (by omega) h1
 have G:=g_iv (u:=v) (by omega) (by omega) h2
 have hF:=(F.mul G (by omega) (by omega) (by omega)).fm
 have hG:=g_fm (u:=u+v) (by omega) (by omega) (h1.mul h2)
 refine valO_inj hF hG ?_;obtain ⟨k1,e1⟩:=exK u (by omega)
 obtain ⟨k2,e2⟩:=exK v (by omega)
 obtain ⟨k3,e3⟩:=exK (u+v) (by omega)
 have h:=val_mul F.fm G.fm hF;rw [val_g F.fm (by omega) k1 e1,val_g G.fm (by omega) k2 e2] at h
 rw [val_g hG (by omega) k3 e3]
 have hM:=M_pos;refine Int.eq_of_mul_eq_mul_right (a:=(MM:Int)) (by omega) (h.trans ?_)
 have e:((2^k1:Nat):Int)*((2^k2:Nat):Int)=((2^k3:Nat):Int)*(MM:Int):=by
  rw [←Int.natCast_mul,←Int.natCast_mul,M_eq,←Nat.pow_add,←Nat.pow_add,show k1+k2=k3+EK by omega]
 rw [Int.mul_assoc (V*W),←e,Int.mul_assoc,Int.mul_assoc,Int.mul_left_comm W]
theorem g_add {u m:Nat}{V W:Int}(hu:u≤100000) (hm:m≤90000) (h1:Bd m V) (h2:Bd m W):addD (gV u V) (gV u W)=gV u (V+W):=by
 have F:=g_iv (u:=u) (by omega) (by omega) h1
 have G:=g_iv (u:=u) (by omega) (by omega) h2
 have hF:=(F.add G (by omega) (by omega) (by omega)).fm
 have hG:=g_fm (u:=u) (by omega) (by omega) (h1.add h2)
 refine valO_inj hF hG ?_;obtain ⟨k1,e1⟩:=exK u (by omega)
 rw [val_add F.fm G.fm hF,val_g F.fm (by omega) k1 e1,val_g G.fm (by omega) k1 e1,val_g hG (by omega) k1 e1,Int.add_mul]
theorem g_zero (u:Nat):gV u 0=o00:=mkS_zero _ _
theorem g_oW (x:Nat):oW x=gV 1074 (fvW x):=rfl
attribute [irreducible] Bd
end
section
open Go.RowKit J
theorem order_nanL (x y:Nat) (h:9218868437227405312<magW x) (o:Ordering):(FloatKind.f64.format.order x y==some o)=false:=by
 obtain ⟨s,t,hr⟩:=read_nanW x h
 show ((Ieee.double.read x).order (Ieee.double.read y)==some o)=false
 rw [hr];rfl
end
section
open Go.RowKit
theorem rof8 (x:Nat) (hx:Wd x∧finW x) (w:World) :
 Calls Tryz.prog 30 #[.float .f64 x] w fun r w'=>(∃ v,r=.returned (.tuple #[.agg #[.bool (dN (fo8 (fvW x))),v,.int .i64 (dE (fo8 (fvW x)))],.int .i64 0])∧Nt w.heap.size w' v (dX (fo8 (fvW x))))∧Below w.heap.size w w':=by
 obtain ⟨h1,h2,h3,_⟩:=wd64_bw (negW x) (magW x) (Nat.le_of_lt hx.2);have:=rOf3_any (negW x) (magW x/4503599627370496) (magW x%4503599627370496) h2 h3 w;rw [←h1,←wd_of x hx.1] at this;refine this.mono ?_;rintro r w' ⟨⟨v,rfl,hN⟩,hb⟩;have e:=of_fo8 hx.1 hx.2;unfold ofK at e;rw [e] at hN ⊢;have he:ofE (magW x/4503599627370496)=0:=by unfold ofE;rw [if_neg (by have:=hx.2;omega)]
 rw [he];exact ⟨⟨v,rfl,hN⟩,hb⟩
section
attribute [local go_sem] B.f64bits B.f64frombits
end
end
section
open Go.RowKit J
theorem Fm.two {o:Option (Bool×Nat×Int)}(h:Fm o):(ws (dX o)).length≤2000000:=Nat.le_trans h.len (by decide)
theorem rmul12 {U:World}{a b:Option Addr}{c d:Nat}{o p q:Option (Bool×Nat×Int)}(F:Fm o) (G:Fm p) (N1:Nt 0 U (.slice a (ws (dX o)).length c) (dX o)) (N2:Nt 0 U (.slice b (ws (dX p)).length d) (dX p)) (h:mulD o p=q) (H:Fm q) :
 Calls Tryz.prog 31 #[.agg #[.bool (dN o),.slice a (ws (dX o)).length c,.int .i64 (dE o)],.agg #[.bool (dN p),.slice b (ws (dX p)).length d,.int .i64 (dE p)]] U fun r w'=>(∃ v,r=.returned (.tuple #[.agg #[.bool (dN q),v,.int .i64 (dE q)],.int .i64 0])∧Nt U.heap.size w' v (dX q))∧Below U.heap.size U w':=by
 have:=rMul_any3 (F.a12 N1) (G.a12 N2) F.two G.two (dN o) (dN p) (dE o) (dE p) F.rng.1 F.rng.2 G.rng.1 G.rng.2;rw [val_ws,val_ws,F.re,G.re,h] at this;unfold DAns at this;rw [H.er] at this;exact this
theorem radd12 {U:World}{a b:Option Addr}{c d:Nat}{o p q:Option (Bool×Nat×Int)}(F:Fm o) (G:Fm p) (N1:Nt 0 U (.slice a (ws (dX o)).length c) (dX o)) (N2:Nt 0 U (.slice b (ws (dX p)).length d) (dX p)) (h:addD o p=q) (H:Fm q) :
 Calls Tryz.prog 33 #[.agg #[.bool (dN o),.slice a (ws (dX o)).length c,.int .i64 (dE o)],.agg #[.bool (dN p),.slice b (ws (dX p)).length d,.int .i64 (dE p)]] U fun r w'=>(∃ v,r=.returned (.tuple #[.agg #[.bool (dN q),v,.int .i64 (dE q)],.int .i64 0])∧Nt U.heap.size w' v (dX q))∧Below U.heap.size U w':=by
 have:=rAdd_any3 (F.a12 N1) (G.a12 N2) F.two G.two (dN o) (dN p) (dE o) (dE p) F.rng.1 F.rng.2 G.rng.1 G.rng.2;rw [val_ws,val_ws,F.re,G.re,h] at this;unfold DAns at this;rw [H.er] at this;exact this
theorem rof12 (x:Nat) (hx:x<18446744073709551616) (fx:finW x) (w:World) :
 Calls Tryz.prog 30 #[.float .f64 x] w fun r w'=>(∃ v,r=.returned (.tuple #[.agg #[.bool (dN (oW x)),v,.int .i64 (dE (oW x))],.int .i64 0])∧Nt w.heap.size w' v (dX (oW x)))∧Below w.heap.size w w':=rof8 x ⟨hx,fx⟩ w
end
section
open Go.RowKit J
def Iw15 (n:Nat):Value:=.int .i64 (n:Nat)
def OwnI (w:World) (g:Nat) (L:List Nat):Prop:=w.heap[g]?=some (.cells (L.map Iw15).toArray 3 (0,0))
theorem OwnI.lt {w:World}{g:Nat}{L:List Nat}(h:OwnI w g L):g<w.heap.size:=(Array.getElem?_eq_some_iff.1 h).1
theorem OwnI.cell {w:World}{g:Nat}{L:List Nat}(h:OwnI w g L) (i:Nat) (hi:i<L.length):w.cell? ⟨g,i,none⟩=some (.int .i64 ((L.getD i 0:Nat):Int)):=by
 unfold OwnI at h;simp [World.cell?,h,Iw15,hi]
theorem OwnI.frozen {w:World}{g:Nat}{L:List Nat}(h:OwnI w g L) (i:Nat):w.frozen? ⟨g,i,none⟩=false:=by
 unfold OwnI at h;simp [World.frozen?,h]
theorem OwnI.set {w:World}{g:Nat}{L:List Nat}(h:OwnI w g L) (i x:Nat):OwnI (w.setCell ⟨g,i,none⟩ (.int .i64 (x:Nat))) g (L.set i x):=by
 unfold OwnI at h ⊢;simp only [World.setCell,Array.getElem?_modify,h];simp [Iw15,List.map_set]
theorem OwnI.drew {w:World}{g:Nat}{L:List Nat}(h:OwnI w g L):OwnI w.drew g L:=h
theorem OwnI.below {w w':World}{g B:Nat}{L:List Nat}(h:OwnI w g L) (hb:Below B w w') (hg:g<B):OwnI w' g L:=by
 unfold OwnI at h ⊢;rw [hb.block g hg];exact h
end
section
open Go.RowKit J
attribute [local go_sem] st_float
def Fw10 (n:Nat):Value:=.float .f64 n
theorem Tryz.und_floats:Tryz.prog.underlying 23=some (.slice 27):=by kernel_rfl
theorem Tryz.info_f64:(Tryz.prog.info? 27).map (fun i=>(i.zero,i.size,i.bytes))=some (some (.float .f64 0),1,8):=by kernel_rfl
def OwnF (w:World) (g:Nat) (L:List Nat):Prop:=w.heap[g]?=some (.cells (L.map Fw10).toArray 27 (0,0))
theorem OwnF.lt {w:World}{g:Nat}{L:List Nat}(h:OwnF w g L):g<w.heap.size:=(Array.getElem?_eq_some_iff.1 h).1
theorem OwnF.cell {w:World}{g:Nat}{L:List Nat}(h:OwnF w g L) (i:Nat) (hi:i<L.length):w.cell? ⟨g,i,none⟩=some (.float .f64 (L.getD i 0)):=by
 unfold OwnF at h;simp [World.cell?,h,Fw10,hi]
theorem OwnF.frozen {w:World}{g:Nat}{L:List Nat}(h:OwnF w g L) (i:Nat):w.frozen? ⟨g,i,none⟩=false:=by
 unfold OwnF at h;simp [World.frozen?,h]
theorem OwnF.set {w:World}{g:Nat}{L:List Nat}(h:OwnF w g L) (i x:Nat):OwnF (w.setCell ⟨g,i,none⟩ (.float .f64 x)) g (L.set i x):=by
 unfold OwnF at h ⊢;simp only [World.setCell,Array.getElem?_modify,h];simp [Fw10,List.map_set]
theorem OwnF.below {w w':World}{g B:Nat}{L:List Nat}(h:OwnF w g L) (hb:Below B w w') (hg:g<B):OwnF w' g L:=by
 unfold OwnF at h ⊢;rw [hb.block g hg];exact h
theorem OwnF.fs {w:World}{g B:Nat}{L:List Nat}(h:OwnF w g L) (hg:g<B) (n:Nat):Fs B w (some ⟨g,0,none⟩) (L.take n):=by
 intro _;refine ⟨g,0,hg,rfl,fun i hi=>?_⟩
 rw [List.length_take] at hi;rw [Nat.zero_add,h.cell i (by omega)]
 congr 2
 rw [List.getD_eq_getElem?_getD,List.getD_eq_getElem?_getD,List.getElem?_take,if_pos (by omega)]
theorem make_floats (z:Int) (n:Nat) (hz:z=(n:Int)) (hn:n≤17592186044416) (w:World) :
 (Instr.makeSlice 23 (.int .i64 z) (.int .i64 z)).run Tryz.prog w=.ok (.slice (some ⟨w.heap.size,0,none⟩) n n) (w.alloc (.cells (madeCells #[.float .f64 0] n) 27)):=by
 subst hz;exact run_make_row' 23 27 (.float .f64 0) 8 Tryz.und_floats Tryz.info_f64 rfl .i64 .i64 n (by omega) (by omega) w
theorem OwnF.made (w:World) (n:Nat):OwnF (w.alloc (.cells (madeCells #[.float .f64 0] n) 27)) w.heap.size (List.replicate n 0):=by
 unfold OwnF;have h1:=heap_alloc_new w (.cells (madeCells #[.float .f64 0] n) 27);rw [h1]
 congr 2
 apply Array.toList_inj.1
 rw [toList_madeCells_one];simp [Fw10]
end
section
open Go.RowKit J
attribute [local go_sem] st_float
theorem wpList_append10 {w:World}{ops:Array Oper}{rest:List Oper}{o:Oper}{a:Act}{Q:Exit→Act→World→Prop}(hgd:o.guard=none) (s x:Operand) (t:TypeId)
 (ho:o.op=.call { callee:=.builtin .append,args:=#[s,x],argTypes:=#[t,t] }) (v u:Value) (hs:a.eval s=v) (hx:a.eval x=u) (v':Value) (w':World)
 (hrun:(Builtin.append_ #[t,t] o.type #[v,u]).run Tryz.prog w=.ok v' w') (h:wpList Tryz.prog ops Q rest (a.put o.dst v') w'):wpList Tryz.prog ops Q (o::rest) a w:=by
 refine wpList_plain hgd fun K hK=>?_
 unfold Oper.wp;simp [execOp,ho,resolve,invoke,builtin,hs,hx,hrun,Result.andThen];exact hK _ _ h
end
section
open Go.RowKit J
theorem wrap17 {q:Nat}(h:q<4611686018427387904):IntKind.i64.wrap (q:Int)=(q:Int):=by
 simp [IntKind.wrap,IntKind.bits,IntKind.signed];omega
theorem wrapY {x:Int}{q:Nat}(h:x=(q:Int)) (hq:q<4611686018427387904):IntKind.i64.wrap x=(q:Int):=by rw [h];exact wrap17 hq
def sP (x:Nat):Int:=sK (negW x) (magW x)
abbrev nnW (x:Nat):Prop:=magW x≤9218868437227405312
theorem wd_own17 (x:Nat) (hx:x<18446744073709551616):wd64 (negW x) (magW x)=x:=by
 unfold wd64 negW magW
 by_cases h:9223372036854775808≤x <;> simp [h] <;> omega
theorem lt17 {x y:Nat}(hx:x<18446744073709551616) (hy:y<18446744073709551616) (fx:nnW x) (fy:nnW y):(FloatKind.f64.format.order x y==some .lt)=decide (sP x<sP y):=by
 have h:=lt64 (negW x) (negW y) (magW x) (magW y) fx fy;rw [wd_own17 x hx,wd_own17 y hy] at h;exact h
theorem gt17 {x y:Nat}(hx:x<18446744073709551616) (hy:y<18446744073709551616) (fx:nnW x) (fy:nnW y):(FloatKind.f64.format.order x y==some .gt)=decide (sP y<sP x):=by
 have h:=gt64 (negW x) (negW y) (magW x) (magW y) fx fy;rw [wd_own17 x hx,wd_own17 y hy] at h;exact h
theorem eq17 {x y:Nat}(hx:x<18446744073709551616) (hy:y<18446744073709551616) (fx:nnW x) (fy:nnW y):(FloatKind.f64.format.order x y==some .eq)=decide (sP x=sP y):=by
 have h:=eq64 (negW x) (negW y) (magW x) (magW y) fx fy;rw [wd_own17 x hx,wd_own17 y hy] at h;exact h
theorem order_nanR (x y:Nat) (h:9218868437227405312<magW y) (o:Ordering):(FloatKind.f64.format.order x y==some o)=false:=by
 obtain ⟨s,t,hr⟩:=read_nanW y h
 show ((Ieee.double.read x).order (Ieee.double.read y)==some o)=false
 rw [hr]
 cases Ieee.double.read x <;> rfl
def ltB (x y:Nat):Bool:=FloatKind.f64.format.order x y==some .lt
theorem ltB_iff {x y:Nat}(hx:x<18446744073709551616) (hy:y<18446744073709551616):ltB x y=true↔nnW x∧nnW y∧sP x<sP y:=by
 unfold ltB
 by_cases a:nnW x
 · by_cases b:nnW y
   · rw [lt17 hx hy a b,decide_eq_true_eq]
     exact ⟨fun h=>⟨a,b,h⟩,fun h=>h.2.2⟩
   · rw [order_nanR _ _ (Nat.lt_of_not_le b)]
     exact ⟨fun h=>absurd h (by decide),fun h=>absurd h.2.1 b⟩
 · rw [order_nanL _ _ (Nat.lt_of_not_le a)]
   exact ⟨fun h=>absurd h (by decide),fun h=>absurd h.1 a⟩
def Edg (l:List Nat):Prop:=2≤l.length∧l.length≤1024∧(∀ x ∈ l,finW x)∧∀ i,i+1<l.length→sP (l.getD i 0)<sP (l.getD (i+1) 0)
theorem getD_mem17 {l:List Nat}{i:Nat}(h:i<l.length):l.getD i 0 ∈ l:=by
 rw [List.getD_eq_getElem?_getD,List.getElem?_eq_getElem h];exact List.getElem_mem h
theorem rise_mono {l:List Nat}(h:∀ i,i+1<l.length→sP (l.getD i 0)<sP (l.getD (i+1) 0)):∀ d i,i+d<l.length→sP (l.getD i 0)≤sP (l.getD (i+d) 0)
 | 0,i,_=>Int.le_refl _
 | d+1,i,hi=>by
   have:=rise_mono h d i (by omega)
   have:=h (i+d) (by omega)
   rw [show i+d+1=i+(d+1) by omega] at this
   omega
theorem rise_le {l:List Nat}(h:∀ i,i+1<l.length→sP (l.getD i 0)<sP (l.getD (i+1) 0)) {i j:Nat}(hi:i≤j) (hj:j<l.length):sP (l.getD i 0)≤sP (l.getD j 0):=by
 have h2:=rise_mono h (j-i) i (by omega)
 rw [show i+(j-i)=j by omega] at h2
 exact h2
def infB (neg:Bool) (x:Nat):Bool:=decide (negW x=neg∧magW x=9218868437227405312)
theorem edg_iff {l:List Nat}(hW:W64 l) (h2:2≤l.length) (h3:l.length≤1024) (hr:∀ i,i+1<l.length→ltB (l.getD i 0) (l.getD (i+1) 0)=true) :
 (!infB true (l.getD 0 0)&&!infB false (l.getD (l.length-1) 0))=true↔Edg l:=by
 have hq:∀ i,i+1<l.length→nnW (l.getD i 0)∧nnW (l.getD (i+1) 0)∧sP (l.getD i 0)<sP (l.getD (i+1) 0):=fun i hi=>(ltB_iff (hW.get i) (hW.get (i+1))).1 (hr i hi)
 have hs:∀ i,i+1<l.length→sP (l.getD i 0)<sP (l.getD (i+1) 0):=fun i hi=>(hq i hi).2.2
 have hn:∀ i,i<l.length→nnW (l.getD i 0):=fun i hi=>by
  by_cases e:i+1<l.length
  · exact (hq i e).1
  · have:=(hq (i-1) (by omega)).2.1
    rw [show i-1+1=i by omega] at this
    exact this
 have n0:=hn 0 (by omega)
 have n1:=hn (l.length-1) (by omega)
 rw [Bool.and_eq_true,Bool.not_eq_true',Bool.not_eq_true'];unfold infB;rw [decide_eq_false_iff_not,decide_eq_false_iff_not]
 constructor
 · rintro ⟨a,b⟩
   refine ⟨h2,h3,fun x hx=>?_,hs⟩
   obtain ⟨i,hi,rfl⟩:=List.getElem_of_mem hx;have e:l[i]=l.getD i 0:=by rw [List.getD_eq_getElem?_getD,List.getElem?_eq_getElem hi];rfl
   rw [e];have q0:=rise_le hs (Nat.zero_le i) hi;have q1:=rise_le hs (show i≤l.length-1 by omega) (by omega)
   have q2:=hn i hi;unfold finW;refine Nat.lt_of_le_of_ne q2 fun e=>?_
   unfold sP sK at q0 q1
   cases s:negW (l.getD i 0)
   · rw [s] at q1
     simp only [Bool.false_eq_true,if_false] at q1;refine b ⟨?_,?_⟩
     · cases t:negW (l.getD (l.length-1) 0)
       · rfl
       · rw [t] at q1;simp only [if_true] at q1;omega
     · cases t:negW (l.getD (l.length-1) 0)
       · rw [t] at q1;simp only [Bool.false_eq_true,if_false] at q1;unfold nnW at n1;omega
       · rw [t] at q1;simp only [if_true] at q1;omega
   · rw [s] at q0
     simp only [if_true] at q0;refine a ⟨?_,?_⟩
     · cases t:negW (l.getD 0 0)
       · rw [t] at q0;simp only [Bool.false_eq_true,if_false] at q0;omega
       · rfl
     · cases t:negW (l.getD 0 0)
       · rw [t] at q0;simp only [Bool.false_eq_true,if_false] at q0;omega
       · rw [t] at q0;simp only [if_true] at q0;unfold nnW at n0;omega
 · intro h
   have f0:=h.2.2.1 _ (getD_mem17 (show 0<l.length by omega))
   have f1:=h.2.2.1 _ (getD_mem17 (show l.length-1<l.length by omega))
   unfold finW at f0 f1;exact ⟨fun e=>by omega,fun e=>by omega⟩
theorem edg_not {l:List Nat}(hW:W64 l) {i:Nat}(hi:i+1<l.length) (h:ltB (l.getD i 0) (l.getD (i+1) 0)=false):¬ Edg l:=fun e=>by
 have f0:=e.2.2.1 _ (getD_mem17 (show i<l.length by omega))
 have f1:=e.2.2.1 _ (getD_mem17 hi);unfold finW at f0 f1;have:=(ltB_iff (hW.get i) (hW.get (i+1))).2 ⟨Nat.le_of_lt f0,Nat.le_of_lt f1,e.2.2.2 i hi⟩;rw [h] at this;exact absurd this (by decide)
theorem bw_split17 (x:Nat) (hx:x<18446744073709551616):x=B.bw (negW x) (magW x/4503599627370496) (magW x%4503599627370496)∧magW x/4503599627370496<2048∧magW x%4503599627370496<4503599627370496:=by
 unfold B.bw negW magW
 by_cases h:9223372036854775808≤x <;> simp [h] <;> omega
theorem inf17 (x:Nat) (hx:x<18446744073709551616) (w:World) :
 Calls Tryz.prog 84 #[.float .f64 x,.int .i64 1] w fun r w'=>r=.returned (.bool (infB false x))∧w'=w:=by
 obtain ⟨e,h1,h2⟩:=bw_split17 x hx;have:=B.isInf_pos (negW x) _ _ h1 h2 w;rw [←e] at this
 have q:(!negW x&&(magW x/4503599627370496==2047&&magW x%4503599627370496==0))=infB false x:=by
  unfold infB;rw [Bool.eq_iff_iff,Bool.and_eq_true,Bool.and_eq_true,beq_iff_eq,beq_iff_eq,Bool.not_eq_true',decide_eq_true_eq]
  constructor
  · rintro ⟨a,b,c⟩;exact ⟨a,by omega⟩
  · rintro ⟨a,b⟩;exact ⟨a,by omega,by omega⟩
 rw [q] at this;exact this
theorem inf17n (x:Nat) (hx:x<18446744073709551616) (w:World) :
 Calls Tryz.prog 84 #[.float .f64 x,.int .i64 (-1)] w fun r w'=>r=.returned (.bool (infB true x))∧w'=w:=by
 obtain ⟨e,h1,h2⟩:=bw_split17 x hx;have:=B.isInf_neg (negW x) _ _ h1 h2 w;rw [←e] at this
 have q:(negW x&&(magW x/4503599627370496==2047&&magW x%4503599627370496==0))=infB true x:=by
  unfold infB;rw [Bool.eq_iff_iff,Bool.and_eq_true,Bool.and_eq_true,beq_iff_eq,beq_iff_eq,decide_eq_true_eq]
  constructor
  · rintro ⟨a,b,c⟩;exact ⟨a,by omega⟩
  · rintro ⟨a,b⟩;exact ⟨a,by omega,by omega⟩
 rw [q] at this;exact this
end
section
open Go.RowKit J
theorem calm17 {P:Program}{c:Code}{K:Act→World→Prop}{Q:Exit→Act→World→Prop}{a:Act}{w:World}(h:c.wp P (Exit.then K (fun _ _ _=>False)) a w):c.wp P (Exit.then K Q) a w :=
 wp_mono h (fun e a w h=>by cases e <;> first | exact h | exact False.elim h)
abbrev Zd17:Obj:=Obj.cells #[.bool false,.slice none 0 0,.int .i64 0] 70
abbrev dc17 (o:Option (Bool×Nat×Int)) (a:Option Addr) (c:Nat):Obj:=Obj.cells #[.bool (dN o),.slice a (ws (dX o)).length c,.int .i64 (dE o)] 70
theorem between_core17 (i parts rem:Nat) (ol oh ip iq q1 q2 q dn:Option (Bool×Nat×Int)) (Fip:Fm ip) (Fiq:Fm iq) (F1:Fm q1) (F2:Fm q2) (Fq:Fm q) (Fd:Fm dn) (al ah:Option Addr) (cl ch z:Nat) (ez:Int) (w:World) (hT:Tab w) (hrem:IntKind.i64.wrap ((parts:Int)-(i:Int))=(rem:Int))
 (Nl:Nt 0 w (.slice al (ws (dX ol)).length cl) (dX ol)) (Nh:Nt 0 w (.slice ah (ws (dX oh)).length ch) (dX oh))
 (HA1:Hid (∀ u:World,Tab u→Calls Tryz.prog 81 #[.int .i64 (rem:Nat)] u fun r w'=>(∃ v,r=.returned (.agg #[.bool (dN ip),v,.int .i64 (dE ip)])∧Nt u.heap.size w' v (dX ip))∧Below u.heap.size u w'))
 (HA2:Hid (∀ u:World,Tab u→Calls Tryz.prog 81 #[.int .i64 (i:Nat)] u fun r w'=>(∃ v,r=.returned (.agg #[.bool (dN iq),v,.int .i64 (dE iq)])∧Nt u.heap.size w' v (dX iq))∧Below u.heap.size u w'))
 (HA3:Hid (∀ u:World,Tab u→Calls Tryz.prog 81 #[.int .i64 (parts:Nat)] u fun r w'=>(∃ v,r=.returned (.agg #[.bool (dN dn),v,.int .i64 (dE dn)])∧Nt u.heap.size w' v (dX dn))∧Below u.heap.size u w'))
 (HM1:Hid (∀ (u:World) (a b:Option Addr) (c d:Nat),Tab u→Nt 0 u (.slice a (ws (dX ol)).length c) (dX ol)→Nt 0 u (.slice b (ws (dX ip)).length d) (dX ip)→Calls Tryz.prog 80 #[.agg #[.bool (dN ol),.slice a (ws (dX ol)).length c,.int .i64 (dE ol)],.agg #[.bool (dN ip),.slice b (ws (dX ip)).length d,.int .i64 (dE ip)]] u fun r w'=>(∃ v,r=.returned (.tuple #[.agg #[.bool (dN q1),v,.int .i64 (dE q1)],.int .i64 0])∧Nt u.heap.size w' v (dX q1))∧Below u.heap.size u w'))
 (HM2:Hid (∀ (u:World) (a b:Option Addr) (c d:Nat),Tab u→Nt 0 u (.slice a (ws (dX oh)).length c) (dX oh)→Nt 0 u (.slice b (ws (dX iq)).length d) (dX iq)→Calls Tryz.prog 80 #[.agg #[.bool (dN oh),.slice a (ws (dX oh)).length c,.int .i64 (dE oh)],.agg #[.bool (dN iq),.slice b (ws (dX iq)).length d,.int .i64 (dE iq)]] u fun r w'=>(∃ v,r=.returned (.tuple #[.agg #[.bool (dN q2),v,.int .i64 (dE q2)],.int .i64 0])∧Nt u.heap.size w' v (dX q2))∧Below u.heap.size u w'))
 (HADD:Hid (∀ (u:World) (a b:Option Addr) (c d:Nat),Tab u→Nt 0 u (.slice a (ws (dX q1)).length c) (dX q1)→Nt 0 u (.slice b (ws (dX q2)).length d) (dX q2)→Calls Tryz.prog 82 #[.agg #[.bool (dN q1),.slice a (ws (dX q1)).length c,.int .i64 (dE q1)],.agg #[.bool (dN q2),.slice b (ws (dX q2)).length d,.int .i64 (dE q2)]] u fun r w'=>(∃ v,r=.returned (.tuple #[.agg #[.bool (dN q),v,.int .i64 (dE q)],.int .i64 0])∧Nt u.heap.size w' v (dX q))∧Below u.heap.size u w'))
 (HQT:Hid (∀ (u:World) (a b:Option Addr) (c d:Nat),Tab u→Nt 0 u (.slice a (ws (dX q)).length c) (dX q)→Nt 0 u (.slice b (ws (dX dn)).length d) (dX dn)→Calls Tryz.prog 83 #[.agg #[.bool (dN q),.slice a (ws (dX q)).length c,.int .i64 (dE q),.bool (dN dn),.slice b (ws (dX dn)).length d,.int .i64 (dE dn)],.int .i64 0] u fun r w'=>r=.returned (.tuple #[.float .f64 z,.int .i64 ez])∧Below u.heap.size u w')) :
 Calls Tryz.prog 41 #[.agg #[.bool (dN ol),.slice al (ws (dX ol)).length cl,.int .i64 (dE ol)],.agg #[.bool (dN oh),.slice ah (ws (dX oh)).length ch,.int .i64 (dE oh)],.int .i64 (i:Nat),.int .i64 (parts:Nat)] w fun r w'=>r=.returned (.float .f64 z)∧Below w.heap.size w w':=by
 have FF:=(qsd (ai hT (ai Fip (ai Fiq (ai F1 (ai F2 (ai Fq Fd)))))));obtain ⟨V,hV⟩:∃ V,V=(w.alloc (dc17 ol al cl)).alloc (dc17 oh ah ch):=⟨_,rfl⟩;obtain ⟨gl,hgl⟩:∃ g,g=w.heap.size:=⟨_,rfl⟩;obtain ⟨gh,hgh⟩:∃ g,g=w.heap.size+1:=⟨_,rfl⟩
 have H1:Aside (Lo V gh oh∧Below w.heap.size w V∧Dk V gl (dN ol) (.slice al (ws (dX ol)).length cl) (dE ol)∧Nt 0 V (.slice al (ws (dX ol)).length cl) (dX ol)∧w.heap.size≤gh):=by
  rw [hV,hgl,hgh];have b1:=below_alloc w (dc17 ol al cl);have b2:=below_alloc (w.alloc (dc17 ol al cl)) (dc17 oh ah ch);have n:=Lo.new (w:=w.alloc (dc17 ol al cl)) (Nh.below b1);rw [World.size_alloc] at n;exact ⟨n,b1.trans (b2.mono b1.size),(Dk.new _ _ _ _).below b2,(Nl.below b1).below b2,by omega⟩
 have HW:=(qsd (ai hV (ai hgl hgh)));clear hV hgl hgh hT Fip Fiq F1 F2 Fq Fd Nl Nh;go_enter Tryz.func41,Tryz.ntmps41
 go_upto_region 1 with fail
 rw [←HW.out.1,←HW.out.2.2,←HW.out.2.1]
 go_cut [9,10] from 17 to 25 (fun pv ev wx=>∃ g7,pv=.pointer (some ⟨g7,0,none⟩)∧ev=.int .i64 0∧Aside (Lo wx g7 q1∧Lo wx gh oh∧Below w.heap.size w wx∧w.heap.size≤g7))
 case first =>
  have hdr:=(Below.refl V.heap.size V).drew;have BB:=qsd (ai (H1.out.1.below hdr) (ai (H1.out.2.1.trans (hdr.mono H1.out.2.1.size)) (ai (H1.out.2.2.1.below hdr) (H1.out.2.2.2.1.below hdr))));have HLE:=qsd H1.out.2.2.2.2;clear hdr H1;obtain ⟨p0,p1,p2,f0,f1,f2⟩:=BB.out.2.2.1.facts;have hlt0:gl<V.heap.size:=BB.out.2.2.1.lt;have q0:V.cell? ⟨gl,0,none⟩=some (.bool (dN ol)):=p0;have q1':V.cell? ⟨gl,1,none⟩=some (.slice al (ws (dX ol)).length cl):=p1;have q2':V.cell? ⟨gl,2,none⟩=some (.int .i64 (dE ol)):=p2;have hne0:gl≠V.heap.size:=by omega
  refine calm17 ?_
  go_region_with (first
   | (go_at_call 81
      first
      | (with_reducible refine (HA1.out _ (FF.out.1.belows BB.out.2.1)).mono ?_
         rintro r v ⟨⟨p,rfl,hN⟩,hb⟩;obtain ⟨a2,c2,rfl,hN0⟩:=Lo.shape FF.out.2.1 hN;have BB:=qsd (ai (BB.out.1.below hb) (ai (BB.out.2.1.trans (hb.mono BB.out.2.1.size)) (ai (BB.out.2.2.1.below hb) (BB.out.2.2.2.below hb))));have Q2:=qsd hN0;obtain ⟨p0,p1,p2,f0,f1,f2⟩:=BB.out.2.2.1.facts;have hlt:=BB.out.2.2.1.lt;have hne:=Nat.ne_of_lt hlt;clear hb hN hN0)
      | (have G7l:=qsd BB.out.1.lt
         have BB:=qsd (ai (BB.out.1.below (below_alloc _ Zd17)) (ai (BB.out.2.1.trans ((below_alloc _ Zd17).mono BB.out.2.1.size)) (ai (BB.out.2.2.1.below (below_alloc _ Zd17)) (BB.out.2.2.2.below (below_alloc _ Zd17)))));refine (HA1.out _ (FF.out.1.belows BB.out.2.1)).mono ?_;rintro r v ⟨⟨p,rfl,hN⟩,hb⟩;obtain ⟨a2,c2,rfl,hN0⟩:=Lo.shape FF.out.2.1 hN;have G7:=qsd ((Lo.zero _).below hb);have BB:=qsd (ai (BB.out.1.below hb) (ai (BB.out.2.1.trans (hb.mono BB.out.2.1.size)) (ai (BB.out.2.2.1.below hb) (BB.out.2.2.2.below hb))));have Q2:=qsd hN0;obtain ⟨p0,p1,p2,f0,f1,f2⟩:=BB.out.2.2.1.facts;have hlt:=BB.out.2.2.1.lt;have hne:=Nat.ne_of_lt hlt;clear hb hN hN0))
   | (go_at_call 80
      first
      | (with_reducible refine (HM1.out _ al a2 cl c2 (FF.out.1.belows BB.out.2.1) BB.out.2.2.2 Q2.out).mono ?_
         rintro r v ⟨⟨p,rfl,hN⟩,hb⟩;obtain ⟨a3,c3,rfl,hN0⟩:=Lo.shape FF.out.2.2.2.1 hN
         try (have G7:=qsd (G7.out.below hb);obtain ⟨e1,e2,D7,e3⟩:=G7.out;obtain ⟨y0,y1,y2,z0,z1,z2⟩:=D7.facts;try dsimp only [World.drew] at y0 y1 y2 z0 z1 z2;clear D7 e3)
         have BB:=qsd (ai (BB.out.1.below hb) (ai (BB.out.2.1.trans (hb.mono BB.out.2.1.size)) hN0));clear hb hN hN0 p0 p1 p2 f0 f1 f2)
      | (have G7l:=qsd BB.out.1.lt
         have BB:=qsd (ai (BB.out.1.below (below_alloc _ Zd17)) (ai (BB.out.2.1.trans ((below_alloc _ Zd17).mono BB.out.2.1.size)) (ai (BB.out.2.2.1.below (below_alloc _ Zd17)) (BB.out.2.2.2.below (below_alloc _ Zd17)))));have Q2:=qsd (Q2.out.below (below_alloc _ Zd17));refine (HM1.out _ al a2 cl c2 (FF.out.1.belows BB.out.2.1) BB.out.2.2.2 Q2.out).mono ?_;rintro r v ⟨⟨p,rfl,hN⟩,hb⟩;obtain ⟨a3,c3,rfl,hN0⟩:=Lo.shape FF.out.2.2.2.1 hN;have G7:=qsd ((Lo.zero _).below hb);obtain ⟨e1,e2,D7,e3⟩:=G7.out;obtain ⟨y0,y1,y2,z0,z1,z2⟩:=D7.facts
         try dsimp only [World.drew] at y0 y1 y2 z0 z1 z2
         clear D7 e3;have BB:=qsd (ai (BB.out.1.below hb) (ai (BB.out.2.1.trans (hb.mono BB.out.2.1.size)) hN0));clear hb hN hN0 p0 p1 p2 f0 f1 f2)))
  all_goals
   go_wp2_with fail
   go_meet
   case rel=>first
    | exact ⟨_,rfl,rfl,Lo.new BB.out.2.2,BB.out.1.below (below_alloc _ _),BB.out.2.1.trans ((below_alloc _ _).mono BB.out.2.1.size),BB.out.2.1.size⟩
    | exact ⟨_,rfl,rfl,G7.out.set BB.out.2.2,BB.out.1.other G7.out (Nat.ne_of_lt G7l.out) _ _ _,st3_bel12 BB.out.2.1 BB.out.2.1.size (Nat.le_trans HLE.out (Nat.le_of_lt G7l.out)) _ _ _,Nat.le_trans HLE.out (Nat.le_of_lt G7l.out)⟩
 clear H1;obtain ⟨g9,rfl,rfl,HA⟩:=hcut;obtain ⟨V2,hW⟩:∃ W,W=wc:=⟨_,rfl⟩;subst hW;obtain ⟨ah',ch',Dh,Nh⟩:=HA.out.2.1;have H1:Aside (Lo V2 g9 q1∧Below w.heap.size w V2∧Dk V2 gh (dN oh) (.slice ah' (ws (dX oh)).length ch') (dE oh)∧Nt 0 V2 (.slice ah' (ws (dX oh)).length ch') (dX oh)∧w.heap.size≤g9):=⟨HA.out.1,HA.out.2.2.1,Dh,Nh,HA.out.2.2.2⟩;clear Dh Nh HA HA1 HM1 HW
 go_upto_region 2 with fail
 go_cut [11,12] from 26 to 32 (fun pv ev wx=>∃ g7,pv=.pointer (some ⟨g7,0,none⟩)∧ev=.int .i64 0∧Aside (Lo wx g7 q2∧Lo wx g9 q1∧Below w.heap.size w wx∧w.heap.size≤g7))
 case first =>
  have hdr:=(Below.refl V2.heap.size V2).drew;have BB:=qsd (ai (H1.out.1.below hdr) (ai (H1.out.2.1.trans (hdr.mono H1.out.2.1.size)) (ai (H1.out.2.2.1.below hdr) (H1.out.2.2.2.1.below hdr))));have HLE:=qsd H1.out.2.2.2.2;clear hdr H1;obtain ⟨p0,p1,p2,f0,f1,f2⟩:=BB.out.2.2.1.facts;have hlt0:gh<V2.heap.size:=BB.out.2.2.1.lt;have q0:V2.cell? ⟨gh,0,none⟩=some (.bool (dN oh)):=p0;have q1':V2.cell? ⟨gh,1,none⟩=some (.slice ah' (ws (dX oh)).length ch'):=p1;have q2':V2.cell? ⟨gh,2,none⟩=some (.int .i64 (dE oh)):=p2;have hne0:gh≠V2.heap.size:=by omega
  refine calm17 ?_
  go_region_with (first
   | (go_at_call 81
      first
      | (with_reducible refine (HA2.out _ (FF.out.1.belows BB.out.2.1)).mono ?_
         rintro r v ⟨⟨p,rfl,hN⟩,hb⟩;obtain ⟨a2,c2,rfl,hN0⟩:=Lo.shape FF.out.2.2.1 hN;have BB:=qsd (ai (BB.out.1.below hb) (ai (BB.out.2.1.trans (hb.mono BB.out.2.1.size)) (ai (BB.out.2.2.1.below hb) (BB.out.2.2.2.below hb))));have Q2:=qsd hN0;obtain ⟨p0,p1,p2,f0,f1,f2⟩:=BB.out.2.2.1.facts;have hlt:=BB.out.2.2.1.lt;have hne:=Nat.ne_of_lt hlt;clear hb hN hN0)
      | (have G7l:=qsd BB.out.1.lt
         have BB:=qsd (ai (BB.out.1.below (below_alloc _ Zd17)) (ai (BB.out.2.1.trans ((below_alloc _ Zd17).mono BB.out.2.1.size)) (ai (BB.out.2.2.1.below (below_alloc _ Zd17)) (BB.out.2.2.2.below (below_alloc _ Zd17)))));refine (HA2.out _ (FF.out.1.belows BB.out.2.1)).mono ?_;rintro r v ⟨⟨p,rfl,hN⟩,hb⟩;obtain ⟨a2,c2,rfl,hN0⟩:=Lo.shape FF.out.2.2.1 hN;have G7:=qsd ((Lo.zero _).below hb);have BB:=qsd (ai (BB.out.1.below hb) (ai (BB.out.2.1.trans (hb.mono BB.out.2.1.size)) (ai (BB.out.2.2.1.below hb) (BB.out.2.2.2.below hb))));have Q2:=qsd hN0;obtain ⟨p0,p1,p2,f0,f1,f2⟩:=BB.out.2.2.1.facts;have hlt:=BB.out.2.2.1.lt;have hne:=Nat.ne_of_lt hlt;clear hb hN hN0))
   | (go_at_call 80
      first
      | (with_reducible refine (HM2.out _ ah' a2 ch' c2 (FF.out.1.belows BB.out.2.1) BB.out.2.2.2 Q2.out).mono ?_
         rintro r v ⟨⟨p,rfl,hN⟩,hb⟩;obtain ⟨a3,c3,rfl,hN0⟩:=Lo.shape FF.out.2.2.2.2.1 hN
         try (have G7:=qsd (G7.out.below hb);obtain ⟨e1,e2,D7,e3⟩:=G7.out;obtain ⟨y0,y1,y2,z0,z1,z2⟩:=D7.facts;try dsimp only [World.drew] at y0 y1 y2 z0 z1 z2;clear D7 e3)
         have BB:=qsd (ai (BB.out.1.below hb) (ai (BB.out.2.1.trans (hb.mono BB.out.2.1.size)) hN0));clear hb hN hN0 p0 p1 p2 f0 f1 f2)
      | (have G7l:=qsd BB.out.1.lt
         have BB:=qsd (ai (BB.out.1.below (below_alloc _ Zd17)) (ai (BB.out.2.1.trans ((below_alloc _ Zd17).mono BB.out.2.1.size)) (ai (BB.out.2.2.1.below (below_alloc _ Zd17)) (BB.out.2.2.2.below (below_alloc _ Zd17)))));have Q2:=qsd (Q2.out.below (below_alloc _ Zd17));refine (HM2.out _ ah' a2 ch' c2 (FF.out.1.belows BB.out.2.1) BB.out.2.2.2 Q2.out).mono ?_;rintro r v ⟨⟨p,rfl,hN⟩,hb⟩;obtain ⟨a3,c3,rfl,hN0⟩:=Lo.shape FF.out.2.2.2.2.1 hN;have G7:=qsd ((Lo.zero _).below hb);obtain ⟨e1,e2,D7,e3⟩:=G7.out;obtain ⟨y0,y1,y2,z0,z1,z2⟩:=D7.facts
         try dsimp only [World.drew] at y0 y1 y2 z0 z1 z2
         clear D7 e3;have BB:=qsd (ai (BB.out.1.below hb) (ai (BB.out.2.1.trans (hb.mono BB.out.2.1.size)) hN0));clear hb hN hN0 p0 p1 p2 f0 f1 f2)))
  all_goals
   go_wp2_with fail
   go_meet
   case rel=>first
    | exact ⟨_,rfl,rfl,Lo.new BB.out.2.2,BB.out.1.below (below_alloc _ _),BB.out.2.1.trans ((below_alloc _ _).mono BB.out.2.1.size),BB.out.2.1.size⟩
    | exact ⟨_,rfl,rfl,G7.out.set BB.out.2.2,BB.out.1.other G7.out (Nat.ne_of_lt G7l.out) _ _ _,st3_bel12 BB.out.2.1 BB.out.2.1.size (Nat.le_trans HLE.out (Nat.le_of_lt G7l.out)) _ _ _,Nat.le_trans HLE.out (Nat.le_of_lt G7l.out)⟩
 clear H1;obtain ⟨g11,rfl,rfl,HA⟩:=hcut;obtain ⟨W1,hW⟩:∃ W,W=wc:=⟨_,rfl⟩;subst hW;obtain ⟨⟨x11,k11,D11,M11⟩,⟨x9,k9,D9,M9⟩,hb,_⟩:=HA.out;obtain ⟨p0,p1,p2,_,_,_⟩:=D9.facts;obtain ⟨q0,q1',q2',_,_,_⟩:=D11.facts;have C:=hid (HADD.out W1 x9 x11 k9 k11 (FF.out.1.belows hb) M9 M11);have K1:=qsd hb;clear D9 M9 D11 M11 hb HA HADD HA2 HM2
 go_wp2_with fail
 refine C.out.mono ?_;rintro r v3 ⟨⟨p,rfl,hN⟩,hb⟩;obtain ⟨a3,c3,rfl,hN0⟩:=Lo.shape FF.out.2.2.2.2.2.1 hN;obtain ⟨V3,hV3⟩:∃ V,V=v3.alloc (dc17 q a3 c3):=⟨_,rfl⟩;obtain ⟨g13,hg13⟩:∃ g,g=v3.heap.size:=⟨_,rfl⟩
 have K2:Aside (Dk V3 g13 (dN q) (.slice a3 (ws (dX q)).length c3) (dE q)∧Nt 0 V3 (.slice a3 (ws (dX q)).length c3) (dX q)∧Below w.heap.size w V3):=by
  rw [hV3,hg13];have b3:=K1.out.trans (hb.mono K1.out.size);exact ⟨Dk.new _ _ _ _,hN0.below (below_alloc _ _),b3.trans ((below_alloc _ _).mono b3.size)⟩
 have HV:=(qsd (ai hV3 hg13));clear C hb hN hN0 K1 hV3 hg13 p0 p1 p2 q0 q1' q2'
 go_upto_region 4 with fail
 rw [←HV.out.1,←HV.out.2];clear HV;have hdr:=(Below.refl V3.heap.size V3).drew;have BB:Aside (Dk V3.drew g13 (dN q) (.slice a3 (ws (dX q)).length c3) (dE q)∧Nt 0 V3.drew (.slice a3 (ws (dX q)).length c3) (dX q)∧Below w.heap.size w V3.drew):=⟨K2.out.1.below hdr,K2.out.2.1.below hdr,K2.out.2.2.drew⟩;clear hdr K2;obtain ⟨d0,d1,d2,_,_,_⟩:=BB.out.1.facts;refine calm17 ?_
 go_region_with (first
  | (go_at_call 83
     with_reducible refine (HQT.out _ a3 a5 c3 c5 (FF.out.1.belows BB.out.2.2) BB.out.2.1 Q5.out).mono ?_
     rintro r v ⟨rfl,hb⟩;have BE:=qsd (BB.out.2.2.trans (hb.mono BB.out.2.2.size));clear hb d0 d1 d2)
  | (go_at_call 81
     with_reducible refine (HA3.out _ (FF.out.1.belows BB.out.2.2)).mono ?_
     rintro r v ⟨⟨p,rfl,hN⟩,hb⟩;obtain ⟨a5,c5,rfl,hN0⟩:=Lo.shape FF.out.2.2.2.2.2.2 hN;have BB:=qsd (ai (BB.out.1.below hb) (ai (BB.out.2.1.below hb) (BB.out.2.2.trans (hb.mono BB.out.2.2.size))));have Q5:=qsd hN0;obtain ⟨d0,d1,d2,_,_,_⟩:=BB.out.1.facts;clear hb hN hN0))
 all_goals
  go_wp2;go_ret;exact ⟨rfl,BE.out⟩
noncomputable def lnV17 (lo hi i p:Nat):Int:=fvW lo*((p-i:Nat):Int)+fvW hi*(i:Int)
noncomputable def qR17 (V D:Option (Bool×Nat×Int)) (mode:Int):Nat×Int:=quoR rndS ⟨dN V,.bool false,dX V,dE V,dN D,.bool false,dX D,dE D⟩ mode
noncomputable def edW (lo hi i p:Nat):Nat:=(qR17 (gV 1074 (lnV17 lo hi i p)) (gV 0 (p:Int)) 0).1
theorem bd_fv17 {x:Nat}(hx:x<18446744073709551616) (fx:finW x) (z:Nat) (hz:z=2098):Bd z (fvW x):=by
 unfold Bd;exact Nat.le_of_lt (top_fv hx fx z hz)
theorem between17 (lo hi i p:Nat) (hl:lo<18446744073709551616) (fl:finW lo) (hh:hi<18446744073709551616) (fh:finW hi) (hr:i≤p) (hd:p≤2147483648) (al ah:Option Addr) (cl ch:Nat) (w:World) (hT:Tab w)
 (Nl:Nt 0 w (.slice al (ws (dX (gV 1074 (fvW lo)))).length cl) (dX (gV 1074 (fvW lo)))) (Nh:Nt 0 w (.slice ah (ws (dX (gV 1074 (fvW hi)))).length ch) (dX (gV 1074 (fvW hi)))) :
 Calls Tryz.prog 41 #[.agg #[.bool (dN (gV 1074 (fvW lo))),.slice al (ws (dX (gV 1074 (fvW lo)))).length cl,.int .i64 (dE (gV 1074 (fvW lo)))],.agg #[.bool (dN (gV 1074 (fvW hi))),.slice ah (ws (dX (gV 1074 (fvW hi)))).length ch,.int .i64 (dE (gV 1074 (fvW hi)))],.int .i64 (i:Nat),.int .i64 (p:Nat)] w fun r w'=>r=.returned (.float .f64 (edW lo hi i p))∧Below w.heap.size w w':=by
 obtain ⟨z,hz⟩:∃ z,z=2098:=⟨_,rfl⟩;obtain ⟨k,hk⟩:∃ z,z=31:=⟨_,rfl⟩;have b1:=bd_fv17 hl fl z hz;have b2:=bd_fv17 hh fh z hz;have bn:∀ n:Nat,n≤2147483648→Bd k (n:Int):=fun n hn=>by unfold Bd;rw [Int.natAbs_natCast,hk];exact hn
 have Fl:=g_fm (u:=1074) (by omega) (by omega) b1
 have Fh:=g_fm (u:=1074) (by omega) (by omega) b2
 have Fip:=g_fm (u:=0) (by omega) (by omega) (bn (p-i) (by omega))
 have Fiq:=g_fm (u:=0) (by omega) (by omega) (bn i (by omega))
 have e1:=g_mul (u:=1074) (v:=0) (by omega) (by omega) (by omega) (by omega) b1 (bn (p-i) (by omega))
 have e2:=g_mul (u:=1074) (v:=0) (by omega) (by omega) (by omega) (by omega) b2 (bn i (by omega))
 have c1:=b1.mul (bn (p-i) (by omega))
 have c2:=b2.mul (bn i (by omega))
 have F1:=g_fm (u:=1074) (by omega) (by omega) c1
 have F2:=g_fm (u:=1074) (by omega) (by omega) c2
 have ea:=g_add (u:=1074) (by omega) (by omega) c1 c2
 have Fq:=g_fm (u:=1074) (by omega) (by omega) (c1.add c2)
 have Fd:=g_fm (u:=0) (by omega) (by omega) (bn p hd)
 obtain ⟨V,hV⟩:∃ V,V=lnV17 lo hi i p:=⟨_,rfl⟩;have hV':fvW lo*((p-i:Nat):Int)+fvW hi*(i:Int)=V:=hV.symm;rw [hV'] at ea Fq
 have:=between_core17 i p (p-i) (gV 1074 (fvW lo)) (gV 1074 (fvW hi)) _ _ _ _ _ _ Fip Fiq F1 F2 Fq Fd al ah cl ch (qR17 (gV 1074 V) (gV 0 (p:Int)) 0).1 (qR17 (gV 1074 V) (gV 0 (p:Int)) 0).2 w hT (wrapY (by omega) (by omega)) Nl Nh
  (fun u hT=>(Int_any ((p-i:Nat):Int) u hT (by omega) (by omega)).mono (fun r w' h=>h))
  (fun u hT=>(Int_any (i:Nat) u hT (by omega) (by omega)).mono (fun r w' h=>h))
  (fun u hT=>(Int_any (p:Nat) u hT (by omega) (by omega)).mono (fun r w' h=>h))
  (fun u a b c d hT N1 N2=>mulP12 Fl Fip N1 N2 hT e1 F1)
  (fun u a b c d hT N1 N2=>mulP12 Fh Fiq N1 N2 hT e2 F2)
  (fun u a b c d hT N1 N2=>addP12' F1 F2 N1 N2 hT ea Fq)
  (fun u a b c d hT N1 N2=>Quot11 (w:=u) (n:=dN (gV 1074 V)) (m:=dN (gV 0 (p:Int))) (X:=dX (gV 1074 V)) (Y:=dX (gV 0 (p:Int))) (e:=dE (gV 1074 V)) (f:=dE (gV 0 (p:Int))) 0 ⟨N1.av (Nat.le_trans Fq.len (by decide)),N2.av (Nat.le_trans Fd.len (by decide)),Fq.rng,Fd.rng⟩ hT)
 rw [hV] at this;exact this
end
section
open Go.RowKit J
theorem below_drewN17 {B:Nat}{a w:World}(h:Below B a w) (n:Nat):Below B a (w.drewN n):=⟨h.os,h.tape,h.output,h.size,h.block⟩
theorem rise17 (xs:List Nat) (ao:Option Addr) (n cap:Nat) (w:World) (hF:Fs w.heap.size w ao xs) (hn:n=xs.length) (hb:n≤17592186044416) (hW:W64 xs) :
 Calls Tryz.prog 42 #[.slice ao n cap] w fun r w'=>(∃ b:Bool,r=.returned (.bool b)∧(b=true↔Edg xs))∧Below w.heap.size w w':=by
 by_cases h2:n<2
 · have d1:decide ((n:Int)<2)=true:=by simp;omega
   have HE:Aside (¬ Edg xs):=qsd (fun e=>by have:=e.1;omega)
   clear hF hn hW;go_enter Tryz.func42,Tryz.ntmps42;go_wp2;go_ret;exact ⟨⟨false,rfl,fun h=>absurd h (by decide),fun h=>absurd h HE.out⟩,Below.refl _ _⟩
 · have d1:decide ((n:Int)<2)=false:=by simp;omega
   by_cases h3:1024<n
   · have d2:decide ((1024:Int)<(n:Int))=true:=by simp;omega
     have HE:Aside (¬ Edg xs):=qsd (fun e=>by have:=e.2.1;omega)
     clear hF hn hW;go_enter Tryz.func42,Tryz.ntmps42;go_wp2;go_ret;exact ⟨⟨false,rfl,fun h=>absurd h (by decide),fun h=>absurd h HE.out⟩,Below.refl _ _⟩
   · have d2:decide ((1024:Int)<(n:Int))=false:=by simp;omega
     have HN:=(qsd (ai hn (ai hW hF)));clear hF hn hW;go_enter Tryz.func42,Tryz.ntmps42;go_wp2
     go_loopg [3] (n-1) (fun gk iv wr=>∃ k:Nat,gk+k=n∧1≤k∧iv=.int .i64 (k:Nat)∧Aside ((∀ i,i+1<k→ltB (xs.getD i 0) (xs.getD (i+1) 0)=true)∧Below w.heap.size w wr))
     case atStart=>exact ⟨1,by omega,by omega,by first | rfl | simp,fun i hi=>by omega,Below.refl _ _⟩
     case round =>
      obtain ⟨k,hgk,h1,rfl,HA⟩:=hrel
      by_cases hk:k<n
      · have hdk:decide ((k:Int)<(n:Int))=true:=by simp;omega
        have bk:(k:Int)<(n:Int):=by omega
        obtain ⟨k0,hk0⟩:∃ y,k=y+1:=⟨k-1,by omega⟩
        have wk0:IntKind.i64.wrap ((k:Int)-1)=(k0:Int):=wrapY (by omega) (by omega)
        have b0:(k0:Int)<(n:Int):=by omega
        obtain ⟨k1,hk1⟩:∃ x,x=k+1:=⟨_,rfl⟩;have wk:IntKind.i64.wrap ((k:Int)+1)=(k1:Int):=wrapY (by omega) (by omega)
        obtain ⟨hn,hW,hF⟩:=HN.out;obtain ⟨b,off,rfl,c2⟩:=hF.at HA.out.2 k (by omega)
        have c1:=hF.cell HA.out.2 k0 (by omega)
        obtain ⟨x,hx⟩:∃ x,x=xs.getD k0 0:=⟨_,rfl⟩;obtain ⟨y,hy⟩:∃ x,x=xs.getD k 0:=⟨_,rfl⟩;rw [←hx] at c1;rw [←hy] at c2;obtain ⟨t,ht⟩:∃ t,t=ltB x y:=⟨_,rfl⟩;have ht2:(FloatKind.f64.format.order x y==some Ordering.lt)=t:=ht.symm;have HK:Aside (k1=k+1∧k=k0+1∧ltB (xs.getD k0 0) (xs.getD (k0+1) 0)=t):=⟨hk1,hk0,by rw [ht,hx,hy,hk0]⟩
        clear hn hW hF hx hy hk1 hk0 ht
        cases t
        · have HE:Aside (¬ Edg xs):=qsd (edg_not HN.out.2.1 (i:=k0) (by have:=HN.out.1;have:=HK.out;omega) HK.out.2.2)
          have HB:=qsd (fun k=>below_drewN17 HA.out.2 k)
          go_wp2_with fail
          go_quiet (fail)
          go_wp2;refine bodyPost_ret (v:=.bool false) (by simp [results,Tryz.results42,go_sem]) rfl ?_
          exact ⟨⟨false,rfl,fun h=>absurd h (by decide),fun h=>absurd h HE.out⟩,by first | exact HB.out | exact HB.out _⟩
        · have HB:=qsd (fun k=>below_drewN17 HA.out.2 k)
          go_wp2_with fail
          go_quiet (fail)
          go_wp2
          go_roundg (n-k1)
          case measure=>have:=HK.out;omega
          case rel=>exact ⟨k1,by have:=HK.out;omega,by have:=HK.out;omega,by first | rfl | simp,fun i hi=>by
           by_cases e:i+1<k
           · exact HA.out.1 i e
           · have:=HK.out
             obtain rfl:i=k0:=by omega
             exact HK.out.2.2,HB.out _⟩
      · obtain rfl:k=n:=by
         have:=hgk;omega
        have hdk:decide ((k:Int)<(k:Int))=false:=by simp
        obtain ⟨hn,hW,hF⟩:=HN.out;obtain ⟨b,off,rfl,c2⟩:=hF.at HA.out.2 (k-1) (by omega)
        have c1:=hF.cell HA.out.2 0 (by omega)
        rw [Nat.add_zero] at c1;obtain ⟨k0,hk0⟩:∃ y,y=k-1:=⟨_,rfl⟩;rw [←hk0] at c2;have wk0:IntKind.i64.wrap ((k:Int)-1)=(k0:Int):=wrapY (by omega) (by omega)
        have b0:(k0:Int)<(k:Int):=by omega
        have hx:=hW.get 0;have hy:=hW.get k0;have hE:=edg_iff hW (by omega) (by omega) (fun i hi=>HA.out.1 i (by omega))
        rw [←hn,←hk0] at hE;obtain ⟨x,hxx⟩:∃ x,x=xs.getD 0 0:=⟨_,rfl⟩;obtain ⟨y,hyy⟩:∃ x,x=xs.getD k0 0:=⟨_,rfl⟩;rw [←hxx] at c1 hE hx;rw [←hyy] at c2 hE hy;have C1:=hid (inf17n x hx wr);have C2:=hid (inf17 y hy wr);have HB:=qsd HA.out.2;have HE:=qsd hE;clear hn hW hF hx hy hE hxx hyy HA HN hk0;obtain ⟨p,hp⟩:∃ p,p=infB true x:=⟨_,rfl⟩;obtain ⟨q,hq⟩:∃ p,p=infB false y:=⟨_,rfl⟩;rw [←hp] at C1 HE;rw [←hq] at C2 HE;clear hp hq
        go_wp2_with fail
        refine C1.out.mono ?_;rintro r v ⟨rfl,rfl⟩;clear C1
        cases p
        · go_wp2_with fail
          refine C2.out.mono ?_;rintro r v ⟨rfl,rfl⟩;clear C2;go_wp2;refine bodyPost_ret (v:=.bool (!q)) (by simp [results,Tryz.results42,go_sem]) rfl ?_
          exact ⟨⟨!q,rfl,by simpa using HE.out⟩,HB.out⟩
        · go_wp2
          refine bodyPost_ret (v:=.bool false) (by simp [results,Tryz.results42,go_sem]) rfl ?_
          exact ⟨⟨false,rfl,by simpa using HE.out⟩,HB.out⟩
end
section
open Go.RowKit J
attribute [local go_sem] st_float
noncomputable def edL (lo hi p:Nat):List Nat:=(List.range (p+1)).map (fun i=>edW lo hi i p)
noncomputable def edT (lo hi p k:Nat):List Nat:=(List.range k).map (fun i=>edW lo hi i p)++List.replicate (p+1-k) 0
theorem edT_len {lo hi p k:Nat}(h:k≤p+1):(edT lo hi p k).length=p+1:=by simp [edT];omega
theorem edT_set {lo hi p k:Nat}(h:k<p+1):(edT lo hi p k).set k (edW lo hi k p)=edT lo hi p (k+1):=by
 unfold edT;rw [List.set_append_right _ _ (by simp),List.length_map,List.length_range,Nat.sub_self,show p+1-k=(p+1-(k+1))+1 by omega,List.replicate_succ,List.set_cons_zero,List.range_succ,List.map_append,List.append_assoc]
 rfl
theorem edT_all {lo hi p:Nat}:edT lo hi p (p+1)=edL lo hi p:=by simp [edT,edL]
theorem edL_len (lo hi p:Nat):(edL lo hi p).length=p+1:=by simp [edL]
theorem ofNo17 {x:Nat}(hx:x<18446744073709551616) (fx:¬ finW x) (w:World) :
 Calls Tryz.prog 40 #[.float .f64 x] w fun r w'=>r=.returned (.tuple #[.agg #[.bool false,.slice none 0 0,.int .i64 0],.int .i64 30])∧Below w.heap.size w w':=by
 obtain ⟨e0,he,hf⟩:=bw_split17 x hx;have h7:magW x/4503599627370496=2047:=by unfold finW at fx;omega
 obtain ⟨s,hs⟩:∃ s,s=negW x:=⟨_,rfl⟩;obtain ⟨e,hee⟩:∃ s,s=magW x/4503599627370496:=⟨_,rfl⟩;obtain ⟨f,hff⟩:∃ s,s=magW x%4503599627370496:=⟨_,rfl⟩;rw [←hs,←hee,←hff] at e0;rw [←hee] at he h7;rw [←hff] at hf;rw [e0];have HA:Hid (∀ u,Calls Tryz.prog 77 #[.float .f64 (B.bw s e f)] u fun r w'=>r=.returned (.float .f64 (B.bw false e f))∧w'=u):=fun u=>B.abs_any s e f he hf u
 have HS:∀ u,Calls Tryz.prog 76 #[.float .f64 (B.bw false e f)] u fun r w'=>r=.returned (.agg #[.bool (B.ng false e f),.int .i64 (B.cls e f),.int .i64 (B.xp e),.int .u64 (B.fr e f)])∧Below u.heap.size u w':=fun u=>B.Split_any false e f he hf u
 have H0:Hid (∀ u,Calls Tryz.prog 76 #[.float .f64 0] u fun r w'=>r=.returned (.agg #[.bool false,.int .i64 0,.int .i64 (-1074),.int .u64 0])∧Below u.heap.size u w'):=fun u=>B.Split_any false 0 0 (by omega) (by omega) u
 have hng:B.ng false e f=false:=by unfold B.ng;split <;> rfl
 rw [hng] at HS;have h2:B.xp e=0∧B.fr e f=0:=by unfold B.xp B.fr;rw [if_pos h7,if_pos h7];exact ⟨rfl,rfl⟩
 rw [h2.1,h2.2] at HS;have hk:B.cls e f=3∨B.cls e f=4:=by unfold B.cls;rw [if_pos h7];split <;> simp
 exact of_wild _ _ _ w hk HA (hid HS) H0
theorem Edges17 (lo hi p:Nat) (w:World) (hT:Tab w) (hl:lo<18446744073709551616) (fl:finW lo) (hh:hi<18446744073709551616) (fh:finW hi) (h1:1≤p) (h2:p<1024) (hW:W64 (edL lo hi p)) :
 Calls Tryz.prog 10 #[.float .f64 lo,.float .f64 hi,.int .i64 (p:Nat)] w fun r w'=>((Edg (edL lo hi p)∧∃ gl,r=.returned (.tuple #[.slice (some ⟨gl,0,none⟩) (p+1) (p+1),.int .i64 0])∧OwnF w' gl (edL lo hi p)∧w.heap.size≤gl)∨(¬ Edg (edL lo hi p)∧r=.returned (.tuple #[.slice none 0 0,.int .i64 170])))∧Below w.heap.size w w':=by
 obtain ⟨ol,hol⟩:∃ o,o=gV 1074 (fvW lo):=⟨_,rfl⟩;obtain ⟨oh,hoh⟩:∃ o,o=gV 1074 (fvW hi):=⟨_,rfl⟩;have Fl:Fm ol:=by rw [hol];exact g_fm (by omega) (by omega) (bd_fv17 hl fl 2098 rfl)
 have Fh:Fm oh:=by rw [hoh];exact g_fm (by omega) (by omega) (bd_fv17 hh fh 2098 rfl)
 have CL:=hid (of12 lo hl fl w hT);have CH:Hid (∀ u,Tab u→Calls Tryz.prog 40 #[.float .f64 hi] u fun r w'=>(∃ v,r=.returned (.tuple #[.agg #[.bool (dN oh),v,.int .i64 (dE oh)],.int .i64 0])∧Nt u.heap.size w' v (dX oh))∧Below u.heap.size u w'):=fun u hu=>by rw [hoh];exact of12 hi hh fh u hu
 rw [g_oW,←hol] at CL
 have CB:Hid (∀ (u:World) (al ah:Option Addr) (cl ch i:Nat),Tab u→i≤p→Nt 0 u (.slice al (ws (dX ol)).length cl) (dX ol)→Nt 0 u (.slice ah (ws (dX oh)).length ch) (dX oh)→Calls Tryz.prog 41 #[.agg #[.bool (dN ol),.slice al (ws (dX ol)).length cl,.int .i64 (dE ol)],.agg #[.bool (dN oh),.slice ah (ws (dX oh)).length ch,.int .i64 (dE oh)],.int .i64 (i:Nat),.int .i64 (p:Nat)] u fun r w'=>r=.returned (.float .f64 (edW lo hi i p))∧Below u.heap.size u w'):=fun u al ah cl ch i hu hi N1 N2=>by
  rw [hol] at N1 ⊢;rw [hoh] at N2 ⊢;exact between17 lo _ i p hl fl hh fh hi (by omega) al ah cl ch u hu N1 N2
 have d1:decide ((p:Int)<1)=false:=by simp;omega
 have d2:decide ((1024:Int)≤(p:Int))=false:=by simp;omega
 obtain ⟨p1,hp1⟩:∃ q,q=p+1:=⟨_,rfl⟩;have wp:IntKind.i64.wrap ((p:Int)+1)=(p1:Int):=wrapY (by omega) (by omega)
 have hmk:=make_floats ((p1:Nat):Int) p1 rfl (by omega)
 have hp1b:p1≤1024:=by omega
 have FF:=(qsd (ai hT (ai Fl (ai Fh (ai hp1 hW)))));clear hl fl hh fh hT hol hoh Fl Fh hp1 hW;go_enter Tryz.func10,Tryz.ntmps10
 go_wp2_with fail
 refine CL.out.mono ?_;rintro r v1 ⟨⟨s1,rfl,hN⟩,hb⟩;obtain ⟨al,cl,rfl,hN0⟩:=Lo.shape FF.out.2.1 hN;obtain ⟨V1,hV1⟩:∃ V,V=v1.alloc (dc17 ol al cl):=⟨_,rfl⟩;obtain ⟨g8,hg8⟩:∃ g,g=v1.heap.size:=⟨_,rfl⟩
 have K1:Aside (Dk V1 g8 (dN ol) (.slice al (ws (dX ol)).length cl) (dE ol)∧Nt 0 V1 (.slice al (ws (dX ol)).length cl) (dX ol)∧Below w.heap.size w V1):=by
  rw [hV1,hg8];exact ⟨Dk.new _ _ _ _,hN0.below (below_alloc _ _),hb.trans ((below_alloc _ _).mono hb.size)⟩
 have HV:=(qsd (ai hV1 hg8));clear CL hb hN hN0 hV1 hg8
 go_upto_region 6 with fail
 rw [←HV.out.1,←HV.out.2];clear HV;have C:=hid (CH.out V1 (FF.out.1.belows K1.out.2.2))
 go_wp2_with fail
 refine C.out.mono ?_;rintro r v2 ⟨⟨s2,rfl,hN⟩,hb⟩;obtain ⟨ah,ch,rfl,hN0⟩:=Lo.shape FF.out.2.2.1 hN;obtain ⟨U,hU⟩:∃ V,V=v2.alloc (dc17 oh ah ch):=⟨_,rfl⟩;obtain ⟨g10,hg10⟩:∃ g,g=v2.heap.size:=⟨_,rfl⟩
 have K2:Aside (Dk U g8 (dN ol) (.slice al (ws (dX ol)).length cl) (dE ol)∧Nt 0 U (.slice al (ws (dX ol)).length cl) (dX ol)∧Dk U g10 (dN oh) (.slice ah (ws (dX oh)).length ch) (dE oh)∧Nt 0 U (.slice ah (ws (dX oh)).length ch) (dX oh)∧Below w.heap.size w U):=by
  rw [hU,hg10];have b2:=K1.out.2.2.trans (hb.mono K1.out.2.2.size);have al2:=below_alloc v2 (dc17 oh ah ch);exact ⟨(K1.out.1.below hb).below al2,(K1.out.2.1.below hb).below al2,Dk.new _ _ _ _,hN0.below al2,b2.trans (al2.mono b2.size)⟩
 have HV:=(qsd (ai hU hg10));clear C CH hb hN hN0 hU hg10 K1
 go_upto_region 9 with fail
 rw [←HV.out.1,←HV.out.2];clear HV;obtain ⟨W,hW'⟩:∃ W,W=U.alloc (.cells (madeCells #[.float .f64 0] p1) 27):=⟨_,rfl⟩;obtain ⟨gl,hgl⟩:∃ g,g=U.heap.size:=⟨_,rfl⟩
 have K3:Aside (OwnF W gl (edT lo hi p 0)∧Below U.heap.size U W∧U.heap.size≤gl):=by
  rw [hW',hgl];refine ⟨?_,below_alloc _ _,Nat.le_refl _⟩;have:=OwnF.made U p1;rw [FF.out.2.2.2.1] at this ⊢;unfold edT;simpa using this
 have HV:=(qsd (ai hW' hgl));clear hW' hgl
 go_upto_region 10 with fail
 rw [←HV.out.1,←HV.out.2];clear HV hmk;go_wp2
 go_loopg [40] p1 (fun gk iv wr=>∃ k:Nat,gk+k=p1∧iv=.int .i64 (k:Nat)∧Aside (OwnF wr gl (edT lo hi p k)∧Below U.heap.size U wr))
 case atStart=>exact ⟨0,by omega,by first | rfl | simp,K3.out.1,K3.out.2.1⟩
 case round =>
  have HG:=qsd K3.out.2.2;clear K3;obtain ⟨k,hgk,rfl,HA⟩:=hrel
  by_cases hk:k<p1
  · have hdk:decide ((k:Int)<(p1:Int))=true:=by simp;omega
    have lk:(k:Int)<(p1:Int):=by omega
    have lk0:(0:Int)≤(k:Int):=by omega
    obtain ⟨k1,hk1⟩:∃ x,x=k+1:=⟨_,rfl⟩;have wk:IntKind.i64.wrap ((k:Int)+1)=(k1:Int):=wrapY (by omega) (by omega)
    have D8:=K2.out.1.below HA.out.2;have D10:=K2.out.2.2.1.below HA.out.2;obtain ⟨p0,q1,q2,_,_,_⟩:=D8.facts;obtain ⟨r0,r1,r2,_,_,_⟩:=D10.facts;have hbw:Below w.heap.size w wr:=K2.out.2.2.2.2.trans (HA.out.2.mono K2.out.2.2.2.2.size);have C:=hid (CB.out wr al ah cl ch k (FF.out.1.belows hbw) (by have:=FF.out.2.2.2.1;omega) (K2.out.2.1.below HA.out.2) (K2.out.2.2.2.1.below HA.out.2))
    obtain ⟨y,hy⟩:∃ y,y=edW lo hi k p:=⟨_,rfl⟩;rw [←hy] at C;have HK:=(qsd (ai hk1 hy));clear D8 D10 hbw hk1 hy CB
    go_wp2_with fail
    refine C.out.mono ?_;rintro r v ⟨rfl,hb⟩;have o1:=HA.out.1.below hb HA.out.1.lt;have x1:=o1.cell k (by rw [edT_len (by have:=FF.out.2.2.2.1;omega)];have:=FF.out.2.2.2.1;omega)
    have x2:=o1.frozen k;obtain ⟨o5,ho5⟩:∃ z,z=(edT lo hi p k).getD k 0:=⟨_,rfl⟩;rw [←ho5] at x1
    have HN:Aside (OwnF (v.setCell ⟨gl,k,none⟩ (.float .f64 y)) gl (edT lo hi p k1)∧Below U.heap.size U (v.setCell ⟨gl,k,none⟩ (.float .f64 y))):=by
     have hset:=o1.set k y;rw [HK.out.2,edT_set (by have:=FF.out.2.2.2.1;omega),←HK.out.1] at hset
     have b2:=HA.out.2.trans (hb.mono HA.out.2.size);refine ⟨by rw [HK.out.2];exact hset,But.below b2 ((But.refl gl v).set k _) b2.size HG.out⟩
    clear o1 ho5 hb HA C p0 q1 q2 r0 r1 r2;go_wp2
    go_roundg (p1-k1)
    case measure=>have:=HK.out;omega
    case rel=>exact ⟨k1,by have:=HK.out;omega,by first | rfl | simp,HN.out⟩
  · obtain rfl:k=p1:=by omega
    have hdk:decide ((k:Int)<(k:Int))=false:=by simp
    have hO:=HA.out.1;rw [FF.out.2.2.2.1,edT_all] at hO;have hbw:Below w.heap.size w wr:=K2.out.2.2.2.2.trans (HA.out.2.mono K2.out.2.2.2.2.size);have hF:=hO.fs hO.lt (p+1);rw [List.take_of_length_le (by rw [edL_len];exact Nat.le_refl _)] at hF
    have C:=hid (rise17 (edL lo hi p) (some ⟨gl,0,none⟩) k k wr hF (by rw [edL_len];exact FF.out.2.2.2.1) (by have:=FF.out.2.2.2.1;omega) FF.out.2.2.2.2)
    have HO:=(qsd (ai hO (ai hbw (ai K2.out.2.2.2.2.size HG.out))));clear hO hbw hF HA CB K2
    go_wp2_with fail
    refine C.out.mono ?_;rintro r v ⟨⟨b,rfl,hbe⟩,hbv⟩;have HB:=qsd hbv;clear C hbv
    cases b
    · have HE:Aside (¬ Edg (edL lo hi p)):=qsd (fun h=>Bool.noConfusion (hbe.2 h))
      clear hbe;go_wp2;refine bodyPost_ret (v:=.tuple #[.slice none 0 0,.int .i64 170]) (by simp [results,Tryz.results10,go_sem]) rfl ?_
      exact ⟨.inr ⟨HE.out,rfl⟩,HO.out.2.1.trans (HB.out.mono HO.out.2.1.size)⟩
    · have HE:Aside (Edg (edL lo hi p)):=qsd (hbe.1 rfl)
      clear hbe;go_wp2;refine bodyPost_ret (v:=.tuple #[.slice (some ⟨gl,0,none⟩) k k,.int .i64 0]) (by simp [results,Tryz.results10,go_sem]) rfl ?_
      exact ⟨.inl ⟨HE.out,gl,by rw [FF.out.2.2.2.1],HO.out.1.below HB.out HO.out.1.lt,Nat.le_trans HO.out.2.2.1 HO.out.2.2.2⟩,HO.out.2.1.trans (HB.out.mono HO.out.2.1.size)⟩
theorem EdgesArg17 (lo hi:Nat) (z:Int) (w:World) (h:z<1∨1024≤z) :
 Calls Tryz.prog 10 #[.float .f64 lo,.float .f64 hi,.int .i64 z] w fun r w'=>r=.returned (.tuple #[.slice none 0 0,.int .i64 1])∧w'=w:=by
 by_cases h1:z<1
 · have d1:decide (z<1)=true:=by simp;omega
   go_enter Tryz.func10,Tryz.ntmps10;go_wp2;refine bodyPost_ret (v:=.tuple #[.slice none 0 0,.int .i64 1]) (by simp [results,Tryz.results10,go_sem]) rfl ?_
   exact ⟨rfl,rfl⟩
 · have d1:decide (z<1)=false:=by simp;omega
   have d2:decide ((1024:Int)≤z)=true:=by simp;omega
   go_enter Tryz.func10,Tryz.ntmps10;go_wp2;refine bodyPost_ret (v:=.tuple #[.slice none 0 0,.int .i64 1]) (by simp [results,Tryz.results10,go_sem]) rfl ?_
   exact ⟨rfl,rfl⟩
end
section
open Go.RowKit J
theorem self17 {x:Nat}(hx:x<18446744073709551616) (nx:nnW x):(FloatKind.f64.format.order x x != some .eq)=false:=by
 have:=eq17 hx hx nx nx;rw [decide_eq_true rfl] at this;simp only [bne,this];rfl
theorem isnan17 {x:Nat}(hx:x<18446744073709551616) (nx:nnW x) (w:World) :
 Calls Tryz.prog 158 #[.float .f64 x] w fun r w'=>r=.returned (.bool false)∧w'=w:=by
 have h:=self17 hx nx;go_enter Tryz.func158,Tryz.ntmps158;go_wp2;go_ret;exact ⟨by first | rfl | simp [h],rfl⟩
theorem isnan17s {x:Nat}(hx:x<18446744073709551616) (nx:nnW x) (w:World) :
 Calls Tryz.prog 119 #[.float .f64 x] w fun r w'=>r=.returned (.bool false)∧w'=w:=by
 have h:=self17 hx nx;go_enter Tryz.func119,Tryz.ntmps119;go_wp2;go_ret;exact ⟨by first | rfl | simp [h],rfl⟩
theorem less17 {x y:Nat}(hx:x<18446744073709551616) (hy:y<18446744073709551616) (nx:nnW x) (ny:nnW y) (w:World) :
 Calls Tryz.prog 118 #[.float .f64 x,.float .f64 y] w fun r w'=>r=.returned (.bool (decide (sP x<sP y)))∧w'=w:=by
 have h:=lt17 hx hy nx ny;have C:=hid (isnan17 hx nx w);obtain ⟨t,ht⟩:∃ t,t=decide (sP x<sP y):=⟨_,rfl⟩;rw [←ht] at h ⊢;clear ht;go_enter Tryz.func118,Tryz.ntmps118
 go_wp2_with fail
 refine C.out.mono ?_;rintro r v ⟨rfl,rfl⟩;go_wp2;go_ret;exact ⟨rfl,rfl⟩
theorem half17 {i j:Nat}(h:i<j) (hj:j≤1024):∃ m,m=(i+j)/2∧i≤m∧m<j:=⟨(i+j)/2,rfl,by omega,by omega⟩
theorem search17 (xs:List Nat) (ao:Option Addr) (n cap x:Nat) (w:World) (hF:Fs w.heap.size w ao xs) (hn:n=xs.length) (hW:W64 xs) (hE:Edg xs) (hx:x<18446744073709551616) (nx:nnW x) :
 Calls Tryz.prog 86 #[.slice ao n cap,.float .f64 x] w fun r w'=>(∃ (i:Nat) (b:Bool),r=.returned (.tuple #[.int .i64 (i:Nat),.bool b])∧i≤n∧(∀ k,k<i→sP (xs.getD k 0)<sP x)∧(∀ k,i≤k→k<n→sP x≤sP (xs.getD k 0))∧(b=true↔i<n∧sP (xs.getD i 0)=sP x))∧w'=w:=by
 have hl:n≤1024:=by have:=hE.2.1;omega
 have HN:=(qsd (ai hn (ai hW (ai hF (ai hE (ai hx nx))))));clear hF hn hW hE hx nx;go_enter Tryz.func86,Tryz.ntmps86;go_wp2
 go_loopg [7,8] n (fun gk iv jv wr=>∃ i j:Nat,gk+i=j∧j≤n∧iv=.int .i64 (i:Nat)∧jv=.int .i64 (j:Nat)∧wr=w∧Aside ((∀ k,k<i→sP (xs.getD k 0)<sP x)∧(∀ k,j≤k→k<n→sP x≤sP (xs.getD k 0))))
 case atStart=>exact ⟨0,n,by omega,Nat.le_refl _,by first | rfl | simp,by first | rfl | simp,rfl,fun k hk=>by omega,fun k h1 h2=>by omega⟩
 case round =>
  obtain ⟨i,j,hgk,hjn,rfl,rfl,rfl,HA⟩:=hrel
  by_cases hij:i<j
  · have hd:decide ((i:Int)<(j:Int))=true:=by simp;omega
    obtain ⟨m,hm,him,hmj⟩:=half17 hij (by omega)
    have w1:IntKind.i64.wrap ((i:Int)+(j:Int))=((i+j:Nat):Int):=wrapY (by omega) (by omega)
    obtain ⟨hn,hW,hF,hE,hx,nx⟩:=HN.out;obtain ⟨b,off,rfl,c2⟩:=hF.at (Below.refl _ _) m (by omega)
    have fy:=hE.2.2.1 _ (getD_mem17 (show m<xs.length by omega))
    have hmn:(m:Int)<(n:Int):=by omega
    have C:=hid (less17 (hW.get m) hx (Nat.le_of_lt fy) nx wr);obtain ⟨m1,hm1⟩:∃ x,x=m+1:=⟨_,rfl⟩;have wm:IntKind.i64.wrap ((m:Int)+1)=(m1:Int):=wrapY (by omega) (by omega)
    obtain ⟨y,hy⟩:∃ x,x=xs.getD m 0:=⟨_,rfl⟩;rw [←hy] at c2 C;have h2:(((i:Int)+(j:Int))/2)=(m:Int):=by omega
    obtain ⟨t,ht⟩:∃ t,t=decide (sP y<sP x):=⟨_,rfl⟩;rw [←ht] at C;have HK:Aside (m1=m+1∧y=xs.getD m 0∧t=decide (sP y<sP x)):=⟨hm1,hy,ht⟩;have hmb:m<2000:=by omega
    clear hn hW hF hE hx nx hy fy ht hm1 hm
    go_upto_region 5 with fail
    try rw [h2]
    go_wp2_with fail
    refine C.out.mono ?_;rintro r v ⟨rfl,rfl⟩;clear C
    cases t
    · go_wp2
      go_roundg (m-i)
      case measure=>omega
      case rel=>exact ⟨i,m,by omega,by omega,by first | rfl | simp,by first | rfl | simp,rfl,HA.out.1,fun k h1 h2=>by
       obtain ⟨q1,q2,q3⟩:=HK.out;have q4:=of_decide_eq_false q3.symm;rw [q2] at q4;have:=rise_le HN.out.2.2.2.1.2.2.2 h1 (by have:=HN.out.1;omega)
       omega⟩
    · go_wp2
      go_roundg (j-m1)
      case measure=>have:=HK.out.1;omega
      case rel=>exact ⟨m1,j,by have:=HK.out.1;omega,by omega,by first | rfl | simp,by first | rfl | simp,rfl,fun k h1=>by
       obtain ⟨q1,q2,q3⟩:=HK.out;have q4:=of_decide_eq_true q3.symm;rw [q2] at q4;have:=rise_le HN.out.2.2.2.1.2.2.2 (show k≤m by omega) (by have:=HN.out.1;omega)
       omega,HA.out.2⟩
  · obtain rfl:i=j:=by omega
    have hd:decide ((i:Int)<(i:Int))=false:=by simp
    obtain ⟨hn,hW,hF,hE,hx,nx⟩:=HN.out
    by_cases hin:i<n
    · have hd2:decide ((i:Int)<(n:Int))=true:=by simp;omega
      have bi:(i:Int)<(n:Int):=by omega
      obtain ⟨b,off,rfl,c2⟩:=hF.at (Below.refl _ _) i (by omega)
      have fy:=hE.2.2.1 _ (getD_mem17 (show i<xs.length by omega))
      have C:=hid (isnan17s (hW.get i) (Nat.le_of_lt fy) wr);have he:=eq17 (hW.get i) hx (Nat.le_of_lt fy) nx;obtain ⟨y,hy⟩:∃ x,x=xs.getD i 0:=⟨_,rfl⟩;rw [←hy] at c2 C he;obtain ⟨t,ht⟩:∃ t,t=decide (sP y=sP x):=⟨_,rfl⟩;rw [←ht] at he;have HK:Aside (y=xs.getD i 0∧t=decide (sP y=sP x)):=⟨hy,ht⟩;clear hn hW hF hE hx nx hy fy ht HN
      cases t
      · go_wp2_with fail
        refine C.out.mono ?_;rintro r v ⟨rfl,rfl⟩;clear C;go_wp2;refine bodyPost_ret (v:=.tuple #[.int .i64 (i:Nat),.bool false]) (by simp [results,Tryz.results86,go_sem]) rfl ?_
        exact ⟨⟨i,false,rfl,by omega,HA.out.1,HA.out.2,fun h=>absurd h (by decide),fun h=>by
         have:=of_decide_eq_false HK.out.2.symm;rw [HK.out.1] at this;exact absurd h.2 this⟩,rfl⟩
      · clear C
        go_wp2;refine bodyPost_ret (v:=.tuple #[.int .i64 (i:Nat),.bool true]) (by simp [results,Tryz.results86,go_sem]) rfl ?_
        exact ⟨⟨i,true,rfl,by omega,HA.out.1,HA.out.2,fun _=>⟨hin,by
         have:=of_decide_eq_true HK.out.2.symm;rw [HK.out.1] at this;exact this⟩,fun _=>rfl⟩,rfl⟩
    · have hd2:decide ((i:Int)<(n:Int))=false:=by simp;omega
      clear hn hW hF hE hx nx;go_wp2;refine bodyPost_ret (v:=.tuple #[.int .i64 (i:Nat),.bool false]) (by simp [results,Tryz.results86,go_sem]) rfl ?_
      exact ⟨⟨i,false,rfl,by omega,HA.out.1,HA.out.2,fun h=>absurd h (by decide),fun h=>absurd h.1 hin⟩,rfl⟩
end
end Go.Proofs.YtgfemeencgjneaaGreatDoor
