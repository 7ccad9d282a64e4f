import Derived.Test.YtblkpkgebigojaaGreatDoorZ5x
import Derived.Test.YtblkpkgebigojaaGreatDoorS10x
import Derived.Test.YtblkpkgebigojaaGreatDoorD39x
import Derived.BigQuiet
import Derived.Deep.RegionHeld3
import Derived.Deep.CutRange
import Derived.Test.YtblkpkgebigojaaGreatDoorD32cx
import Derived.Test.YtblkpkgebigojaaGreatDoorBIeeex
import Derived.Test.YtblkpkgebigojaaGreatDoorW24x
import Derived.ProofKit
import Derived.OpenShut
import Derived.ChangeOld
import Derived.SizedLaws
import Derived.ChangeArms
import Derived.Test.YtblkpkgebigojaaGreatDoorD10x
import Derived.KernelRfl
import Derived.ArgAppend
import Derived.Maps.AppendAt
import Derived.WalkMore
import Derived.OwnWalk
import Derived.Test.YtblkpkgebigojaaGreatDoorD16x
import Derived.Test.YtblkpkgebigojaaGreatDoorD21x
import Derived.Deep.RegionWith
import Derived.Test.YtblkpkgebigojaaGreatDoorD30x
import Derived.Deep.Cut
import Derived.RangeFuncNested
import Derived.RangeFuncBound
import Derived.RangeFuncCalls
import Derived.RangeFuncLeaves
import Derived.RangeFuncBox
import Derived.Shelf.Abstract
import Derived.Shelf.RegionOpen
import Derived.WalkKit
import Derived.OwnWalkIn
import Derived.TacticsInMore
import Derived.LoopNIn
import Derived.LoopIn
import Derived.Deep.RegionHeld
import Derived.Deep.LoopGhost
set_option linter.unusedVariables false
set_option linter.unusedSimpArgs false
set_option maxHeartbeats 16000000
set_option maxRecDepth 20000
namespace Go.Proofs.YtblkpkgebigojaaGreatDoor
namespace J
end J
section
open Go.RowKit
def Iv (o:Option (Bool×Nat×Int)) (lo hi:Int):Prop:=∃ n X e,o=some (n,X,e)/\tQ n X e/\(X=0\/(lo<=e/\e+(bl X:Int)<=hi))
theorem Iv.mono {o:Option (Bool×Nat×Int)}{a b c d:Int}(h:Iv o a b) (h1:c<=a) (h2:b<=d):Iv o c d:=by
 obtain ⟨n,X,e,h,F,hb⟩:=h;exact ⟨n,X,e,h,F,ae⟩
theorem zJ (n:Bool) (X:Nat) (e a b:Int) (h:X=0\/(a<=e/\e+(bl X:Int)<=b)) (hw:b-a<=262144) (ha:-1048576<=a) (hb:b<=1048576):Iv (mkS n X e) a b:=by
 by_cases h0:X=0
 · subst h0;rw [fA];exact ⟨false,0,0,rfl,⟨.inr ⟨rfl,rfl,rfl⟩,by rw [dJ];omega,ae,ae⟩,.inl rfl⟩
 · obtain ⟨h1,h2⟩:=h.resolve_left h0;obtain ⟨k,o1,o2,o3⟩:=iB X h0;have hp:=dL (X/2^lo X) ae
   have e1:mkS n X e=some (n,X/2^lo X,e+lo X):=by
    unfold mkS;rw [if_neg h0,if_neg ae]
   exact ⟨n,_,_,e1,cu e1,.inr ae⟩
theorem rQ (X Y:Nat):bl (X*Y)<=bl X+bl Y:=eB (by rw [aR];exact Aq (iL X) (iL Y))
theorem Iv.mul {o p:Option (Bool×Nat×Int)}{a b c d:Int}(h1:Iv o a b) (h2:Iv p c d) (hw:(b+d)-(a+c)<=262144) (hl:-1048576<=a+c) (hh:b+d<=1048576):Iv (eY o p) (a+c) (b+d):=by
 obtain ⟨n,X,e,rfl,F,hx⟩:=h1;obtain ⟨m,Y,f,rfl,G,hy⟩:=h2;show Iv (mkS (n != m) (X*Y) (e+f)) _ _;refine zJ _ _ _ _ _ ?_ hw hl hh;rcases hx with rfl|hx
 · left;rw [dZ]
 · rcases hy with rfl | hy
   · left;rw [mX]
   · right
     have:=rQ X Y;omega
theorem KH {X k:Nat}{j:Nat}(h:bl X+k<=j):X*2^k<2^j:=by
 have h1:=iL X;have h2:X*2^k<2^bl X*2^k:=fM h1 (bK k);rw [<-aR] at h2;exact iF h2 (fE aO h)
theorem CE (n m:Bool) (X Y:Nat) (e f a b:Int) (hfe:f<=e) (ha:a<=f) (h1:e+(bl X:Int)<=b) (h2:f+(bl Y:Int)<=b) (hw:b+1-a<=262144) (hl:-1048576<=a) (hh:b+1<=1048576) (hX:X≠0):Iv (jI n X e m Y f) a (b+1):=by
 have hp:=dL X hX;unfold jI;rw [if_neg ae];obtain ⟨j,hj⟩:∃ j:Nat,(j:Int)=b-f:=⟨(b-f).toNat,ae⟩;have b1:X*2^(e-f).toNat<2^j:=KH ae;have b2:Y<2^j:=iF (iL Y) (fE aO ae)
 have fin:∀ (s:Bool) (Z:Nat),Z<2^(j+1)->Iv (mkS s Z f) a (b+1):=by
  intro s Z hZ;refine zJ s Z f a (b+1) ?_ hw hl hh
  by_cases h0:Z=0
  · exact .inl h0
  · right
    have:=eB hZ;omega
 have b3:(2:Nat)^(j+1)=2*2^j:=by rw [dS,dh]
 split
 · exact fin _ _ ae
 · split
   · exact fin _ _ ae
   · exact fin _ _ ae
theorem Iv.add {o p:Option (Bool×Nat×Int)}{a b:Int}(h1:Iv o a b) (h2:Iv p a b) (hw:b+1-a<=262144) (hl:-1048576<=a) (hh:b+1<=1048576):Iv (fQ o p) a (b+1):=by
 have h1':=h1;have h2':=h2;obtain ⟨n,X,e,rfl,F,hx⟩:=h1;obtain ⟨m,Y,f,rfl,G,hy⟩:=h2;show Iv (qB (n,X,e) (m,Y,f)) a (b+1);unfold qB;simp only
 by_cases hX:X=0
 · rw [if_pos hX];exact h2'.mono ae ae
 · rw [if_neg hX]
   by_cases hY:Y=0
   · rw [if_pos hY];exact h1'.mono ae ae
   · rw [if_neg hY];have ex:=hx.resolve_left hX;have ey:=hy.resolve_left hY
     split
     · exact CE m n Y X f e a b ae ex.1 ey.2 ex.2 hw hl hh hY
     · exact CE n m X Y e f a b ae ey.1 ex.2 ey.2 hw hl hh hX
def tX (o:Option (Bool×Nat×Int)):Int:=zv (-1048576) (dN o,dX o,dE o)
theorem fvO {o:Option (Bool×Nat×Int)}{n:Bool}{X:Nat}{e:Int}(h:mkS n X e=o) (hs:o.isSome=true):Fv (-1048576) o (tX o):=by
 cases o with
 | none=>cases hs
 | some d=>obtain ⟨n1,X1,e1⟩:=d;exact ⟨n1,X1,e1,rfl,cu h,rfl⟩
theorem Fv.OM {o:Option (Bool×Nat×Int)}{B z:Int}(h:Fv B o z):dX o=0↔z=0:=by
 obtain ⟨n,X,e,rfl,F,rfl⟩:=h.ex;constructor
 · intro h0;exact oh B h0
 · intro h0;show X=0;rcases jO X with q|q
   · exact q
   · exfalso;have:=jm q (bK (e-B).toNat);unfold zv o7 at h0
     cases n <;> simp only [fw,if_false,if_true] at h0 <;> omega
theorem Fv.Rm {o:Option (Bool×Nat×Int)}{B z:Int}(h:Fv B o z):dN o=true↔z<0:=by
 obtain ⟨n,X,e,rfl,F,rfl⟩:=h.ex;show n=true↔_;rcases F.odd with q|⟨rfl,rfl,rfl⟩
 · have:=jm (show 0<X by omega) (bK (e-B).toNat);unfold zv o7
   cases n <;> simp only [fw,if_false,if_true,false_iff,true_iff] <;> omega
 · simp [zv]
theorem Fv.Fj {o:Option (Bool×Nat×Int)}{B z:Int}(h:Fv B o z):mkS (dN o) (dX o) (dE o)=o:=by
 obtain ⟨n,X,e,rfl,F,rfl⟩:=h.ex;exact F.self
theorem OO (x y:Int):jg x y=-jg y x:=by unfold jg;split <;> split <;> omega
theorem Fv.len {o:Option (Bool×Nat×Int)}{B z:Int}(h:Fv B o z):(ws (dX o)).length<=8192:=by
 obtain ⟨n,X,e,rfl,F,_⟩:=h.ex;exact dY F
def Al (w:World) (v:Value) (X:Nat):Prop:=∃ a l c xs,v=.slice a l c/\Arg w a l c xs/\val xs=X/\l<=2000000
theorem Al.below {w w':World}{v:Value}{X:Nat}(h:Al w v X) (hb:Below w.heap.size w w'):Al w' v X:=by
 obtain ⟨a,l,c,xs,rfl,hA,hv,hl⟩:=h;exact ⟨a,l,c,xs,rfl,hA.below hb,hv,hl⟩
def Fm (o:Option (Bool×Nat×Int)):Prop:=∃ B x,Fv B o x
theorem Fm.len {o:Option (Bool×Nat×Int)}(h:Fm o):(ws (dX o)).length<=8192:=by obtain ⟨B,x,h⟩:=h;exact h.len
theorem Fm.re {o:Option (Bool×Nat×Int)}(h:Fm o):mkS (dN o) (dX o) (dE o)=o:=by obtain ⟨B,x,h⟩:=h;exact h.Fj
theorem Fm.pM {o:Option (Bool×Nat×Int)}(h:Fm o):-9223372036854775808<=dE o/\dE o<=9223372036854775807:=by
 obtain ⟨B,x,h⟩:=h;obtain ⟨n,X,e,rfl,F,_⟩:=h.ex;have:=F.up;have:=F.down;show -9223372036854775808<=e/\e<=9223372036854775807;omega
def OP (V:Int):Option (Bool×Nat×Int):=mkS (decide (V<0)) V.natAbs (-1074)
theorem Rn (V:Int):o7 (decide (V<0))*(V.natAbs:Int)=V:=by
 unfold o7
 by_cases h:V<0
 · rw [decide_eq_true h,if_pos rfl];omega
 · rw [decide_eq_false h,if_neg aO];omega
theorem UH (V:Int) (m:Nat) (hm:m<=200000) (hV:V.natAbs<2^m):Fo (OP V) (V*(UU:Int)) (-1074) ((m:Int)-1074):=by
 by_cases h0:V=0
 · subst h0;refine ⟨⟨false,0,0,?_,?_,?_,.inl rfl⟩⟩
   · unfold OP;exact fA _ _
   · exact cu (fA false 0)
   · rw [oh _ rfl];simp
 · obtain ⟨X,e,h1,h2,h3,h4⟩:=Uw (decide (V<0)) V.natAbs (-1074) (-1074) ((m:Int)-1074) ae ae (by have:=blLe hV;omega) ae ae ae;refine ⟨⟨_,X,e,h1,cu h1,?_,.inr ⟨h3,h4⟩⟩⟩;rw [kX h1 (-2097152) (.inr ae)];have e1:(2:Nat)^((-1074:Int) - -2097152).toNat=UU*SS:=US _ aO;rw [e1,fq,fq,<-kN,Rn,kN]
theorem Ro {o:Option (Bool×Nat×Int)}{V L H:Int}(h:Fo o (V*(UU:Int)) L H) (m:Nat) (hm:m<=200000) (hV:V.natAbs<2^m):o=OP V:=by
 obtain ⟨n,X,e,rfl,F1,z1,_⟩:=h.ex;obtain ⟨n',X',e',h2,F2,z2,_⟩:=(UH V m hm hV).ex;rw [h2];obtain ⟨rfl,rfl,rfl⟩:=Oi F1 F2 (-2097152) ae (by rw [z1,z2]);rfl
theorem OQ {x:Nat}(hx:Wd x) (fx:jC x) (m:Nat) (hm:m=2098):(dm x).natAbs<2^m:=by
 unfold dm;rw [Uz];have:=Ou (eu x) fx 2045 rfl;obtain ⟨a,ha⟩:∃ a,a=2045:=⟨_,rfl⟩;have h2:=Ou (eu x) fx a ha;rw [show m=53+a by omega,aR];exact h2
theorem OT {x:Nat}(hx:Wd x) (fx:jC x):Uv (iO x) (eu x)=OP (dm x):=by
 obtain ⟨n,X,e,h1,h2,_⟩:=Xv (iO x) (eu x) fx;rw [h1];exact Ro h2 2098 ae (OQ hx fx 2098 rfl)
theorem Rp (x:Nat) (hx:Wd x/\jC x) (w:World) (hT:il w) :
 Calls Tryz.prog 51 #[.float .f64 x] w fun r w'=>(∃ v,r=.returned (.tuple #[.agg #[.bool (dN (OP (dm x))),v,.int .i64 (dE (OP (dm x)))],.int .i64 0])/\Nt w.heap.size w' v (dX (OP (dm x))))/\Below w.heap.size w w':=by
 obtain ⟨h1,h2,h3,_⟩:=Hq (iO x) (eu x) (jN hx.2);have:=Ug (iO x) (eu x/4503599627370496) (eu x%4503599627370496) h2 h3 w hT;rw [<-h1,<-Ti x hx.1] at this;refine this.mono ?_;rintro r w' ⟨⟨v,rfl,hN⟩,hb⟩;have e:=OT hx.1 hx.2;unfold Uv at e;rw [e] at hN |-;have he:SY (eu x/4503599627370496)=0:=by unfold SY;rw [if_neg (by have:=hx.2;omega)]
 rw [he];exact ⟨⟨v,rfl,hN⟩,hb⟩
end
section
open Go.RowKit J
theorem yz (g:Nat) (w:World) (x y z:Value):But g w (dW w g x y z):=(((But.refl g w).set _ _).set _ _).set _ _
def Lo (w:World) (g:Nat) (o:Option (Bool×Nat×Int)):Prop:=∃ a c,Dk w g (dN o) (.slice a (ws (dX o)).length c) (dE o)/\Nt 0 w (.slice a (ws (dX o)).length c) (dX o)
theorem Lo.below {w w':World}{g:Nat}{o:Option (Bool×Nat×Int)}(h:Lo w g o) (hb:Below w.heap.size w w'):Lo w' g o:=by
 obtain ⟨a,c,h1,h2⟩:=h;exact ⟨a,c,h1.below hb,h2.below hb⟩
theorem Lo.lt {w:World}{g:Nat}{o:Option (Bool×Nat×Int)}(h:Lo w g o):g<w.heap.size:=by
 obtain ⟨a,c,h1,h2⟩:=h;exact h1.lt
theorem Nt.XW {lo g:Nat}{w:World}{v:Value}{X:Nat}{n:Bool}{a:Option Addr}{l c:Nat}{e:Int}(h:Nt lo w v X) (D:Dk w g n (.slice a l c) e) (x y z:Value):Nt lo (dW w g x y z) v X:=by
 refine h.off (yz g w x y z) ?_;rcases h.2 with ⟨rfl,_⟩|⟨g',cap,cur,rfl,_,hg,_⟩
 · simp [Value.ownBlock]
 · intro e';obtain rfl:g'=g:=by simpa [Value.ownBlock] using e'
   rw [show w.heap[g']?=_ from D] at hg;simp at hg
theorem Lo.new {w:World}{o:Option (Bool×Nat×Int)}{a:Option Addr}{c:Nat}(hN:Nt 0 w (.slice a (ws (dX o)).length c) (dX o)):Lo (w.alloc (Obj.cells #[.bool (dN o),.slice a (ws (dX o)).length c,.int .i64 (dE o)] 62)) w.heap.size o :=
 ⟨a,c,Dk.new _ _ _ _,hN.below (af _ _)⟩
abbrev qO:Option (Bool×Nat×Int):=some (false,0,0)
theorem tJ:(ws (dX qO)).length=0:=by simp [dX,bN]
theorem Lo.zero (w:World):Lo (w.alloc (Obj.cells #[.bool false,.slice none 0 0,.int .i64 0] 62)) w.heap.size qO:=by
 refine ⟨none,0,?_,?_⟩
 · rw [tJ];exact Dk.new _ _ _ _
 · rw [tJ];exact Nt.nil _ _
theorem KI {B g:Nat}{a w:World}(h:Below B a w) (hB:B<=w.heap.size) (hg:B<=g) (x y z:Value):Below B a (dW w g x y z):=But.below h (yz g w x y z) hB hg
theorem Fm.er {o:Option (Bool×Nat×Int)}(h:Fm o):uw o=0:=by
 obtain ⟨B,x,h⟩:=h;obtain ⟨n,X,e,rfl,_⟩:=h.ex;rfl
theorem Fm.a12 {o:Option (Bool×Nat×Int)}{w:World}{a:Option Addr}{c:Nat}(F:Fm o) (N:Nt 0 w (.slice a (ws (dX o)).length c) (dX o)):Arg w a (ws (dX o)).length c (ws (dX o)):=(N.bR (dD F.len aO)).2
theorem UI {U:World}{a b:Option Addr}{c d:Nat}{o p q:Option (Bool×Nat×Int)}(F:Fm o) (G:Fm p) (N1:Nt 0 U (.slice a (ws (dX o)).length c) (dX o)) (N2:Nt 0 U (.slice b (ws (dX p)).length d) (dX p)) (hT:il U) (h:eY o p=q) (H:Fm q) :
 Calls Tryz.prog 89 #[.agg #[.bool (dN o),.slice a (ws (dX o)).length c,.int .i64 (dE o)],.agg #[.bool (dN p),.slice b (ws (dX p)).length d,.int .i64 (dE p)]] U fun r w'=>(∃ v,r=.returned (.tuple #[.agg #[.bool (dN q),v,.int .i64 (dE q)],.int .i64 0])/\Nt U.heap.size w' v (dX q))/\Below U.heap.size U w':=by
 have:=N9 (F.a12 N1) (G.a12 N2) hT (dN o) (dN p) (dE o) (dE p) F.pM.1 F.pM.2 G.pM.1 G.pM.2;rw [ax,ax,F.re,G.re,h] at this;unfold di at this;rw [H.er] at this;exact this
theorem Rs {U:World}{a b:Option Addr}{c d:Nat}{o p q:Option (Bool×Nat×Int)}(F:Fm o) (G:Fm p) (N1:Nt 0 U (.slice a (ws (dX o)).length c) (dX o)) (N2:Nt 0 U (.slice b (ws (dX p)).length d) (dX p)) (hT:il U) (h:fQ o p=q) (H:Fm q) :
 Calls Tryz.prog 88 #[.agg #[.bool (dN o),.slice a (ws (dX o)).length c,.int .i64 (dE o)],.agg #[.bool (dN p),.slice b (ws (dX p)).length d,.int .i64 (dE p)]] U fun r w'=>(∃ v,r=.returned (.tuple #[.agg #[.bool (dN q),v,.int .i64 (dE q)],.int .i64 0])/\Nt U.heap.size w' v (dX q))/\Below U.heap.size U w':=by
 have:=Ci (F.a12 N1) (G.a12 N2) hT (dN o) (dN p) (dE o) (dE p) F.pM.1 F.pM.2 G.pM.1 G.pM.2;rw [ax,ax,F.re,G.re,h] at this;unfold di at this;rw [H.er] at this;exact this
theorem Lo.shape {w:World}{lo:Nat}{v:Value}{q:Option (Bool×Nat×Int)}(H:Fm q) (h:Nt lo w v (dX q)):∃ a c,v=.slice a (ws (dX q)).length c/\Nt 0 w v (dX q):=by
 obtain ⟨a,c,rfl,_⟩:=h.arg (dD H.len aO);exact ⟨a,c,rfl,h.mono (lh _)⟩
end
section
open Go.RowKit
theorem zK (x y c:Int) (hc:0<c):jg (x*c) (y*c)=jg x y:=by
 unfold jg;have h1:x*c<y*c↔x<y:=⟨fun h=>yH h (xn hc),fun h=>yG h hc⟩;have h2:y*c<x*c↔y<x:=⟨fun h=>yH h (xn hc),fun h=>yG h hc⟩;simp only [h1,h2]
theorem UJ {n:Bool}{X:Nat}{e:Int}(F:tQ n X e) (B:Int):Fv B (some (n,X,e)) (zv B (n,X,e)):=⟨n,X,e,rfl,F,rfl⟩
end
section
open Go.RowKit Go.Shelf J
attribute [local go_sem] Oper.semAt_some
def oW (x:Nat):Option (Bool×Nat×Int):=OP (dm x)
end
section
open Go.RowKit
theorem Iv.fm {o:Option (Bool×Nat×Int)}{a b:Int}(h:Iv o a b):Fm o:=by
 obtain ⟨n,X,e,rfl,F,_⟩:=h;exact ⟨0,_,UJ F 0⟩
theorem UK {o:Option (Bool×Nat×Int)}{B x:Int}(h:Fv B o x) (hB:B<=-1048576) (D:Int) (hD:D<=0):Fv (B+D) o (x*((2^(0-D).toNat:Nat):Int)):=by
 obtain ⟨n',X',e',hx,F',hz⟩:=h.ex;refine ⟨n',X',e',hx,F',?_⟩;rw [<-hz];unfold zv;simp only;rw [kN,<-fq,aU,<-aR];have:=F'.down;rw [show (e'-(B+D)).toNat=(e'-B).toNat+(0-D).toNat by omega]
end
section
open Go.RowKit J
def EK:Nat:=1048576
theorem exP (a:Nat):∃ u:Nat,u=2^a:=⟨_,rfl⟩
noncomputable def MM:Nat:=Classical.choose (exP EK)
theorem UL:MM=2^EK:=DN (exP EK)
theorem XZ:0<MM:=by rw [UL];exact bK _
theorem Fm.sm {o:Option (Bool×Nat×Int)}(h:Fm o):o.isSome=true:=by
 obtain ⟨B,x,h⟩:=h;obtain ⟨n,X,e,rfl,_⟩:=h.ex;rfl
theorem Fm.val {o:Option (Bool×Nat×Int)}(h:Fm o):Fv (-1048576) o (tX o):=fvO h.re h.sm
theorem Fv.uniq {B x y:Int}{o:Option (Bool×Nat×Int)}(h1:Fv B o x) (h2:Fv B o y):x=y:=by
 obtain ⟨n,X,e,ho,_,hz⟩:=h1.ex;obtain ⟨n',X',e',ho',_,hz'⟩:=h2.ex;rw [ho] at ho'
 cases ho'
 exact hz.symm.trans hz'
theorem val_mul {o p:Option (Bool×Nat×Int)}(F:Fm o) (G:Fm p) (H:Fm (eY o p)):tX (eY o p)*(MM:Int)=tX o*tX p:=by
 have h1:=Fv.mul aO aO F.val G.val H.sm;have h2:=UK H.val aO (-1048576) aO;rw [show ((0:Int) - -1048576).toNat=EK from rfl,<-UL] at h2;exact (h1.uniq h2).symm
theorem val_add {o p:Option (Bool×Nat×Int)}(F:Fm o) (G:Fm p) (H:Fm (fQ o p)):tX (fQ o p)=tX o+tX p :=
 H.val.uniq (Fv.add aO F.val G.val H.sm)
theorem vX {o p:Option (Bool×Nat×Int)}(F:Fm o) (G:Fm p) (h:tX o=tX p):o=p:=by
 obtain ⟨h1,h2,h3⟩:=Fv.same aO F.val G.val h;obtain ⟨n,X,e,rfl,_⟩:=F.val.ex;obtain ⟨m,Y,f,rfl,_⟩:=G.val.ex;have h1:n=m:=h1;have h2:X=Y:=h2;have h3:e=f:=h3;rw [h1,h2,h3]
theorem val_mk {n:Bool}{X:Nat}{e:Int}(h:Fm (mkS n X e)) (he:-1048576<=e) (k:Nat) (hk:(e+1048576).toNat=k):tX (mkS n X e)=o7 n*((X*2^k:Nat):Int):=by
 obtain ⟨⟨n',Y,f⟩,ho⟩:=Am.1 h.sm;have:=kX ho (-1048576) (.inr he);rw [show (e - -1048576).toNat=k by rw [<-hk];congr 1] at this;rw [<-this,ho];rfl
theorem Fu (V:Int) (K:Nat):o7 (decide (V<0))*((V.natAbs*K:Nat):Int)=V*(K:Int):=by
 rw [fq,<-kN];congr 1;unfold o7
 by_cases h:V<0
 · rw [decide_eq_true h,if_pos rfl];omega
 · rw [decide_eq_false h,if_neg aO];omega
theorem X0 (V:Int) (m:Nat) (hm:m<=100000) (hV:V.natAbs<2^m):Iv (GJ V) (-2148) ((m:Int)-2148):=by
 unfold GJ;refine zJ _ _ _ _ _ (.inr ⟨ae,?_⟩) ae ae ae;have:=eB hV;omega
theorem X3 (V:Int) (m:Nat) (hm:m<=100000) (hV:V.natAbs<2^m):Fm (GJ V):=(X0 V m hm hV).fm
def Bd (m:Nat) (V:Int):Prop:=V.natAbs<=2^m
theorem Bd.mono {m k:Nat}{V:Int}(h:Bd m V) (hk:m<=k):Bd k V:=dD h (fE aO hk)
theorem Bd.lt {m:Nat}{V:Int}(h:Bd m V):V.natAbs<2^(m+1):=by
 unfold Bd at h;rw [dS];have:=bK m;omega
theorem Bd.mul {a b:Nat}{V W:Int}(h:Bd a V) (k:Bd b W):Bd (a+b) (V*W):=by
 unfold Bd at *;rw [Int.natAbs_mul,aR];exact kM h k
theorem Bd.add {m:Nat}{V W:Int}(h:Bd m V) (k:Bd m W):Bd (m+1) (V+W):=by
 unfold Bd at *;rw [dS];omega
theorem Bd.neg {m:Nat}{V:Int}(h:Bd m V):Bd m (-V):=by
 unfold Bd at *;rw [Int.natAbs_neg];exact h
theorem Bd.sub {m:Nat}{V W:Int}(h:Bd m V) (k:Bd m W):Bd (m+1) (V-W):=by
 rw [Int.sub_eq_add_neg];exact h.add k.neg
theorem Bd.nat {n k:Nat}(h:n<=2^k):Bd k (n:Int):=h
def gV (u:Nat) (V:Int):Option (Bool×Nat×Int):=mkS (decide (V<0)) V.natAbs (-(u:Int))
theorem KJ {u m:Nat}{V:Int}(hu:u<=100000) (hm:m<=99999) (hV:Bd m V):Iv (gV u V) (-(u:Int)) (((m+1:Nat):Int)-(u:Int)):=by
 unfold gV;refine zJ _ _ _ _ _ (.inr ⟨ae,?_⟩) ae ae ae;have:=eB hV.lt;omega
theorem CF {u m:Nat}{V:Int}(hu:u<=100000) (hm:m<=99999) (hV:Bd m V):Fm (gV u V):=(KJ hu hm hV).fm
theorem qG {u:Nat}{V:Int}(h:Fm (gV u V)) (hu:u<=1000000) (k:Nat) (hk:k+u=EK):tX (gV u V)=V*((2^k:Nat):Int):=by
 unfold gV at h |-;rw [val_mk h ae k (by unfold EK at hk;omega),Fu]
theorem UM (u:Nat) (hu:u<=1000000):∃ k,k+u=EK:=⟨EK-u,by unfold EK;omega⟩
theorem X4 {u v a b:Nat}{V W:Int}(hu:u<=50000) (hv:v<=50000) (ha:a<=40000) (hb:b<=40000) (h1:Bd a V) (h2:Bd b W):eY (gV u V) (gV v W)=gV (u+v) (V*W):=by
 have F:=KJ (u:=u) ae ae h1;have G:=KJ (u:=v) ae ae h2;have hF:=(F.mul G ae ae ae).fm;have hG:=CF (u:=u+v) ae ae (h1.mul h2);refine vX hF hG ?_;obtain ⟨k1,e1⟩:=UM u ae;obtain ⟨k2,e2⟩:=UM v ae;obtain ⟨k3,e3⟩:=UM (u+v) ae;have h:=val_mul F.fm G.fm hF;rw [qG F.fm ae k1 e1,qG G.fm ae k2 e2] at h;rw [qG hG ae k3 e3];have hM:=XZ;refine Int.eq_of_mul_eq_mul_right (a:=(MM:Int)) ae (h.trans ?_)
 have e:((2^k1:Nat):Int)*((2^k2:Nat):Int)=((2^k3:Nat):Int)*(MM:Int):=by
  rw [<-fq,<-fq,UL,<-aR,<-aR,show k1+k2=k3+EK by omega]
 rw [kN (V*W),<-e,kN,kN,Int.mul_left_comm W]
theorem Tq {u m:Nat}{V W:Int}(hu:u<=100000) (hm:m<=90000) (h1:Bd m V) (h2:Bd m W):fQ (gV u V) (gV u W)=gV u (V+W):=by
 have F:=KJ (u:=u) ae ae h1;have G:=KJ (u:=u) ae ae h2;have hF:=(F.add G ae ae ae).fm;have hG:=CF (u:=u) ae ae (h1.add h2);refine vX hF hG ?_;obtain ⟨k1,e1⟩:=UM u ae;rw [val_add F.fm G.fm hF,qG F.fm ae k1 e1,qG G.fm ae k1 e1,qG hG ae k1 e1,Int.add_mul]
theorem X5 (u:Nat) (W:Int):UG (gV u W)=gV u (-W):=by
 unfold gV;rw [OL,Int.natAbs_neg]
 by_cases h:W=0
 · subst h;rw [Int.natAbs_zero,fA,fA]
 · congr 1
   by_cases h1:W<0
   · rw [decide_eq_true h1,decide_eq_false ae];rfl
   · rw [decide_eq_false h1,decide_eq_true ae];rfl
theorem X6 {u m:Nat}{V W:Int}(hu:u<=100000) (hm:m<=90000) (h1:Bd m V) (h2:Bd m W):fQ (gV u V) (mkS (!dN (gV u W)) (dX (gV u W)) (dE (gV u W)))=gV u (V-W):=by
 rw [Cz (CF (u:=u) ae ae h2).sm,X5,Tq hu hm h1 h2.neg,<-Int.sub_eq_add_neg]
theorem rR (u:Nat):gV u 0=qO:=fA _ _
theorem UN {u m:Nat}{V:Int}(hu:u<=100000) (hm:m<=90000) (h:Bd m V):(dX (gV u V)=0↔V=0)/\(dN (gV u V)=true↔V<0):=by
 have F:=CF (u:=u) hu ae h;obtain ⟨k,e⟩:=UM u ae;have hv:=F.val;rw [qG F ae k e] at hv;have hp:(0:Int)<((2^k:Nat):Int):=by have:=bK k;omega
 refine ⟨hv.OM.trans ?_,hv.Rm.trans ?_⟩
 · constructor
   · intro q;rcases Int.mul_eq_zero.1 q with q|q
     · exact q
     · omega
   · rintro rfl;rw [Int.zero_mul]
 · constructor
   · intro q;rcases Int.lt_or_le V 0 with r|r
     · exact r
     · have:=Int.mul_nonneg r (xn hp);omega
   · intro q;exact DT q hp
theorem lJ {x:Nat}(hx:x<18446744073709551616) (fx:jC x):Bd 2098 (dm x):=by
 obtain ⟨m,hm⟩:∃ m,m=2098:=⟨_,rfl⟩;have h:Bd m (dm x):=jN (OQ hx fx m hm);rw [hm] at h;exact h
attribute [irreducible] Bd
end
section
open Go.RowKit
open Go.Proofs.YtblkpkgebigojaaGreatDoor.B (bO aJ bw)
attribute [local go_sem] bO aJ
def kd (b:Nat):Nat :=
 if 9218868437227405312<b%9223372036854775808 then 5
 else if b%9223372036854775808=9218868437227405312 then (if b/9223372036854775808=1 then 4 else 3)
 else if b%9223372036854775808=0 then (if b/9223372036854775808=1 then 1 else 2)
 else 0
def kp (k:Nat):Nat:=if k=5 then 0 else if k=3 then 1 else if k=4 then 2 else if k=1 then 3 else if k=2 then 4 else 5
theorem X7 (s:Bool) (e f:Nat) (he:e<2048) (hf:f<4503599627370496):kd (bw s e f)=if e=2047 then (if f=0 then (if s then 4 else 3) else 5) else if e=0/\f=0 then (if s then 1 else 2) else 0:=by
 unfold kd bw;have h1:(s.toNat*9223372036854775808+e*4503599627370496+f)%9223372036854775808=e*4503599627370496+f:=by cases s <;> simp only [jc,jd] <;> omega
 have h2:(s.toNat*9223372036854775808+e*4503599627370496+f)/9223372036854775808=s.toNat:=by cases s <;> simp only [jc,jd] <;> omega
 rw [h1,h2]
 by_cases he2:e=2047
 · subst he2;rw [if_pos rfl]
   by_cases hf0:f=0
   · subst hf0;cases s <;> simp
   · rw [if_pos ae,if_neg hf0]
 · rw [if_neg he2,if_neg ae,if_neg ae]
   by_cases h0:e=0/\f=0
   · obtain ⟨rfl,rfl⟩:=h0;cases s <;> simp
   · rw [if_neg ae,if_neg h0]
theorem vY (neg:Bool) (a b:Int) (w:World):Calls Tryz.prog 190 #[.bool neg,.int .i64 a,.int .i64 b] w fun r w'=>r=.returned (.int .i64 (if neg then a else b))/\w'=w:=by
 cases neg <;>
 · go_enter Tryz.func190,Tryz.ntmps190;go_wp2;go_ret;exact ⟨rfl,rfl⟩
theorem OU (b:Nat) (hb:b<18446744073709551616) (w:World):Calls Tryz.prog 146 #[.float .f64 b] w fun r w'=>r=.returned (.int .i64 (kp (kd b):Nat))/\Below w.heap.size w w':=by
 obtain ⟨s,e,f,he,hf,rfl⟩:=B.WB b hb;rw [X7 s e f he hf];have H:=hid (B.nW s e f he hf);obtain ⟨x1,hx1⟩:∃ x,B.xp e=x:=⟨_,rfl⟩;obtain ⟨x2,hx2⟩:∃ x,B.fr e f=x:=⟨_,rfl⟩;rw [hx1,hx2] at H;clear hx1 hx2 hb
 by_cases he2:e=2047
 · subst he2
   by_cases hf0:f=0
   · subst hf0;have hc:B.cls 2047 0=3:=by unfold B.cls;rw [if_pos rfl,if_pos rfl]
     have hg:B.ng s 2047 0=s:=by unfold B.ng;rw [if_neg aW]
     rw [hc,hg] at H;rw [if_pos rfl,if_pos rfl];have HS:=hid (vY s 2 1);obtain ⟨x,hx⟩:∃ x:Int,(if s then 2 else 1)=x:=⟨_,rfl⟩;rw [hx] at HS;have hk:((kp (if s then 4 else 3):Nat):Int)=x:=by cases s <;> (subst hx;rfl)
     rw [hk];clear hc hg hx hk;go_enter Tryz.func146,Tryz.ntmps146;go_wp2_with fail;refine (H.o _).mono ?_;rintro r w1 ⟨rfl,hb1⟩;have HB:=ay hb1;have hz:=hb1.size;clear hb1;go_wp2_with fail;refine (HS.o _).mono ?_;rintro r w2 ⟨rfl,rfl⟩;go_wp2;go_ret;exact ⟨rfl,(HB.o.alloc hz _)⟩
   · have hc:B.cls 2047 f=4:=by unfold B.cls;rw [if_pos rfl,if_neg hf0]
     rw [hc] at H;rw [if_pos rfl,if_neg hf0];obtain ⟨x3,hx3⟩:∃ x,B.ng s 2047 f=x:=⟨_,rfl⟩;rw [hx3] at H;clear hc hx3;go_enter Tryz.func146,Tryz.ntmps146;go_wp2_with fail;refine (H.o _).mono ?_;rintro r w1 ⟨rfl,hb1⟩;have HB:=ay hb1;have hz:=hb1.size;clear hb1;go_wp2;go_ret;exact ⟨rfl,(HB.o.alloc hz _)⟩
 · rw [if_neg he2];have hg:B.ng s e f=s:=by unfold B.ng;rw [if_neg (fun h=>he2 h.1)]
   rw [hg] at H
   by_cases h0:e=0/\f=0
   · obtain ⟨rfl,rfl⟩:=h0;have hc:B.cls 0 0=0:=by unfold B.cls;rw [if_neg ae,if_pos rfl,if_pos rfl]
     rw [hc] at H;rw [if_pos ⟨rfl,rfl⟩];have HS:=hid (vY s 3 4);obtain ⟨x,hx⟩:∃ x:Int,(if s then 3 else 4)=x:=⟨_,rfl⟩;rw [hx] at HS;have hk:((kp (if s then 1 else 2):Nat):Int)=x:=by cases s <;> (subst hx;rfl)
     rw [hk];clear hc hg hx hk;go_enter Tryz.func146,Tryz.ntmps146;go_wp2_with fail;refine (H.o _).mono ?_;rintro r w1 ⟨rfl,hb1⟩;have HB:=ay hb1;have hz:=hb1.size;clear hb1;go_wp2_with fail;refine (HS.o _).mono ?_;rintro r w2 ⟨rfl,rfl⟩;go_wp2;go_ret;exact ⟨rfl,(HB.o.alloc hz _)⟩
   · rw [if_neg h0]
     obtain ⟨c,hc,h1,h2,h3⟩:∃ c:Int,B.cls e f=c/\(c==4)=false/\(c==3)=false/\(c==0)=false:=by
      unfold B.cls;rw [if_neg he2]
      by_cases he0:e=0
      · rw [if_pos he0,if_neg (fun h=>h0 ⟨he0,h⟩)];exact ⟨_,rfl,aO,aO,aO⟩
      · rw [if_neg he0];exact ⟨_,rfl,aO,aO,aO⟩
     rw [hc] at H;clear hc hg;go_enter Tryz.func146,Tryz.ntmps146;go_wp2_with fail;refine (H.o _).mono ?_;rintro r w1 ⟨rfl,hb1⟩;have HB:=ay hb1;have hz:=hb1.size;clear hb1;go_wp2;go_ret;exact ⟨rfl,(HB.o.alloc hz _)⟩
end
section
open Go.RowKit
theorem rof8 (x:Nat) (hx:Wd x/\jC x) (w:World) :
 Calls Tryz.prog 55 #[.float .f64 x] w fun r w'=>(∃ v,r=.returned (.tuple #[.agg #[.bool (dN (OP (dm x))),v,.int .i64 (dE (OP (dm x)))],.int .i64 0])/\Nt w.heap.size w' v (dX (OP (dm x))))/\Below w.heap.size w w':=by
 obtain ⟨h1,h2,h3,_⟩:=Hq (iO x) (eu x) (jN hx.2);have:=Nh (iO x) (eu x/4503599627370496) (eu x%4503599627370496) h2 h3 w;rw [<-h1,<-Ti x hx.1] at this;refine this.mono ?_;rintro r w' ⟨⟨v,rfl,hN⟩,hb⟩;have e:=OT hx.1 hx.2;unfold Uv at e;rw [e] at hN |-;have he:SY (eu x/4503599627370496)=0:=by unfold SY;rw [if_neg (by have:=hx.2;omega)]
 rw [he];exact ⟨⟨v,rfl,hN⟩,hb⟩
section
attribute [local go_sem] B.bO B.aJ
end
end
section
open Go.RowKit J
theorem Fm.two {o:Option (Bool×Nat×Int)}(h:Fm o):(ws (dX o)).length<=2000000:=dD h.len aO
theorem UO {U:World}{a b:Option Addr}{c d:Nat}{o p q:Option (Bool×Nat×Int)}(F:Fm o) (G:Fm p) (N1:Nt 0 U (.slice a (ws (dX o)).length c) (dX o)) (N2:Nt 0 U (.slice b (ws (dX p)).length d) (dX p)) (h:eY o p=q) (H:Fm q) :
 Calls Tryz.prog 80 #[.agg #[.bool (dN o),.slice a (ws (dX o)).length c,.int .i64 (dE o)],.agg #[.bool (dN p),.slice b (ws (dX p)).length d,.int .i64 (dE p)]] U fun r w'=>(∃ v,r=.returned (.tuple #[.agg #[.bool (dN q),v,.int .i64 (dE q)],.int .i64 0])/\Nt U.heap.size w' v (dX q))/\Below U.heap.size U w':=by
 have:=Ka (F.a12 N1) (G.a12 N2) F.two G.two (dN o) (dN p) (dE o) (dE p) F.pM.1 F.pM.2 G.pM.1 G.pM.2;rw [ax,ax,F.re,G.re,h] at this;unfold di at this;rw [H.er] at this;exact this
theorem UQ {U:World}{a b:Option Addr}{c d:Nat}{o p q:Option (Bool×Nat×Int)}(F:Fm o) (G:Fm p) (N1:Nt 0 U (.slice a (ws (dX o)).length c) (dX o)) (N2:Nt 0 U (.slice b (ws (dX p)).length d) (dX p)) (h:fQ o p=q) (H:Fm q) :
 Calls Tryz.prog 93 #[.agg #[.bool (dN o),.slice a (ws (dX o)).length c,.int .i64 (dE o)],.agg #[.bool (dN p),.slice b (ws (dX p)).length d,.int .i64 (dE p)]] U fun r w'=>(∃ v,r=.returned (.tuple #[.agg #[.bool (dN q),v,.int .i64 (dE q)],.int .i64 0])/\Nt U.heap.size w' v (dX q))/\Below U.heap.size U w':=by
 have:=yg (F.a12 N1) (G.a12 N2) F.two G.two (dN o) (dN p) (dE o) (dE p) F.pM.1 F.pM.2 G.pM.1 G.pM.2;rw [ax,ax,F.re,G.re,h] at this;unfold di at this;rw [H.er] at this;exact this
theorem Tt (x:Nat) (hx:x<18446744073709551616) (fx:jC x) (w:World) :
 Calls Tryz.prog 55 #[.float .f64 x] w fun r w'=>(∃ v,r=.returned (.tuple #[.agg #[.bool (dN (oW x)),v,.int .i64 (dE (oW x))],.int .i64 0])/\Nt w.heap.size w' v (dX (oW x)))/\Below w.heap.size w w':=rof8 x ⟨hx,fx⟩ w
end
section
open Go Go.RowKit J
theorem UR:∃ d:TypeDesc,Tryz.prog.underlying 62=some d/\d.isRow=true:=by
 have h:(Tryz.prog.underlying 62).any (·.isRow)=true:=by kernel_rfl
 cases hd:Tryz.prog.underlying 62 with
 | none=>rw [hd] at h;cases h
 | some d=>rw [hd] at h;exact ⟨d,rfl,h⟩
theorem Rt:(Tryz.prog.info? 62).map (·.size)=some 3:=by kernel_rfl
theorem OV {fn:Func}{p:Tmp}(h:fn.results=#[.cell p 62]) (tmps:Array Value) (W:World) (g:Nat) (n:Bool) (v:Value) (e:Int) (hp:tmps.getD p undef=.pointer (some ⟨g,0,none⟩)) (hD:Dk W g n v e) :
 (results fn tmps).run Tryz.prog W=.ok (.agg #[.bool n,v,.int .i64 e]) W:=by
 obtain ⟨d,h1,h2⟩:=UR
 cases d <;> first
  | exact results_cell_row (P:=Tryz.prog) h tmps W g 62 _ _ _ hp hD h1 rfl (by rw [Rt];rfl)
  | exact absurd h2 (by simp [TypeDesc.isRow])
theorem o8 {fn:Func}{p:Tmp}(hfn:fn.results=#[.cell p 62]) {w base:World}{tmps:Array Value}{o q:Option (Bool×Nat×Int)}{a:Option Addr}{c g:Nat}(h2:tmps.getD p undef=.pointer (some ⟨g,0,none⟩))
 (hL:Lo base g q) (hbw:Below w.heap.size w base) (hg:w.heap.size<=g) (hN:Nt 0 base (.slice a (ws (dX o)).length c) (dX o)) :
 bodyPost Tryz.prog fn (fun r w'=>dP 0 w' r o/\Below w.heap.size w w') .ret ⟨tmps,[]⟩
  (((base.setCell ⟨g,0,none⟩ (.bool (dN o))).setCell ⟨g,1,none⟩ (.slice a (ws (dX o)).length c)).setCell ⟨g,2,none⟩ (.int .i64 (dE o))):=by
 obtain ⟨a0,c0,hD,hM⟩:=hL;exact aI (v:=.agg #[.bool (dN o),.slice a (ws (dX o)).length c,.int .i64 (dE o)]) (OV hfn _ _ g _ _ _ h2 (hD.set _ _ _)) rfl ⟨⟨_,rfl,hN.XW hD _ _ _⟩,KI hbw hbw.size hg _ _ _⟩
theorem dP.Fw {w:World}{r:Ending}{lo:Nat}{q:Option (Bool×Nat×Int)}(h:dP lo w r q):dP 0 w r q:=by
 obtain ⟨v,rfl,hN⟩:=h;exact ⟨v,rfl,hN.mono (lh _)⟩
theorem X8 (n:Int) (w:World) (hT:il w) (h0:-9223372036854775808<=n) (h1:n<=9223372036854775807) :
 Calls Tryz.prog 74 #[.int .i64 n] w fun r w'=>dP 0 w' r (gV 0 n)/\Below w.heap.size w w' :=
 (Qs n w hT h0 h1).mono fun r w' h=>⟨h.1.Fw,h.2⟩
theorem UT (n:Int) (w:World) (h0:-9223372036854775808<=n) (h1:n<=9223372036854775807) :
 Calls Tryz.prog 50 #[.int .i64 n] w fun r w'=>dP 0 w' r (gV 0 n)/\Below w.heap.size w w' :=
 (Ni n w h0 h1).mono fun r w' h=>⟨h.1.Fw,h.2⟩
theorem zL (w:World) (a b:Option Addr) (ca cb:Nat) (o p q:Option (Bool×Nat×Int)) (F:Fm q)
 (HC:Hid (∀ u:World,Below w.heap.size w u->Calls Tryz.prog 89 #[.agg #[.bool (dN o),.slice a (ws (dX o)).length ca,.int .i64 (dE o)],.agg #[.bool (dN p),.slice b (ws (dX p)).length cb,.int .i64 (dE p)]] u fun r w'=>(∃ v,r=.returned (.tuple #[.agg #[.bool (dN q),v,.int .i64 (dE q)],.int .i64 0])/\Nt u.heap.size w' v (dX q))/\Below u.heap.size u w')) :
 Calls Tryz.prog 53 #[.agg #[.bool (dN o),.slice a (ws (dX o)).length ca,.int .i64 (dE o)],.agg #[.bool (dN p),.slice b (ws (dX p)).length cb,.int .i64 (dE p)]] w fun r w'=>dP 0 w' r q/\Below w.heap.size w w':=by
 obtain ⟨W,hW⟩:=ah (((w.alloc (Obj.cells #[.bool (dN o),.slice a (ws (dX o)).length ca,.int .i64 (dE o)] 62)).alloc (Obj.cells #[.bool (dN p),.slice b (ws (dX p)).length cb,.int .i64 (dE p)] 62)).alloc (Obj.cells #[.bool false,.slice none 0 0,.int .i64 0] 62))
 have H0:Aside (Dk W w.heap.size (dN o) (.slice a (ws (dX o)).length ca) (dE o)/\Dk W (w.heap.size+1) (dN p) (.slice b (ws (dX p)).length cb) (dE p)/\Lo W (w.heap.size+2) qO/\Below w.heap.size w W):=by
  subst hW;have z1:=Dk.new (w.alloc (Obj.cells #[.bool (dN o),.slice a (ws (dX o)).length ca,.int .i64 (dE o)] 62)) (dN p) (.slice b (ws (dX p)).length cb) (dE p);have z2:=Lo.zero ((w.alloc (Obj.cells #[.bool (dN o),.slice a (ws (dX o)).length ca,.int .i64 (dE o)] 62)).alloc (Obj.cells #[.bool (dN p),.slice b (ws (dX p)).length cb,.int .i64 (dE p)] 62));rw [iH] at z1;rw [iH,iH] at z2;exact ⟨((Dk.new _ _ _ _).below (af _ _)).below (af _ _),z1.below (af _ _),z2,((af _ _).trans ((af _ _).mono aW)).trans ((af _ _).mono (by simp;omega))⟩
 have HW:=ay hW;have zF:=hid (HC.o W H0.o.r3);have FF:=ay F;clear hW HC F;go_enter Tryz.func53,Tryz.ntmps53
 go_upto_region 1 with fail
 rw [<-HW.o];clear HW;obtain ⟨x0,x1,x2,dA,dB,dC⟩:=H0.o.1.facts;obtain ⟨y0,y1,y2,dw,cZ,df⟩:=H0.o.2.1.facts;go_wp2_with fail;refine zF.o.mono ?_;rintro r u ⟨⟨v,rfl,hN⟩,hb⟩;obtain ⟨a1,c1,rfl,hN0⟩:=Lo.shape FF.o hN;obtain ⟨U,hU⟩:=ah (u.alloc (Obj.cells #[.bool (dN q),.slice a1 (ws (dX q)).length c1,.int .i64 (dE q)] 62))
 have H1:Aside (Lo U (w.heap.size+2) qO/\Dk U u.heap.size (dN q) (.slice a1 (ws (dX q)).length c1) (dE q)/\Nt 0 U (.slice a1 (ws (dX q)).length c1) (dX q)/\Below w.heap.size w U):=by
  rw [hU];have b0:=H0.o.r3;exact ⟨(H0.o.r2.1.below hb).below (af _ _),Dk.new _ _ _ _,hN0.below (af _ _),(b0.trans (hb.mono b0.size)).trans ((af _ _).mono (dD b0.size hb.size))⟩
 obtain ⟨gq,qM⟩:=ah (u.heap.size);rw [<-qM] at H1;have HU:=(bB hU qM);clear hU hN hN0 hb zF H0 x0 x1 x2 dA dB dC y0 y1 y2 dw cZ df qM
 go_upto_region 2 with fail
 rw [<-HU.o.1,<-HU.o.2];clear HU;obtain ⟨x0,x1,x2,dA,dB,dC⟩:=H1.o.2.1.facts;obtain ⟨p4,q4,D4,M4⟩:=H1.o.1;obtain ⟨y0,y1,y2,dw,cZ,df⟩:=D4.facts;clear D4 M4;go_wp2;exact o8 Tryz.results53 rfl H1.o.1 H1.o.r3 ae H1.o.r2.1
theorem CG (w:World) (a b:Option Addr) (ca cb:Nat) (o p q:Option (Bool×Nat×Int)) (F:Fm q)
 (HC:Hid (∀ u:World,Below w.heap.size w u->Calls Tryz.prog 88 #[.agg #[.bool (dN o),.slice a (ws (dX o)).length ca,.int .i64 (dE o)],.agg #[.bool (dN p),.slice b (ws (dX p)).length cb,.int .i64 (dE p)]] u fun r w'=>(∃ v,r=.returned (.tuple #[.agg #[.bool (dN q),v,.int .i64 (dE q)],.int .i64 0])/\Nt u.heap.size w' v (dX q))/\Below u.heap.size u w')) :
 Calls Tryz.prog 52 #[.agg #[.bool (dN o),.slice a (ws (dX o)).length ca,.int .i64 (dE o)],.agg #[.bool (dN p),.slice b (ws (dX p)).length cb,.int .i64 (dE p)]] w fun r w'=>dP 0 w' r q/\Below w.heap.size w w':=by
 obtain ⟨W,hW⟩:=ah (((w.alloc (Obj.cells #[.bool (dN o),.slice a (ws (dX o)).length ca,.int .i64 (dE o)] 62)).alloc (Obj.cells #[.bool (dN p),.slice b (ws (dX p)).length cb,.int .i64 (dE p)] 62)).alloc (Obj.cells #[.bool false,.slice none 0 0,.int .i64 0] 62))
 have H0:Aside (Dk W w.heap.size (dN o) (.slice a (ws (dX o)).length ca) (dE o)/\Dk W (w.heap.size+1) (dN p) (.slice b (ws (dX p)).length cb) (dE p)/\Lo W (w.heap.size+2) qO/\Below w.heap.size w W):=by
  subst hW;have z1:=Dk.new (w.alloc (Obj.cells #[.bool (dN o),.slice a (ws (dX o)).length ca,.int .i64 (dE o)] 62)) (dN p) (.slice b (ws (dX p)).length cb) (dE p);have z2:=Lo.zero ((w.alloc (Obj.cells #[.bool (dN o),.slice a (ws (dX o)).length ca,.int .i64 (dE o)] 62)).alloc (Obj.cells #[.bool (dN p),.slice b (ws (dX p)).length cb,.int .i64 (dE p)] 62));rw [iH] at z1;rw [iH,iH] at z2;exact ⟨((Dk.new _ _ _ _).below (af _ _)).below (af _ _),z1.below (af _ _),z2,((af _ _).trans ((af _ _).mono aW)).trans ((af _ _).mono (by simp;omega))⟩
 have HW:=ay hW;have zF:=hid (HC.o W H0.o.r3);have FF:=ay F;clear hW HC F;go_enter Tryz.func52,Tryz.ntmps52
 go_upto_region 1 with fail
 rw [<-HW.o];clear HW;obtain ⟨x0,x1,x2,dA,dB,dC⟩:=H0.o.1.facts;obtain ⟨y0,y1,y2,dw,cZ,df⟩:=H0.o.2.1.facts;go_wp2_with fail;refine zF.o.mono ?_;rintro r u ⟨⟨v,rfl,hN⟩,hb⟩;obtain ⟨a1,c1,rfl,hN0⟩:=Lo.shape FF.o hN;obtain ⟨U,hU⟩:=ah (u.alloc (Obj.cells #[.bool (dN q),.slice a1 (ws (dX q)).length c1,.int .i64 (dE q)] 62))
 have H1:Aside (Lo U (w.heap.size+2) qO/\Dk U u.heap.size (dN q) (.slice a1 (ws (dX q)).length c1) (dE q)/\Nt 0 U (.slice a1 (ws (dX q)).length c1) (dX q)/\Below w.heap.size w U):=by
  rw [hU];have b0:=H0.o.r3;exact ⟨(H0.o.r2.1.below hb).below (af _ _),Dk.new _ _ _ _,hN0.below (af _ _),(b0.trans (hb.mono b0.size)).trans ((af _ _).mono (dD b0.size hb.size))⟩
 obtain ⟨gq,qM⟩:=ah (u.heap.size);rw [<-qM] at H1;have HU:=(bB hU qM);clear hU hN hN0 hb zF H0 x0 x1 x2 dA dB dC y0 y1 y2 dw cZ df qM
 go_upto_region 2 with fail
 rw [<-HU.o.1,<-HU.o.2];clear HU;obtain ⟨x0,x1,x2,dA,dB,dC⟩:=H1.o.2.1.facts;obtain ⟨p4,q4,D4,M4⟩:=H1.o.1;obtain ⟨y0,y1,y2,dw,cZ,df⟩:=D4.facts;clear D4 M4;go_wp2;exact o8 Tryz.results52 rfl H1.o.1 H1.o.r3 ae H1.o.r2.1
theorem CJ (w:World) (a b:Option Addr) (ca cb:Nat) (o p q:Option (Bool×Nat×Int)) (F:Fm q)
 (HC:Hid (∀ u:World,Below w.heap.size w u->Calls Tryz.prog 112 #[.agg #[.bool (dN o),.slice a (ws (dX o)).length ca,.int .i64 (dE o)],.agg #[.bool (dN p),.slice b (ws (dX p)).length cb,.int .i64 (dE p)]] u fun r w'=>(∃ v,r=.returned (.tuple #[.agg #[.bool (dN q),v,.int .i64 (dE q)],.int .i64 0])/\Nt u.heap.size w' v (dX q))/\Below u.heap.size u w')) :
 Calls Tryz.prog 76 #[.agg #[.bool (dN o),.slice a (ws (dX o)).length ca,.int .i64 (dE o)],.agg #[.bool (dN p),.slice b (ws (dX p)).length cb,.int .i64 (dE p)]] w fun r w'=>dP 0 w' r q/\Below w.heap.size w w':=by
 obtain ⟨W,hW⟩:=ah (((w.alloc (Obj.cells #[.bool (dN o),.slice a (ws (dX o)).length ca,.int .i64 (dE o)] 62)).alloc (Obj.cells #[.bool (dN p),.slice b (ws (dX p)).length cb,.int .i64 (dE p)] 62)).alloc (Obj.cells #[.bool false,.slice none 0 0,.int .i64 0] 62))
 have H0:Aside (Dk W w.heap.size (dN o) (.slice a (ws (dX o)).length ca) (dE o)/\Dk W (w.heap.size+1) (dN p) (.slice b (ws (dX p)).length cb) (dE p)/\Lo W (w.heap.size+2) qO/\Below w.heap.size w W):=by
  subst hW;have z1:=Dk.new (w.alloc (Obj.cells #[.bool (dN o),.slice a (ws (dX o)).length ca,.int .i64 (dE o)] 62)) (dN p) (.slice b (ws (dX p)).length cb) (dE p);have z2:=Lo.zero ((w.alloc (Obj.cells #[.bool (dN o),.slice a (ws (dX o)).length ca,.int .i64 (dE o)] 62)).alloc (Obj.cells #[.bool (dN p),.slice b (ws (dX p)).length cb,.int .i64 (dE p)] 62));rw [iH] at z1;rw [iH,iH] at z2;exact ⟨((Dk.new _ _ _ _).below (af _ _)).below (af _ _),z1.below (af _ _),z2,((af _ _).trans ((af _ _).mono aW)).trans ((af _ _).mono (by simp;omega))⟩
 have HW:=ay hW;have zF:=hid (HC.o W H0.o.r3);have FF:=ay F;clear hW HC F;go_enter Tryz.func76,Tryz.ntmps76
 go_upto_region 1 with fail
 rw [<-HW.o];clear HW;obtain ⟨x0,x1,x2,dA,dB,dC⟩:=H0.o.1.facts;obtain ⟨y0,y1,y2,dw,cZ,df⟩:=H0.o.2.1.facts;go_wp2_with fail;refine zF.o.mono ?_;rintro r u ⟨⟨v,rfl,hN⟩,hb⟩;obtain ⟨a1,c1,rfl,hN0⟩:=Lo.shape FF.o hN;obtain ⟨U,hU⟩:=ah (u.alloc (Obj.cells #[.bool (dN q),.slice a1 (ws (dX q)).length c1,.int .i64 (dE q)] 62))
 have H1:Aside (Lo U (w.heap.size+2) qO/\Dk U u.heap.size (dN q) (.slice a1 (ws (dX q)).length c1) (dE q)/\Nt 0 U (.slice a1 (ws (dX q)).length c1) (dX q)/\Below w.heap.size w U):=by
  rw [hU];have b0:=H0.o.r3;exact ⟨(H0.o.r2.1.below hb).below (af _ _),Dk.new _ _ _ _,hN0.below (af _ _),(b0.trans (hb.mono b0.size)).trans ((af _ _).mono (dD b0.size hb.size))⟩
 obtain ⟨gq,qM⟩:=ah (u.heap.size);rw [<-qM] at H1;have HU:=(bB hU qM);clear hU hN hN0 hb zF H0 x0 x1 x2 dA dB dC y0 y1 y2 dw cZ df qM
 go_upto_region 2 with fail
 rw [<-HU.o.1,<-HU.o.2];clear HU;obtain ⟨x0,x1,x2,dA,dB,dC⟩:=H1.o.2.1.facts;obtain ⟨p4,q4,D4,M4⟩:=H1.o.1;obtain ⟨y0,y1,y2,dw,cZ,df⟩:=D4.facts;clear D4 M4;go_wp2;exact o8 Tryz.results76 rfl H1.o.1 H1.o.r3 ae H1.o.r2.1
theorem X9 {U:World}{a b:Option Addr}{c d:Nat}{o p q:Option (Bool×Nat×Int)}(F:Fm o) (G:Fm p) (N1:Nt 0 U (.slice a (ws (dX o)).length c) (dX o)) (N2:Nt 0 U (.slice b (ws (dX p)).length d) (dX p)) (hT:il U) (h:fQ o (mkS (!dN p) (dX p) (dE p))=q) (H:Fm q) :
 Calls Tryz.prog 112 #[.agg #[.bool (dN o),.slice a (ws (dX o)).length c,.int .i64 (dE o)],.agg #[.bool (dN p),.slice b (ws (dX p)).length d,.int .i64 (dE p)]] U fun r w'=>(∃ v,r=.returned (.tuple #[.agg #[.bool (dN q),v,.int .i64 (dE q)],.int .i64 0])/\Nt U.heap.size w' v (dX q))/\Below U.heap.size U w':=by
 have:=Od (F.a12 N1) (G.a12 N2) hT (dN o) (dN p) (dE o) (dE p) F.pM.1 F.pM.2 G.pM.1 G.pM.2;rw [ax,ax,F.re,h] at this;unfold di at this;rw [H.er] at this;exact this
theorem ik {w:World}{a b:Option Addr}{ca cb:Nat}{o p q:Option (Bool×Nat×Int)}(F:Fm o) (G:Fm p) (H:Fm q) (N1:Nt 0 w (.slice a (ws (dX o)).length ca) (dX o)) (N2:Nt 0 w (.slice b (ws (dX p)).length cb) (dX p)) (hT:il w) (h:eY o p=q) :
 Calls Tryz.prog 53 #[.agg #[.bool (dN o),.slice a (ws (dX o)).length ca,.int .i64 (dE o)],.agg #[.bool (dN p),.slice b (ws (dX p)).length cb,.int .i64 (dE p)]] w fun r w'=>dP 0 w' r q/\Below w.heap.size w w' :=
 zL w a b ca cb o p q H (hid fun u hu=>UI F G (N1.below hu) (N2.below hu) (hT.belows hu) h H)
theorem UW {w:World}{a b:Option Addr}{ca cb:Nat}{o p q:Option (Bool×Nat×Int)}(F:Fm o) (G:Fm p) (H:Fm q) (N1:Nt 0 w (.slice a (ws (dX o)).length ca) (dX o)) (N2:Nt 0 w (.slice b (ws (dX p)).length cb) (dX p)) (hT:il w) (h:fQ o p=q) :
 Calls Tryz.prog 52 #[.agg #[.bool (dN o),.slice a (ws (dX o)).length ca,.int .i64 (dE o)],.agg #[.bool (dN p),.slice b (ws (dX p)).length cb,.int .i64 (dE p)]] w fun r w'=>dP 0 w' r q/\Below w.heap.size w w' :=
 CG w a b ca cb o p q H (hid fun u hu=>Rs F G (N1.below hu) (N2.below hu) (hT.belows hu) h H)
theorem vZ {w:World}{a b:Option Addr}{ca cb:Nat}{o p q:Option (Bool×Nat×Int)}(F:Fm o) (G:Fm p) (H:Fm q) (N1:Nt 0 w (.slice a (ws (dX o)).length ca) (dX o)) (N2:Nt 0 w (.slice b (ws (dX p)).length cb) (dX p)) (hT:il w) (h:fQ o (mkS (!dN p) (dX p) (dE p))=q) :
 Calls Tryz.prog 76 #[.agg #[.bool (dN o),.slice a (ws (dX o)).length ca,.int .i64 (dE o)],.agg #[.bool (dN p),.slice b (ws (dX p)).length cb,.int .i64 (dE p)]] w fun r w'=>dP 0 w' r q/\Below w.heap.size w w' :=
 CJ w a b ca cb o p q H (hid fun u hu=>X9 F G (N1.below hu) (N2.below hu) (hT.belows hu) h H)
def zS {α:Type} (f:α->Int):List α->Int
 | []=>0
 | a::l=>f a+zS f l
theorem zM {α:Type}(f:α->Int):∀ (l:List α) (v:Int),l.foldl (fun v x=>v+f x) v=v+zS f l
 | [],v=>by simp [zS]
 | x::l,v=>by rw [List.foldl_cons,zM f l];show _=v+(f x+zS f l);omega
theorem wh {α:Type}{f g:α->Int}:∀ {l:List α},(∀ x ∈ l,f x=g x)->zS f l=zS g l
 | [],_=>rfl
 | x::l,h=>by show f x+zS f l=g x+zS g l;rw [h x Aw,wh fun y hy=>h y (yN _ hy)]
theorem OW {α:Type}(f:α->Int) (c:Int):∀ l:List α,zS (fun x=>f x*c) l=zS f l*c
 | []=>by simp [zS]
 | x::l=>by show f x*c+zS _ l=(f x+zS f l)*c;rw [OW f c l,Int.add_mul]
theorem OX {α β:Type}(f:β->Int) (g:α->β):∀ l:List α,zS f (l.map g)=zS (fun x=>f (g x)) l
 | []=>rfl
 | x::l=>by show f (g x)+zS f (l.map g)=f (g x)+zS _ l;rw [OX f g l]
theorem Tu {α:Type}{f:α->Int}{m:Nat}:∀ {l:List α},(∀ x ∈ l,Bd m (f x))->(zS f l).natAbs<=l.length*2^m
 | [],_=>by simp [zS]
 | x::l,h=>by
   have h1:=Tu (l:=l) fun y hy=>h y (yN _ hy);have h2:=h x Aw;unfold Bd at h2;show (f x+zS f l).natAbs<=(l.length+1)*2^m;rw [Nat.succ_mul];omega
theorem CK {α:Type}{f:α->Int}{m:Nat}{l:List α}(h:∀ x ∈ l,Bd m (f x)) (hn:l.length<=65536):Bd (m+16) (zS f l):=by
 have h1:=Tu h;have h2:l.length*2^m<=65536*2^m:=gF _ hn;unfold Bd;rw [aR,dh (2^m)];exact dD h1 h2
theorem UX (k:Nat) (hk:k=1074):dm 4607182418800017408=((2^k:Nat):Int):=by subst hk;decide +kernel
theorem Ya (k:Nat) (hk:k=1074) {xs:List Nat}(hW:iZ xs) (hf:∀ x ∈ xs,jC x):vS xs=zS dm xs*((2^k:Nat):Int):=by
 unfold vS;rw [zM,Int.zero_add,<-OW];refine wh fun x hx=>?_;rw [(Ov (hW x hx) aO (hf x hx) aO).1,UX k hk]
theorem Ru {u k m:Nat}{V:Int}(hu:u+k<=100000) (hm:m+k<=90000) (hV:Bd m V):gV (u+k) (V*((2^k:Nat):Int))=gV u V:=by
 have F:=CF (u:=u+k) hu (m:=m+k) ae (hV.mul (Bd.nat (aH (2^k))));have G:=CF (u:=u) ae (m:=m) ae hV;obtain ⟨j1,e1⟩:=UM (u+k) ae;obtain ⟨j2,e2⟩:=UM u ae;refine vX F G ?_;rw [qG F ae j1 e1,qG G ae j2 e2,kN,<-fq,<-aR,show k+j1=j2 by omega]
theorem qH {xs:List Nat}(hW:iZ xs) (hf:∀ x ∈ xs,jC x) (hl:xs.length<=65536):Bd 2114 (zS dm xs):=CK (m:=2098) (fun x hx=>lJ (hW x hx) (hf x hx)) hl
theorem ex_g (V:Int):GJ V=gV 2148 V:=rfl
theorem Yb {xs:List Nat}(hW:iZ xs) (hf:∀ x ∈ xs,jC x) (hl:xs.length<=65536):GJ (vS xs)=gV 1074 (zS dm xs):=by
 obtain ⟨k,hk⟩:∃ k:Nat,k=1074:=⟨_,rfl⟩;rw [Ya k hk hW hf,ex_g];have:=Ru (u:=1074) (k:=k) (m:=2114) ae ae (qH hW hf hl);rw [show 1074+k=2148 by omega] at this;exact this
theorem Hu {fn:Func}{p:Tmp}(hfn:fn.results=#[.cell p 62]) {w base:World}{tmps:Array Value}{o:Option (Bool×Nat×Int)}{v x y z:Value}{lo:Nat}(h2:tmps.getD p undef=.pointer (some ⟨w.heap.size,0,none⟩))
 (hZ:Bl base w.heap.size 62 [x,y,z]) (hbw:Below w.heap.size w base) (hN:Nt lo base v (dX o)) (hlo:w.heap.size<lo) :
 bodyPost Tryz.prog fn (fun r w'=>∃ v,r=.returned (.agg #[.bool (dN o),v,.int .i64 (dE o)])/\Nt w.heap.size w' v (dX o)/\Below w.heap.size w w') .ret ⟨tmps,[]⟩
  (((base.setCell ⟨w.heap.size,0,none⟩ (.bool (dN o))).setCell ⟨w.heap.size,1,none⟩ v).setCell ⟨w.heap.size,2,none⟩ (.int .i64 (dE o))):=by
 have q:Bl (((base.setCell ⟨w.heap.size,0,none⟩ (.bool (dN o))).setCell ⟨w.heap.size,1,none⟩ v).setCell ⟨w.heap.size,2,none⟩ (.int .i64 (dE o))) w.heap.size 62 [.bool (dN o),v,.int .i64 (dE o)]:=((hZ.set 0 _).set 1 _).set 2 _;have aG:But w.heap.size base (((base.setCell ⟨w.heap.size,0,none⟩ (.bool (dN o))).setCell ⟨w.heap.size,1,none⟩ v).setCell ⟨w.heap.size,2,none⟩ (.int .i64 (dE o))):=(((But.refl _ _).set 0 _).set 1 _).set 2 _;refine aI (v:=.agg #[.bool (dN o),v,.int .i64 (dE o)]) (jB hfn _ _ w.heap.size [.bool (dN o),v,.int .i64 (dE o)] h2 q Tryz.vg (by rw [Tryz.rC];rfl)) rfl ?_;exact ⟨v,rfl,(hN.MZ aG hlo).mono ae,But.below hbw aG hbw.size (aH _)⟩
theorem HB19:∃ k:Nat,k=4238/\HB=2^k:=⟨4238,rfl,zh 4238 rfl⟩
theorem Yc {xs:List Nat}(hW:iZ xs) (hl:xs.length<=65536):∃ k:Nat,k=4238/\(vS xs).natAbs<2^k:=by
 obtain ⟨k,hk,e⟩:=HB19;refine ⟨k,hk,?_⟩;rw [<-e];have h1:=vM xs hW xs.length (aH _);rw [List.take_length] at h1;have h3:xs.length*QB<=65536*QB:=gF _ hl;have h4:=G6;have h5:=zA;omega
theorem Yd {xs:List Nat}(hW:iZ xs) (hl:xs.length<=65536):Fm (GJ (vS xs)):=by
 obtain ⟨k,hk,h⟩:=Yc hW hl;exact X3 _ k ae h
theorem OY (xs:List Nat) (a:Option Addr) (n c:Nat) (w:World) (hn:n=xs.length) (hF:Fs w.heap.size w a xs) (hW:iZ xs) (hT:il w) (hl:n<=65536) :
 Calls Tryz.prog 75 #[.slice a n c] w fun r w'=>∃ v,r=.returned (.agg #[.bool (dN (GJ (vS xs))),v,.int .i64 (dE (GJ (vS xs)))])/\Nt w.heap.size w' v (dX (GJ (vS xs)))/\Below w.heap.size w w':=by
 have HX:=gZ hn hF hW hT hl;obtain ⟨o,ho⟩:=ah (GJ (vS xs));rw [<-ho];have HO:=ay ho;clear hn hF hW hT ho;obtain ⟨W1,hW1⟩:=ah (w.alloc (.cells #[.bool false,.slice none 0 0,.int .i64 0] 62))
 have H1:Aside (Below w.heap.size w W1/\Bl W1 w.heap.size 62 [.bool false,.slice none 0 0,.int .i64 0]/\W1.heap.size=w.heap.size+1):=by
  subst hW1;exact ⟨au _ _,Bl.new _ 62 [_,_,_],aW⟩
 go_enter Tryz.func75,Tryz.ntmps75;go_wp2_with fail;rw [<-hW1];clear hW1;refine (Xi W1).mono ?_;rintro r w2 ⟨rfl,hA,hb2⟩;obtain ⟨g,hg⟩:=ah (W1.heap.size);rw [<-hg] at hA |-
 have P2:Aside (Bl w2 w.heap.size 62 [.bool false,.slice none 0 0,.int .i64 0]/\Below w.heap.size w w2/\w.heap.size<g/\mo w2 g 0 ⟨0,0,0,0,0,0⟩) :=
  ⟨H1.o.2.1.below hb2 (by have:=H1.o.r2;omega),H1.o.1.trans (hb2.mono (by have:=H1.o.r2;omega)),by have:=H1.o.r2;omega,hA⟩
 clear hb2 hA hg H1;go_wp2
 go_loopg [9] n (fun gk i wr=>∃ k:Nat,gk+k=n/\i=.int .i64 (k:Nat)/\Aside (mo wr g (vS (xs.take k)) (sS (xs.take k))/\Bl wr w.heap.size 62 [.bool false,.slice none 0 0,.int .i64 0]/\Below w.heap.size w wr))
 case atStart=>exact ⟨0,ae,aW,by simpa [vS,sS] using P2.o.r3,P2.o.1,P2.o.2.1⟩
 case round =>
  obtain ⟨k,wD,rfl,HA⟩:=hrel
  by_cases hk:k<n
  · obtain ⟨b,off,rfl,hc⟩:=HX.o.2.1.at HA.o.r2 k (by rw [<-HX.o.1];exact hk);obtain ⟨x,hx⟩:=ah (xs.getD k 0);rw [<-hx] at hc
    have C:Hid (Calls Tryz.prog 111 #[.pointer (some ⟨g,0,none⟩),.float .f64 x] wr (VZ g wr (0,vS (xs.take (k+1)),sS (xs.take (k+1))))):=by
     have hk2:k<xs.length:=by rw [<-HX.o.1];exact hk
     obtain ⟨p1,p2⟩:=NP xs k ae;obtain ⟨v1,v2⟩:=vM xs HX.o.r2.1 k ae;have Rx:x<18446744073709551616:=by rw [hx];exact HX.o.r2.1.get k
     have hsm:=nI x 4607182418800017408 Rx aO;have hl:=HX.o.r4;have hkq:k*QB<=65536*QB:=gF _ ae;have hQ:=G6;have hqp:=zA;have C:=Z8 g (vS (xs.take k)) (sS (xs.take k)) x wr HA.o.1 (p1.ok ae) Rx;rw [NN _ _ _ _ ae ae ae] at C;rw [G7 xs k hk2,G8 xs k hk2,<-hx];exact C
    have hkb:k<4611686018427387904:=by have:=HX.o.r4;omega
    clear hx;go_wp2_with fail;refine (C.o).mono ?_;rintro r w3 ⟨rfl,hA3,aG⟩;have H3:=fB hA3 (HA.o.2.1.but aG (by have:=P2.o.r2.1;omega)) (But.below HA.o.r2 aG HA.o.r2.size (by have:=P2.o.r2.1;omega));clear hA3 aG C;go_wp2;go_roundg (gk-1)
    case measure=>omega
    case rel=>exact ⟨k+1,ae,by first | rfl | simp,H3.o⟩
  · obtain rfl:n=k:=ae
    have hd:decide ((n:Int)<n)=false:=by simp
    have C:Hid (Calls Tryz.prog 96 #[.pointer (some ⟨g,0,none⟩)] wr fun r w'=>∃ v,r=.returned (.agg #[.bool (dN o),v,.int .i64 (dE o)])/\Nt wr.heap.size w' v (dX o)/\Below wr.heap.size wr w'):=by
     have e:xs.take n=xs:=by rw [eF];rw [<-HX.o.1];omega
     have hA:=HA.o.1;rw [e] at hA;rw [HO.o];exact M8 g _ _ wr hA (HX.o.r3.1.belows HA.o.r2)
    have HL:=ay (HA.o.2.1.lt);go_wp2_with fail;refine (C.o).mono ?_;rintro r w3 ⟨v,rfl,hN,hb3⟩;obtain ⟨a9,c9,rfl,_⟩:=Lo.shape (q:=o) (by rw [HO.o];exact Yd HX.o.r2.1 (by rw [<-HX.o.1];exact HX.o.r4)) hN;have B3:=fB (HA.o.2.1.below hb3 HL.o) (HA.o.r2.trans (hb3.mono HA.o.r2.size)) hN;have z0:=B3.o.1.cell 0 _ rfl;have z1:=B3.o.1.cell 1 _ rfl;have z2:=B3.o.1.cell 2 _ rfl;have f0:=B3.o.1.frozen 0;have f1:=B3.o.1.frozen 1;have f2:=B3.o.1.frozen 2;clear hb3 C hN;go_wp2;refine Hu Tryz.results75 ?_ B3.o.1 B3.o.2.1 B3.o.r2 (HL.o);rfl
theorem Hw (xs:List Nat) (a:Option Addr) (n c:Nat) (w:World) (hn:n=xs.length) (hF:Fs w.heap.size w a xs) (hW:iZ xs) (hf:∀ x ∈ xs,jC x) (hT:il w) (hl:n<=65536) :
 Calls Tryz.prog 75 #[.slice a n c] w fun r w'=>dP 0 w' r (gV 1074 (zS dm xs))/\Below w.heap.size w w':=by
 refine (OY xs a n c w hn hF hW hT hl).mono ?_;rintro r w' ⟨v,rfl,hN,hb⟩;rw [Yb hW hf ae] at hN |-;exact ⟨⟨v,rfl,hN.mono (lh _)⟩,hb⟩
def KL (xs ys:List Nat):List (Nat×Int):=(xs.zip ys).map fun p=>(pK p.1 p.2,pT p.1 p.2)
theorem Hy {xs ys:List Nat}(h:xs.length=ys.length):(KL xs ys).length=xs.length:=by unfold KL;rw [xm,uG];omega
theorem OZ {xs ys:List Nat}(h:xs.length=ys.length) (k:Nat) (hk:k<xs.length):(KL xs ys).take (k+1)=(KL xs ys).take k++[(pK (xs.getD k 0) (ys.getD k 0),pT (xs.getD k 0) (ys.getD k 0))]:=by
 have hk2:k<ys.length:=ae
 rw [wZ (by rw [Hy h];exact hk)];congr 2;unfold KL;rw [List.getElem_map,List.getElem_zip];simp [eQ,fF hk,fF hk2]
theorem Ye (I:List (Nat×Int)):vI I=zS (fun p=>p.2) I:=by unfold vI;rw [zM,Int.zero_add]
def pS (xs ys:List Nat):Int:=zS (fun p:Nat×Nat=>dm p.1*dm p.2) (xs.zip ys)
theorem Yf {xs ys:List Nat}(hW:iZ xs) (hV:iZ ys) (hf:∀ x ∈ xs,jC x) (hg:∀ x ∈ ys,jC x):vI (KL xs ys)=pS xs ys:=by
 unfold KL pS;rw [Ye,OX];refine wh fun p hp=>?_;have hp:=List.of_mem_zip hp;exact (Ov (hW _ hp.1) (hV _ hp.2) (hf _ hp.1) (hg _ hp.2)).1
theorem Hz {xs ys:List Nat}(hW:iZ xs) (hV:iZ ys) (hf:∀ x ∈ xs,jC x) (hg:∀ x ∈ ys,jC x) (hl:xs.length<=65536):Bd 4212 (pS xs ys):=by
 refine CK (m:=4196) (fun p hp=>?_) (by rw [uG];omega);have hp:=List.of_mem_zip hp;exact (lJ (hW _ hp.1) (hf _ hp.1)).mul (lJ (hV _ hp.2) (hg _ hp.2))
theorem CL (xs ys:List Nat) (a b:Option Addr) (n c d:Nat) (w:World) (hn:n=xs.length) (hn2:n=ys.length) (hF:Fs w.heap.size w a xs) (hF2:Fs w.heap.size w b ys) (hW:iZ xs) (hW2:iZ ys) (hf:∀ x ∈ xs,jC x) (hf2:∀ x ∈ ys,jC x) (hT:il w) (hl:n<=65536) :
 Calls Tryz.prog 57 #[.slice a n c,.slice b n d] w fun r w'=>∃ v,r=.returned (.agg #[.bool (dN (gV 2148 (pS xs ys))),v,.int .i64 (dE (gV 2148 (pS xs ys)))])/\Nt w.heap.size w' v (dX (gV 2148 (pS xs ys)))/\Below w.heap.size w w':=by
 have HX:=gZ (ai hn hn2) (ai hF hF2) (ai hW hW2) hT hl;have HV:Aside (vI (KL xs ys)=pS xs ys/\Fm (gV 2148 (pS xs ys))/\n=(KL xs ys).length):=⟨Yf hW hW2 hf hf2,CF (m:=4212) ae ae (Hz hW hW2 hf hf2 ae),by rw [Hy ae];exact hn⟩;obtain ⟨o,ho⟩:=ah (gV 2148 (pS xs ys));rw [<-ho];have HO:=ay ho;clear hn hn2 hF hF2 hW hW2 hf hf2 hT ho;obtain ⟨W1,hW1⟩:=ah (w.alloc (.cells #[.bool false,.slice none 0 0,.int .i64 0] 62))
 have H1:Aside (Below w.heap.size w W1/\Bl W1 w.heap.size 62 [.bool false,.slice none 0 0,.int .i64 0]/\W1.heap.size=w.heap.size+1):=by
  subst hW1;exact ⟨au _ _,Bl.new _ 62 [_,_,_],aW⟩
 go_enter Tryz.func57,Tryz.ntmps57;go_wp2_with fail;rw [<-hW1];clear hW1;refine (Xi W1).mono ?_;rintro r w2 ⟨rfl,hA,hb2⟩;obtain ⟨g,hg⟩:=ah (W1.heap.size);rw [<-hg] at hA |-
 have P2:Aside (Bl w2 w.heap.size 62 [.bool false,.slice none 0 0,.int .i64 0]/\Below w.heap.size w w2/\w.heap.size<g/\mo w2 g 0 ⟨0,0,0,0,0,0⟩) :=
  ⟨H1.o.2.1.below hb2 (by have:=H1.o.r2;omega),H1.o.1.trans (hb2.mono (by have:=H1.o.r2;omega)),by have:=H1.o.r2;omega,hA⟩
 clear hb2 hA hg H1;go_wp2
 go_loopg [11] n (fun gk i wr=>∃ k:Nat,gk+k=n/\i=.int .i64 (k:Nat)/\Aside (J9 wr g ((KL xs ys).take k)/\Bl wr w.heap.size 62 [.bool false,.slice none 0 0,.int .i64 0]/\Below w.heap.size w wr))
 case atStart=>exact ⟨0,ae,aW,⟨by simpa [vI,sI] using P2.o.r3,aW⟩,P2.o.1,P2.o.2.1⟩
 case round =>
  obtain ⟨k,wD,rfl,HA⟩:=hrel
  by_cases hk:k<n
  · obtain ⟨b1,off,rfl,hc⟩:=HX.o.2.1.1.at HA.o.r2 k (by rw [<-HX.o.1.1];exact hk);obtain ⟨b2,yT,rfl,hc2⟩:=HX.o.2.1.2.at HA.o.r2 k (by rw [<-HX.o.1.2];exact hk);obtain ⟨x,hx⟩:=ah (xs.getD k 0);rw [<-hx] at hc;obtain ⟨y,hy⟩:=ah (ys.getD k 0);rw [<-hy] at hc2
    have C:Hid (Calls Tryz.prog 95 #[.pointer (some ⟨g,0,none⟩),.float .f64 x,.float .f64 y] wr fun r w'=>r=.returned (.int .i64 0)/\J9 w' g ((KL xs ys).take (k+1))/\But g wr w'):=by
     have hk2:k<xs.length:=by rw [<-HX.o.1.1];exact hk
     have Rx:x<18446744073709551616:=by rw [hx];exact HX.o.r2.1.1.get k
     have hy64:y<18446744073709551616:=by rw [hy];exact HX.o.r2.1.2.get k
     have hl:=HX.o.r4;rw [OZ (by rw [<-HX.o.1.1];exact HX.o.1.2) k hk2,<-hx,<-hy];exact Uq g _ x y wr HA.o.1 (by rw [eZ];omega) Rx hy64
    have hkb:k<4611686018427387904:=by have:=HX.o.r4;omega
    clear hx hy;go_wp2_with fail;refine (C.o).mono ?_;rintro r w3 ⟨rfl,hA3,aG⟩;have H3:=fB hA3 (HA.o.2.1.but aG (by have:=P2.o.r2.1;omega)) (But.below HA.o.r2 aG HA.o.r2.size (by have:=P2.o.r2.1;omega));clear hA3 aG C;go_wp2;go_roundg (gk-1)
    case measure=>omega
    case rel=>exact ⟨k+1,ae,by first | rfl | simp,H3.o⟩
  · obtain rfl:n=k:=ae
    have hd:decide ((n:Int)<n)=false:=by simp
    have C:Hid (Calls Tryz.prog 96 #[.pointer (some ⟨g,0,none⟩)] wr fun r w'=>∃ v,r=.returned (.agg #[.bool (dN o),v,.int .i64 (dE o)])/\Nt wr.heap.size w' v (dX o)/\Below wr.heap.size wr w'):=by
     have e:(KL xs ys).take n=KL xs ys:=by rw [eF];rw [<-HV.o.r2];omega
     have hA:=HA.o.1.1;rw [e] at hA;rw [HO.o,<-HV.o.1];exact M8 g _ _ wr hA (HX.o.r3.1.belows HA.o.r2)
    have HL:=ay (HA.o.2.1.lt);go_wp2_with fail;refine (C.o).mono ?_;rintro r w3 ⟨v,rfl,hN,hb3⟩;obtain ⟨a9,c9,rfl,_⟩:=Lo.shape (q:=o) (by rw [HO.o];exact HV.o.2.1) hN;have B3:=fB (HA.o.2.1.below hb3 HL.o) (HA.o.r2.trans (hb3.mono HA.o.r2.size)) hN;have z0:=B3.o.1.cell 0 _ rfl;have z1:=B3.o.1.cell 1 _ rfl;have z2:=B3.o.1.cell 2 _ rfl;have f0:=B3.o.1.frozen 0;have f1:=B3.o.1.frozen 1;have f2:=B3.o.1.frozen 2;clear hb3 C hN;go_wp2;refine Hu Tryz.results57 ?_ B3.o.1 B3.o.2.1 B3.o.r2 (HL.o);rfl
theorem kJ (xs ys:List Nat) (a b:Option Addr) (n c d:Nat) (w:World) (hn:n=xs.length) (hn2:n=ys.length) (hF:Fs w.heap.size w a xs) (hF2:Fs w.heap.size w b ys) (hW:iZ xs) (hW2:iZ ys) (hf:∀ x ∈ xs,jC x) (hf2:∀ x ∈ ys,jC x) (hT:il w) (hl:n<=65536) :
 Calls Tryz.prog 57 #[.slice a n c,.slice b n d] w fun r w'=>dP 0 w' r (gV 2148 (pS xs ys))/\Below w.heap.size w w':=by
 refine (CL xs ys a b n c d w hn hn2 hF hF2 hW hW2 hf hf2 hT hl).mono ?_;rintro r w' ⟨v,rfl,hN,hb⟩;exact ⟨⟨v,rfl,hN.mono (lh _)⟩,hb⟩
end
end Go.Proofs.YtblkpkgebigojaaGreatDoor
