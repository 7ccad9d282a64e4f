import Derived.Test.YtjppdacikihpdaaGreatDoorZ5x
import Derived.Test.YtjppdacikihpdaaGreatDoorS10x
import Derived.Test.YtjppdacikihpdaaGreatDoorD39x
import Derived.BigQuiet
import Derived.Deep.RegionHeld3
import Derived.Deep.CutRange
import Derived.Test.YtjppdacikihpdaaGreatDoorD32cx
import Derived.Test.YtjppdacikihpdaaGreatDoorBIeeex
import Derived.Test.YtjppdacikihpdaaGreatDoorW24x
import Derived.ProofKit
import Derived.OpenShut
import Derived.ChangeOld
import Derived.SizedLaws
import Derived.ChangeArms
import Derived.Test.YtjppdacikihpdaaGreatDoorD8x
import Derived.KernelRfl
import Derived.ArgAppend
import Derived.Maps.AppendAt
import Derived.WalkMore
import Derived.OwnWalk
import Derived.Test.YtjppdacikihpdaaGreatDoorD15x
import Derived.Test.YtjppdacikihpdaaGreatDoorD19x
import Derived.Deep.RegionWith
import Derived.Test.YtjppdacikihpdaaGreatDoorU1x
import Derived.Deep.Cut
import Derived.RangeFuncNested
import Derived.RangeFuncBound
import Derived.RangeFuncCalls
import Derived.RangeFuncLeaves
import Derived.RangeFuncBox
import Derived.Shelf.Abstract
import Derived.Shelf.RegionOpen
import Derived.WalkKit
import Derived.OwnWalkIn
import Derived.TacticsInMore
import Derived.LoopNIn
import Derived.LoopIn
import Derived.Deep.RegionHeld
import Derived.Defers
import Derived.Test.YtjppdacikihpdaaGreatDoorM1x
import Derived.Laws.CopyOwn
import Derived.Deep.OwnRows
import Derived.Laws.MakeOwn
set_option linter.unusedVariables false
set_option linter.unusedSimpArgs false
set_option maxHeartbeats 16000000
set_option maxRecDepth 20000
namespace Go.Proofs.YtjppdacikihpdaaGreatDoor
namespace J
end J
section
open Go.RowKit
def Iv(o:Option (Bool×Nat×Int))(lo hi:Int):Prop:=∃ n X e,o=some (n,X,e)/\vk n X e/\(X=0\/(lo<=e/\e+(bl X:Int)<=hi))
theorem Iv.mono{o:Option (Bool×Nat×Int)}{a b c d:Int}(h:Iv o a b)(h1:c<=a)(h2:b<=d):Iv o c d:=by
 obtain⟨n,X,e,h,F,hb⟩:=h;exact⟨n,X,e,h,F,by omega⟩
theorem uf(n:Bool)(X:Nat)(e a b:Int)(h:X=0\/(a<=e/\e+(bl X:Int)<=b))(hw:b-a<=262144)(ha:-1048576<=a)(hb:b<=1048576):Iv (mkS n X e) a b:=by
 by_cases h0:X=0
 · subst h0;rw[fA];exact⟨false,0,0,rfl,⟨.inr ⟨rfl,rfl,rfl⟩,by rw[df];omega,by omega,by omega⟩,.inl rfl⟩
 · obtain⟨h1,h2⟩:=h.resolve_left h0;obtain⟨k,o1,o2,o3⟩:=gY X h0;have hp:=dm (X/2^lo X) (by omega)
   have e1:mkS n X e=some (n,X/2^lo X,e+lo X):=by
    unfold mkS;rw[if_neg h0,if_neg (by omega)]
   exact⟨n,_,_,e1,bK e1,.inr (by omega)⟩
theorem ug(X Y:Nat):bl (X*Y)<=bl X+bl Y:=dQ (by rw[aI];exact wS (iq X) (iq Y))
theorem Iv.mul{o p:Option (Bool×Nat×Int)}{a b c d:Int}(h1:Iv o a b)(h2:Iv p c d)(hw:(b+d)-(a+c)<=262144)(hl:-1048576<=a+c)(hh:b+d<=1048576):Iv (vI o p) (a+c) (b+d):=by
 obtain⟨n,X,e,rfl,F,hx⟩:=h1;obtain⟨m,Y,f,rfl,G,hy⟩:=h2;show Iv (mkS (n != m) (X*Y) (e+f)) _ _;refine uf _ _ _ _ _ ?_ hw hl hh;rcases hx with rfl|hx
 · left;rw[dS]
 · rcases hy with rfl | hy
   · left;rw[nP]
   · right
     have:=ug X Y;omega
theorem Oe{X k:Nat}{j:Nat}(h:bl X+k<=j):X*2^k<2^j:=by
 have h1:=iq X;have h2:X*2^k<2^bl X*2^k:=fe h1 (aU k);rw[<-aI] at h2;exact fZ h2 (eB (by decide) h)
theorem Fx(n m:Bool)(X Y:Nat)(e f a b:Int)(hfe:f<=e)(ha:a<=f)(h1:e+(bl X:Int)<=b)(h2:f+(bl Y:Int)<=b)(hw:b+1-a<=262144)(hl:-1048576<=a)(hh:b+1<=1048576)(hX:X≠0):Iv (jA n X e m Y f) a (b+1):=by
 have hp:=dm X hX;unfold jA;rw[if_neg (by omega)];obtain⟨j,hj⟩:∃ j:Nat,(j:Int)=b-f:=⟨(b-f).toNat,by omega⟩;have b1:X*2^(e-f).toNat<2^j:=Oe (by omega);have b2:Y<2^j:=fZ (iq Y) (eB (by decide) (by omega))
 have fin:∀ (s:Bool) (Z:Nat),Z<2^(j+1)->Iv (mkS s Z f) a (b+1):=by
  intro s Z hZ;refine uf s Z f a (b+1) ?_ hw hl hh
  by_cases h0:Z=0
  · exact .inl h0
  · right
    have:=dQ hZ;omega
 have b3:(2:Nat)^(j+1)=2*2^j:=by rw[dC,bJ]
 split
 · exact fin _ _ (by omega)
 · split
   · exact fin _ _ (by omega)
   · exact fin _ _ (by omega)
theorem Iv.add{o p:Option (Bool×Nat×Int)}{a b:Int}(h1:Iv o a b)(h2:Iv p a b)(hw:b+1-a<=262144)(hl:-1048576<=a)(hh:b+1<=1048576):Iv (oC o p) a (b+1):=by
 have h1':=h1;have h2':=h2;obtain⟨n,X,e,rfl,F,hx⟩:=h1;obtain⟨m,Y,f,rfl,G,hy⟩:=h2;show Iv (rM (n,X,e) (m,Y,f)) a (b+1);unfold rM;simp only
 by_cases hX:X=0
 · rw[if_pos hX];exact h2'.mono (by omega) (by omega)
 · rw[if_neg hX]
   by_cases hY:Y=0
   · rw[if_pos hY];exact h1'.mono (by omega) (by omega)
   · rw[if_neg hY];have ex:=hx.resolve_left hX;have ey:=hy.resolve_left hY
     split
     · exact Fx m n Y X f e a b (by omega) ex.1 ey.2 ex.2 hw hl hh hY
     · exact Fx n m X Y e f a b (by omega) ey.1 ex.2 ey.2 hw hl hh hX
def rU(o:Option (Bool×Nat×Int)):Int:=zv (-1048576) (dN o,dX o,dE o)
theorem fvO{o:Option (Bool×Nat×Int)}{n:Bool}{X:Nat}{e:Int}(h:mkS n X e=o)(hs:o.isSome=true):Fv (-1048576) o (rU o):=by
 cases o with
 | none=>cases hs
 | some d=>obtain⟨n1,X1,e1⟩:=d;exact⟨n1,X1,e1,rfl,bK h,rfl⟩
theorem Fv.RV{o:Option (Bool×Nat×Int)}{B z:Int}(h:Fv B o z):dX o=0↔z=0:=by
 obtain⟨n,X,e,rfl,F,rfl⟩:=h.ex;constructor
 · intro h0;exact pW B h0
 · intro h0;show X=0;rcases jH X with q|q
   · exact q
   · exfalso;have:=iL q (aU (e-B).toNat);unfold zv nD at h0
     cases n <;> simp only[dP,if_false,if_true] at h0 <;> omega
theorem Fv.V5{o:Option (Bool×Nat×Int)}{B z:Int}(h:Fv B o z):dN o=true↔z<0:=by
 obtain⟨n,X,e,rfl,F,rfl⟩:=h.ex;show n=true↔_;rcases F.odd with q|⟨rfl,rfl,rfl⟩
 · have:=iL (show 0<X by omega) (aU (e-B).toNat);unfold zv nD
   cases n <;> simp only[dP,if_false,if_true,false_iff,true_iff] <;> omega
 · simp[zv]
theorem Fv.I8{o:Option (Bool×Nat×Int)}{B z:Int}(h:Fv B o z):mkS (dN o) (dX o) (dE o)=o:=by
 obtain⟨n,X,e,rfl,F,rfl⟩:=h.ex;exact F.self
theorem RX(x y:Int):iT x y=-iT y x:=by unfold iT;split <;> split <;> omega
theorem Fv.len{o:Option (Bool×Nat×Int)}{B z:Int}(h:Fv B o z):(ws (dX o)).length<=8192:=by
 obtain⟨n,X,e,rfl,F,_⟩:=h.ex;exact dV F
def Al(w:World)(v:Value)(X:Nat):Prop:=∃ a l c xs,v=.slice a l c/\Arg w a l c xs/\val xs=X/\l<=2000000
theorem Al.below{w w':World}{v:Value}{X:Nat}(h:Al w v X)(hb:Below w.heap.size w w'):Al w' v X:=by
 obtain⟨a,l,c,xs,rfl,hA,hv,hl⟩:=h;exact⟨a,l,c,xs,rfl,hA.below hb,hv,hl⟩
def Fm(o:Option (Bool×Nat×Int)):Prop:=∃ B x,Fv B o x
theorem Fm.len{o:Option (Bool×Nat×Int)}(h:Fm o):(ws (dX o)).length<=8192:=by obtain⟨B,x,h⟩:=h;exact h.len
theorem Fm.re{o:Option (Bool×Nat×Int)}(h:Fm o):mkS (dN o) (dX o) (dE o)=o:=by obtain⟨B,x,h⟩:=h;exact h.I8
theorem Fm.qL{o:Option (Bool×Nat×Int)}(h:Fm o):-9223372036854775808<=dE o/\dE o<=9223372036854775807:=by
 obtain⟨B,x,h⟩:=h;obtain⟨n,X,e,rfl,F,_⟩:=h.ex;have:=F.up;have:=F.down;show -9223372036854775808<=e/\e<=9223372036854775807;omega
theorem Cy:vK 0=0:=by
 have:=ic 0 0 (.inl rfl) (by omega);simpa using this
def Dm(V:Int):Option (Bool×Nat×Int):=mkS (decide (V<0)) V.natAbs (-1074)
theorem Qaq{P:Prop}(h:P:=by
 unfold nD
 by_cases h:V<0
 · rw[decide_eq_true h,if_pos rfl];omega
 · rw[decide_eq_false h,if_neg (by decide)];omega):P:=h
theorem V7(V:Int):nD (decide (V<0))*(V.natAbs:Int)=V:=by
 exact Qaq
theorem Y6(V:Int)(m:Nat)(hm:m<=200000)(hV:V.natAbs<2^m):Fo (Dm V) (V*(UU:Int)) (-1074) ((m:Int)-1074):=by
 by_cases h0:V=0
 · subst h0;refine⟨⟨false,0,0,?_,?_,?_,.inl rfl⟩⟩
   · unfold Dm;exact fA _ _
   · exact bK (fA false 0)
   · rw[pW _ rfl];simp
 · obtain⟨X,e,h1,h2,h3,h4⟩:=YS (decide (V<0)) V.natAbs (-1074) (-1074) ((m:Int)-1074) (by omega) (by omega) (by have:=blLe hV;omega) (by omega) (by omega) (by omega);refine⟨⟨_,X,e,h1,bK h1,?_,.inr ⟨h3,h4⟩⟩⟩;rw[kG h1 (-2097152) (.inr (by omega))];have e1:(2:Nat)^((-1074:Int) - -2097152).toNat=UU*SS:=US _ (by decide);rw[e1,dK,dK,<-kV,V7,kV]
theorem V8{o:Option (Bool×Nat×Int)}{V L H:Int}(h:Fo o (V*(UU:Int)) L H)(m:Nat)(hm:m<=200000)(hV:V.natAbs<2^m):o=Dm V:=by
 obtain⟨n,X,e,rfl,F1,z1,_⟩:=h.ex;obtain⟨n',X',e',h2,F2,z2,_⟩:=(Y6 V m hm hV).ex;rw[h2];obtain⟨rfl,rfl,rfl⟩:=Rl F1 F2 (-2097152) (by omega) (by rw[z1,z2]);rfl
theorem Jb{x:Nat}(hx:Wd x)(fx:aY x)(m:Nat)(hm:m=2098):(tQ x).natAbs<2^m:=by
 unfold tQ;rw[YV];have:=Rx (aQ x) fx 2045 rfl;obtain⟨a,ha⟩:∃ a,a=2045:=⟨_,rfl⟩;have h2:=Rx (aQ x) fx a ha;rw[show m=53+a by omega,aI];exact h2
theorem Jc{x:Nat}(hx:Wd x)(fx:aY x):Uf (cZ x) (aQ x)=Dm (tQ x):=by
 obtain⟨n,X,e,h1,h2,_⟩:=of_fo (cZ x) (aQ x) fx;rw[h1];exact V8 h2 2098 (by omega) (Jb hx fx 2098 rfl)
theorem V9(x:Nat)(hx:Wd x/\aY x)(w:World)(hT:gF w) :
 Calls Tryz.prog 78 #[.float .f64 x] w fun r w'=>(∃ v,r=.returned (.tuple #[.agg #[.bool (dN (Dm (tQ x))),v,.int .i64 (dE (Dm (tQ x)))],.int .i64 0])/\Nt w.heap.size w' v (dX (Dm (tQ x))))/\Below w.heap.size w w':=by
 obtain⟨h1,h2,h3,_⟩:=KA (cZ x) (aQ x) (fD hx.2);have:=YH (cZ x) (aQ x/4503599627370496) (aQ x%4503599627370496) h2 h3 w hT;rw[<-h1,<-XJ x hx.1] at this;refine this.mono ?_;rintro r w' ⟨⟨v,rfl,hN⟩,hb⟩;have e:=Jc hx.1 hx.2;unfold Uf at e;rw[e] at hN |-;have he:XF (aQ x/4503599627370496)=0:=by unfold XF;rw[if_neg (by have:=hx.2;omega)]
 rw[he];exact⟨⟨v,rfl,hN⟩,hb⟩
end
section
open Go.RowKit J
theorem eF(g:Nat)(w:World)(x y z:Value):But g w (dG w g x y z):=(((But.refl g w).set _ _).set _ _).set _ _
def Lo(w:World)(g:Nat)(o:Option (Bool×Nat×Int)):Prop:=∃ a c,Dk w g (dN o) (.slice a (ws (dX o)).length c) (dE o)/\Nt 0 w (.slice a (ws (dX o)).length c) (dX o)
theorem Lo.below{w w':World}{g:Nat}{o:Option (Bool×Nat×Int)}(h:Lo w g o)(hb:Below w.heap.size w w'):Lo w' g o:=by
 obtain⟨a,c,h1,h2⟩:=h;exact⟨a,c,h1.below hb,h2.below hb⟩
theorem Lo.lt{w:World}{g:Nat}{o:Option (Bool×Nat×Int)}(h:Lo w g o):g<w.heap.size:=by
 obtain⟨a,c,h1,h2⟩:=h;exact h1.lt
theorem Nt.yB{lo g:Nat}{w:World}{v:Value}{X:Nat}{n:Bool}{a:Option Addr}{l c:Nat}{e:Int}(h:Nt lo w v X)(D:Dk w g n (.slice a l c) e)(x y z:Value):Nt lo (dG w g x y z) v X:=by
 refine h.off (eF g w x y z) ?_;rcases h.2 with ⟨rfl,_⟩|⟨g',cap,cur,rfl,_,hg,_⟩
 · simp[Value.ownBlock]
 · intro e';obtain rfl:g'=g:=by simpa [Value.ownBlock] using e'
   rw[show w.heap[g']?=_ from D] at hg;simp at hg
theorem Lo.set{w:World}{g:Nat}{o p:Option (Bool×Nat×Int)}(h:Lo w g o){a:Option Addr}{c:Nat}(hN:Nt 0 w (.slice a (ws (dX p)).length c) (dX p)) :
 Lo (dG w g (.bool (dN p)) (.slice a (ws (dX p)).length c) (.int .i64 (dE p))) g p:=by
 obtain⟨a0,c0,h1,h2⟩:=h;exact⟨a,c,h1.set _ _ _,hN.yB h1 _ _ _⟩
theorem Lo.other{w:World}{g g':Nat}{o p:Option (Bool×Nat×Int)}(h:Lo w g o)(h':Lo w g' p)(hg:g≠g')(x y z:Value):Lo (dG w g' x y z) g o:=by
 obtain⟨a,c,h1,h2⟩:=h;obtain⟨a0,c0,k1,k2⟩:=h';exact⟨a,c,h1.other _ hg _ _ _,h2.yB k1 _ _ _⟩
theorem Lo.new{w:World}{o:Option (Bool×Nat×Int)}{a:Option Addr}{c:Nat}(hN:Nt 0 w (.slice a (ws (dX o)).length c) (dX o)):Lo (w.alloc (Obj.cells #[.bool (dN o),.slice a (ws (dX o)).length c,.int .i64 (dE o)] 79)) w.heap.size o :=
 ⟨a,c,Dk.new _ _ _ _,hN.below (ae _ _)⟩
abbrev Fy:Option (Bool×Nat×Int):=some (false,0,0)
theorem Fz:(ws (dX Fy)).length=0:=by simp[dX,bI]
theorem Lo.zero(w:World):Lo (w.alloc (Obj.cells #[.bool false,.slice none 0 0,.int .i64 0] 79)) w.heap.size Fy:=by
 refine⟨none,0,?_,?_⟩
 · rw[Fz];exact Dk.new _ _ _ _
 · rw[Fz];exact Nt.nil _ _
theorem jk{B g:Nat}{a w:World}(h:Below B a w)(hB:B<=w.heap.size)(hg:B<=g)(x y z:Value):Below B a (dG w g x y z):=But.below h (eF g w x y z) hB hg
theorem Fm.er{o:Option (Bool×Nat×Int)}(h:Fm o):vY o=0:=by
 obtain⟨B,x,h⟩:=h;obtain⟨n,X,e,rfl,_⟩:=h.ex;rfl
theorem Fm.a12{o:Option (Bool×Nat×Int)}{w:World}{a:Option Addr}{c:Nat}(F:Fm o)(N:Nt 0 w (.slice a (ws (dX o)).length c) (dX o)):Arg w a (ws (dX o)).length c (ws (dX o)):=(N.bC (dz F.len (by decide))).2
theorem Y7{U:World}{a b:Option Addr}{c d:Nat}{o p q:Option (Bool×Nat×Int)}(F:Fm o)(G:Fm p)(N1:Nt 0 U (.slice a (ws (dX o)).length c) (dX o))(N2:Nt 0 U (.slice b (ws (dX p)).length d) (dX p))(hT:gF U)(h:vI o p=q)(H:Fm q) :
 Calls Tryz.prog 79 #[.agg #[.bool (dN o),.slice a (ws (dX o)).length c,.int .i64 (dE o)],.agg #[.bool (dN p),.slice b (ws (dX p)).length d,.int .i64 (dE p)]] U fun r w'=>(∃ v,r=.returned (.tuple #[.agg #[.bool (dN q),v,.int .i64 (dE q)],.int .i64 0])/\Nt U.heap.size w' v (dX q))/\Below U.heap.size U w':=by
 have:=Re (F.a12 N1) (G.a12 N2) hT (dN o) (dN p) (dE o) (dE p) F.qL.1 F.qL.2 G.qL.1 G.qL.2;rw[au,au,F.re,G.re,h] at this;unfold bS at this;rw[H.er] at this;exact this
theorem We{U:World}{a b:Option Addr}{c d:Nat}{o p q:Option (Bool×Nat×Int)}(F:Fm o)(G:Fm p)(N1:Nt 0 U (.slice a (ws (dX o)).length c) (dX o))(N2:Nt 0 U (.slice b (ws (dX p)).length d) (dX p))(hT:gF U)(h:oC o p=q)(H:Fm q) :
 Calls Tryz.prog 51 #[.agg #[.bool (dN o),.slice a (ws (dX o)).length c,.int .i64 (dE o)],.agg #[.bool (dN p),.slice b (ws (dX p)).length d,.int .i64 (dE p)]] U fun r w'=>(∃ v,r=.returned (.tuple #[.agg #[.bool (dN q),v,.int .i64 (dE q)],.int .i64 0])/\Nt U.heap.size w' v (dX q))/\Below U.heap.size U w':=by
 have:=QV (F.a12 N1) (G.a12 N2) hT (dN o) (dN p) (dE o) (dE p) F.qL.1 F.qL.2 G.qL.1 G.qL.2;rw[au,au,F.re,G.re,h] at this;unfold bS at this;rw[H.er] at this;exact this
theorem Lo.shape{w:World}{lo:Nat}{v:Value}{q:Option (Bool×Nat×Int)}(H:Fm q)(h:Nt lo w v (dX q)):∃ a c,v=.slice a (ws (dX q)).length c/\Nt 0 w v (dX q):=by
 obtain⟨a,c,rfl,_⟩:=h.arg (dz H.len (by decide));exact⟨a,c,rfl,h.mono (kg _)⟩
end
section
open Go.RowKit
theorem Cz(x y c:Int)(hc:0<c):iT (x*c) (y*c)=iT x y:=by
 unfold iT;have h1:x*c<y*c↔x<y:=⟨fun h=>Bh h (wR hc),fun h=>Bg h hc⟩;have h2:y*c<x*c↔y<x:=⟨fun h=>Bh h (wR hc),fun h=>Bg h hc⟩;simp only[h1,h2]
theorem Y8{n:Bool}{X:Nat}{e:Int}(F:vk n X e)(B:Int):Fv B (some (n,X,e)) (zv B (n,X,e)):=⟨n,X,e,rfl,F,rfl⟩
theorem Y9(s:Bool)(K:Nat)(hK:K<9218868437227405312):Iv (Uf s K) (-1074) 1024:=by
 obtain⟨x,hx⟩:∃ x,K/4503599627370496=x:=⟨_,rfl⟩;obtain⟨f,hf⟩:∃ f,K%4503599627370496=f:=⟨_,rfl⟩;have hxl:x<2047:=by omega
 have hfl:f<4503599627370496:=by omega
 obtain⟨M,hM⟩:∃ M,(if x=0 then f else f+4503599627370496)=M:=⟨_,rfl⟩;obtain⟨E,hE⟩:∃ E:Int,(if x=0 then(-1074:Int) else(x:Int)-1075)=E:=⟨_,rfl⟩
 have hME:(x=0/\M=f/\E=-1074)\/(x≠0/\M=f+4503599627370496/\E=(x:Int)-1075):=by
  exact Qah
 have bT:M<9007199254740992:=by omega
 have hO:Uf s K=mkS s M E:=by unfold Uf YF;rw[hx,hf,if_neg (by omega),hM,hE]
 rw[hO];have hb:=pQ M bT;exact uf s M E (-1074) 1024 (.inr (by omega)) (by omega) (by omega) (by omega)
end
section
open Go.RowKit Go.Shelf J
attribute [local go_sem] Oper.semAt_some
def oW(x:Nat):Option (Bool×Nat×Int):=Dm (tQ x)
theorem XN(x:Nat)(hx:x<18446744073709551616)(fx:aY x):Iv (oW x) (-1074) 1024:=by
 unfold oW;rw[<-Jc hx fx];exact Y9 _ _ fx
theorem Za(a b:Int):Iv Fy a b:=by
 refine⟨false,0,0,rfl,bK (fA false 0),.inl rfl⟩
theorem of12(x:Nat)(hx:x<18446744073709551616)(fx:aY x)(u:World)(hT:gF u):Calls Tryz.prog 78 #[.float .f64 x] u fun r w'=>(∃ v,r=.returned (.tuple #[.agg #[.bool (dN (oW x)),v,.int .i64 (dE (oW x))],.int .i64 0])/\Nt u.heap.size w' v (dX (oW x)))/\Below u.heap.size u w':=V9 x ⟨hx,fx⟩ u hT
end
section
open Go.RowKit
theorem Iv.fm{o:Option (Bool×Nat×Int)}{a b:Int}(h:Iv o a b):Fm o:=by
 obtain⟨n,X,e,rfl,F,_⟩:=h;exact⟨0,_,Y8 F 0⟩
theorem Zb{o:Option (Bool×Nat×Int)}{B x:Int}(h:Fv B o x)(hB:B<=-1048576)(D:Int)(hD:D<=0):Fv (B+D) o (x*((2^(0-D).toNat:Nat):Int)):=by
 obtain⟨n',X',e',hx,F',hz⟩:=h.ex;refine⟨n',X',e',hx,F',?_⟩;rw[<-hz];unfold zv;simp only;rw[kV,<-dK,aJ,<-aI];have:=F'.down;rw[show(e'-(B+D)).toNat=(e'-B).toNat+(0-D).toNat by omega]
end
section
open Go.RowKit J
def EK:Nat:=1048576
def EX:Nat:=1046428
def EY:Nat:=1047502
theorem exP(a:Nat):∃ u:Nat,u=2^a:=⟨_,rfl⟩
noncomputable def MM:Nat:=Classical.choose (exP EK)
noncomputable def XX:Nat:=Classical.choose (exP EX)
noncomputable def YY:Nat:=Classical.choose (exP EY)
theorem Zc:MM=2^EK:=wY (exP EK)
theorem X_eq:XX=2^EX:=wY (exP EX)
theorem Y_eq:YY=2^EY:=wY (exP EY)
theorem M_pos:0<MM:=by rw[Zc];exact aU _
theorem Fm.sm{o:Option (Bool×Nat×Int)}(h:Fm o):o.isSome=true:=by
 obtain⟨B,x,h⟩:=h;obtain⟨n,X,e,rfl,_⟩:=h.ex;rfl
theorem Fm.val{o:Option (Bool×Nat×Int)}(h:Fm o):Fv (-1048576) o (rU o):=fvO h.re h.sm
theorem Fv.uniq{B x y:Int}{o:Option (Bool×Nat×Int)}(h1:Fv B o x)(h2:Fv B o y):x=y:=by
 obtain⟨n,X,e,ho,_,hz⟩:=h1.ex;obtain⟨n',X',e',ho',_,hz'⟩:=h2.ex;rw[ho] at ho'
 cases ho'
 exact hz.symm.trans hz'
theorem val_mul{o p:Option (Bool×Nat×Int)}(F:Fm o)(G:Fm p)(H:Fm (vI o p)):rU (vI o p)*(MM:Int)=rU o*rU p:=by
 have h1:=Fv.mul (by decide) (by decide) F.val G.val H.sm;have h2:=Zb H.val (by decide) (-1048576) (by decide);rw[show((0:Int) - -1048576).toNat=EK from rfl,<-Zc] at h2;exact(h1.uniq h2).symm
theorem val_add{o p:Option (Bool×Nat×Int)}(F:Fm o)(G:Fm p)(H:Fm (oC o p)):rU (oC o p)=rU o+rU p :=
 H.val.uniq (Fv.add (by decide) F.val G.val H.sm)
theorem rV{o p:Option (Bool×Nat×Int)}(F:Fm o)(G:Fm p)(h:rU o=rU p):o=p:=by
 obtain⟨h1,h2,h3⟩:=Fv.same (by decide) F.val G.val h;obtain⟨n,X,e,rfl,_⟩:=F.val.ex;obtain⟨m,Y,f,rfl,_⟩:=G.val.ex;have h1:n=m:=h1;have h2:X=Y:=h2;have h3:e=f:=h3;rw[h1,h2,h3]
theorem val_mk{n:Bool}{X:Nat}{e:Int}(h:Fm (mkS n X e))(he:-1048576<=e)(k:Nat)(hk:(e+1048576).toNat=k):rU (mkS n X e)=nD n*((X*2^k:Nat):Int):=by
 obtain⟨⟨n',Y,f⟩,ho⟩:=wO.1 h.sm;have:=kG ho (-1048576) (.inr he);rw[show(e - -1048576).toNat=k by rw[<-hk];congr 1] at this;rw[<-this,ho];rfl
theorem qN(V:Int)(K:Nat):nD (decide (V<0))*((V.natAbs*K:Nat):Int)=V*(K:Int):=by
 rw[dK,<-kV];congr 1;exact Qaq
theorem CE{V:Int}(h:Fm (gH V)):rU (gH V)=V*(XX:Int):=by
 unfold gH at h |-;rw[val_mk h (by decide) EX rfl,<-X_eq,qN]
theorem Ze{V:Int}(h:Fm (Dm V)):rU (Dm V)=V*(YY:Int):=by
 unfold Dm at h |-;rw[val_mk h (by decide) EY rfl,<-Y_eq,qN]
theorem Qbb{P:Prop}(h:P:=by
 refine uf _ _ _ _ _ (.inr ⟨by omega,?_⟩) (by omega) (by omega) (by omega);have:=dQ hV;omega):P:=h
theorem FC(V:Int)(m:Nat)(hm:m<=100000)(hV:V.natAbs<2^m):Iv (gH V) (-2148) ((m:Int)-2148):=by
 unfold gH;exact Qbb
theorem nC(V:Int)(m:Nat)(hm:m<=100000)(hV:V.natAbs<2^m):Fm (gH V):=(FC V m hm hV).fm
theorem oW_fm(x:Nat)(hx:x<18446744073709551616)(fx:aY x):Fm (oW x):=(XN x hx fx).fm
theorem Zf{V U:Int}(m:Nat)(hm:m<=90000)(hV:V.natAbs<2^m)(hU:U.natAbs<2^m):oC (gH V) (gH U)=gH (V+U):=by
 have hF:=((FC V m (by omega) hV).add (FC U m (by omega) hU) (by omega) (by omega) (by omega)).fm;have hs:(V+U).natAbs<2^(m+1):=by rw[dC];omega
 have hG:=nC (V+U) (m+1) (by omega) hs;refine rV hF hG ?_;rw[val_add (nC V m (by omega) hV) (nC U m (by omega) hU) hF,CE hG,CE (nC V m (by omega) hV),CE (nC U m (by omega) hU),Int.add_mul]
theorem qd:gH 0=Fy:=fA _ _
def Bd(m:Nat)(V:Int):Prop:=V.natAbs<=2^m
theorem Bd.mono{m k:Nat}{V:Int}(h:Bd m V)(hk:m<=k):Bd k V:=dz h (eB (by decide) hk)
theorem Bd.lt{m:Nat}{V:Int}(h:Bd m V):V.natAbs<2^(m+1):=by
 unfold Bd at h;rw[dC];have:=aU m;omega
theorem Bd.mul{a b:Nat}{V W:Int}(h:Bd a V)(k:Bd b W):Bd (a+b) (V*W):=by
 unfold Bd at *;rw[Int.natAbs_mul,aI];exact jG h k
theorem Bd.add{m:Nat}{V W:Int}(h:Bd m V)(k:Bd m W):Bd (m+1) (V+W):=by
 unfold Bd at *;rw[dC];omega
theorem Bd.neg{m:Nat}{V:Int}(h:Bd m V):Bd m (-V):=by
 unfold Bd at *;rw[Int.natAbs_neg];exact h
theorem Bd.sub{m:Nat}{V W:Int}(h:Bd m V)(k:Bd m W):Bd (m+1) (V-W):=by
 rw[Int.sub_eq_add_neg];exact h.add k.neg
def gV(u:Nat)(V:Int):Option (Bool×Nat×Int):=mkS (decide (V<0)) V.natAbs (-(u:Int))
theorem Og{u m:Nat}{V:Int}(hu:u<=100000)(hm:m<=99999)(hV:Bd m V):Iv (gV u V) (-(u:Int)) (((m+1:Nat):Int)-(u:Int)):=by
 unfold gV;refine uf _ _ _ _ _ (.inr ⟨by omega,?_⟩) (by omega) (by omega) (by omega);have:=dQ hV.lt;omega
theorem lJ{u m:Nat}{V:Int}(hu:u<=100000)(hm:m<=99999)(hV:Bd m V):Fm (gV u V):=(Og hu hm hV).fm
theorem yC{u:Nat}{V:Int}(h:Fm (gV u V))(hu:u<=1000000)(k:Nat)(hk:k+u=EK):rU (gV u V)=V*((2^k:Nat):Int):=by
 unfold gV at h |-;rw[val_mk h (by omega) k (by unfold EK at hk;omega),qN]
theorem exK(u:Nat)(hu:u<=1000000):∃ k,k+u=EK:=⟨EK-u,by unfold EK;omega⟩
theorem RY{u v a b:Nat}{V W:Int}(hu:u<=50000)(hv:v<=50000)(ha:a<=40000)(hb:b<=40000)(h1:Bd a V)(h2:Bd b W):vI (gV u V) (gV v W)=gV (u+v) (V*W):=by
 have F:=Og (u:=u) (by omega) (by omega) h1;have G:=Og (u:=v) (by omega) (by omega) h2;have hF:=(F.mul G (by omega) (by omega) (by omega)).fm;have hG:=lJ (u:=u+v) (by omega) (by omega) (h1.mul h2);refine rV hF hG ?_;obtain⟨k1,e1⟩:=exK u (by omega);obtain⟨k2,e2⟩:=exK v (by omega);obtain⟨k3,e3⟩:=exK (u+v) (by omega);have h:=val_mul F.fm G.fm hF;rw[yC F.fm (by omega) k1 e1,yC G.fm (by omega) k2 e2] at h;rw[yC hG (by omega) k3 e3];have hM:=M_pos;refine Int.eq_of_mul_eq_mul_right (a:=(MM:Int)) (by omega) (h.trans ?_)
 have e:((2^k1:Nat):Int)*((2^k2:Nat):Int)=((2^k3:Nat):Int)*(MM:Int):=by
  rw[<-dK,<-dK,Zc,<-aI,<-aI,show k1+k2=k3+EK by omega]
 rw[kV (V*W),<-e,kV,kV,Int.mul_left_comm W]
theorem RZ{u m:Nat}{V W:Int}(hu:u<=100000)(hm:m<=90000)(h1:Bd m V)(h2:Bd m W):oC (gV u V) (gV u W)=gV u (V+W):=by
 have F:=Og (u:=u) (by omega) (by omega) h1;have G:=Og (u:=u) (by omega) (by omega) h2;have hF:=(F.add G (by omega) (by omega) (by omega)).fm;have hG:=lJ (u:=u) (by omega) (by omega) (h1.add h2);refine rV hF hG ?_;obtain⟨k1,e1⟩:=exK u (by omega);rw[val_add F.fm G.fm hF,yC F.fm (by omega) k1 e1,yC G.fm (by omega) k1 e1,yC hG (by omega) k1 e1,Int.add_mul]
theorem g_neg(u:Nat)(W:Int):Y5 (gV u W)=gV u (-W):=by
 unfold gV;rw[RU,Int.natAbs_neg]
 by_cases h:W=0
 · subst h;rw[Int.natAbs_zero,fA,fA]
 · congr 1
   by_cases h1:W<0
   · rw[decide_eq_true h1,decide_eq_false (by omega)];rfl
   · rw[decide_eq_false h1,decide_eq_true (by omega)];rfl
theorem g_sub{u m:Nat}{V W:Int}(hu:u<=100000)(hm:m<=90000)(h1:Bd m V)(h2:Bd m W):oC (gV u V) (mkS (!dN (gV u W)) (dX (gV u W)) (dE (gV u W)))=gV u (V-W):=by
 rw[Fw (lJ (u:=u) (by omega) (by omega) h2).sm,g_neg,RZ hu hm h1 h2.neg,<-Int.sub_eq_add_neg]
theorem R3{u m:Nat}{V:Int}(hu:u<=100000)(hm:m<=90000)(h:Bd m V):(dX (gV u V)=0↔V=0)/\(dN (gV u V)=true↔V<0):=by
 have F:=lJ (u:=u) hu (by omega) h;obtain⟨k,e⟩:=exK u (by omega);have hv:=F.val;rw[yC F (by omega) k e] at hv;have hp:(0:Int)<((2^k:Nat):Int):=by have:=aU k;omega
 refine⟨hv.RV.trans ?_,hv.V5.trans ?_⟩
 · constructor
   · intro q;rcases Int.mul_eq_zero.1 q with q|q
     · exact q
     · omega
   · rintro rfl;rw[Int.zero_mul]
 · constructor
   · intro q;rcases Int.lt_or_le V 0 with r|r
     · exact r
     · have:=Int.mul_nonneg r (wR hp);omega
   · intro q;exact Int.mul_neg_of_neg_of_pos q hp
attribute [irreducible] Bd
end
section
open Go.RowKit
def FD(k:Nat):Nat:=if k=5 then 1 else if k=3 then 2 else if k=4 then 3 else if k=1 then 4 else if k=2 then 5 else 0
theorem Oh(n u d m p a:Int)(k:Nat)(hk:k<=5)(hs:(Sp.mk n u d m p a).ok)(w:World) :
 Calls Tryz.prog 161 #[.agg #[.int .i64 n,.int .i64 u,.int .i64 d,.int .i64 m,.int .i64 p,.int .i64 a],.int .i64 (k:Nat),.int .i64 1] w fun r w'=>r=.returned ((Sp.mk n u d m p a).cnt (FD k) 1).agg/\Below w.heap.size w w':=by
 obtain⟨h0,h1,h2,h3,h4,h5⟩:=hs;simp only at h0 h1 h2 h3 h4 h5;have hne:w.heap.size≠w.heap.size+1:=by omega
 have hc:k=0\/k=1\/k=2\/k=3\/k=4\/k=5:=by omega
 clear hk;rcases hc with rfl|rfl|rfl|rfl|rfl|rfl
 · go_enter Tryz.func161,Tryz.ntmps161;go_wp2;exact aB (v:=.agg #[.int .i64 n,.int .i64 u,.int .i64 d,.int .i64 m,.int .i64 p,.int .i64 (a+1)]) (by simp[results,Tryz.results161,go_sem]) rfl ⟨by first | rfl | simp[Sp.cnt,FD,Sp.agg],(ax _ _).trans ((ax _ _).mono (by simp))⟩
 · go_enter Tryz.func161,Tryz.ntmps161;go_wp2;exact aB (v:=.agg #[.int .i64 n,.int .i64 u,.int .i64 d,.int .i64 (m+1),.int .i64 p,.int .i64 (a+1)]) (by simp[results,Tryz.results161,go_sem]) rfl ⟨by first | rfl | simp[Sp.cnt,FD,Sp.agg],(ax _ _).trans ((ax _ _).mono (by simp))⟩
 · go_enter Tryz.func161,Tryz.ntmps161;go_wp2;exact aB (v:=.agg #[.int .i64 n,.int .i64 u,.int .i64 d,.int .i64 m,.int .i64 (p+1),.int .i64 (a+1)]) (by simp[results,Tryz.results161,go_sem]) rfl ⟨by first | rfl | simp[Sp.cnt,FD,Sp.agg],(ax _ _).trans ((ax _ _).mono (by simp))⟩
 · go_enter Tryz.func161,Tryz.ntmps161;go_wp2;exact aB (v:=.agg #[.int .i64 n,.int .i64 (u+1),.int .i64 d,.int .i64 m,.int .i64 p,.int .i64 (a+1)]) (by simp[results,Tryz.results161,go_sem]) rfl ⟨by first | rfl | simp[Sp.cnt,FD,Sp.agg],(ax _ _).trans ((ax _ _).mono (by simp))⟩
 · go_enter Tryz.func161,Tryz.ntmps161;go_wp2;exact aB (v:=.agg #[.int .i64 n,.int .i64 u,.int .i64 (d+1),.int .i64 m,.int .i64 p,.int .i64 (a+1)]) (by simp[results,Tryz.results161,go_sem]) rfl ⟨by first | rfl | simp[Sp.cnt,FD,Sp.agg],(ax _ _).trans ((ax _ _).mono (by simp))⟩
 · go_enter Tryz.func161,Tryz.ntmps161;go_wp2;exact aB (v:=.agg #[.int .i64 (n+1),.int .i64 u,.int .i64 d,.int .i64 m,.int .i64 p,.int .i64 (a+1)]) (by simp[results,Tryz.results161,go_sem]) rfl ⟨by first | rfl | simp[Sp.cnt,FD,Sp.agg],(ax _ _).trans ((ax _ _).mono (by simp))⟩
end
section
open Go.RowKit
open Go.Proofs.YtjppdacikihpdaaGreatDoor.B (aM aF bw)
attribute [local go_sem] aM aF
theorem jl(a:Int)(w:World):Calls Tryz.prog 169 #[.int .i64 a] w fun r w'=>r=.returned (.bool (ct a))/\w'=w:=by
 unfold ct
 by_cases h:0<=a
 · have hd:decide (0<=a)=true:=decide_eq_true h;rw[hd];go_enter Tryz.func169,Tryz.ntmps169;exact yd
 · have hd:decide (0<=a)=false:=decide_eq_false h;rw[hd];go_enter Tryz.func169,Tryz.ntmps169;exact yd
def zrR(neg:Bool):Nat:=if neg then 9223372036854775808 else 0
theorem FH(neg:Bool)(w:World):Calls Tryz.prog 118 #[.bool neg] w fun r w'=>r=.returned (.float .f64 (zrR neg))/\w'=w:=by
 cases neg <;>
 · go_enter Tryz.func118,Tryz.ntmps118;go_wp2;exact Xs
def kd(b:Nat):Nat :=
 if 9218868437227405312<b%9223372036854775808 then 5
 else if b%9223372036854775808=9218868437227405312 then(if b/9223372036854775808=1 then 4 else 3)
 else if b%9223372036854775808=0 then(if b/9223372036854775808=1 then 1 else 2)
 else 0
def kp(k:Nat):Nat:=if k=5 then 0 else if k=3 then 1 else if k=4 then 2 else if k=1 then 3 else if k=2 then 4 else 5
theorem yD(b:Nat)(hb:b<18446744073709551616)(w:World):Calls Tryz.prog 162 #[.float .f64 b] w fun r w'=>r=.returned (.int .i64 (kd b:Nat))/\w'=w:=by
 unfold kd;obtain⟨z,hz⟩:∃ z,b%9223372036854775808=z:=⟨_,rfl⟩;obtain⟨s,hs⟩:∃ s,b/9223372036854775808=s:=⟨_,rfl⟩;have hz2:(b:Int)%9223372036854775808=(z:Int):=by omega
 have hs2:(b:Int)/9223372036854775808=(s:Int):=by omega
 have hz3:(b:Int).tmod 9223372036854775808=(z:Int):=by rw[Int.tmod_eq_emod_of_nonneg (by omega)];exact hz2
 have hzl:z<9223372036854775808:=by omega
 have hsl:s<2:=by omega
 rw[hz,hs];clear hz hs
 by_cases h1:9218868437227405312<z
 · rw[if_pos h1];have h1':(9218868437227405312:Int)<(z:Int):=by omega
   go_enter Tryz.func162,Tryz.ntmps162;go_wp2;exact Xs
 · rw[if_neg h1];have h1':decide ((9218868437227405312:Int)<(z:Int))=false:=decide_eq_false (by omega);have Zg:s=0\/s=1:=by omega
   by_cases h2:z=9218868437227405312
   · subst h2;rcases Zg with rfl|rfl
     · go_enter Tryz.func162,Tryz.ntmps162;go_wp2;exact Xs
     · go_enter Tryz.func162,Tryz.ntmps162;go_wp2;exact Xs
   · rw[if_neg h2];have h2':((z:Int)==9218868437227405312)=false:=by rw[beq_eq_false_iff_ne];omega
     by_cases h3:z=0
     · subst h3;rcases Zg with rfl|rfl
       · go_enter Tryz.func162,Tryz.ntmps162;go_wp2;exact Xs
       · go_enter Tryz.func162,Tryz.ntmps162;go_wp2;exact Xs
     · rw[if_neg h3];have h3':((z:Int)==0)=false:=by rw[beq_eq_false_iff_ne];omega
       clear h1 h2 h3 hz3;rcases Zg with rfl|rfl
       · go_enter Tryz.func162,Tryz.ntmps162;go_wp2;exact Xs
       · go_enter Tryz.func162,Tryz.ntmps162;go_wp2;exact Xs
theorem kd_bw(s:Bool)(e f:Nat)(he:e<2048)(hf:f<4503599627370496):kd (bw s e f)=if e=2047 then(if f=0 then(if s then 4 else 3) else 5) else if e=0/\f=0 then(if s then 1 else 2) else 0:=by
 unfold kd bw;have h1:(s.toNat*9223372036854775808+e*4503599627370496+f)%9223372036854775808=e*4503599627370496+f:=by cases s <;> simp only[fH,fI] <;> omega
 have h2:(s.toNat*9223372036854775808+e*4503599627370496+f)/9223372036854775808=s.toNat:=by cases s <;> simp only[fH,fI] <;> omega
 rw[h1,h2]
 by_cases he2:e=2047
 · subst he2;rw[if_pos rfl]
   by_cases hf0:f=0
   · subst hf0;cases s <;> simp
   · rw[if_pos (by omega),if_neg hf0]
 · rw[if_neg he2,if_neg (by omega),if_neg (by omega)]
   by_cases h0:e=0/\f=0
   · obtain⟨rfl,rfl⟩:=h0;cases s <;> simp
   · rw[if_neg (by omega),if_neg h0]
theorem yE(neg:Bool)(a b:Int)(w:World):Calls Tryz.prog 140 #[.bool neg,.int .i64 a,.int .i64 b] w fun r w'=>r=.returned (.int .i64 (if neg then a else b))/\w'=w:=by
 cases neg <;>
 · go_enter Tryz.func140,Tryz.ntmps140;go_wp2;exact Xs
theorem jz{P:Prop}(h:P:=by
 go_enter Tryz.func86,Tryz.ntmps86;go_wp2_with fail;refine(H.o _).mono ?_;rintro r w1 ⟨rfl,hb1⟩;have HB:=ah hb1;have hz:=hb1.size;clear hb1;go_wp2;go_ret;exact⟨rfl,(HB.o.alloc hz _)⟩):P:=h
theorem yi{P:Prop}(h:P:=by
 rw[hk];clear hc hg hx hk;go_enter Tryz.func86,Tryz.ntmps86;go_wp2_with fail;refine(H.o _).mono ?_;rintro r w1 ⟨rfl,hb1⟩;have HB:=ah hb1;have hz:=hb1.size;clear hb1;go_wp2_with fail;refine(HS.o _).mono ?_;rintro r w2 ⟨rfl,rfl⟩;go_wp2;go_ret;exact⟨rfl,(HB.o.alloc hz _)⟩):P:=h
theorem R4(b:Nat)(hb:b<18446744073709551616)(w:World):Calls Tryz.prog 86 #[.float .f64 b] w fun r w'=>r=.returned (.int .i64 (kp (kd b):Nat))/\Below w.heap.size w w':=by
 obtain⟨s,e,f,he,hf,rfl⟩:=B.bw_of b hb;rw[kd_bw s e f he hf];have H:=hid (B.ma s e f he hf);obtain⟨x1,hx1⟩:∃ x,B.xp e=x:=⟨_,rfl⟩;obtain⟨x2,hx2⟩:∃ x,B.fr e f=x:=⟨_,rfl⟩;rw[hx1,hx2] at H;clear hx1 hx2 hb
 by_cases he2:e=2047
 · subst he2
   by_cases hf0:f=0
   · subst hf0;have hc:B.cls 2047 0=3:=by unfold B.cls;rw[if_pos rfl,if_pos rfl]
     have hg:B.ng s 2047 0=s:=by unfold B.ng;rw[if_neg (by simp)]
     rw[hc,hg] at H;rw[if_pos rfl,if_pos rfl];have HS:=hid (yE s 2 1);obtain⟨x,hx⟩:∃ x:Int,(if s then 2 else 1)=x:=⟨_,rfl⟩;rw[hx] at HS;have hk:((kp (if s then 4 else 3):Nat):Int)=x:=by cases s <;> (subst hx;rfl)
     exact yi
   · have hc:B.cls 2047 f=4:=by unfold B.cls;rw[if_pos rfl,if_neg hf0]
     rw[hc] at H;rw[if_pos rfl,if_neg hf0];obtain⟨x3,hx3⟩:∃ x,B.ng s 2047 f=x:=⟨_,rfl⟩;rw[hx3] at H;clear hc hx3;exact jz
 · rw[if_neg he2];have hg:B.ng s e f=s:=by unfold B.ng;rw[if_neg (fun h=>he2 h.1)]
   rw[hg] at H
   by_cases h0:e=0/\f=0
   · obtain⟨rfl,rfl⟩:=h0;have hc:B.cls 0 0=0:=by unfold B.cls;rw[if_neg (by omega),if_pos rfl,if_pos rfl]
     rw[hc] at H;rw[if_pos ⟨rfl,rfl⟩];have HS:=hid (yE s 3 4);obtain⟨x,hx⟩:∃ x:Int,(if s then 3 else 4)=x:=⟨_,rfl⟩;rw[hx] at HS;have hk:((kp (if s then 1 else 2):Nat):Int)=x:=by cases s <;> (subst hx;rfl)
     exact yi
   · rw[if_neg h0]
     obtain⟨c,hc,h1,h2,h3⟩:∃ c:Int,B.cls e f=c/\(c==4)=false/\(c==3)=false/\(c==0)=false:=by
      unfold B.cls;rw[if_neg he2]
      by_cases he0:e=0
      · rw[if_pos he0,if_neg (fun h=>h0 ⟨he0,h⟩)];exact⟨_,rfl,by decide,by decide,by decide⟩
      · rw[if_neg he0];exact⟨_,rfl,by decide,by decide,by decide⟩
     rw[hc] at H;clear hc hg;exact jz
end
section
open Go.RowKit J
theorem KE(b:Nat):kd b<=5:=by unfold kd;(repeat' split) <;> omega
def s6(l:List Nat):Sp:=l.foldl (fun s x=>s.cnt (FD (kd x)) 1) ⟨0,0,0,0,0,0⟩
theorem Bl.uh{w:World}{g T:Nat}{a b c d e f v0 v1 v2 v3 v4 v5:Value}(h:Bl w g T [a,b,c,d,e,f]):Bl ((((((w.setCell ⟨g,0,none⟩ v0).setCell ⟨g,1,none⟩ v1).setCell ⟨g,2,none⟩ v2).setCell ⟨g,3,none⟩ v3).setCell ⟨g,4,none⟩ v4).setCell ⟨g,5,none⟩ v5) g T [v0,v1,v2,v3,v4,v5] :=
 (((((h.set 0 v0).set 1 v1).set 2 v2).set 3 v3).set 4 v4).set 5 v5
theorem But.uh{a w:World}{g:Nat}(h:But g a w)(u0 u1 u2 u3 u4 u5:Value):But g a ((((((w.setCell ⟨g,0,none⟩ u0).setCell ⟨g,1,none⟩ u1).setCell ⟨g,2,none⟩ u2).setCell ⟨g,3,none⟩ u3).setCell ⟨g,4,none⟩ u4).setCell ⟨g,5,none⟩ u5) :=
 (((((h.set 0 u0).set 1 u1).set 2 u2).set 3 u3).set 4 u4).set 5 u5
end
section
open Go.RowKit
theorem rof8(x:Nat)(hx:Wd x/\aY x)(w:World) :
 Calls Tryz.prog 66 #[.float .f64 x] w fun r w'=>(∃ v,r=.returned (.tuple #[.agg #[.bool (dN (Dm (tQ x))),v,.int .i64 (dE (Dm (tQ x)))],.int .i64 0])/\Nt w.heap.size w' v (dX (Dm (tQ x))))/\Below w.heap.size w w':=by
 obtain⟨h1,h2,h3,_⟩:=KA (cZ x) (aQ x) (fD hx.2);have:=QJ (cZ x) (aQ x/4503599627370496) (aQ x%4503599627370496) h2 h3 w;rw[<-h1,<-XJ x hx.1] at this;refine this.mono ?_;rintro r w' ⟨⟨v,rfl,hN⟩,hb⟩;have e:=Jc hx.1 hx.2;unfold Uf at e;rw[e] at hN |-;have he:XF (aQ x/4503599627370496)=0:=by unfold XF;rw[if_neg (by have:=hx.2;omega)]
 rw[he];exact⟨⟨v,rfl,hN⟩,hb⟩
section
attribute [local go_sem] B.aM B.aF
end
end
section
open Go.RowKit J
theorem Fm.two{o:Option (Bool×Nat×Int)}(h:Fm o):(ws (dX o)).length<=2000000:=dz h.len (by decide)
theorem R5{U:World}{a b:Option Addr}{c d:Nat}{o p q:Option (Bool×Nat×Int)}(F:Fm o)(G:Fm p)(N1:Nt 0 U (.slice a (ws (dX o)).length c) (dX o))(N2:Nt 0 U (.slice b (ws (dX p)).length d) (dX p))(h:vI o p=q)(H:Fm q) :
 Calls Tryz.prog 68 #[.agg #[.bool (dN o),.slice a (ws (dX o)).length c,.int .i64 (dE o)],.agg #[.bool (dN p),.slice b (ws (dX p)).length d,.int .i64 (dE p)]] U fun r w'=>(∃ v,r=.returned (.tuple #[.agg #[.bool (dN q),v,.int .i64 (dE q)],.int .i64 0])/\Nt U.heap.size w' v (dX q))/\Below U.heap.size U w':=by
 have:=Nu (F.a12 N1) (G.a12 N2) F.two G.two (dN o) (dN p) (dE o) (dE p) F.qL.1 F.qL.2 G.qL.1 G.qL.2;rw[au,au,F.re,G.re,h] at this;unfold bS at this;rw[H.er] at this;exact this
theorem R6{U:World}{a b:Option Addr}{c d:Nat}{o p q:Option (Bool×Nat×Int)}(F:Fm o)(G:Fm p)(N1:Nt 0 U (.slice a (ws (dX o)).length c) (dX o))(N2:Nt 0 U (.slice b (ws (dX p)).length d) (dX p))(h:oC o p=q)(H:Fm q) :
 Calls Tryz.prog 70 #[.agg #[.bool (dN o),.slice a (ws (dX o)).length c,.int .i64 (dE o)],.agg #[.bool (dN p),.slice b (ws (dX p)).length d,.int .i64 (dE p)]] U fun r w'=>(∃ v,r=.returned (.tuple #[.agg #[.bool (dN q),v,.int .i64 (dE q)],.int .i64 0])/\Nt U.heap.size w' v (dX q))/\Below U.heap.size U w':=by
 have:=Ae (F.a12 N1) (G.a12 N2) F.two G.two (dN o) (dN p) (dE o) (dE p) F.qL.1 F.qL.2 G.qL.1 G.qL.2;rw[au,au,F.re,G.re,h] at this;unfold bS at this;rw[H.er] at this;exact this
theorem R7(x:Nat)(hx:x<18446744073709551616)(fx:aY x)(w:World) :
 Calls Tryz.prog 66 #[.float .f64 x] w fun r w'=>(∃ v,r=.returned (.tuple #[.agg #[.bool (dN (oW x)),v,.int .i64 (dE (oW x))],.int .i64 0])/\Nt w.heap.size w' v (dX (oW x)))/\Below w.heap.size w w':=rof8 x ⟨hx,fx⟩ w
end
section
open Go Go.RowKit J
theorem Zh:∃ d:TypeDesc,Tryz.prog.underlying 79=some d/\d.isRow=true:=by
 have h:(Tryz.prog.underlying 79).any (·.isRow)=true:=by kernel_rfl
 cases hd:Tryz.prog.underlying 79 with
 | none=>rw[hd] at h;cases h
 | some d=>rw[hd] at h;exact⟨d,rfl,h⟩
theorem Wh:(Tryz.prog.info? 79).map (·.size)=some 3:=by kernel_rfl
theorem R8{fn:Func}{p:Tmp}(h:fn.results=#[.cell p 79])(tmps:Array Value)(W:World)(g:Nat)(n:Bool)(v:Value)(e:Int)(hp:tmps.getD p undef=.pointer (some ⟨g,0,none⟩))(hD:Dk W g n v e) :
 (results fn tmps).run Tryz.prog W=.ok (.agg #[.bool n,v,.int .i64 e]) W:=by
 obtain⟨d,h1,h2⟩:=Zh
 cases d <;> first
  | exact results_cell_row (P:=Tryz.prog) h tmps W g 79 _ _ _ hp hD h1 rfl (by rw[Wh];rfl)
  | exact absurd h2 (by simp[TypeDesc.isRow])
theorem end14 {fn:Func}{p:Tmp}(hfn:fn.results=#[.cell p 79]) {w base:World}{tmps:Array Value}{o q:Option (Bool×Nat×Int)}{a:Option Addr}{c g:Nat}(h2:tmps.getD p undef=.pointer (some ⟨g,0,none⟩))
 (hL:Lo base g q) (hbw:Below w.heap.size w base) (hg:w.heap.size<=g) (hN:Nt 0 base (.slice a (ws (dX o)).length c) (dX o)) :
 bodyPost Tryz.prog fn (fun r w'=>Iq 0 w' r o/\Below w.heap.size w w') .ret ⟨tmps,[]⟩
  (((base.setCell ⟨g,0,none⟩ (.bool (dN o))).setCell ⟨g,1,none⟩ (.slice a (ws (dX o)).length c)).setCell ⟨g,2,none⟩ (.int .i64 (dE o))):=by
 obtain⟨a0,c0,hD,hM⟩:=hL;exact aB (v:=.agg #[.bool (dN o),.slice a (ws (dX o)).length c,.int .i64 (dE o)]) (R8 hfn _ _ g _ _ _ h2 (hD.set _ _ _)) rfl ⟨⟨_,rfl,hN.yB hD _ _ _⟩,jk hbw hbw.size hg _ _ _⟩
end
section
open Go.RowKit
theorem Wi {fn:Func}{p:Tmp}(hfn:fn.results=#[.cell p 79]) {w base:World}{tmps:Array Value}{o:Option (Bool×Nat×Int)}{v x y z:Value}{lo:Nat}(h2:tmps.getD p undef=.pointer (some ⟨w.heap.size,0,none⟩))
 (hZ:Bl base w.heap.size 79 [x,y,z]) (hbw:Below w.heap.size w base) (hN:Nt lo base v (dX o)) (hlo:w.heap.size<lo) :
 bodyPost Tryz.prog fn (fun r w'=>∃ v,r=.returned (.agg #[.bool (dN o),v,.int .i64 (dE o)])/\Nt w.heap.size w' v (dX o)/\Below w.heap.size w w') .ret ⟨tmps,[]⟩
  (((base.setCell ⟨w.heap.size,0,none⟩ (.bool (dN o))).setCell ⟨w.heap.size,1,none⟩ v).setCell ⟨w.heap.size,2,none⟩ (.int .i64 (dE o))):=by
 have q:Bl (((base.setCell ⟨w.heap.size,0,none⟩ (.bool (dN o))).setCell ⟨w.heap.size,1,none⟩ v).setCell ⟨w.heap.size,2,none⟩ (.int .i64 (dE o))) w.heap.size 79 [.bool (dN o),v,.int .i64 (dE o)]:=((hZ.set 0 _).set 1 _).set 2 _;have aD:But w.heap.size base (((base.setCell ⟨w.heap.size,0,none⟩ (.bool (dN o))).setCell ⟨w.heap.size,1,none⟩ v).setCell ⟨w.heap.size,2,none⟩ (.int .i64 (dE o))):=(((But.refl _ _).set 0 _).set 1 _).set 2 _;refine aB (v:=.agg #[.bool (dN o),v,.int .i64 (dE o)]) (qH hfn _ _ w.heap.size [.bool (dN o),v,.int .i64 (dE o)] h2 q Tryz.xP (by rw[Tryz.tF];rfl)) rfl ?_;exact⟨v,rfl,(hN.Qt aD hlo).mono (by omega),But.below hbw aD hbw.size (ak _)⟩
theorem HB13:∃ k:Nat,k=4238/\HB=2^k:=⟨4238,rfl,xO 4238 rfl⟩
theorem Ar{xs:List Nat}(hW:ja xs)(hl:xs.length<=65536):∃ k:Nat,k=4238/\(vS xs).natAbs<2^k:=by
 obtain⟨k,hk,e⟩:=HB13;refine⟨k,hk,?_⟩;rw[<-e];have h1:=oG xs hW xs.length (ak _);rw[List.take_length] at h1;have h3:xs.length*QB<=65536*QB:=di _ hl;have h4:=Kt;have h5:=Cm;omega
theorem R9{xs:List Nat}(hW:ja xs)(hl:xs.length<=65536):Fm (gH (vS xs)):=by
 obtain⟨k,hk,h⟩:=Ar hW hl;exact nC _ k (by omega) h
theorem Wj(xs:List Nat)(a:Option Addr)(n c:Nat)(w:World)(hn:n=xs.length)(hF:Fs w.heap.size w a xs)(hW:ja xs)(hT:gF w)(hl:n<=65536) :
 Calls Tryz.prog 77 #[.slice a n c] w fun r w'=>∃ v,r=.returned (.agg #[.bool (dN (gH (vS xs))),v,.int .i64 (dE (gH (vS xs)))])/\Nt w.heap.size w' v (dX (gH (vS xs)))/\Below w.heap.size w w':=by
 have HX:=fM hn hF hW hT hl;obtain⟨o,ho⟩:=af (gH (vS xs));rw[<-ho];have HO:=ah ho;clear hn hF hW hT ho;obtain⟨W1,hW1⟩:=af (w.alloc (.cells #[.bool false,.slice none 0 0,.int .i64 0] 79))
 have H1:Aside (Below w.heap.size w W1/\Bl W1 w.heap.size 79 [.bool false,.slice none 0 0,.int .i64 0]/\W1.heap.size=w.heap.size+1):=by
  subst hW1;exact⟨ax _ _,Bl.new _ 79 [_,_,_],by simp⟩
 go_enter Tryz.func77,Tryz.ntmps77;go_wp2_with fail;rw[<-hW1];clear hW1;refine(New7 W1).mono ?_;rintro r w2 ⟨rfl,hA,hb2⟩;obtain⟨g,hg⟩:=af (W1.heap.size);rw[<-hg] at hA |-
 have P2:Aside (Bl w2 w.heap.size 79 [.bool false,.slice none 0 0,.int .i64 0]/\Below w.heap.size w w2/\w.heap.size<g/\ql w2 g 0 ⟨0,0,0,0,0,0⟩) :=
  ⟨H1.o.2.1.below hb2 (by have:=H1.o.r2;omega),H1.o.1.trans (hb2.mono (by have:=H1.o.r2;omega)),by have:=H1.o.r2;omega,hA⟩
 clear hb2 hA hg H1;go_wp2
 go_loopg [9] n (fun gk i wr=>∃ k:Nat,gk+k=n/\i=.int .i64 (k:Nat)/\Aside (ql wr g (vS (xs.take k)) (sS (xs.take k))/\Bl wr w.heap.size 79 [.bool false,.slice none 0 0,.int .i64 0]/\Below w.heap.size w wr))
 case atStart=>exact⟨0,by omega,by simp,by simpa [vS,sS] using P2.o.r3,P2.o.1,P2.o.2.1⟩
 case round =>
  obtain⟨k,lU,rfl,HA⟩:=hrel
  by_cases hk:k<n
  · obtain⟨b,off,rfl,hc⟩:=HX.o.2.1.at HA.o.r2 k (by rw[<-HX.o.1];exact hk);obtain⟨x,hx⟩:=af (xs.getD k 0);rw[<-hx] at hc
    have C:Hid (Calls Tryz.prog 124 #[.pointer (some ⟨g,0,none⟩),.float .f64 x] wr (Did g wr (0,vS (xs.take (k+1)),sS (xs.take (k+1))))):=by
     have hk2:k<xs.length:=by rw[<-HX.o.1];exact hk
     obtain⟨p1,p2⟩:=IK xs k (by omega);obtain⟨v1,v2⟩:=oG xs HX.o.r2.1 k (by omega);have uj:x<18446744073709551616:=by rw[hx];exact HX.o.r2.1.get k
     have hsm:=yl x 4607182418800017408 uj (by decide);have hl:=HX.o.r4;have hkq:k*QB<=65536*QB:=di _ (by omega);have hQ:=Kt;have hqp:=Cm;have C:=Add7 g (vS (xs.take k)) (sS (xs.take k)) x wr HA.o.1 (p1.ok (by omega)) uj;rw[YN _ _ _ _ (by omega) (by omega) (by omega)] at C;rw[Cn xs k hk2,Co xs k hk2,<-hx];exact C
    have hkb:k<4611686018427387904:=by have:=HX.o.r4;omega
    clear hx;go_wp2_with fail;refine(C.o).mono ?_;rintro r w3 ⟨rfl,hA3,aD⟩;have H3:=fG hA3 (HA.o.2.1.but aD (by have:=P2.o.r2.1;omega)) (But.below HA.o.r2 aD HA.o.r2.size (by have:=P2.o.r2.1;omega));clear hA3 aD C;go_wp2;go_roundg (gk-1)
    case measure=>omega
    case rel=>exact⟨k+1,by omega,by first | rfl | simp,H3.o⟩
  · obtain rfl:n=k:=by omega
    have hd:decide ((n:Int)<n)=false:=by simp
    have C:Hid (Calls Tryz.prog 125 #[.pointer (some ⟨g,0,none⟩)] wr fun r w'=>∃ v,r=.returned (.agg #[.bool (dN o),v,.int .i64 (dE o)])/\Nt wr.heap.size w' v (dX o)/\Below wr.heap.size wr w'):=by
     have e:xs.take n=xs:=by rw[dO];rw[<-HX.o.1];omega
     have hA:=HA.o.1;rw[e] at hA;rw[HO.o];exact YA g _ _ wr hA (HX.o.r3.1.belows HA.o.r2)
    have HL:=ah (HA.o.2.1.lt);go_wp2_with fail;refine(C.o).mono ?_;rintro r w3 ⟨v,rfl,hN,hb3⟩;obtain⟨a9,c9,rfl,_⟩:=Lo.shape (q:=o) (by rw[HO.o];exact R9 HX.o.r2.1 (by rw[<-HX.o.1];exact HX.o.r4)) hN;have B3:=fG (HA.o.2.1.below hb3 HL.o) (HA.o.r2.trans (hb3.mono HA.o.r2.size)) hN;have z0:=B3.o.1.cell 0 _ rfl;have z1:=B3.o.1.cell 1 _ rfl;have z2:=B3.o.1.cell 2 _ rfl;have f0:=B3.o.1.frozen 0;have f1:=B3.o.1.frozen 1;have f2:=B3.o.1.frozen 2;clear hb3 C hN;go_wp2;refine Wi Tryz.results77 ?_ B3.o.1 B3.o.2.1 B3.o.r2 (HL.o);rfl
end
section
open Go.RowKit J
theorem z9{P:Prop}(h:P:=by
 have a1:x*S*S'=x*S'*S:=by rw[aJ,bJ S,<-aJ]
 have t1:x*S<V↔x*S*S'<V*S':=(jJ hS').symm;have t2:x*S'<V'↔x*S'*S<V'*S:=(jJ hS).symm;have t3:V<x*S↔V*S'<x*S*S':=(jJ hS').symm;have t4:V'<x*S'↔V'*S<x*S'*S:=(jJ hS).symm;rw[t1,t2,t3,t4,a1,e];refine⟨Iff.rfl,?_,Iff.rfl⟩;rw[a1,e] at t1;rw[a1,e] at t3;omega):P:=h
theorem oK{x S V S' V':Nat}(hS:0<S)(hS':0<S')(e:V*S'=V'*S):(x*S<V↔x*S'<V')/\(x*S=V↔x*S'=V')/\(V<x*S↔V'<x*S'):=by
 exact z9
theorem jB.lies{K:Nat}{t:Bool}{m:Int}{V S:Nat}(h:jB vK 9218868437227405312 1 K t m V S):zi K t m V S:=by
 obtain⟨h1,h2,h3,h4,h5,h6⟩:=h;simp only[kU] at h3 h4 h5 h6;refine⟨h1,h2,h3,h4,fun a b=>?_,fun a=>?_⟩
 · have:=h5 a b;rw[fC] at this;exact this
 · rcases h6 a with q | ⟨q,r⟩
   · exact .inl q
   · exact .inr ⟨by omega,r⟩
theorem zi.ratio{K:Nat}{t:Bool}{m:Int}{V S V' S':Nat}(h:zi K t m V S)(hS':0<S')(e:V*S'=V'*S):zi K t m V' S':=by
 obtain⟨h1,h2,h3,h4,h5,h6⟩:=h;have e2:(2*V)*S'=(2*V')*S:=by rw[aJ,e,aJ]
 refine⟨h1,hS',fun a=>((oK h2 hS' e).2.1.1 (h3 a).symm).symm,fun a=>(oK h2 hS' e).1.1 (h4 a),fun a b=>?_,fun a=>?_⟩
 · have:=h5 a ((oK h2 hS' e).2.2.2 b);rw[<-fC] at this |-;obtain⟨r1,r2,r3⟩:=oK (x:=vK K+vK (K+1)) h2 hS' e2;rcases this with ⟨q,r⟩|⟨q,r⟩|⟨q,r⟩
   · exact .inl ⟨q,r3.1 r⟩
   · exact .inr (.inl ⟨q,(r2.1 r.symm).symm⟩)
   · exact .inr (.inr ⟨q,r1.1 r⟩)
 · rcases h6 a with q | q
   · exact .inl ((oK h2 hS' e).2.2.1 q)
   · exact .inr q
theorem xT{P:Prop}(h:P:=by
 by_cases hs:V<0
 · rw[decide_eq_true hs] at hz;simp only[nD,if_true] at hz;omega
 · rw[decide_eq_false hs] at hz;simp only[nD,dP,if_false] at hz;omega):P:=h
theorem yv{P:Prop}(h:P:=by
 by_cases hs:V<0
 · rw[decide_eq_true hs] at hz |-
   cases n with
   | true=>rfl
   | false=>simp only[nD,if_true,dP,if_false] at hz;omega
 · rw[decide_eq_false hs] at hz |-
   cases n with
   | false=>rfl
   | true=>simp only[nD,if_true,dP,if_false] at hz;omega):P:=h
theorem mU{V:Int}(hV:V≠0)(k:Nat)(hk:k<=90000)(hb:V.natAbs<2^k):∃ X e,gH V=some (decide (V<0),X,e)/\X%2=1/\-2148<=e/\e<=100000/\X*2^(e+2148).toNat=V.natAbs/\bl X<=262144/\vk (decide (V<0)) X e:=by
 obtain⟨n,X,e,ho,F,hx⟩:=FC V k (by omega) hb;have hm:mkS (decide (V<0)) V.natAbs (-2148)=some (n,X,e):=ho;have hz:=kG hm (-2148) (.inr (by omega));unfold zv at hz;simp only at hz;rw[show((-2148:Int) - -2148).toNat=0 by decide,fw,dM] at hz
 have hX0:X≠0:=by
  rintro rfl;simp[nD] at hz
  split at hz <;> omega
 have hp:0<X*2^(e - -2148).toNat:=iL (by omega) (aU _);rcases hx with h|⟨h1,h2⟩
 · exact absurd h hX0
 have hn:n=decide (V<0):=by
  exact yv
 rw[hn] at hz ho F
 have hv:X*2^(e - -2148).toNat=V.natAbs:=by
  exact xT
 refine⟨X,e,ho,?_,h1,by omega,?_,by omega,F⟩
 · rcases F.odd with q | q
   · exact q
   · exact absurd q.1 hX0
 · rw[show(e+2148).toNat=(e - -2148).toNat by congr 1];exact hv
noncomputable def qvR (V W mode:Int):Nat×Int:=mr iW ⟨dN (gH V),.bool false,dX (gH V),dE (gH V),dN (gH W),.bool false,dX (gH W),dE (gH W)⟩ mode
theorem Sa(N:Nat)(k:Nat)(hk:k=2148):gH ((N:Int)*((2^k:Nat):Int))=mkS false N 0:=by
 unfold gH;rw[<-dK,decide_eq_false (by omega),ni,bJ,Od];congr 1;omega
theorem Au{V W:Int}(hV:V≠0)(hW:0<W)(k:Nat)(hk:k<=90000)(hb:V.natAbs<2^k)(hb2:W.natAbs<2^k) :
 ∃ K t m,(∀ j,j=1074->zi K t m (V.natAbs*2^j) W.natAbs)/\∀ mode:Int,0<=mode->mode<=4->qvR V W mode=(rK mode (decide (V<0)) K t m+(if V<0 then 9223372036854775808 else 0),0):=by
 obtain⟨X,e,ho,hX,he0,he1,hv,hbl,F⟩:=mU hV k hk hb;obtain⟨Y,f,ho2,hY,hf0,hf1,hv2,Zi,F2⟩:=mU (V:=W) (by omega) k hk hb2;rw[decide_eq_false (by omega)] at ho2 F2;obtain⟨K,t,m,hL,hR⟩:=RP (decide (V<0)) X e Y f hX (by omega) hbl Zi;refine⟨K,t,m,fun j hj=>?_,fun mode hm0 pU=>?_⟩
 · refine hL.lies.ratio (by omega) ?_;unfold kI kJ;rw[<-hv,<-hv2]
   have e1:X*2^(e-f+((1*1074:Nat):Int)).toNat*(Y*2^(f+2148).toNat)=X*Y*(2^((e-f+((1*1074:Nat):Int)).toNat+(f+2148).toNat)):=by
    rw[aI,qx]
   have e2:X*2^(e+2148).toNat*2^j*(Y*2^(-(e-f+((1*1074:Nat):Int))).toNat)=X*Y*(2^((e+2148).toNat+j+(-(e-f+((1*1074:Nat):Int))).toNat)):=by
    rw[aI,aI,aJ X,qx]
   rw[e1,e2];congr 2;omega
 · have hm1:mkS (decide (V<0)) X e=some (decide (V<0),X,e):=rQ F;have hm2:mkS false Y f=some (false,Y,f):=rQ F2;unfold qvR;rw[ho,ho2];show mr iW ⟨decide (V<0),.bool false,X,e,false,.bool false,Y,f⟩ mode=_;unfold mr;rw[if_neg (by omega),if_pos (by rw[yA];show nE X (decide (V<0)) e Y false f=0;unfold nE;rw[if_neg (by unfold pV;simp;split <;> omega),hm1,hm2];simp[dX];omega),hm1,hm2];show iW (lI (decide (V<0)) X e Y f) mode=_;rw[hR mode hm0 pU];simp
def nG(mode:Int):Int:=if mode<0\/4<mode then 1 else 0
theorem Wl(mode:Int)(w:World):Calls Tryz.prog 47 #[.int .i64 mode] w fun r w'=>r=.returned (.int .i64 (nG mode))/\w'=w:=by
 by_cases h0:mode<0
 · have e:nG mode=1:=if_pos (.inl h0);rw[e];clear e;go_enter Tryz.func47,Tryz.ntmps47;go_wp2;exact Xs
 · have d0:decide (mode<0)=false:=decide_eq_false h0
   by_cases h4:4<mode
   · have e:nG mode=1:=if_pos (.inr h4);rw[e];clear e;go_enter Tryz.func47,Tryz.ntmps47;go_wp2;exact Xs
   · have d4:decide (4<mode)=false:=decide_eq_false h4;have e:nG mode=0:=if_neg (by omega);rw[e];clear e;go_enter Tryz.func47,Tryz.ntmps47;go_wp2;exact Xs
theorem Sb(e:Int)(x:Nat)(w:World):Calls Tryz.prog 46 #[.int .i64 e,.float .f64 x] w fun r w'=>r=.returned (.float .f64 (if e=0 then x else 0))/\w'=w:=by
 by_cases h0:e=0
 · subst h0;go_enter Tryz.func46,Tryz.ntmps46;go_wp2;exact Xs
 · rw[if_neg h0];have h1:(e==0)=false:=by simp[h0]
   go_enter Tryz.func46,Tryz.ntmps46;go_wp2;exact Xs
noncomputable def qnR (V:Int) (N:Nat) (mode:Int):Nat×Int:=mr iW ⟨dN (gH V),.bool false,dX (gH V),dE (gH V),dN (mkS false N 0),.bool false,dX (mkS false N 0),dE (mkS false N 0)⟩ mode
theorem XO(V:Int)(N:Nat)(mode:Int)(k:Nat)(hk:k=2148):qnR V N mode=qvR V ((N:Int)*((2^k:Nat):Int)) mode:=by
 unfold qnR qvR;rw[Sa N k hk]
theorem Sc(N:Nat)(h:N<2^41):Fm (mkS false N 0):=by
 obtain⟨k,hk⟩:∃ k:Nat,k=2148:=⟨_,rfl⟩;rw[<-Sa N k hk];refine nC _ (41+k) (by omega) ?_;rw[<-dK,ni,aI];exact fe h (aU k)
noncomputable def lK (xs:List Nat) (s:Sp) (mode:Int):Nat×Int :=
 if xs=[] then(0,3) else if vS xs=0 then(nt (snd s.n s.u s.d s.m s.p s.a) s.n s.u s.d s.m s.p s.a mode,0) else qnR (vS xs) xs.length mode
theorem Zj{V:Int}(k:Nat)(hk:k<=90000)(hb:V.natAbs<2^k):(V=0->pV (dN (gH V)) (val (ws (dX (gH V))))=0)/\(V≠0->(pV (dN (gH V)) (val (ws (dX (gH V))))==0)=false)/\(V<0↔pV (dN (gH V)) (val (ws (dX (gH V))))<0):=by
 rw[au]
 by_cases h0:V=0
 · subst h0;rw[qd];exact⟨fun _=>rfl,fun h=>absurd rfl h,by constructor <;> (intro h;exact absurd h (by decide))⟩
 · obtain⟨X,e,ho,hX,he0,he1,hv,hbl,F⟩:=mU h0 k hk hb;rw[ho];show(V=0->pV (decide (V<0)) X=0)/\(V≠0->(pV (decide (V<0)) X==0)=false)/\(V<0↔pV (decide (V<0)) X<0);unfold pV;refine⟨fun h=>absurd h h0,fun _=>?_,?_⟩
   · rw[if_neg (by omega)];by_cases hs:V<0 <;> simp[hs]
   · rw[if_neg (by omega)];by_cases hs:V<0 <;> simp[hs]
theorem Wm(xs:List Nat)(a:Option Addr)(n c:Nat)(sn su sd sm sp sa mode:Int)(w:World)(hn:n=xs.length)(hF:Fs w.heap.size w a xs)(hW:ja xs)(hT:gF w)(hl:n<=65536)(z:Nat×Int)(hz:lK xs ⟨sn,su,sd,sm,sp,sa⟩ mode=z) :
 Calls Tryz.prog 49 #[.slice a n c,.agg #[.int .i64 sn,.int .i64 su,.int .i64 sd,.int .i64 sm,.int .i64 sp,.int .i64 sa],.int .i64 mode] w fun r w'=>r=.returned (.tuple #[.float .f64 z.1,.int .i64 z.2])/\Below w.heap.size w w':=by
 obtain⟨X,E⟩:=z;simp only
 by_cases h0:n=0
 · have e:(X,E)=(0,3):=by rw[<-hz];unfold lK;rw[if_pos (uT (by omega))]
   obtain⟨rfl,rfl⟩:=iA e;subst h0;clear hz hn hF hW hT e;go_enter Tryz.func49,Tryz.ntmps49;go_wp2;exact aB (v:=.tuple #[.float .f64 0,.int .i64 3]) (by simp[results,Tryz.results49,go_sem]) rfl ⟨rfl,ax _ _⟩
 · have hx0:xs≠[]:=by rintro rfl;simp at hn;omega
   unfold lK at hz;rw[if_neg hx0] at hz;simp only at hz;obtain⟨k,hk,hvb⟩:=Ar hW (by omega);obtain⟨g1,g2,g3⟩:=Zj k (by omega) hvb;have Fv:=ah (R9 hW (by omega));obtain⟨sb,W,hWs,HW⟩:∃ (sb:Value) (W:World),sb=.agg #[.int .i64 sn,.int .i64 su,.int .i64 sd,.int .i64 sm,.int .i64 sp,.int .i64 sa]/\W=w.alloc (Obj.cells #[.int .i64 sn,.int .i64 su,.int .i64 sd,.int .i64 sm,.int .i64 sp,.int .i64 sa] 72):=⟨_,_,rfl,rfl⟩;clear hWs
   have BW:Aside (Below w.heap.size w W/\Bl W w.heap.size 72 [.int .i64 sn,.int .i64 su,.int .i64 sd,.int .i64 sm,.int .i64 sp,.int .i64 sa]/\gF W):=by
    rw[HW];exact⟨ax _ _,Bl.new _ 72 [_,_,_,_,_,_],hT.belows (ax _ _)⟩
   have HE:=hid (Wj xs a n c W hn ((hF.below BW.o.1).mono BW.o.1.size) hW BW.o.r2 hl);obtain⟨V,hV⟩:∃ V,vS xs=V:=⟨_,rfl⟩;rw[hV] at HE hz g1 g2 Fv;obtain⟨ov,hov⟩:∃ o,gH V=o:=⟨_,rfl⟩;rw[hov] at HE g1 g2 Fv;have HS:Hid (∀ (u:World) (p:Option Addr) (q:Nat),Nt 0 u (.slice p (ws (dX ov)).length q) (dX ov)->Calls Tryz.prog 52 #[.agg #[.bool (dN ov),.slice p (ws (dX ov)).length q,.int .i64 (dE ov)]] u fun r u'=>r=.returned (.int .i64 (pV (dN ov) (val (ws (dX ov)))))/\Below u.heap.size u u'):=fun u p q hN=>tO (Fv.o.a12 hN) _ _;have hnb:(n:Int)≠0:=by omega
   have HN:=ah hn;have HTW:=ah BW.o.r2;obtain⟨sg,hsg⟩:∃ sg,pV (dN ov) (val (ws (dX ov)))=sg:=⟨_,rfl⟩;rw[hsg] at HS g1 g2;have FI:=ah HW;have G:=aZ g1 g2;clear hn hF hW hT hx0 g1 g2 g3 hvb hk k hsg HW;go_enter Tryz.func49,Tryz.ntmps49;go_wp2_with fail;rw[<-FI.o];refine HE.o.mono ?_;rintro r u ⟨v,rfl,hN,hb⟩;obtain⟨a1,c1,rfl,hN0⟩:=Lo.shape Fv.o hN;obtain⟨U,hU⟩:=af (u.alloc (Obj.cells #[.bool (dN ov),.slice a1 (ws (dX ov)).length c1,.int .i64 (dE ov)] 79));have bU:Below W.heap.size W U:=by rw[hU];exact hb.trans ((ae _ _).mono hb.size)
   have H1:Aside (Lo U u.heap.size ov/\Bl U w.heap.size 72 [.int .i64 sn,.int .i64 su,.int .i64 sd,.int .i64 sm,.int .i64 sp,.int .i64 sa]/\Below w.heap.size w U/\gF U/\Dk U u.heap.size (dN ov) (.slice a1 (ws (dX ov)).length c1) (dE ov)/\Nt 0 U (.slice a1 (ws (dX ov)).length c1) (dX ov)):=by
    refine⟨?_,BW.o.2.1.below bU BW.o.2.1.lt,BW.o.1.trans (bU.mono BW.o.1.size),HTW.o.belows bU,?_,?_⟩
    · rw[hU];exact Lo.new hN0
    · rw[hU];exact Dk.new _ _ _ _
    · rw[hU];exact hN0.below (ae _ _)
   obtain⟨gd,hgd⟩:=af (u.heap.size);have HU:=ah hU;have C:=hid (HS.o U a1 c1 H1.o.r5);rw[<-hgd] at H1;obtain⟨y0,y1,y2,dH,dI,dJ⟩:=H1.o.r4.1.facts;clear hN hN0 hb bU hU HE HS
   go_upto_region 4 with fail
   try rw[<-hgd]
   rw[<-HU.o];clear HU hgd;go_wp2_with fail;refine C.o.mono ?_;rintro r v ⟨rfl,hb⟩
   have H2:Aside (Bl v w.heap.size 72 [.int .i64 sn,.int .i64 su,.int .i64 sd,.int .i64 sm,.int .i64 sp,.int .i64 sa]/\Below w.heap.size w v/\gF v/\Dk v gd (dN ov) (.slice a1 (ws (dX ov)).length c1) (dE ov)/\Nt 0 v (.slice a1 (ws (dX ov)).length c1) (dX ov)) :=
    ⟨H1.o.2.1.below hb H1.o.2.1.lt,H1.o.r2.1.trans (hb.mono H1.o.r2.1.size),H1.o.r3.1.belows hb,H1.o.r4.1.below hb,H1.o.r5.below hb⟩
   clear hb H1 C y0 y1 y2 dH dI dJ
   by_cases hv0:V=0
   · rw[if_pos hv0] at hz;obtain⟨hX,hE⟩:=iA hz;have hs:=G.o.1 hv0;have Oi:=hid (fun u:World=>xR sn su sd sm sp sa mode u);rw[hX] at Oi;subst hs;subst hE;have q0:=H2.o.1.cell 0 _ rfl;have q1:=H2.o.1.cell 1 _ rfl;have q2:=H2.o.1.cell 2 _ rfl;have q3:=H2.o.1.cell 3 _ rfl;have q4:=H2.o.1.cell 4 _ rfl;have q5:=H2.o.1.cell 5 _ rfl;clear hX hz G hov;go_wp2_with fail;refine(Oi.o _).mono ?_;rintro r u2 ⟨rfl,hb⟩;have B3:=ah (H2.o.2.1.trans (hb.mono H2.o.2.1.size));clear hb Oi q0 q1 q2 q3 q4 q5;go_wp2;exact aB (v:=.tuple #[.float .f64 X,.int .i64 0]) (by simp[results,Tryz.results49,go_sem]) rfl ⟨rfl,B3.o⟩
   · rw[if_neg hv0] at hz;have hs:=G.o.2 hv0;have Yq:n<2^41:=by omega
     have F1:=ah (Sc n Yq)
     have HI:Hid (∀ u:World,gF u->Calls Tryz.prog 57 #[.int .i64 (n:Nat)] u fun r w'=>(∃ v,r=.returned (.agg #[.bool (dN (mkS false n 0)),v,.int .i64 (dE (mkS false n 0))])/\Nt u.heap.size w' v (dX (mkS false n 0)))/\Below u.heap.size u w'):=fun u hT=>by
      have:=Cc (n:Nat) u hT (by omega) (by omega);rw[decide_eq_false (by omega),ni] at this;exact this
     have HR:Hid (∀ (u:World) (p q:Option Addr) (cp cq:Nat),gF u->Nt 0 u (.slice p (ws (dX ov)).length cp) (dX ov)->Nt 0 u (.slice q (ws (dX (mkS false n 0))).length cq) (dX (mkS false n 0))->Calls Tryz.prog 56 #[.agg #[.bool (dN ov),.slice p (ws (dX ov)).length cp,.int .i64 (dE ov),.bool (dN (mkS false n 0)),.slice q (ws (dX (mkS false n 0))).length cq,.int .i64 (dE (mkS false n 0))],.int .i64 mode] u fun r w'=>r=.returned (.tuple #[.float .f64 X,.int .i64 E])/\Below u.heap.size u w'):=fun u p q cp cq hT n1 n2=>by
      have:=RS (w:=u) (n:=dN ov) (m:=dN (mkS false n 0)) (X:=dX ov) (Y:=dX (mkS false n 0)) (e:=dE ov) (f:=dE (mkS false n 0)) mode ⟨n1.av (dz Fv.o.len (by decide)),n2.av (dz F1.o.len (by decide)),Fv.o.qL,F1.o.qL⟩ hT;rw[show mr iW ⟨dN ov,.slice p (ws (dX ov)).length cp,dX ov,dE ov,dN (mkS false n 0),.slice q (ws (dX (mkS false n 0))).length cq,dX (mkS false n 0),dE (mkS false n 0)⟩ mode=(X,E) from(by rw[<-hov,<-hz,<-HN.o];rfl)] at this;exact this
     obtain⟨ow,how⟩:∃ o,mkS false n 0=o:=⟨_,rfl⟩;rw[how] at HR HI F1;clear hz how G hov hv0 Yq
     go_upto_region 6 with fail
     have hdr:=(ay v.heap.size v).drew;have BD:=iw (H2.o.2.1.trans (hdr.mono H2.o.2.1.size)) (H2.o.r3.1.below hdr) (H2.o.r4.below hdr) (H2.o.r2.1.belows hdr);clear hdr H2;have kS:=fG BD.o.2.1.facts.1 BD.o.2.1.facts.2.1 BD.o.2.1.facts.2.2.1
     go_region_held3 (fun w'=>w'.cell? ⟨gd,0,none⟩=some (.bool (dN ov))/\w'.cell? ⟨gd,1,none⟩=some (.slice a1 (ws (dX ov)).length c1)/\w'.cell? ⟨gd,2,none⟩=some (.int .i64 (dE ov))) (with_reducible exact kS.o) (first
      | (go_at_call 56
         with_reducible refine(HR.o _ a1 a2 c1 c2 BD.o.r3 BD.o.r2.1 Q2.o).mono ?_
         rintro r v ⟨rfl,hb⟩;have BD:=iw (BD.o.1.trans (hb.mono BD.o.1.size)) (BD.o.2.1.below hb) (BD.o.r2.1.below hb) (BD.o.r3.belows hb);have kS:=fG BD.o.2.1.facts.1 BD.o.2.1.facts.2.1 BD.o.2.1.facts.2.2.1
         clear hb)
      | (go_at_call 57
         with_reducible refine(HI.o _ BD.o.r3).mono ?_
         rintro r v ⟨⟨p,rfl,hN⟩,hb⟩;obtain⟨a2,c2,rfl,hN0⟩:=Lo.shape F1.o hN;have BD:=iw (BD.o.1.trans (hb.mono BD.o.1.size)) (BD.o.2.1.below hb) (BD.o.r2.1.below hb) (BD.o.r3.belows hb);have Q2:=ah hN0;have kS:=fG BD.o.2.1.facts.1 BD.o.2.1.facts.2.1 BD.o.2.1.facts.2.2.1
         clear hb hN hN0))
     clear kS Q2 HR HI;go_wp2;exact aB (v:=.tuple #[.float .f64 X,.int .i64 E]) (by simp[results,Tryz.results49,go_sem]) rfl ⟨rfl,BD.o.1⟩
attribute [local go_sem] bR
def Dn(e:Int)(x:Nat):Nat:=if e=0 then x else 0
theorem Zl {fn:Func}{f:FuncId}{px pe:Tmp}(hres:fn.results=#[.cell px 27,.cell pe 28]) {tmps:Array Value}{gx ge:Nat}{w:World}{x:Nat}{e:Int}{R:Ending->World->Prop}
 (hi:(callFunc f #[.pointer (some ⟨ge,0,none⟩),.pointer (some ⟨gx,0,none⟩)]).run Tryz.prog w=.ok (.enter f #[.pointer (some ⟨ge,0,none⟩),.pointer (some ⟨gx,0,none⟩)]) w)
 (HC:∀ (u:FrameMode),CallsD Tryz.prog f #[.pointer (some ⟨ge,0,none⟩),.pointer (some ⟨gx,0,none⟩)] u w fun r u' w'=>u'=u/\(r=.returned (.tuple #[])/\w'=w.setCell ⟨gx,0,none⟩ (.float .f64 (Dn e x))))
 (h1:tmps.getD px undef=.pointer (some ⟨gx,0,none⟩)) (h2:tmps.getD pe undef=.pointer (some ⟨ge,0,none⟩))
 (cx:w.cell? ⟨gx,0,none⟩=some (.float .f64 x)) (ce:w.cell? ⟨ge,0,none⟩=some (.int .i64 e)) (hne:ge≠gx)
 (hR:R (.returned (.tuple #[.float .f64 (Dn e x),.int .i64 e])) (w.setCell ⟨gx,0,none⟩ (.float .f64 (Dn e x)))) :
 Leaves Tryz.prog fn tmps R [{ target:=.fn (.func f) #[.pointer (some ⟨ge,0,none⟩),.pointer (some ⟨gx,0,none⟩)],args:=#[] }] .returning w:=by
 refine leaves_cons (f:=f) (args:=#[.pointer (some ⟨ge,0,none⟩),.pointer (some ⟨gx,0,none⟩)]) (by simp) (by simp[go_sem,hi]) ?_;refine(HC _).mono ?_;rintro r u' w' ⟨rfl,rfl,rfl⟩;have q1:(w.setCell ⟨gx,0,none⟩ (.float .f64 (Dn e x))).cell? ⟨gx,0,none⟩=some (.float .f64 (Dn e x)):=World.cell?_setCell_same _ _ _ cx
 have q2:(w.setCell ⟨gx,0,none⟩ (.float .f64 (Dn e x))).cell? ⟨ge,0,none⟩=some (.int .i64 e):=by
  rw[World.cell?_setCell_other _ _ _ _ (by intro h;cases h;exact hne rfl)];exact ce
 rw[Array.getD_eq_getD_getElem?] at h1 h2;exact⟨.tuple #[.float .f64 (Dn e x),.int .i64 e],by simp[results,hres,go_sem,h1,h2,q1,q2],hR⟩
theorem uk(gx ge x:Nat)(e:Int)(w:World)(cx:w.cell? ⟨gx,0,none⟩=some (.float .f64 x))(ce:w.cell? ⟨ge,0,none⟩=some (.int .i64 e))(fx:w.frozen? ⟨gx,0,none⟩=false)(u:FrameMode) :
 CallsD Tryz.prog 45 #[.pointer (some ⟨ge,0,none⟩),.pointer (some ⟨gx,0,none⟩)] u w fun r u' w'=>u'=u/\(r=.returned (.tuple #[])/\w'=w.setCell ⟨gx,0,none⟩ (.float .f64 (Dn e x))):=by
 have HB:=hid (fun w:World=>Sb e x w);go_enter_d Tryz.func45,Tryz.ntmps45;go_wp2_with fail;refine(HB.o _).mono ?_;rintro r v ⟨rfl,rfl⟩;obtain⟨b,hb⟩:=af (Dn e x);have hb2:(if e=0 then x else 0)=b:=hb.symm;rw[hb2];have HBB:=ah hb;clear hb hb2 HB;go_wp2
 go_end0
 exact⟨rfl,by rw[HBB.o]⟩
end
namespace Ps
open Go.RowKit
open Go.RowKit
def Wf(xs:List Nat):Prop:=∀ x ∈ xs,x<18446744073709551616
theorem Wf.get{xs:List Nat}(h:Wf xs)(k:Nat):xs.getD k 0<18446744073709551616:=by
 exact Qbe
def U(n:Nat):Value:=.float .f64 n
def Rd(B:Nat)(w:World)(ao:Option Addr)(xs:List Nat):Prop :=
 xs≠[]->∃ b off,b<B/\ao=some ⟨b,off,none⟩/\∀ i,i<xs.length->w.cell? ⟨b,off+i,none⟩=some (.float .f64 (xs.getD i 0))
theorem Rd.below{B:Nat}{w w':World}{ao:Option Addr}{xs:List Nat}(h:Rd B w ao xs)(hb:Below B w w'):Rd B w' ao xs:=by
 exact Qak
theorem Rd.mono{B B':Nat}{w:World}{ao:Option Addr}{xs:List Nat}(h:Rd B w ao xs)(hB:B<=B'):Rd B' w ao xs:=by
 exact Qbp
def Lt(lo:Nat)(w:World)(v:Value)(xs:List Nat):Prop:=w.ownsRow lo 27 1 v xs.length (xs.map U)
theorem Lt.nil(lo:Nat)(w:World):Lt lo w (.slice none 0 0) []:=Bu _ _ _ _
theorem Tryz.Sd:(Tryz.prog.info? 27).map (fun i=>(i.zero,i.size,i.bytes))=some (some (.float .f64 0),1,8):=by kernel_rfl
open Go.RowKit
abbrev Rw(lo:Nat)(w:World)(v:Value)(n:Nat)(ys:List Value):Prop:=w.ownsRow lo 27 1 v n ys
def Oj(w w':World):Prop:=∀ (g:Nat) (cur:Array Value) (e:TypeId),e≠22->e≠87->w.heap[g]?=some (.cells cur e (0,0))->w'.heap[g]?=some (.cells cur e (0,0))
theorem Oj.row{w w':World}{lo:Nat}{v:Value}{n:Nat}{ys:List Value}(h:Rw lo w v n ys)(k:Oj w w'):Rw lo w' v n ys:=by
 refine⟨h.1,?_⟩;rcases h.2 with hn|⟨g,cap,cur,rfl,hlo,hg,rest⟩
 · exact .inl hn
 · exact .inr ⟨g,cap,cur,rfl,hlo,k _ _ _ (by decide) (by decide) hg,rest⟩
theorem Oj.below{w w':World}(h:Below w.heap.size w w'):Oj w w':=fun g cur _ _ _ e=>by rw[h.block g (eZ.1 e).1];exact e
theorem tq{w w':World}{lo e s:Nat}{v:Value}{n:Nat}{ys:List Value}(h:w.ownsRow lo e s v n ys)(hb:∀ g,v.ownBlock=some g->w'.heap[g]?=w.heap[g]?):w'.ownsRow lo e s v n ys:=by
 exact xr
theorem kZ (w:World) (lo:Nat) (v:Value) (n:Nat) (ys:List Value) (x:Value) (s:Nat) (ty:TypeId) (hown:Rw lo w v n ys) (hx:w.cell? ⟨s,0,none⟩=some x) (h1:x.oneCell'=true)
 (hbig:n+1<=17592186044416) (hlo:lo<=w.heap.size) :
 ∃ v' w',(Builtin.append_ #[22,22] ty #[v,.slice (some ⟨s,0,none⟩) 1 1]).run Tryz.prog w=.ok v' w'/\Rw lo w' v' (n+1) (ys++[x])/\w.grownBy w' v.ownBlock /\
   (v'.ownBlock=v.ownBlock\/∃ g,v'.ownBlock=some g/\w.heap.size<=g)/\(∀ (u:Value) (k:Nat) (zs:List Value),Rw lo w u k zs->(u.ownBlock=v.ownBlock->k<=n)->Rw lo w' u k zs):=by
 obtain⟨i0,hi,hz0,hz1,hz2⟩:=info_parts Tryz.Sd
 have hnews:∀ j u,[x][j]?=some u->w.cell? ((⟨s,0,none⟩:Addr).add j)=some u:=by
  exact Qbk
 have h1':∀ u ∈ [x],u.oneCell'=true:=by intro u hu;simp at hu;subst hu;exact h1
 have keep:∀ w',w.grownBy w' none->∀ (u:Value) (k:Nat) (zs:List Value),Rw lo w u k zs->Rw lo w' u k zs:=by
  exact jp
 have Qc:∀ (v':Value) (w':World) (m:Nat) (zs:List Value),w'.ownsRow w.heap.size 27 1 v' (m+1) zs->∃ g,v'.ownBlock=some g/\w.heap.size<=g:=by
  exact Qa5
 have mono:∀ (v':Value) (w':World) (m:Nat) (zs:List Value),w'.ownsRow w.heap.size 27 1 v' m zs->Rw lo w' v' m zs:=by
  exact Qaa
 rcases hown.2 with ⟨rfl,rfl⟩|⟨g,cap,cur,rfl,hlg,hg,hnc,hm,hs,ht⟩
 · obtain⟨v',w',r1,r2,r3,_,_⟩:=run_append_own_at (P:=Tryz.prog) w w.heap.size 22 ty 27 i0 (.float .f64 0) 1 8 Tryz.underlying22 hi hz0 hz1 hz2 rfl (by decide) (.slice none 0 0) 0 [] (Bu _ _ _ _) ⟨s,0,none⟩ 1 1 [x] rfl hnews h1' (by unfold maxLen;omega) (by omega) (ak _);have hy:ys=[]:=uT (by simpa using hown.1);subst hy;exact⟨v',w',r1,mono _ _ _ _ (by simpa using r2),r3,.inr (Qc _ _ 0 _ (by simpa using r2)),fun u k zs hr _=>keep _ r3 u k zs hr⟩
 · by_cases hroom:n+1<=cap
   · have hr:=run_append_room (P:=Tryz.prog) w 22 ty 27 i0 Tryz.underlying22 hi g n cap cur hg ⟨s,0,none⟩ 1 1 [x] (by rw[hz1];rfl) hnews h1' hroom (by rw[hz1,hs];simp;omega);rw[hz1] at hr;refine⟨_,_,hr,⟨by simpa using hown.1,.inr ⟨g,cap,_,rfl,hlg,setRow_heap w g cur _ 27 _ hg,hroom,hm,?_,?_⟩⟩,⟨rfl,rfl,rfl,by simp,fun k _ hk=>setRow_other w g k _ (fun e=>hk (by simp[Value.ownBlock,e]))⟩,.inl rfl,?_⟩
     · exact Qar
     · exact Qan
     · intro u k zs hr2 hle;rcases hr2.2 with hn|⟨g2,cap2,Yp,rfl,hl2,hg2,Qd,hm2,hs2,ht2⟩
       · exact⟨hr2.1,.inl hn⟩
       · by_cases he:g2=g
         · subst he;rw[hg] at hg2
           cases hg2
           have hk:=hle rfl;refine⟨hr2.1,.inr ⟨g2,cap2,_,rfl,hl2,setRow_heap w g2 cur _ 27 _ hg,Qd,hm2,?_,?_⟩⟩
           · exact Qar
           · exact Qam
         · exact Qa1
   · obtain⟨v',w',r1,r2,r3⟩:=run_append_arg_grows (P:=Tryz.prog) w 22 ty 27 i0 (.float .f64 0) 1 8 Tryz.underlying22 hi hz0 hz1 hz2 rfl (by decide) ⟨g,0,none⟩ n cap ys (by simpa using hown.1) (fun j u hj=>hown.cells (g:=g) (by simp[Value.ownBlock]) j u hj) ⟨s,0,none⟩ 1 1 [x] rfl hnews (by omega) (by unfold maxLen;omega) (by omega);exact j9
theorem cu {w:World}{ops:Array Oper}{rest:List Oper}{o:Oper}{a:Act}{Q:Exit->Act->World->Prop}(hgd:o.guard=none) (s x:Operand) (t:TypeId)
 (ho:o.op=.call { callee:=.builtin .append,args:=#[s,x],argTypes:=#[t,t] }) (v u:Value) (hs:a.eval s=v) (hx:a.eval x=u) (v':Value) (w':World)
 (hrun:(Builtin.append_ #[t,t] o.type #[v,u]).run Tryz.prog w=.ok v' w') (h:wpList Tryz.prog ops Q rest (a.put o.dst v') w'):wpList Tryz.prog ops Q (o::rest) a w:=by
 refine wpList_plain hgd fun K hK=>?_;unfold Oper.wp;simp[execOp,ho,resolve,invoke,builtin,hs,hx,hrun,Result.andThen];exact hK _ _ h
end Ps
end Go.Proofs.YtjppdacikihpdaaGreatDoor
