import Derived.Test.YteginbngplldaaaGreatDoorZ8x
import Derived.Test.YteginbngplldaaaGreatDoorW40x
import Derived.Deep.RegionHeld3
import Derived.Test.YteginbngplldaaaGreatDoorD32cx
import Derived.Test.YteginbngplldaaaGreatDoorD8x
import Derived.Deep.Cut
import Derived.Test.YteginbngplldaaaGreatDoorD2x
import Derived.Test.YteginbngplldaaaGreatDoorD39x
import Derived.BigQuiet
import Derived.Deep.CutRange
import Derived.Test.YteginbngplldaaaGreatDoorW17x
import Derived.ProofKit
import Derived.OpenShut
import Derived.ChangeOld
import Derived.SizedLaws
import Derived.ChangeArms
import Derived.KernelRfl
import Derived.ArgAppend
import Derived.Maps.AppendAt
import Derived.WalkMore
import Derived.OwnWalk
import Derived.Test.YteginbngplldaaaGreatDoorD15x
import Derived.Test.YteginbngplldaaaGreatDoorD19x
import Derived.Deep.RegionWith
import Derived.Test.YteginbngplldaaaGreatDoorM1x
import Derived.ChangeKeysEq
import Derived.Laws.OwnMore
import Derived.Lib.SliceRun
import Derived.Deep.RegionHeld
import Derived.Test.YteginbngplldaaaGreatDoorW7x
import Derived.Test.YteginbngplldaaaGreatDoorD30x
import Derived.RangeFuncNested
import Derived.RangeFuncBound
import Derived.RangeFuncCalls
import Derived.RangeFuncLeaves
import Derived.RangeFuncBox
import Derived.Shelf.Abstract
import Derived.Shelf.RegionOpen
import Derived.WalkKit
import Derived.OwnWalkIn
import Derived.TacticsInMore
import Derived.LoopNIn
import Derived.LoopIn
import Derived.Deep.LoopGhost
set_option linter.unusedVariables false
set_option linter.unusedSimpArgs false
set_option maxHeartbeats 16000000
set_option maxRecDepth 20000
namespace Go.Proofs.YteginbngplldaaaGreatDoor
namespace J
end J
section
open Go.RowKit
def jU(X:Nat)(n:Bool)(e:Int)(Y:Nat)(m:Bool)(f:Int):Int:=if rO m Y<0 then 1 else if (mkS n X e).isSome&&(mkS m Y f).isSome then(if dX (mkS m Y f)=0 then 21 else 0) else 2
theorem mX(r:Ri):iM (yw r) 1=jU r.X r.n r.e r.Y r.m r.f:=by
 unfold iM jU yw;simp only[show List.range 1=[0] from rfl,List.any_cons,List.any_nil,Bool.or_false,decide_eq_true_eq]
 cases (mkS r.n r.X r.e).isSome <;> cases (mkS r.m r.Y r.f).isSome <;> simp
def Iv(o:Option (Bool×Nat×Int))(lo hi:Int):Prop:=∃ n X e,o=some (n,X,e)/\tC n X e/\(X=0\/(lo<=e/\e+(bl X:Int)<=hi))
theorem Iv.mono{o:Option (Bool×Nat×Int)}{a b c d:Int}(h:Iv o a b)(h1:c<=a)(h2:b<=d):Iv o c d:=by
 obtain⟨n,X,e,h,F,hb⟩:=h;exact⟨n,X,e,h,F,by omega⟩
theorem GI(n:Bool)(X:Nat)(e a b:Int)(h:X=0\/(a<=e/\e+(bl X:Int)<=b))(hw:b-a<=262144)(ha:-1048576<=a)(hb:b<=1048576):Iv (mkS n X e) a b:=by
 by_cases h0:X=0
 · subst h0;rw[eQ];exact⟨false,0,0,rfl,⟨.inr ⟨rfl,rfl,rfl⟩,by rw[dD];omega,by omega,by omega⟩,.inl rfl⟩
 · obtain⟨h1,h2⟩:=h.resolve_left h0;obtain⟨k,o1,o2,o3⟩:=iH X h0;have hp:=dG (X/2^lo X) (by omega)
   have e1:mkS n X e=some (n,X/2^lo X,e+lo X):=by
    unfold mkS;rw[if_neg h0,if_neg (by omega)]
   exact⟨n,_,_,e1,bZ e1,.inr (by omega)⟩
theorem tY(X Y:Nat):bl (X*Y)<=bl X+bl Y:=dU (by rw[aL];exact qW (iF X) (iF Y))
theorem Iv.mul{o p:Option (Bool×Nat×Int)}{a b c d:Int}(h1:Iv o a b)(h2:Iv p c d)(hw:(b+d)-(a+c)<=262144)(hl:-1048576<=a+c)(hh:b+d<=1048576):Iv (dY o p) (a+c) (b+d):=by
 obtain⟨n,X,e,rfl,F,hx⟩:=h1;obtain⟨m,Y,f,rfl,G,hy⟩:=h2;show Iv (mkS (n != m) (X*Y) (e+f)) _ _;refine GI _ _ _ _ _ ?_ hw hl hh;rcases hx with rfl|hx
 · left;rw[eG]
 · rcases hy with rfl | hy
   · left;rw[mE]
   · right
     have:=tY X Y;omega
theorem L8{X k:Nat}{j:Nat}(h:bl X+k<=j):X*2^k<2^j:=by
 have h1:=iF X;have h2:X*2^k<2^bl X*2^k:=fA h1 (bz k);rw[<-aL] at h2;exact iJ h2 (fq (by decide) h)
theorem DI(n m:Bool)(X Y:Nat)(e f a b:Int)(hfe:f<=e)(ha:a<=f)(h1:e+(bl X:Int)<=b)(h2:f+(bl Y:Int)<=b)(hw:b+1-a<=262144)(hl:-1048576<=a)(hh:b+1<=1048576)(hX:X≠0):Iv (jR n X e m Y f) a (b+1):=by
 have hp:=dG X hX;unfold jR;rw[if_neg (by omega)];obtain⟨j,hj⟩:∃ j:Nat,(j:Int)=b-f:=⟨(b-f).toNat,by omega⟩;have b1:X*2^(e-f).toNat<2^j:=L8 (by omega);have b2:Y<2^j:=iJ (iF Y) (fq (by decide) (by omega))
 have fin:∀ (s:Bool) (Z:Nat),Z<2^(j+1)->Iv (mkS s Z f) a (b+1):=by
  intro s Z hZ;refine GI s Z f a (b+1) ?_ hw hl hh
  by_cases h0:Z=0
  · exact .inl h0
  · right
    have:=dU hZ;omega
 have b3:(2:Nat)^(j+1)=2*2^j:=by rw[iq,cZ]
 split
 · exact fin _ _ (by omega)
 · split
   · exact fin _ _ (by omega)
   · exact fin _ _ (by omega)
theorem Iv.add{o p:Option (Bool×Nat×Int)}{a b:Int}(h1:Iv o a b)(h2:Iv p a b)(hw:b+1-a<=262144)(hl:-1048576<=a)(hh:b+1<=1048576):Iv (iB o p) a (b+1):=by
 have h1':=h1;have h2':=h2;obtain⟨n,X,e,rfl,F,hx⟩:=h1;obtain⟨m,Y,f,rfl,G,hy⟩:=h2;show Iv (rJ (n,X,e) (m,Y,f)) a (b+1);unfold rJ;simp only
 by_cases hX:X=0
 · rw[if_pos hX];exact h2'.mono (by omega) (by omega)
 · rw[if_neg hX]
   by_cases hY:Y=0
   · rw[if_pos hY];exact h1'.mono (by omega) (by omega)
   · rw[if_neg hY];have ex:=hx.resolve_left hX;have ey:=hy.resolve_left hY
     split
     · exact DI m n Y X f e a b (by omega) ex.1 ey.2 ex.2 hw hl hh hY
     · exact DI n m X Y e f a b (by omega) ey.1 ex.2 ey.2 hw hl hh hX
def vg(o:Option (Bool×Nat×Int)):Int:=zv (-1048576) (dN o,dX o,dE o)
theorem fvO{o:Option (Bool×Nat×Int)}{n:Bool}{X:Nat}{e:Int}(h:mkS n X e=o)(hs:o.isSome=true):Fv (-1048576) o (vg o):=by
 cases o with
 | none=>cases hs
 | some d=>obtain⟨n1,X1,e1⟩:=d;exact⟨n1,X1,e1,rfl,bZ h,rfl⟩
theorem Fv.PQ{o:Option (Bool×Nat×Int)}{B z:Int}(h:Fv B o z):dX o=0↔z=0:=by
 obtain⟨n,X,e,rfl,F,rfl⟩:=h.ex;constructor
 · intro h0;exact pJ B h0
 · intro h0;show X=0;rcases kU X with q|q
   · exact q
   · exfalso;have:=iE q (bz (e-B).toNat);unfold zv qm at h0
     cases n <;> simp only[fe,if_false,if_true] at h0 <;> omega
theorem Fv.TJ{o:Option (Bool×Nat×Int)}{B z:Int}(h:Fv B o z):dN o=true↔z<0:=by
 obtain⟨n,X,e,rfl,F,rfl⟩:=h.ex;show n=true↔_;rcases F.odd with q|⟨rfl,rfl,rfl⟩
 · have:=iE (show 0<X by omega) (bz (e-B).toNat);unfold zv qm
   cases n <;> simp only[fe,if_false,if_true,false_iff,true_iff] <;> omega
 · simp[zv]
theorem Fv.xm{o:Option (Bool×Nat×Int)}{B z:Int}(h:Fv B o z):mkS (dN o) (dX o) (dE o)=o:=by
 obtain⟨n,X,e,rfl,F,rfl⟩:=h.ex;exact F.self
theorem PR(x y:Int):jq x y=-jq y x:=by unfold jq;split <;> split <;> omega
theorem Fv.len{o:Option (Bool×Nat×Int)}{B z:Int}(h:Fv B o z):(ws (dX o)).length<=8192:=by
 obtain⟨n,X,e,rfl,F,_⟩:=h.ex;exact dF F
def Al(w:World)(v:Value)(X:Nat):Prop:=∃ a l c xs,v=.slice a l c/\Arg w a l c xs/\val xs=X/\l<=2000000
theorem Al.below{w w':World}{v:Value}{X:Nat}(h:Al w v X)(hb:An w w'):Al w' v X:=by
 obtain⟨a,l,c,xs,rfl,hA,hv,hl⟩:=h;exact⟨a,l,c,xs,rfl,hA.below hb,hv,hl⟩
def Fm(o:Option (Bool×Nat×Int)):Prop:=∃ B x,Fv B o x
theorem Fm.len{o:Option (Bool×Nat×Int)}(h:Fm o):(ws (dX o)).length<=8192:=by obtain⟨B,x,h⟩:=h;exact h.len
theorem Fm.re{o:Option (Bool×Nat×Int)}(h:Fm o):mkS (dN o) (dX o) (dE o)=o:=by obtain⟨B,x,h⟩:=h;exact h.xm
theorem Fm.mV{o:Option (Bool×Nat×Int)}(h:Fm o):-9223372036854775808<=dE o/\dE o<=9223372036854775807:=by
 obtain⟨B,x,h⟩:=h;obtain⟨n,X,e,rfl,F,_⟩:=h.ex;have:=F.up;have:=F.down;show -9223372036854775808<=e/\e<=9223372036854775807;omega
theorem TK:vK 0=0:=by
 have:=jr 0 0 (.inl rfl) (by omega);simpa using this
def PS(V:Int):Option (Bool×Nat×Int):=mkS (decide (V<0)) V.natAbs (-1074)
theorem xT{P:Prop}(h:P:=by
 unfold qm
 by_cases h:V<0
 · rw[decide_eq_true h,if_pos rfl];omega
 · rw[decide_eq_false h,if_neg (by decide)];omega):P:=h
theorem TL(V:Int):qm (decide (V<0))*(V.natAbs:Int)=V:=by
 exact xT
theorem Xe(V:Int)(m:Nat)(hm:m<=200000)(hV:V.natAbs<2^m):Fo (PS V) (V*(UU:Int)) (-1074) ((m:Int)-1074):=by
 by_cases h0:V=0
 · subst h0;refine⟨⟨false,0,0,?_,?_,?_,.inl rfl⟩⟩
   · unfold PS;exact eQ _ _
   · exact bZ (eQ false 0)
   · rw[pJ _ rfl];simp
 · obtain⟨X,e,h1,h2,h3,h4⟩:=WS (decide (V<0)) V.natAbs (-1074) (-1074) ((m:Int)-1074) (by omega) (by omega) (by have:=blLe hV;omega) (by omega) (by omega) (by omega);refine⟨⟨_,X,e,h1,bZ h1,?_,.inr ⟨h3,h4⟩⟩⟩;rw[mh h1 (-2097152) (.inr (by omega))];have e1:(2:Nat)^((-1074:Int) - -2097152).toNat=UU*SS:=US _ (by decide);rw[e1,fZ,fZ,<-mH,TL,mH]
theorem TM{o:Option (Bool×Nat×Int)}{V L H:Int}(h:Fo o (V*(UU:Int)) L H)(m:Nat)(hm:m<=200000)(hV:V.natAbs<2^m):o=PS V:=by
 obtain⟨n,X,e,rfl,F1,z1,_⟩:=h.ex;obtain⟨n',X',e',h2,F2,z2,_⟩:=(Xe V m hm hV).ex;rw[h2];obtain⟨rfl,rfl,rfl⟩:=Pf F1 F2 (-2097152) (by omega) (by rw[z1,z2]);rfl
theorem PT{x:Nat}(hx:Wd x)(fx:fD x)(m:Nat)(hm:m=2098):(zn x).natAbs<2^m:=by
 unfold zn;rw[WV];have:=Po (gI x) fx 2045 rfl;obtain⟨a,ha⟩:∃ a,a=2045:=⟨_,rfl⟩;have h2:=Po (gI x) fx a ha;rw[show m=53+a by omega,aL];exact h2
theorem PU{x:Nat}(hx:Wd x)(fx:fD x):WR (nE x) (gI x)=PS (zn x):=by
 obtain⟨n,X,e,h1,h2,_⟩:=YW (nE x) (gI x) fx;rw[h1];exact TM h2 2098 (by omega) (PT hx fx 2098 rfl)
theorem TP(x:Nat)(hx:Wd x/\fD x)(w:World)(hT:dH w) :
 As 92 #[.float .f64 x] w fun r w'=>(∃ v,r=.returned (.tuple #[.agg #[.bool (dN (PS (zn x))),v,.int .i64 (dE (PS (zn x)))],.int .i64 0])/\Nt w.heap.size w' v (dX (PS (zn x))))/\An w w':=by
 obtain⟨h1,h2,h3,_⟩:=I7 (nE x) (gI x) (jf hx.2);have:=OB (nE x) (gI x/4503599627370496) (gI x%4503599627370496) h2 h3 w hT;rw[<-h1,<-Vj x hx.1] at this;refine this.mono ?_;rintro r w' ⟨⟨v,rfl,hN⟩,hb⟩;have e:=PU hx.1 hx.2;unfold WR at e;rw[e] at hN |-;have he:ML (gI x/4503599627370496)=0:=by unfold ML;rw[if_neg (by have:=hx.2;omega)]
 rw[he];exact⟨⟨v,rfl,hN⟩,hb⟩
end
section
open Go.RowKit J
theorem kI(g:Nat)(w:World)(x y z:Value):But g w (dh w g x y z):=(((But.refl g w).set _ _).set _ _).set _ _
def Lo(w:World)(g:Nat)(o:Option (Bool×Nat×Int)):Prop:=∃ a c,Dk w g (dN o) (.slice a (ws (dX o)).length c) (dE o)/\Nt 0 w (.slice a (ws (dX o)).length c) (dX o)
theorem Lo.below{w w':World}{g:Nat}{o:Option (Bool×Nat×Int)}(h:Lo w g o)(hb:An w w'):Lo w' g o:=by
 obtain⟨a,c,h1,h2⟩:=h;exact⟨a,c,h1.below hb,h2.below hb⟩
theorem Lo.lt{w:World}{g:Nat}{o:Option (Bool×Nat×Int)}(h:Lo w g o):g<w.heap.size:=by
 obtain⟨a,c,h1,h2⟩:=h;exact h1.lt
theorem Nt.rR{lo g:Nat}{w:World}{v:Value}{X:Nat}{n:Bool}{a:Option Addr}{l c:Nat}{e:Int}(h:Nt lo w v X)(D:Dk w g n (.slice a l c) e)(x y z:Value):Nt lo (dh w g x y z) v X:=by
 refine h.off (kI g w x y z) ?_;rcases h.2 with ⟨rfl,_⟩|⟨g',cap,cur,rfl,_,hg,_⟩
 · simp[Value.ownBlock]
 · intro e';obtain rfl:g'=g:=by simpa [Value.ownBlock] using e'
   rw[show w.heap[g']?=_ from D] at hg;simp at hg
theorem Lo.set{w:World}{g:Nat}{o p:Option (Bool×Nat×Int)}(h:Lo w g o){a:Option Addr}{c:Nat}(hN:Nt 0 w (.slice a (ws (dX p)).length c) (dX p)) :
 Lo (dh w g (.bool (dN p)) (.slice a (ws (dX p)).length c) (.int .i64 (dE p))) g p:=by
 obtain⟨a0,c0,h1,h2⟩:=h;exact⟨a,c,h1.set _ _ _,hN.rR h1 _ _ _⟩
theorem Lo.other{w:World}{g g':Nat}{o p:Option (Bool×Nat×Int)}(h:Lo w g o)(h':Lo w g' p)(hg:g≠g')(x y z:Value):Lo (dh w g' x y z) g o:=by
 obtain⟨a,c,h1,h2⟩:=h;obtain⟨a0,c0,k1,k2⟩:=h';exact⟨a,c,h1.other _ hg _ _ _,h2.rR k1 _ _ _⟩
theorem Lo.new{w:World}{o:Option (Bool×Nat×Int)}{a:Option Addr}{c:Nat}(hN:Nt 0 w (.slice a (ws (dX o)).length c) (dX o)):Lo (w.alloc (Obj.cells #[.bool (dN o),.slice a (ws (dX o)).length c,.int .i64 (dE o)] 37)) w.heap.size o :=
 ⟨a,c,Dk.new _ _ _ _,hN.below (ae _ _)⟩
abbrev gG:Option (Bool×Nat×Int):=some (false,0,0)
theorem Vr:(ws (dX gG)).length=0:=by simp[dX,aY]
theorem Lo.zero(w:World):Lo (w.alloc (Obj.cells #[.bool false,.slice none 0 0,.int .i64 0] 37)) w.heap.size gG:=by
 refine⟨none,0,?_,?_⟩
 · rw[Vr];exact Dk.new _ _ _ _
 · rw[Vr];exact Nt.nil _ _
theorem Fm.er{o:Option (Bool×Nat×Int)}(h:Fm o):nU o=0:=by
 obtain⟨B,x,h⟩:=h;obtain⟨n,X,e,rfl,_⟩:=h.ex;rfl
theorem Fm.a12{o:Option (Bool×Nat×Int)}{w:World}{a:Option Addr}{c:Nat}(F:Fm o)(N:Nt 0 w (.slice a (ws (dX o)).length c) (dX o)):Arg w a (ws (dX o)).length c (ws (dX o)):=(N.aR (cB F.len (by decide))).2
theorem Xf{U:World}{a b:Option Addr}{c d:Nat}{o p q:Option (Bool×Nat×Int)}(F:Fm o)(G:Fm p)(N1:Nt 0 U (.slice a (ws (dX o)).length c) (dX o))(N2:Nt 0 U (.slice b (ws (dX p)).length d) (dX p))(hT:dH U)(h:dY o p=q)(H:Fm q) :
 As 83 #[.agg #[.bool (dN o),.slice a (ws (dX o)).length c,.int .i64 (dE o)],.agg #[.bool (dN p),.slice b (ws (dX p)).length d,.int .i64 (dE p)]] U fun r w'=>(∃ v,r=.returned (.tuple #[.agg #[.bool (dN q),v,.int .i64 (dE q)],.int .i64 0])/\Nt U.heap.size w' v (dX q))/\An U w':=by
 have:=wX (F.a12 N1) (G.a12 N2) hT (dN o) (dN p) (dE o) (dE p) F.mV.1 F.mV.2 G.mV.1 G.mV.2;rw[aj,aj,F.re,G.re,h] at this;unfold bN at this;rw[H.er] at this;exact this
theorem TQ{U:World}{a b:Option Addr}{c d:Nat}{o p q:Option (Bool×Nat×Int)}(F:Fm o)(G:Fm p)(N1:Nt 0 U (.slice a (ws (dX o)).length c) (dX o))(N2:Nt 0 U (.slice b (ws (dX p)).length d) (dX p))(hT:dH U)(h:iB o p=q)(H:Fm q) :
 As 134 #[.agg #[.bool (dN o),.slice a (ws (dX o)).length c,.int .i64 (dE o)],.agg #[.bool (dN p),.slice b (ws (dX p)).length d,.int .i64 (dE p)]] U fun r w'=>(∃ v,r=.returned (.tuple #[.agg #[.bool (dN q),v,.int .i64 (dE q)],.int .i64 0])/\Nt U.heap.size w' v (dX q))/\An U w':=by
 have:=C9 (F.a12 N1) (G.a12 N2) hT (dN o) (dN p) (dE o) (dE p) F.mV.1 F.mV.2 G.mV.1 G.mV.2;rw[aj,aj,F.re,G.re,h] at this;unfold bN at this;rw[H.er] at this;exact this
theorem Lo.shape{w:World}{lo:Nat}{v:Value}{q:Option (Bool×Nat×Int)}(H:Fm q)(h:Nt lo w v (dX q)):∃ a c,v=.slice a (ws (dX q)).length c/\Nt 0 w v (dX q):=by
 obtain⟨a,c,rfl,_⟩:=h.arg (cB H.len (by decide));exact⟨a,c,rfl,h.mono (oh _)⟩
end
section
open Go.RowKit
theorem Bo(x y c:Int)(hc:0<c):jq (x*c) (y*c)=jq x y:=by
 unfold jq;have h1:x*c<y*c↔x<y:=⟨fun h=>zN h (Cg hc),fun h=>zM h hc⟩;have h2:y*c<x*c↔y<x:=⟨fun h=>zN h (Cg hc),fun h=>zM h hc⟩;simp only[h1,h2]
theorem Xg{n:Bool}{X:Nat}{e:Int}(F:tC n X e)(B:Int):Fv B (some (n,X,e)) (zv B (n,X,e)):=⟨n,X,e,rfl,F,rfl⟩
end
section
open Go.RowKit Go.Shelf J
attribute [local go_sem] Oper.semAt_some
def oW(x:Nat):Option (Bool×Nat×Int):=PS (zn x)
end
section
open Go.RowKit
theorem Iv.fm{o:Option (Bool×Nat×Int)}{a b:Int}(h:Iv o a b):Fm o:=by
 obtain⟨n,X,e,rfl,F,_⟩:=h;exact⟨0,_,Xg F 0⟩
theorem Xh{o:Option (Bool×Nat×Int)}{B x:Int}(h:Fv B o x)(hB:B<=-1048576)(D:Int)(hD:D<=0):Fv (B+D) o (x*((2^(0-D).toNat:Nat):Int)):=by
 obtain⟨n',X',e',hx,F',hz⟩:=h.ex;refine⟨n',X',e',hx,F',?_⟩;rw[<-hz];unfold zv;simp only;rw[mH,<-fZ,aM,<-aL];have:=F'.down;rw[show(e'-(B+D)).toNat=(e'-B).toNat+(0-D).toNat by omega]
end
section
open Go.RowKit J
def EK:Nat:=1048576
theorem exP(a:Nat):∃ u:Nat,u=2^a:=⟨_,rfl⟩
noncomputable def MM:Nat:=Classical.choose (exP EK)
theorem Xi:MM=2^EK:=zV (exP EK)
theorem Zp:0<MM:=by rw[Xi];exact bz _
theorem Fm.sm{o:Option (Bool×Nat×Int)}(h:Fm o):o.isSome=true:=by
 obtain⟨B,x,h⟩:=h;obtain⟨n,X,e,rfl,_⟩:=h.ex;rfl
theorem Fm.val{o:Option (Bool×Nat×Int)}(h:Fm o):Fv (-1048576) o (vg o):=fvO h.re h.sm
theorem Fv.uniq{B x y:Int}{o:Option (Bool×Nat×Int)}(h1:Fv B o x)(h2:Fv B o y):x=y:=by
 obtain⟨n,X,e,ho,_,hz⟩:=h1.ex;obtain⟨n',X',e',ho',_,hz'⟩:=h2.ex;rw[ho] at ho'
 cases ho'
 exact hz.symm.trans hz'
theorem val_mul{o p:Option (Bool×Nat×Int)}(F:Fm o)(G:Fm p)(H:Fm (dY o p)):vg (dY o p)*(MM:Int)=vg o*vg p:=by
 have h1:=Fv.mul (by decide) (by decide) F.val G.val H.sm;have h2:=Xh H.val (by decide) (-1048576) (by decide);rw[show((0:Int) - -1048576).toNat=EK from rfl,<-Xi] at h2;exact(h1.uniq h2).symm
theorem val_add{o p:Option (Bool×Nat×Int)}(F:Fm o)(G:Fm p)(H:Fm (iB o p)):vg (iB o p)=vg o+vg p :=
 H.val.uniq (Fv.add (by decide) F.val G.val H.sm)
theorem DJ{o p:Option (Bool×Nat×Int)}(F:Fm o)(G:Fm p)(h:vg o=vg p):o=p:=by
 obtain⟨h1,h2,h3⟩:=Fv.same (by decide) F.val G.val h;obtain⟨n,X,e,rfl,_⟩:=F.val.ex;obtain⟨m,Y,f,rfl,_⟩:=G.val.ex;have h1:n=m:=h1;have h2:X=Y:=h2;have h3:e=f:=h3;rw[h1,h2,h3]
theorem val_mk{n:Bool}{X:Nat}{e:Int}(h:Fm (mkS n X e))(he:-1048576<=e)(k:Nat)(hk:(e+1048576).toNat=k):vg (mkS n X e)=qm n*((X*2^k:Nat):Int):=by
 obtain⟨⟨n',Y,f⟩,ho⟩:=zU.1 h.sm;have:=mh ho (-1048576) (.inr he);rw[show(e - -1048576).toNat=k by rw[<-hk];congr 1] at this;rw[<-this,ho];rfl
theorem GJ(V:Int)(K:Nat):qm (decide (V<0))*((V.natAbs*K:Nat):Int)=V*(K:Int):=by
 rw[fZ,<-mH];congr 1;exact xT
def Bd(m:Nat)(V:Int):Prop:=V.natAbs<=2^m
theorem Bd.mono{m k:Nat}{V:Int}(h:Bd m V)(hk:m<=k):Bd k V:=cB h (fq (by decide) hk)
theorem Bd.lt{m:Nat}{V:Int}(h:Bd m V):V.natAbs<2^(m+1):=by
 unfold Bd at h;rw[iq];have:=bz m;omega
theorem Bd.mul{a b:Nat}{V W:Int}(h:Bd a V)(k:Bd b W):Bd (a+b) (V*W):=by
 unfold Bd at *;rw[Int.natAbs_mul,aL];exact jC h k
theorem Bd.add{m:Nat}{V W:Int}(h:Bd m V)(k:Bd m W):Bd (m+1) (V+W):=by
 unfold Bd at *;rw[iq];omega
theorem Bd.neg{m:Nat}{V:Int}(h:Bd m V):Bd m (-V):=by
 unfold Bd at *;rw[Int.natAbs_neg];exact h
theorem Bd.sub{m:Nat}{V W:Int}(h:Bd m V)(k:Bd m W):Bd (m+1) (V-W):=by
 rw[Int.sub_eq_add_neg];exact h.add k.neg
theorem Bd.one(m:Nat):Bd m 1:=bz m
theorem Bd.nat{n k:Nat}(h:n<=2^k):Bd k (n:Int):=h
theorem Bd.pow{a:Nat}{V:Int}(h:Bd a V):∀ k:Nat,Bd (a*k) (V^k)
 | 0=>by rw[Int.pow_zero];exact Bd.one _
 | k+1=>by rw[Int.pow_succ,yG];exact(Bd.pow h k).mul h
def gV(u:Nat)(V:Int):Option (Bool×Nat×Int):=mkS (decide (V<0)) V.natAbs (-(u:Int))
theorem L9{u m:Nat}{V:Int}(hu:u<=100000)(hm:m<=99999)(hV:Bd m V):Iv (gV u V) (-(u:Int)) (((m+1:Nat):Int)-(u:Int)):=by
 unfold gV;refine GI _ _ _ _ _ (.inr ⟨by omega,?_⟩) (by omega) (by omega) (by omega);have:=dU hV.lt;omega
theorem aZ{u m:Nat}{V:Int}(hu:u<=100000)(hm:m<=99999)(hV:Bd m V):Fm (gV u V):=(L9 hu hm hV).fm
theorem xA{u:Nat}{V:Int}(h:Fm (gV u V))(hu:u<=1000000)(k:Nat)(hk:k+u=EK):vg (gV u V)=V*((2^k:Nat):Int):=by
 unfold gV at h |-;rw[val_mk h (by omega) k (by unfold EK at hk;omega),GJ]
theorem Zq(u:Nat)(hu:u<=1000000):∃ k,k+u=EK:=⟨EK-u,by unfold EK;omega⟩
theorem iR{u v a b:Nat}{V W:Int}(hu:u<=50000)(hv:v<=50000)(ha:a<=40000)(hb:b<=40000)(h1:Bd a V)(h2:Bd b W):dY (gV u V) (gV v W)=gV (u+v) (V*W):=by
 have F:=L9 (u:=u) (by omega) (by omega) h1;have G:=L9 (u:=v) (by omega) (by omega) h2;have hF:=(F.mul G (by omega) (by omega) (by omega)).fm;have hG:=aZ (u:=u+v) (by omega) (by omega) (h1.mul h2);refine DJ hF hG ?_;obtain⟨k1,e1⟩:=Zq u (by omega);obtain⟨k2,e2⟩:=Zq v (by omega);obtain⟨k3,e3⟩:=Zq (u+v) (by omega);have h:=val_mul F.fm G.fm hF;rw[xA F.fm (by omega) k1 e1,xA G.fm (by omega) k2 e2] at h;rw[xA hG (by omega) k3 e3];have hM:=Zp;refine Int.eq_of_mul_eq_mul_right (a:=(MM:Int)) (by omega) (h.trans ?_)
 have e:((2^k1:Nat):Int)*((2^k2:Nat):Int)=((2^k3:Nat):Int)*(MM:Int):=by
  rw[<-fZ,<-fZ,Xi,<-aL,<-aL,show k1+k2=k3+EK by omega]
 rw[mH (V*W),<-e,mH,mH,Int.mul_left_comm W]
theorem uN{u m:Nat}{V W:Int}(hu:u<=100000)(hm:m<=90000)(h1:Bd m V)(h2:Bd m W):iB (gV u V) (gV u W)=gV u (V+W):=by
 have F:=L9 (u:=u) (by omega) (by omega) h1;have G:=L9 (u:=u) (by omega) (by omega) h2;have hF:=(F.add G (by omega) (by omega) (by omega)).fm;have hG:=aZ (u:=u) (by omega) (by omega) (h1.add h2);refine DJ hF hG ?_;obtain⟨k1,e1⟩:=Zq u (by omega);rw[val_add F.fm G.fm hF,xA F.fm (by omega) k1 e1,xA G.fm (by omega) k1 e1,xA hG (by omega) k1 e1,Int.add_mul]
theorem Vs(u:Nat)(W:Int):Xd (gV u W)=gV u (-W):=by
 unfold gV;rw[PO,Int.natAbs_neg]
 by_cases h:W=0
 · subst h;rw[Int.natAbs_zero,eQ,eQ]
 · congr 1
   by_cases h1:W<0
   · rw[decide_eq_true h1,decide_eq_false (by omega)];rfl
   · rw[decide_eq_false h1,decide_eq_true (by omega)];rfl
theorem Je{u m:Nat}{V W:Int}(hu:u<=100000)(hm:m<=90000)(h1:Bd m V)(h2:Bd m W):iB (gV u V) (mkS (!dN (gV u W)) (dX (gV u W)) (dE (gV u W)))=gV u (V-W):=by
 rw[uM (aZ (u:=u) (by omega) (by omega) h2).sm,Vs,uN hu hm h1 h2.neg,<-Int.sub_eq_add_neg]
theorem o6(u:Nat):gV u 0=gG:=eQ _ _
theorem g_oW(x:Nat):oW x=gV 1074 (zn x):=rfl
theorem GK{u m:Nat}{V:Int}(hu:u<=100000)(hm:m<=90000)(h:Bd m V):(dX (gV u V)=0↔V=0)/\(dN (gV u V)=true↔V<0):=by
 have F:=aZ (u:=u) hu (by omega) h;obtain⟨k,e⟩:=Zq u (by omega);have hv:=F.val;rw[xA F (by omega) k e] at hv;have hp:(0:Int)<((2^k:Nat):Int):=by have:=bz k;omega
 refine⟨hv.PQ.trans ?_,hv.TJ.trans ?_⟩
 · constructor
   · intro q;rcases Int.mul_eq_zero.1 q with q|q
     · exact q
     · omega
   · rintro rfl;rw[Int.zero_mul]
 · constructor
   · intro q;rcases Int.lt_or_le V 0 with r|r
     · exact r
     · have:=Int.mul_nonneg r (Cg hp);omega
   · intro q;exact Int.mul_neg_of_neg_of_pos q hp
def tS(f:Nat->Int):Nat->Int
 | 0=>0
 | n+1=>tS f n+f n
theorem Vt{f:Nat->Int}{m:Nat}:∀ {n:Nat},(∀ i,i<n->Bd m (f i))->(tS f n).natAbs<=n*2^m
 | 0,_=>by simp[tS]
 | n+1,h=>by
   have h1:=Vt (n:=n) fun i hi=>h i (by omega);have h2:=h n (by omega);unfold Bd at h2;show(tS f n+f n).natAbs<=_;rw[Nat.succ_mul];omega
theorem zx{f:Nat->Int}{m n:Nat}(h:∀ i,i<n->Bd m (f i))(hn:n<=65536)(k:Nat)(hk:k<=n):Bd (m+16) (tS f k):=by
 have h1:=Vt (n:=k) fun i hi=>h i (by omega);have h2:k*2^m<=65536*2^m:=fQ _ (by omega);unfold Bd;rw[aL,cZ (2^m)];exact cB h1 h2
theorem PV{x:Nat}(hx:x<18446744073709551616)(fx:fD x):Bd 2098 (zn x):=by
 obtain⟨m,hm⟩:∃ m,m=2098:=⟨_,rfl⟩;have h:Bd m (zn x):=jf (PT hx fx m hm);rw[hm] at h;exact h
attribute [irreducible] Bd
end
section
open Go.RowKit
open Go.Proofs.YteginbngplldaaaGreatDoor.B (bB aF bw)
attribute [local go_sem] bB aF
def kd(b:Nat):Nat :=
 if 9218868437227405312<b%9223372036854775808 then 5
 else if b%9223372036854775808=9218868437227405312 then(if b/9223372036854775808=1 then 4 else 3)
 else if b%9223372036854775808=0 then(if b/9223372036854775808=1 then 1 else 2)
 else 0
def kp(k:Nat):Nat:=if k=5 then 0 else if k=3 then 1 else if k=4 then 2 else if k=1 then 3 else if k=2 then 4 else 5
theorem Zr(s:Bool)(e f:Nat)(he:e<2048)(hf:f<4503599627370496):kd (bw s e f)=if e=2047 then(if f=0 then(if s then 4 else 3) else 5) else if e=0/\f=0 then(if s then 1 else 2) else 0:=by
 unfold kd bw;have h1:(s.toNat*9223372036854775808+e*4503599627370496+f)%9223372036854775808=e*4503599627370496+f:=by cases s <;> simp only[kr,ku] <;> omega
 have h2:(s.toNat*9223372036854775808+e*4503599627370496+f)/9223372036854775808=s.toNat:=by cases s <;> simp only[kr,ku] <;> omega
 rw[h1,h2]
 by_cases he2:e=2047
 · subst he2;rw[if_pos rfl]
   by_cases hf0:f=0
   · subst hf0;cases s <;> simp
   · rw[if_pos (by omega),if_neg hf0]
 · rw[if_neg he2,if_neg (by omega),if_neg (by omega)]
   by_cases h0:e=0/\f=0
   · obtain⟨rfl,rfl⟩:=h0;cases s <;> simp
   · rw[if_neg (by omega),if_neg h0]
theorem xB(neg:Bool)(a b:Int)(w:World):Ax 158 #[.bool neg,.int .i64 a,.int .i64 b] w (.int .i64 (if neg then a else b)):=by
 cases neg <;>
 · go_enter Tryz.func158,Tryz.ntmps158;exact Jx
theorem yr{P:Prop}(h:P:=by
 go_enter Tryz.func119,Tryz.ntmps119;go_wp2_with fail;refine(H.o _).mono ?_;rintro r w1 ⟨rfl,hb1⟩;have HB:=ak hb1;have hz:=hb1.size;clear hb1;go_wp2;go_ret;exact⟨rfl,(HB.o.alloc hz _)⟩):P:=h
theorem zr{P:Prop}(h:P:=by
 rw[hk];clear hc hg hx hk;go_enter Tryz.func119,Tryz.ntmps119;go_wp2_with fail;refine(H.o _).mono ?_;rintro r w1 ⟨rfl,hb1⟩;have HB:=ak hb1;have hz:=hb1.size;clear hb1;go_wp2_with fail;refine(HS.o _).mono ?_;rintro r w2 ⟨rfl,rfl⟩;go_wp2;go_ret;exact⟨rfl,(HB.o.alloc hz _)⟩):P:=h
theorem PW(b:Nat)(hb:b<18446744073709551616)(w:World):At 119 #[.float .f64 b] w (.int .i64 (kp (kd b):Nat)):=by
 obtain⟨s,e,f,he,hf,rfl⟩:=B.Yo b hb;rw[Zr s e f he hf];have H:=hid (B.sZ s e f he hf);obtain⟨x1,hx1⟩:∃ x,B.xp e=x:=⟨_,rfl⟩;obtain⟨x2,hx2⟩:∃ x,B.fr e f=x:=⟨_,rfl⟩;rw[hx1,hx2] at H;clear hx1 hx2 hb
 by_cases he2:e=2047
 · subst he2
   by_cases hf0:f=0
   · subst hf0;have hc:B.cls 2047 0=3:=by unfold B.cls;rw[if_pos rfl,if_pos rfl]
     have hg:B.ng s 2047 0=s:=by unfold B.ng;rw[if_neg (by simp)]
     rw[hc,hg] at H;rw[if_pos rfl,if_pos rfl];have HS:=hid (xB s 2 1);obtain⟨x,hx⟩:∃ x:Int,(if s then 2 else 1)=x:=⟨_,rfl⟩;rw[hx] at HS;have hk:((kp (if s then 4 else 3):Nat):Int)=x:=by cases s <;> (subst hx;rfl)
     exact zr
   · have hc:B.cls 2047 f=4:=by unfold B.cls;rw[if_pos rfl,if_neg hf0]
     rw[hc] at H;rw[if_pos rfl,if_neg hf0];obtain⟨x3,hx3⟩:∃ x,B.ng s 2047 f=x:=⟨_,rfl⟩;rw[hx3] at H;clear hc hx3;exact yr
 · rw[if_neg he2];have hg:B.ng s e f=s:=by unfold B.ng;rw[if_neg (fun h=>he2 h.1)]
   rw[hg] at H
   by_cases h0:e=0/\f=0
   · obtain⟨rfl,rfl⟩:=h0;have hc:B.cls 0 0=0:=by unfold B.cls;rw[if_neg (by omega),if_pos rfl,if_pos rfl]
     rw[hc] at H;rw[if_pos ⟨rfl,rfl⟩];have HS:=hid (xB s 3 4);obtain⟨x,hx⟩:∃ x:Int,(if s then 3 else 4)=x:=⟨_,rfl⟩;rw[hx] at HS;have hk:((kp (if s then 1 else 2):Nat):Int)=x:=by cases s <;> (subst hx;rfl)
     exact zr
   · rw[if_neg h0]
     obtain⟨c,hc,h1,h2,h3⟩:∃ c:Int,B.cls e f=c/\(c==4)=false/\(c==3)=false/\(c==0)=false:=by
      unfold B.cls;rw[if_neg he2]
      by_cases he0:e=0
      · rw[if_pos he0,if_neg (fun h=>h0 ⟨he0,h⟩)];exact⟨_,rfl,by decide,by decide,by decide⟩
      · rw[if_neg he0];exact⟨_,rfl,by decide,by decide,by decide⟩
     rw[hc] at H;clear hc hg;exact yr
end
section
open Go.RowKit
theorem rof8(x:Nat)(hx:Wd x/\fD x)(w:World) :
 As 107 #[.float .f64 x] w fun r w'=>(∃ v,r=.returned (.tuple #[.agg #[.bool (dN (PS (zn x))),v,.int .i64 (dE (PS (zn x)))],.int .i64 0])/\Nt w.heap.size w' v (dX (PS (zn x))))/\An w w':=by
 obtain⟨h1,h2,h3,_⟩:=I7 (nE x) (gI x) (jf hx.2);have:=CW (nE x) (gI x/4503599627370496) (gI x%4503599627370496) h2 h3 w;rw[<-h1,<-Vj x hx.1] at this;refine this.mono ?_;rintro r w' ⟨⟨v,rfl,hN⟩,hb⟩;have e:=PU hx.1 hx.2;unfold WR at e;rw[e] at hN |-;have he:ML (gI x/4503599627370496)=0:=by unfold ML;rw[if_neg (by have:=hx.2;omega)]
 rw[he];exact⟨⟨v,rfl,hN⟩,hb⟩
section
attribute [local go_sem] B.bB B.aF
end
end
section
open Go.RowKit J
theorem Fm.two{o:Option (Bool×Nat×Int)}(h:Fm o):(ws (dX o)).length<=2000000:=cB h.len (by decide)
theorem Xj{U:World}{a b:Option Addr}{c d:Nat}{o p q:Option (Bool×Nat×Int)}(F:Fm o)(G:Fm p)(N1:Nt 0 U (.slice a (ws (dX o)).length c) (dX o))(N2:Nt 0 U (.slice b (ws (dX p)).length d) (dX p))(h:dY o p=q)(H:Fm q) :
 As 70 #[.agg #[.bool (dN o),.slice a (ws (dX o)).length c,.int .i64 (dE o)],.agg #[.bool (dN p),.slice b (ws (dX p)).length d,.int .i64 (dE p)]] U fun r w'=>(∃ v,r=.returned (.tuple #[.agg #[.bool (dN q),v,.int .i64 (dE q)],.int .i64 0])/\Nt U.heap.size w' v (dX q))/\An U w':=by
 have:=Ld (F.a12 N1) (G.a12 N2) F.two G.two (dN o) (dN p) (dE o) (dE p) F.mV.1 F.mV.2 G.mV.1 G.mV.2;rw[aj,aj,F.re,G.re,h] at this;unfold bN at this;rw[H.er] at this;exact this
theorem Xk{U:World}{a b:Option Addr}{c d:Nat}{o p q:Option (Bool×Nat×Int)}(F:Fm o)(G:Fm p)(N1:Nt 0 U (.slice a (ws (dX o)).length c) (dX o))(N2:Nt 0 U (.slice b (ws (dX p)).length d) (dX p))(h:iB o p=q)(H:Fm q) :
 As 108 #[.agg #[.bool (dN o),.slice a (ws (dX o)).length c,.int .i64 (dE o)],.agg #[.bool (dN p),.slice b (ws (dX p)).length d,.int .i64 (dE p)]] U fun r w'=>(∃ v,r=.returned (.tuple #[.agg #[.bool (dN q),v,.int .i64 (dE q)],.int .i64 0])/\Nt U.heap.size w' v (dX q))/\An U w':=by
 have:=zk (F.a12 N1) (G.a12 N2) F.two G.two (dN o) (dN p) (dE o) (dE p) F.mV.1 F.mV.2 G.mV.1 G.mV.2;rw[aj,aj,F.re,G.re,h] at this;unfold bN at this;rw[H.er] at this;exact this
theorem Vu(x:Nat)(hx:x<18446744073709551616)(fx:fD x)(w:World) :
 As 107 #[.float .f64 x] w fun r w'=>(∃ v,r=.returned (.tuple #[.agg #[.bool (dN (oW x)),v,.int .i64 (dE (oW x))],.int .i64 0])/\Nt w.heap.size w' v (dX (oW x)))/\An w w':=rof8 x ⟨hx,fx⟩ w
theorem yd{P:Prop}(h:P:=by
 have h1:gI x=x%9223372036854775808:=rfl;unfold B.bw
 by_cases h:9223372036854775808<=x
 · rw[show nE x=true from decide_eq_true h];simp only[kr];omega
 · rw[show nE x=false from decide_eq_false h];simp only[ku];omega):P:=h
theorem Ma(x:Nat)(hx:x<18446744073709551616)(fx:¬ fD x)(w:World) :
 As 107 #[.float .f64 x] w fun r w'=>(∃ a c,r=.returned (.tuple #[.agg #[.bool false,.slice a 0 c,.int .i64 0],.int .i64 30])/\Nt w.heap.size w' (.slice a 0 c) 0)/\An w w':=by
 have e:B.bw (nE x) (gI x/4503599627370496) (gI x%4503599627370496)=x:=by
  exact yd
 have hm:gI x<9223372036854775808:=mD _ (by decide);have hm2:¬ gI x<9218868437227405312:=fx;have:=CW (nE x) (gI x/4503599627370496) (gI x%4503599627370496) (by omega) (by omega) w;rw[e] at this;refine this.mono ?_;rintro r w' ⟨⟨v,rfl,hN⟩,hb⟩;have e1:Q9 (nE x) (gI x/4503599627370496) (gI x%4503599627370496)=none:=by unfold Q9;rw[if_pos (by omega)]
 have e2:ML (gI x/4503599627370496)=30:=by unfold ML;rw[if_pos (by omega)]
 rw[e1] at hN |-;rw[e2];obtain⟨a,c,rfl,_⟩:=hN.arg (by show(ws 0).length<=_;rw[aY];decide);rw[show(ws (dX (none:Option (Bool×Nat×Int)))).length=0 by simp[dX,aY]] at hN |-;exact⟨⟨a,c,rfl,hN⟩,hb⟩
end
section
open Go Go.RowKit J
section
variable {P : Program} {ops : Array Oper} {Q : Exit -> Act -> World -> Prop} {md : Region.Mode} {S : World -> Prop} {stop : Nat}
def eZ(P:Program)(md:Region.Mode)(ops:Array Oper)(Q:Exit->Act->World->Prop)(S:World->Prop)(stop:Nat):Nat->Array Bool->Act->World->Prop
 | 0,listed,a,w=>Region.ready md ops listed=[]/\Q .normal a w
 | fuel+1,listed,a,w=>(Region.ready md ops listed=[]->Q .normal a w) /\
  ∀ i ∈ Region.ready md ops listed,wpOp P ops Q i (fun b u=>(i<stop->S u)/\eZ P md ops Q S stop fuel (listed.setIfInBounds i true) b u) a w
theorem uO:∀ (fuel:Nat) (listed:Array Bool) (a:Act) (w:World),eZ P md ops Q S stop fuel listed a w->wpAny P md ops Q fuel listed a w
 | 0,_,_,_,h=>h
 | fuel+1,_,_,_,h=>⟨h.1,fun i hi=>wpOp_mono (fun b u k=>uO fuel _ b u k.2) (h.2 i hi)⟩
theorem dz{id:Nat}{a:Act}{w:World}(S:World->Prop)(stop:Nat)(hm:P.follows .mixedOrders=true)(h:eZ P .any ops Q S stop ops.size (Array.replicate ops.size false) a w.drew):(Code.region id ops true).wp P Q a w :=
 wp_region_any hm (uO _ _ _ _ h)
def waits(md:Region.Mode)(ops:Array Oper)(i stop:Nat)(C:List Nat):Bool :=
 (List.range ops.size).all fun j=>!(C.contains j || decide (stop<=j)) || (match ops[j]? with | some o=>o.after.any (fun e=>Region.binds md e&&(e.on==i || C.contains e.on)) | none=>true)
def DL(listed:Array Bool)(C:List Nat):Bool:=C.all fun k=>listed.getD k true==false
theorem GL{i:Nat}{C:List Nat}(h:waits md ops i stop C=true){j:Nat}{oj:Oper}(hj:ops[j]?=some oj)(hc:j ∈ C\/stop<=j):∃ e ∈ oj.after,Region.binds md e=true/\(e.on=i\/e.on ∈ C):=by
 have h1:=(zX.1 h) j (by simp;exact(fV.1 hj).1);rw[hj] at h1
 have h2:(C.contains j || decide (stop<=j))=true:=by
  rcases hc with hc|hc
  · simp[hc]
  · simp[hc]
 rw[h2] at h1;simp only[Bool.not_true,Bool.false_or] at h1;rw[<-Array.any_toList] at h1;obtain⟨e,he,hb⟩:=List.any_eq_true.1 h1;have he:=Array.mem_toList_iff.1 he;simp only[oo,Bool.or_eq_true,beq_iff_eq,List.contains_iff_mem] at hb;exact⟨e,he,hb.1,hb.2⟩
theorem DT {i:Nat}{C:List Nat}{oi:Oper}{v:Value}(hi:ops[i]?=some oi) (hsel:∀ (j:Nat) (o:Oper) cs b,ops[j]?=some o->o.op≠.select cs b)
 (hQ:∀ x a w,Q (.panic x) (a.put oi.dst v) w->Q (.panic x) a w) (Zt:waits md ops i stop C=true) :
 ∀ (fuel:Nat) (listed:Array Bool) (a:Act) (w:World),
   (∀ j oj,ops[j]?=some oj->j≠i->listed.getD j true=false->(∀ e ∈ oj.after,Region.binds md e=true->e.on≠i)->oi.apart ops oj=true) ->
   i ∈ Region.ready md ops listed->(∀ k ∈ C,listed.getD k true=false)->YieldsIf P ops S oi v a->S w ->
   eZ P md ops Q S stop fuel (listed.setIfInBounds i true) (a.put oi.dst v) w->eZ P md ops Q S stop (fuel+1) listed a w:=by
 intro fuel
 induction fuel with
 | zero =>
   intro listed a w _ hr _ hy hS H;refine⟨fun h=>(by rw[h] at hr;cases hr),fun j hj=>?_⟩
   by_cases hji:j=i
   · subst hji;exact hy.wpOp hi hS ⟨fun _=>hS,H⟩
   · have:=ready_mono hj hji;rw[H.1] at this
     cases this
 | succ fuel ih =>
   intro listed a w hfree hr hcl hy hS H;refine⟨fun h=>(by rw[h] at hr;cases hr),fun j hj=>?_⟩
   by_cases hji:j=i
   · subst hji;exact hy.wpOp hi hS ⟨fun _=>hS,H⟩
   · have h1:=H.2 j (ready_mono hj hji);obtain⟨hjun,oj,hoj,hall⟩:=mem_ready.1 hj;have h0:=(mem_ready.1 hr).1
     have un:∀ k,listed.getD k true=false->listed.getD k false=true->False:=fun k a1 a2=>by
      rcases kV k listed.size with h'|h'
      · simp[h'] at a1 a2;rw[a1] at a2;cases a2
      · simp[Array.getElem?_eq_none h'] at a2
     have hnot:∀ e ∈ oj.after,Region.binds md e=true->e.on≠i:=fun e he hb heq=>un i h0 (heq ▸ hall e he hb)
     have hnw:¬(j ∈ C\/stop<=j):=fun hc=>by
      obtain⟨e,he,hb,heq⟩:=GL Zt hoj hc;rcases heq with heq|heq
      · exact hnot e he hb heq
      · exact un _ (hcl _ heq) (hall e he hb)
     have hjs:j<stop:=by
      rcases kV j stop with h|h
      · exact h
      · exact(hnw (Or.inr h)).elim
     have h2:=wpOp_putIf hoj (hfree j oj hoj hji hjun hnot) (fun cs b=>hsel i oi cs b hi) (fun cs b=>hsel j oj cs b hoj) hQ hy h1
     have hfree':∀ k ok,ops[k]?=some ok->k≠i->(listed.setIfInBounds j true).getD k true=false ->
      (∀ e ∈ ok.after,Region.binds md e=true->e.on≠i)->oi.apart ops ok=true:=fun k ok hk hki hun hno=>by
      refine hfree k ok hk hki ?_ hno
      by_cases hjk:j=k
      · subst hjk;exact hjun
      · rw[Go.getD_set_ne true hjk] at hun;exact hun
     refine wpOp_mono (fun b u h3=>⟨h3.2.1,ih (listed.setIfInBounds j true) b u hfree' (ready_mono hr (Ne.symm hji)) (fun k hk=>by rw[Go.getD_set_ne true (show j≠k from fun e=>hnw (Or.inl (by rw[e];exact hk)))];exact hcl k hk) h3.1 (h3.2.1 hjs) ?_⟩) h2;rw[Array.setIfInBounds_comm _ _ hji];exact h3.2.2
theorem GM {i:Nat}(C:List Nat) {oi:Oper}{v:Value}{fuel:Nat}{listed:Array Bool}{a:Act}{w:World}(hi:ops[i]?=some oi)
 (hs:Region.noSelect ops=true) (hf:Region.free md ops listed i=true) (hr:(Region.ready md ops listed).contains i=true) (hw:waits md ops i stop C=true) (hun:DL listed C=true)
 (hQ:∀ c a w,Q (.panic c) (a.put oi.dst v) w->Q (.panic c) a w) (hy:YieldsIf P ops S oi v a) (hS:S w)
 (h:eZ P md ops Q S stop fuel (listed.setIfInBounds i true) (a.put oi.dst v) w):eZ P md ops Q S stop (fuel+1) listed a w :=
 DT hi (Region.noSelect_spec hs) hQ hw fuel listed a w (Region.free_spec hi hf) (by simpa using hr) (fun k hk=>by have:=(zX.1 hun) k hk;simpa using this) hy hS h
theorem tk(i:Nat)(C:List Nat){oi:Oper}{v:Value}{fuel:Nat}{listed:Array Bool}{a:Act}{w:World}(hi:ops[i]?=some oi)(hS:S w)(h:eZ P md ops Q S stop fuel (listed.setIfInBounds i true) (a.put oi.dst v) w)(hy:∀ w,S w->(execOp a.eval oi).run P w=.ok (.value v) w:=by intro u hSu;(try dsimp only at hSu);first|(go_simp;done)|(go_simp;with_reducible rfl))(hs:Region.noSelect ops=true:=by kernel_rfl)(hf:Region.free md ops listed i=true:=by kernel_rfl)(hr:(Region.ready md ops listed).contains i=true:=by kernel_rfl)(hw:waits md ops i stop C=true:=by kernel_rfl)(hun:DL listed C=true:=by kernel_rfl)(hQ:∀ c a w,Q (.panic c) (a.put oi.dst v) w->Q (.panic c) a w:=by exact fun _ _ _ h=>h)(h1:Region.wanted oi (yielded ops a.tmps)=true:=by rfl):eZ P md ops Q S stop (fuel+1) listed a w:=GM C hi hs hf hr hw hun hQ (Or.inl ⟨h1,hy⟩) hS h
theorem sa{α:Type _}{l:List α}{i:Nat}{a:α}:l.toArray.setIfInBounds i a=(l.set i a).toArray:=List.setIfInBounds_toArray _ _ _
theorem sb{α:Type _}{x a:α}{l:List α}:(x::l).set 0 a=a::l:=rfl
theorem sc{α:Type _}{x a:α}{l:List α}{n:Nat}:(x::l).set (n+1) a=x::l.set n a:=rfl
theorem ah {i:Nat}{o:Oper}{fuel:Nat}{listed:Array Bool}{a:Act}{w:World}(hr:Region.ready md ops listed=[i]) (ho:ops[i]?=some o)
 (h:∀ K':Act->World->Prop,Shut (∀ b u,(i<stop->S u)->eZ P md ops Q S stop fuel (listed.setIfInBounds i true) b u->K' b u)->if Region.wanted o (yielded ops a.tmps)=true then Oper.wp P o a w K' Q else K' (a.put o.dst undef) w):eZ P md ops Q S stop (fuel+1) listed a w :=
 ⟨fun h0=>(by rw[hr] at h0;cases h0),fun j hj=>by
  rw[hr] at hj;obtain rfl:=List.mem_singleton.1 hj
  exact wpOp_step ho (fun K' hK=>h K' (fun b u h1 h2=>hK b u ⟨h1,h2⟩))⟩
theorem aH{listed:Array Bool}{a:Act}{w:World}(hr:Region.ready md ops listed=[])(h:Q .normal a w):∀ fuel,eZ P md ops Q S stop fuel listed a w
 | 0=>⟨hr,h⟩
 | _+1=>⟨fun _=>h,by rw[hr];simp⟩
end
theorem di{B g:Nat}{a w:World}(h:Below B a w)(hB:B<=w.heap.size)(hg:B<=g)(x y z:Value):Below B a (dh w g x y z):=But.below h (kI g w x y z) hB hg
theorem Xl:∃ d:TypeDesc,Tryz.prog.underlying 37=some d/\d.isRow=true:=by
 have h:(Tryz.prog.underlying 37).any (·.isRow)=true:=by kernel_rfl
 cases hd:Tryz.prog.underlying 37 with
 | none=>rw[hd] at h;cases h
 | some d=>rw[hd] at h;exact⟨d,rfl,h⟩
theorem TR:(Tryz.prog.info? 37).map (·.size)=some 3:=by kernel_rfl
theorem PX{fn:Func}{p:Tmp}(h:fn.results=#[.cell p 37])(tmps:Array Value)(W:World)(g:Nat)(n:Bool)(v:Value)(e:Int)(hp:tmps.getD p undef=.pointer (some ⟨g,0,none⟩))(hD:Dk W g n v e) :
 (results fn tmps).run Tryz.prog W=.ok (.agg #[.bool n,v,.int .i64 e]) W:=by
 obtain⟨d,h1,h2⟩:=Xl
 cases d <;> first
  | exact results_cell_row (P:=Tryz.prog) h tmps W g 37 _ _ _ hp hD h1 rfl (by rw[TR];rfl)
  | exact absurd h2 (by simp[TypeDesc.isRow])
theorem iL {fn:Func}{p:Tmp}(hfn:fn.results=#[.cell p 37]) {w base:World}{tmps:Array Value}{o q:Option (Bool×Nat×Int)}{a:Option Addr}{c g:Nat}(h2:tmps.getD p undef=.pointer (some ⟨g,0,none⟩))
 (hL:Lo base g q) (hbw:An w base) (hg:w.heap.size<=g) (hN:Nt 0 base (.slice a (ws (dX o)).length c) (dX o)) :
 bodyPost Tryz.prog fn (fun r w'=>aN 0 w' r o/\An w w') .ret ⟨tmps,[]⟩
  (((base.setCell ⟨g,0,none⟩ (.bool (dN o))).setCell ⟨g,1,none⟩ (.slice a (ws (dX o)).length c)).setCell ⟨g,2,none⟩ (.int .i64 (dE o))):=by
 obtain⟨a0,c0,hD,hM⟩:=hL;exact aC (v:=.agg #[.bool (dN o),.slice a (ws (dX o)).length c,.int .i64 (dE o)]) (PX hfn _ _ g _ _ _ h2 (hD.set _ _ _)) rfl ⟨⟨_,rfl,hN.rR hD _ _ _⟩,di hbw hbw.size hg _ _ _⟩
theorem Kf{P:Prop}(h:P:=by
 rw[hU];have b0:=H0.o.r3;exact⟨(H0.o.r2.1.below hb).below (ae _ _),Dk.new _ _ _ _,hN0.below (ae _ _),(b0.trans (hb.mono b0.size)).trans ((ae _ _).mono (cB b0.size hb.size))⟩):P:=h
theorem Z2{P:Prop}(h:P:=by
 subst hW;have z1:=Dk.new (w.alloc (Obj.cells #[.bool (dN o),.slice a (ws (dX o)).length ca,.int .i64 (dE o)] 37)) (dN p) (.slice b (ws (dX p)).length cb) (dE p);have z2:=Lo.zero ((w.alloc (Obj.cells #[.bool (dN o),.slice a (ws (dX o)).length ca,.int .i64 (dE o)] 37)).alloc (Obj.cells #[.bool (dN p),.slice b (ws (dX p)).length cb,.int .i64 (dE p)] 37));rw[dA] at z1;rw[dA,dA] at z2;exact⟨((Dk.new _ _ _ _).below (ae _ _)).below (ae _ _),z1.below (ae _ _),z2,((ae _ _).trans ((ae _ _).mono (by simp))).trans ((ae _ _).mono (by simp;omega))⟩):P:=h
theorem Bp (w:World) (a b:Option Addr) (ca cb:Nat) (o p q:Option (Bool×Nat×Int)) (F:Fm q)
 (HC:Hid (∀ u:World,An w u->As 83 #[.agg #[.bool (dN o),.slice a (ws (dX o)).length ca,.int .i64 (dE o)],.agg #[.bool (dN p),.slice b (ws (dX p)).length cb,.int .i64 (dE p)]] u fun r w'=>(∃ v,r=.returned (.tuple #[.agg #[.bool (dN q),v,.int .i64 (dE q)],.int .i64 0])/\Nt u.heap.size w' v (dX q))/\Below u.heap.size u w')) :
 As 40 #[.agg #[.bool (dN o),.slice a (ws (dX o)).length ca,.int .i64 (dE o)],.agg #[.bool (dN p),.slice b (ws (dX p)).length cb,.int .i64 (dE p)]] w fun r w'=>aN 0 w' r q/\An w w':=by
 obtain⟨W,hW⟩:=af (((w.alloc (Obj.cells #[.bool (dN o),.slice a (ws (dX o)).length ca,.int .i64 (dE o)] 37)).alloc (Obj.cells #[.bool (dN p),.slice b (ws (dX p)).length cb,.int .i64 (dE p)] 37)).alloc (Obj.cells #[.bool false,.slice none 0 0,.int .i64 0] 37))
 have H0:Aside (Dk W w.heap.size (dN o) (.slice a (ws (dX o)).length ca) (dE o)/\Dk W (w.heap.size+1) (dN p) (.slice b (ws (dX p)).length cb) (dE p)/\Lo W (w.heap.size+2) gG/\An w W):=by
  exact Z2
 have HW:=ak hW;have EL:=hid (HC.o W H0.o.r3);have FF:=ak F;clear hW HC F;go_enter Tryz.func40,Tryz.ntmps40
 go_upto_region 1 with fail
 rw[<-HW.o];clear HW;obtain⟨x0,x1,x2,bE,bF,bG⟩:=H0.o.1.facts;obtain⟨y0,y1,y2,bI,bJ,bK⟩:=H0.o.2.1.facts;go_wp2_with fail;refine EL.o.mono ?_;rintro r u ⟨⟨v,rfl,hN⟩,hb⟩;obtain⟨a1,c1,rfl,hN0⟩:=Lo.shape FF.o hN;obtain⟨U,hU⟩:=af (u.alloc (Obj.cells #[.bool (dN q),.slice a1 (ws (dX q)).length c1,.int .i64 (dE q)] 37))
 have H1:Aside (Lo U (w.heap.size+2) gG/\Dk U u.heap.size (dN q) (.slice a1 (ws (dX q)).length c1) (dE q)/\Nt 0 U (.slice a1 (ws (dX q)).length c1) (dX q)/\An w U):=by
  exact Kf
 obtain⟨gq,sF⟩:=af (u.heap.size);rw[<-sF] at H1;have HU:=(aJ hU sF);clear hU hN hN0 hb EL H0 x0 x1 x2 bE bF bG y0 y1 y2 bI bJ bK sF
 go_upto_region 2 with fail
 rw[<-HU.o.1,<-HU.o.2];clear HU;obtain⟨x0,x1,x2,bE,bF,bG⟩:=H1.o.2.1.facts;obtain⟨p4,q4,D4,M4⟩:=H1.o.1;obtain⟨y0,y1,y2,bI,bJ,bK⟩:=D4.facts;clear D4 M4;go_wp2;exact iL Tryz.results40 rfl H1.o.1 H1.o.r3 (by omega) H1.o.r2.1
theorem DU (w:World) (a b:Option Addr) (ca cb:Nat) (o p q:Option (Bool×Nat×Int)) (F:Fm q)
 (HC:Hid (∀ u:World,An w u->As 134 #[.agg #[.bool (dN o),.slice a (ws (dX o)).length ca,.int .i64 (dE o)],.agg #[.bool (dN p),.slice b (ws (dX p)).length cb,.int .i64 (dE p)]] u fun r w'=>(∃ v,r=.returned (.tuple #[.agg #[.bool (dN q),v,.int .i64 (dE q)],.int .i64 0])/\Nt u.heap.size w' v (dX q))/\Below u.heap.size u w')) :
 As 131 #[.agg #[.bool (dN o),.slice a (ws (dX o)).length ca,.int .i64 (dE o)],.agg #[.bool (dN p),.slice b (ws (dX p)).length cb,.int .i64 (dE p)]] w fun r w'=>aN 0 w' r q/\An w w':=by
 obtain⟨W,hW⟩:=af (((w.alloc (Obj.cells #[.bool (dN o),.slice a (ws (dX o)).length ca,.int .i64 (dE o)] 37)).alloc (Obj.cells #[.bool (dN p),.slice b (ws (dX p)).length cb,.int .i64 (dE p)] 37)).alloc (Obj.cells #[.bool false,.slice none 0 0,.int .i64 0] 37))
 have H0:Aside (Dk W w.heap.size (dN o) (.slice a (ws (dX o)).length ca) (dE o)/\Dk W (w.heap.size+1) (dN p) (.slice b (ws (dX p)).length cb) (dE p)/\Lo W (w.heap.size+2) gG/\An w W):=by
  exact Z2
 have HW:=ak hW;have EL:=hid (HC.o W H0.o.r3);have FF:=ak F;clear hW HC F;go_enter Tryz.func131,Tryz.ntmps131
 go_upto_region 1 with fail
 rw[<-HW.o];clear HW;obtain⟨x0,x1,x2,bE,bF,bG⟩:=H0.o.1.facts;obtain⟨y0,y1,y2,bI,bJ,bK⟩:=H0.o.2.1.facts;go_wp2_with fail;refine EL.o.mono ?_;rintro r u ⟨⟨v,rfl,hN⟩,hb⟩;obtain⟨a1,c1,rfl,hN0⟩:=Lo.shape FF.o hN;obtain⟨U,hU⟩:=af (u.alloc (Obj.cells #[.bool (dN q),.slice a1 (ws (dX q)).length c1,.int .i64 (dE q)] 37))
 have H1:Aside (Lo U (w.heap.size+2) gG/\Dk U u.heap.size (dN q) (.slice a1 (ws (dX q)).length c1) (dE q)/\Nt 0 U (.slice a1 (ws (dX q)).length c1) (dX q)/\An w U):=by
  exact Kf
 obtain⟨gq,sF⟩:=af (u.heap.size);rw[<-sF] at H1;have HU:=(aJ hU sF);clear hU hN hN0 hb EL H0 x0 x1 x2 bE bF bG y0 y1 y2 bI bJ bK sF
 go_upto_region 2 with fail
 rw[<-HU.o.1,<-HU.o.2];clear HU;obtain⟨x0,x1,x2,bE,bF,bG⟩:=H1.o.2.1.facts;obtain⟨p4,q4,D4,M4⟩:=H1.o.1;obtain⟨y0,y1,y2,bI,bJ,bK⟩:=D4.facts;clear D4 M4;go_wp2;exact iL Tryz.results131 rfl H1.o.1 H1.o.r3 (by omega) H1.o.r2.1
theorem yx (w:World) (a b:Option Addr) (ca cb:Nat) (o p q:Option (Bool×Nat×Int)) (F:Fm q)
 (HC:Hid (∀ u:World,An w u->As 70 #[.agg #[.bool (dN o),.slice a (ws (dX o)).length ca,.int .i64 (dE o)],.agg #[.bool (dN p),.slice b (ws (dX p)).length cb,.int .i64 (dE p)]] u fun r w'=>(∃ v,r=.returned (.tuple #[.agg #[.bool (dN q),v,.int .i64 (dE q)],.int .i64 0])/\Nt u.heap.size w' v (dX q))/\Below u.heap.size u w')) :
 As 64 #[.agg #[.bool (dN o),.slice a (ws (dX o)).length ca,.int .i64 (dE o)],.agg #[.bool (dN p),.slice b (ws (dX p)).length cb,.int .i64 (dE p)]] w fun r w'=>aN 0 w' r q/\An w w':=by
 obtain⟨W,hW⟩:=af (((w.alloc (Obj.cells #[.bool (dN o),.slice a (ws (dX o)).length ca,.int .i64 (dE o)] 37)).alloc (Obj.cells #[.bool (dN p),.slice b (ws (dX p)).length cb,.int .i64 (dE p)] 37)).alloc (Obj.cells #[.bool false,.slice none 0 0,.int .i64 0] 37))
 have H0:Aside (Dk W w.heap.size (dN o) (.slice a (ws (dX o)).length ca) (dE o)/\Dk W (w.heap.size+1) (dN p) (.slice b (ws (dX p)).length cb) (dE p)/\Lo W (w.heap.size+2) gG/\An w W):=by
  exact Z2
 have HW:=ak hW;have EL:=hid (HC.o W H0.o.r3);have FF:=ak F;clear hW HC F;go_enter Tryz.func64,Tryz.ntmps64
 go_upto_region 1 with fail
 rw[<-HW.o];clear HW;obtain⟨x0,x1,x2,bE,bF,bG⟩:=H0.o.1.facts;obtain⟨y0,y1,y2,bI,bJ,bK⟩:=H0.o.2.1.facts;go_wp2_with fail;refine EL.o.mono ?_;rintro r u ⟨⟨v,rfl,hN⟩,hb⟩;obtain⟨a1,c1,rfl,hN0⟩:=Lo.shape FF.o hN;obtain⟨U,hU⟩:=af (u.alloc (Obj.cells #[.bool (dN q),.slice a1 (ws (dX q)).length c1,.int .i64 (dE q)] 37))
 have H1:Aside (Lo U (w.heap.size+2) gG/\Dk U u.heap.size (dN q) (.slice a1 (ws (dX q)).length c1) (dE q)/\Nt 0 U (.slice a1 (ws (dX q)).length c1) (dX q)/\An w U):=by
  exact Kf
 obtain⟨gq,sF⟩:=af (u.heap.size);rw[<-sF] at H1;have HU:=(aJ hU sF);clear hU hN hN0 hb EL H0 x0 x1 x2 bE bF bG y0 y1 y2 bI bJ bK sF
 go_upto_region 2 with fail
 rw[<-HU.o.1,<-HU.o.2];clear HU;obtain⟨x0,x1,x2,bE,bF,bG⟩:=H1.o.2.1.facts;obtain⟨p4,q4,D4,M4⟩:=H1.o.1;obtain⟨y0,y1,y2,bI,bJ,bK⟩:=D4.facts;clear D4 M4;go_wp2;exact iL Tryz.results64 rfl H1.o.1 H1.o.r3 (by omega) H1.o.r2.1
theorem Bq (w:World) (a b:Option Addr) (ca cb:Nat) (o p q:Option (Bool×Nat×Int)) (F:Fm q)
 (HC:Hid (∀ u:World,An w u->As 108 #[.agg #[.bool (dN o),.slice a (ws (dX o)).length ca,.int .i64 (dE o)],.agg #[.bool (dN p),.slice b (ws (dX p)).length cb,.int .i64 (dE p)]] u fun r w'=>(∃ v,r=.returned (.tuple #[.agg #[.bool (dN q),v,.int .i64 (dE q)],.int .i64 0])/\Nt u.heap.size w' v (dX q))/\Below u.heap.size u w')) :
 As 67 #[.agg #[.bool (dN o),.slice a (ws (dX o)).length ca,.int .i64 (dE o)],.agg #[.bool (dN p),.slice b (ws (dX p)).length cb,.int .i64 (dE p)]] w fun r w'=>aN 0 w' r q/\An w w':=by
 obtain⟨W,hW⟩:=af (((w.alloc (Obj.cells #[.bool (dN o),.slice a (ws (dX o)).length ca,.int .i64 (dE o)] 37)).alloc (Obj.cells #[.bool (dN p),.slice b (ws (dX p)).length cb,.int .i64 (dE p)] 37)).alloc (Obj.cells #[.bool false,.slice none 0 0,.int .i64 0] 37))
 have H0:Aside (Dk W w.heap.size (dN o) (.slice a (ws (dX o)).length ca) (dE o)/\Dk W (w.heap.size+1) (dN p) (.slice b (ws (dX p)).length cb) (dE p)/\Lo W (w.heap.size+2) gG/\An w W):=by
  exact Z2
 have HW:=ak hW;have EL:=hid (HC.o W H0.o.r3);have FF:=ak F;clear hW HC F;go_enter Tryz.func67,Tryz.ntmps67
 go_upto_region 1 with fail
 rw[<-HW.o];clear HW;obtain⟨x0,x1,x2,bE,bF,bG⟩:=H0.o.1.facts;obtain⟨y0,y1,y2,bI,bJ,bK⟩:=H0.o.2.1.facts;go_wp2_with fail;refine EL.o.mono ?_;rintro r u ⟨⟨v,rfl,hN⟩,hb⟩;obtain⟨a1,c1,rfl,hN0⟩:=Lo.shape FF.o hN;obtain⟨U,hU⟩:=af (u.alloc (Obj.cells #[.bool (dN q),.slice a1 (ws (dX q)).length c1,.int .i64 (dE q)] 37))
 have H1:Aside (Lo U (w.heap.size+2) gG/\Dk U u.heap.size (dN q) (.slice a1 (ws (dX q)).length c1) (dE q)/\Nt 0 U (.slice a1 (ws (dX q)).length c1) (dX q)/\An w U):=by
  exact Kf
 obtain⟨gq,sF⟩:=af (u.heap.size);rw[<-sF] at H1;have HU:=(aJ hU sF);clear hU hN hN0 hb EL H0 x0 x1 x2 bE bF bG y0 y1 y2 bI bJ bK sF
 go_upto_region 2 with fail
 rw[<-HU.o.1,<-HU.o.2];clear HU;obtain⟨x0,x1,x2,bE,bF,bG⟩:=H1.o.2.1.facts;obtain⟨p4,q4,D4,M4⟩:=H1.o.1;obtain⟨y0,y1,y2,bI,bJ,bK⟩:=D4.facts;clear D4 M4;go_wp2;exact iL Tryz.results67 rfl H1.o.1 H1.o.r3 (by omega) H1.o.r2.1
theorem Br (w:World) (a b:Option Addr) (ca cb:Nat) (o p q:Option (Bool×Nat×Int)) (F:Fm q)
 (HC:Hid (∀ u:World,An w u->As 71 #[.agg #[.bool (dN o),.slice a (ws (dX o)).length ca,.int .i64 (dE o)],.agg #[.bool (dN p),.slice b (ws (dX p)).length cb,.int .i64 (dE p)]] u fun r w'=>(∃ v,r=.returned (.tuple #[.agg #[.bool (dN q),v,.int .i64 (dE q)],.int .i64 0])/\Nt u.heap.size w' v (dX q))/\Below u.heap.size u w')) :
 As 65 #[.agg #[.bool (dN o),.slice a (ws (dX o)).length ca,.int .i64 (dE o)],.agg #[.bool (dN p),.slice b (ws (dX p)).length cb,.int .i64 (dE p)]] w fun r w'=>aN 0 w' r q/\An w w':=by
 obtain⟨W,hW⟩:=af (((w.alloc (Obj.cells #[.bool (dN o),.slice a (ws (dX o)).length ca,.int .i64 (dE o)] 37)).alloc (Obj.cells #[.bool (dN p),.slice b (ws (dX p)).length cb,.int .i64 (dE p)] 37)).alloc (Obj.cells #[.bool false,.slice none 0 0,.int .i64 0] 37))
 have H0:Aside (Dk W w.heap.size (dN o) (.slice a (ws (dX o)).length ca) (dE o)/\Dk W (w.heap.size+1) (dN p) (.slice b (ws (dX p)).length cb) (dE p)/\Lo W (w.heap.size+2) gG/\An w W):=by
  exact Z2
 have HW:=ak hW;have EL:=hid (HC.o W H0.o.r3);have FF:=ak F;clear hW HC F;go_enter Tryz.func65,Tryz.ntmps65
 go_upto_region 1 with fail
 rw[<-HW.o];clear HW;obtain⟨x0,x1,x2,bE,bF,bG⟩:=H0.o.1.facts;obtain⟨y0,y1,y2,bI,bJ,bK⟩:=H0.o.2.1.facts;go_wp2_with fail;refine EL.o.mono ?_;rintro r u ⟨⟨v,rfl,hN⟩,hb⟩;obtain⟨a1,c1,rfl,hN0⟩:=Lo.shape FF.o hN;obtain⟨U,hU⟩:=af (u.alloc (Obj.cells #[.bool (dN q),.slice a1 (ws (dX q)).length c1,.int .i64 (dE q)] 37))
 have H1:Aside (Lo U (w.heap.size+2) gG/\Dk U u.heap.size (dN q) (.slice a1 (ws (dX q)).length c1) (dE q)/\Nt 0 U (.slice a1 (ws (dX q)).length c1) (dX q)/\An w U):=by
  exact Kf
 obtain⟨gq,sF⟩:=af (u.heap.size);rw[<-sF] at H1;have HU:=(aJ hU sF);clear hU hN hN0 hb EL H0 x0 x1 x2 bE bF bG y0 y1 y2 bI bJ bK sF
 go_upto_region 2 with fail
 rw[<-HU.o.1,<-HU.o.2];clear HU;obtain⟨x0,x1,x2,bE,bF,bG⟩:=H1.o.2.1.facts;obtain⟨p4,q4,D4,M4⟩:=H1.o.1;obtain⟨y0,y1,y2,bI,bJ,bK⟩:=D4.facts;clear D4 M4;go_wp2;exact iL Tryz.results65 rfl H1.o.1 H1.o.r3 (by omega) H1.o.r2.1
theorem gT{w:World}{a b:Option Addr}{ca cb:Nat}{o p q:Option (Bool×Nat×Int)}(F:Fm o)(G:Fm p)(H:Fm q)(N1:Nt 0 w (.slice a (ws (dX o)).length ca) (dX o))(N2:Nt 0 w (.slice b (ws (dX p)).length cb) (dX p))(hT:dH w)(h:dY o p=q) :
 As 40 #[.agg #[.bool (dN o),.slice a (ws (dX o)).length ca,.int .i64 (dE o)],.agg #[.bool (dN p),.slice b (ws (dX p)).length cb,.int .i64 (dE p)]] w fun r w'=>aN 0 w' r q/\An w w' :=
 Bp w a b ca cb o p q H (hid fun u hu=>Xf F G (N1.below hu) (N2.below hu) (hT.belows hu) h H)
theorem Bt{w:World}{a b:Option Addr}{ca cb:Nat}{o p q:Option (Bool×Nat×Int)}(F:Fm o)(G:Fm p)(H:Fm q)(N1:Nt 0 w (.slice a (ws (dX o)).length ca) (dX o))(N2:Nt 0 w (.slice b (ws (dX p)).length cb) (dX p))(hT:dH w)(h:iB o p=q) :
 As 131 #[.agg #[.bool (dN o),.slice a (ws (dX o)).length ca,.int .i64 (dE o)],.agg #[.bool (dN p),.slice b (ws (dX p)).length cb,.int .i64 (dE p)]] w fun r w'=>aN 0 w' r q/\An w w' :=
 DU w a b ca cb o p q H (hid fun u hu=>TQ F G (N1.below hu) (N2.below hu) (hT.belows hu) h H)
theorem jw{w:World}{a b:Option Addr}{ca cb:Nat}{o p q:Option (Bool×Nat×Int)}(F:Fm o)(G:Fm p)(H:Fm q)(N1:Nt 0 w (.slice a (ws (dX o)).length ca) (dX o))(N2:Nt 0 w (.slice b (ws (dX p)).length cb) (dX p))(h:dY o p=q) :
 As 64 #[.agg #[.bool (dN o),.slice a (ws (dX o)).length ca,.int .i64 (dE o)],.agg #[.bool (dN p),.slice b (ws (dX p)).length cb,.int .i64 (dE p)]] w fun r w'=>aN 0 w' r q/\An w w' :=
 yx w a b ca cb o p q H (hid fun u hu=>Xj F G (N1.below hu) (N2.below hu) h H)
theorem Bu{w:World}{a b:Option Addr}{ca cb:Nat}{o p q:Option (Bool×Nat×Int)}(F:Fm o)(G:Fm p)(H:Fm q)(N1:Nt 0 w (.slice a (ws (dX o)).length ca) (dX o))(N2:Nt 0 w (.slice b (ws (dX p)).length cb) (dX p))(h:iB o p=q) :
 As 67 #[.agg #[.bool (dN o),.slice a (ws (dX o)).length ca,.int .i64 (dE o)],.agg #[.bool (dN p),.slice b (ws (dX p)).length cb,.int .i64 (dE p)]] w fun r w'=>aN 0 w' r q/\An w w' :=
 Bq w a b ca cb o p q H (hid fun u hu=>Xk F G (N1.below hu) (N2.below hu) h H)
theorem Xm{U:World}{a b:Option Addr}{c d:Nat}{o p q:Option (Bool×Nat×Int)}(F:Fm o)(G:Fm p)(N1:Nt 0 U (.slice a (ws (dX o)).length c) (dX o))(N2:Nt 0 U (.slice b (ws (dX p)).length d) (dX p))(h:iB o (mkS (!dN p) (dX p) (dE p))=q)(H:Fm q) :
 As 71 #[.agg #[.bool (dN o),.slice a (ws (dX o)).length c,.int .i64 (dE o)],.agg #[.bool (dN p),.slice b (ws (dX p)).length d,.int .i64 (dE p)]] U fun r w'=>(∃ v,r=.returned (.tuple #[.agg #[.bool (dN q),v,.int .i64 (dE q)],.int .i64 0])/\Nt U.heap.size w' v (dX q))/\An U w':=by
 have:=Lj (F.a12 N1) (G.a12 N2) F.two G.two (dN o) (dN p) (dE o) (dE p) F.mV.1 F.mV.2 G.mV.1 G.mV.2;rw[aj,aj,F.re,h] at this;unfold bN at this;rw[H.er] at this;exact this
theorem Jf{w:World}{a b:Option Addr}{ca cb:Nat}{o p q:Option (Bool×Nat×Int)}(F:Fm o)(G:Fm p)(H:Fm q)(N1:Nt 0 w (.slice a (ws (dX o)).length ca) (dX o))(N2:Nt 0 w (.slice b (ws (dX p)).length cb) (dX p))(h:iB o (mkS (!dN p) (dX p) (dE p))=q) :
 As 65 #[.agg #[.bool (dN o),.slice a (ws (dX o)).length ca,.int .i64 (dE o)],.agg #[.bool (dN p),.slice b (ws (dX p)).length cb,.int .i64 (dE p)]] w fun r w'=>aN 0 w' r q/\An w w' :=
 Br w a b ca cb o p q H (hid fun u hu=>Xm F G (N1.below hu) (N2.below hu) h H)
theorem aN.jy{w:World}{r:Ending}{lo:Nat}{q:Option (Bool×Nat×Int)}(H:Fm q)(h:aN lo w r q):∃ a c,r=.returned (.agg #[.bool (dN q),.slice a (ws (dX q)).length c,.int .i64 (dE q)])/\Nt 0 w (.slice a (ws (dX q)).length c) (dX q):=by
 obtain⟨v,rfl,hN⟩:=h;obtain⟨a,c,rfl,hN0⟩:=Lo.shape H hN;exact⟨a,c,rfl,hN0⟩
theorem aN.Bw{w:World}{r:Ending}{lo:Nat}{q:Option (Bool×Nat×Int)}(h:aN lo w r q):aN 0 w r q:=by
 obtain⟨v,rfl,hN⟩:=h;exact⟨v,rfl,hN.mono (oh _)⟩
theorem xC(n:Int)(w:World)(hT:dH w)(h0:-9223372036854775808<=n)(h1:n<=9223372036854775807) :
 As 52 #[.int .i64 n] w fun r w'=>aN 0 w' r (gV 0 n)/\An w w' :=
 (Sm n w hT h0 h1).mono fun r w' h=>⟨h.1.Bw,h.2⟩
theorem qK(n:Int)(w:World)(h0:-9223372036854775808<=n)(h1:n<=9223372036854775807) :
 As 14 #[.int .i64 n] w fun r w'=>aN 0 w' r (gV 0 n)/\An w w' :=
 (OC n w h0 h1).mono fun r w' h=>⟨h.1.Bw,h.2⟩
theorem Ks{P:Prop}(h:P:=by
 go_wp2;go_roundg (gk-1)
 case measure=>omega
 case rel=>exact⟨j+1,by omega,by first | rfl | simp,H3.o⟩):P:=h
theorem PY(w:World)(a:Option Addr)(ca k:Nat)(od:Option (Bool×Nat×Int))(P:Nat->Option (Bool×Nat×Int))(hk:k<=60)(hT:dH w)(F0:Fm od)(FP:∀ i,i<=k->Fm (P i))(EP:∀ i,i<k->dY (P i) od=P (i+1))(E0:gV 0 1=P 0)(N1:Nt 0 w (.slice a (ws (dX od)).length ca) (dX od)) :
 As 51 #[.agg #[.bool (dN od),.slice a (ws (dX od)).length ca,.int .i64 (dE od)],.int .i64 (k:Nat)] w fun r w'=>aN 0 w' r (P k)/\An w w':=by
 obtain⟨W,hW⟩:=af ((w.alloc (Obj.cells #[.bool (dN od),.slice a (ws (dX od)).length ca,.int .i64 (dE od)] 37)).alloc (Obj.cells #[.bool false,.slice none 0 0,.int .i64 0] 37))
 have H0:Aside (Lo W w.heap.size od/\Lo W (w.heap.size+1) gG/\An w W):=by
  subst hW;have z2:=Lo.zero (w.alloc (Obj.cells #[.bool (dN od),.slice a (ws (dX od)).length ca,.int .i64 (dE od)] 37));rw[dA] at z2;exact⟨(Lo.new N1).below (ae _ _),z2,(ae _ _).trans ((ae _ _).mono (by simp))⟩
 have HI:Hid (As 52 #[.int .i64 1] W fun r w'=>aN 0 w' r (P 0)/\An W w'):=by
  have:=xC 1 W (hT.belows H0.o.r2) (by decide) (by decide);rw[E0] at this;exact this
 have HM:Hid (∀ (i:Nat) (u:World) (p q:Option Addr) (cp cq:Nat),i<k->dH u->Nt 0 u (.slice p (ws (dX (P i))).length cp) (dX (P i))->Nt 0 u (.slice q (ws (dX od)).length cq) (dX od)->As 40 #[.agg #[.bool (dN (P i)),.slice p (ws (dX (P i))).length cp,.int .i64 (dE (P i))],.agg #[.bool (dN od),.slice q (ws (dX od)).length cq,.int .i64 (dE od)]] u fun r w'=>aN 0 w' r (P (i+1))/\Below u.heap.size u w') :=
  fun i u p q cp cq hi hT n1 n2=>gT (FP i (by omega)) F0 (FP (i+1) (by omega)) n1 n2 hT (EP i hi)
 have HW:=ak hW;have PF:=ak FP;have HT:=ak hT;clear hW N1 F0 FP EP E0 hT;go_enter Tryz.func51,Tryz.ntmps51
 go_upto_region 1 with fail
 rw[<-HW.o];clear HW;go_wp2_with fail;refine HI.o.mono ?_;rintro r u ⟨hd,hb⟩;obtain⟨a1,c1,rfl,hN0⟩:=hd.jy (PF.o 0 (oh _));obtain⟨U,hU⟩:=af (u.alloc (Obj.cells #[.bool (dN (P 0)),.slice a1 (ws (dX (P 0))).length c1,.int .i64 (dE (P 0))] 37))
 have H1:Aside (Lo U u.heap.size (P 0)/\Lo U w.heap.size od/\Lo U (w.heap.size+1) gG/\An w U/\w.heap.size+1<u.heap.size):=by
  rw[hU];have b0:=H0.o.r2;have l1:=(H0.o.2.1.below hb).lt;exact⟨Lo.new hN0,(H0.o.1.below hb).below (ae _ _),(H0.o.2.1.below hb).below (ae _ _),(b0.trans (hb.mono b0.size)).trans ((ae _ _).mono (cB b0.size hb.size)),l1⟩
 obtain⟨gp,hgp⟩:=af (u.heap.size);rw[<-hgp] at H1;have HU:=(aJ hU hgp);clear hU hN0 hb hd HI H0 hgp
 go_upto_region 2 with fail
 rw[<-HU.o.1,<-HU.o.2];clear HU;go_wp2
 go_loopg [8] k (fun gk i wr=>∃ j:Nat,gk+j=k/\i=.int .i64 (j:Nat)/\Aside (Lo wr gp (P j)/\Lo wr w.heap.size od/\Lo wr (w.heap.size+1) gG/\An w wr))
 case atStart=>exact⟨0,by omega,by simp,H1.o.1,H1.o.2.1,H1.o.r2.1,H1.o.r3.1⟩
 case round =>
  obtain⟨j,hgj,rfl,HA⟩:=hrel
  by_cases hj:j<k
  · obtain⟨p1,q1,D1,M1⟩:=HA.o.1;obtain⟨p2,q2,D2,M2⟩:=HA.o.2.1;obtain⟨x0,x1,x2,bE,bF,bG⟩:=D1.facts;obtain⟨y0,y1,y2,bI,bJ,bK⟩:=D2.facts;have C:=hid (HM.o j wr p1 p2 q1 q2 hj (HT.o.belows HA.o.r3) M1 M2);clear D1 D2 M1 M2;go_wp2_with fail;refine C.o.mono ?_;rintro r u3 ⟨hd,hb⟩;obtain⟨a3,c3,rfl,hN0⟩:=hd.jy (PF.o (j+1) (by omega));have s1:=HA.o.1.below hb;have b2:=HA.o.r3.trans (hb.mono HA.o.r3.size);have h5:=H1.o.r4;have H3:=fE (s1.set hN0) ((HA.o.2.1.below hb).other s1 (by omega) (.bool (dN (P (j+1)))) (.slice a3 (ws (dX (P (j+1)))).length c3) (.int .i64 (dE (P (j+1))))) ((HA.o.r2.1.below hb).other s1 (by omega) (.bool (dN (P (j+1)))) (.slice a3 (ws (dX (P (j+1)))).length c3) (.int .i64 (dE (P (j+1))))) (di b2 b2.size (show w.heap.size<=gp by omega) (.bool (dN (P (j+1)))) (.slice a3 (ws (dX (P (j+1)))).length c3) (.int .i64 (dE (P (j+1)))));obtain⟨p3,q3,D3,M3⟩:=s1;obtain⟨z0,z1,z2,dO,dP,dQ⟩:=D3.facts;clear D3 M3 hN0 hb C x0 x1 x2 bE bF bG y0 y1 y2 bI bJ bK hd b2 h5;exact Ks
  · obtain rfl:k=j:=by omega
    have hd:decide ((k:Int)<k)=false:=by simp
    obtain⟨p1,q1,D1,M1⟩:=HA.o.1;obtain⟨p2,q2,D2,M2⟩:=HA.o.r2.1;obtain⟨x0,x1,x2,bE,bF,bG⟩:=D1.facts;obtain⟨y0,y1,y2,bI,bJ,bK⟩:=D2.facts;have Bz:=ak M1;clear D1 D2 M1 M2;go_wp2;exact iL Tryz.results51 rfl HA.o.r2.1 HA.o.r3 (by omega) Bz.o
theorem Up{P:Prop}(h:P:=by
 rw[<-E0];have z2:=Lo.zero (w.alloc (Obj.cells #[.bool false,.slice none 0 0,.int .i64 0] 37));rw[dA] at z2;exact⟨z2,(Lo.zero w).below (ae _ _),(ae _ _).trans ((ae _ _).mono (by simp))⟩):P:=h
theorem Zs{P:Prop}(h:P:=by
 obtain⟨j,hgj,rfl,HA⟩:=hrel
 by_cases hj:j<n
 · obtain⟨p1,q1,D1,M1⟩:=HA.o.1;have hdr:=(aB wr.heap.size wr).drew;have kS:=bO (D1.below hdr).facts.1 (D1.below hdr).facts.2.1 (D1.below hdr).facts.2.2.1;have B1:=fE (D1.below hdr) (M1.below hdr) (HA.o.2.1.below hdr) (HA.o.r2.trans (hdr.mono HA.o.r2.size));have C:=hid (HC.o j wr.drew hj B1.o.r3);clear D1 M1 hdr
   go_upto_region 5 with fail
   refine dz (fun u=>u.cell? ⟨w.heap.size+1,0,none⟩=some (.bool (dN (T j)))/\u.cell? ⟨w.heap.size+1,1,none⟩=some (.slice p1 (ws (dX (T j))).length q1)/\u.cell? ⟨w.heap.size+1,2,none⟩=some (.int .i64 (dE (T j)))) 5 (by kernel_rfl) ?_
   refine tk 0 [4] rfl kS.o ?_;try simp only[Act.put,sa,sb,sc]
   refine tk 1 [3,4] rfl kS.o ?_;try simp only[Act.put,sa,sb,sc]
   refine tk 2 [3,4] rfl kS.o ?_;try simp only[Act.put,sa,sb,sc]
   refine ah (i:=3) (by kernel_rfl) rfl (fun K' hK=>?_);go_simp;refine C.o.mono ?_;rintro r u3 ⟨hd,hb⟩;obtain⟨a3,c3,rfl,eu⟩:=hd.jy (PF.o.2 j hj);have B2:=dJ (B1.o.1.below hb) (B1.o.2.1.below hb) (B1.o.r2.1.below hb) (B1.o.r3.trans (hb.mono B1.o.r3.size)) eu;have kS:=bO B2.o.1.facts.1 B2.o.1.facts.2.1 B2.o.1.facts.2.2.1;clear hb hd C B1 eu;dsimp only;refine hK.out _ _ (fun _=>kS.o) ?_;clear hK K'
   try simp only[Act.put,sa,sb,sc]
   have C:=hid (HP.o j u3 p1 a3 q1 c3 hj (HT.o.belows B2.o.r3.1) B2.o.2.1 B2.o.r4);refine ah (i:=4) (by kernel_rfl) rfl (fun K' hK=>?_);go_simp;refine C.o.mono ?_;rintro r u4 ⟨hd,hb⟩;obtain⟨a4,c4,rfl,iD⟩:=hd.jy (PF.o.1 (j+1) (by omega));have B3:=dJ (B2.o.1.below hb) (B2.o.2.1.below hb) (B2.o.r2.1.below hb) (B2.o.r3.1.trans (hb.mono B2.o.r3.1.size)) iD;have kS:=bO B3.o.1.facts.1 B3.o.1.facts.2.1 B3.o.1.facts.2.2.1;clear hb hd C B2 iD;dsimp only;refine hK.out _ _ (fun _=>kS.o) ?_;clear hK K'
   try simp only[Act.put,sa,sb,sc]
   obtain⟨z0,z1,z2,dO,dP,dQ⟩:=B3.o.1.facts;refine ah (i:=5) (by kernel_rfl) rfl (fun K' hK=>?_);go_simp;refine hK.out _ _ (fun h=>absurd h (by decide)) ?_;clear hK K' kS z0 z1 z2 dO dP dQ;refine aH (by kernel_rfl) ?_ _;have LB:Lo u4 (w.heap.size+1) (T j):=⟨_,_,B3.o.1,B3.o.2.1⟩;have b3:=B3.o.r3.1;have H3:=bO (LB.set B3.o.r4) (B3.o.r2.1.other LB (by omega) (.bool (dN (T (j+1)))) (.slice a4 (ws (dX (T (j+1)))).length c4) (.int .i64 (dE (T (j+1))))) (di b3 b3.size (show w.heap.size<=w.heap.size+1 by omega) (.bool (dN (T (j+1)))) (.slice a4 (ws (dX (T (j+1)))).length c4) (.int .i64 (dE (T (j+1)))));clear LB b3;go_wp2;go_roundg (gk-1)
   case measure=>omega
   case rel=>exact⟨j+1,by omega,by first | rfl | simp,H3.o⟩
 · obtain rfl:n=j:=by omega
   have hd:decide ((n:Int)<n)=false:=by simp
   obtain⟨p1,q1,D1,M1⟩:=HA.o.1;obtain⟨p2,q2,D2,M2⟩:=HA.o.2.1;obtain⟨x0,x1,x2,bE,bF,bG⟩:=D1.facts;obtain⟨y0,y1,y2,bI,bJ,bK⟩:=D2.facts;have Bz:=ak M1;clear D1 D2 M1 M2;go_wp2;exact iL Tryz.results84 rfl HA.o.2.1 HA.o.r2 (by omega) Bz.o):P:=h
theorem Mc (w:World) (n h0:Nat) (A T:Nat->Option (Bool×Nat×Int)) (hn:n<=65536) (hT:dH w) (FA:∀ i,i<n->Fm (A i)) (FT:∀ i,i<=n->Fm (T i)) (ET:∀ i,i<n->iB (T i) (A i)=T (i+1)) (E0:gG=T 0)
 (HC:Hid (∀ (i:Nat) (u:World),i<n->An w u->As 93 #[.int .i64 (i:Nat),.pointer (some ⟨h0,0,none⟩)] u fun r w'=>aN 0 w' r (A i)/\An u w')) :
 As 84 #[.int .i64 (n:Nat),.func (.func 93) #[] #[.pointer (some ⟨h0,0,none⟩)]] w fun r w'=>aN 0 w' r (T n)/\An w w':=by
 obtain⟨W,hW⟩:=af ((w.alloc (Obj.cells #[.bool false,.slice none 0 0,.int .i64 0] 37)).alloc (Obj.cells #[.bool false,.slice none 0 0,.int .i64 0] 37))
 have H0:Aside (Lo W (w.heap.size+1) (T 0)/\Lo W w.heap.size gG/\An w W):=by
  subst hW;exact Up
 have HP:Hid (∀ (i:Nat) (u:World) (p q:Option Addr) (cp cq:Nat),i<n->dH u->Nt 0 u (.slice p (ws (dX (T i))).length cp) (dX (T i))->Nt 0 u (.slice q (ws (dX (A i))).length cq) (dX (A i))->As 131 #[.agg #[.bool (dN (T i)),.slice p (ws (dX (T i))).length cp,.int .i64 (dE (T i))],.agg #[.bool (dN (A i)),.slice q (ws (dX (A i))).length cq,.int .i64 (dE (A i))]] u fun r w'=>aN 0 w' r (T (i+1))/\An u w') :=
  fun i u p q cp cq hi hT n1 n2=>Bt (FT i (by omega)) (FA i hi) (FT (i+1) (by omega)) n1 n2 hT (ET i hi)
 have HW:=ak hW;have PF:=aJ FT FA;have HT:=ak hT;clear hW FT FA ET E0 hT;go_enter Tryz.func84,Tryz.ntmps84
 go_upto_region 2 with fail
 rw[<-HW.o];clear HW;go_wp2
 go_loopg [8] n (fun gk i wr=>∃ j:Nat,gk+j=n/\i=.int .i64 (j:Nat)/\Aside (Lo wr (w.heap.size+1) (T j)/\Lo wr w.heap.size gG/\An w wr))
 case atStart=>exact⟨0,by omega,by simp,H0.o⟩
 case round =>
  exact Zs
def Dr(w:World)(g n k:Nat)(A:Nat->Option (Bool×Nat×Int)):Prop:=∃ cur:Array Value,w.heap[g]?=some (.cells cur 37 (0,0))/\cur.size=n*3/\∀ i,i<k->∃ a c,cur[i*3]?=some (.bool (dN (A i)))/\cur[i*3+1]?=some (.slice a (ws (dX (A i))).length c)/\cur[i*3+2]?=some (.int .i64 (dE (A i)))/\Nt 0 w (.slice a (ws (dX (A i))).length c) (dX (A i))
theorem Dr.lt{w:World}{g n k:Nat}{A:Nat->Option (Bool×Nat×Int)}(h:Dr w g n k A):g<w.heap.size:=by obtain⟨c,h,_⟩:=h;exact(fV.1 h).1
theorem Dr.below{w w':World}{g n k:Nat}{A:Nat->Option (Bool×Nat×Int)}(h:Dr w g n k A)(hb:An w w'):Dr w' g n k A:=by
 have hl:=h.lt;obtain⟨c,h,hs,r⟩:=h;refine⟨c,by rw[hb.block g hl];exact h,hs,fun i hi=>?_⟩;obtain⟨a,d,r1,r2,r3,r4⟩:=r i hi;exact⟨a,d,r1,r2,r3,r4.below hb⟩
theorem Dr.facts{w:World}{g n k:Nat}{A:Nat->Option (Bool×Nat×Int)}(h:Dr w g n k A)(i:Nat)(hi:i<k) :
 ∃ a c,w.cell? ⟨g,i*3,none⟩=some (.bool (dN (A i)))/\w.cell? ⟨g,i*3+1,none⟩=some (.slice a (ws (dX (A i))).length c)/\w.cell? ⟨g,i*3+2,none⟩=some (.int .i64 (dE (A i)))/\Nt 0 w (.slice a (ws (dX (A i))).length c) (dX (A i)):=by
 obtain⟨c,h,hs,r⟩:=h;obtain⟨a,d,r1,r2,r3,r4⟩:=r i hi;refine⟨a,d,?_,?_,?_,r4⟩ <;> simp[World.cell?,h,r1,r2,r3]
theorem Dr.room{w:World}{g n k:Nat}{A:Nat->Option (Bool×Nat×Int)}(h:Dr w g n k A)(j:Nat)(hj:j<n*3):(∃ v,w.cell? ⟨g,j,none⟩=some v)/\w.frozen? ⟨g,j,none⟩=false:=by
 obtain⟨c,h,hs,r⟩:=h;refine⟨⟨c[j]'(by omega),?_⟩,?_⟩
 · simp[World.cell?,h]
 · simp[World.frozen?,h]
abbrev Zu(w:World)(g o:Nat)(a b c:Value):World:=((w.setCell ⟨g,o,none⟩ a).setCell ⟨g,o+1,none⟩ b).setCell ⟨g,o+2,none⟩ c
theorem xD(g o:Nat)(w:World)(a b c:Value):But g w (Zu w g o a b c):=(((But.refl g w).set _ _).set _ _).set _ _
theorem zE{P:Prop}(h:P:=by
 simp[yK,show i*3≠j*3 by omega,show i*3≠j*3+1 by omega,show i*3≠j*3+2 by omega,show i*3+1≠j*3 by omega,show i*3+1≠j*3+1 by omega,show i*3+1≠j*3+2 by omega,show i*3+2≠j*3 by omega,show i*3+2≠j*3+1 by omega,show i*3+2≠j*3+2 by omega,show i≠j by omega]):P:=h
theorem Dr.step{w:World}{g n i:Nat}{A:Nat->Option (Bool×Nat×Int)}(h:Dr w g n i A)(hi:i<n){a:Option Addr}{c:Nat}(hN:Nt 0 w (.slice a (ws (dX (A i))).length c) (dX (A i))) :
 Dr (Zu w g (i*3) (.bool (dN (A i))) (.slice a (ws (dX (A i))).length c) (.int .i64 (dE (A i)))) g n (i+1) A:=by
 obtain⟨cur,h1,hs,r⟩:=h;refine⟨_,Bj (Bj (Bj h1 (i*3) _) (i*3+1) _) (i*3+2) _,by simp;exact hs,fun j hj=>?_⟩
 by_cases e:j=i
 · subst e;refine⟨a,c,?_,?_,?_,hN.off (xD _ _ _ _ _ _) (hN.fJ (by decide) h1)⟩ <;> (simp[yK];omega)
 · obtain⟨b,d,r1,r2,r3,r4⟩:=r j (by omega);refine⟨b,d,?_,?_,?_,r4.off (xD _ _ _ _ _ _) (r4.fJ (by decide) h1)⟩
   · rw[<-r1];simp[yK,show i*3≠j*3 by omega,show i*3+1≠j*3 by omega,show i*3+2≠j*3 by omega]
   · rw[<-r2];exact zE
   · rw[<-r3];exact zE
theorem Tryz.DV:Tryz.prog.underlying 60=some (.slice 37):=by kernel_rfl
theorem Tryz.DY:(Tryz.prog.info? 37).map (fun i=>(i.zero,i.size,i.bytes))=some (some (.agg #[.bool false,.slice none 0 0,.int .i64 0]),3,40):=by kernel_rfl
theorem BA(n:Nat)(hn:n<=65536)(w:World) :
 (Instr.makeSlice 60 (.int .i64 (n:Nat)) (.int .i64 (n:Nat))).run Tryz.prog w=.ok (.slice (some ⟨w.heap.size,0,none⟩) n n) (w.alloc (.cells (madeCells #[.bool false,.slice none 0 0,.int .i64 0] (n*3)) 37)):=by
 have h:=Tryz.DY
 cases hq:Tryz.prog.info? 37 with
 | none=>rw[hq] at h;cases h
 | some i =>
   rw[hq] at h;simp only[Option.map_some,Option.some.injEq,Prod.mk.injEq] at h;obtain⟨hz,hs,hb⟩:=h;have:=run_make (P:=Tryz.prog) w 60 37 i _ Tryz.DV hq hz .i64 .i64 (n:Nat) (n:Nat) (by omega) (by omega) (by rw[hb];omega) (by omega);rw[hs,mF] at this;exact this
theorem Dr.made(w:World)(n:Nat)(A:Nat->Option (Bool×Nat×Int)):Dr (w.alloc (.cells (madeCells #[.bool false,.slice none 0 0,.int .i64 0] (n*3)) 37)) w.heap.size n 0 A :=
 ⟨_,gZ _ _,size_madeCells _ _,fun i hi=>absurd hi (by omega)⟩
theorem PZ(x:Nat)(hx:x<18446744073709551616)(fx:¬ fD x)(w:World)(hT:dH w) :
 As 92 #[.float .f64 x] w fun r w'=>(∃ a c,r=.returned (.tuple #[.agg #[.bool false,.slice a 0 c,.int .i64 0],.int .i64 30])/\Nt w.heap.size w' (.slice a 0 c) 0)/\An w w':=by
 have e:B.bw (nE x) (gI x/4503599627370496) (gI x%4503599627370496)=x:=by
  exact yd
 have hm:gI x<9223372036854775808:=mD _ (by decide);have hm2:¬ gI x<9218868437227405312:=fx;have:=OB (nE x) (gI x/4503599627370496) (gI x%4503599627370496) (by omega) (by omega) w hT;rw[e] at this;refine this.mono ?_;rintro r w' ⟨⟨v,rfl,hN⟩,hb⟩;have e1:Q9 (nE x) (gI x/4503599627370496) (gI x%4503599627370496)=none:=by unfold Q9;rw[if_pos (by omega)]
 have e2:ML (gI x/4503599627370496)=30:=by unfold ML;rw[if_pos (by omega)]
 rw[e1] at hN |-;rw[e2];obtain⟨a,c,rfl,_⟩:=hN.arg (by show(ws 0).length<=_;rw[aY];decide);rw[show(ws (dX (none:Option (Bool×Nat×Int)))).length=0 by simp[dX,aY]] at hN |-;exact⟨⟨a,c,rfl,hN⟩,hb⟩
theorem of14(x:Nat)(hx:x<18446744073709551616)(fx:fD x)(w:World)(hT:dH w) :
 As 92 #[.float .f64 x] w fun r w'=>(∃ v,r=.returned (.tuple #[.agg #[.bool (dN (gV 1074 (zn x))),v,.int .i64 (dE (gV 1074 (zn x)))],.int .i64 0])/\Nt w.heap.size w' v (dX (gV 1074 (zn x))))/\An w w':=TP x ⟨hx,fx⟩ w hT
theorem P5(i n g4 gA:Nat)(A:Nat->Option (Bool×Nat×Int))(u:World)(hi:i<n)(hn:n<=65536)(hB:Bl u g4 60 [.slice (some ⟨gA,0,none⟩) n n])(hD:Dr u gA n n A) :
 As 93 #[.int .i64 (i:Nat),.pointer (some ⟨g4,0,none⟩)] u fun r w'=>aN 0 w' r (A i)/\An u w':=by
 obtain⟨W,hW⟩:=af (u.alloc (Obj.cells #[.bool false,.slice none 0 0,.int .i64 0] 37))
 have H0:Aside (Lo W u.heap.size gG/\Dr W gA n n A/\Bl W g4 60 [.slice (some ⟨gA,0,none⟩) n n]/\An u W):=by
  rw[hW];exact⟨Lo.zero _,hD.below (ae _ _),hB.below (ae _ _) hB.lt,ae _ _⟩
 have HW:=ak hW;clear hW hB hD;go_enter Tryz.func93,Tryz.ntmps93
 go_upto_region 1 with fail
 rw[<-HW.o];clear HW;have s0:=H0.o.r2.1.cell 0 _ rfl;obtain⟨a,c,x0,x1,x2,M⟩:=H0.o.2.1.facts i hi;have Bz:=ak M;obtain⟨p2,q2,D2,M2⟩:=H0.o.1;obtain⟨y0,y1,y2,bI,bJ,bK⟩:=D2.facts;clear D2 M2 M;go_wp2;exact iL Tryz.results93 rfl H0.o.1 H0.o.r3 (by omega) Bz.o
theorem Dr.but{w w':World}{g g' n k T:Nat}{A:Nat->Option (Bool×Nat×Int)}{L:List Value}(h:Dr w g n k A)(hb:But g' w w')(hB:Bl w g' T L)(hg:g≠g')(hT:T≠91):Dr w' g n k A:=by
 have hl:=h.lt;obtain⟨c,h,hs,r⟩:=h;refine⟨c,by rw[hb.block g hl hg];exact h,hs,fun i hi=>?_⟩;obtain⟨a,d,r1,r2,r3,r4⟩:=r i hi;exact⟨a,d,r1,r2,r3,r4.off hb (r4.fJ hT hB)⟩
end
end Go.Proofs.YteginbngplldaaaGreatDoor
