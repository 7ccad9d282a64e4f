import Derived.Test.YtjppdacikihpdaaGreatDoorZ5x
import Derived.Test.YtjppdacikihpdaaGreatDoorS10x
import Derived.Test.YtjppdacikihpdaaGreatDoorD39x
import Derived.BigQuiet
import Derived.Deep.RegionHeld3
import Derived.Deep.CutRange
import Derived.Test.YtjppdacikihpdaaGreatDoorD32cx
import Derived.Test.YtjppdacikihpdaaGreatDoorBIeeex
import Derived.Test.YtjppdacikihpdaaGreatDoorW24x
import Derived.ProofKit
import Derived.OpenShut
import Derived.ChangeOld
import Derived.SizedLaws
import Derived.ChangeArms
import Derived.Test.YtjppdacikihpdaaGreatDoorD8x
import Derived.KernelRfl
import Derived.ArgAppend
import Derived.Maps.AppendAt
import Derived.WalkMore
import Derived.OwnWalk
import Derived.Test.YtjppdacikihpdaaGreatDoorD15x
import Derived.Test.YtjppdacikihpdaaGreatDoorD19x
import Derived.Deep.RegionWith
import Derived.Test.YtjppdacikihpdaaGreatDoorU1x
import Derived.Deep.Cut
import Derived.RangeFuncNested
import Derived.RangeFuncBound
import Derived.RangeFuncCalls
import Derived.RangeFuncLeaves
import Derived.RangeFuncBox
import Derived.Shelf.Abstract
import Derived.Shelf.RegionOpen
import Derived.WalkKit
import Derived.OwnWalkIn
import Derived.TacticsInMore
import Derived.LoopNIn
import Derived.LoopIn
import Derived.Deep.RegionHeld
import Derived.Defers
import Derived.Test.YtjppdacikihpdaaGreatDoorM1x
import Derived.Laws.CopyOwn
import Derived.Deep.OwnRows
import Derived.Laws.MakeOwn
set_option linter.unusedVariables false
set_option linter.unusedSimpArgs false
set_option maxHeartbeats 16000000
set_option maxRecDepth 20000
namespace Go.Proofs.YtjppdacikihpdaaGreatDoor
namespace J
end J
section
open Go.RowKit
def Iv(o:Option (Bool×Nat×Int))(lo hi:Int):Prop:=∃n X e,o=some (n,X,e)/\wR n X e/\(X=0\/(lo<=e/\e+(bl X:Int)<=hi))
theorem Iv.mono{o:Option (Bool×Nat×Int)}{a b c d:Int}(h:Iv o a b)(h1:c<=a)(h2:b<=d):Iv o c d:=by
 obtain⟨n,X,e,h,F,hb⟩:=h;exact⟨n,X,e,h,F,ae⟩
theorem vI(n:Bool)(X:Nat)(e a b:Int)(h:X=0\/(a<=e/\e+(bl X:Int)<=b))(hw:b-a<=262144)(ha:-1048576<=a)(hb:b<=1048576):Iv (mkS n X e) a b:=by
 by_cases h0:X=0
 . subst h0;rw[fP];exact⟨false,0,0,rfl,⟨.inr ⟨rfl,rfl,rfl⟩,by rw[dI];omega,ae,ae⟩,.inl rfl⟩
 . obtain⟨h1,h2⟩:=h.resolve_left h0;obtain⟨k,o1,o2,o3⟩:=iI X h0;have hp:=dM (X/2^lo X) ae
   have e1:mkS n X e=some (n,X/2^lo X,e+lo X):=by
    unfold mkS;rw[if_neg h0,if_neg ae]
   exact⟨n,_,_,e1,cO e1,.inr ae⟩
theorem vJ(X Y:Nat):bl (X*Y)<=bl X+bl Y:=eY (by rw[aP];exact x8 (iT X) (iT Y))
theorem Iv.mul{o p:Option (Bool×Nat×Int)}{a b c d:Int}(h1:Iv o a b)(h2:Iv p c d)(hw:(b+d)-(a+c)<=262144)(hl:-1048576<=a+c)(hh:b+d<=1048576):Iv (xm o p) (a+c) (b+d):=by
 obtain⟨n,X,e,rfl,F,hx⟩:=h1;obtain⟨m,Y,f,rfl,G,hy⟩:=h2;show Iv (mkS (n != m) (X*Y) (e+f)) _ _;refine vI _ _ _ _ _ ?_ hw hl hh;rcases hx with rfl|hx
 . left;rw[fe]
 . rcases hy with rfl | hy
   . left;rw[o9]
   . right
     have:=vJ X Y;omega
theorem Px{X k:Nat}{j:Nat}(h:bl X+k<=j):X*2^k<2^j:=by
 have h1:=iT X;have h2:X*2^k<2^bl X*2^k:=fK h1 (bG k);rw[<-aP] at h2;exact gT h2 (fD aM h)
theorem Gz(n m:Bool)(X Y:Nat)(e f a b:Int)(hfe:f<=e)(ha:a<=f)(h1:e+(bl X:Int)<=b)(h2:f+(bl Y:Int)<=b)(hw:b+1-a<=262144)(hl:-1048576<=a)(hh:b+1<=1048576)(hX:X≠0):Iv (j6 n X e m Y f) a (b+1):=by
 have hp:=dM X hX;unfold j6;rw[if_neg ae];obtain⟨j,hj⟩:∃j:Nat,(j:Int)=b-f:=⟨(b-f).toNat,ae⟩;have b1:X*2^(e-f).toNat<2^j:=Px ae;have b2:Y<2^j:=gT (iT Y) (fD aM ae)
 have fin:∀(s:Bool) (Z:Nat),Z<2^(j+1)->Iv (mkS s Z f) a (b+1):=by
  intro s Z hZ;refine vI s Z f a (b+1) ?_ hw hl hh
  by_cases h0:Z=0
  . exact .inl h0
  . right
    have:=eY hZ;omega
 have b3:(2:Nat)^(j+1)=2*2^j:=by rw[dS,cK]
 split
 . exact fin _ _ ae
 . split
   . exact fin _ _ ae
   . exact fin _ _ ae
theorem Iv.add{o p:Option (Bool×Nat×Int)}{a b:Int}(h1:Iv o a b)(h2:Iv p a b)(hw:b+1-a<=262144)(hl:-1048576<=a)(hh:b+1<=1048576):Iv (qa o p) a (b+1):=by
 have h1':=h1;have h2':=h2;obtain⟨n,X,e,rfl,F,hx⟩:=h1;obtain⟨m,Y,f,rfl,G,hy⟩:=h2;show Iv (uf (n,X,e) (m,Y,f)) a (b+1);unfold uf;simp only
 by_cases hX:X=0
 . rw[if_pos hX];exact h2'.mono ae ae
 . rw[if_neg hX]
   by_cases hY:Y=0
   . rw[if_pos hY];exact h1'.mono ae ae
   . rw[if_neg hY];have ex:=hx.resolve_left hX;have ey:=hy.resolve_left hY
     split
     . exact Gz m n Y X f e a b ae ex.1 ey.2 ex.2 hw hl hh hY
     . exact Gz n m X Y e f a b ae ey.1 ex.2 ey.2 hw hl hh hX
def uo(o:Option (Bool×Nat×Int)):Int:=zv (-1048576) (dN o,dX o,dE o)
theorem fvO{o:Option (Bool×Nat×Int)}{n:Bool}{X:Nat}{e:Int}(h:mkS n X e=o)(hs:o.isSome=true):Fv (-1048576) o (uo o):=by
 cases o with
 | none=>cases hs
 | some d=>obtain⟨n1,X1,e1⟩:=d;exact⟨n1,X1,e1,rfl,cO h,rfl⟩
theorem Fv.TP{o:Option (Bool×Nat×Int)}{B z:Int}(h:Fv B o z):dX o=0↔z=0:=by
 obtain⟨n,X,e,rfl,F,rfl⟩:=h.ex;constructor
 . intro h0;exact qO B h0
 . intro h0;show X=0;rcases kG X with q|q
   . exact q
   . exfalso;have:=jh q (bG (e-B).toNat);unfold zv oH at h0
     cases n <;> simp only[eX,if_false,if_true] at h0 <;> omega
theorem Fv.XG{o:Option (Bool×Nat×Int)}{B z:Int}(h:Fv B o z):dN o=true↔z<0:=by
 obtain⟨n,X,e,rfl,F,rfl⟩:=h.ex;show n=true↔_;rcases F.odd with q|⟨rfl,rfl,rfl⟩
 . have:=jh (show 0<X by omega) (bG (e-B).toNat);unfold zv oH
   cases n <;> simp only[eX,if_false,if_true,false_iff,true_iff] <;> omega
 . simp[zv]
theorem Fv.JZ{o:Option (Bool×Nat×Int)}{B z:Int}(h:Fv B o z):mkS (dN o) (dX o) (dE o)=o:=by
 obtain⟨n,X,e,rfl,F,rfl⟩:=h.ex;exact F.self
theorem TQ(x y:Int):jC x y=-jC y x:=by unfold jC;split <;> split <;> omega
theorem Fv.len{o:Option (Bool×Nat×Int)}{B z:Int}(h:Fv B o z):(ws (dX o)).length<=8192:=by
 obtain⟨n,X,e,rfl,F,_⟩:=h.ex;exact fw F
def Al(w:World)(v:Value)(X:Nat):Prop:=∃a l c xs,v=.slice a l c/\Arg w a l c xs/\val xs=X/\l<=2000000
theorem Al.below{w w':World}{v:Value}{X:Nat}(h:Al w v X)(hb:An w w'):Al w' v X:=by
 obtain⟨a,l,c,xs,rfl,hA,hv,hl⟩:=h;exact⟨a,l,c,xs,rfl,hA.below hb,hv,hl⟩
def Fm(o:Option (Bool×Nat×Int)):Prop:=∃B x,Fv B o x
theorem Fm.len{o:Option (Bool×Nat×Int)}(h:Fm o):(ws (dX o)).length<=8192:=by obtain⟨B,x,h⟩:=h;exact h.len
theorem Fm.re{o:Option (Bool×Nat×Int)}(h:Fm o):mkS (dN o) (dX o) (dE o)=o:=by obtain⟨B,x,h⟩:=h;exact h.JZ
theorem Fm.sD{o:Option (Bool×Nat×Int)}(h:Fm o):-9223372036854775808<=dE o/\dE o<=9223372036854775807:=by
 obtain⟨B,x,h⟩:=h;obtain⟨n,X,e,rfl,F,_⟩:=h.ex;have:=F.up;have:=F.down;show -9223372036854775808<=e/\e<=9223372036854775807;omega
theorem D8:vK 0=0:=by
 have:=iO 0 0 (.inl rfl) ae;simpa using this
def EC(V:Int):Option (Bool×Nat×Int):=mkS (decide (V<0)) V.natAbs (-1074)
theorem Qa7{P:Prop}(h:P:=by
 unfold oH
 by_cases h:V<0
 . rw[decide_eq_true h,if_pos rfl];omega
 . rw[decide_eq_false h,if_neg aM];omega):P:=h
theorem XH(V:Int):oH (decide (V<0))*(V.natAbs:Int)=V:=by
 exact Qa7
theorem fo8_fo(V:Int)(m:Nat)(hm:m<=200000)(hV:V.natAbs<2^m):Fo (EC V) (V*(UU:Int)) (-1074) ((m:Int)-1074):=by
 by_cases h0:V=0
 . subst h0;refine⟨⟨false,0,0,?_,?_,?_,.inl rfl⟩⟩
   . unfold EC;exact fP _ _
   . exact cO (fP false 0)
   . rw[qO _ rfl];simp
 . obtain⟨X,e,h1,h2,h3,h4⟩:=mkS_sz (decide (V<0)) V.natAbs (-1074) (-1074) ((m:Int)-1074) ae ae (by have:=blLe hV;omega) ae ae ae;refine⟨⟨_,X,e,h1,cO h1,?_,.inr ⟨h3,h4⟩⟩⟩;rw[lZ h1 (-2097152) (.inr ae)];have e1:(2:Nat)^((-1074:Int) - -2097152).toNat=UU*SS:=US _ aM;rw[e1,eD,eD,<-mD,XH,mD]
theorem XI{o:Option (Bool×Nat×Int)}{V L H:Int}(h:Fo o (V*(UU:Int)) L H)(m:Nat)(hm:m<=200000)(hV:V.natAbs<2^m):o=EC V:=by
 obtain⟨n,X,e,rfl,F1,z1,_⟩:=h.ex;obtain⟨n',X',e',h2,F2,z2,_⟩:=(fo8_fo V m hm hV).ex;rw[h2];obtain⟨rfl,rfl,rfl⟩:=Ti F1 F2 (-2097152) ae (by rw[z1,z2]);rfl
theorem J6{x:Nat}(hx:Wd x)(fx:bO x)(m:Nat)(hm:m=2098):(vC x).natAbs<2^m:=by
 unfold vC;rw[sg_abs];have:=Tv (bB x) fx 2045 rfl;obtain⟨a,ha⟩:∃a,a=2045:=⟨_,rfl⟩;have h2:=Tv (bB x) fx a ha;rw[show m=53+a by omega,aP];exact h2
theorem J7{x:Nat}(hx:Wd x)(fx:bO x):Vz (dH x) (bB x)=EC (vC x):=by
 obtain⟨n,X,e,h1,h2,_⟩:=of_fo (dH x) (bB x) fx;rw[h1];exact XI h2 2098 ae (J6 hx fx 2098 rfl)
theorem XJ(x:Nat)(hx:Wd x/\bO x)(w:World)(hT:gP w) :
 As 78 #[.float .f64 x] w λr w'=>(∃v,r=.returned (.tuple #[.agg #[.bool (dN (EC (vC x))),v,.int .i64 (dE (EC (vC x)))],.int .i64 0])/\Nt w.heap.size w' v (dX (EC (vC x))))/\An w w':=by
 obtain⟨h1,h2,h3,_⟩:=Mf (dH x) (bB x) (fU hx.2);have:=Of_any (dH x) (bB x/4503599627370496) (bB x%4503599627370496) h2 h3 w hT;rw[<-h1,<-Za x hx.1] at this;refine this.mono ?_;rintro r w' ⟨⟨v,rfl,hN⟩,hb⟩;have e:=J7 hx.1 hx.2;unfold Vz at e;rw[e] at hN |-;have he:Y6 (bB x/4503599627370496)=0:=by unfold Y6;rw[if_neg (by have:=hx.2;omega)]
 rw[he];exact⟨⟨v,rfl,hN⟩,hb⟩
end
section
open Go.RowKit J
theorem fF(g:Nat)(w:World)(x y z:Value):But g w (dW w g x y z):=(((But.refl g w).set _ _).set _ _).set _ _
def Lo(w:World)(g:Nat)(o:Option (Bool×Nat×Int)):Prop:=∃a c,Dk w g (dN o) (.slice a (ws (dX o)).length c) (dE o)/\Nt 0 w (.slice a (ws (dX o)).length c) (dX o)
theorem Lo.below{w w':World}{g:Nat}{o:Option (Bool×Nat×Int)}(h:Lo w g o)(hb:An w w'):Lo w' g o:=by
 obtain⟨a,c,h1,h2⟩:=h;exact⟨a,c,h1.below hb,h2.below hb⟩
theorem Lo.lt{w:World}{g:Nat}{o:Option (Bool×Nat×Int)}(h:Lo w g o):g<w.heap.size:=by
 obtain⟨a,c,h1,h2⟩:=h;exact h1.lt
theorem Nt.zC{lo g:Nat}{w:World}{v:Value}{X:Nat}{n:Bool}{a:Option Addr}{l c:Nat}{e:Int}(h:Nt lo w v X)(D:Dk w g n (.slice a l c) e)(x y z:Value):Nt lo (dW w g x y z) v X:=by
 refine h.off (fF g w x y z) ?_;rcases h.2 with ⟨rfl,_⟩|⟨g',cap,cur,rfl,_,hg,_⟩
 . simp[Value.ownBlock]
 . intro e';obtain rfl:g'=g:=by simpa [Value.ownBlock] using e'
   rw[show w.heap[g']?=_ from D] at hg;simp at hg
theorem Lo.set{w:World}{g:Nat}{o p:Option (Bool×Nat×Int)}(h:Lo w g o){a:Option Addr}{c:Nat}(hN:Nt 0 w (.slice a (ws (dX p)).length c) (dX p)) :
 Lo (dW w g (.bool (dN p)) (.slice a (ws (dX p)).length c) (.int .i64 (dE p))) g p:=by
 obtain⟨a0,c0,h1,h2⟩:=h;exact⟨a,c,h1.set _ _ _,hN.zC h1 _ _ _⟩
theorem Lo.other{w:World}{g g':Nat}{o p:Option (Bool×Nat×Int)}(h:Lo w g o)(h':Lo w g' p)(hg:g≠g')(x y z:Value):Lo (dW w g' x y z) g o:=by
 obtain⟨a,c,h1,h2⟩:=h;obtain⟨a0,c0,k1,k2⟩:=h';exact⟨a,c,h1.other _ hg _ _ _,h2.zC k1 _ _ _⟩
theorem Lo.new{w:World}{o:Option (Bool×Nat×Int)}{a:Option Addr}{c:Nat}(hN:Nt 0 w (.slice a (ws (dX o)).length c) (dX o)):Lo (w.alloc (Obj.cells #[.bool (dN o),.slice a (ws (dX o)).length c,.int .i64 (dE o)] 79)) w.heap.size o :=
 ⟨a,c,Dk.new _ _ _ _,hN.below (af _ _)⟩
abbrev GA:Option (Bool×Nat×Int):=some (false,0,0)
theorem GD:(ws (dX GA)).length=0:=by simp[dX,cB]
theorem Lo.zero(w:World):Lo (w.alloc (Obj.cells zD3 79)) w.heap.size GA:=by
 refine⟨none,0,?_,?_⟩
 . rw[GD];exact Dk.new _ _ _ _
 . rw[GD];exact Nt.nil _ _
theorem jU{B g:Nat}{a w:World}(h:Below B a w)(hB:B<=w.heap.size)(hg:B<=g)(x y z:Value):Below B a (dW w g x y z):=But.below h (fF g w x y z) hB hg
theorem Fm.er{o:Option (Bool×Nat×Int)}(h:Fm o):xG o=0:=by
 obtain⟨B,x,h⟩:=h;obtain⟨n,X,e,rfl,_⟩:=h.ex;rfl
theorem Fm.a12{o:Option (Bool×Nat×Int)}{w:World}{a:Option Addr}{c:Nat}(F:Fm o)(N:Nt 0 w (.slice a (ws (dX o)).length c) (dX o)):Arg w a (ws (dX o)).length c (ws (dX o)):=(N.bS (dB F.len aM)).2
theorem mulP12{U:World}{a b:Option Addr}{c d:Nat}{o p q:Option (Bool×Nat×Int)}(F:Fm o)(G:Fm p)(N1:Nt 0 U (.slice a (ws (dX o)).length c) (dX o))(N2:Nt 0 U (.slice b (ws (dX p)).length d) (dX p))(hT:gP U)(h:xm o p=q)(H:Fm q) :
 As 79 #[.agg #[.bool (dN o),.slice a (ws (dX o)).length c,.int .i64 (dE o)],.agg #[.bool (dN p),.slice b (ws (dX p)).length d,.int .i64 (dE p)]] U λr w'=>(∃v,r=.returned (.tuple #[.agg #[.bool (dN q),v,.int .i64 (dE q)],.int .i64 0])/\Nt U.heap.size w' v (dX q))/\An U w':=by
 have:=Tc (F.a12 N1) (G.a12 N2) hT (dN o) (dN p) (dE o) (dE p) F.sD.1 F.sD.2 G.sD.1 G.sD.2;rw[aB,aB,F.re,G.re,h] at this;unfold dm at this;rw[H.er] at this;exact this
theorem XK{U:World}{a b:Option Addr}{c d:Nat}{o p q:Option (Bool×Nat×Int)}(F:Fm o)(G:Fm p)(N1:Nt 0 U (.slice a (ws (dX o)).length c) (dX o))(N2:Nt 0 U (.slice b (ws (dX p)).length d) (dX p))(hT:gP U)(h:qa o p=q)(H:Fm q) :
 As 51 #[.agg #[.bool (dN o),.slice a (ws (dX o)).length c,.int .i64 (dE o)],.agg #[.bool (dN p),.slice b (ws (dX p)).length d,.int .i64 (dE p)]] U λr w'=>(∃v,r=.returned (.tuple #[.agg #[.bool (dN q),v,.int .i64 (dE q)],.int .i64 0])/\Nt U.heap.size w' v (dX q))/\An U w':=by
 have:=Su (F.a12 N1) (G.a12 N2) hT (dN o) (dN p) (dE o) (dE p) F.sD.1 F.sD.2 G.sD.1 G.sD.2;rw[aB,aB,F.re,G.re,h] at this;unfold dm at this;rw[H.er] at this;exact this
theorem Lo.shape{w:World}{lo:Nat}{v:Value}{q:Option (Bool×Nat×Int)}(H:Fm q)(h:Nt lo w v (dX q)):∃a c,v=.slice a (ws (dX q)).length c/\Nt 0 w v (dX q):=by
 obtain⟨a,c,rfl,_⟩:=h.arg (dB H.len aM);exact⟨a,c,rfl,h.mono (lD _)⟩
end
section
open Go.RowKit
theorem Ea(x y c:Int)(hc:0<c):jC (x*c) (y*c)=jC x y:=by
 unfold jC;have h1:x*c<y*c↔x<y:=⟨λh=>Cv h (xZ hc),λh=>Cu h hc⟩;have h2:y*c<x*c↔y<x:=⟨λh=>Cv h (xZ hc),λh=>Cu h hc⟩;simp only[h1,h2]
theorem frm_fv{n:Bool}{X:Nat}{e:Int}(F:wR n X e)(B:Int):Fv B (some (n,X,e)) (zv B (n,X,e)):=⟨n,X,e,rfl,F,rfl⟩
theorem ofK_iv(s:Bool)(K:Nat)(hK:K<9218868437227405312):Iv (Vz s K) (-1074) 1024:=by
 obtain⟨x,hx⟩:∃x,K/4503599627370496=x:=⟨_,rfl⟩;obtain⟨f,hf⟩:∃f,K%4503599627370496=f:=⟨_,rfl⟩;have hxl:x<2047:=ae
 have hfl:f<4503599627370496:=ae
 obtain⟨M,hM⟩:∃M,(if x=0 then f else f+4503599627370496)=M:=⟨_,rfl⟩;obtain⟨E,hE⟩:∃E:Int,(if x=0 then(-1074:Int) else(x:Int)-1075)=E:=⟨_,rfl⟩
 have hME:(x=0/\M=f/\E=-1074)\/(x≠0/\M=f+4503599627370496/\E=(x:Int)-1075):=by
  exact Qam
 have dx:M<9007199254740992:=ae
 have hO:Vz s K=mkS s M E:=by unfold Vz Z9;rw[hx,hf,if_neg ae,hM,hE]
 rw[hO];have hb:=qK M dx;exact vI s M E (-1074) 1024 (.inr ae) ae ae ae
end
section
open Go.RowKit Go.Shelf J
attribute [local go_sem] Oper.semAt_some
def oW(x:Nat):Option (Bool×Nat×Int):=EC (vC x)
theorem Zf(x:Nat)(hx:x<18446744073709551616)(fx:bO x):Iv (oW x) (-1074) 1024:=by
 unfold oW;rw[<-J7 hx fx];exact ofK_iv _ _ fx
theorem o00_iv(a b:Int):Iv GA a b:=by
 refine⟨false,0,0,rfl,cO (fP false 0),.inl rfl⟩
theorem of12(x:Nat)(hx:x<18446744073709551616)(fx:bO x)(u:World)(hT:gP u):As 78 #[.float .f64 x] u λr w'=>(∃v,r=.returned (.tuple #[.agg #[.bool (dN (oW x)),v,.int .i64 (dE (oW x))],.int .i64 0])/\Nt u.heap.size w' v (dX (oW x)))/\An u w':=XJ x ⟨hx,fx⟩ u hT
end
section
open Go.RowKit
theorem Iv.fm{o:Option (Bool×Nat×Int)}{a b:Int}(h:Iv o a b):Fm o:=by
 obtain⟨n,X,e,rfl,F,_⟩:=h;exact⟨0,_,frm_fv F 0⟩
theorem rebase{o:Option (Bool×Nat×Int)}{B x:Int}(h:Fv B o x)(hB:B<=-1048576)(D:Int)(hD:D<=0):Fv (B+D) o (x*((2^(0-D).toNat:Nat):Int)):=by
 obtain⟨n',X',e',hx,F',hz⟩:=h.ex;refine⟨n',X',e',hx,F',?_⟩;rw[<-hz];unfold zv;simp only;rw[mD,<-eD,aQ,<-aP];have:=F'.down;rw[show(e'-(B+D)).toNat=(e'-B).toNat+(0-D).toNat by omega]
end
section
open Go.RowKit J
def EK:Nat:=1048576
def EX:Nat:=1046428
def EY:Nat:=1047502
theorem exP(a:Nat):∃u:Nat,u=2^a:=⟨_,rfl⟩
noncomputable def MM:Nat:=Classical.choose (exP EK)
noncomputable def XX:Nat:=Classical.choose (exP EX)
noncomputable def YY:Nat:=Classical.choose (exP EY)
theorem M_eq:MM=2^EK:=ym (exP EK)
theorem X_eq:XX=2^EX:=ym (exP EX)
theorem Y_eq:YY=2^EY:=ym (exP EY)
theorem M_pos:0<MM:=by rw[M_eq];exact bG _
theorem Fm.sm{o:Option (Bool×Nat×Int)}(h:Fm o):o.isSome=true:=by
 obtain⟨B,x,h⟩:=h;obtain⟨n,X,e,rfl,_⟩:=h.ex;rfl
theorem Fm.val{o:Option (Bool×Nat×Int)}(h:Fm o):Fv (-1048576) o (uo o):=fvO h.re h.sm
theorem Fv.uniq{B x y:Int}{o:Option (Bool×Nat×Int)}(h1:Fv B o x)(h2:Fv B o y):x=y:=by
 obtain⟨n,X,e,ho,_,hz⟩:=h1.ex;obtain⟨n',X',e',ho',_,hz'⟩:=h2.ex;rw[ho] at ho'
 cases ho'
 exact hz.symm.trans hz'
theorem val_mul{o p:Option (Bool×Nat×Int)}(F:Fm o)(G:Fm p)(H:Fm (xm o p)):uo (xm o p)*(MM:Int)=uo o*uo p:=by
 have h1:=Fv.mul aM aM F.val G.val H.sm;have h2:=rebase H.val aM (-1048576) aM;rw[show((0:Int) - -1048576).toNat=EK from rfl,<-M_eq] at h2;exact(h1.uniq h2).symm
theorem val_add{o p:Option (Bool×Nat×Int)}(F:Fm o)(G:Fm p)(H:Fm (qa o p)):uo (qa o p)=uo o+uo p :=
 H.val.uniq (Fv.add aM F.val G.val H.sm)
theorem uq{o p:Option (Bool×Nat×Int)}(F:Fm o)(G:Fm p)(h:uo o=uo p):o=p:=by
 obtain⟨h1,h2,h3⟩:=Fv.same aM F.val G.val h;obtain⟨n,X,e,rfl,_⟩:=F.val.ex;obtain⟨m,Y,f,rfl,_⟩:=G.val.ex;have h1:n=m:=h1;have h2:X=Y:=h2;have h3:e=f:=h3;rw[h1,h2,h3]
theorem val_mk{n:Bool}{X:Nat}{e:Int}(h:Fm (mkS n X e))(he:-1048576<=e)(k:Nat)(hk:(e+1048576).toNat=k):uo (mkS n X e)=oH n*((X*2^k:Nat):Int):=by
 obtain⟨⟨n',Y,f⟩,ho⟩:=xY.1 h.sm;have:=lZ ho (-1048576) (.inr he);rw[show(e - -1048576).toNat=k by rw[<-hk];congr 1] at this;rw[<-this,ho];rfl
theorem sG(V:Int)(K:Nat):oH (decide (V<0))*((V.natAbs*K:Nat):Int)=V*(K:Int):=by
 rw[eD,<-mD];congr 1;exact Qa7
theorem Eb{V:Int}(h:Fm (ig V)):uo (ig V)=V*(XX:Int):=by
 unfold ig at h |-;rw[val_mk h aM EX rfl,<-X_eq,sG]
theorem val_fo{V:Int}(h:Fm (EC V)):uo (EC V)=V*(YY:Int):=by
 unfold EC at h |-;rw[val_mk h aM EY rfl,<-Y_eq,sG]
theorem GH(V:Int)(m:Nat)(hm:m<=100000)(hV:V.natAbs<2^m):Iv (ig V) (-2148) ((m:Int)-2148):=by
 unfold ig;refine vI _ _ _ _ _ (.inr ⟨ae,?_⟩) ae ae ae;have:=eY hV;omega
theorem oG(V:Int)(m:Nat)(hm:m<=100000)(hV:V.natAbs<2^m):Fm (ig V):=(GH V m hm hV).fm
theorem oW_fm(x:Nat)(hx:x<18446744073709551616)(fx:bO x):Fm (oW x):=(Zf x hx fx).fm
theorem add_ex{V U:Int}(m:Nat)(hm:m<=90000)(hV:V.natAbs<2^m)(hU:U.natAbs<2^m):qa (ig V) (ig U)=ig (V+U):=by
 have hF:=((GH V m ae hV).add (GH U m ae hU) ae ae ae).fm;have hs:(V+U).natAbs<2^(m+1):=by rw[dS];omega
 have hG:=oG (V+U) (m+1) ae hs;refine uq hF hG ?_;rw[val_add (oG V m ae hV) (oG U m ae hU) hF,Eb hG,Eb (oG V m ae hV),Eb (oG U m ae hU),Int.add_mul]
theorem qU:ig 0=GA:=fP _ _
def Bd(m:Nat)(V:Int):Prop:=V.natAbs<=2^m
theorem Bd.mono{m k:Nat}{V:Int}(h:Bd m V)(hk:m<=k):Bd k V:=dB h (fD aM hk)
theorem Bd.lt{m:Nat}{V:Int}(h:Bd m V):V.natAbs<2^(m+1):=by
 unfold Bd at h;rw[dS];have:=bG m;omega
theorem Bd.mul{a b:Nat}{V W:Int}(h:Bd a V)(k:Bd b W):Bd (a+b) (V*W):=by
 unfold Bd at *;rw[Int.natAbs_mul,aP];exact kF h k
theorem Bd.add{m:Nat}{V W:Int}(h:Bd m V)(k:Bd m W):Bd (m+1) (V+W):=by
 unfold Bd at *;rw[dS];omega
theorem Bd.neg{m:Nat}{V:Int}(h:Bd m V):Bd m (-V):=by
 unfold Bd at *;rw[Int.natAbs_neg];exact h
theorem Bd.sub{m:Nat}{V W:Int}(h:Bd m V)(k:Bd m W):Bd (m+1) (V-W):=by
 rw[Int.sub_eq_add_neg];exact h.add k.neg
def gV(u:Nat)(V:Int):Option (Bool×Nat×Int):=mkS (decide (V<0)) V.natAbs (-(u:Int))
theorem Py{u m:Nat}{V:Int}(hu:u<=100000)(hm:m<=99999)(hV:Bd m V):Iv (gV u V) (-(u:Int)) (((m+1:Nat):Int)-(u:Int)):=by
 unfold gV;refine vI _ _ _ _ _ (.inr ⟨ae,?_⟩) ae ae ae;have:=eY hV.lt;omega
theorem mR{u m:Nat}{V:Int}(hu:u<=100000)(hm:m<=99999)(hV:Bd m V):Fm (gV u V):=(Py hu hm hV).fm
theorem zD{u:Nat}{V:Int}(h:Fm (gV u V))(hu:u<=1000000)(k:Nat)(hk:k+u=EK):uo (gV u V)=V*((2^k:Nat):Int):=by
 unfold gV at h |-;rw[val_mk h ae k (by unfold EK at hk;omega),sG]
theorem exK(u:Nat)(hu:u<=1000000):∃k,k+u=EK:=⟨EK-u,by unfold EK;omega⟩
theorem TR{u v a b:Nat}{V W:Int}(hu:u<=50000)(hv:v<=50000)(ha:a<=40000)(hb:b<=40000)(h1:Bd a V)(h2:Bd b W):xm (gV u V) (gV v W)=gV (u+v) (V*W):=by
 have F:=Py (u:=u) ae ae h1;have G:=Py (u:=v) ae ae h2;have hF:=(F.mul G ae ae ae).fm;have hG:=mR (u:=u+v) ae ae (h1.mul h2);refine uq hF hG ?_;obtain⟨k1,e1⟩:=exK u ae;obtain⟨k2,e2⟩:=exK v ae;obtain⟨k3,e3⟩:=exK (u+v) ae;have h:=val_mul F.fm G.fm hF;rw[zD F.fm ae k1 e1,zD G.fm ae k2 e2] at h;rw[zD hG ae k3 e3];have hM:=M_pos;refine Int.eq_of_mul_eq_mul_right (a:=(MM:Int)) ae (h.trans ?_)
 have e:((2^k1:Nat):Int)*((2^k2:Nat):Int)=((2^k3:Nat):Int)*(MM:Int):=by
  rw[<-eD,<-eD,M_eq,<-aP,<-aP,show k1+k2=k3+EK by omega]
 rw[mD (V*W),<-e,mD,mD,Int.mul_left_comm W]
theorem TS{u m:Nat}{V W:Int}(hu:u<=100000)(hm:m<=90000)(h1:Bd m V)(h2:Bd m W):qa (gV u V) (gV u W)=gV u (V+W):=by
 have F:=Py (u:=u) ae ae h1;have G:=Py (u:=u) ae ae h2;have hF:=(F.add G ae ae ae).fm;have hG:=mR (u:=u) ae ae (h1.add h2);refine uq hF hG ?_;obtain⟨k1,e1⟩:=exK u ae;rw[val_add F.fm G.fm hF,zD F.fm ae k1 e1,zD G.fm ae k1 e1,zD hG ae k1 e1,Int.add_mul]
theorem g_neg(u:Nat)(W:Int):negO (gV u W)=gV u (-W):=by
 unfold gV;rw[TM,Int.natAbs_neg]
 by_cases h:W=0
 . subst h;rw[Int.natAbs_zero,fP,fP]
 . congr 1
   by_cases h1:W<0
   . rw[decide_eq_true h1,decide_eq_false ae];rfl
   . rw[decide_eq_false h1,decide_eq_true ae];rfl
theorem g_sub{u m:Nat}{V W:Int}(hu:u<=100000)(hm:m<=90000)(h1:Bd m V)(h2:Bd m W):qa (gV u V) (mkS (!dN (gV u W)) (dX (gV u W)) (dE (gV u W)))=gV u (V-W):=by
 rw[Gy (mR (u:=u) ae ae h2).sm,g_neg,TS hu hm h1 h2.neg,<-Int.sub_eq_add_neg]
theorem TT{u m:Nat}{V:Int}(hu:u<=100000)(hm:m<=90000)(h:Bd m V):(dX (gV u V)=0↔V=0)/\(dN (gV u V)=true↔V<0):=by
 have F:=mR (u:=u) hu ae h;obtain⟨k,e⟩:=exK u ae;have hv:=F.val;rw[zD F ae k e] at hv;have hp:(0:Int)<((2^k:Nat):Int):=by have:=bG k;omega
 refine⟨hv.TP.trans ?_,hv.XG.trans ?_⟩
 . constructor
   . intro q;rcases Int.mul_eq_zero.1 q with q|q
     . exact q
     . omega
   . rintro rfl;rw[Int.zero_mul]
 . constructor
   . intro q;rcases Int.lt_or_le V 0 with r|r
     . exact r
     . have:=Int.mul_nonneg r (xZ hp);omega
   . intro q;exact Int.mul_neg_of_neg_of_pos q hp
attribute [irreducible] Bd
end
section
open Go.RowKit
def GI(k:Nat):Nat:=if k=5 then 1 else if k=3 then 2 else if k=4 then 3 else if k=1 then 4 else if k=2 then 5 else 0
theorem Pz(n u d m p a:Int)(k:Nat)(hk:k<=5)(hs:(Sp.mk n u d m p a).ok)(w:World) :
 As 161 #[.agg #[.int .i64 n,.int .i64 u,.int .i64 d,.int .i64 m,.int .i64 p,.int .i64 a],.int .i64 (k:Nat),.int .i64 1] w λr w'=>r=.returned ((Sp.mk n u d m p a).cnt (GI k) 1).agg/\An w w':=by
 obtain⟨h0,h1,h2,h3,h4,h5⟩:=hs;simp only at h0 h1 h2 h3 h4 h5;have hne:w.heap.size≠w.heap.size+1:=ae
 have hc:k=0\/k=1\/k=2\/k=3\/k=4\/k=5:=ae
 clear hk;rcases hc with rfl|rfl|rfl|rfl|rfl|rfl
 . go_enter Tryz.func161,Tryz.ntmps161;go_wp2;exact aH (v:=.agg #[.int .i64 n,.int .i64 u,.int .i64 d,.int .i64 m,.int .i64 p,.int .i64 (a+1)]) (by simp[results,Tryz.results161,go_sem]) rfl ⟨by first | rfl | simp[Sp.cnt,GI,Sp.agg],(aC _ _).trans ((aC _ _).mono aN)⟩
 . go_enter Tryz.func161,Tryz.ntmps161;go_wp2;exact aH (v:=.agg #[.int .i64 n,.int .i64 u,.int .i64 d,.int .i64 (m+1),.int .i64 p,.int .i64 (a+1)]) (by simp[results,Tryz.results161,go_sem]) rfl ⟨by first | rfl | simp[Sp.cnt,GI,Sp.agg],(aC _ _).trans ((aC _ _).mono aN)⟩
 . go_enter Tryz.func161,Tryz.ntmps161;go_wp2;exact aH (v:=.agg #[.int .i64 n,.int .i64 u,.int .i64 d,.int .i64 m,.int .i64 (p+1),.int .i64 (a+1)]) (by simp[results,Tryz.results161,go_sem]) rfl ⟨by first | rfl | simp[Sp.cnt,GI,Sp.agg],(aC _ _).trans ((aC _ _).mono aN)⟩
 . go_enter Tryz.func161,Tryz.ntmps161;go_wp2;exact aH (v:=.agg #[.int .i64 n,.int .i64 (u+1),.int .i64 d,.int .i64 m,.int .i64 p,.int .i64 (a+1)]) (by simp[results,Tryz.results161,go_sem]) rfl ⟨by first | rfl | simp[Sp.cnt,GI,Sp.agg],(aC _ _).trans ((aC _ _).mono aN)⟩
 . go_enter Tryz.func161,Tryz.ntmps161;go_wp2;exact aH (v:=.agg #[.int .i64 n,.int .i64 u,.int .i64 (d+1),.int .i64 m,.int .i64 p,.int .i64 (a+1)]) (by simp[results,Tryz.results161,go_sem]) rfl ⟨by first | rfl | simp[Sp.cnt,GI,Sp.agg],(aC _ _).trans ((aC _ _).mono aN)⟩
 . go_enter Tryz.func161,Tryz.ntmps161;go_wp2;exact aH (v:=.agg #[.int .i64 (n+1),.int .i64 u,.int .i64 d,.int .i64 m,.int .i64 p,.int .i64 (a+1)]) (by simp[results,Tryz.results161,go_sem]) rfl ⟨by first | rfl | simp[Sp.cnt,GI,Sp.agg],(aC _ _).trans ((aC _ _).mono aN)⟩
end
section
open Go.RowKit
open Go.Proofs.YtjppdacikihpdaaGreatDoor.B (aW aJ bw)
attribute [local go_sem] aW aJ
theorem jV(a:Int)(w:World):Ax 169 #[.int .i64 a] w (.bool (ct a)):=by
 unfold ct
 by_cases h:0<=a
 . have hd:decide (0<=a)=true:=decide_eq_true h;rw[hd];go_enter Tryz.func169,Tryz.ntmps169;go_wp2;exact z9
 . have hd:decide (0<=a)=false:=decide_eq_false h;rw[hd];go_enter Tryz.func169,Tryz.ntmps169;go_wp2;exact z9
def zrR(neg:Bool):Nat:=if neg then 9223372036854775808 else 0
theorem GJ(neg:Bool)(w:World):Ax 118 #[.bool neg] w (.float .f64 (zrR neg)):=by
 cases neg <;>
 . go_enter Tryz.func118,Tryz.ntmps118;go_wp2;exact Jx
def kd(b:Nat):Nat :=
 if 9218868437227405312<b%9223372036854775808 then 5
 else if b%9223372036854775808=9218868437227405312 then(if b/9223372036854775808=1 then 4 else 3)
 else if b%9223372036854775808=0 then(if b/9223372036854775808=1 then 1 else 2)
 else 0
def kp(k:Nat):Nat:=if k=5 then 0 else if k=3 then 1 else if k=4 then 2 else if k=1 then 3 else if k=2 then 4 else 5
theorem zF(b:Nat)(hb:b<18446744073709551616)(w:World):Ax 162 #[.float .f64 b] w (.int .i64 (kd b:Nat)):=by
 unfold kd;obtain⟨z,hz⟩:∃z,b%9223372036854775808=z:=⟨_,rfl⟩;obtain⟨s,hs⟩:∃s,b/9223372036854775808=s:=⟨_,rfl⟩;have hz2:(b:Int)%9223372036854775808=(z:Int):=ae
 have hs2:(b:Int)/9223372036854775808=(s:Int):=ae
 have hz3:(b:Int).tmod 9223372036854775808=(z:Int):=by rw[Int.tmod_eq_emod_of_nonneg ae];exact hz2
 have hzl:z<9223372036854775808:=ae
 have hsl:s<2:=ae
 rw[hz,hs];clear hz hs
 by_cases h1:9218868437227405312<z
 . rw[if_pos h1];have h1':(9218868437227405312:Int)<(z:Int):=ae
   go_enter Tryz.func162,Tryz.ntmps162;go_wp2;exact Jx
 . rw[if_neg h1];have h1':decide ((9218868437227405312:Int)<(z:Int))=false:=decide_eq_false ae;have hs01:s=0\/s=1:=ae
   by_cases h2:z=9218868437227405312
   . subst h2;rcases hs01 with rfl|rfl
     . go_enter Tryz.func162,Tryz.ntmps162;go_wp2;exact Jx
     . go_enter Tryz.func162,Tryz.ntmps162;go_wp2;exact Jx
   . rw[if_neg h2];have h2':((z:Int)==9218868437227405312)=false:=by rw[beq_eq_false_iff_ne];omega
     by_cases h3:z=0
     . subst h3;rcases hs01 with rfl|rfl
       . go_enter Tryz.func162,Tryz.ntmps162;go_wp2;exact Jx
       . go_enter Tryz.func162,Tryz.ntmps162;go_wp2;exact Jx
     . rw[if_neg h3];have h3':((z:Int)==0)=false:=by rw[beq_eq_false_iff_ne];omega
       clear h1 h2 h3 hz3;rcases hs01 with rfl|rfl
       . go_enter Tryz.func162,Tryz.ntmps162;go_wp2;exact Jx
       . go_enter Tryz.func162,Tryz.ntmps162;go_wp2;exact Jx
theorem kd_bw(s:Bool)(e f:Nat)(he:e<2048)(hf:f<4503599627370496):kd (bw s e f)=if e=2047 then(if f=0 then(if s then 4 else 3) else 5) else if e=0/\f=0 then(if s then 1 else 2) else 0:=by
 unfold kd bw;have h1:(s.toNat*9223372036854775808+e*4503599627370496+f)%9223372036854775808=e*4503599627370496+f:=by cases s <;> simp only[gD,gF] <;> omega
 have h2:(s.toNat*9223372036854775808+e*4503599627370496+f)/9223372036854775808=s.toNat:=by cases s <;> simp only[gD,gF] <;> omega
 rw[h1,h2]
 by_cases he2:e=2047
 . subst he2;rw[if_pos rfl]
   by_cases hf0:f=0
   . subst hf0;cases s <;> simp
   . rw[if_pos ae,if_neg hf0]
 . rw[if_neg he2,if_neg ae,if_neg ae]
   by_cases h0:e=0/\f=0
   . obtain⟨rfl,rfl⟩:=h0;cases s <;> simp
   . rw[if_neg ae,if_neg h0]
theorem zG(neg:Bool)(a b:Int)(w:World):Ax 140 #[.bool neg,.int .i64 a,.int .i64 b] w (.int .i64 (if neg then a else b)):=by
 cases neg <;>
 . go_enter Tryz.func140,Tryz.ntmps140;go_wp2;exact Jx
theorem j9{P:Prop}(h:P:=by
 go_enter Tryz.func86,Tryz.ntmps86;go_wp2_with fail;refine(H.o _).mono ?_;rintro r w1 ⟨rfl,hb1⟩;have HB:=ak hb1;have hz:=hb1.size;clear hb1;go_wp2;go_ret;exact⟨rfl,(HB.o.alloc hz _)⟩):P:=h
theorem yp{P:Prop}(h:P:=by
 rw[hk];clear hc hg hx hk;go_enter Tryz.func86,Tryz.ntmps86;go_wp2_with fail;refine(H.o _).mono ?_;rintro r w1 ⟨rfl,hb1⟩;have HB:=ak hb1;have hz:=hb1.size;clear hb1;go_wp2_with fail;refine(HS.o _).mono ?_;rintro r w2 ⟨rfl,rfl⟩;go_wp2;go_ret;exact⟨rfl,(HB.o.alloc hz _)⟩):P:=h
theorem TU(b:Nat)(hb:b<18446744073709551616)(w:World):At 86 #[.float .f64 b] w (.int .i64 (kp (kd b):Nat)):=by
 obtain⟨s,e,f,he,hf,rfl⟩:=B.bw_of b hb;rw[kd_bw s e f he hf];have H:=hid (B.nz s e f he hf);obtain⟨x1,hx1⟩:∃x,B.xp e=x:=⟨_,rfl⟩;obtain⟨x2,hx2⟩:∃x,B.fr e f=x:=⟨_,rfl⟩;rw[hx1,hx2] at H;clear hx1 hx2 hb
 by_cases he2:e=2047
 . subst he2
   by_cases hf0:f=0
   . subst hf0;have hc:B.cls 2047 0=3:=by unfold B.cls;rw[if_pos rfl,if_pos rfl]
     have hg:B.ng s 2047 0=s:=by unfold B.ng;rw[if_neg aN]
     rw[hc,hg] at H;rw[if_pos rfl,if_pos rfl];have HS:=hid (zG s 2 1);obtain⟨x,hx⟩:∃x:Int,(if s then 2 else 1)=x:=⟨_,rfl⟩;rw[hx] at HS;have hk:((kp (if s then 4 else 3):Nat):Int)=x:=by cases s <;> (subst hx;rfl)
     exact yp
   . have hc:B.cls 2047 f=4:=by unfold B.cls;rw[if_pos rfl,if_neg hf0]
     rw[hc] at H;rw[if_pos rfl,if_neg hf0];obtain⟨x3,hx3⟩:∃x,B.ng s 2047 f=x:=⟨_,rfl⟩;rw[hx3] at H;clear hc hx3;exact j9
 . rw[if_neg he2];have hg:B.ng s e f=s:=by unfold B.ng;rw[if_neg (λh=>he2 h.1)]
   rw[hg] at H
   by_cases h0:e=0/\f=0
   . obtain⟨rfl,rfl⟩:=h0;have hc:B.cls 0 0=0:=by unfold B.cls;rw[if_neg ae,if_pos rfl,if_pos rfl]
     rw[hc] at H;rw[if_pos ⟨rfl,rfl⟩];have HS:=hid (zG s 3 4);obtain⟨x,hx⟩:∃x:Int,(if s then 3 else 4)=x:=⟨_,rfl⟩;rw[hx] at HS;have hk:((kp (if s then 1 else 2):Nat):Int)=x:=by cases s <;> (subst hx;rfl)
     exact yp
   . rw[if_neg h0]
     obtain⟨c,hc,h1,h2,h3⟩:∃c:Int,B.cls e f=c/\(c==4)=false/\(c==3)=false/\(c==0)=false:=by
      unfold B.cls;rw[if_neg he2]
      by_cases he0:e=0
      . rw[if_pos he0,if_neg (λh=>h0 ⟨he0,h⟩)];exact⟨_,rfl,aM,aM,aM⟩
      . rw[if_neg he0];exact⟨_,rfl,aM,aM,aM⟩
     rw[hc] at H;clear hc hg;exact j9
end
section
open Go.RowKit J
theorem Mj(b:Nat):kd b<=5:=by unfold kd;(repeat' split) <;> omega
def s6(l:List Nat):Sp:=l.foldl (λs x=>s.cnt (GI (kd x)) 1) ⟨0,0,0,0,0,0⟩
theorem Bl.vL{w:World}{g T:Nat}{a b c d e f v0 v1 v2 v3 v4 v5:Value}(h:Bl w g T [a,b,c,d,e,f]):Bl ((((((w.setCell ⟨g,0,none⟩ v0).setCell ⟨g,1,none⟩ v1).setCell ⟨g,2,none⟩ v2).setCell ⟨g,3,none⟩ v3).setCell ⟨g,4,none⟩ v4).setCell ⟨g,5,none⟩ v5) g T [v0,v1,v2,v3,v4,v5] :=
 (((((h.set 0 v0).set 1 v1).set 2 v2).set 3 v3).set 4 v4).set 5 v5
theorem But.vL{a w:World}{g:Nat}(h:But g a w)(u0 u1 u2 u3 u4 u5:Value):But g a ((((((w.setCell ⟨g,0,none⟩ u0).setCell ⟨g,1,none⟩ u1).setCell ⟨g,2,none⟩ u2).setCell ⟨g,3,none⟩ u3).setCell ⟨g,4,none⟩ u4).setCell ⟨g,5,none⟩ u5) :=
 (((((h.set 0 u0).set 1 u1).set 2 u2).set 3 u3).set 4 u4).set 5 u5
end
section
open Go.RowKit
theorem rof8(x:Nat)(hx:Wd x/\bO x)(w:World) :
 As 66 #[.float .f64 x] w λr w'=>(∃v,r=.returned (.tuple #[.agg #[.bool (dN (EC (vC x))),v,.int .i64 (dE (EC (vC x)))],.int .i64 0])/\Nt w.heap.size w' v (dX (EC (vC x))))/\An w w':=by
 obtain⟨h1,h2,h3,_⟩:=Mf (dH x) (bB x) (fU hx.2);have:=Sc (dH x) (bB x/4503599627370496) (bB x%4503599627370496) h2 h3 w;rw[<-h1,<-Za x hx.1] at this;refine this.mono ?_;rintro r w' ⟨⟨v,rfl,hN⟩,hb⟩;have e:=J7 hx.1 hx.2;unfold Vz at e;rw[e] at hN |-;have he:Y6 (bB x/4503599627370496)=0:=by unfold Y6;rw[if_neg (by have:=hx.2;omega)]
 rw[he];exact⟨⟨v,rfl,hN⟩,hb⟩
section
attribute [local go_sem] B.aW B.aJ
end
end
section
open Go.RowKit J
theorem Fm.two{o:Option (Bool×Nat×Int)}(h:Fm o):(ws (dX o)).length<=2000000:=dB h.len aM
theorem TV{U:World}{a b:Option Addr}{c d:Nat}{o p q:Option (Bool×Nat×Int)}(F:Fm o)(G:Fm p)(N1:Nt 0 U (.slice a (ws (dX o)).length c) (dX o))(N2:Nt 0 U (.slice b (ws (dX p)).length d) (dX p))(h:xm o p=q)(H:Fm q) :
 As 68 #[.agg #[.bool (dN o),.slice a (ws (dX o)).length c,.int .i64 (dE o)],.agg #[.bool (dN p),.slice b (ws (dX p)).length d,.int .i64 (dE p)]] U λr w'=>(∃v,r=.returned (.tuple #[.agg #[.bool (dN q),v,.int .i64 (dE q)],.int .i64 0])/\Nt U.heap.size w' v (dX q))/\An U w':=by
 have:=OZ (F.a12 N1) (G.a12 N2) F.two G.two (dN o) (dN p) (dE o) (dE p) F.sD.1 F.sD.2 G.sD.1 G.sD.2;rw[aB,aB,F.re,G.re,h] at this;unfold dm at this;rw[H.er] at this;exact this
theorem TW{U:World}{a b:Option Addr}{c d:Nat}{o p q:Option (Bool×Nat×Int)}(F:Fm o)(G:Fm p)(N1:Nt 0 U (.slice a (ws (dX o)).length c) (dX o))(N2:Nt 0 U (.slice b (ws (dX p)).length d) (dX p))(h:qa o p=q)(H:Fm q) :
 As 70 #[.agg #[.bool (dN o),.slice a (ws (dX o)).length c,.int .i64 (dE o)],.agg #[.bool (dN p),.slice b (ws (dX p)).length d,.int .i64 (dE p)]] U λr w'=>(∃v,r=.returned (.tuple #[.agg #[.bool (dN q),v,.int .i64 (dE q)],.int .i64 0])/\Nt U.heap.size w' v (dX q))/\An U w':=by
 have:=BC (F.a12 N1) (G.a12 N2) F.two G.two (dN o) (dN p) (dE o) (dE p) F.sD.1 F.sD.2 G.sD.1 G.sD.2;rw[aB,aB,F.re,G.re,h] at this;unfold dm at this;rw[H.er] at this;exact this
theorem TY(x:Nat)(hx:x<18446744073709551616)(fx:bO x)(w:World) :
 As 66 #[.float .f64 x] w λr w'=>(∃v,r=.returned (.tuple #[.agg #[.bool (dN (oW x)),v,.int .i64 (dE (oW x))],.int .i64 0])/\Nt w.heap.size w' v (dX (oW x)))/\An w w':=rof8 x ⟨hx,fx⟩ w
end
section
open Go Go.RowKit J
theorem row14d:∃d:TypeDesc,Tryz.prog.underlying 79=some d/\d.isRow=true:=by
 have h:(Tryz.prog.underlying 79).any (·.isRow)=true:=by kernel_rfl
 cases hd:Tryz.prog.underlying 79 with
 | none=>rw[hd] at h;cases h
 | some d=>rw[hd] at h;exact⟨d,rfl,h⟩
theorem XL:(Tryz.prog.info? 79).map (·.size)=some 3:=by kernel_rfl
theorem T9{fn:Func}{p:Tmp}(h:fn.results=#[.cell p 79])(tmps:Array Value)(W:World)(g:Nat)(n:Bool)(v:Value)(e:Int)(hp:tmps.getD p undef=.pointer (some ⟨g,0,none⟩))(hD:Dk W g n v e) :
 (results fn tmps).run Tryz.prog W=.ok (.agg #[.bool n,v,.int .i64 e]) W:=by
 obtain⟨d,h1,h2⟩:=row14d
 cases d <;> first
  | exact results_cell_row (P:=Tryz.prog) h tmps W g 79 _ _ _ hp hD h1 rfl (by rw[XL];rfl)
  | exact absurd h2 (by simp[TypeDesc.isRow])
theorem end14 {fn:Func}{p:Tmp}(hfn:fn.results=#[.cell p 79]) {w base:World}{tmps:Array Value}{o q:Option (Bool×Nat×Int)}{a:Option Addr}{c g:Nat}(h2:tmps.getD p undef=.pointer (some ⟨g,0,none⟩))
 (hL:Lo base g q) (hbw:An w base) (hg:w.heap.size<=g) (hN:Nt 0 base (.slice a (ws (dX o)).length c) (dX o)) :
 bodyPost Tryz.prog fn (λr w'=>Ju 0 w' r o/\An w w') .ret ⟨tmps,[]⟩
  (((base.setCell ⟨g,0,none⟩ (.bool (dN o))).setCell ⟨g,1,none⟩ (.slice a (ws (dX o)).length c)).setCell ⟨g,2,none⟩ (.int .i64 (dE o))):=by
 obtain⟨a0,c0,hD,hM⟩:=hL;exact aH (v:=.agg #[.bool (dN o),.slice a (ws (dX o)).length c,.int .i64 (dE o)]) (T9 hfn _ _ g _ _ _ h2 (hD.set _ _ _)) rfl ⟨⟨_,rfl,hN.zC hD _ _ _⟩,jU hbw hbw.size hg _ _ _⟩
end
section
open Go.RowKit
theorem XM {fn:Func}{p:Tmp}(hfn:fn.results=#[.cell p 79]) {w base:World}{tmps:Array Value}{o:Option (Bool×Nat×Int)}{v x y z:Value}{lo:Nat}(h2:tmps.getD p undef=.pointer (some ⟨w.heap.size,0,none⟩))
 (hZ:Bl base w.heap.size 79 [x,y,z]) (hbw:An w base) (hN:Nt lo base v (dX o)) (hlo:w.heap.size<lo) :
 bodyPost Tryz.prog fn (λr w'=>∃v,r=.returned (.agg #[.bool (dN o),v,.int .i64 (dE o)])/\Nt w.heap.size w' v (dX o)/\An w w') .ret ⟨tmps,[]⟩
  (((base.setCell ⟨w.heap.size,0,none⟩ (.bool (dN o))).setCell ⟨w.heap.size,1,none⟩ v).setCell ⟨w.heap.size,2,none⟩ (.int .i64 (dE o))):=by
 have q:Bl (((base.setCell ⟨w.heap.size,0,none⟩ (.bool (dN o))).setCell ⟨w.heap.size,1,none⟩ v).setCell ⟨w.heap.size,2,none⟩ (.int .i64 (dE o))) w.heap.size 79 [.bool (dN o),v,.int .i64 (dE o)]:=((hZ.set 0 _).set 1 _).set 2 _;have aI:But w.heap.size base (((base.setCell ⟨w.heap.size,0,none⟩ (.bool (dN o))).setCell ⟨w.heap.size,1,none⟩ v).setCell ⟨w.heap.size,2,none⟩ (.int .i64 (dE o))):=(((But.refl _ _).set 0 _).set 1 _).set 2 _;refine aH (v:=.agg #[.bool (dN o),v,.int .i64 (dE o)]) (rZ hfn _ _ w.heap.size [.bool (dN o),v,.int .i64 (dE o)] h2 q Tryz.yV (by rw[Tryz.ve];rfl)) rfl ?_;exact⟨v,rfl,(hN.RP aI hlo).mono ae,But.below hbw aI hbw.size (aA _)⟩
theorem HB13:∃k:Nat,k=4238/\HB=2^k:=⟨4238,rfl,yU 4238 rfl⟩
theorem BO{xs:List Nat}(hW:jH xs)(hl:xs.length<=65536):∃k:Nat,k=4238/\(vS xs).natAbs<2^k:=by
 obtain⟨k,hk,e⟩:=HB13;refine⟨k,hk,?_⟩;rw[<-e];have h1:=qd xs hW xs.length (aA _);rw[List.take_length] at h1;have h3:xs.length*QB<=65536*QB:=dL _ hl;have h4:=L8;have h5:=DC;omega
theorem Ua{xs:List Nat}(hW:jH xs)(hl:xs.length<=65536):Fm (ig (vS xs)):=by
 obtain⟨k,hk,h⟩:=BO hW hl;exact oG _ k ae h
theorem XN(xs:List Nat)(a:Option Addr)(n c:Nat)(w:World)(hn:n=xs.length)(hF:Fs w.heap.size w a xs)(hW:jH xs)(hT:gP w)(hl:n<=65536) :
 As 77 #[.slice a n c] w λr w'=>∃v,r=.returned (.agg #[.bool (dN (ig (vS xs))),v,.int .i64 (dE (ig (vS xs)))])/\Nt w.heap.size w' v (dX (ig (vS xs)))/\An w w':=by
 have HX:=gy hn hF hW hT hl;obtain⟨o,ho⟩:=ah (ig (vS xs));rw[<-ho];have HO:=ak ho;clear hn hF hW hT ho;obtain⟨W1,hW1⟩:=ah (w.alloc (.cells zD3 79))
 have H1:Aside (An w W1/\Bl W1 w.heap.size 79 [.bool false,.slice none 0 0,.int .i64 0]/\W1.heap.size=w.heap.size+1):=by
  subst hW1;exact⟨aC _ _,Bl.new _ 79 [_,_,_],aN⟩
 go_enter Tryz.func77,Tryz.ntmps77;go_wp2_with fail;rw[<-hW1];clear hW1;refine(New7 W1).mono ?_;rintro r w2 ⟨rfl,hA,hb2⟩;obtain⟨g,hg⟩:=ah (W1.heap.size);rw[<-hg] at hA |-
 have P2:Aside (Bl w2 w.heap.size 79 [.bool false,.slice none 0 0,.int .i64 0]/\An w w2/\w.heap.size<g/\ry w2 g 0 ⟨0,0,0,0,0,0⟩) :=
  ⟨H1.o.2.1.below hb2 (by have:=H1.o.r2;omega),H1.o.1.trans (hb2.mono (by have:=H1.o.r2;omega)),by have:=H1.o.r2;omega,hA⟩
 clear hb2 hA hg H1;go_wp2
 go_loopg [9] n (λgk i wr=>∃k:Nat,gk+k=n/\i=.int .i64 (k:Nat)/\Aside (ry wr g (vS (xs.take k)) (sS (xs.take k))/\Bl wr w.heap.size 79 [.bool false,.slice none 0 0,.int .i64 0]/\An w wr))
 case atStart=>exact⟨0,ae,aN,by simpa [vS,sS] using P2.o.r3,P2.o.1,P2.o.2.1⟩
 case round =>
  obtain⟨k,jo,rfl,HA⟩:=hrel
  by_cases hk:k<n
  . obtain⟨b,off,rfl,hc⟩:=HX.o.2.1.at HA.o.r2 k (by rw[<-HX.o.1];exact hk);obtain⟨x,hx⟩:=ah (xs.getD k 0);rw[<-hx] at hc
    have C:Hid (As 124 #[.pointer (some ⟨g,0,none⟩),.float .f64 x] wr (Did g wr (0,vS (xs.take (k+1)),sS (xs.take (k+1))))):=by
     have hk2:k<xs.length:=by rw[<-HX.o.1];exact hk
     obtain⟨p1,p2⟩:=JI xs k ae;obtain⟨v1,v2⟩:=qd xs HX.o.r2.1 k ae;have vM:x<18446744073709551616:=by rw[hx];exact HX.o.r2.1.get k
     have hsm:=zn x 4607182418800017408 vM aM;have hl:=HX.o.r4;have hkq:k*QB<=65536*QB:=dL _ ae;have hQ:=L8;have hqp:=DC;have C:=Add7 g (vS (xs.take k)) (sS (xs.take k)) x wr HA.o.1 (p1.ok ae) vM;rw[put_ok _ _ _ _ ae ae ae] at C;rw[DF xs k hk2,DI xs k hk2,<-hx];exact C
    have hkb:k<4611686018427387904:=by have:=HX.o.r4;omega
    clear hx;go_wp2_with fail;refine(C.o).mono ?_;rintro r w3 ⟨rfl,hA3,aI⟩;have H3:=gp hA3 (HA.o.2.1.but aI (by have:=P2.o.r2.1;omega)) (But.below HA.o.r2 aI HA.o.r2.size (by have:=P2.o.r2.1;omega));clear hA3 aI C;go_wp2;go_roundg (gk-1)
    case measure=>omega
    case rel=>exact⟨k+1,ae,by first | rfl | simp,H3.o⟩
  . obtain rfl:n=k:=ae
    have hd:decide ((n:Int)<n)=false:=by simp
    have C:Hid (As 125 #[.pointer (some ⟨g,0,none⟩)] wr λr w'=>∃v,r=.returned (.agg #[.bool (dN o),v,.int .i64 (dE o)])/\Nt wr.heap.size w' v (dX o)/\An wr w'):=by
     have e:xs.take n=xs:=by rw[eF];rw[<-HX.o.1];omega
     have hA:=HA.o.1;rw[e] at hA;rw[HO.o];exact Z4 g _ _ wr hA (HX.o.r3.1.belows HA.o.r2)
    have HL:=ak (HA.o.2.1.lt);go_wp2_with fail;refine(C.o).mono ?_;rintro r w3 ⟨v,rfl,hN,hb3⟩;obtain⟨a9,c9,rfl,_⟩:=Lo.shape (q:=o) (by rw[HO.o];exact Ua HX.o.r2.1 (by rw[<-HX.o.1];exact HX.o.r4)) hN;have B3:=gp (HA.o.2.1.below hb3 HL.o) (HA.o.r2.trans (hb3.mono HA.o.r2.size)) hN;have z0:=B3.o.1.cell 0 _ rfl;have z1:=B3.o.1.cell 1 _ rfl;have z2:=B3.o.1.cell 2 _ rfl;have f0:=B3.o.1.frozen 0;have f1:=B3.o.1.frozen 1;have f2:=B3.o.1.frozen 2;clear hb3 C hN;go_wp2;refine XM Tryz.results77 ?_ B3.o.1 B3.o.2.1 B3.o.r2 (HL.o);rfl
end
section
open Go.RowKit J
theorem z7{P:Prop}(h:P:=by
 have a1:x*S*S'=x*S'*S:=by rw[aQ,cK S,<-aQ]
 have t1:x*S<V↔x*S*S'<V*S':=(kI hS').symm;have t2:x*S'<V'↔x*S'*S<V'*S:=(kI hS).symm;have t3:V<x*S↔V*S'<x*S*S':=(kI hS').symm;have t4:V'<x*S'↔V'*S<x*S'*S:=(kI hS).symm;rw[t1,t2,t3,t4,a1,e];refine⟨Iff.rfl,?_,Iff.rfl⟩;rw[a1,e] at t1;rw[a1,e] at t3;omega):P:=h
theorem qi{x S V S' V':Nat}(hS:0<S)(hS':0<S')(e:V*S'=V'*S):(x*S<V↔x*S'<V')/\(x*S=V↔x*S'=V')/\(V<x*S↔V'<x*S'):=by
 exact z7
theorem kg.lies{K:Nat}{t:Bool}{m:Int}{V S:Nat}(h:kg vK 9218868437227405312 1 K t m V S):Ah K t m V S:=by
 obtain⟨h1,h2,h3,h4,h5,h6⟩:=h;simp only[mr] at h3 h4 h5 h6;refine⟨h1,h2,h3,h4,λa b=>?_,λa=>?_⟩
 . have:=h5 a b;rw[fT] at this;exact this
 . rcases h6 a with q | ⟨q,r⟩
   . exact .inl q
   . exact .inr ⟨ae,r⟩
theorem Ah.ratio{K:Nat}{t:Bool}{m:Int}{V S V' S':Nat}(h:Ah K t m V S)(hS':0<S')(e:V*S'=V'*S):Ah K t m V' S':=by
 obtain⟨h1,h2,h3,h4,h5,h6⟩:=h;have e2:(2*V)*S'=(2*V')*S:=by rw[aQ,e,aQ]
 refine⟨h1,hS',λa=>((qi h2 hS' e).2.1.1 (h3 a).symm).symm,λa=>(qi h2 hS' e).1.1 (h4 a),λa b=>?_,λa=>?_⟩
 . have:=h5 a ((qi h2 hS' e).2.2.2 b);rw[<-fT] at this |-;obtain⟨r1,r2,r3⟩:=qi (x:=vK K+vK (K+1)) h2 hS' e2;rcases this with ⟨q,r⟩|⟨q,r⟩|⟨q,r⟩
   . exact .inl ⟨q,r3.1 r⟩
   . exact .inr (.inl ⟨q,(r2.1 r.symm).symm⟩)
   . exact .inr (.inr ⟨q,r1.1 r⟩)
 . rcases h6 a with q | q
   . exact .inl ((qi h2 hS' e).2.2.1 q)
   . exact .inr q
theorem Qaf{P:Prop}(h:P:=by
 by_cases hs:V<0
 . rw[decide_eq_true hs] at hz;simp only[oH,if_true] at hz;omega
 . rw[decide_eq_false hs] at hz;simp only[oH,eX,if_false] at hz;omega):P:=h
theorem jj{P:Prop}(h:P:=by
 by_cases hs:V<0
 . rw[decide_eq_true hs] at hz |-
   cases n with
   | true=>rfl
   | false=>simp only[oH,if_true,eX,if_false] at hz;omega
 . rw[decide_eq_false hs] at hz |-
   cases n with
   | false=>rfl
   | true=>simp only[oH,if_true,eX,if_false] at hz;omega):P:=h
theorem nZ{V:Int}(hV:V≠0)(k:Nat)(hk:k<=90000)(hb:V.natAbs<2^k):∃X e,ig V=some (decide (V<0),X,e)/\X%2=1/\-2148<=e/\e<=100000/\X*2^(e+2148).toNat=V.natAbs/\bl X<=262144/\wR (decide (V<0)) X e:=by
 obtain⟨n,X,e,ho,F,hx⟩:=GH V k ae hb;have hm:mkS (decide (V<0)) V.natAbs (-2148)=some (n,X,e):=ho;have hz:=lZ hm (-2148) (.inr ae);unfold zv at hz;simp only at hz;rw[show((-2148:Int) - -2148).toNat=0 by decide,fO,eQ] at hz
 have hX0:X≠0:=by
  rintro rfl;simp[oH] at hz
  split at hz <;> omega
 have hp:0<X*2^(e - -2148).toNat:=jh ae (bG _);rcases hx with h|⟨h1,h2⟩
 . exact absurd h hX0
 have hn:n=decide (V<0):=by
  exact jj
 rw[hn] at hz ho F
 have hv:X*2^(e - -2148).toNat=V.natAbs:=by
  exact Qaf
 refine⟨X,e,ho,?_,h1,ae,?_,ae,F⟩
 . rcases F.odd with q | q
   . exact q
   . exact absurd q.1 hX0
 . rw[show(e+2148).toNat=(e - -2148).toNat by congr 1];exact hv
noncomputable def qvR (V W mode:Int):Nat×Int:=nI jJ ⟨dN (ig V),.bool false,dX (ig V),dE (ig V),dN (ig W),.bool false,dX (ig W),dE (ig W)⟩ mode
theorem Ub(N:Nat)(k:Nat)(hk:k=2148):ig ((N:Int)*((2^k:Nat):Int))=mkS false N 0:=by
 unfold ig;rw[<-eD,decide_eq_false ae,oC,cK,Pw];congr 1;omega
theorem BP{V W:Int}(hV:V≠0)(hW:0<W)(k:Nat)(hk:k<=90000)(hb:V.natAbs<2^k)(hb2:W.natAbs<2^k) :
 ∃K t m,(∀j,j=1074->Ah K t m (V.natAbs*2^j) W.natAbs)/\∀mode:Int,0<=mode->mode<=4->qvR V W mode=(rK mode (decide (V<0)) K t m+(if V<0 then 9223372036854775808 else 0),0):=by
 obtain⟨X,e,ho,hX,he0,he1,hv,hbl,F⟩:=nZ hV k hk hb;obtain⟨Y,f,ho2,hY,hf0,hf1,hv2,hbl2,F2⟩:=nZ (V:=W) ae k hk hb2;rw[decide_eq_false ae] at ho2 F2;obtain⟨K,t,m,hL,hR⟩:=TK (decide (V<0)) X e Y f hX ae hbl hbl2;refine⟨K,t,m,λj hj=>?_,λmode hm0 qM=>?_⟩
 . refine hL.lies.ratio ae ?_;unfold l7 l9;rw[<-hv,<-hv2]
   have e1:X*2^(e-f+((1*1074:Nat):Int)).toNat*(Y*2^(f+2148).toNat)=X*Y*(2^((e-f+((1*1074:Nat):Int)).toNat+(f+2148).toNat)):=by
    rw[aP,rH]
   have e2:X*2^(e+2148).toNat*2^j*(Y*2^(-(e-f+((1*1074:Nat):Int))).toNat)=X*Y*(2^((e+2148).toNat+j+(-(e-f+((1*1074:Nat):Int))).toNat)):=by
    rw[aP,aP,aQ X,rH]
   rw[e1,e2];congr 2;omega
 . have hm1:mkS (decide (V<0)) X e=some (decide (V<0),X,e):=uj F;have hm2:mkS false Y f=some (false,Y,f):=uj F2;unfold qvR;rw[ho,ho2];show nI jJ ⟨decide (V<0),.bool false,X,e,false,.bool false,Y,f⟩ mode=_;unfold nI;rw[if_neg ae,if_pos (by rw[zB];show oI X (decide (V<0)) e Y false f=0;unfold oI;rw[if_neg (by unfold qN;simp;split <;> omega),hm1,hm2];simp[dX];omega),hm1,hm2];show jJ (mQ (decide (V<0)) X e Y f) mode=_;rw[hR mode hm0 qM];simp
def oJ(mode:Int):Int:=if mode<0\/4<mode then 1 else 0
theorem XO(mode:Int)(w:World):Ax 47 #[.int .i64 mode] w (.int .i64 (oJ mode)):=by
 by_cases h0:mode<0
 . have e:oJ mode=1:=if_pos (.inl h0);rw[e];clear e;go_enter Tryz.func47,Tryz.ntmps47;go_wp2;exact Jx
 . have d0:decide (mode<0)=false:=decide_eq_false h0
   by_cases h4:4<mode
   . have e:oJ mode=1:=if_pos (.inr h4);rw[e];clear e;go_enter Tryz.func47,Tryz.ntmps47;go_wp2;exact Jx
   . have d4:decide (4<mode)=false:=decide_eq_false h4;have e:oJ mode=0:=if_neg ae;rw[e];clear e;go_enter Tryz.func47,Tryz.ntmps47;go_wp2;exact Jx
theorem Uc(e:Int)(x:Nat)(w:World):Ax 46 #[.int .i64 e,.float .f64 x] w (.float .f64 (if e=0 then x else 0)):=by
 by_cases h0:e=0
 . subst h0;go_enter Tryz.func46,Tryz.ntmps46;go_wp2;exact Jx
 . rw[if_neg h0];have h1:(e==0)=false:=by simp[h0]
   go_enter Tryz.func46,Tryz.ntmps46;go_wp2;exact Jx
noncomputable def qnR (V:Int) (N:Nat) (mode:Int):Nat×Int:=nI jJ ⟨dN (ig V),.bool false,dX (ig V),dE (ig V),dN (mkS false N 0),.bool false,dX (mkS false N 0),dE (mkS false N 0)⟩ mode
theorem Zg(V:Int)(N:Nat)(mode:Int)(k:Nat)(hk:k=2148):qnR V N mode=qvR V ((N:Int)*((2^k:Nat):Int)) mode:=by
 unfold qnR qvR;rw[Ub N k hk]
theorem Ud(N:Nat)(h:N<2^41):Fm (mkS false N 0):=by
 obtain⟨k,hk⟩:∃k:Nat,k=2148:=⟨_,rfl⟩;rw[<-Ub N k hk];refine oG _ (41+k) ae ?_;rw[<-eD,oC,aP];exact fK h (bG k)
noncomputable def mU (xs:List Nat) (s:Sp) (mode:Int):Nat×Int :=
 if xs=[] then(0,3) else if vS xs=0 then(nt (snd s.n s.u s.d s.m s.p s.a) s.n s.u s.d s.m s.p s.a mode,0) else qnR (vS xs) xs.length mode
theorem sgn_ex{V:Int}(k:Nat)(hk:k<=90000)(hb:V.natAbs<2^k):(V=0->qN (dN (ig V)) (val (ws (dX (ig V))))=0)/\(V≠0->(qN (dN (ig V)) (val (ws (dX (ig V))))==0)=false)/\(V<0↔qN (dN (ig V)) (val (ws (dX (ig V))))<0):=by
 rw[aB]
 by_cases h0:V=0
 . subst h0;rw[qU];exact⟨λ_=>rfl,λh=>absurd rfl h,by constructor <;> (intro h;exact absurd h aM)⟩
 . obtain⟨X,e,ho,hX,he0,he1,hv,hbl,F⟩:=nZ h0 k hk hb;rw[ho];show(V=0->qN (decide (V<0)) X=0)/\(V≠0->(qN (decide (V<0)) X==0)=false)/\(V<0↔qN (decide (V<0)) X<0);unfold qN;refine⟨λh=>absurd h h0,λ_=>?_,?_⟩
   . rw[if_neg ae];by_cases hs:V<0 <;> simp[hs]
   . rw[if_neg ae];by_cases hs:V<0 <;> simp[hs]
theorem XP(xs:List Nat)(a:Option Addr)(n c:Nat)(sn su sd sm sp sa mode:Int)(w:World)(hn:n=xs.length)(hF:Fs w.heap.size w a xs)(hW:jH xs)(hT:gP w)(hl:n<=65536)(z:Nat×Int)(hz:mU xs ⟨sn,su,sd,sm,sp,sa⟩ mode=z) :
 At 49 #[.slice a n c,.agg #[.int .i64 sn,.int .i64 su,.int .i64 sd,.int .i64 sm,.int .i64 sp,.int .i64 sa],.int .i64 mode] w (.tuple #[.float .f64 z.1,.int .i64 z.2]):=by
 obtain⟨X,E⟩:=z;simp only
 by_cases h0:n=0
 . have e:(X,E)=(0,3):=by rw[<-hz];unfold mU;rw[if_pos (rF ae)]
   obtain⟨rfl,rfl⟩:=jM e;subst h0;clear hz hn hF hW hT e;go_enter Tryz.func49,Tryz.ntmps49;go_wp2;exact aH (v:=.tuple #[.float .f64 0,.int .i64 3]) (by simp[results,Tryz.results49,go_sem]) rfl ⟨rfl,aC _ _⟩
 . have hx0:xs≠[]:=by rintro rfl;simp at hn;omega
   unfold mU at hz;rw[if_neg hx0] at hz;simp only at hz;obtain⟨k,hk,hvb⟩:=BO hW ae;obtain⟨g1,g2,g3⟩:=sgn_ex k ae hvb;have Fv:=ak (Ua hW ae);obtain⟨sb,W,hWs,HW⟩:∃(sb:Value) (W:World),sb=.agg #[.int .i64 sn,.int .i64 su,.int .i64 sd,.int .i64 sm,.int .i64 sp,.int .i64 sa]/\W=w.alloc (Obj.cells #[.int .i64 sn,.int .i64 su,.int .i64 sd,.int .i64 sm,.int .i64 sp,.int .i64 sa] 72):=⟨_,_,rfl,rfl⟩;clear hWs
   have BW:Aside (An w W/\Bl W w.heap.size 72 [.int .i64 sn,.int .i64 su,.int .i64 sd,.int .i64 sm,.int .i64 sp,.int .i64 sa]/\gP W):=by
    rw[HW];exact⟨aC _ _,Bl.new _ 72 [_,_,_,_,_,_],hT.belows (aC _ _)⟩
   have HE:=hid (XN xs a n c W hn ((hF.below BW.o.1).mono BW.o.1.size) hW BW.o.r2 hl);obtain⟨V,hV⟩:∃V,vS xs=V:=⟨_,rfl⟩;rw[hV] at HE hz g1 g2 Fv;obtain⟨ov,hov⟩:∃o,ig V=o:=⟨_,rfl⟩;rw[hov] at HE g1 g2 Fv;have HS:Hid (∀(u:World) (p:Option Addr) (q:Nat),Nt 0 u (.slice p (ws (dX ov)).length q) (dX ov)->As 52 #[.agg #[.bool (dN ov),.slice p (ws (dX ov)).length q,.int .i64 (dE ov)]] u λr u'=>r=.returned (.int .i64 (qN (dN ov) (val (ws (dX ov)))))/\An u u'):=λu p q hN=>vB (Fv.o.a12 hN) _ _;have hnb:(n:Int)≠0:=ae
   have HN:=ak hn;have HTW:=ak BW.o.r2;obtain⟨sg,hsg⟩:∃sg,qN (dN ov) (val (ws (dX ov)))=sg:=⟨_,rfl⟩;rw[hsg] at HS g1 g2;have GK:=ak HW;have G:=bA g1 g2;clear hn hF hW hT hx0 g1 g2 g3 hvb hk k hsg HW;go_enter Tryz.func49,Tryz.ntmps49;go_wp2_with fail;rw[<-GK.o];refine HE.o.mono ?_;rintro r u ⟨v,rfl,hN,hb⟩;obtain⟨a1,c1,rfl,hN0⟩:=Lo.shape Fv.o hN;obtain⟨U,hU⟩:=ah (u.alloc (Obj.cells #[.bool (dN ov),.slice a1 (ws (dX ov)).length c1,.int .i64 (dE ov)] 79));have bU:An W U:=by rw[hU];exact hb.trans ((af _ _).mono hb.size)
   have H1:Aside (Lo U u.heap.size ov/\Bl U w.heap.size 72 [.int .i64 sn,.int .i64 su,.int .i64 sd,.int .i64 sm,.int .i64 sp,.int .i64 sa]/\An w U/\gP U/\Dk U u.heap.size (dN ov) (.slice a1 (ws (dX ov)).length c1) (dE ov)/\Nt 0 U (.slice a1 (ws (dX ov)).length c1) (dX ov)):=by
    refine⟨?_,BW.o.2.1.below bU BW.o.2.1.lt,BW.o.1.trans (bU.mono BW.o.1.size),HTW.o.belows bU,?_,?_⟩
    . rw[hU];exact Lo.new hN0
    . rw[hU];exact Dk.new _ _ _ _
    . rw[hU];exact hN0.below (af _ _)
   obtain⟨gd,hgd⟩:=ah (u.heap.size);have HU:=ak hU;have C:=hid (HS.o U a1 c1 H1.o.r5);rw[<-hgd] at H1;obtain⟨y0,y1,y2,dY,dZ,eB⟩:=H1.o.r4.1.facts;clear hN hN0 hb bU hU HE HS
   go_upto_region 4 with fail
   try rw[<-hgd]
   rw[<-HU.o];clear HU hgd;go_wp2_with fail;refine C.o.mono ?_;rintro r v ⟨rfl,hb⟩
   have H2:Aside (Bl v w.heap.size 72 [.int .i64 sn,.int .i64 su,.int .i64 sd,.int .i64 sm,.int .i64 sp,.int .i64 sa]/\An w v/\gP v/\Dk v gd (dN ov) (.slice a1 (ws (dX ov)).length c1) (dE ov)/\Nt 0 v (.slice a1 (ws (dX ov)).length c1) (dX ov)) :=
    ⟨H1.o.2.1.below hb H1.o.2.1.lt,H1.o.r2.1.trans (hb.mono H1.o.r2.1.size),H1.o.r3.1.belows hb,H1.o.r4.1.below hb,H1.o.r5.below hb⟩
   clear hb H1 C y0 y1 y2 dY dZ eB
   by_cases hv0:V=0
   . rw[if_pos hv0] at hz;obtain⟨hX,hE⟩:=jM hz;have hs:=G.o.1 hv0;have PD:=hid (λu:World=>yY sn su sd sm sp sa mode u);rw[hX] at PD;subst hs;subst hE;have q0:=H2.o.1.cell 0 _ rfl;have q1:=H2.o.1.cell 1 _ rfl;have q2:=H2.o.1.cell 2 _ rfl;have q3:=H2.o.1.cell 3 _ rfl;have q4:=H2.o.1.cell 4 _ rfl;have q5:=H2.o.1.cell 5 _ rfl;clear hX hz G hov;go_wp2_with fail;refine(PD.o _).mono ?_;rintro r u2 ⟨rfl,hb⟩;have B3:=ak (H2.o.2.1.trans (hb.mono H2.o.2.1.size));clear hb PD q0 q1 q2 q3 q4 q5;go_wp2;exact aH (v:=.tuple #[.float .f64 X,.int .i64 0]) (by simp[results,Tryz.results49,go_sem]) rfl ⟨rfl,B3.o⟩
   . rw[if_neg hv0] at hz;have hs:=G.o.2 hv0;have ZU:n<2^41:=ae
     have F1:=ak (Ud n ZU)
     have HI:Hid (∀u:World,gP u->As 57 #[.int .i64 (n:Nat)] u λr w'=>(∃v,r=.returned (.agg #[.bool (dN (mkS false n 0)),v,.int .i64 (dE (mkS false n 0))])/\Nt u.heap.size w' v (dX (mkS false n 0)))/\An u w'):=λu hT=>by
      have:=Dr (n:Nat) u hT ae ae;rw[decide_eq_false ae,oC] at this;exact this
     have HR:Hid (∀(u:World) (p q:Option Addr) (cp cq:Nat),gP u->Nt 0 u (.slice p (ws (dX ov)).length cp) (dX ov)->Nt 0 u (.slice q (ws (dX (mkS false n 0))).length cq) (dX (mkS false n 0))->At 56 #[.agg #[.bool (dN ov),.slice p (ws (dX ov)).length cp,.int .i64 (dE ov),.bool (dN (mkS false n 0)),.slice q (ws (dX (mkS false n 0))).length cq,.int .i64 (dE (mkS false n 0))],.int .i64 mode] u (.tuple #[.float .f64 X,.int .i64 E])):=λu p q cp cq hT n1 n2=>by
      have:=TL (w:=u) (n:=dN ov) (m:=dN (mkS false n 0)) (X:=dX ov) (Y:=dX (mkS false n 0)) (e:=dE ov) (f:=dE (mkS false n 0)) mode ⟨n1.av (dB Fv.o.len aM),n2.av (dB F1.o.len aM),Fv.o.sD,F1.o.sD⟩ hT;rw[show nI jJ ⟨dN ov,.slice p (ws (dX ov)).length cp,dX ov,dE ov,dN (mkS false n 0),.slice q (ws (dX (mkS false n 0))).length cq,dX (mkS false n 0),dE (mkS false n 0)⟩ mode=(X,E) from(by rw[<-hov,<-hz,<-HN.o];rfl)] at this;exact this
     obtain⟨ow,how⟩:∃o,mkS false n 0=o:=⟨_,rfl⟩;rw[how] at HR HI F1;clear hz how G hov hv0 ZU
     go_upto_region 6 with fail
     have hdr:=(aD v.heap.size v).drew;have BD:=iN (H2.o.2.1.trans (hdr.mono H2.o.2.1.size)) (H2.o.r3.1.below hdr) (H2.o.r4.below hdr) (H2.o.r2.1.belows hdr);clear hdr H2;have kS:=gp BD.o.2.1.facts.1 BD.o.2.1.facts.2.1 BD.o.2.1.facts.2.2.1
     go_region_held3 (λw'=>w'.cell? ⟨gd,0,none⟩=some (.bool (dN ov))/\w'.cell? ⟨gd,1,none⟩=some (.slice a1 (ws (dX ov)).length c1)/\w'.cell? ⟨gd,2,none⟩=some (.int .i64 (dE ov))) (with_reducible exact kS.o) (first
      | (go_at_call 56
         with_reducible refine(HR.o _ a1 a2 c1 c2 BD.o.r3 BD.o.r2.1 Q2.o).mono ?_
         rintro r v ⟨rfl,hb⟩;have BD:=iN (BD.o.1.trans (hb.mono BD.o.1.size)) (BD.o.2.1.below hb) (BD.o.r2.1.below hb) (BD.o.r3.belows hb);have kS:=gp BD.o.2.1.facts.1 BD.o.2.1.facts.2.1 BD.o.2.1.facts.2.2.1
         clear hb)
      | (go_at_call 57
         with_reducible refine(HI.o _ BD.o.r3).mono ?_
         rintro r v ⟨⟨p,rfl,hN⟩,hb⟩;obtain⟨a2,c2,rfl,hN0⟩:=Lo.shape F1.o hN;have BD:=iN (BD.o.1.trans (hb.mono BD.o.1.size)) (BD.o.2.1.below hb) (BD.o.r2.1.below hb) (BD.o.r3.belows hb);have Q2:=ak hN0;have kS:=gp BD.o.2.1.facts.1 BD.o.2.1.facts.2.1 BD.o.2.1.facts.2.2.1
         clear hb hN hN0))
     clear kS Q2 HR HI;go_wp2;exact aH (v:=.tuple #[.float .f64 X,.int .i64 E]) (by simp[results,Tryz.results49,go_sem]) rfl ⟨rfl,BD.o.1⟩
attribute [local go_sem] cZ
def ED(e:Int)(x:Nat):Nat:=if e=0 then x else 0
theorem door13 {fn:Func}{f:FuncId}{px pe:Tmp}(hres:fn.results=#[.cell px 27,.cell pe 28]) {tmps:Array Value}{gx ge:Nat}{w:World}{x:Nat}{e:Int}{R:Ending->World->Prop}
 (hi:(callFunc f #[.pointer (some ⟨ge,0,none⟩),.pointer (some ⟨gx,0,none⟩)]).run Tryz.prog w=.ok (.enter f #[.pointer (some ⟨ge,0,none⟩),.pointer (some ⟨gx,0,none⟩)]) w)
 (HC:∀(u:FrameMode),CallsD Tryz.prog f #[.pointer (some ⟨ge,0,none⟩),.pointer (some ⟨gx,0,none⟩)] u w λr u' w'=>u'=u/\(r=.returned (.tuple #[])/\w'=w.setCell ⟨gx,0,none⟩ (.float .f64 (ED e x))))
 (h1:tmps.getD px undef=.pointer (some ⟨gx,0,none⟩)) (h2:tmps.getD pe undef=.pointer (some ⟨ge,0,none⟩))
 (cx:w.cell? ⟨gx,0,none⟩=some (.float .f64 x)) (ce:w.cell? ⟨ge,0,none⟩=some (.int .i64 e)) (hne:ge≠gx)
 (hR:R (.returned (.tuple #[.float .f64 (ED e x),.int .i64 e])) (w.setCell ⟨gx,0,none⟩ (.float .f64 (ED e x)))) :
 Leaves Tryz.prog fn tmps R [{ target:=.fn (.func f) #[.pointer (some ⟨ge,0,none⟩),.pointer (some ⟨gx,0,none⟩)],args:=#[] }] .returning w:=by
 refine leaves_cons (f:=f) (args:=#[.pointer (some ⟨ge,0,none⟩),.pointer (some ⟨gx,0,none⟩)]) aN (by simp[go_sem,hi]) ?_;refine(HC _).mono ?_;rintro r u' w' ⟨rfl,rfl,rfl⟩;have q1:(w.setCell ⟨gx,0,none⟩ (.float .f64 (ED e x))).cell? ⟨gx,0,none⟩=some (.float .f64 (ED e x)):=World.cell?_setCell_same _ _ _ cx
 have q2:(w.setCell ⟨gx,0,none⟩ (.float .f64 (ED e x))).cell? ⟨ge,0,none⟩=some (.int .i64 e):=by
  rw[World.cell?_setCell_other _ _ _ _ (by intro h;cases h;exact hne rfl)];exact ce
 rw[Array.getD_eq_getD_getElem?] at h1 h2;exact⟨.tuple #[.float .f64 (ED e x),.int .i64 e],by simp[results,hres,go_sem,h1,h2,q1,q2],hR⟩
theorem vN(gx ge x:Nat)(e:Int)(w:World)(cx:w.cell? ⟨gx,0,none⟩=some (.float .f64 x))(ce:w.cell? ⟨ge,0,none⟩=some (.int .i64 e))(fx:w.frozen? ⟨gx,0,none⟩=false)(u:FrameMode) :
 CallsD Tryz.prog 45 #[.pointer (some ⟨ge,0,none⟩),.pointer (some ⟨gx,0,none⟩)] u w λr u' w'=>u'=u/\(r=.returned (.tuple #[])/\w'=w.setCell ⟨gx,0,none⟩ (.float .f64 (ED e x))):=by
 have HB:=hid (λw:World=>Uc e x w);go_enter_d Tryz.func45,Tryz.ntmps45;go_wp2_with fail;refine(HB.o _).mono ?_;rintro r v ⟨rfl,rfl⟩;obtain⟨b,hb⟩:=ah (ED e x);have hb2:(if e=0 then x else 0)=b:=hb.symm;rw[hb2];have HBB:=ak hb;clear hb hb2 HB;go_wp2
 go_end0
 exact⟨rfl,by rw[HBB.o]⟩
end
namespace Ps
open Go.RowKit
open Go.RowKit
def Wf(xs:List Nat):Prop:=∀x ∈ xs,x<18446744073709551616
theorem Wf.get{xs:List Nat}(h:Wf xs)(k:Nat):xs.getD k 0<18446744073709551616:=by
 exact Qbs
def U(n:Nat):Value:=.float .f64 n
def Rd(B:Nat)(w:World)(ao:Option Addr)(xs:List Nat):Prop :=
 xs≠[]->∃b off,b<B/\ao=some ⟨b,off,none⟩/\∀i,i<xs.length->w.cell? ⟨b,off+i,none⟩=some (.float .f64 (xs.getD i 0))
theorem Rd.below{B:Nat}{w w':World}{ao:Option Addr}{xs:List Nat}(h:Rd B w ao xs)(hb:Below B w w'):Rd B w' ao xs:=by
 exact Qap
theorem Rd.mono{B B':Nat}{w:World}{ao:Option Addr}{xs:List Nat}(h:Rd B w ao xs)(hB:B<=B'):Rd B' w ao xs:=by
 exact Qb0
def Lt(lo:Nat)(w:World)(v:Value)(xs:List Nat):Prop:=w.ownsRow lo 27 1 v xs.length (xs.map U)
theorem Lt.nil(lo:Nat)(w:World):Lt lo w (.slice none 0 0) []:=yA _ _ _ _
theorem Tryz.Ue:(Tryz.prog.info? 27).map (λi=>(i.zero,i.size,i.bytes))=some (some (.float .f64 0),1,8):=by kernel_rfl
open Go.RowKit
abbrev Rw(lo:Nat)(w:World)(v:Value)(n:Nat)(ys:List Value):Prop:=w.ownsRow lo 27 1 v n ys
def PE(w w':World):Prop:=∀(g:Nat) (cur:Array Value) (e:TypeId),e≠22->e≠87->w.heap[g]?=some (.cells cur e (0,0))->w'.heap[g]?=some (.cells cur e (0,0))
theorem PE.row{w w':World}{lo:Nat}{v:Value}{n:Nat}{ys:List Value}(h:Rw lo w v n ys)(k:PE w w'):Rw lo w' v n ys:=by
 refine⟨h.1,?_⟩;rcases h.2 with hn|⟨g,cap,cur,rfl,hlo,hg,rest⟩
 . exact .inl hn
 . exact .inr ⟨g,cap,cur,rfl,hlo,k _ _ _ aM aM hg,rest⟩
theorem PE.below{w w':World}(h:An w w'):PE w w':=λg cur _ _ _ e=>by rw[h.block g (dQ.1 e).1];exact e
theorem uY{w w':World}{lo e s:Nat}{v:Value}{n:Nat}{ys:List Value}(h:w.ownsRow lo e s v n ys)(hb:∀g,v.ownBlock=some g->w'.heap[g]?=w.heap[g]?):w'.ownsRow lo e s v n ys:=by
 exact Qaa
theorem mG (w:World) (lo:Nat) (v:Value) (n:Nat) (ys:List Value) (x:Value) (s:Nat) (ty:TypeId) (hown:Rw lo w v n ys) (hx:w.cell? ⟨s,0,none⟩=some x) (h1:x.oneCell'=true)
 (hbig:n+1<=17592186044416) (hlo:lo<=w.heap.size) :
 ∃v' w',(Builtin.append_ #[22,22] ty #[v,.slice (some ⟨s,0,none⟩) 1 1]).run Tryz.prog w=.ok v' w'/\Rw lo w' v' (n+1) (ys++[x])/\w.grownBy w' v.ownBlock /\
   (v'.ownBlock=v.ownBlock\/∃g,v'.ownBlock=some g/\w.heap.size<=g)/\(∀(u:Value) (k:Nat) (zs:List Value),Rw lo w u k zs->(u.ownBlock=v.ownBlock->k<=n)->Rw lo w' u k zs):=by
 obtain⟨i0,hi,hz0,hz1,hz2⟩:=info_parts Tryz.Ue
 have hnews:∀j u,[x][j]?=some u->w.cell? ((⟨s,0,none⟩:Addr).add j)=some u:=by
  exact Qbt
 have h1':∀u ∈ [x],u.oneCell'=true:=by intro u hu;simp at hu;subst hu;exact h1
 have keep:∀w',w.grownBy w' none->∀(u:Value) (k:Nat) (zs:List Value),Rw lo w u k zs->Rw lo w' u k zs:=by
  exact jz
 have Rs:∀(v':Value) (w':World) (m:Nat) (zs:List Value),w'.ownsRow w.heap.size 27 1 v' (m+1) zs->∃g,v'.ownBlock=some g/\w.heap.size<=g:=by
  exact Qbe
 have mono:∀(v':Value) (w':World) (m:Nat) (zs:List Value),w'.ownsRow w.heap.size 27 1 v' m zs->Rw lo w' v' m zs:=by
  exact Qal
 rcases hown.2 with ⟨rfl,rfl⟩|⟨g,cap,cur,rfl,hlg,hg,hnc,hm,hs,ht⟩
 . obtain⟨v',w',r1,r2,r3,_,_⟩:=run_append_own_at (P:=Tryz.prog) w w.heap.size 22 ty 27 i0 (.float .f64 0) 1 8 Tryz.underlying22 hi hz0 hz1 hz2 rfl aM (.slice none 0 0) 0 [] (yA _ _ _ _) ⟨s,0,none⟩ 1 1 [x] rfl hnews h1' (by unfold maxLen;omega) ae (aA _);have hy:ys=[]:=rF (by simpa using hown.1);subst hy;exact⟨v',w',r1,mono _ _ _ _ (by simpa using r2),r3,.inr (Rs _ _ 0 _ (by simpa using r2)),λu k zs hr _=>keep _ r3 u k zs hr⟩
 . by_cases hroom:n+1<=cap
   . have hr:=run_append_room (P:=Tryz.prog) w 22 ty 27 i0 Tryz.underlying22 hi g n cap cur hg ⟨s,0,none⟩ 1 1 [x] (by rw[hz1];rfl) hnews h1' hroom (by rw[hz1,hs];simp;omega);rw[hz1] at hr;refine⟨_,_,hr,⟨by simpa using hown.1,.inr ⟨g,cap,_,rfl,hlg,setRow_heap w g cur _ 27 _ hg,hroom,hm,?_,?_⟩⟩,⟨rfl,rfl,rfl,aN,λk _ hk=>setRow_other w g k _ (λe=>hk (by simp[Value.ownBlock,e]))⟩,.inl rfl,?_⟩
     . exact Qa0
     . exact Qat
     . intro u k zs hr2 hle;rcases hr2.2 with hn|⟨g2,cap2,ZT,rfl,hl2,hg2,Rt,hm2,hs2,ht2⟩
       . exact⟨hr2.1,.inl hn⟩
       . by_cases he:g2=g
         . subst he;rw[hg] at hg2
           cases hg2
           have hk:=hle rfl;refine⟨hr2.1,.inr ⟨g2,cap2,_,rfl,hl2,setRow_heap w g2 cur _ 27 _ hg,Rt,hm2,?_,?_⟩⟩
           . exact Qa0
           . exact Qas
         . exact Qbb
   . obtain⟨v',w',r1,r2,r3⟩:=run_append_arg_grows (P:=Tryz.prog) w 22 ty 27 i0 (.float .f64 0) 1 8 Tryz.underlying22 hi hz0 hz1 hz2 rfl aM ⟨g,0,none⟩ n cap ys (by simpa using hown.1) (λj u hj=>hown.cells (g:=g) (by simp[Value.ownBlock]) j u hj) ⟨s,0,none⟩ 1 1 [x] rfl hnews ae (by unfold maxLen;omega) ae;exact xT
theorem dC {w:World}{ops:Array Oper}{rest:List Oper}{o:Oper}{a:Act}{Q:Exit->Act->World->Prop}(hgd:o.guard=none) (s x:Operand) (t:TypeId)
 (ho:o.op=.call { callee:=.builtin .append,args:=#[s,x],argTypes:=#[t,t] }) (v u:Value) (hs:a.eval s=v) (hx:a.eval x=u) (v':Value) (w':World)
 (hrun:(Builtin.append_ #[t,t] o.type #[v,u]).run Tryz.prog w=.ok v' w') (h:wpList Tryz.prog ops Q rest (a.put o.dst v') w'):wpList Tryz.prog ops Q (o::rest) a w:=by
 refine wpList_plain hgd λK hK=>?_;unfold Oper.wp;simp[execOp,ho,resolve,invoke,builtin,hs,hx,hrun,Result.andThen];exact hK _ _ h
end Ps
end Go.Proofs.YtjppdacikihpdaaGreatDoor
