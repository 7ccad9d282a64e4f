import Derived.Test.YteginbngplldaaaGreatDoorZ22x
import Derived.Test.YteginbngplldaaaGreatDoorZ47x
import Derived.Deep.LoopGhost
import Derived.Deep.RegionHeld3
import Derived.Deep.Cut
set_option linter.unusedVariables false
set_option linter.unusedSimpArgs false
set_option maxHeartbeats 16000000
set_option maxRecDepth 20000
namespace Go.Proofs.YteginbngplldaaaGreatDoor
namespace J
end J
section
open Go Go.RowKit J
theorem Mq (w:World) (n h0 h1:Nat) (A T:Nat->Option (Bool×Nat×Int)) (hn:n<=65536) (hT:dH w) (FA:∀ i,i<n->Fm (A i)) (FT:∀ i,i<=n->Fm (T i)) (ET:∀ i,i<n->iB (T i) (A i)=T (i+1)) (E0:gG=T 0)
 (HC:Hid (∀ (i:Nat) (u:World),i<n->An w u->As 142 #[.int .i64 (i:Nat),.pointer (some ⟨h0,0,none⟩),.pointer (some ⟨h1,0,none⟩)] u fun r w'=>aN 0 w' r (A i)/\An u w')) :
 As 84 #[.int .i64 (n:Nat),.func (.func 142) #[] #[.pointer (some ⟨h0,0,none⟩),.pointer (some ⟨h1,0,none⟩)]] w fun r w'=>aN 0 w' r (T n)/\An w w':=by
 obtain⟨W,hW⟩:=af ((w.alloc (Obj.cells #[.bool false,.slice none 0 0,.int .i64 0] 37)).alloc (Obj.cells #[.bool false,.slice none 0 0,.int .i64 0] 37))
 have H0:Aside (Lo W (w.heap.size+1) (T 0)/\Lo W w.heap.size gG/\An w W):=by
  subst hW;exact Up
 have HP:Hid (∀ (i:Nat) (u:World) (p q:Option Addr) (cp cq:Nat),i<n->dH u->Nt 0 u (.slice p (ws (dX (T i))).length cp) (dX (T i))->Nt 0 u (.slice q (ws (dX (A i))).length cq) (dX (A i))->As 131 #[.agg #[.bool (dN (T i)),.slice p (ws (dX (T i))).length cp,.int .i64 (dE (T i))],.agg #[.bool (dN (A i)),.slice q (ws (dX (A i))).length cq,.int .i64 (dE (A i))]] u fun r w'=>aN 0 w' r (T (i+1))/\An u w') :=
  fun i u p q cp cq hi hT n1 n2=>Bt (FT i (by omega)) (FA i hi) (FT (i+1) (by omega)) n1 n2 hT (ET i hi)
 have HW:=ak hW;have PF:=aJ FT FA;have HT:=ak hT;clear hW FT FA ET E0 hT;go_enter Tryz.func84,Tryz.ntmps84
 go_upto_region 2 with fail
 rw[<-HW.o];clear HW;go_wp2
 go_loopg [8] n (fun gk i wr=>∃ j:Nat,gk+j=n/\i=.int .i64 (j:Nat)/\Aside (Lo wr (w.heap.size+1) (T j)/\Lo wr w.heap.size gG/\An w wr))
 case atStart=>exact⟨0,by omega,by simp,H0.o⟩
 case round =>
  exact Zs
theorem Mr (w:World) (n h0 h1 h2 h3:Nat) (A T:Nat->Option (Bool×Nat×Int)) (hn:n<=65536) (hT:dH w) (FA:∀ i,i<n->Fm (A i)) (FT:∀ i,i<=n->Fm (T i)) (ET:∀ i,i<n->iB (T i) (A i)=T (i+1)) (E0:gG=T 0)
 (HC:Hid (∀ (i:Nat) (u:World),i<n->An w u->As 95 #[.int .i64 (i:Nat),.pointer (some ⟨h0,0,none⟩),.pointer (some ⟨h1,0,none⟩),.pointer (some ⟨h2,0,none⟩),.pointer (some ⟨h3,0,none⟩)] u fun r w'=>aN 0 w' r (A i)/\An u w')) :
 As 84 #[.int .i64 (n:Nat),.func (.func 95) #[] #[.pointer (some ⟨h0,0,none⟩),.pointer (some ⟨h1,0,none⟩),.pointer (some ⟨h2,0,none⟩),.pointer (some ⟨h3,0,none⟩)]] w fun r w'=>aN 0 w' r (T n)/\An w w':=by
 obtain⟨W,hW⟩:=af ((w.alloc (Obj.cells #[.bool false,.slice none 0 0,.int .i64 0] 37)).alloc (Obj.cells #[.bool false,.slice none 0 0,.int .i64 0] 37))
 have H0:Aside (Lo W (w.heap.size+1) (T 0)/\Lo W w.heap.size gG/\An w W):=by
  subst hW;exact Up
 have HP:Hid (∀ (i:Nat) (u:World) (p q:Option Addr) (cp cq:Nat),i<n->dH u->Nt 0 u (.slice p (ws (dX (T i))).length cp) (dX (T i))->Nt 0 u (.slice q (ws (dX (A i))).length cq) (dX (A i))->As 131 #[.agg #[.bool (dN (T i)),.slice p (ws (dX (T i))).length cp,.int .i64 (dE (T i))],.agg #[.bool (dN (A i)),.slice q (ws (dX (A i))).length cq,.int .i64 (dE (A i))]] u fun r w'=>aN 0 w' r (T (i+1))/\An u w') :=
  fun i u p q cp cq hi hT n1 n2=>Bt (FT i (by omega)) (FA i hi) (FT (i+1) (by omega)) n1 n2 hT (ET i hi)
 have HW:=ak hW;have PF:=aJ FT FA;have HT:=ak hT;clear hW FT FA ET E0 hT;go_enter Tryz.func84,Tryz.ntmps84
 go_upto_region 2 with fail
 rw[<-HW.o];clear HW;go_wp2
 go_loopg [8] n (fun gk i wr=>∃ j:Nat,gk+j=n/\i=.int .i64 (j:Nat)/\Aside (Lo wr (w.heap.size+1) (T j)/\Lo wr w.heap.size gG/\An w wr))
 case atStart=>exact⟨0,by omega,by simp,H0.o⟩
 case round =>
  exact Zs
def MV:Nat->Nat->Int
 | _,0=>1
 | 1,1=>1
 | 2,1=>2
 | 2,2=>1
 | 3,1=>3
 | 3,2=>3
 | 3,3=>1
 | 4,1=>4
 | 4,2=>6
 | 4,3=>4
 | 4,4=>1
 | _,_=>0
theorem Kd{P:Prop}(h:P:=by
 exact⟨rfl,by simp⟩):P:=h
theorem Ql(w:World):Ax 97 #[.int .i64 1,.int .i64 0] w (.int .i64 1):=by
 go_enter Tryz.func97,Tryz.ntmps97;go_wp2
 go_loopg [5,8] 0 (fun gk v i wr=>wr=w/\((gk=0/\i=.int .i64 0/\v=.int .i64 1)))
 case atStart=>exact Kd
 case round =>
  obtain⟨rfl,hrel⟩:=hrel;rcases hrel with ⟨rfl,rfl,rfl⟩
  · exact Jx
theorem Qm(w:World):Ax 97 #[.int .i64 1,.int .i64 1] w (.int .i64 1):=by
 go_enter Tryz.func97,Tryz.ntmps97;go_wp2
 go_loopg [5,8] 1 (fun gk v i wr=>wr=w/\((gk=1/\i=.int .i64 0/\v=.int .i64 1)\/(gk=0/\i=.int .i64 1/\v=.int .i64 1)))
 case atStart=>exact Kd
 case round =>
  obtain⟨rfl,hrel⟩:=hrel;rcases hrel with ⟨rfl,rfl,rfl⟩|⟨rfl,rfl,rfl⟩
  · go_wp2;go_roundg 0
    case measure=>omega
    case rel=>exact Kd
  · exact Jx
theorem Qn(w:World):Ax 97 #[.int .i64 2,.int .i64 0] w (.int .i64 1):=by
 go_enter Tryz.func97,Tryz.ntmps97;go_wp2
 go_loopg [5,8] 0 (fun gk v i wr=>wr=w/\((gk=0/\i=.int .i64 0/\v=.int .i64 1)))
 case atStart=>exact Kd
 case round =>
  obtain⟨rfl,hrel⟩:=hrel;rcases hrel with ⟨rfl,rfl,rfl⟩
  · exact Jx
theorem Qo(w:World):Ax 97 #[.int .i64 2,.int .i64 1] w (.int .i64 2):=by
 go_enter Tryz.func97,Tryz.ntmps97;go_wp2
 go_loopg [5,8] 1 (fun gk v i wr=>wr=w/\((gk=1/\i=.int .i64 0/\v=.int .i64 1)\/(gk=0/\i=.int .i64 1/\v=.int .i64 2)))
 case atStart=>exact Kd
 case round =>
  obtain⟨rfl,hrel⟩:=hrel;rcases hrel with ⟨rfl,rfl,rfl⟩|⟨rfl,rfl,rfl⟩
  · go_wp2;go_roundg 0
    case measure=>omega
    case rel=>exact Kd
  · exact Jx
theorem Qp(w:World):Ax 97 #[.int .i64 2,.int .i64 2] w (.int .i64 1):=by
 go_enter Tryz.func97,Tryz.ntmps97;go_wp2
 go_loopg [5,8] 2 (fun gk v i wr=>wr=w/\((gk=2/\i=.int .i64 0/\v=.int .i64 1)\/(gk=1/\i=.int .i64 1/\v=.int .i64 2)\/(gk=0/\i=.int .i64 2/\v=.int .i64 1)))
 case atStart=>exact Kd
 case round =>
  obtain⟨rfl,hrel⟩:=hrel;rcases hrel with ⟨rfl,rfl,rfl⟩|⟨rfl,rfl,rfl⟩|⟨rfl,rfl,rfl⟩
  · go_wp2;go_roundg 1
    case measure=>omega
    case rel=>exact Kd
  · go_wp2;go_roundg 0
    case measure=>omega
    case rel=>exact Kd
  · exact Jx
theorem Qq(w:World):Ax 97 #[.int .i64 3,.int .i64 0] w (.int .i64 1):=by
 go_enter Tryz.func97,Tryz.ntmps97;go_wp2
 go_loopg [5,8] 0 (fun gk v i wr=>wr=w/\((gk=0/\i=.int .i64 0/\v=.int .i64 1)))
 case atStart=>exact Kd
 case round =>
  obtain⟨rfl,hrel⟩:=hrel;rcases hrel with ⟨rfl,rfl,rfl⟩
  · exact Jx
theorem Qr(w:World):Ax 97 #[.int .i64 3,.int .i64 1] w (.int .i64 3):=by
 go_enter Tryz.func97,Tryz.ntmps97;go_wp2
 go_loopg [5,8] 1 (fun gk v i wr=>wr=w/\((gk=1/\i=.int .i64 0/\v=.int .i64 1)\/(gk=0/\i=.int .i64 1/\v=.int .i64 3)))
 case atStart=>exact Kd
 case round =>
  obtain⟨rfl,hrel⟩:=hrel;rcases hrel with ⟨rfl,rfl,rfl⟩|⟨rfl,rfl,rfl⟩
  · go_wp2;go_roundg 0
    case measure=>omega
    case rel=>exact Kd
  · exact Jx
theorem Qs(w:World):Ax 97 #[.int .i64 3,.int .i64 2] w (.int .i64 3):=by
 go_enter Tryz.func97,Tryz.ntmps97;go_wp2
 go_loopg [5,8] 2 (fun gk v i wr=>wr=w/\((gk=2/\i=.int .i64 0/\v=.int .i64 1)\/(gk=1/\i=.int .i64 1/\v=.int .i64 3)\/(gk=0/\i=.int .i64 2/\v=.int .i64 3)))
 case atStart=>exact Kd
 case round =>
  obtain⟨rfl,hrel⟩:=hrel;rcases hrel with ⟨rfl,rfl,rfl⟩|⟨rfl,rfl,rfl⟩|⟨rfl,rfl,rfl⟩
  · go_wp2;go_roundg 1
    case measure=>omega
    case rel=>exact Kd
  · go_wp2;go_roundg 0
    case measure=>omega
    case rel=>exact Kd
  · exact Jx
theorem Qt(w:World):Ax 97 #[.int .i64 3,.int .i64 3] w (.int .i64 1):=by
 go_enter Tryz.func97,Tryz.ntmps97;go_wp2
 go_loopg [5,8] 3 (fun gk v i wr=>wr=w/\((gk=3/\i=.int .i64 0/\v=.int .i64 1)\/(gk=2/\i=.int .i64 1/\v=.int .i64 3)\/(gk=1/\i=.int .i64 2/\v=.int .i64 3)\/(gk=0/\i=.int .i64 3/\v=.int .i64 1)))
 case atStart=>exact Kd
 case round =>
  obtain⟨rfl,hrel⟩:=hrel;rcases hrel with ⟨rfl,rfl,rfl⟩|⟨rfl,rfl,rfl⟩|⟨rfl,rfl,rfl⟩|⟨rfl,rfl,rfl⟩
  · go_wp2;go_roundg 2
    case measure=>omega
    case rel=>exact Kd
  · go_wp2;go_roundg 1
    case measure=>omega
    case rel=>exact Kd
  · go_wp2;go_roundg 0
    case measure=>omega
    case rel=>exact Kd
  · exact Jx
theorem Qu(w:World):Ax 97 #[.int .i64 4,.int .i64 0] w (.int .i64 1):=by
 go_enter Tryz.func97,Tryz.ntmps97;go_wp2
 go_loopg [5,8] 0 (fun gk v i wr=>wr=w/\((gk=0/\i=.int .i64 0/\v=.int .i64 1)))
 case atStart=>exact Kd
 case round =>
  obtain⟨rfl,hrel⟩:=hrel;rcases hrel with ⟨rfl,rfl,rfl⟩
  · exact Jx
theorem Qv(w:World):Ax 97 #[.int .i64 4,.int .i64 1] w (.int .i64 4):=by
 go_enter Tryz.func97,Tryz.ntmps97;go_wp2
 go_loopg [5,8] 1 (fun gk v i wr=>wr=w/\((gk=1/\i=.int .i64 0/\v=.int .i64 1)\/(gk=0/\i=.int .i64 1/\v=.int .i64 4)))
 case atStart=>exact Kd
 case round =>
  obtain⟨rfl,hrel⟩:=hrel;rcases hrel with ⟨rfl,rfl,rfl⟩|⟨rfl,rfl,rfl⟩
  · go_wp2;go_roundg 0
    case measure=>omega
    case rel=>exact Kd
  · exact Jx
theorem Qw(w:World):Ax 97 #[.int .i64 4,.int .i64 2] w (.int .i64 6):=by
 go_enter Tryz.func97,Tryz.ntmps97;go_wp2
 go_loopg [5,8] 2 (fun gk v i wr=>wr=w/\((gk=2/\i=.int .i64 0/\v=.int .i64 1)\/(gk=1/\i=.int .i64 1/\v=.int .i64 4)\/(gk=0/\i=.int .i64 2/\v=.int .i64 6)))
 case atStart=>exact Kd
 case round =>
  obtain⟨rfl,hrel⟩:=hrel;rcases hrel with ⟨rfl,rfl,rfl⟩|⟨rfl,rfl,rfl⟩|⟨rfl,rfl,rfl⟩
  · go_wp2;go_roundg 1
    case measure=>omega
    case rel=>exact Kd
  · go_wp2;go_roundg 0
    case measure=>omega
    case rel=>exact Kd
  · exact Jx
theorem Qx(w:World):Ax 97 #[.int .i64 4,.int .i64 3] w (.int .i64 4):=by
 go_enter Tryz.func97,Tryz.ntmps97;go_wp2
 go_loopg [5,8] 3 (fun gk v i wr=>wr=w/\((gk=3/\i=.int .i64 0/\v=.int .i64 1)\/(gk=2/\i=.int .i64 1/\v=.int .i64 4)\/(gk=1/\i=.int .i64 2/\v=.int .i64 6)\/(gk=0/\i=.int .i64 3/\v=.int .i64 4)))
 case atStart=>exact Kd
 case round =>
  obtain⟨rfl,hrel⟩:=hrel;rcases hrel with ⟨rfl,rfl,rfl⟩|⟨rfl,rfl,rfl⟩|⟨rfl,rfl,rfl⟩|⟨rfl,rfl,rfl⟩
  · go_wp2;go_roundg 2
    case measure=>omega
    case rel=>exact Kd
  · go_wp2;go_roundg 1
    case measure=>omega
    case rel=>exact Kd
  · go_wp2;go_roundg 0
    case measure=>omega
    case rel=>exact Kd
  · exact Jx
theorem Qy(w:World):Ax 97 #[.int .i64 4,.int .i64 4] w (.int .i64 1):=by
 go_enter Tryz.func97,Tryz.ntmps97;go_wp2
 go_loopg [5,8] 4 (fun gk v i wr=>wr=w/\((gk=4/\i=.int .i64 0/\v=.int .i64 1)\/(gk=3/\i=.int .i64 1/\v=.int .i64 4)\/(gk=2/\i=.int .i64 2/\v=.int .i64 6)\/(gk=1/\i=.int .i64 3/\v=.int .i64 4)\/(gk=0/\i=.int .i64 4/\v=.int .i64 1)))
 case atStart=>exact Kd
 case round =>
  obtain⟨rfl,hrel⟩:=hrel;rcases hrel with ⟨rfl,rfl,rfl⟩|⟨rfl,rfl,rfl⟩|⟨rfl,rfl,rfl⟩|⟨rfl,rfl,rfl⟩|⟨rfl,rfl,rfl⟩
  · go_wp2;go_roundg 3
    case measure=>omega
    case rel=>exact Kd
  · go_wp2;go_roundg 2
    case measure=>omega
    case rel=>exact Kd
  · go_wp2;go_roundg 1
    case measure=>omega
    case rel=>exact Kd
  · go_wp2;go_roundg 0
    case measure=>omega
    case rel=>exact Kd
  · exact Jx
theorem XB(k j:Nat)(hk:1<=k)(hk4:k<=4)(hj:j<=k)(w:World):Ax 97 #[.int .i64 (k:Nat),.int .i64 (j:Nat)] w (.int .i64 (MV k j)):=by
 obtain rfl|rfl|rfl|rfl:k=1\/k=2\/k=3\/k=4:=by omega
 · obtain rfl | rfl:j=0\/j=1:=by omega
   · exact Ql w
   · exact Qm w
 · obtain rfl | rfl | rfl:j=0\/j=1\/j=2:=by omega
   · exact Qn w
   · exact Qo w
   · exact Qp w
 · obtain rfl | rfl | rfl | rfl:j=0\/j=1\/j=2\/j=3:=by omega
   · exact Qq w
   · exact Qr w
   · exact Qs w
   · exact Qt w
 · obtain rfl | rfl | rfl | rfl | rfl:j=0\/j=1\/j=2\/j=3\/j=4:=by omega
   · exact Qu w
   · exact Qv w
   · exact Qw w
   · exact Qx w
   · exact Qy w
theorem Jt(k j:Nat)(hk:1<=k)(hk4:k<=4)(hj:j<=k):0<=MV k j/\MV k j<=6:=by
 obtain rfl|rfl|rfl|rfl:k=1\/k=2\/k=3\/k=4:=by omega
 · obtain rfl | rfl:j=0\/j=1:=by omega
   · decide
   · decide
 · obtain rfl | rfl | rfl:j=0\/j=1\/j=2:=by omega
   · decide
   · decide
   · decide
 · obtain rfl | rfl | rfl | rfl:j=0\/j=1\/j=2\/j=3:=by omega
   · decide
   · decide
   · decide
   · decide
 · obtain rfl | rfl | rfl | rfl | rfl:j=0\/j=1\/j=2\/j=3\/j=4:=by omega
   · decide
   · decide
   · decide
   · decide
   · decide
theorem pQ{w:World}{a:Option Addr}{ca k u m:Nat}{V:Int}(hk:k<=5)(hu:u<=1100)(hm:m<=2200)(bV:Bd m V)(hT:dH w)(N1:Nt 0 w (.slice a (ws (dX (gV u V))).length ca) (dX (gV u V))) :
 As 51 #[.agg #[.bool (dN (gV u V)),.slice a (ws (dX (gV u V))).length ca,.int .i64 (dE (gV u V))],.int .i64 (k:Nat)] w fun r w'=>aN 0 w' r (gV (u*k) (V^k))/\An w w':=by
 have hq:∀ i,i<=k->u*i<=5500/\m*i<=11000:=fun i hi=>⟨cB (jC hu (by omega:i<=5)) (by decide),cB (jC hm (by omega:i<=5)) (by decide)⟩;refine PY w a ca k (gV u V) (fun i=>gV (u*i) (V^i)) (by omega) hT (aZ (by omega) (by omega) bV) (fun i hi=>aZ (by have:=hq i hi;omega) (by have:=hq i hi;omega) (bV.pow i)) (fun i hi=>?_) ?_ N1
 · have:=hq i (by omega);rw[iR (by omega) (by omega) (by omega) (by omega) (bV.pow i) bV,<-yG,<-Int.pow_succ]
 · show gV 0 1=gV (u*0) (V^0);rw[mE,Int.pow_zero]
theorem Ms (i n k h0 h1 gx:Nat) (A:Nat->Option (Bool×Nat×Int)) (c:Option (Bool×Nat×Int)) (u:World) (hi:i<n) (hn:n<=65536)
 (HR:Hid (∀ (v:World) (a:Option Addr) (d:Nat),An u v->Nt 0 v (.slice a (ws (dX (A i))).length d) (dX (A i))->As 51 #[.agg #[.bool (dN (A i)),.slice a (ws (dX (A i))).length d,.int .i64 (dE (A i))],.int .i64 (k:Nat)] v fun r w'=>aN 0 w' r c/\An v w'))
 (k0:u.cell? ⟨h0,0,none⟩=some (.slice (some ⟨gx,0,none⟩) n n)) (k1:u.cell? ⟨h1,0,none⟩=some (.int .i64 (k:Nat))) (hx:Dr u gx n n A) :
 As 142 #[.int .i64 (i:Nat),.pointer (some ⟨h0,0,none⟩),.pointer (some ⟨h1,0,none⟩)] u fun r w'=>aN 0 w' r c/\An u w':=by
 obtain⟨W,hW⟩:=af (u.alloc (Obj.cells #[.bool false,.slice none 0 0,.int .i64 0] 37));have LT:Aside (h0<u.heap.size/\h1<u.heap.size/\gx<u.heap.size):=⟨lK u _ k0,lK u _ k1,hx.lt⟩;have hb:An u W.drew:=by rw[hW];exact xG u
 have L0:Lo W.drew u.heap.size gG:=by rw[hW];exact xH u
 obtain⟨p1,q1,x0,x1,x2,M1⟩:=(hx.below hb).facts i hi;have kS:Aside (W.drew.cell? ⟨h0,0,none⟩=some (.slice (some ⟨gx,0,none⟩) n n)/\W.drew.cell? ⟨h1,0,none⟩=some (.int .i64 (k:Nat))/\W.drew.cell? ⟨gx,i*3,none⟩=some (.bool (dN (A i)))/\W.drew.cell? ⟨gx,i*3+1,none⟩=some (.slice p1 (ws (dX (A i))).length q1)/\W.drew.cell? ⟨gx,i*3+2,none⟩=some (.int .i64 (dE (A i)))):=⟨jA k0 hb,jA k1 hb,x0,x1,x2⟩;have C:=hid (HR.o W.drew p1 q1 hb M1);have BD:=(aJ hb L0);have HW:=ak hW;have HI:=ak hi;clear hW hb L0 x0 x1 x2 M1 k0 k1 hx HR;go_enter Tryz.func142,Tryz.ntmps142
 go_upto_region 1 with fail
 rw[<-HW.o];clear HW
 go_region_held3 (fun w'=>w'.cell? ⟨h0,0,none⟩=some (.slice (some ⟨gx,0,none⟩) n n)/\w'.cell? ⟨h1,0,none⟩=some (.int .i64 (k:Nat))/\w'.cell? ⟨gx,i*3,none⟩=some (.bool (dN (A i)))/\w'.cell? ⟨gx,i*3+1,none⟩=some (.slice p1 (ws (dX (A i))).length q1)/\w'.cell? ⟨gx,i*3+2,none⟩=some (.int .i64 (dE (A i)))) (first | with_reducible exact kS.o | with_reducible exact kT.o) (first
  | (go_at_call 51
     with_reducible refine C.o.mono ?_
     rintro r u3 ⟨hd,hb⟩;obtain⟨a3,c3,rfl,eu⟩:=hd.aD;have BD:=bO (BD.o.1.trans (hb.mono BD.o.1.size)) (BD.o.2.below hb) eu;have kS:=ak (ck hb kS.o fun h=>ck1 hb h);have kT:=dJ (lG (g:=u.heap.size) (x:=.bool (dN c)) (y:=.slice a3 (ws (dX c)).length c3) (z:=.int .i64 (dE c)) kS.o.1 (dR LT.o.1)) (lG (g:=u.heap.size) (x:=.bool (dN c)) (y:=.slice a3 (ws (dX c)).length c3) (z:=.int .i64 (dE c)) kS.o.2.1 (dR LT.o.2.1)) (lG (g:=u.heap.size) (x:=.bool (dN c)) (y:=.slice a3 (ws (dX c)).length c3) (z:=.int .i64 (dE c)) kS.o.r2.1 (dR LT.o.r2)) (lG (g:=u.heap.size) (x:=.bool (dN c)) (y:=.slice a3 (ws (dX c)).length c3) (z:=.int .i64 (dE c)) kS.o.r3.1 (dR LT.o.r2)) (lG (g:=u.heap.size) (x:=.bool (dN c)) (y:=.slice a3 (ws (dX c)).length c3) (z:=.int .i64 (dE c)) kS.o.r4 (dR LT.o.r2));obtain⟨zp,zq,DZ,MZ⟩:=BD.o.2.1;obtain⟨z0,z1,z2,dO,dP,dQ⟩:=DZ.facts
     clear hb hd eu DZ MZ C))
 go_wp2;exact iL Tryz.results142 rfl BD.o.2.1 BD.o.1 (aA _) BD.o.r2
theorem yi{P:Prop}(h:P:=by
 have z1:=Bl.new (w.alloc (Obj.cells #[.slice (some ⟨gx,0,none⟩) n n,.bool (dN oS),.slice ax (ws (dX oS)).length cx,.int .i64 (dE oS)] 62)) 3 [.int .i64 (k:Nat)];rw[dA] at z1;rw[hW];exact z1.alloc _):P:=h
theorem yb{P:Prop}(h:P:=by
 have z2:=Lo.zero ((w.alloc (Obj.cells #[.slice (some ⟨gx,0,none⟩) n n,.bool (dN oS),.slice ax (ws (dX oS)).length cx,.int .i64 (dE oS)] 62)).alloc (Obj.cells #[.int .i64 (k:Nat)] 3));rw[dA,dA] at z2;rw[hW];exact z2):P:=h
theorem Ej (w:World) (n k gx:Nat) (ax:Option Addr) (cx:Nat) (oS oP:Option (Bool×Nat×Int))
 (HC:Hid (∀ u:World,An w u->u.cell? ⟨w.heap.size,0,none⟩=some (.slice (some ⟨gx,0,none⟩) n n)->u.cell? ⟨w.heap.size+1,0,none⟩=some (.int .i64 (k:Nat))->As 84 #[.int .i64 (n:Nat),.func (.func 142) #[] #[.pointer (some ⟨w.heap.size,0,none⟩),.pointer (some ⟨w.heap.size+1,0,none⟩)]] u fun r w'=>aN 0 w' r oP/\An u w')) :
 As 96 #[.agg #[.slice (some ⟨gx,0,none⟩) n n,.bool (dN oS),.slice ax (ws (dX oS)).length cx,.int .i64 (dE oS)],.int .i64 (k:Nat)] w fun r w'=>aN 0 w' r oP/\An w w':=by
 obtain⟨W,hW⟩:=af (((w.alloc (Obj.cells #[.slice (some ⟨gx,0,none⟩) n n,.bool (dN oS),.slice ax (ws (dX oS)).length cx,.int .i64 (dE oS)] 62)).alloc (Obj.cells #[.int .i64 (k:Nat)] 3)).alloc (Obj.cells #[.bool false,.slice none 0 0,.int .i64 0] 37))
 have H0:Aside (Bl W w.heap.size 62 [.slice (some ⟨gx,0,none⟩) n n,.bool (dN oS),.slice ax (ws (dX oS)).length cx,.int .i64 (dE oS)]/\Bl W (w.heap.size+1) 3 [.int .i64 (k:Nat)]/\Lo W (w.heap.size+2) gG/\An w W):=by
  have hbW:An w W:=by rw[hW];exact((ae _ _).trans ((ae _ _).mono (by simp))).trans ((ae _ _).mono (by simp;omega))
  refine⟨?_,?_,?_,hbW⟩
  · exact zj
  · exact yi
  · exact yb
 have HW:=ak hW;clear hW;go_enter Tryz.func96,Tryz.ntmps96
 go_upto_region 1 with fail
 rw[<-HW.o];clear HW;have s0:=H0.o.1.cell 0 _ rfl;have hmf:∀ (fn:Fn) (first cap:Array Value) (w:World),(Instr.makeFunc fn first cap).run Tryz.prog w=.ok (.func fn first cap) w:=fun _ _ _ _=>rfl;have C:=hid (HC.o W H0.o.r3 (H0.o.1.cell 0 _ rfl) (H0.o.2.1.cell 0 _ rfl));go_wp2_with fail;refine C.o.mono ?_;rintro r u1 ⟨hd,hb⟩;obtain⟨a1,c1,rfl,hN1⟩:=hd.aD;have H1:=(bO (H0.o.r2.1.below hb) (H0.o.r3.trans (hb.mono H0.o.r3.size)) hN1);clear hb hd hN1 C s0 H0;obtain⟨p2,q2,D2,M2⟩:=H1.o.1;obtain⟨y0,y1,y2,bI,bJ,bK⟩:=D2.facts;clear D2 M2;go_wp2;exact iL Tryz.results96 rfl H1.o.1 H1.o.2.1 (by omega) H1.o.r2
theorem vW{f:Nat->Int}{n k:Nat}(bf:∀ i,i<n->Bd 2098 (f i))(hn:n<=65536)(hk:k<=4)(j:Nat)(hj:j<=n):Bd (2098*k+16) (tS (fun i=>f i^k) j) :=
 zx (fun i hi=>(bf i hi).pow k) hn j hj
theorem Qz{w:World}{v:Value}{n k:Nat}{f:Nat->Int}{oS:Option (Bool×Nat×Int)}(hn:n<=65536)(hk:k<=4)(hT:dH w)(bf:∀ i,i<n->Bd 2098 (f i))(h1:Rr w v n (fun i=>gV 1074 (f i)) oS) :
 As 96 #[v,.int .i64 (k:Nat)] w fun r w'=>aN 0 w' r (gV (1074*k) (tS (fun i=>f i^k) n))/\An w w':=by
 obtain⟨gx,ax,cx,rfl,hx,n1⟩:=h1;have hq:1074*k<=4296/\2098*k<=8392:=by omega
 refine Ej w n k gx ax cx oS _ (hid fun u hu k0 k1=>?_);refine Mq u n w.heap.size (w.heap.size+1) (fun i=>gV (1074*k) (f i^k)) (fun i=>gV (1074*k) (tS (fun i=>f i^k) i)) hn (hT.belows hu) (fun i hi=>aZ (by omega) (by omega) ((bf i hi).pow k)) (fun i hi=>aZ (by omega) (by omega) (vW bf hn hk i hi)) (fun i hi=>uN (by omega) (by omega) (vW bf hn hk i (by omega)) (((bf i hi).pow k).mono (by omega))) (o6 _).symm (hid fun i v hi hv=>?_);have hv2:An w v:=hu.trans (hv.mono hu.size);exact Ms i n k w.heap.size (w.heap.size+1) gx (fun i=>gV 1074 (f i)) (gV (1074*k) (f i^k)) v hi hn (hid fun y a d hy hN=>pQ (by omega) (by decide) (by decide) (bf i hi) (hT.belows (hv2.trans (hy.mono hv2.size))) hN) (jA k0 hv) (jA k1 hv) (hx.below hv2)
structure El (u v:World) (n k h0 h1 h2 h3 gx:Nat) (ax:Option Addr) (cx:Nat) (A:Nat->Option (Bool×Nat×Int)) (oN oS oL:Option (Bool×Nat×Int)):Prop where
 n0:Lo v h0 oN
 x0:Bl v h1 62 [.slice (some ⟨gx,0,none⟩) n n,.bool (dN oS),.slice ax (ws (dX oS)).length cx,.int .i64 (dE oS)]
 dr:Dr v gx n n A
 nt:Nt 0 v (.slice ax (ws (dX oS)).length cx) (dX oS)
 k0:Bl v h2 3 [.int .i64 (k:Nat)]
 l0:Lo v h3 oL
 z0:Lo v u.heap.size gG
 b:An u v
theorem El.below{u v y:World}{n k h0 h1 h2 h3 gx:Nat}{ax:Option Addr}{cx:Nat}{A:Nat->Option (Bool×Nat×Int)}{oN oS oL:Option (Bool×Nat×Int)}(h:El u v n k h0 h1 h2 h3 gx ax cx A oN oS oL)(hb:An v y):El u y n k h0 h1 h2 h3 gx ax cx A oN oS oL :=
 ⟨h.n0.below hb,h.x0.below hb h.x0.lt,h.dr.below hb,h.nt.below hb,h.k0.below hb h.k0.lt,h.l0.below hb,h.z0.below hb,h.b.trans (hb.mono h.b.size)⟩
theorem El.other{u v:World}{n k h0 h1 h2 h3 gx g:Nat}{ax:Option Addr}{cx:Nat}{A:Nat->Option (Bool×Nat×Int)}{oN oS oL q:Option (Bool×Nat×Int)}(h:El u v n k h0 h1 h2 h3 gx ax cx A oN oS oL)(hL:Lo v g q)(hg:u.heap.size<g)(H:h0<u.heap.size/\h1<u.heap.size/\h2<u.heap.size/\h3<u.heap.size/\gx<u.heap.size)(x y z:Value):El u (dh v g x y z) n k h0 h1 h2 h3 gx ax cx A oN oS oL:=by
 have hb:=kI g v x y z;obtain⟨a0,c0,hD,hM⟩:=hL;exact⟨h.n0.other ⟨a0,c0,hD,hM⟩ (by omega) _ _ _,h.x0.but hb (by omega),h.dr.but (T:=37) (L:=[_,_,_]) hb hD (by omega) (by decide),h.nt.rR hD _ _ _,h.k0.but hb (by omega),h.l0.other ⟨a0,c0,hD,hM⟩ (by omega) _ _ _,h.z0.other ⟨a0,c0,hD,hM⟩ (by omega) _ _ _,di h.b h.b.size (by omega) _ _ _⟩
theorem Em (u:World) (n k j h0 h1 h2 h3 gx:Nat) (ax:Option Addr) (cx:Nat) (cb:Int) (A:Nat->Option (Bool×Nat×Int)) (oN oS oL oR1 oP oW oC oR2 oX oA:Option (Bool×Nat×Int)) (hT:dH u) (hj:j<=k) (hk:k<=4)
 (FF:Aside (Fm oR1/\Fm oP/\Fm oW/\Fm oC/\Fm oR2/\Fm oX/\Fm oA)) (EE:Aside (dY oR1 oP=oW/\dY oW oR2=oX/\dY oC oX=oA))
 (HR1:Hid (∀ (v:World) (a:Option Addr) (d:Nat),dH v->Nt 0 v (.slice a (ws (dX oN)).length d) (dX oN)->As 51 #[.agg #[.bool (dN oN),.slice a (ws (dX oN)).length d,.int .i64 (dE oN)],.int .i64 (j:Nat)] v fun r w'=>aN 0 w' r oR1/\An v w'))
 (HPw:Hid (∀ v:World,dH v->Rr v (.agg #[.slice (some ⟨gx,0,none⟩) n n,.bool (dN oS),.slice ax (ws (dX oS)).length cx,.int .i64 (dE oS)]) n A oS->As 96 #[.agg #[.slice (some ⟨gx,0,none⟩) n n,.bool (dN oS),.slice ax (ws (dX oS)).length cx,.int .i64 (dE oS)],.int .i64 (j:Nat)] v fun r w'=>aN 0 w' r oP/\An v w'))
 (HOv:Hid (∀ v:World,Ax 97 #[.int .i64 (k:Nat),.int .i64 (j:Nat)] v (.int .i64 cb)))
 (HI:Hid (∀ v:World,dH v->As 52 #[.int .i64 cb] v fun r w'=>aN 0 w' r oC/\An v w'))
 (HR2:Hid (∀ (v:World) (a:Option Addr) (d:Nat),dH v->Nt 0 v (.slice a (ws (dX oL)).length d) (dX oL)->As 51 #[.agg #[.bool (dN oL),.slice a (ws (dX oL)).length d,.int .i64 (dE oL)],.int .i64 ((k:Int)-(j:Int))] v fun r w'=>aN 0 w' r oR2/\An v w'))
 (B1:Lo u h0 oN) (B2:Bl u h1 62 [.slice (some ⟨gx,0,none⟩) n n,.bool (dN oS),.slice ax (ws (dX oS)).length cx,.int .i64 (dE oS)]) (B3:Dr u gx n n A) (B4:Nt 0 u (.slice ax (ws (dX oS)).length cx) (dX oS)) (B5:Bl u h2 3 [.int .i64 (k:Nat)]) (B6:Lo u h3 oL) :
 As 95 #[.int .i64 (j:Nat),.pointer (some ⟨h0,0,none⟩),.pointer (some ⟨h1,0,none⟩),.pointer (some ⟨h2,0,none⟩),.pointer (some ⟨h3,0,none⟩)] u fun r w'=>aN 0 w' r oA/\An u w':=by
 obtain⟨W,hW⟩:=af (u.alloc (Obj.cells #[.bool false,.slice none 0 0,.int .i64 0] 37));have HL:Aside (h0<u.heap.size/\h1<u.heap.size/\h2<u.heap.size/\h3<u.heap.size/\gx<u.heap.size):=⟨B1.lt,B2.lt,B5.lt,B6.lt,B3.lt⟩
 have H0:Aside (El u W n k h0 h1 h2 h3 gx ax cx A oN oS oL):=by
  rw[hW];exact⟨B1.below (ae _ _),B2.alloc _,B3.below (ae _ _),B4.below (ae _ _),B5.alloc _,B6.below (ae _ _),Lo.zero _,ae _ _⟩
 have HW:=ak hW;have HT:=ak hT;have hwr:IntKind.i64.wrap ((k:Int)-(j:Int))=(k:Int)-(j:Int):=by rw[zY];omega
 clear hW hT B1 B2 B3 B4 B5 B6;go_enter Tryz.func95,Tryz.ntmps95
 go_upto_region 1 with fail
 rw[<-HW.o];clear HW
 go_cut [7] from 8 to 14 (fun q wx=>∃ g7:Nat,q=.pointer (some ⟨g7,0,none⟩)/\Aside (Lo wx g7 oW/\El u wx n k h0 h1 h2 h3 gx ax cx A oN oS oL/\u.heap.size<g7))
 case first =>
  have hdr:=(aB W.heap.size W).drew;obtain⟨p1,q1,D1,M1⟩:=(H0.o.below hdr).n0;have kS:Aside (W.drew.cell? ⟨h0,0,none⟩=some (.bool (dN oN))/\W.drew.cell? ⟨h0,1,none⟩=some (.slice p1 (ws (dX oN)).length q1)/\W.drew.cell? ⟨h0,2,none⟩=some (.int .i64 (dE oN))/\W.drew.cell? ⟨h1,0,none⟩=some (.slice (some ⟨gx,0,none⟩) n n)/\W.drew.cell? ⟨h1,1,none⟩=some (.bool (dN oS))/\W.drew.cell? ⟨h1,2,none⟩=some (.slice ax (ws (dX oS)).length cx)/\W.drew.cell? ⟨h1,3,none⟩=some (.int .i64 (dE oS))):=⟨D1.facts.1,D1.facts.2.1,D1.facts.2.2.1,(H0.o.below hdr).x0.cell 0 _ rfl,(H0.o.below hdr).x0.cell 1 _ rfl,(H0.o.below hdr).x0.cell 2 _ rfl,(H0.o.below hdr).x0.cell 3 _ rfl⟩;have BD:=aJ (H0.o.below hdr) M1;clear hdr D1 M1 H0;refine dz (fun w'=>w'.cell? ⟨h0,0,none⟩=some (.bool (dN oN))/\w'.cell? ⟨h0,1,none⟩=some (.slice p1 (ws (dX oN)).length q1)/\w'.cell? ⟨h0,2,none⟩=some (.int .i64 (dE oN))/\w'.cell? ⟨h1,0,none⟩=some (.slice (some ⟨gx,0,none⟩) n n)/\w'.cell? ⟨h1,1,none⟩=some (.bool (dN oS))/\w'.cell? ⟨h1,2,none⟩=some (.slice ax (ws (dX oS)).length cx)/\w'.cell? ⟨h1,3,none⟩=some (.int .i64 (dE oS))) 8 (by kernel_rfl) ?_;obtain⟨Wd,hWd⟩:=af (W.drew);rw[<-hWd] at BD kS |-;clear hWd
  refine tk 0 [2,6] rfl kS.o ?_;try simp only[Act.put,sa,sb,sc]
  refine tk 1 [2,6] rfl kS.o ?_;try simp only[Act.put,sa,sb,sc]
  refine tk 3 [5,6] rfl kS.o ?_;try simp only[Act.put,sa,sb,sc]
  refine tk 4 [5,6] rfl kS.o ?_;try simp only[Act.put,sa,sb,sc]
  refine aU (i:=2) (j:=7) (by kernel_rfl) rfl rfl (fun K' hK=>?_) (fun K' hK=>?_)
  · skip;have C:=hid (HR1.o Wd p1 q1 (HT.o.belows BD.o.1.b) BD.o.2);go_simp;refine C.o.mono ?_;rintro r u1 ⟨hd,hb⟩;obtain⟨a1,c1,rfl,hN⟩:=hd.aD;have BD:=bO (BD.o.1.below hb) (BD.o.2.below hb) hN;have kS:=ak (ck hb kS.o fun h=>l9 hb h);clear hb hd hN C;dsimp only;refine hK.out _ _ (fun _=>kS.o) ?_;clear hK K'
    try simp only[Act.put,sa,sb,sc]
    refine aU (i:=5) (j:=7) (by kernel_rfl) rfl rfl (fun K' hK=>?_) (fun K' hK=>?_)
    · skip;have C:=hid (HPw.o u1 (HT.o.belows BD.o.1.b) ⟨gx,ax,cx,rfl,BD.o.1.dr,BD.o.1.nt⟩);go_simp;refine C.o.mono ?_;rintro r u2 ⟨hd,hb⟩;obtain⟨a2,c2,rfl,hN⟩:=hd.aD;have BD:=fE (BD.o.1.below hb) (BD.o.2.1.below hb) (BD.o.r2.below hb) hN;have kS:=ak (ck hb kS.o fun h=>l9 hb h);clear hb hd hN C;dsimp only;refine hK.out _ _ (fun _=>kS.o) ?_;clear hK K'
      try simp only[Act.put,sa,sb,sc]
      refine aU (i:=6) (j:=7) (by kernel_rfl) rfl rfl (fun K' hK=>?_) (fun K' hK=>?_)
      · skip;have C:=hid (gT FF.o.1 FF.o.2.1 FF.o.r2.1 BD.o.r2.1 BD.o.r3 (HT.o.belows BD.o.1.b) EE.o.1);go_simp;refine C.o.mono ?_;rintro r u3 ⟨hd,hb⟩;obtain⟨a3,c3,rfl,hN⟩:=hd.aD;have BD:=dJ (BD.o.1.below hb) (BD.o.2.1.below hb) (BD.o.r2.1.below hb) (BD.o.r3.below hb) hN;have kS:=ak (ck hb kS.o fun h=>l9 hb h);clear hb hd hN C;dsimp only;refine hK.out _ _ (fun _=>kS.o) ?_;clear hK K'
        try simp only[Act.put,sa,sb,sc]
        refine ah (i:=7) (by kernel_rfl) rfl (fun K' hK=>?_);go_simp;obtain⟨g4,hg4⟩:=af (u3.heap.size);obtain⟨V4,su⟩:=af (u3.alloc (Obj.cells #[.bool false,.slice none 0 0,.int .i64 0] 37));have hb:Below u3.heap.size u3 V4:=by rw[su];exact ae _ _
        have hZ:Lo V4 g4 gG:=by rw[su,hg4];exact Lo.zero _
        have BD:=jY (BD.o.1.below hb) (BD.o.2.1.below hb) (BD.o.r2.1.below hb) (BD.o.r3.1.below hb) (BD.o.r4.below hb) hZ (show u.heap.size<g4 by rw[hg4];exact BD.o.1.z0.lt);have kS:=ak (ck hb kS.o fun h=>l9 hb h);have HV:=(aJ su hg4);clear hZ hb su hg4;refine hK.out _ _ (fun _=>by rw[<-HV.o.1];exact kS.o) ?_;clear hK K';rw[<-HV.o.1,<-HV.o.2];clear HV
        try simp only[Act.put,sa,sb,sc]
        obtain⟨zp,zq,DZ,MZ⟩:=BD.o.r5.1;obtain⟨z0,z1,z2,dO,dP,dQ⟩:=DZ.facts;clear DZ MZ;refine ah (i:=8) (by kernel_rfl) rfl (fun K' hK=>?_);go_simp;refine hK.out _ _ (fun h=>absurd h (by decide)) ?_;clear hK K' z0 z1 z2 dO dP dQ kS;refine aH (by kernel_rfl) ?_ _;go_wp2_with fail
        go_meet
        case rel=>exact⟨g4,rfl,BD.o.r5.1.set BD.o.r4.1,BD.o.1.other BD.o.r5.1 BD.o.r6 HL.o _ _ _,BD.o.r6⟩
      · skip;go_simp;obtain⟨g5,hg5⟩:=af (u2.heap.size);obtain⟨V5,vX⟩:=af (u2.alloc (Obj.cells #[.bool false,.slice none 0 0,.int .i64 0] 37));have hb:Below u2.heap.size u2 V5:=by rw[vX];exact ae _ _
        have hZ:Lo V5 g5 gG:=by rw[vX,hg5];exact Lo.zero _
        have BD:=iC (BD.o.1.below hb) (BD.o.2.1.below hb) (BD.o.r2.1.below hb) (BD.o.r3.below hb) hZ (show u.heap.size<g5 by rw[hg5];exact BD.o.1.z0.lt);have kS:=ak (ck hb kS.o fun h=>l9 hb h);have HV:=(aJ vX hg5);clear hZ hb vX hg5;refine hK.out _ _ (fun _=>by rw[<-HV.o.1];exact kS.o) ?_;clear hK K';rw[<-HV.o.1,<-HV.o.2];clear HV
        try simp only[Act.put,sa,sb,sc]
        refine ah (i:=6) (by kernel_rfl) rfl (fun K' hK=>?_);have C:=hid (gT FF.o.1 FF.o.2.1 FF.o.r2.1 BD.o.r2.1 BD.o.r3.1 (HT.o.belows BD.o.1.b) EE.o.1);go_simp;refine C.o.mono ?_;rintro r u6 ⟨hd,hb⟩;obtain⟨a6,c6,rfl,hN⟩:=hd.aD;have BD:=jY (BD.o.1.below hb) (BD.o.2.1.below hb) (BD.o.r2.1.below hb) (BD.o.r3.1.below hb) (BD.o.r4.1.below hb) BD.o.r5 hN;have kS:=ak (ck hb kS.o fun h=>l9 hb h);clear hb hd hN C;dsimp only;refine hK.out _ _ (fun _=>kS.o) ?_;clear hK K'
        try simp only[Act.put,sa,sb,sc]
        obtain⟨zp,zq,DZ,MZ⟩:=BD.o.r4.1;obtain⟨z0,z1,z2,dO,dP,dQ⟩:=DZ.facts;clear DZ MZ;refine ah (i:=8) (by kernel_rfl) rfl (fun K' hK=>?_);go_simp;refine hK.out _ _ (fun h=>absurd h (by decide)) ?_;clear hK K' z0 z1 z2 dO dP dQ kS;refine aH (by kernel_rfl) ?_ _;go_wp2_with fail
        go_meet
        case rel=>exact⟨g5,rfl,BD.o.r4.1.set BD.o.r6,BD.o.1.other BD.o.r4.1 BD.o.r5.1 HL.o _ _ _,BD.o.r5.1⟩
    · skip;go_simp;obtain⟨g7,mo⟩:=af (u1.heap.size);obtain⟨V7,vY⟩:=af (u1.alloc (Obj.cells #[.bool false,.slice none 0 0,.int .i64 0] 37));have hb:Below u1.heap.size u1 V7:=by rw[vY];exact ae _ _
      have hZ:Lo V7 g7 gG:=by rw[vY,mo];exact Lo.zero _
      have BD:=dJ (BD.o.1.below hb) (BD.o.2.1.below hb) (BD.o.r2.below hb) hZ (show u.heap.size<g7 by rw[mo];exact BD.o.1.z0.lt);have kS:=ak (ck hb kS.o fun h=>l9 hb h);have HV:=(aJ vY mo);clear hZ hb vY mo;refine hK.out _ _ (fun _=>by rw[<-HV.o.1];exact kS.o) ?_;clear hK K';rw[<-HV.o.1,<-HV.o.2];clear HV
      try simp only[Act.put,sa,sb,sc]
      refine ah (i:=5) (by kernel_rfl) rfl (fun K' hK=>?_);have C:=hid (HPw.o V7 (HT.o.belows BD.o.1.b) ⟨gx,ax,cx,rfl,BD.o.1.dr,BD.o.1.nt⟩);go_simp;refine C.o.mono ?_;rintro r u8 ⟨hd,hb⟩;obtain⟨a8,c8,rfl,hN⟩:=hd.aD;have BD:=iC (BD.o.1.below hb) (BD.o.2.1.below hb) (BD.o.r2.1.below hb) (BD.o.r3.1.below hb) BD.o.r4 hN;have kS:=ak (ck hb kS.o fun h=>l9 hb h);clear hb hd hN C;dsimp only;refine hK.out _ _ (fun _=>kS.o) ?_;clear hK K'
      try simp only[Act.put,sa,sb,sc]
      refine ah (i:=6) (by kernel_rfl) rfl (fun K' hK=>?_);have C:=hid (gT FF.o.1 FF.o.2.1 FF.o.r2.1 BD.o.r2.1 BD.o.r5 (HT.o.belows BD.o.1.b) EE.o.1);go_simp;refine C.o.mono ?_;rintro r u9 ⟨hd,hb⟩;obtain⟨a9,c9,rfl,hN⟩:=hd.aD;have BD:=jY (BD.o.1.below hb) (BD.o.2.1.below hb) (BD.o.r2.1.below hb) (BD.o.r3.1.below hb) BD.o.r4.1 (BD.o.r5.below hb) hN;have kS:=ak (ck hb kS.o fun h=>l9 hb h);clear hb hd hN C;dsimp only;refine hK.out _ _ (fun _=>kS.o) ?_;clear hK K'
      try simp only[Act.put,sa,sb,sc]
      obtain⟨zp,zq,DZ,MZ⟩:=BD.o.r3.1;obtain⟨z0,z1,z2,dO,dP,dQ⟩:=DZ.facts;clear DZ MZ;refine ah (i:=8) (by kernel_rfl) rfl (fun K' hK=>?_);go_simp;refine hK.out _ _ (fun h=>absurd h (by decide)) ?_;clear hK K' z0 z1 z2 dO dP dQ kS;refine aH (by kernel_rfl) ?_ _;go_wp2_with fail
      go_meet
      case rel=>exact⟨g7,rfl,BD.o.r3.1.set BD.o.r6,BD.o.1.other BD.o.r3.1 BD.o.r4.1 HL.o _ _ _,BD.o.r4.1⟩
  · skip;go_simp;obtain⟨g10,jX⟩:=af (Wd.heap.size);obtain⟨G9,nL⟩:=af (Wd.alloc (Obj.cells #[.bool false,.slice none 0 0,.int .i64 0] 37));have hb:Below Wd.heap.size Wd G9:=by rw[nL];exact ae _ _
    have hZ:Lo G9 g10 gG:=by rw[nL,jX];exact Lo.zero _
    have BD:=fE (BD.o.1.below hb) (BD.o.2.below hb) hZ (show u.heap.size<g10 by rw[jX];exact BD.o.1.z0.lt);have kS:=ak (ck hb kS.o fun h=>l9 hb h);have HV:=(aJ nL jX);clear hZ hb nL jX;refine hK.out _ _ (fun _=>by rw[<-HV.o.1];exact kS.o) ?_;clear hK K';rw[<-HV.o.1,<-HV.o.2];clear HV
    try simp only[Act.put,sa,sb,sc]
    refine ah (i:=2) (by kernel_rfl) rfl (fun K' hK=>?_);have C:=hid (HR1.o G9 p1 q1 (HT.o.belows BD.o.1.b) BD.o.2.1);go_simp;refine C.o.mono ?_;rintro r Eo ⟨hd,hb⟩;obtain⟨VS,c11,rfl,hN⟩:=hd.aD;have BD:=dJ (BD.o.1.below hb) (BD.o.2.1.below hb) (BD.o.r2.1.below hb) BD.o.r3 hN;have kS:=ak (ck hb kS.o fun h=>l9 hb h);clear hb hd hN C;dsimp only;refine hK.out _ _ (fun _=>kS.o) ?_;clear hK K'
    try simp only[Act.put,sa,sb,sc]
    refine ah (i:=5) (by kernel_rfl) rfl (fun K' hK=>?_);have C:=hid (HPw.o Eo (HT.o.belows BD.o.1.b) ⟨gx,ax,cx,rfl,BD.o.1.dr,BD.o.1.nt⟩);go_simp;refine C.o.mono ?_;rintro r ZG ⟨hd,hb⟩;obtain⟨a12,c12,rfl,hN⟩:=hd.aD;have BD:=iC (BD.o.1.below hb) (BD.o.2.1.below hb) (BD.o.r2.1.below hb) BD.o.r3.1 (BD.o.r4.below hb) hN;have kS:=ak (ck hb kS.o fun h=>l9 hb h);clear hb hd hN C;dsimp only;refine hK.out _ _ (fun _=>kS.o) ?_;clear hK K'
    try simp only[Act.put,sa,sb,sc]
    refine ah (i:=6) (by kernel_rfl) rfl (fun K' hK=>?_);have C:=hid (gT FF.o.1 FF.o.2.1 FF.o.r2.1 BD.o.r4.1 BD.o.r5 (HT.o.belows BD.o.1.b) EE.o.1);go_simp;refine C.o.mono ?_;rintro r Ep ⟨hd,hb⟩;obtain⟨a13,c13,rfl,hN⟩:=hd.aD;have BD:=jY (BD.o.1.below hb) (BD.o.2.1.below hb) (BD.o.r2.1.below hb) BD.o.r3.1 (BD.o.r4.1.below hb) (BD.o.r5.below hb) hN;have kS:=ak (ck hb kS.o fun h=>l9 hb h);clear hb hd hN C;dsimp only;refine hK.out _ _ (fun _=>kS.o) ?_;clear hK K'
    try simp only[Act.put,sa,sb,sc]
    obtain⟨zp,zq,DZ,MZ⟩:=BD.o.r2.1;obtain⟨z0,z1,z2,dO,dP,dQ⟩:=DZ.facts;clear DZ MZ;refine ah (i:=8) (by kernel_rfl) rfl (fun K' hK=>?_);go_simp;refine hK.out _ _ (fun h=>absurd h (by decide)) ?_;clear hK K' z0 z1 z2 dO dP dQ kS;refine aH (by kernel_rfl) ?_ _;go_wp2_with fail
    go_meet
    case rel=>exact⟨g10,rfl,BD.o.r2.1.set BD.o.r6,BD.o.1.other BD.o.r2.1 BD.o.r3.1 HL.o _ _ _,BD.o.r3.1⟩
 obtain⟨g7,rfl,K1⟩:=hcut;obtain⟨U,hU⟩:=af wc;rw[<-hU] at K1 |-;clear hU H0 HR1 HPw;have hdr:=(aB U.heap.size U).drew;obtain⟨p7,q7,D7,M7⟩:=K1.o.1.below hdr;obtain⟨p3,q3,D3,M3⟩:=(K1.o.2.1.below hdr).l0;have kS:Aside (U.drew.cell? ⟨h2,0,none⟩=some (.int .i64 (k:Nat))/\U.drew.cell? ⟨g7,0,none⟩=some (.bool (dN oW))/\U.drew.cell? ⟨g7,1,none⟩=some (.slice p7 (ws (dX oW)).length q7)/\U.drew.cell? ⟨g7,2,none⟩=some (.int .i64 (dE oW))/\U.drew.cell? ⟨h3,0,none⟩=some (.bool (dN oL))/\U.drew.cell? ⟨h3,1,none⟩=some (.slice p3 (ws (dX oL)).length q3)/\U.drew.cell? ⟨h3,2,none⟩=some (.int .i64 (dE oL))):=⟨(K1.o.2.1.below hdr).k0.cell 0 _ rfl,D7.facts.1,D7.facts.2.1,D7.facts.2.2.1,D3.facts.1,D3.facts.2.1,D3.facts.2.2.1⟩;have BD:=bO (K1.o.2.1.below hdr) M7 M3;have C1:=hid (HOv.o U.drew);clear D7 D3 M7 M3
 go_upto_region 2 with fail
 go_region_held3 (fun w'=>w'.cell? ⟨h2,0,none⟩=some (.int .i64 (k:Nat))/\w'.cell? ⟨g7,0,none⟩=some (.bool (dN oW))/\w'.cell? ⟨g7,1,none⟩=some (.slice p7 (ws (dX oW)).length q7)/\w'.cell? ⟨g7,2,none⟩=some (.int .i64 (dE oW))/\w'.cell? ⟨h3,0,none⟩=some (.bool (dN oL))/\w'.cell? ⟨h3,1,none⟩=some (.slice p3 (ws (dX oL)).length q3)/\w'.cell? ⟨h3,2,none⟩=some (.int .i64 (dE oL))) (first | with_reducible exact kS.o | with_reducible exact kT.o) (first
  | (go_at_call 97
     with_reducible refine C1.o.mono ?_
     rintro r v ⟨rfl,hv⟩;rw[hv];have C2:=hid (HI.o U.drew (HT.o.belows BD.o.1.b))
     clear hv v C1)
  | (go_at_call 52
     with_reducible refine C2.o.mono ?_
     rintro r v1 ⟨hd,hb⟩;obtain⟨a1,c1,rfl,hN⟩:=hd.aD;have BD:=fE (BD.o.1.below hb) (BD.o.2.1.below hb) (BD.o.r2.below hb) hN;have kS:=ak (ck hb kS.o fun h=>l9 hb h);have C3:=hid (HR2.o v1 p3 q3 (HT.o.belows BD.o.1.b) BD.o.r2.1)
     clear hb hd hN C2)
  | (go_at_call 51
     with_reducible refine C3.o.mono ?_
     rintro r v2 ⟨hd,hb⟩;obtain⟨a3,c3,rfl,hN⟩:=hd.aD;have BD:=dJ (BD.o.1.below hb) (BD.o.2.1.below hb) (BD.o.r2.1.below hb) (BD.o.r3.below hb) hN;have kS:=ak (ck hb kS.o fun h=>l9 hb h);have C4:=hid (gT FF.o.r2.1 FF.o.r4.1 FF.o.r5.1 BD.o.2.1 BD.o.r4 (HT.o.belows BD.o.1.b) EE.o.2.1)
     clear hb hd hN C3)
  | (go_at_call 40
     with_reducible refine C4.o.mono ?_
     rintro r v3 ⟨hd,hb⟩;obtain⟨a4,c4,rfl,hN⟩:=hd.aD;have BD:=dJ (BD.o.1.below hb) (BD.o.2.1.below hb) (BD.o.r2.1.below hb) (BD.o.r3.1.below hb) hN;have kS:=ak (ck hb kS.o fun h=>l9 hb h);have C5:=hid (gT FF.o.r3.1 FF.o.r5.1 FF.o.r6 BD.o.r3.1 BD.o.r4 (HT.o.belows BD.o.1.b) EE.o.r2)
     clear hb hd hN C4)
  | (go_at_call 40
     with_reducible refine C5.o.mono ?_
     rintro r v4 ⟨hd,hb⟩;obtain⟨a5,c5,rfl,hN⟩:=hd.aD;have BD:=fE (BD.o.1.below hb) (BD.o.2.1.below hb) (BD.o.r2.1.below hb) hN;have kS:=ak (ck hb kS.o fun h=>l9 hb h);have kT:=jY (lG (g:=u.heap.size) (x:=.bool (dN oA)) (y:=.slice a5 (ws (dX oA)).length c5) (z:=.int .i64 (dE oA)) kS.o.1 (dR HL.o.r2.1)) (lG (g:=u.heap.size) (x:=.bool (dN oA)) (y:=.slice a5 (ws (dX oA)).length c5) (z:=.int .i64 (dE oA)) kS.o.2.1 (ky K1.o.r2)) (lG (g:=u.heap.size) (x:=.bool (dN oA)) (y:=.slice a5 (ws (dX oA)).length c5) (z:=.int .i64 (dE oA)) kS.o.r2.1 (ky K1.o.r2)) (lG (g:=u.heap.size) (x:=.bool (dN oA)) (y:=.slice a5 (ws (dX oA)).length c5) (z:=.int .i64 (dE oA)) kS.o.r3.1 (ky K1.o.r2)) (lG (g:=u.heap.size) (x:=.bool (dN oA)) (y:=.slice a5 (ws (dX oA)).length c5) (z:=.int .i64 (dE oA)) kS.o.r4.1 (dR HL.o.r3.1)) (lG (g:=u.heap.size) (x:=.bool (dN oA)) (y:=.slice a5 (ws (dX oA)).length c5) (z:=.int .i64 (dE oA)) kS.o.r5.1 (dR HL.o.r3.1)) (lG (g:=u.heap.size) (x:=.bool (dN oA)) (y:=.slice a5 (ws (dX oA)).length c5) (z:=.int .i64 (dE oA)) kS.o.r6 (dR HL.o.r3.1));obtain⟨zp,zq,DZ,MZ⟩:=BD.o.1.z0;obtain⟨z0,z1,z2,dO,dP,dQ⟩:=DZ.facts;clear DZ MZ
     clear hb hd hN C5))
 go_wp2;exact iL Tryz.results95 rfl BD.o.1.z0 BD.o.1.b (aA _) BD.o.r3
end
end Go.Proofs.YteginbngplldaaaGreatDoor
