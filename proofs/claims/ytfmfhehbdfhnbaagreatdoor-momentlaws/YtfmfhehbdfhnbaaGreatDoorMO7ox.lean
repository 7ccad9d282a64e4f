import Derived.Test.YtfmfhehbdfhnbaaGreatDoorMO2x
import Derived.Test.YtfmfhehbdfhnbaaGreatDoorZ14x
import Derived.Test.YtfmfhehbdfhnbaaGreatDoorD39x
import Derived.Laws.CopyOwn
import Derived.Deep.OwnRows
import Derived.Laws.MakeOwn
import Derived.ArgAppend
import Derived.Maps.AppendAt
import Derived.WalkMore
import Derived.Deep.RegionWith
import Derived.Deep.Cut
import Derived.Test.YtfmfhehbdfhnbaaGreatDoorW25x
import Derived.Test.YtfmfhehbdfhnbaaGreatDoorW50x
import Derived.BigQuiet
import Derived.Test.YtfmfhehbdfhnbaaGreatDoorJ11x
import Derived.OwnWalk
set_option linter.unusedVariables false
set_option linter.unusedSimpArgs false
set_option maxHeartbeats 16000000
set_option maxRecDepth 20000
namespace Go.Proofs.YtfmfhehbdfhnbaaGreatDoor
namespace J
end J
section
open Go Go.RowKit J
theorem ZO (w:World) (n:Int) (np ns nt:Bool) (ap az at':Option Addr) (lp cp ls cs lt ct:Nat) (ep es et:Int) (oI o1 o2 o3:Option (Bool×Nat×Int)) (e1 e2 e3:Int)
 (HI:Hid (∀ u:World,Below w.heap.size w u->Calls Tryz.prog 48 #[.int .i64 n] u fun r w'=>bI 0 w' r oI/\Below u.heap.size u w'))
 (KT:Hid (∀ (u:World) (a:Option Addr) (c:Nat),Below w.heap.size w u->Nt 0 u (.slice a (ws (dX oI)).length c) (dX oI)->Calls Tryz.prog 56 #[.agg #[.bool (dN oI),.slice a (ws (dX oI)).length c,.int .i64 (dE oI)],.agg #[.bool np,.slice ap lp cp,.int .i64 ep]] u fun r w'=>pG w' r o1 e1/\Below u.heap.size u w'))
 (Yh:Hid (∀ u:World,Below w.heap.size w u->Calls Tryz.prog 56 #[.agg #[.bool ns,.slice az ls cs,.int .i64 es],.agg #[.bool nt,.slice at' lt ct,.int .i64 et]] u fun r w'=>pG w' r o2 e2/\Below u.heap.size u w'))
 (HS:Hid (∀ (u:World) (a b:Option Addr) (c d:Nat),Below w.heap.size w u->Nt 0 u (.slice a (ws (dX o1)).length c) (dX o1)->Nt 0 u (.slice b (ws (dX o2)).length d) (dX o2)->Calls Tryz.prog 57 #[.agg #[.bool (dN o1),.slice a (ws (dX o1)).length c,.int .i64 (dE o1)],.agg #[.bool (dN o2),.slice b (ws (dX o2)).length d,.int .i64 (dE o2)]] u fun r w'=>pG w' r o3 e3/\Below u.heap.size u w')) (x1:e1=0) (x2:e2=0) :
 Calls Tryz.prog 26 #[.int .i64 n,.agg #[.bool np,.slice ap lp cp,.int .i64 ep],.agg #[.bool ns,.slice az ls cs,.int .i64 es],.agg #[.bool nt,.slice at' lt ct,.int .i64 et]] w fun r w'=>pG w' r o3 e3/\Below w.heap.size w w':=by
 obtain⟨W,hW⟩:=ah ((((w.alloc (Obj.cells #[.bool np,.slice ap lp cp,.int .i64 ep] 25)).alloc (Obj.cells #[.bool ns,.slice az ls cs,.int .i64 es] 25)).alloc (Obj.cells #[.bool nt,.slice at' lt ct,.int .i64 et] 25)).alloc (Obj.cells zD3 25))
 have H0:Aside (uq w W np ns nt ap az at' lp cp ls cs lt ct ep es et):=by
  exact J1
 have HW:=aA hW;clear hW;subst x1;subst x2;go_enter Tryz.func26,Tryz.ntmps26
 go_upto_region 1 with fail
 rw[<-HW.o];clear HW
 go_cut [10,11] from 13 to 19 (fun q e wx=>∃ gq:Nat,q=.pointer (some ⟨gq,0,none⟩)/\e=.int .i64 0/\Aside (Lo wx gq o1/\uq w wx np ns nt ap az at' lp cp ls cs lt ct ep es et/\w.heap.size+3<gq))
 case first =>
  exact ZD
 obtain⟨gq,rfl,rfl,K1⟩:=hcut;obtain⟨U,hU⟩:=ah wc;rw[<-hU] at K1 |-;clear hU H0
 go_upto_region 4 with fail
 obtain⟨x0,x1,x2,dw,dz,dA⟩:=K1.o.2.1.s.facts;obtain⟨y0,y1,y2,dF,dG,dH⟩:=K1.o.2.1.t.facts;have C:=hid (Yh.o U K1.o.2.1.b);go_wp2_with fail;refine C.o.mono ?_;rintro r u3 ⟨hd,hb⟩;obtain⟨a5,c5,rfl,wX⟩:=hd.aL;obtain⟨V,hV⟩:=ah (u3.alloc (Obj.cells #[.bool (dN o2),.slice a5 (ws (dX o2)).length c5,.int .i64 (dE o2)] 25));obtain⟨gr,hgr⟩:=ah (u3.heap.size)
 have K2:Aside (Lo V gq o1/\uq w V np ns nt ap az at' lp cp ls cs lt ct ep es et/\Lo V gr o2):=by
  exact Qas
 have HV:=(aP hV hgr);clear hV hgr hb hd wX C x0 x1 x2 dw dz dA y0 y1 y2 dF dG dH K1
 go_upto_region 5 with fail
 rw[<-HV.o.1,<-HV.o.2];clear HV
 go_upto_region 7 with fail
 obtain⟨p1,q1,D1,M1⟩:=K2.o.1;obtain⟨p2,q2,D2,M2⟩:=K2.o.r2;obtain⟨x0,x1,x2,dw,dz,dA⟩:=D1.facts;obtain⟨y0,y1,y2,dF,dG,dH⟩:=D2.facts;have C:=hid (HS.o V p1 p2 q1 q2 K2.o.2.1.b M1 M2);clear D1 D2 M1 M2;go_wp2_with fail;refine C.o.mono ?_;rintro r u4 ⟨hd,hb⟩;obtain⟨a6,c6,rfl,De⟩:=hd.aL;have K3:=aP (K2.o.2.1.below hb) De;clear hb hd De C x0 x1 x2 dw dz dA y0 y1 y2 dF dG dH K2;obtain⟨p4,q4,D4,M4⟩:=K3.o.1.z;obtain⟨y0,y1,y2,dF,dG,dH⟩:=D4.facts;have HE:=dC (D4.set (dN o3) (.slice a6 (ws (dX o3)).length c6) (dE o3)) (K3.o.2.uj D4 (.bool (dN o3)) (.slice a6 (ws (dX o3)).length c6) (.int .i64 (dE o3))) (fB K3.o.1.b K3.o.1.b.size (show w.heap.size<=w.heap.size+3 by omega) (.bool (dN o3)) (.slice a6 (ws (dX o3)).length c6) (.int .i64 (dE o3)));unfold dM at HE;clear D4 M4;go_wp2;obtain⟨f0,f1,f2,_,_,_⟩:=HE.o.1.facts;exact aG (v:=.tuple #[.agg #[.bool (dN o3),.slice a6 (ws (dX o3)).length c6,.int .i64 (dE o3)],.int .i64 e3]) (by simp[results,Tryz.results26,go_sem,f0,f1,f2]) rfl ⟨⟨_,rfl,HE.o.2.1⟩,HE.o.r2⟩
theorem Ea{o p:Option (Bool×Nat×Int)}(h:(fu o p).isSome=true):mkS (dN (fu o p)) (dX (fu o p)) (dE (fu o p))=fu o p:=by
 cases o with
 | none=>cases h
 | some x =>
   cases p with
   | none=>cases h
   | some y=>exact zB (o:=fu (some x) (some y)) rfl h
theorem ni{w w':World}{p:Addr}{v:Value}(h:w.cell? p=some v)(hb:Below w.heap.size w w'):w'.cell? p=some v:=(hb.cell (p:=p) (mO w p h)).trans h
theorem ck{w u:World}(hb:Below w.heap.size w u){a b c d:Addr}{p q r s:Value}{R R':Prop}(h:w.cell? a=some p/\w.cell? b=some q/\w.cell? c=some r/\w.cell? d=some s/\R)(f:R->R'):u.cell? a=some p/\u.cell? b=some q/\u.cell? c=some r/\u.cell? d=some s/\R':=⟨ni h.1 hb,ni h.2.1 hb,ni h.2.2.1 hb,ni h.2.2.2.1 hb,f h.2.2.2.2⟩
theorem ck1{w u:World}(hb:Below w.heap.size w u){a:Addr}{p:Value}(h:w.cell? a=some p):u.cell? a=some p:=ni h hb
theorem ck2{w u:World}(hb:Below w.heap.size w u){a b:Addr}{p q:Value}(h:w.cell? a=some p/\w.cell? b=some q):u.cell? a=some p/\u.cell? b=some q:=⟨ni h.1 hb,ni h.2 hb⟩
theorem Bb{w u:World}(hb:Below w.heap.size w u){a b c:Addr}{p q r:Value}(h:w.cell? a=some p/\w.cell? b=some q/\w.cell? c=some r):u.cell? a=some p/\u.cell? b=some q/\u.cell? c=some r:=⟨ni h.1 hb,ni h.2.1 hb,ni h.2.2 hb⟩
theorem jX{w u:World}(hb:Below w.heap.size w u){a b c d:Addr}{p q r s:Value}(h:w.cell? a=some p/\w.cell? b=some q/\w.cell? c=some r/\w.cell? d=some s):u.cell? a=some p/\u.cell? b=some q/\u.cell? c=some r/\u.cell? d=some s:=⟨ni h.1 hb,ni h.2.1 hb,ni h.2.2.1 hb,ni h.2.2.2 hb⟩
theorem oF{w:World}{g:Nat}{x y z:Value}{p:Addr}{v:Value}(h:w.cell? p=some v)(hg:p.block≠g):(dM w g x y z).cell? p=some v:=by
 rw[CQ (a:=p) ((mG g w x y z).block p.block (mO w p h) hg)];exact h
theorem vM{o:Option (Bool×Nat×Int)}(h:o.isSome=true)(hr:mkS (dN o) (dX o) (dE o)=o):(ws (dX o)).length<=8192/\-9223372036854775808<=dE o/\dE o<=9223372036854775807:=by
 have F:=lN (n:=dN o) (X:=dX o) (e:=dE o) (by rw[hr];exact h);rw[hr] at F;have:=dS F;have:=F.up;have:=F.down;refine⟨ae,ae,ae⟩
theorem uw {w:World}{ap az at':Option Addr}{lp cp ls cs lt ct:Nat}{xs ys zs:List Nat}(n:Int) (np ns nt:Bool) (ep es et:Int) (h1:Arg w ap lp cp xs) (h2:Arg w az ls cs ys) (h3:Arg w at' lt ct zs) (hT:dU w)
 (hn:-9223372036854775808<=n/\n<=9223372036854775807) (b1:-9223372036854775808<=ep/\ep<=9223372036854775807) (b2:-9223372036854775808<=es/\es<=9223372036854775807) (b3:-9223372036854775808<=et/\et<=9223372036854775807) :
 Calls Tryz.prog 26 #[.int .i64 n,.agg #[.bool np,.slice ap lp cp,.int .i64 ep],.agg #[.bool ns,.slice az ls cs,.int .i64 es],.agg #[.bool nt,.slice at' lt ct,.int .i64 et]] w fun r w' =>
  pG w' r (uo (fu (gV 0 n) (mkS np (val xs) ep)) (fu (mkS ns (val ys) es) (mkS nt (val zs) et))) (o7 (uo (fu (gV 0 n) (mkS np (val xs) ep)) (fu (mkS ns (val ys) es) (mkS nt (val zs) et))))/\Below w.heap.size w w':=by
 have Fi:Fm (gV 0 n):=dJ (m:=63) aj aj (show Bd 63 n by unfold Bd;omega);have HI:=hid (fun(u:World) (hu:Below w.heap.size w u)=>zN n u (hT.belows hu) hn.1 hn.2)
 have KT:∀ (u:World) (a:Option Addr) (c:Nat),Below w.heap.size w u->Nt 0 u (.slice a (ws (dX (gV 0 n))).length c) (dX (gV 0 n))->Calls Tryz.prog 56 #[.agg #[.bool (dN (gV 0 n)),.slice a (ws (dX (gV 0 n))).length c,.int .i64 (dE (gV 0 n))],.agg #[.bool np,.slice ap lp cp,.int .i64 ep]] u fun r w'=>pG w' r (fu (gV 0 n) (mkS np (val xs) ep)) (o7 (fu (gV 0 n) (mkS np (val xs) ep)))/\Below u.heap.size u w':=fun u a c hu hN=>by
  have:=zi (Fi.a12 hN) (h1.below hu) (hT.belows hu) (dN (gV 0 n)) np (dE (gV 0 n)) ep Fi.qI.1 Fi.qI.2 b1.1 b1.2;rw[ak,Fi.re] at this;exact this.mono fun r w' h=>⟨h.1.ZN,h.2⟩
 have Yh:∀ u:World,Below w.heap.size w u->Calls Tryz.prog 56 #[.agg #[.bool ns,.slice az ls cs,.int .i64 es],.agg #[.bool nt,.slice at' lt ct,.int .i64 et]] u fun r w'=>pG w' r (fu (mkS ns (val ys) es) (mkS nt (val zs) et)) (o7 (fu (mkS ns (val ys) es) (mkS nt (val zs) et)))/\Below u.heap.size u w':=fun u hu =>
  (zi (h2.below hu) (h3.below hu) (hT.belows hu) ns nt es et b2.1 b2.2 b3.1 b3.2).mono fun r w' h=>⟨h.1.ZN,h.2⟩
 have R1:=Ea (o:=gV 0 n) (p:=mkS np (val xs) ep);have R2:=Ea (o:=mkS ns (val ys) es) (p:=mkS nt (val zs) et);generalize fu (gV 0 n) (mkS np (val xs) ep)=o1 at *;generalize fu (mkS ns (val ys) es) (mkS nt (val zs) et)=o2 at *
 have HS:o1.isSome=true->o2.isSome=true->∀ (u:World) (a b:Option Addr) (c d:Nat),Below w.heap.size w u->Nt 0 u (.slice a (ws (dX o1)).length c) (dX o1)->Nt 0 u (.slice b (ws (dX o2)).length d) (dX o2)->Calls Tryz.prog 57 #[.agg #[.bool (dN o1),.slice a (ws (dX o1)).length c,.int .i64 (dE o1)],.agg #[.bool (dN o2),.slice b (ws (dX o2)).length d,.int .i64 (dE o2)]] u fun r w'=>pG w' r (jv o1 (mkS (!dN o2) (dX o2) (dE o2))) (o7 (jv o1 (mkS (!dN o2) (dX o2) (dE o2))))/\Below u.heap.size u w':=fun q1 q2 u a b c d hu n1 n2=>by
  obtain⟨l1,r1,r1'⟩:=vM q1 (R1 q1);obtain⟨l2,r2,r2'⟩:=vM q2 (R2 q2);have:=Re (n1.aY ae).2 (n2.aY ae).2 (hT.belows hu) (dN o1) (dN o2) (dE o1) (dE o2) r1 r1' r2 r2';rw[ak,ak,R1 q1] at this;exact this.mono fun r w' h=>⟨h.1.ZN,h.2⟩
 unfold uo;have none14:∀ (u:World) (a b:Option Addr) (c d:Nat),Below w.heap.size w u->Nt 0 u (.slice a (ws (dX o1)).length c) (dX o1)->Nt 0 u (.slice b (ws (dX o2)).length d) (dX o2)->True:=fun _ _ _ _ _ _ _ _=>trivial
 cases q1:o1.isSome with
 | false =>
   have e1:=zS q1;rw[e1] at KT;exact WA w n np ns nt ap az at' lp cp ls cs lt ct ep es et (gV 0 n) o1 o2 2 (o7 o2) HI (hid KT) aj
 | true =>
   have e1:=zR q1;rw[e1] at KT
   cases q2:o2.isSome with
   | false =>
     have e2:=zS q2;rw[e2] at Yh;exact WB w n np ns nt ap az at' lp cp ls cs lt ct ep es et (gV 0 n) o1 o2 0 2 HI (hid KT) (hid Yh) rfl aj
   | true =>
     have e2:=zR q2;rw[e2] at Yh;exact ZO w n np ns nt ap az at' lp cp ls cs lt ct ep es et (gV 0 n) o1 o2 _ 0 0 _ HI (hid KT) (hid Yh) (hid (HS q1 q2)) rfl rfl
theorem ZP {w:World}{ap az at':Option Addr}{cp cs ct:Nat}{n:Nat}{P S T:Int}(hn:n<=65536) (bP:Bd 4212 P) (bS:Bd 2114 S) (bT:Bd 2114 T) (hT:dU w)
 (N1:Nt 0 w (.slice ap (ws (dX (gV 2148 P))).length cp) (dX (gV 2148 P))) (N2:Nt 0 w (.slice az (ws (dX (gV 1074 S))).length cs) (dX (gV 1074 S))) (N3:Nt 0 w (.slice at' (ws (dX (gV 1074 T))).length ct) (dX (gV 1074 T))) :
 Calls Tryz.prog 26 #[.int .i64 (n:Nat),.agg #[.bool (dN (gV 2148 P)),.slice ap (ws (dX (gV 2148 P))).length cp,.int .i64 (dE (gV 2148 P))],.agg #[.bool (dN (gV 1074 S)),.slice az (ws (dX (gV 1074 S))).length cs,.int .i64 (dE (gV 1074 S))],.agg #[.bool (dN (gV 1074 T)),.slice at' (ws (dX (gV 1074 T))).length ct,.int .i64 (dE (gV 1074 T))]] w fun r w' =>
  pG w' r (gV 2148 ((n:Int)*P-S*T)) 0/\Below w.heap.size w w':=by
 have F1:Fm (gV 2148 P):=dJ aj aj bP;have F2:Fm (gV 1074 S):=dJ aj aj bS;have F3:Fm (gV 1074 T):=dJ aj aj bT;have bn:Bd 16 (n:Int):=Bd.nat ae;have b1:Bd 4228 ((n:Int)*P):=(bn.mul bP).mono aj;have b2:Bd 4228 (S*T):=(bS.mul bT).mono aj;have F4:Fm (gV 2148 ((n:Int)*P)):=dJ aj aj b1;have F5:Fm (gV 2148 (S*T)):=dJ aj aj b2;have F6:Fm (gV 2148 ((n:Int)*P-S*T)):=dJ aj aj (b1.sub b2);have:=uw (n:Int) (dN (gV 2148 P)) (dN (gV 1074 S)) (dN (gV 1074 T)) (dE (gV 2148 P)) (dE (gV 1074 S)) (dE (gV 1074 T)) (F1.a12 N1) (F2.a12 N2) (F3.a12 N3) hT ae F1.qI F2.qI F3.qI;rw[ak,ak,ak,F1.re,F2.re,F3.re,mY aj aj aj aj bn bP,mY aj aj aj aj bS bT,eP] at this
 have e:uo (gV 2148 ((n:Int)*P)) (gV 2148 (S*T))=gV 2148 ((n:Int)*P-S*T):=by
  unfold uo;rw[F4.sm,F5.sm];exact Sg aj aj b1 b2
 rw[e,F6.er] at this;exact this
theorem OO (w:World) (n h0 h1:Nat) (A T:Nat->Option (Bool×Nat×Int)) (hn:n<=65536) (hT:dU w) (FA:∀ i,i<n->Fm (A i)) (FT:∀ i,i<=n->Fm (T i)) (ET:∀ i,i<n->jv (T i) (A i)=T (i+1)) (E0:iY=T 0)
 (HC:Hid (∀ (i:Nat) (u:World),i<n->Below w.heap.size w u->Calls Tryz.prog 92 #[.int .i64 (i:Nat),.pointer (some ⟨h0,0,none⟩),.pointer (some ⟨h1,0,none⟩)] u fun r w'=>bI 0 w' r (A i)/\Below u.heap.size u w')) :
 Calls Tryz.prog 84 #[.int .i64 (n:Nat),.func (.func 92) #[] #[.pointer (some ⟨h0,0,none⟩),.pointer (some ⟨h1,0,none⟩)]] w fun r w'=>bI 0 w' r (T n)/\Below w.heap.size w w':=by
 obtain⟨W,hW⟩:=ah ((w.alloc (Obj.cells zD3 25)).alloc (Obj.cells zD3 25))
 have H0:Aside (Lo W (w.heap.size+1) (T 0)/\Lo W w.heap.size iY/\Below w.heap.size w W):=by
  subst hW;exact Kf
 have HP:Hid (∀ (i:Nat) (u:World) (p q:Option Addr) (cp cq:Nat),i<n->dU u->Nt 0 u (.slice p (ws (dX (T i))).length cp) (dX (T i))->Nt 0 u (.slice q (ws (dX (A i))).length cq) (dX (A i))->Calls Tryz.prog 124 #[.agg #[.bool (dN (T i)),.slice p (ws (dX (T i))).length cp,.int .i64 (dE (T i))],.agg #[.bool (dN (A i)),.slice q (ws (dX (A i))).length cq,.int .i64 (dE (A i))]] u fun r w'=>bI 0 w' r (T (i+1))/\Below u.heap.size u w') :=
  fun i u p q cp cq hi hT n1 n2=>D5 (FT i ae) (FA i hi) (FT (i+1) ae) n1 n2 hT (ET i hi)
 have HW:=aA hW;have PF:=aP FT FA;have HT:=aA hT;clear hW FT FA ET E0 hT;go_enter Tryz.func84,Tryz.ntmps84
 go_upto_region 2 with fail
 rw[<-HW.o];clear HW;go_wp2
 go_loopg [8] n (fun gk i wr=>∃ j:Nat,gk+j=n/\i=.int .i64 (j:Nat)/\Aside (Lo wr (w.heap.size+1) (T j)/\Lo wr w.heap.size iY/\Below w.heap.size w wr))
 case atStart=>exact⟨0,ae,aQ,H0.o⟩
 case round =>
  exact Zs
theorem OP (i n h0 h1 gx gy:Nat) (A B:Nat->Option (Bool×Nat×Int)) (c:Option (Bool×Nat×Int)) (u:World) (hi:i<n) (hn:n<=65536) (hT:dU u) (FA:Fm (A i)) (FB:Fm (B i)) (Fc:Fm c) (E:fu (A i) (B i)=c)
 (k0:u.cell? ⟨h0,0,none⟩=some (.slice (some ⟨gx,0,none⟩) n n)) (k1:u.cell? ⟨h1,0,none⟩=some (.slice (some ⟨gy,0,none⟩) n n)) (hx:Dr u gx n n A) (hy:Dr u gy n n B) :
 Calls Tryz.prog 92 #[.int .i64 (i:Nat),.pointer (some ⟨h0,0,none⟩),.pointer (some ⟨h1,0,none⟩)] u fun r w'=>bI 0 w' r c/\Below u.heap.size u w':=by
 obtain⟨W,hW⟩:=ah (u.alloc (Obj.cells zD3 25));have LT:Aside (h0<u.heap.size/\h1<u.heap.size/\gx<u.heap.size/\gy<u.heap.size):=⟨mO u _ k0,mO u _ k1,hx.lt,hy.lt⟩;have hb:Below u.heap.size u W.drew:=by rw[hW];exact zP u
 have L0:Lo W.drew u.heap.size iY:=by rw[hW];exact zQ u
 obtain⟨p1,q1,x0,x1,x2,M1⟩:=(hx.below hb).facts i hi;obtain⟨p2,q2,y0,y1,y2,M2⟩:=(hy.below hb).facts i hi;have kS:Aside (W.drew.cell? ⟨h0,0,none⟩=some (.slice (some ⟨gx,0,none⟩) n n)/\W.drew.cell? ⟨h1,0,none⟩=some (.slice (some ⟨gy,0,none⟩) n n)/\W.drew.cell? ⟨gx,i*3,none⟩=some (.bool (dN (A i)))/\W.drew.cell? ⟨gx,i*3+1,none⟩=some (.slice p1 (ws (dX (A i))).length q1)/\W.drew.cell? ⟨gx,i*3+2,none⟩=some (.int .i64 (dE (A i)))/\W.drew.cell? ⟨gy,i*3,none⟩=some (.bool (dN (B i)))/\W.drew.cell? ⟨gy,i*3+1,none⟩=some (.slice p2 (ws (dX (B i))).length q2)/\W.drew.cell? ⟨gy,i*3+2,none⟩=some (.int .i64 (dE (B i)))):=⟨ni k0 hb,ni k1 hb,x0,x1,x2,y0,y1,y2⟩;have C:=hid (iL FA FB Fc M1 M2 (hT.belows hb) E);have BD:=(aP hb L0);have FF:=aA Fc;have HW:=aA hW;have HI:=aA hi;clear hW hb L0 x0 x1 x2 y0 y1 y2 M1 M2 k0 k1 hx hy FA FB Fc E hT;go_enter Tryz.func92,Tryz.ntmps92
 go_upto_region 1 with fail
 rw[<-HW.o];clear HW
 go_region_held3 (fun w'=>w'.cell? ⟨h0,0,none⟩=some (.slice (some ⟨gx,0,none⟩) n n)/\w'.cell? ⟨h1,0,none⟩=some (.slice (some ⟨gy,0,none⟩) n n)/\w'.cell? ⟨gx,i*3,none⟩=some (.bool (dN (A i)))/\w'.cell? ⟨gx,i*3+1,none⟩=some (.slice p1 (ws (dX (A i))).length q1)/\w'.cell? ⟨gx,i*3+2,none⟩=some (.int .i64 (dE (A i)))/\w'.cell? ⟨gy,i*3,none⟩=some (.bool (dN (B i)))/\w'.cell? ⟨gy,i*3+1,none⟩=some (.slice p2 (ws (dX (B i))).length q2)/\w'.cell? ⟨gy,i*3+2,none⟩=some (.int .i64 (dE (B i)))) (first | with_reducible exact kS.o | with_reducible exact kT.o) (first
  | (go_at_call 51
     with_reducible refine C.o.mono ?_
     rintro r u3 ⟨hd,hb⟩;obtain⟨a3,c3,rfl,fV⟩:=hd.aL;have BD:=dC (BD.o.1.trans (hb.mono BD.o.1.size)) (BD.o.2.below hb) fV;have kS:=aA (ck hb kS.o fun h=>jX hb h);have kT:=uI (oF (x:=.bool (dN c)) (y:=.slice a3 (ws (dX c)).length c3) (z:=.int .i64 (dE c)) kS.o.1 (fo LT.o.1)) (oF (x:=.bool (dN c)) (y:=.slice a3 (ws (dX c)).length c3) (z:=.int .i64 (dE c)) kS.o.2.1 (fo LT.o.2.1)) (oF (x:=.bool (dN c)) (y:=.slice a3 (ws (dX c)).length c3) (z:=.int .i64 (dE c)) kS.o.r2.1 (fo LT.o.r2.1)) (oF (x:=.bool (dN c)) (y:=.slice a3 (ws (dX c)).length c3) (z:=.int .i64 (dE c)) kS.o.r3.1 (fo LT.o.r2.1)) (oF (x:=.bool (dN c)) (y:=.slice a3 (ws (dX c)).length c3) (z:=.int .i64 (dE c)) kS.o.r4.1 (fo LT.o.r2.1)) (oF (x:=.bool (dN c)) (y:=.slice a3 (ws (dX c)).length c3) (z:=.int .i64 (dE c)) kS.o.r5.1 (fo LT.o.r3)) (oF (x:=.bool (dN c)) (y:=.slice a3 (ws (dX c)).length c3) (z:=.int .i64 (dE c)) kS.o.r6.1 (fo LT.o.r3)) (oF (x:=.bool (dN c)) (y:=.slice a3 (ws (dX c)).length c3) (z:=.int .i64 (dE c)) kS.o.r7 (fo LT.o.r3));obtain⟨zp,zq,DZ,MZ⟩:=BD.o.2.1;obtain⟨z0,z1,z2,gQ,gT,gU⟩:=DZ.facts
     clear hb hd fV DZ MZ C))
 go_wp2;exact jT Tryz.results92 rfl BD.o.2.1 BD.o.1 (aC _) BD.o.r2
theorem vN{f g:Nat->Int}{n:Nat}(bf:∀ i,i<n->Bd 2098 (f i))(bg:∀ i,i<n->Bd 2098 (g i))(hn:n<=65536)(k:Nat)(hk:k<=n):Bd 4212 (tS (fun i=>f i*g i) k) :=
 (uk (m:=4196) (fun i hi=>((bf i hi).mul (bg i hi)).mono aj) hn k hk).mono aj
theorem zE{P:Prop}(h:P:=by
 rw[hW];exact((Bl.new w 74 [.slice (some ⟨gx,0,none⟩) n n,.bool (dN oS),.slice ax (ws (dX oS)).length cx,.int .i64 (dE oS)]).alloc _).alloc _):P:=h
theorem Gl (w:World) (n gx gy:Nat) (ax ay:Option Addr) (cx cy:Nat) (oS oT oP oD:Option (Bool×Nat×Int)) (hP:Fm oP) (hD:Fm oD)
 (N1:Nt 0 w (.slice ax (ws (dX oS)).length cx) (dX oS)) (N2:Nt 0 w (.slice ay (ws (dX oT)).length cy) (dX oT))
 (HC:Hid (∀ u:World,Below w.heap.size w u->u.cell? ⟨w.heap.size,0,none⟩=some (.slice (some ⟨gx,0,none⟩) n n)->u.cell? ⟨w.heap.size+1,0,none⟩=some (.slice (some ⟨gy,0,none⟩) n n)->Calls Tryz.prog 84 #[.int .i64 (n:Nat),.func (.func 92) #[] #[.pointer (some ⟨w.heap.size,0,none⟩),.pointer (some ⟨w.heap.size+1,0,none⟩)]] u fun r w'=>bI 0 w' r oP/\Below u.heap.size u w'))
 (HD:Hid (∀ (u:World) (a b d:Option Addr) (ca cb cd:Nat),Below w.heap.size w u->Nt 0 u (.slice a (ws (dX oP)).length ca) (dX oP)->Nt 0 u (.slice b (ws (dX oS)).length cb) (dX oS)->Nt 0 u (.slice d (ws (dX oT)).length cd) (dX oT)->Calls Tryz.prog 26 #[.int .i64 (n:Nat),.agg #[.bool (dN oP),.slice a (ws (dX oP)).length ca,.int .i64 (dE oP)],.agg #[.bool (dN oS),.slice b (ws (dX oS)).length cb,.int .i64 (dE oS)],.agg #[.bool (dN oT),.slice d (ws (dX oT)).length cd,.int .i64 (dE oT)]] u fun r w'=>pG w' r oD 0/\Below u.heap.size u w')) :
 Calls Tryz.prog 50 #[.agg #[.slice (some ⟨gx,0,none⟩) n n,.bool (dN oS),.slice ax (ws (dX oS)).length cx,.int .i64 (dE oS)],.agg #[.slice (some ⟨gy,0,none⟩) n n,.bool (dN oT),.slice ay (ws (dX oT)).length cy,.int .i64 (dE oT)]] w fun r w'=>bI 0 w' r oD/\Below w.heap.size w w':=by
 obtain⟨W,hW⟩:=ah (((w.alloc (Obj.cells #[.slice (some ⟨gx,0,none⟩) n n,.bool (dN oS),.slice ax (ws (dX oS)).length cx,.int .i64 (dE oS)] 74)).alloc (Obj.cells #[.slice (some ⟨gy,0,none⟩) n n,.bool (dN oT),.slice ay (ws (dX oT)).length cy,.int .i64 (dE oT)] 74)).alloc (Obj.cells zD3 25))
 have H0:Aside (Bl W w.heap.size 74 [.slice (some ⟨gx,0,none⟩) n n,.bool (dN oS),.slice ax (ws (dX oS)).length cx,.int .i64 (dE oS)]/\Bl W (w.heap.size+1) 74 [.slice (some ⟨gy,0,none⟩) n n,.bool (dN oT),.slice ay (ws (dX oT)).length cy,.int .i64 (dE oT)]/\Lo W (w.heap.size+2) iY/\Below w.heap.size w W/\Nt 0 W (.slice ax (ws (dX oS)).length cx) (dX oS)/\Nt 0 W (.slice ay (ws (dX oT)).length cy) (dX oT)):=by
  have hbW:Below w.heap.size w W:=by rw[hW];exact((af _ _).trans ((af _ _).mono aQ)).trans ((af _ _).mono (by simp;omega))
  refine⟨?_,?_,?_,hbW,N1.below hbW,N2.below hbW⟩
  · exact zE
  · have z1:=Bl.new (w.alloc (Obj.cells #[.slice (some ⟨gx,0,none⟩) n n,.bool (dN oS),.slice ax (ws (dX oS)).length cx,.int .i64 (dE oS)] 74)) 74 [.slice (some ⟨gy,0,none⟩) n n,.bool (dN oT),.slice ay (ws (dX oT)).length cy,.int .i64 (dE oT)];rw[dD] at z1;rw[hW];exact z1.alloc _
  · have z2:=Lo.zero ((w.alloc (Obj.cells #[.slice (some ⟨gx,0,none⟩) n n,.bool (dN oS),.slice ax (ws (dX oS)).length cx,.int .i64 (dE oS)] 74)).alloc (Obj.cells #[.slice (some ⟨gy,0,none⟩) n n,.bool (dN oT),.slice ay (ws (dX oT)).length cy,.int .i64 (dE oT)] 74));rw[dD,dD] at z2;rw[hW];exact z2
 have HW:=aA hW;have FF:=(aP hP hD);clear hW N1 N2 hP hD;go_enter Tryz.func50,Tryz.ntmps50
 go_upto_region 1 with fail
 rw[<-HW.o];clear HW;have s0:=H0.o.1.cell 0 _ rfl;have hmf:∀ (fn:Fn) (first cap:Array Value) (w:World),(Instr.makeFunc fn first cap).run Tryz.prog w=.ok (.func fn first cap) w:=fun _ _ _ _=>rfl;have C:=hid (HC.o W H0.o.r3.1 (H0.o.1.cell 0 _ rfl) (H0.o.2.1.cell 0 _ rfl));go_wp2_with fail;refine C.o.mono ?_;rintro r u1 ⟨hd,hb⟩;obtain⟨a1,c1,rfl,hN1⟩:=hd.aL;obtain⟨U,hU⟩:=ah (u1.alloc (Obj.cells #[.bool (dN oP),.slice a1 (ws (dX oP)).length c1,.int .i64 (dE oP)] 25));obtain⟨g6,WC⟩:=ah (u1.heap.size)
 have H1:Aside (Lo U g6 oP/\Bl U w.heap.size 74 [.slice (some ⟨gx,0,none⟩) n n,.bool (dN oS),.slice ax (ws (dX oS)).length cx,.int .i64 (dE oS)]/\Bl U (w.heap.size+1) 74 [.slice (some ⟨gy,0,none⟩) n n,.bool (dN oT),.slice ay (ws (dX oT)).length cy,.int .i64 (dE oT)]/\Lo U (w.heap.size+2) iY/\Below w.heap.size w U/\Nt 0 U (.slice ax (ws (dX oS)).length cx) (dX oS)/\Nt 0 U (.slice ay (ws (dX oT)).length cy) (dX oT)):=by
  have wM:Below W.heap.size W U:=by rw[hU];exact hb.trans ((af _ _).mono hb.size)
  refine⟨?_,H0.o.1.below wM H0.o.1.lt,H0.o.2.1.below wM H0.o.2.1.lt,H0.o.r2.1.below wM,H0.o.r3.1.trans (wM.mono H0.o.r3.1.size),H0.o.r4.1.below wM,H0.o.r5.below wM⟩;rw[hU,WC];exact Lo.new hN1
 have HU:=(aP hU WC);clear hU WC hb hd hN1 C H0 s0
 go_upto_region 3 with fail
 rw[<-HU.o.1,<-HU.o.2];clear HU;obtain⟨pp,qp,DP,MP⟩:=H1.o.1;obtain⟨x0,x1,x2,dw,dz,dA⟩:=DP.facts;have s1:=H1.o.2.1.cell 1 _ rfl;have s2:=H1.o.2.1.cell 2 _ rfl;have s3:=H1.o.2.1.cell 3 _ rfl;have t1:=H1.o.r2.1.cell 1 _ rfl;have t2:=H1.o.r2.1.cell 2 _ rfl;have t3:=H1.o.r2.1.cell 3 _ rfl;have C:=hid (HD.o U pp ax ay qp cx cy H1.o.r4.1 MP H1.o.r5.1 H1.o.r6);clear DP MP;go_wp2_with fail;refine C.o.mono ?_;rintro r u2 ⟨hd,hb⟩;obtain⟨a2,c2,rfl,kQ⟩:=hd.aL;obtain⟨V,hV⟩:=ah (u2.alloc (Obj.cells #[.bool (dN oD),.slice a2 (ws (dX oD)).length c2,.int .i64 (dE oD)] 25));obtain⟨g7,sN⟩:=ah (u2.heap.size)
 have H2:Aside (Lo V g7 oD/\Lo V (w.heap.size+2) iY/\Below w.heap.size w V):=by
  have KU:Below U.heap.size U V:=by rw[hV];exact hb.trans ((af _ _).mono hb.size)
  refine⟨?_,H1.o.r3.1.below KU,H1.o.r4.1.trans (KU.mono H1.o.r4.1.size)⟩;rw[hV,sN];exact Lo.new kQ
 have HV:=(aP hV sN);clear hV sN hb hd kQ C H1 x0 x1 x2 dw dz dA s1 s2 s3 t1 t2 t3
 go_upto_region 4 with fail
 rw[<-HV.o.1,<-HV.o.2];clear HV;obtain⟨p1,q1,D1,M1⟩:=H2.o.1;obtain⟨p2,q2,D2,M2⟩:=H2.o.2.1;obtain⟨x0,x1,x2,dw,dz,dA⟩:=D1.facts;obtain⟨y0,y1,y2,dF,dG,dH⟩:=D2.facts;have D8:=aA M1;clear D1 D2 M1 M2;go_wp2;exact jT Tryz.results50 rfl H2.o.2.1 H2.o.r2 ae D8.o
theorem oG {w:World}{v1 v2:Value}{n:Nat}{f g:Nat->Int}{S T:Int}(hn:n<=65536) (hT:dU w) (bf:∀ i,i<n->Bd 2098 (f i)) (bg:∀ i,i<n->Bd 2098 (g i)) (bS:Bd 2114 S) (bT:Bd 2114 T)
 (h1:Rr w v1 n (fun i=>gV 1074 (f i)) (gV 1074 S)) (h2:Rr w v2 n (fun i=>gV 1074 (g i)) (gV 1074 T)) :
 Calls Tryz.prog 50 #[v1,v2] w fun r w'=>bI 0 w' r (gV 2148 ((n:Int)*tS (fun i=>f i*g i) n-S*T))/\Below w.heap.size w w':=by
 obtain⟨gx,ax,cx,rfl,hx,n1⟩:=h1;obtain⟨gy,ay,cy,rfl,hy,n2⟩:=h2;have bP:=fun k hk=>vN bf bg hn k hk;have bn:Bd 16 (n:Int):=Bd.nat ae;refine Gl w n gx gy ax ay cx cy (gV 1074 S) (gV 1074 T) (gV 2148 (tS (fun i=>f i*g i) n)) _ (dJ aj aj (bP n (aC _))) (dJ (m:=4229) aj aj (Bd.sub (m:=4228) ((bn.mul (bP n (aC _))).mono aj) ((bS.mul bT).mono aj))) n1 n2 (hid fun u hu k0 k1=>?_) (hid fun u a b d ca cb cd hu m1 m2 m3=>ZP hn (bP n (aC _)) bS bT (hT.belows hu) m1 m2 m3);refine OO u n w.heap.size (w.heap.size+1) (fun i=>gV 2148 (f i*g i)) (fun i=>gV 2148 (tS (fun i=>f i*g i) i)) hn (hT.belows hu) (fun i hi=>dJ aj aj ((bf i hi).mul (bg i hi))) (fun i hi=>dJ aj aj (bP i hi)) (fun i hi=>zK aj aj (bP i ae) (((bf i hi).mul (bg i hi)).mono aj)) (nP 2148).symm (hid fun i v hi hv=>?_);have hv2:Below w.heap.size w v:=hu.trans (hv.mono hu.size);exact OP i n w.heap.size (w.heap.size+1) gx gy (fun i=>gV 1074 (f i)) (fun i=>gV 1074 (g i)) (gV 2148 (f i*g i)) v hi hn (hT.belows hv2) (dJ aj aj (bf i hi)) (dJ aj aj (bg i hi)) (dJ aj aj ((bf i hi).mul (bg i hi))) (mY aj aj aj aj (bf i hi) (bg i hi)) (ni k0 hv) (ni k1 hv) (hx.below hv2) (hy.below hv2)
end
namespace Ps
open Go.RowKit
open Go.RowKit
def Wf(xs:List Nat):Prop:=∀ x ∈ xs,x<18446744073709551616
theorem Wf.get{xs:List Nat}(h:Wf xs)(k:Nat):xs.getD k 0<18446744073709551616:=by
 by_cases hk:k<xs.length
 · rw[fF,gD hk];exact h _ (nu hk)
 · rw[fF,qi ae];decide
def U(n:Nat):Value:=.float .f64 n
def Rd(B:Nat)(w:World)(ao:Option Addr)(xs:List Nat):Prop :=
 xs≠[]->∃ b off,b<B/\ao=some ⟨b,off,none⟩/\∀ i,i<xs.length->w.cell? ⟨b,off+i,none⟩=some (.float .f64 (xs.getD i 0))
theorem Rd.below{B:Nat}{w w':World}{ao:Option Addr}{xs:List Nat}(h:Rd B w ao xs)(hb:Below B w w'):Rd B w' ao xs:=by
 intro hx;obtain⟨b,off,hlt,rfl,hc⟩:=h hx;exact⟨b,off,hlt,rfl,fun i hi=>(hb.cell (p:=⟨b,off+i,none⟩) hlt).trans (hc i hi)⟩
theorem Rd.mono{B B':Nat}{w:World}{ao:Option Addr}{xs:List Nat}(h:Rd B w ao xs)(hB:B<=B'):Rd B' w ao xs:=by
 intro hx;obtain⟨b,off,hlt,rfl,hc⟩:=h hx;exact⟨b,off,ae,rfl,hc⟩
def Lt(lo:Nat)(w:World)(v:Value)(xs:List Nat):Prop:=w.ownsRow lo 28 1 v xs.length (xs.map U)
theorem Lt.nil(lo:Nat)(w:World):Lt lo w (.slice none 0 0) []:=Ar _ _ _ _
theorem Tryz.Sw:(Tryz.prog.info? 28).map (fun i=>(i.zero,i.size,i.bytes))=some (some (.float .f64 0),1,8):=by kernel_rfl
open Go.RowKit
abbrev Rw(lo:Nat)(w:World)(v:Value)(n:Nat)(ys:List Value):Prop:=w.ownsRow lo 28 1 v n ys
def OQ(w w':World):Prop:=∀ (g:Nat) (cur:Array Value) (e:TypeId),e≠35->e≠44->w.heap[g]?=some (.cells cur e (0,0))->w'.heap[g]?=some (.cells cur e (0,0))
theorem OQ.row{w w':World}{lo:Nat}{v:Value}{n:Nat}{ys:List Value}(h:Rw lo w v n ys)(k:OQ w w'):Rw lo w' v n ys:=by
 refine⟨h.1,?_⟩;rcases h.2 with hn|⟨g,cap,cur,rfl,hlo,hg,rest⟩
 · exact .inl hn
 · exact .inr ⟨g,cap,cur,rfl,hlo,k _ _ _ aj aj hg,rest⟩
theorem OQ.below{w w':World}(h:Below w.heap.size w w'):OQ w w':=fun g cur _ _ _ e=>by rw[h.block g (gL.1 e).1];exact e
theorem uX{w w':World}{lo e s:Nat}{v:Value}{n:Nat}{ys:List Value}(h:w.ownsRow lo e s v n ys)(hb:∀ g,v.ownBlock=some g->w'.heap[g]?=w.heap[g]?):w'.ownsRow lo e s v n ys:=by
 exact jt
theorem nC (w:World) (lo:Nat) (v:Value) (n:Nat) (ys:List Value) (x:Value) (s:Nat) (ty:TypeId) (hown:Rw lo w v n ys) (hx:w.cell? ⟨s,0,none⟩=some x) (h1:x.oneCell'=true)
 (hbig:n+1<=17592186044416) (hlo:lo<=w.heap.size) :
 ∃ v' w',(Builtin.append_ #[35,35] ty #[v,.slice (some ⟨s,0,none⟩) 1 1]).run Tryz.prog w=.ok v' w'/\Rw lo w' v' (n+1) (ys++[x])/\w.grownBy w' v.ownBlock /\
   (v'.ownBlock=v.ownBlock\/∃ g,v'.ownBlock=some g/\w.heap.size<=g)/\(∀ (u:Value) (k:Nat) (zs:List Value),Rw lo w u k zs->(u.ownBlock=v.ownBlock->k<=n)->Rw lo w' u k zs):=by
 obtain⟨i0,hi,hz0,hz1,hz2⟩:=info_parts Tryz.Sw
 have hnews:∀ j u,[x][j]?=some u->w.cell? ((⟨s,0,none⟩:Addr).add j)=some u:=by
  exact Qa8
 have h1':∀ u ∈ [x],u.oneCell'=true:=by intro u hu;simp at hu;subst hu;exact h1
 have keep:∀ w',w.grownBy w' none->∀ (u:Value) (k:Nat) (zs:List Value),Rw lo w u k zs->Rw lo w' u k zs:=by
  exact yk
 have Qo:∀ (v':Value) (w':World) (m:Nat) (zs:List Value),w'.ownsRow w.heap.size 28 1 v' (m+1) zs->∃ g,v'.ownBlock=some g/\w.heap.size<=g:=by
  exact Qap
 have mono:∀ (v':Value) (w':World) (m:Nat) (zs:List Value),w'.ownsRow w.heap.size 28 1 v' m zs->Rw lo w' v' m zs:=by
  exact xb
 rcases hown.2 with ⟨rfl,rfl⟩|⟨g,cap,cur,rfl,hlg,hg,hnc,hm,hs,ht⟩
 · obtain⟨v',w',r1,r2,r3,_,_⟩:=run_append_own_at (P:=Tryz.prog) w w.heap.size 35 ty 28 i0 (.float .f64 0) 1 8 Tryz.underlying35 hi hz0 hz1 hz2 rfl aj (.slice none 0 0) 0 [] (Ar _ _ _ _) ⟨s,0,none⟩ 1 1 [x] rfl hnews h1' (by unfold maxLen;omega) ae (aC _);have hy:ys=[]:=l7 (by simpa using hown.1);subst hy;exact⟨v',w',r1,mono _ _ _ _ (by simpa using r2),r3,.inr (Qo _ _ 0 _ (by simpa using r2)),fun u k zs hr _=>keep _ r3 u k zs hr⟩
 · by_cases hroom:n+1<=cap
   · have hr:=run_append_room (P:=Tryz.prog) w 35 ty 28 i0 Tryz.underlying35 hi g n cap cur hg ⟨s,0,none⟩ 1 1 [x] (by rw[hz1];rfl) hnews h1' hroom (by rw[hz1,hs];simp;omega);rw[hz1] at hr;refine⟨_,_,hr,⟨by simpa using hown.1,.inr ⟨g,cap,_,rfl,hlg,setRow_heap w g cur _ 28 _ hg,hroom,hm,?_,?_⟩⟩,⟨rfl,rfl,rfl,aQ,fun k _ hk=>setRow_other w g k _ (fun e=>hk (by simp[Value.ownBlock,e]))⟩,.inl rfl,?_⟩
     · exact Qad
     · exact x6
     · intro u k zs hr2 hle;rcases hr2.2 with hn|⟨g2,cap2,YZ,rfl,hl2,hg2,Qp,hm2,hs2,ht2⟩
       · exact⟨hr2.1,.inl hn⟩
       · by_cases he:g2=g
         · subst he;rw[hg] at hg2
           cases hg2
           have hk:=hle rfl;refine⟨hr2.1,.inr ⟨g2,cap2,_,rfl,hl2,setRow_heap w g2 cur _ 28 _ hg,Qp,hm2,?_,?_⟩⟩
           · exact Qad
           · exact xT
         · exact Qam
   · obtain⟨v',w',r1,r2,r3⟩:=run_append_arg_grows (P:=Tryz.prog) w 35 ty 28 i0 (.float .f64 0) 1 8 Tryz.underlying35 hi hz0 hz1 hz2 rfl aj ⟨g,0,none⟩ n cap ys (by simpa using hown.1) (fun j u hj=>hown.cells (g:=g) (by simp[Value.ownBlock]) j u hj) ⟨s,0,none⟩ 1 1 [x] rfl hnews ae (by unfold maxLen;omega) ae;exact jn
theorem dV {w:World}{ops:Array Oper}{rest:List Oper}{o:Oper}{a:Act}{Q:Exit->Act->World->Prop}(hgd:o.guard=none) (s x:Operand) (t:TypeId)
 (ho:o.op=.call { callee:=.builtin .append,args:=#[s,x],argTypes:=#[t,t] }) (v u:Value) (hs:a.eval s=v) (hx:a.eval x=u) (v':Value) (w':World)
 (hrun:(Builtin.append_ #[t,t] o.type #[v,u]).run Tryz.prog w=.ok v' w') (h:wpList Tryz.prog ops Q rest (a.put o.dst v') w'):wpList Tryz.prog ops Q (o::rest) a w:=by
 refine wpList_plain hgd fun K hK=>?_;unfold Oper.wp;simp[execOp,ho,resolve,invoke,builtin,hs,hx,hrun,Result.andThen];exact hK _ _ h
end Ps
namespace Ps
open Go.RowKit
open Go.Proofs.YtfmfhehbdfhnbaaGreatDoor.B (bF aH bw)
attribute [local go_sem] bF aH
theorem Sy(b:Nat):kd b<=5:=by unfold kd;(repeat' split) <;> omega
open Go.RowKit
open Go.Proofs.YtfmfhehbdfhnbaaGreatDoor.B (bF aH bw aU)
attribute [local go_sem] bF aH
def cn(k:Nat)(xs:List Nat):Nat:=xs.countP (fun x=>kd x==k)
theorem OT(k:Nat)(xs ys:List Nat):cn k (xs++ys)=cn k xs+cn k ys:=by simp[cn,List.countP_append]
def one(k x:Nat):Nat:=if kd x=k then 1 else 0
theorem ZQ(k x:Nat):cn k [x]=one k x:=by unfold cn one;by_cases h:kd x=k <;> simp[h]
theorem sO(xs:List Nat)(i:Nat)(h:i<xs.length):xs.take (i+1)=xs.take i++[xs.getD i 0]:=by
 rw[Cv h,fF,gD h];rfl
theorem uy(k:Nat)(xs:List Nat)(i:Nat)(h:i<xs.length):cn k (xs.take (i+1))=cn k (xs.take i)+one k (xs.getD i 0):=by
 rw[sO xs i h,OT,ZQ]
theorem cn_le(k:Nat)(xs:List Nat):cn k xs<=xs.length:=List.countP_le_length
def mH(w:World)(g:Nat)(n u d m p a:Int):Prop:=w.heap[g]?=some (.cells #[.int .i64 n,.int .i64 u,.int .i64 d,.int .i64 m,.int .i64 p,.int .i64 a] 106 (0,0))
theorem mH.lt{w:World}{g:Nat}{n u d m p a:Int}(h:mH w g n u d m p a):g<w.heap.size:=(gL.1 h).1
theorem mH.c0{w:World}{g:Nat}{n u d m p a:Int}(h:mH w g n u d m p a):w.cell? ⟨g,0,none⟩=some (.int .i64 n):=by unfold mH at h;simp[World.cell?,h]
theorem mH.c1{w:World}{g:Nat}{n u d m p a:Int}(h:mH w g n u d m p a):w.cell? ⟨g,1,none⟩=some (.int .i64 u):=by unfold mH at h;simp[World.cell?,h]
theorem mH.c2{w:World}{g:Nat}{n u d m p a:Int}(h:mH w g n u d m p a):w.cell? ⟨g,2,none⟩=some (.int .i64 d):=by unfold mH at h;simp[World.cell?,h]
theorem mH.c3{w:World}{g:Nat}{n u d m p a:Int}(h:mH w g n u d m p a):w.cell? ⟨g,3,none⟩=some (.int .i64 m):=by unfold mH at h;simp[World.cell?,h]
theorem mH.c4{w:World}{g:Nat}{n u d m p a:Int}(h:mH w g n u d m p a):w.cell? ⟨g,4,none⟩=some (.int .i64 p):=by unfold mH at h;simp[World.cell?,h]
theorem mH.c5{w:World}{g:Nat}{n u d m p a:Int}(h:mH w g n u d m p a):w.cell? ⟨g,5,none⟩=some (.int .i64 a):=by unfold mH at h;simp[World.cell?,h]
theorem mH.frozen{w:World}{g:Nat}{n u d m p a:Int}(h:mH w g n u d m p a)(i:Nat):w.frozen? ⟨g,i,none⟩=false:=by unfold mH at h;simp[World.frozen?,h]
theorem mH.below{w w':World}{g B:Nat}{n u d m p a:Int}(h:mH w g n u d m p a)(hb:Below B w w')(hg:g<B):mH w' g n u d m p a:=by
 unfold mH at h |-;rw[hb.block g hg];exact h
theorem qu{P:Prop}(h:P:=by
 go_end0
 refine⟨rfl,?_,(But.refl _ _).set _ _⟩;have h:=HB.o;unfold mH at h |-;simp[World.setCell,mJ,h]):P:=h
theorem OU(k g:Nat)(n u d m p a:Int)(w:World)(hk:k<=5)(hB:mH w g n u d m p a)(hn:0<=n/\n<=65536)(hu:0<=u/\u<=65536)(hd:0<=d/\d<=65536)(hm:0<=m/\m<=65536)(hp:0<=p/\p<=65536) :
 Calls Tryz.prog 115 #[.pointer (some ⟨g,0,none⟩),.int .i64 (k:Nat)] w fun r w'=>r=.returned (.tuple #[]) /\
  mH w' g (if k=0 then n+1 else n) (if k=1 then u+1 else u) (if k=2 then d+1 else d) (if k=3 then m+1 else m) (if k=4 then p+1 else p) a/\But g w w':=by
 have hc0:=hB.c0;have hc1:=hB.c1;have hc2:=hB.c2;have hc3:=hB.c3;have hc4:=hB.c4;have hf0:=hB.frozen 0;have hf1:=hB.frozen 1;have hf2:=hB.frozen 2;have hf3:=hB.frozen 3;have Uw:=hB.frozen 4;have HB:=aA hB;clear hB;obtain rfl|rfl|rfl|rfl|rfl|rfl:k=0\/k=1\/k=2\/k=3\/k=4\/k=5:=ae
 · go_enter Tryz.func115,Tryz.ntmps115;go_wp2
   exact qu
 · go_enter Tryz.func115,Tryz.ntmps115;go_wp2
   exact qu
 · go_enter Tryz.func115,Tryz.ntmps115;go_wp2
   exact qu
 · go_enter Tryz.func115,Tryz.ntmps115;go_wp2
   exact qu
 · go_enter Tryz.func115,Tryz.ntmps115;go_wp2
   exact qu
 · go_enter Tryz.func115,Tryz.ntmps115;go_wp2
   go_end0
   exact⟨rfl,HB.o,But.refl _ _⟩
def rf(n u d a b:Int):Int:=if 0<n/\a=2 then 60 else if 0<u+d/\b=2 then 61 else 0
theorem qt{P:Prop}(h:P:=by
 by_cases h3:0<t
 · by_cases h4:b=2
   · rw[if_pos ⟨h3,h4⟩];subst h4;go_enter Tryz.func116,Tryz.ntmps116;go_wp2;go_ret;exact⟨rfl,below _ _⟩
   · have h4':(b==2)=false:=by rw[beq_eq_false_iff_ne];exact h4
     rw[if_neg (fun h=>h4 h.2)];go_enter Tryz.func116,Tryz.ntmps116;go_wp2;go_ret;exact⟨rfl,below _ _⟩
 · have h3':decide (0<t)=false:=decide_eq_false h3;rw[if_neg (fun h=>h3 h.1)];go_enter Tryz.func116,Tryz.ntmps116;go_wp2;go_ret;exact⟨rfl,below _ _⟩):P:=h
theorem Gm(n u d m p l a b:Int)(w:World)(hu:0<=u/\u<=65536)(hd:0<=d/\d<=65536) :
 Calls Tryz.prog 116 #[.agg #[.int .i64 n,.int .i64 u,.int .i64 d,.int .i64 m,.int .i64 p,.int .i64 l],.agg #[.int .i64 a,.int .i64 b]] w fun r w'=>r=.returned (.int .i64 (rf n u d a b))/\Below w.heap.size w w':=by
 have below:∀ o o',Below w.heap.size w ((w.alloc o).alloc o'):=fun o o'=>((aD _ _).alloc (aC _) _).alloc aQ _;obtain⟨t,ht⟩:∃ t,u+d=t:=⟨_,rfl⟩;have ht2:-9223372036854775808<=t/\t<=9223372036854775807:=ae
 unfold rf;rw[ht]
 by_cases h1:0<n
 · by_cases h2:a=2
   · rw[if_pos ⟨h1,h2⟩];subst h2;go_enter Tryz.func116,Tryz.ntmps116;go_wp2;go_ret;exact⟨rfl,below _ _⟩
   · have h2':(a==2)=false:=by rw[beq_eq_false_iff_ne];exact h2
     rw[if_neg (fun h=>h2 h.2)]
     exact qt
 · have h1':decide (0<n)=false:=decide_eq_false h1;rw[if_neg (fun h=>h1 h.1)]
   exact qt
open Go.RowKit
open Go.Proofs.YtfmfhehbdfhnbaaGreatDoor.B (bF aH bw aU)
attribute [local go_sem] bF aH
theorem mH.made(w:World)(n u d m p a:Int):mH (w.alloc (.cells #[.int .i64 n,.int .i64 u,.int .i64 d,.int .i64 m,.int .i64 p,.int .i64 a] 106)) w.heap.size n u d m p a:=gY w _
def WE(w:World)(g:Nat)(xs:List Nat)(a:Int):Prop:=mH w g (cn 5 xs:Nat) (cn 3 xs:Nat) (cn 4 xs:Nat) (cn 1 xs:Nat) (cn 2 xs:Nat) a
theorem Yi(k:Nat)(xs:List Nat)(n:Nat)(h:xs.length<=n)(hn:n<=65536):0<=((cn k xs:Nat):Int)/\((cn k xs:Nat):Int)<=65536:=by have:=cn_le k xs;omega
theorem But.WG{a w:World}{g:Nat}(h:But g a w)(u0 u1 u2 u3 u4 u5:Value) :
 But g a ((((((w.setCell ⟨g,0,none⟩ u0).setCell ⟨g,1,none⟩ u1).setCell ⟨g,2,none⟩ u2).setCell ⟨g,3,none⟩ u3).setCell ⟨g,4,none⟩ u4).setCell ⟨g,5,none⟩ u5) :=
 ((((((h.set 0 u0).set 1 u1).set 2 u2).set 3 u3).set 4 u4).set 5 u5)
theorem cset{w:World}{b o:Nat}{u:Value}(h:w.cell? ⟨b,o,none⟩=some u)(v:Value):(w.setCell ⟨b,o,none⟩ v).cell? ⟨b,o,none⟩=some v:=by
 simp only[World.cell?] at h |-;simp only[World.setCell,mJ]
 cases hb:w.heap[b]? with
 | none=>rw[hb] at h;simp at h
 | some ob =>
   rw[hb] at h
   cases ob <;> simp_all
   rename_i cs _ _
   by_cases hl:o<cs.size
   · simp[hl]
   · rw[Array.getElem?_eq_none ae] at h;cases h
theorem KV(w:World)(b o:Nat)(v:Value):(w.setCell ⟨b,o,none⟩ v).cell? ⟨b,o,none⟩=(w.cell? ⟨b,o,none⟩).map (fun _=>v):=by
 cases h:w.cell? ⟨b,o,none⟩ with
 | some u=>rw[cset h v];rfl
 | none =>
   simp only[World.cell?] at h |-;simp only[World.setCell,mJ]
   cases hb:w.heap[b]? with
   | none=>simp
   | some ob =>
     rw[hb] at h
     cases ob <;> simp_all
open Go.RowKit
open Go.Proofs.YtfmfhehbdfhnbaaGreatDoor.B (bF aH bw aU)
attribute [local go_sem] bF aH
def fin(xs:List Nat):List Nat:=xs.filter (fun x=>decide (kd x<=2))
theorem zT(xs ys:List Nat):fin (xs++ys)=fin xs++fin ys:=by simp[fin,List.filter_append]
theorem Sz(xs:List Nat):(fin xs).length<=xs.length:=List.length_filter_le _ _
theorem ZR(xs:List Nat)(i:Nat)(h:i<xs.length)(hk:kd (xs.getD i 0)<=2):fin (xs.take (i+1))=fin (xs.take i)++[xs.getD i 0]:=by
 rw[sO xs i h,zT];simp[fin];simpa [fF] using hk
theorem WI(xs:List Nat)(i:Nat)(h:i<xs.length)(hk:¬ kd (xs.getD i 0)<=2):fin (xs.take (i+1))=fin (xs.take i):=by
 rw[sO xs i h,zT];simp[fin];simpa [fF] using hk
def gG(a b:Int)(xs:List Nat):Int:=if may a b=false then 1 else if 65536<xs.length then 2 else rf (cn 5 xs:Nat) (cn 3 xs:Nat) (cn 4 xs:Nat) a b
def KW(a b:Int)(xs:List Nat):List Nat:=if gG a b xs=0 then fin xs else[]
def KZ(a b:Int)(xs:List Nat):Value:=if gG a b xs=0 then .agg #[.int .i64 (cn 5 xs:Nat),.int .i64 (cn 3 xs:Nat),.int .i64 (cn 4 xs:Nat),.int .i64 (cn 1 xs:Nat),.int .i64 (cn 2 xs:Nat),.int .i64 (xs.length:Nat)] else .agg #[.int .i64 0,.int .i64 0,.int .i64 0,.int .i64 0,.int .i64 0,.int .i64 0]
def jC(w:World)(a b:Int)(xs:List Nat)(r:Ending)(w':World):Prop:=∃ v,r=.returned (.tuple #[v,KZ a b xs,.int .i64 (gG a b xs)])/\Lt w.heap.size w' v (KW a b xs)/\Below w.heap.size w w'
theorem jC.no{w w':World}{a b:Int}{xs:List Nat}(e:Int)(he:gG a b xs=e)(h0:e≠0)(hb:Below w.heap.size w w'):jC w a b xs (.returned (.tuple #[.slice none 0 0,.agg #[.int .i64 0,.int .i64 0,.int .i64 0,.int .i64 0,.int .i64 0,.int .i64 0],.int .i64 e])) w':=by
 subst he;refine⟨.slice none 0 0,?_,?_,hb⟩
 · unfold KZ;rw[if_neg h0]
 · unfold KW;rw[if_neg h0];exact Lt.nil _ _
theorem jC.yes{w w':World}{a b:Int}{xs:List Nat}{v:Value}(he:gG a b xs=0)(hv:Rw w.heap.size w' v (fin xs).length ((fin xs).map U))(hb:Below w.heap.size w w') :
 jC w a b xs (.returned (.tuple #[v,.agg #[.int .i64 (cn 5 xs:Nat),.int .i64 (cn 3 xs:Nat),.int .i64 (cn 4 xs:Nat),.int .i64 (cn 1 xs:Nat),.int .i64 (cn 2 xs:Nat),.int .i64 (xs.length:Nat)],.int .i64 0])) w':=by
 refine⟨v,?_,?_,hb⟩
 · rw[he];unfold KZ;rw[if_pos he]
 · unfold KW;rw[if_pos he];exact hv
theorem Rw.below{lo:Nat}{w w':World}{v:Value}{n:Nat}{ys:List Value}(h:Rw lo w v n ys)(hb:Below w.heap.size w w'):Rw lo w' v n ys :=
 OQ.row h (OQ.below hb)
theorem Rw.but{lo g:Nat}{w w':World}{v:Value}{n:Nat}{ys:List Value}(h:Rw lo w v n ys)(hb:But g w w'){cur:Array Value}{e:TypeId}(he:e≠28)(hg:w.heap[g]?=some (.cells cur e (0,0))):Rw lo w' v n ys:=by
 refine uX h fun k hk=>?_;rcases h.2 with ⟨rfl,_⟩|⟨g2,cap,c2,rfl,_,hg2,_⟩
 · cases hk
 · cases hk
   refine hb.block _ (gL.1 hg2).1 (fun e2=>?_);subst e2;rw[hg] at hg2
   cases hg2
   exact he rfl
theorem Rw.mono{lo lo':Nat}{w:World}{v:Value}{n:Nat}{ys:List Value}(h:Rw lo w v n ys)(hl:lo'<=lo):Rw lo' w v n ys:=by
 refine⟨h.1,?_⟩;rcases h.2 with hn|⟨g,cap,cur,rfl,hlo,rest⟩
 · exact .inl hn
 · exact .inr ⟨g,cap,cur,rfl,ae,rest⟩
theorem Rw.low{lo:Nat}{w:World}{v:Value}{n:Nat}{ys:List Value}(h:Rw lo w v n ys):∀ b,v.ownBlock=some b->lo<=b:=by
 intro b hb;rcases h.2 with ⟨rfl,_⟩|⟨g,cap,cur,rfl,hlo,_⟩
 · cases hb
 · cases hb;exact hlo
theorem OV(n:Nat)(hn:n<=65536)(w:World) :
 (Instr.makeSlice 35 (.int .i64 0) (.int .i64 (n:Nat))).run Tryz.prog w=.ok (.slice (some ⟨w.heap.size,0,none⟩) 0 n) (w.alloc (.cells (madeCells #[.float .f64 0] n) 28)):=by
 obtain⟨i0,hi,hz0,hz1,hz2⟩:=info_parts Tryz.Sw;have hr:=run_make (P:=Tryz.prog) w 35 28 i0 (.float .f64 0) Tryz.underlying35 hi hz0 .i64 .i64 0 (n:Int) (Br _) ae (by rw[hz2];omega) ae;rw[hz1,fU] at hr;simp only[nW,Int.toNat_zero] at hr;exact hr
theorem SA(lo:Nat)(w:World)(n:Nat)(hn:n<=65536)(hlo:lo<=w.heap.size):Rw lo (w.alloc (.cells (madeCells #[.float .f64 0] n) 28)) (.slice (some ⟨w.heap.size,0,none⟩) 0 n) 0 []:=by
 refine⟨rfl,.inr ⟨w.heap.size,n,madeCells #[.float .f64 0] n,rfl,hlo,gY w _,ae,by unfold maxLen;omega,?_,?_⟩⟩
 · have:=congrArg List.length (toList_madeCells_one (.float .f64 0) n);simpa using this
 · simp
theorem push(lo:Nat)(w:World)(v:Value)(ys:List Nat)(x:Nat)(hrow:Rw lo w v ys.length (ys.map U))(hn:ys.length<=65536)(hlo:lo<=w.heap.size) :
 ∃ v' w',(Builtin.append_ #[35,35] 35 #[v,.slice (some ⟨w.heap.size,0,none⟩) 1 1]).run Tryz.prog (w.alloc (.cells #[.float .f64 x] 28))=.ok v' w'/\Rw lo w' v' (ys++[x]).length ((ys++[x]).map U) /\
   Below lo w w'/\(∀ (g:Nat) (cur:Array Value) (e:TypeId),e≠28->w.heap[g]?=some (.cells cur e (0,0))->w'.heap[g]?=some (.cells cur e (0,0)))/\w.heap.size<=w'.heap.size:=by
 obtain⟨v',w',h1,h2,h3,_,_⟩:=nC (w.alloc (.cells #[.float .f64 x] 28)) lo v ys.length (ys.map U) (.float .f64 x) w.heap.size 35 (hrow.alloc _) (by unfold World.cell?;simp only[gY];rfl) rfl ae (by simp;omega);refine⟨v',w',h1,by simpa [U] using h2,((aD lo w).alloc hlo _).grown h3 (by simp;omega) hrow.low,?_,by have:=h3.size;simp at this;omega⟩;intro g cur e he hg;have hgl:=(gL.1 hg).1;rw[h3.block g (by simp;omega) (fun e2=>?_),Below.heap_alloc _ _ _ hgl]
 · exact hg
 · rcases hrow.2 with ⟨rfl,_⟩ | ⟨g2,cap,c2,rfl,_,hg2,_⟩
   · cases e2
   · cases e2
     rw[hg] at hg2
     cases hg2
     exact he rfl
structure SI (lo sb:Nat) (W1:World) (xs:List Nat) (i:Nat) (a:Int) (v:Value) (wr:World):Prop where
 row:Rw lo wr v (fin (xs.take i)).length ((fin (xs.take i)).map U)
 sp:WE wr sb (xs.take i) a
 aB:Below lo W1 wr
 size:W1.heap.size<=wr.heap.size
theorem SI.kind{lo sb:Nat}{W1:World}{xs:List Nat}{i:Nat}{a:Int}{v:Value}{wr w1:World}(h:SI lo sb W1 xs i a v wr)(hb:Below wr.heap.size wr w1)(hlo:lo<=wr.heap.size):SI lo sb W1 xs i a v w1 :=
 ⟨h.row.below hb,mH.below h.sp hb (mH.lt h.sp),h.aB.trans (hb.mono hlo),dW h.size hb.size⟩
theorem SI.o{lo sb:Nat}{W1:World}{xs:List Nat}{i:Nat}{a:Int}{v:Value}{wr w2:World}(h:SI lo sb W1 xs i a v wr)(hi:i<xs.length)(hs:WE w2 sb (xs.take (i+1)) a)(hb:But sb wr w2)(hlo:lo<=sb)(hl:lo<=wr.heap.size)(hk:¬ kd (xs.getD i 0)<=2):SI lo sb W1 xs (i+1) a v w2 :=
 ⟨by rw[WI xs i hi hk];exact h.row.but hb aj h.sp,hs,But.below h.aB hb hl hlo,dW h.size hb.size⟩
theorem SI.row2{lo sb:Nat}{W1:World}{xs:List Nat}{i:Nat}{a:Int}{v:Value}{wr w2:World}(h:SI lo sb W1 xs i a v wr)(hb:But sb wr w2):Rw lo w2 v (fin (xs.take i)).length ((fin (xs.take i)).map U):=h.row.but hb aj h.sp
theorem mH.keep{w w':World}{g:Nat}{n u d m p a:Int}(h:mH w g n u d m p a)(hk:∀ (g:Nat) (cur:Array Value) (e:TypeId),e≠28->w.heap[g]?=some (.cells cur e (0,0))->w'.heap[g]?=some (.cells cur e (0,0))):mH w' g n u d m p a :=
 hk _ _ _ aj h
theorem SI.into {lo sb:Nat}{W1:World}{xs:List Nat}{i:Nat}{a:Int}{v v':Value}{wr w2 w3:World}(h:SI lo sb W1 xs i a v wr) (hi:i<xs.length) (hs:WE w2 sb (xs.take (i+1)) a) (hb:But sb wr w2) (hlo:lo<=sb) (hl:lo<=wr.heap.size) (hk:kd (xs.getD i 0)<=2)
 (hrow:Rw lo w3 v' (fin (xs.take i)++[xs.getD i 0]).length ((fin (xs.take i)++[xs.getD i 0]).map U)) (hb3:Below lo w2 w3) (hkeep:∀ (g:Nat) (cur:Array Value) (e:TypeId),e≠28->w2.heap[g]?=some (.cells cur e (0,0))->w3.heap[g]?=some (.cells cur e (0,0))) (hsz:w2.heap.size<=w3.heap.size):SI lo sb W1 xs (i+1) a v' w3 :=
 ⟨by rw[ZR xs i hi hk];exact hrow,mH.keep hs hkeep,(But.below h.aB hb hl hlo).trans hb3,dW (dW h.size hb.size) hsz⟩
theorem ZT(x:Nat)(n u d m p:Nat):(if kp (kd x)=0 then((n:Nat):Int)+1 else n)=((n+one 5 x:Nat):Int)/\(if kp (kd x)=1 then((u:Nat):Int)+1 else u)=((u+one 3 x:Nat):Int)/\(if kp (kd x)=2 then((d:Nat):Int)+1 else d)=((d+one 4 x:Nat):Int) /\
 (if kp (kd x)=3 then((m:Nat):Int)+1 else m)=((m+one 1 x:Nat):Int)/\(if kp (kd x)=4 then((p:Nat):Int)+1 else p)=((p+one 2 x:Nat):Int):=by
 have hk:=Sy x;unfold one;generalize kd x=k at hk;obtain rfl|rfl|rfl|rfl|rfl|rfl:k=0\/k=1\/k=2\/k=3\/k=4\/k=5:=ae
 all_goals simp[kp]
theorem kp_ge(x:Nat):3<=kp (kd x)↔kd x<=2:=by
 have hk:=Sy x;generalize kd x=k at hk;obtain rfl|rfl|rfl|rfl|rfl|rfl:k=0\/k=1\/k=2\/k=3\/k=4\/k=5:=ae
 all_goals simp[kp]
theorem kp_le(x:Nat):kp (kd x)<=5:=by unfold kp;(repeat' split) <;> omega
theorem WE.counted {w w':World}{sb:Nat}{xs:List Nat}{i:Nat}{a:Int}(hi:i<xs.length)
 (h:mH w' sb (if kp (kd (xs.getD i 0))=0 then((cn 5 (xs.take i):Nat):Int)+1 else((cn 5 (xs.take i):Nat):Int)) (if kp (kd (xs.getD i 0))=1 then((cn 3 (xs.take i):Nat):Int)+1 else((cn 3 (xs.take i):Nat):Int)) (if kp (kd (xs.getD i 0))=2 then((cn 4 (xs.take i):Nat):Int)+1 else((cn 4 (xs.take i):Nat):Int)) (if kp (kd (xs.getD i 0))=3 then((cn 1 (xs.take i):Nat):Int)+1 else((cn 1 (xs.take i):Nat):Int)) (if kp (kd (xs.getD i 0))=4 then((cn 2 (xs.take i):Nat):Int)+1 else((cn 2 (xs.take i):Nat):Int)) a) :
 WE w' sb (xs.take (i+1)) a:=by
 obtain⟨h1,h2,h3,h4,h5⟩:=ZT (xs.getD i 0) (cn 5 (xs.take i)) (cn 3 (xs.take i)) (cn 4 (xs.take i)) (cn 1 (xs.take i)) (cn 2 (xs.take i));rw[h1,h2,h3,h4,h5] at h;unfold WE;rw[uy 5 xs i hi,uy 3 xs i hi,uy 4 xs i hi,uy 1 xs i hi,uy 2 xs i hi];exact h
end Ps
namespace Ps
open Go.RowKit
open Go.Proofs.YtfmfhehbdfhnbaaGreatDoor.B (bF aH bw aU)
attribute [local go_sem] bF aH
theorem SC(xs:List Nat)(ao:Option Addr)(n cap:Nat)(a b:Int)(w:World)(hm:may a b=false) :
 Calls Tryz.prog 79 #[.slice ao n cap,.agg #[.int .i64 a,.int .i64 b]] w (jC w a b xs):=by
 have H:=hid (xU a b);rw[hm] at H;have HE:Aside (gG a b xs=1):=by unfold gG;rw[hm];rfl
 clear hm;go_enter Tryz.func79,Tryz.ntmps79;go_wp2_with fail;refine(H.o _).mono ?_;rintro r w1 ⟨rfl,hb⟩;have hsz:=hb.size;simp at hsz;obtain⟨hc,hf⟩:=aU hb;have HB:=aA hb;clear hb;go_wp2;refine aG (v:=.tuple #[.slice none 0 0,.agg #[.int .i64 0,.int .i64 0,.int .i64 0,.int .i64 0,.int .i64 0,.int .i64 0],.int .i64 1]) (by simp[results,Tryz.results79,go_sem,KV,hc]) rfl (jC.no 1 HE.o aj ?_);exact But.below ((((aD _ w).alloc (aC _) _).alloc aQ _).trans (HB.o.mono (by simp;omega))) (But.WG (But.refl (w.heap.size+1) _) _ _ _ _ _ _) ae ae
theorem OW(xs:List Nat)(ao:Option Addr)(n cap:Nat)(a b:Int)(w:World)(hn:n=xs.length)(hm:may a b=true)(hl:65536<n)(hn2:n<=35184372088832) :
 Calls Tryz.prog 79 #[.slice ao n cap,.agg #[.int .i64 a,.int .i64 b]] w (jC w a b xs):=by
 have H:=hid (xU a b);rw[hm] at H;have HE:Aside (gG a b xs=2):=by unfold gG;rw[if_neg (by rw[hm];decide),if_pos ae,Aside]
 clear hm hn;go_enter Tryz.func79,Tryz.ntmps79;go_wp2_with fail;refine(H.o _).mono ?_;rintro r w1 ⟨rfl,hb⟩;have hsz:=hb.size;simp at hsz;obtain⟨hc,hf⟩:=aU hb;have HB:=aA hb;clear hb;go_wp2;refine aG (v:=.tuple #[.slice none 0 0,.agg #[.int .i64 0,.int .i64 0,.int .i64 0,.int .i64 0,.int .i64 0,.int .i64 0],.int .i64 2]) (by simp[results,Tryz.results79,go_sem,KV,hc]) rfl (jC.no 2 HE.o aj ?_);exact But.below ((((aD _ w).alloc (aC _) _).alloc aQ _).trans (HB.o.mono (by simp;omega))) (But.WG (But.refl (w.heap.size+1) _) _ _ _ _ _ _) ae ae
theorem Qaj{P:Prop}(h:P:=by
 go_roundg (n-(i+1))
 case measure=>omega
 case rel=>exact⟨i+1,ae,by first | go_num | (congr 1;omega),HI⟩):P:=h
set_option maxRecDepth 100000 in
theorem OX(xs:List Nat)(ao:Option Addr)(n cap B:Nat)(a b:Int)(w:World)(hn:n=xs.length)(hm:may a b=true)(hl:n<=65536)(hx:Wf xs)(hR:Rd B w ao xs)(hB:B<=w.heap.size) :
 Calls Tryz.prog 79 #[.slice ao n cap,.agg #[.int .i64 a,.int .i64 b]] w (jC w a b xs):=by
 have H:=hid (xU a b);rw[hm] at H;have HE:Aside (gG a b xs=rf (cn 5 xs:Nat) (cn 3 xs:Nat) (cn 4 xs:Nat) a b):=by unfold gG;rw[if_neg (by rw[hm];decide),if_neg ae,Aside]
 have hmk:=OV n hl;have HX:=(ic hn hx hR hB);clear hm hn hx hR hB;go_enter Tryz.func79,Tryz.ntmps79;go_wp2_with fail;refine(H.o _).mono ?_;rintro r w1 ⟨rfl,hb⟩;have hsz:=hb.size;simp at hsz;obtain⟨hc,hf⟩:=aU hb;have HB:=aA hb
 have HZ:Aside (mH w1 (w.heap.size+1) 0 0 0 0 0 0):=by
  have h1:=mH.made (w.alloc (.cells #[.int .i64 a,.int .i64 b] 44)) 0 0 0 0 0 0;simp only[dD] at h1;exact h1.below hb aQ
 clear hb;go_wp2
 go_loopg [7,28] n (fun gk lv cv wr=>∃ (i:Nat),gk+i=n/\cv=.int .i64 (i:Nat)/\Aside (SI w1.heap.size (w1.heap.size+1) w1 xs i (n:Nat) lv wr))
 case atStart =>
  refine⟨0,ae,rfl,?_⟩;have h1:=(SA w1.heap.size w1 n hl (aC _)).alloc (.cells #[.int .i64 0,.int .i64 0,.int .i64 0,.int .i64 0,.int .i64 0,.int .i64 (n:Nat)] 106);have h2:=mH.made (w1.alloc (.cells (madeCells #[.float .f64 0] n) 28)) 0 0 0 0 0 (n:Nat);simp only[dD] at h2;exact⟨h1,h2,((aD _ _).alloc (aC _) _).alloc aQ _,by simp;omega⟩
 case round =>
  obtain⟨i,hi,rfl,HA⟩:=hrel
  by_cases hin:i=n
  · obtain rfl:gk=0:=ae
    obtain⟨hn,hx,hR,hB⟩:=HX.o;have hS:=HA.o;have e:xs.take i=xs:=iR ae;have hT:=hS.sp;unfold WE at hT;rw[e] at hT;have hc0:=hT.c0;have hc1:=hT.c1;have hc2:=hT.c2;have hc3:=hT.c3;have hc4:=hT.c4;have hc5:=hT.c5;have hlt:=hT.lt;have hcb:∀ b o,b<w1.heap.size->wr.cell? ⟨b,o,none⟩=w1.cell? ⟨b,o,none⟩:=fun b o h=>hS.aB.cell (p:=⟨b,o,none⟩) h;have hp0:wr.cell? ⟨w.heap.size,0,none⟩=some (.int .i64 a):=by rw[hcb _ _ ae,hc _ _ (by simp;omega)];simp[go_sem]
    have hp1:wr.cell? ⟨w.heap.size,1,none⟩=some (.int .i64 b):=by rw[hcb _ _ ae,hc _ _ (by simp;omega)];simp[go_sem]
    have hZ:mH wr (w.heap.size+1) 0 0 0 0 0 0:=HZ.o.below hS.aB ae;have hbd:=fun k=>Yi k xs n ae hl;have HRF:=hid (fun w=>Gm (cn 5 xs:Nat) (cn 3 xs:Nat) (cn 4 xs:Nat) (cn 1 xs:Nat) (cn 2 xs:Nat) (n:Nat) a b w (hbd 3) (hbd 4));obtain⟨ee,hee⟩:∃ ee,rf (cn 5 xs:Nat) (cn 3 xs:Nat) (cn 4 xs:Nat) a b=ee:=⟨_,rfl⟩;have HEE:Aside (gG a b xs=ee):=by rw[Aside,HE.o,hee]
    rw[hee] at HRF;obtain⟨c5,e5⟩:∃ c,cn 5 xs=c:=⟨_,rfl⟩;obtain⟨c3,e3⟩:∃ c,cn 3 xs=c:=⟨_,rfl⟩;obtain⟨c4,e4⟩:∃ c,cn 4 xs=c:=⟨_,rfl⟩;obtain⟨c1,e1⟩:∃ c,cn 1 xs=c:=⟨_,rfl⟩;obtain⟨c2,e2⟩:∃ c,cn 2 xs=c:=⟨_,rfl⟩;rw[e5,e3,e4,e1,e2] at hT HRF;rw[e5] at hc0;rw[e3] at hc1;rw[e4] at hc2;rw[e1] at hc3;rw[e2] at hc4;have HY:=(uI hZ hT e e1 e2 e3 e4 e5);have hBs:=hS.size;clear hn hx hR hB hS hT e hcb hbd hee e1 e2 e3 e4 e5 hZ;subst hin;go_wp2_with fail;refine(HRF.o _).mono ?_;rintro r w5 ⟨rfl,hb5⟩;obtain⟨hZ,hT,e,e1,e2,e3,e4,e5⟩:=HY.o;have Pf:=hZ.below hb5 hZ.lt;have WJ:=hT.below hb5 hT.lt;have hr5:=HA.o.row.below hb5;have hZf:=Pf.frozen;have hz0:=Pf.c0;have hz1:=Pf.c1;have hz2:=Pf.c2;have hz3:=Pf.c3;have MC:=Pf.c4;have ME:=Pf.c5;have ht0:=WJ.c0;have ht1:=WJ.c1;have ht2:=WJ.c2;have ht3:=WJ.c3;have ht4:=WJ.c4;have ht5:=WJ.c5;have hzl:=Pf.lt;have yX:Below w.heap.size w w5:=((((aD _ w).alloc (aC _) _).alloc aQ _).trans (HB.o.mono (by simp;omega))).trans ((HA.o.aB.mono ae).trans (hb5.mono ae));have HV:=(Cs yX hr5 Pf WJ e e1 e2 e3 e4 e5);clear hZ hT e e1 e2 e3 e4 e5 hb5 Pf WJ hr5 yX hc0 hc1 hc2 hc3 hc4 hc5 hp0 hp1 HY
    by_cases h0:ee=0
    · subst h0;go_wp2
      go_region
      all_goals
       go_wp2;refine aG (v:=.tuple #[u7,.agg #[.int .i64 (c5:Nat),.int .i64 (c3:Nat),.int .i64 (c4:Nat),.int .i64 (c1:Nat),.int .i64 (c2:Nat),.int .i64 (i:Nat)],.int .i64 0]) (by simp[results,Tryz.results79,go_sem,KV,hz0,hz1,hz2,hz3,MC,ME]) rfl ?_;obtain⟨yX,hr5,Pf,WJ,e,e1,e2,e3,e4,e5⟩:=HV.o;have aI:But (w.heap.size+1) w5 _:=(But.WG (But.refl (w.heap.size+1) w5) (.int .i64 (c5:Nat)) (.int .i64 (c3:Nat)) (.int .i64 (c4:Nat)) (.int .i64 (c1:Nat)) (.int .i64 (c2:Nat)) (.int .i64 (i:Nat))).drew;have hR6:=Rw.mono (Rw.but hr5 aI aj Pf) (show w.heap.size<=w1.heap.size by omega);rw[e] at hR6;have hans:=jC.yes HEE.o hR6 (But.below yX aI ae ae);rw[<-HX.o.1,e1,e2,e3,e4,e5] at hans;exact hans
    · have h0':(ee==0)=false:=by rw[beq_eq_false_iff_ne];exact h0
      go_wp2;refine aG (v:=.tuple #[.slice none 0 0,.agg #[.int .i64 0,.int .i64 0,.int .i64 0,.int .i64 0,.int .i64 0,.int .i64 0],.int .i64 ee]) (by simp[results,Tryz.results79,go_sem,KV,hz0,hz1,hz2,hz3,MC,ME]) rfl (jC.no ee HEE.o h0 ?_);exact But.below HV.o.1 (But.WG (But.refl (w.heap.size+1) _) _ _ _ _ _ _) ae ae
  · have hil:i<n:=ae
    obtain⟨hn,hx,hR,hB⟩:=HX.o;have hS:=HA.o;have hbw:Below w.heap.size w wr:=((((aD _ w).alloc (aC _) _).alloc aQ _).trans (HB.o.mono (by simp;omega))).trans (hS.aB.mono ae);have hRw:Rd w.heap.size wr ao xs:=(hR.mono hB).below hbw;obtain⟨bb,off,hlt2,rfl,hcell⟩:=hRw (by intro e;rw[e] at hn;simp at hn;omega);have Pe:=hcell i ae;have hxw:=hx.get i;obtain⟨x,iB⟩:∃ x,xs.getD i 0=x:=⟨_,rfl⟩;rw[iB] at Pe hxw;have HK:=hid (Sk x hxw);have hk5:=kp_le x;have hk3:=kp_ge x;obtain⟨kk,hkk⟩:∃ kk,kp (kd x)=kk:=⟨_,rfl⟩;rw[hkk] at HK hk5 hk3;have l1:(xs.take i).length<=65536:=by rw[ig];omega
    have hbd:=fun k=>Yi k (xs.take i) 65536 l1 (aC _);have hwl:=hS.size;have HY:=(jJ iB hkk hk3 hbd hn hlt2);clear hn hx hR hB hS hbw hRw hcell iB hkk hk3 hbd l1 hin;go_wp2_with fail;refine(HK.o _).mono ?_;rintro r w2 ⟨rfl,hb2⟩;have HS2:=aA (SI.kind HA.o hb2 hwl);have ZU:w2.cell? ⟨bb,off+i,none⟩=some (.float .f64 x):=by rw[hb2.cell (p:=⟨bb,off+i,none⟩) (by have:=HY.o.r5;simp;omega)];exact Pe
    have hsz2:=hb2.size;have HC:=hid (OU kk (w1.heap.size+1) _ _ _ _ _ _ w2 hk5 HS2.o.sp (HY.o.r3.1 5) (HY.o.r3.1 3) (HY.o.r3.1 4) (HY.o.r3.1 1) (HY.o.r3.1 2));clear hb2 Pe;go_wp2_with fail;refine aF HC.o ?_;rintro r w3 ⟨rfl,hs3,zU⟩;obtain⟨iB,hkk,hk3,hbd,hn,hlt2⟩:=HY.o;have WK:WE w3 (w1.heap.size+1) (xs.take (i+1)) (n:Nat):=WE.counted (w:=w2) ae (by rw[iB,hkk];exact hs3);have hsz3:=zU.size
    have hxc3:w3.cell? ⟨bb,off+i,none⟩=some (.float .f64 x):=by
     have h9:=(But.below (aD w1.heap.size w2) zU ae ae).cell (p:=⟨bb,off+i,none⟩) (by simp;omega);rw[h9];exact ZU
    by_cases hk2:kd x<=2
    · have hge:(3:Int)<=(kk:Int):=by have:=hk3.2 hk2;omega
      obtain⟨v',w4,hap,hrow4,hb4,SG,hsz4⟩:=push w1.heap.size w3 u7 (fin (xs.take i)) x (SI.row2 HS2.o zU) (by have h1:=Sz (xs.take i);rw[ig] at h1;omega) ae;have HI:=aA (SI.into (v':=v') HS2.o ae WK zU ae ae (by rw[iB];exact hk2) (by rw[iB];exact hrow4) hb4 SG hsz4);have Mj:=hid hap;clear hap hrow4 hb4 SG hsz4 hs3 WK zU iB hkk hk3 hbd hn hlt2 hk2 ZU
      go_wp2_with (at_builtin;refine dV rfl (.tmp 40) (.tmp 45) 35 rfl _ _ rfl rfl _ _ Mj.o ?_)
      exact Qaj
    · have hge:decide ((3:Int)<=(kk:Int))=false:=decide_eq_false (fun h=>hk2 (hk3.1 ae));have HI:=aA (SI.o HS2.o ae WK zU ae ae (by rw[iB];exact hk2));clear hs3 WK zU iB hkk hk3 hbd hn hlt2 hk2 ZU;go_wp2;exact Qaj
theorem SH(xs:List Nat)(ao:Option Addr)(n cap B:Nat)(a b:Int)(w:World)(hn:n=xs.length)(hm:n<=35184372088832)(hx:Wf xs)(hR:Rd B w ao xs)(hB:B<=w.heap.size) :
 Calls Tryz.prog 79 #[.slice ao n cap,.agg #[.int .i64 a,.int .i64 b]] w (jC w a b xs):=by
 rcases h:may a b with _|_
 · exact SC xs ao n cap a b w h
 · by_cases hl:65536<n
   · exact OW xs ao n cap a b w hn h hl hm
   · exact OX xs ao n cap B a b w hn h ae hx hR hB
end Ps
section
open Go.RowKit
theorem Gn{v:Nat->Nat}{top n S:Nat}(G:Wj v top)(hn:n≠0)(hS:0<S):gN v top n 0 true 0 0 S :=
 ⟨by have:=G.one;omega,hS,fun _=>by rw[G.zero,Nat.zero_pow ae,dL],(fun h=>by cases h),(fun h=>by cases h),(fun h=>by cases h)⟩
end
end Go.Proofs.YtfmfhehbdfhnbaaGreatDoor
