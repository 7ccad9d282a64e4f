import Derived.Test.YtaejmlkaefnbhaaGreatDoorSE4x
import Derived.BigQuiet
import Derived.Test.YtaejmlkaefnbhaaGreatDoorPR1x
import Derived.Test.YtaejmlkaefnbhaaGreatDoorM1x
import Derived.Laws.CopyOwn
import Derived.Deep.OwnRows
import Derived.Laws.MakeOwn
import Derived.ArgAppend
import Derived.Maps.AppendAt
import Derived.WalkMore
import Derived.Deep.RegionWith
import Derived.Deep.Cut
set_option linter.unusedVariables false
set_option linter.unusedSimpArgs false
set_option maxHeartbeats 16000000
set_option maxRecDepth 20000
namespace Go.Proofs.YtaejmlkaefnbhaaGreatDoor
namespace J
end J
section
open Go Go.RowKit J
theorem Qa9{P:Prop}(h:P:=by
 rw[hV,hgr];exact⟨(K1.o.1.below hb).below (ag _ _),(K1.o.2.1.below hb).below (ag _ _),Lo.new hN5⟩):P:=h
theorem Xg (w:World) (n:Int) (np ns nt:Bool) (ap az at':Option Addr) (lp cp ls cs lt ct:Nat) (ep es et:Int) (oI o1 o2:Option (Bool×Nat×Int)) (e1 e2:Int)
 (HI:Hid (∀ u:World,Below w.heap.size w u->Calls Tryz.prog 113 #[.int .i64 n] u fun r w'=>fD 0 w' r oI/\Below u.heap.size u w'))
 (MH:Hid (∀ (u:World) (a:Option Addr) (c:Nat),Below w.heap.size w u->Nt 0 u (.slice a (ws (dX oI)).length c) (dX oI)->Calls Tryz.prog 194 #[.agg #[.bool (dN oI),.slice a (ws (dX oI)).length c,.int .i64 (dE oI)],.agg #[.bool np,.slice ap lp cp,.int .i64 ep]] u fun r w'=>nG w' r o1 e1/\Below u.heap.size u w'))
 (YP:Hid (∀ u:World,Below w.heap.size w u->Calls Tryz.prog 194 #[.agg #[.bool ns,.slice az ls cs,.int .i64 es],.agg #[.bool nt,.slice at' lt ct,.int .i64 et]] u fun r w'=>nG w' r o2 e2/\Below u.heap.size u w')) (x1:e1=0) (x2:(e2==0)=false) :
 Calls Tryz.prog 117 #[.int .i64 n,.agg #[.bool np,.slice ap lp cp,.int .i64 ep],.agg #[.bool ns,.slice az ls cs,.int .i64 es],.agg #[.bool nt,.slice at' lt ct,.int .i64 et]] w fun r w'=>nG w' r (none:Option (Bool×Nat×Int)) e2/\Below w.heap.size w w':=by
 obtain⟨W,hW⟩:=ah ((((w.alloc (Obj.cells #[.bool np,.slice ap lp cp,.int .i64 ep] 77)).alloc (Obj.cells #[.bool ns,.slice az ls cs,.int .i64 es] 77)).alloc (Obj.cells #[.bool nt,.slice at' lt ct,.int .i64 et] 77)).alloc (Obj.cells #[.bool false,.slice none 0 0,.int .i64 0] 77))
 have H0:Aside (sP w W np ns nt ap az at' lp cp ls cs lt ct ep es et):=by
  exact Kf
 have HW:=au hW;clear hW;subst x1;go_enter Tryz.func117,Tryz.ntmps117
 go_upto_region 1 with fail
 rw[<-HW.o];clear HW
 go_cut [10,11] from 13 to 19 (fun q e wx=>∃ gq:Nat,q=.pointer (some ⟨gq,0,none⟩)/\e=.int .i64 0/\Aside (Lo wx gq o1/\sP w wx np ns nt ap az at' lp cp ls cs lt ct ep es et/\w.heap.size+3<gq))
 case first =>
  exact Zs
 obtain⟨gq,rfl,rfl,K1⟩:=hcut;obtain⟨U,hU⟩:=ah wc;rw[<-hU] at K1 |-;clear hU H0
 go_upto_region 4 with fail
 obtain⟨x0,x1,x2,dB,dC,dD⟩:=K1.o.2.1.s.facts;obtain⟨y0,y1,y2,eF,eG,eO⟩:=K1.o.2.1.t.facts;have C:=hid (YP.o U K1.o.2.1.b);go_wp2_with fail;refine C.o.mono ?_;rintro r u3 ⟨hd,hb⟩;obtain⟨a5,c5,rfl,hN5⟩:=hd.dR;obtain⟨V,hV⟩:=ah (u3.alloc (Obj.cells #[.bool (dN o2),.slice a5 (ws (dX o2)).length c5,.int .i64 (dE o2)] 77));obtain⟨gr,hgr⟩:=ah (u3.heap.size)
 have K2:Aside (Lo V gq o1/\sP w V np ns nt ap az at' lp cp ls cs lt ct ep es et/\Lo V gr o2):=by
  exact Qa9
 have HV:=(aT hV hgr);clear hV hgr hb hd hN5 C x0 x1 x2 dB dC dD y0 y1 y2 eF eG eO K1
 go_upto_region 5 with fail
 rw[<-HV.o.1,<-HV.o.2];clear HV;obtain⟨p4,q4,D4,M4⟩:=K2.o.2.1.z;obtain⟨y0,y1,y2,eF,eG,eO⟩:=D4.facts;have HE:=aT (D4.set false (.slice none 0 0) 0) (jM K2.o.2.1.b K2.o.2.1.b.size (show w.heap.size<=w.heap.size+3 by omega) (.bool false) (.slice none 0 0) (.int .i64 0));unfold dx at HE;clear D4 M4;go_wp2;obtain⟨f0,f1,f2,_,_,_⟩:=HE.o.1.facts;exact aJ (v:=.tuple #[.agg #[.bool false,.slice none 0 0,.int .i64 0],.int .i64 e2]) (by simp[results,Tryz.results117,go_sem,f0,f1,f2]) rfl ⟨⟨_,rfl,Nt.nil _ _⟩,HE.o.2⟩
theorem dif_ok (w:World) (n:Int) (np ns nt:Bool) (ap az at':Option Addr) (lp cp ls cs lt ct:Nat) (ep es et:Int) (oI o1 o2 o3:Option (Bool×Nat×Int)) (e1 e2 e3:Int)
 (HI:Hid (∀ u:World,Below w.heap.size w u->Calls Tryz.prog 113 #[.int .i64 n] u fun r w'=>fD 0 w' r oI/\Below u.heap.size u w'))
 (MH:Hid (∀ (u:World) (a:Option Addr) (c:Nat),Below w.heap.size w u->Nt 0 u (.slice a (ws (dX oI)).length c) (dX oI)->Calls Tryz.prog 194 #[.agg #[.bool (dN oI),.slice a (ws (dX oI)).length c,.int .i64 (dE oI)],.agg #[.bool np,.slice ap lp cp,.int .i64 ep]] u fun r w'=>nG w' r o1 e1/\Below u.heap.size u w'))
 (YP:Hid (∀ u:World,Below w.heap.size w u->Calls Tryz.prog 194 #[.agg #[.bool ns,.slice az ls cs,.int .i64 es],.agg #[.bool nt,.slice at' lt ct,.int .i64 et]] u fun r w'=>nG w' r o2 e2/\Below u.heap.size u w'))
 (HS:Hid (∀ (u:World) (a b:Option Addr) (c d:Nat),Below w.heap.size w u->Nt 0 u (.slice a (ws (dX o1)).length c) (dX o1)->Nt 0 u (.slice b (ws (dX o2)).length d) (dX o2)->Calls Tryz.prog 195 #[.agg #[.bool (dN o1),.slice a (ws (dX o1)).length c,.int .i64 (dE o1)],.agg #[.bool (dN o2),.slice b (ws (dX o2)).length d,.int .i64 (dE o2)]] u fun r w'=>nG w' r o3 e3/\Below u.heap.size u w')) (x1:e1=0) (x2:e2=0) :
 Calls Tryz.prog 117 #[.int .i64 n,.agg #[.bool np,.slice ap lp cp,.int .i64 ep],.agg #[.bool ns,.slice az ls cs,.int .i64 es],.agg #[.bool nt,.slice at' lt ct,.int .i64 et]] w fun r w'=>nG w' r o3 e3/\Below w.heap.size w w':=by
 obtain⟨W,hW⟩:=ah ((((w.alloc (Obj.cells #[.bool np,.slice ap lp cp,.int .i64 ep] 77)).alloc (Obj.cells #[.bool ns,.slice az ls cs,.int .i64 es] 77)).alloc (Obj.cells #[.bool nt,.slice at' lt ct,.int .i64 et] 77)).alloc (Obj.cells #[.bool false,.slice none 0 0,.int .i64 0] 77))
 have H0:Aside (sP w W np ns nt ap az at' lp cp ls cs lt ct ep es et):=by
  exact Kf
 have HW:=au hW;clear hW;subst x1;subst x2;go_enter Tryz.func117,Tryz.ntmps117
 go_upto_region 1 with fail
 rw[<-HW.o];clear HW
 go_cut [10,11] from 13 to 19 (fun q e wx=>∃ gq:Nat,q=.pointer (some ⟨gq,0,none⟩)/\e=.int .i64 0/\Aside (Lo wx gq o1/\sP w wx np ns nt ap az at' lp cp ls cs lt ct ep es et/\w.heap.size+3<gq))
 case first =>
  exact Zs
 obtain⟨gq,rfl,rfl,K1⟩:=hcut;obtain⟨U,hU⟩:=ah wc;rw[<-hU] at K1 |-;clear hU H0
 go_upto_region 4 with fail
 obtain⟨x0,x1,x2,dB,dC,dD⟩:=K1.o.2.1.s.facts;obtain⟨y0,y1,y2,eF,eG,eO⟩:=K1.o.2.1.t.facts;have C:=hid (YP.o U K1.o.2.1.b);go_wp2_with fail;refine C.o.mono ?_;rintro r u3 ⟨hd,hb⟩;obtain⟨a5,c5,rfl,hN5⟩:=hd.dR;obtain⟨V,hV⟩:=ah (u3.alloc (Obj.cells #[.bool (dN o2),.slice a5 (ws (dX o2)).length c5,.int .i64 (dE o2)] 77));obtain⟨gr,hgr⟩:=ah (u3.heap.size)
 have K2:Aside (Lo V gq o1/\sP w V np ns nt ap az at' lp cp ls cs lt ct ep es et/\Lo V gr o2):=by
  exact Qa9
 have HV:=(aT hV hgr);clear hV hgr hb hd hN5 C x0 x1 x2 dB dC dD y0 y1 y2 eF eG eO K1
 go_upto_region 5 with fail
 rw[<-HV.o.1,<-HV.o.2];clear HV
 go_upto_region 7 with fail
 obtain⟨p1,q1,D1,M1⟩:=K2.o.1;obtain⟨p2,q2,D2,M2⟩:=K2.o.r2;obtain⟨x0,x1,x2,dB,dC,dD⟩:=D1.facts;obtain⟨y0,y1,y2,eF,eG,eO⟩:=D2.facts;have C:=hid (HS.o V p1 p2 q1 q2 K2.o.2.1.b M1 M2);clear D1 D2 M1 M2;go_wp2_with fail;refine C.o.mono ?_;rintro r u4 ⟨hd,hb⟩;obtain⟨a6,c6,rfl,hN6⟩:=hd.dR;have K3:=aT (K2.o.2.1.below hb) hN6;clear hb hd hN6 C x0 x1 x2 dB dC dD y0 y1 y2 eF eG eO K2;obtain⟨p4,q4,D4,M4⟩:=K3.o.1.z;obtain⟨y0,y1,y2,eF,eG,eO⟩:=D4.facts;have HE:=bM (D4.set (dN o3) (.slice a6 (ws (dX o3)).length c6) (dE o3)) (K3.o.2.Mm D4 (.bool (dN o3)) (.slice a6 (ws (dX o3)).length c6) (.int .i64 (dE o3))) (jM K3.o.1.b K3.o.1.b.size (show w.heap.size<=w.heap.size+3 by omega) (.bool (dN o3)) (.slice a6 (ws (dX o3)).length c6) (.int .i64 (dE o3)));unfold dx at HE;clear D4 M4;go_wp2;obtain⟨f0,f1,f2,_,_,_⟩:=HE.o.1.facts;exact aJ (v:=.tuple #[.agg #[.bool (dN o3),.slice a6 (ws (dX o3)).length c6,.int .i64 (dE o3)],.int .i64 e3]) (by simp[results,Tryz.results117,go_sem,f0,f1,f2]) rfl ⟨⟨_,rfl,HE.o.2.1⟩,HE.o.r2⟩
theorem Eg{o p:Option (Bool×Nat×Int)}(h:(dM o p).isSome=true):mkS (dN (dM o p)) (dX (dM o p)) (dE (dM o p))=dM o p:=by
 cases o with
 | none=>cases h
 | some x =>
   cases p with
   | none=>cases h
   | some y=>exact DI (o:=dM (some x) (some y)) rfl h
theorem jX{w w':World}{p:Addr}{v:Value}(h:w.cell? p=some v)(hb:Below w.heap.size w w'):w'.cell? p=some v:=(hb.cell (p:=p) (iH w p h)).trans h
theorem ck{w u:World}(hb:Below w.heap.size w u){a b c d:Addr}{p q r s:Value}{R R':Prop}(h:w.cell? a=some p/\w.cell? b=some q/\w.cell? c=some r/\w.cell? d=some s/\R)(f:R->R'):u.cell? a=some p/\u.cell? b=some q/\u.cell? c=some r/\u.cell? d=some s/\R':=⟨jX h.1 hb,jX h.2.1 hb,jX h.2.2.1 hb,jX h.2.2.2.1 hb,f h.2.2.2.2⟩
theorem ck1{w u:World}(hb:Below w.heap.size w u){a:Addr}{p:Value}(h:w.cell? a=some p):u.cell? a=some p:=jX h hb
theorem ck2{w u:World}(hb:Below w.heap.size w u){a b:Addr}{p q:Value}(h:w.cell? a=some p/\w.cell? b=some q):u.cell? a=some p/\u.cell? b=some q:=⟨jX h.1 hb,jX h.2 hb⟩
theorem ck3{w u:World}(hb:Below w.heap.size w u){a b c:Addr}{p q r:Value}(h:w.cell? a=some p/\w.cell? b=some q/\w.cell? c=some r):u.cell? a=some p/\u.cell? b=some q/\u.cell? c=some r:=⟨jX h.1 hb,jX h.2.1 hb,jX h.2.2 hb⟩
theorem ck4{w u:World}(hb:Below w.heap.size w u){a b c d:Addr}{p q r s:Value}(h:w.cell? a=some p/\w.cell? b=some q/\w.cell? c=some r/\w.cell? d=some s):u.cell? a=some p/\u.cell? b=some q/\u.cell? c=some r/\u.cell? d=some s:=⟨jX h.1 hb,jX h.2.1 hb,jX h.2.2.1 hb,jX h.2.2.2 hb⟩
theorem GQ{w:World}{g:Nat}{x y z:Value}{p:Addr}{v:Value}(h:w.cell? p=some v)(hg:p.block≠g):(dx w g x y z).cell? p=some v:=by
 rw[rR (a:=p) ((uD g w x y z).block p.block (iH w p h) hg)];exact h
theorem uG{o:Option (Bool×Nat×Int)}(h:o.isSome=true)(hr:mkS (dN o) (dX o) (dE o)=o):(ws (dX o)).length<=8192/\-9223372036854775808<=dE o/\dE o<=9223372036854775807:=by
 have F:=uB (n:=dN o) (X:=dX o) (e:=dE o) (by rw[hr];exact h);rw[hr] at F;have:=iT F;have:=F.up;have:=F.down;refine⟨af,af,af⟩
theorem sQ {w:World}{ap az at':Option Addr}{lp cp ls cs lt ct:Nat}{xs ys zs:List Nat}(n:Int) (np ns nt:Bool) (ep es et:Int) (h1:Arg w ap lp cp xs) (h2:Arg w az ls cs ys) (h3:Arg w at' lt ct zs) (hT:bO w)
 (hn:-9223372036854775808<=n/\n<=9223372036854775807) (b1:-9223372036854775808<=ep/\ep<=9223372036854775807) (b2:-9223372036854775808<=es/\es<=9223372036854775807) (b3:-9223372036854775808<=et/\et<=9223372036854775807) :
 Calls Tryz.prog 117 #[.int .i64 n,.agg #[.bool np,.slice ap lp cp,.int .i64 ep],.agg #[.bool ns,.slice az ls cs,.int .i64 es],.agg #[.bool nt,.slice at' lt ct,.int .i64 et]] w fun r w' =>
  nG w' r (uF (dM (gV 0 n) (mkS np (val xs) ep)) (dM (mkS ns (val ys) es) (mkS nt (val zs) et))) (qx (uF (dM (gV 0 n) (mkS np (val xs) ep)) (dM (mkS ns (val ys) es) (mkS nt (val zs) et))))/\Below w.heap.size w w':=by
 have Fi:Fm (gV 0 n):=cu (m:=63) aA aA (show Bd 63 n by unfold Bd;omega);have HI:=hid (fun(u:World) (hu:Below w.heap.size w u)=>TM n u (hT.belows hu) hn.1 hn.2)
 have MH:∀ (u:World) (a:Option Addr) (c:Nat),Below w.heap.size w u->Nt 0 u (.slice a (ws (dX (gV 0 n))).length c) (dX (gV 0 n))->Calls Tryz.prog 194 #[.agg #[.bool (dN (gV 0 n)),.slice a (ws (dX (gV 0 n))).length c,.int .i64 (dE (gV 0 n))],.agg #[.bool np,.slice ap lp cp,.int .i64 ep]] u fun r w'=>nG w' r (dM (gV 0 n) (mkS np (val xs) ep)) (qx (dM (gV 0 n) (mkS np (val xs) ep)))/\Below u.heap.size u w':=fun u a c hu hN=>by
  have:=yu (Fi.a12 hN) (h1.below hu) (hT.belows hu) (dN (gV 0 n)) np (dE (gV 0 n)) ep Fi.o7.1 Fi.o7.2 b1.1 b1.2;rw[aC,Fi.re] at this;exact this.mono fun r w' h=>⟨h.1.da14,h.2⟩
 have YP:∀ u:World,Below w.heap.size w u->Calls Tryz.prog 194 #[.agg #[.bool ns,.slice az ls cs,.int .i64 es],.agg #[.bool nt,.slice at' lt ct,.int .i64 et]] u fun r w'=>nG w' r (dM (mkS ns (val ys) es) (mkS nt (val zs) et)) (qx (dM (mkS ns (val ys) es) (mkS nt (val zs) et)))/\Below u.heap.size u w':=fun u hu =>
  (yu (h2.below hu) (h3.below hu) (hT.belows hu) ns nt es et b2.1 b2.2 b3.1 b3.2).mono fun r w' h=>⟨h.1.da14,h.2⟩
 have R1:=Eg (o:=gV 0 n) (p:=mkS np (val xs) ep);have R2:=Eg (o:=mkS ns (val ys) es) (p:=mkS nt (val zs) et);generalize dM (gV 0 n) (mkS np (val xs) ep)=o1 at *;generalize dM (mkS ns (val ys) es) (mkS nt (val zs) et)=o2 at *
 have HS:o1.isSome=true->o2.isSome=true->∀ (u:World) (a b:Option Addr) (c d:Nat),Below w.heap.size w u->Nt 0 u (.slice a (ws (dX o1)).length c) (dX o1)->Nt 0 u (.slice b (ws (dX o2)).length d) (dX o2)->Calls Tryz.prog 195 #[.agg #[.bool (dN o1),.slice a (ws (dX o1)).length c,.int .i64 (dE o1)],.agg #[.bool (dN o2),.slice b (ws (dX o2)).length d,.int .i64 (dE o2)]] u fun r w'=>nG w' r (iO o1 (mkS (!dN o2) (dX o2) (dE o2))) (qx (iO o1 (mkS (!dN o2) (dX o2) (dE o2))))/\Below u.heap.size u w':=fun q1 q2 u a b c d hu n1 n2=>by
  obtain⟨l1,r1,r1'⟩:=uG q1 (R1 q1);obtain⟨l2,r2,r2'⟩:=uG q2 (R2 q2);have:=Sy (n1.cB af).2 (n2.cB af).2 (hT.belows hu) (dN o1) (dN o2) (dE o1) (dE o2) r1 r1' r2 r2';rw[aC,aC,R1 q1] at this;exact this.mono fun r w' h=>⟨h.1.da14,h.2⟩
 unfold uF;have none14:∀ (u:World) (a b:Option Addr) (c d:Nat),Below w.heap.size w u->Nt 0 u (.slice a (ws (dX o1)).length c) (dX o1)->Nt 0 u (.slice b (ws (dX o2)).length d) (dX o2)->True:=fun _ _ _ _ _ _ _ _=>trivial
 cases q1:o1.isSome with
 | false =>
   have e1:=yS q1;rw[e1] at MH;exact Xf w n np ns nt ap az at' lp cp ls cs lt ct ep es et (gV 0 n) o1 o2 2 (qx o2) HI (hid MH) aA
 | true =>
   have e1:=yR q1;rw[e1] at MH
   cases q2:o2.isSome with
   | false =>
     have e2:=yS q2;rw[e2] at YP;exact Xg w n np ns nt ap az at' lp cp ls cs lt ct ep es et (gV 0 n) o1 o2 0 2 HI (hid MH) (hid YP) rfl aA
   | true =>
     have e2:=yR q2;rw[e2] at YP;exact dif_ok w n np ns nt ap az at' lp cp ls cs lt ct ep es et (gV 0 n) o1 o2 _ 0 0 _ HI (hid MH) (hid YP) (hid (HS q1 q2)) rfl rfl
theorem difg14 {w:World}{ap az at':Option Addr}{cp cs ct:Nat}{n:Nat}{P S T:Int}(hn:n<=65536) (bP:Bd 4212 P) (bS:Bd 2114 S) (bT:Bd 2114 T) (hT:bO w)
 (N1:Nt 0 w (.slice ap (ws (dX (gV 2148 P))).length cp) (dX (gV 2148 P))) (N2:Nt 0 w (.slice az (ws (dX (gV 1074 S))).length cs) (dX (gV 1074 S))) (N3:Nt 0 w (.slice at' (ws (dX (gV 1074 T))).length ct) (dX (gV 1074 T))) :
 Calls Tryz.prog 117 #[.int .i64 (n:Nat),.agg #[.bool (dN (gV 2148 P)),.slice ap (ws (dX (gV 2148 P))).length cp,.int .i64 (dE (gV 2148 P))],.agg #[.bool (dN (gV 1074 S)),.slice az (ws (dX (gV 1074 S))).length cs,.int .i64 (dE (gV 1074 S))],.agg #[.bool (dN (gV 1074 T)),.slice at' (ws (dX (gV 1074 T))).length ct,.int .i64 (dE (gV 1074 T))]] w fun r w' =>
  nG w' r (gV 2148 ((n:Int)*P-S*T)) 0/\Below w.heap.size w w':=by
 have F1:Fm (gV 2148 P):=cu aA aA bP;have F2:Fm (gV 1074 S):=cu aA aA bS;have F3:Fm (gV 1074 T):=cu aA aA bT;have bn:Bd 16 (n:Int):=Bd.nat af;have b1:Bd 4228 ((n:Int)*P):=(bn.mul bP).mono aA;have b2:Bd 4228 (S*T):=(bS.mul bT).mono aA;have F4:Fm (gV 2148 ((n:Int)*P)):=cu aA aA b1;have F5:Fm (gV 2148 (S*T)):=cu aA aA b2;have F6:Fm (gV 2148 ((n:Int)*P-S*T)):=cu aA aA (b1.sub b2);have:=sQ (n:Int) (dN (gV 2148 P)) (dN (gV 1074 S)) (dN (gV 1074 T)) (dE (gV 2148 P)) (dE (gV 1074 S)) (dE (gV 1074 T)) (F1.a12 N1) (F2.a12 N2) (F3.a12 N3) hT af F1.o7 F2.o7 F3.o7;rw[aC,aC,aC,F1.re,F2.re,F3.re,sI aA aA aA aA bn bP,sI aA aA aA aA bS bT,dm] at this
 have e:uF (gV 2148 ((n:Int)*P)) (gV 2148 (S*T))=gV 2148 ((n:Int)*P-S*T):=by
  unfold uF;rw[F4.sm,F5.sm];exact YI aA aA b1 b2
 rw[e,F6.er] at this;exact this
attribute [local go_sem] gZ
set_option maxRecDepth 20000 in
theorem Eh (w:World) (g h:Nat) (n u d m p a n' u' d' m' p' a':Int) (o q o' q' oo qq:Option (Bool×Nat×Int)) (lo hi lo' hi' X Y:Nat) (a1 a2 b1 b2:Option Addr) (c1 c2 d1 d2:Nat)
 (HG:Bl w g 79 [.int .i64 n,.int .i64 u,.int .i64 d,.int .i64 m,.int .i64 p,.int .i64 a,.bool (dN o),.slice a1 (ws (dX o)).length c1,.int .i64 (dE o),.bool (dN q),.slice a2 (ws (dX q)).length c2,.int .i64 (dE q),.float .f64 lo,.float .f64 hi]) (HH:Bl w h 79 [.int .i64 n',.int .i64 u',.int .i64 d',.int .i64 m',.int .i64 p',.int .i64 a',.bool (dN o'),.slice b1 (ws (dX o')).length d1,.int .i64 (dE o'),.bool (dN q'),.slice b2 (ws (dX q')).length d2,.int .i64 (dE q'),.float .f64 lo',.float .f64 hi'])
 (N1:Nt 0 w (.slice a1 (ws (dX o)).length c1) (dX o)) (N2:Nt 0 w (.slice a2 (ws (dX q)).length c2) (dX q)) (N3:Nt 0 w (.slice b1 (ws (dX o')).length d1) (dX o')) (N4:Nt 0 w (.slice b2 (ws (dX q')).length d2) (dX q'))
 (wr:IntKind.i64.wrap (a+a')=a+a') (hd:decide (1099511627776<a+a')=false)
 (Xb:Hid (∀ u1:World,Below w.heap.size w u1->Calls Tryz.prog 46 #[.pointer (some ⟨g,0,none⟩),.pointer (some ⟨h,0,none⟩)] u1 fun r w'=>r=.returned (.tuple #[.float .f64 X,.float .f64 Y])/\Below u1.heap.size u1 w'))
 (HTG:Hid (∀ u1:World,Calls Tryz.prog 47 #[.agg #[.int .i64 n,.int .i64 u,.int .i64 d,.int .i64 m,.int .i64 p,.int .i64 a],.agg #[.int .i64 n',.int .i64 u',.int .i64 d',.int .i64 m',.int .i64 p',.int .i64 a']] u1 fun r w'=>r=.returned (.agg #[.int .i64 (n+n'),.int .i64 (u+u'),.int .i64 (d+d'),.int .i64 (m+m'),.int .i64 (p+p'),.int .i64 (a+a')])/\Below u1.heap.size u1 w'))
 (FF:Aside (Fm o/\Fm o'/\Fm oo/\Fm q/\Fm q'/\Fm qq/\iO o o'=oo/\iO q q'=qq)) (HTT:Aside (bO w)) :
 Calls Tryz.prog 12 #[.pointer (some ⟨g,0,none⟩),.pointer (some ⟨h,0,none⟩)] w fun r w'=>r=.returned (.int .i64 0)/\fe w' g ⟨n+n',u+u',d+d',m+m',p+p',a+a'⟩ oo qq X Y/\But g w w':=by
 have x5:w.cell? ⟨g,5,none⟩=some (.int .i64 a):=HG.cell 5 _ rfl;have y5:w.cell? ⟨h,5,none⟩=some (.int .i64 a'):=HH.cell 5 _ rfl;have HZ:=(rG HG HH N1 N2 N3 N4);clear HG HH N1 N2 N3 N4;go_enter Tryz.func12,Tryz.ntmps12;go_wp2_with fail
 go_quiet (fail)
 have HS:=hid (Xb.o (w.drewN nq) (ib (aG _ _) _));clear Xb x5 y5;go_wp2_with fail;refine HS.o.mono ?_;rintro r v ⟨rfl,hb⟩;have hbv:Below w.heap.size w v.drew:=((ib (aG _ w) nq).trans hb).drew;have BD:Aside (Nt 0 v.drew (.slice a1 (ws (dX o)).length c1) (dX o)/\Nt 0 v.drew (.slice a2 (ws (dX q)).length c2) (dX q)/\Nt 0 v.drew (.slice b1 (ws (dX o')).length d1) (dX o')/\Nt 0 v.drew (.slice b2 (ws (dX q')).length d2) (dX q')/\Bl v.drew g 79 [.int .i64 n,.int .i64 u,.int .i64 d,.int .i64 m,.int .i64 p,.int .i64 a,.bool (dN o),.slice a1 (ws (dX o)).length c1,.int .i64 (dE o),.bool (dN q),.slice a2 (ws (dX q)).length c2,.int .i64 (dE q),.float .f64 lo,.float .f64 hi]/\Below w.heap.size w v.drew):=au ⟨HZ.o.r2.1.below hbv,HZ.o.r3.1.below hbv,HZ.o.r4.1.below hbv,HZ.o.r5.below hbv,HZ.o.1.below hbv HZ.o.1.lt,hbv⟩;have PM:Bl v.drew h 79 [.int .i64 n',.int .i64 u',.int .i64 d',.int .i64 m',.int .i64 p',.int .i64 a',.bool (dN o'),.slice b1 (ws (dX o')).length d1,.int .i64 (dE o'),.bool (dN q'),.slice b2 (ws (dX q')).length d2,.int .i64 (dE q'),.float .f64 lo',.float .f64 hi']:=HZ.o.2.1.below hbv HZ.o.2.1.lt;have kS:Aside (v.drew.cell? ⟨g,0,none⟩=some (.int .i64 n)/\v.drew.cell? ⟨g,1,none⟩=some (.int .i64 u)/\v.drew.cell? ⟨g,2,none⟩=some (.int .i64 d)/\v.drew.cell? ⟨g,3,none⟩=some (.int .i64 m)/\v.drew.cell? ⟨g,4,none⟩=some (.int .i64 p)/\v.drew.cell? ⟨g,5,none⟩=some (.int .i64 a)/\v.drew.cell? ⟨g,6,none⟩=some (.bool (dN o))/\v.drew.cell? ⟨g,7,none⟩=some (.slice a1 (ws (dX o)).length c1)/\v.drew.cell? ⟨g,8,none⟩=some (.int .i64 (dE o))/\v.drew.cell? ⟨g,9,none⟩=some (.bool (dN q))/\v.drew.cell? ⟨g,10,none⟩=some (.slice a2 (ws (dX q)).length c2)/\v.drew.cell? ⟨g,11,none⟩=some (.int .i64 (dE q))/\v.drew.cell? ⟨h,0,none⟩=some (.int .i64 n')/\v.drew.cell? ⟨h,1,none⟩=some (.int .i64 u')/\v.drew.cell? ⟨h,2,none⟩=some (.int .i64 d')/\v.drew.cell? ⟨h,3,none⟩=some (.int .i64 m')/\v.drew.cell? ⟨h,4,none⟩=some (.int .i64 p')/\v.drew.cell? ⟨h,5,none⟩=some (.int .i64 a')/\v.drew.cell? ⟨h,6,none⟩=some (.bool (dN o'))/\v.drew.cell? ⟨h,7,none⟩=some (.slice b1 (ws (dX o')).length d1)/\v.drew.cell? ⟨h,8,none⟩=some (.int .i64 (dE o'))/\v.drew.cell? ⟨h,9,none⟩=some (.bool (dN q'))/\v.drew.cell? ⟨h,10,none⟩=some (.slice b2 (ws (dX q')).length d2)/\v.drew.cell? ⟨h,11,none⟩=some (.int .i64 (dE q'))):=au ⟨BD.o.r4.1.cell 0 _ rfl,BD.o.r4.1.cell 1 _ rfl,BD.o.r4.1.cell 2 _ rfl,BD.o.r4.1.cell 3 _ rfl,BD.o.r4.1.cell 4 _ rfl,BD.o.r4.1.cell 5 _ rfl,BD.o.r4.1.cell 6 _ rfl,BD.o.r4.1.cell 7 _ rfl,BD.o.r4.1.cell 8 _ rfl,BD.o.r4.1.cell 9 _ rfl,BD.o.r4.1.cell 10 _ rfl,BD.o.r4.1.cell 11 _ rfl,PM.cell 0 _ rfl,PM.cell 1 _ rfl,PM.cell 2 _ rfl,PM.cell 3 _ rfl,PM.cell 4 _ rfl,PM.cell 5 _ rfl,PM.cell 6 _ rfl,PM.cell 7 _ rfl,PM.cell 8 _ rfl,PM.cell 9 _ rfl,PM.cell 10 _ rfl,PM.cell 11 _ rfl⟩;clear hb hbv PM HS HZ
 go_upto_region 4 with fail
 refine eZ (fun w'=>w'.cell? ⟨g,0,none⟩=some (.int .i64 n)/\w'.cell? ⟨g,1,none⟩=some (.int .i64 u)/\w'.cell? ⟨g,2,none⟩=some (.int .i64 d)/\w'.cell? ⟨g,3,none⟩=some (.int .i64 m)/\w'.cell? ⟨g,4,none⟩=some (.int .i64 p)/\w'.cell? ⟨g,5,none⟩=some (.int .i64 a)/\w'.cell? ⟨g,6,none⟩=some (.bool (dN o))/\w'.cell? ⟨g,7,none⟩=some (.slice a1 (ws (dX o)).length c1)/\w'.cell? ⟨g,8,none⟩=some (.int .i64 (dE o))/\w'.cell? ⟨g,9,none⟩=some (.bool (dN q))/\w'.cell? ⟨g,10,none⟩=some (.slice a2 (ws (dX q)).length c2)/\w'.cell? ⟨g,11,none⟩=some (.int .i64 (dE q))/\w'.cell? ⟨h,0,none⟩=some (.int .i64 n')/\w'.cell? ⟨h,1,none⟩=some (.int .i64 u')/\w'.cell? ⟨h,2,none⟩=some (.int .i64 d')/\w'.cell? ⟨h,3,none⟩=some (.int .i64 m')/\w'.cell? ⟨h,4,none⟩=some (.int .i64 p')/\w'.cell? ⟨h,5,none⟩=some (.int .i64 a')/\w'.cell? ⟨h,6,none⟩=some (.bool (dN o'))/\w'.cell? ⟨h,7,none⟩=some (.slice b1 (ws (dX o')).length d1)/\w'.cell? ⟨h,8,none⟩=some (.int .i64 (dE o'))/\w'.cell? ⟨h,9,none⟩=some (.bool (dN q'))/\w'.cell? ⟨h,10,none⟩=some (.slice b2 (ws (dX q')).length d2)/\w'.cell? ⟨h,11,none⟩=some (.int .i64 (dE q'))) 32 gD ?_;obtain⟨Wd,hWd⟩:=ah (v.drew);rw[<-hWd] at BD kS |-;clear hWd
 refine tk 0 [31] rfl kS.o ?_;try simp only[Act.put,sa,sb,sc]
 refine tk 1 [2,3,4,9,18,27,30] rfl kS.o ?_;try simp only[Act.put,sa,sb,sc]
 refine tk 2 [3,4,9,18,27,30] rfl kS.o ?_;try simp only[Act.put,sa,sb,sc]
 refine tk 3 [4,9,18,27,30] rfl kS.o ?_;try simp only[Act.put,sa,sb,sc]
 refine tk 4 [9,18,27,30] rfl kS.o ?_;try simp only[Act.put,sa,sb,sc]
 refine tk 5 [6,7,8,9,18,27,30] rfl kS.o ?_;try simp only[Act.put,sa,sb,sc]
 refine tk 6 [7,8,9,18,27,30] rfl kS.o ?_;try simp only[Act.put,sa,sb,sc]
 refine tk 7 [8,9,18,27,30] rfl kS.o ?_;try simp only[Act.put,sa,sb,sc]
 refine tk 8 [9,18,27,30] rfl kS.o ?_;try simp only[Act.put,sa,sb,sc]
 refine tk 10 [11,12,13,18,27,30] rfl kS.o ?_;try simp only[Act.put,sa,sb,sc]
 refine tk 11 [12,13,18,27,30] rfl kS.o ?_;try simp only[Act.put,sa,sb,sc]
 refine tk 12 [13,18,27,30] rfl kS.o ?_;try simp only[Act.put,sa,sb,sc]
 refine tk 13 [18,27,30] rfl kS.o ?_;try simp only[Act.put,sa,sb,sc]
 refine tk 14 [15,16,17,18,27,30] rfl kS.o ?_;try simp only[Act.put,sa,sb,sc]
 refine tk 15 [16,17,18,27,30] rfl kS.o ?_;try simp only[Act.put,sa,sb,sc]
 refine tk 16 [17,18,27,30] rfl kS.o ?_;try simp only[Act.put,sa,sb,sc]
 refine tk 17 [18,27,30] rfl kS.o ?_;try simp only[Act.put,sa,sb,sc]
 refine tk 19 [20,21,22,27,30] rfl kS.o ?_;try simp only[Act.put,sa,sb,sc]
 refine tk 20 [21,22,27,30] rfl kS.o ?_;try simp only[Act.put,sa,sb,sc]
 refine tk 21 [22,27,30] rfl kS.o ?_;try simp only[Act.put,sa,sb,sc]
 refine tk 22 [27,30] rfl kS.o ?_;try simp only[Act.put,sa,sb,sc]
 refine tk 23 [24,25,26,27,30] rfl kS.o ?_;try simp only[Act.put,sa,sb,sc]
 refine tk 24 [25,26,27,30] rfl kS.o ?_;try simp only[Act.put,sa,sb,sc]
 refine tk 25 [26,27,30] rfl kS.o ?_;try simp only[Act.put,sa,sb,sc]
 refine tk 26 [27,30] rfl kS.o ?_;try simp only[Act.put,sa,sb,sc]
 refine tk 28 [30] rfl kS.o ?_;try simp only[Act.put,sa,sb,sc]
 refine tk 29 [30] rfl kS.o ?_;try simp only[Act.put,sa,sb,sc]
 refine aO (i:=9) gD rfl (fun K' hK=>?_);have C:=hid (HTG.o Wd);go_simp;refine C.o.mono ?_;rintro r Xh ⟨rfl,hb⟩;have yT:=rG (BD.o.1.below hb) (BD.o.2.1.below hb) (BD.o.r2.1.below hb) (BD.o.r3.1.below hb) (BD.o.r4.1.below hb BD.o.r4.1.lt) (BD.o.r5.trans (hb.mono BD.o.r5.size));have vE:=au (ck hb kS.o fun h=>ck hb h fun h=>ck hb h fun h=>ck hb h fun h=>ck hb h fun h=>ck4 hb h);clear hb C BD kS;have BD:=yT;have kS:=vE;clear yT vE
 try dsimp only
 refine hK.out _ _ (fun _=>kS.o) ?_;clear hK K'
 try simp only[Act.put,sa,sb,sc]
 refine aO (i:=18) gD rfl (fun K' hK=>?_);have C:=hid (Tx FF.o.1 FF.o.2.1 FF.o.r2.1 BD.o.1 BD.o.r2.1 (HTT.o.belows BD.o.r5) FF.o.r6.1);go_simp;refine C.o.mono ?_;rintro r YQ ⟨hd,hb⟩;obtain⟨ooa,ooc,rfl,hN⟩:=hd.dR;clear hd;have yT:=EF (BD.o.1.below hb) (BD.o.2.1.below hb) (BD.o.r2.1.below hb) (BD.o.r3.1.below hb) (BD.o.r4.1.below hb BD.o.r4.1.lt) (BD.o.r5.trans (hb.mono BD.o.r5.size)) hN;have vE:=au (ck hb kS.o fun h=>ck hb h fun h=>ck hb h fun h=>ck hb h fun h=>ck hb h fun h=>ck4 hb h);clear hb hN C BD kS;have BD:=yT;have kS:=vE;clear yT vE
 try dsimp only
 refine hK.out _ _ (fun _=>kS.o) ?_;clear hK K'
 try simp only[Act.put,sa,sb,sc]
 refine aO (i:=27) gD rfl (fun K' hK=>?_);have C:=hid (Tx FF.o.r3.1 FF.o.r4.1 FF.o.r5.1 BD.o.2.1 BD.o.r3.1 (HTT.o.belows BD.o.r5.1) FF.o.r7);go_simp;refine C.o.mono ?_;rintro r u3_ ⟨hd,hb⟩;obtain⟨Ve,Vf,rfl,hN⟩:=hd.dR;clear hd;have yT:=EG (BD.o.1.below hb) (BD.o.2.1.below hb) (BD.o.r2.1.below hb) (BD.o.r3.1.below hb) (BD.o.r4.1.below hb BD.o.r4.1.lt) (BD.o.r5.1.trans (hb.mono BD.o.r5.1.size)) (BD.o.r6.below hb) hN;have vE:=au (ck hb kS.o fun h=>ck hb h fun h=>ck hb h fun h=>ck hb h fun h=>ck hb h fun h=>ck4 hb h);clear hb hN C BD kS;have BD:=yT;have kS:=vE;clear yT vE
 try dsimp only
 refine hK.out _ _ (fun _=>kS.o) ?_;clear hK K'
 try simp only[Act.put,sa,sb,sc]
 refine aO (i:=30) gD rfl (fun K' hK=>?_);go_simp;refine hK.out _ _ (fun _=>kS.o) ?_;clear hK K'
 try simp only[Act.put,sa,sb,sc]
 refine aO (i:=31) gD rfl (fun K' hK=>?_);go_simp;refine hK.out _ _ (fun _=>kS.o) ?_;clear hK K'
 try simp only[Act.put,sa,sb,sc]
 obtain⟨ic,_⟩:=ai BD.o.r4.1 True.intro;have f0:=ic.frozen 0;have f1:=ic.frozen 1;have f2:=ic.frozen 2;have f3:=ic.frozen 3;have f4:=ic.frozen 4;have f5:=ic.frozen 5;have f6:=ic.frozen 6;have f7:=ic.frozen 7;have f8:=ic.frozen 8;have f9:=ic.frozen 9;have f10:=ic.frozen 10;have f11:=ic.frozen 11;have f12:=ic.frozen 12;have f13:=ic.frozen 13;have z0:=ic.cell 0 _ rfl;have z1:=ic.cell 1 _ rfl;have z2:=ic.cell 2 _ rfl;have z3:=ic.cell 3 _ rfl;have z4:=ic.cell 4 _ rfl;have z5:=ic.cell 5 _ rfl;have z6:=ic.cell 6 _ rfl;have z7:=ic.cell 7 _ rfl;have z8:=ic.cell 8 _ rfl;have z9:=ic.cell 9 _ rfl;have z10:=ic.cell 10 _ rfl;have z11:=ic.cell 11 _ rfl;have z12:=ic.cell 12 _ rfl;have z13:=ic.cell 13 _ rfl;clear ic kS;refine aO (i:=32) gD rfl (fun K' hK=>?_);go_simp;refine hK.out _ _ (fun h=>absurd h aA) ?_;clear hK K' f0 z0 f1 z1 f2 z2 f3 z3 f4 z4 f5 z5 f6 z6 f7 z7 f8 z8 f9 z9 f10 z10 f11 z11 f12 z12 f13 z13;refine gY gD ?_ _;go_wp2;go_ret;refine⟨rfl,⟨ooa,ooc,Ve,Vf,((((((((((((((BD.o.r4.1.set 0 _).set 1 _).set 2 _).set 3 _).set 4 _).set 5 _).set 6 _).set 7 _).set 8 _).set 9 _).set 10 _).set 11 _).set 12 _).set 13 _),bZ BD.o.r6.1 BD.o.r4.1 aA (((((((((((((((But.refl g u3_).set 0 _).set 1 _).set 2 _).set 3 _).set 4 _).set 5 _).set 6 _).set 7 _).set 8 _).set 9 _).set 10 _).set 11 _).set 12 _).set 13 _),bZ BD.o.r7 BD.o.r4.1 aA (((((((((((((((But.refl g u3_).set 0 _).set 1 _).set 2 _).set 3 _).set 4 _).set 5 _).set 6 _).set 7 _).set 8 _).set 9 _).set 10 _).set 11 _).set 12 _).set 13 _)⟩,((But.refl g w).of_below BD.o.r5.1).trans (((((((((((((((But.refl g u3_).set 0 _).set 1 _).set 2 _).set 3 _).set 4 _).set 5 _).set 6 _).set 7 _).set 8 _).set 9 _).set 10 _).set 11 _).set 12 _).set 13 _)⟩
theorem MI {w:World}{g h:Nat}{s t:Sp}{o q o' q':Option (Bool×Nat×Int)}{lo hi lo' hi':Nat}(H1:fe w g s o q lo hi) (H2:fe w h t o' q' lo' hi') (hs:s.sm) (ht:t.sm) {oo qq:Option (Bool×Nat×Int)}(hc:s.a+t.a<=1099511627776) (F1:Fm o) (F2:Fm o') (F3:Fm oo) (G1:Fm q) (G2:Fm q') (G3:Fm qq) (ha:iO o o'=oo) (hq:iO q q'=qq) (hT:bO w)
 (l1:lo<18446744073709551616) (l2:hi<18446744073709551616) (l3:lo'<18446744073709551616) (l4:hi'<18446744073709551616) :
 Calls Tryz.prog 12 #[.pointer (some ⟨g,0,none⟩),.pointer (some ⟨h,0,none⟩)] w fun r w'=>r=.returned (.int .i64 0)/\fe w' g (s.pl t) oo qq (loM (decide (s.n<s.a)) (decide (t.n<t.a)) lo lo') (hiM (decide (s.n<s.a)) (decide (t.n<t.a)) hi hi')/\But g w w':=by
 have Xb:=hid (fun(u:World) (hu:Below w.heap.size w u)=>span21 (H1.aD hu) (H2.aD hu) l1 l2 l3 l4);have HTG:=hid (fun u:World=>J5 s t hs ht u);obtain⟨a1,c1,a2,c2,k1,n1,n2⟩:=H1;obtain⟨b1,d1,b2,d2,k2,n3,n4⟩:=H2;have wr:=GH (x:=s.a) (y:=t.a) (by have:=hs.n0;have:=hs.u0;have:=hs.d0;have:=hs.m0;have:=hs.p0;have:=hs.al;have:=hs.le;omega) (by have:=ht.n0;have:=ht.u0;have:=ht.d0;have:=ht.m0;have:=ht.p0;have:=ht.al;have:=ht.le;omega);exact Eh w g h s.n s.u s.d s.m s.p s.a t.n t.u t.d t.m t.p t.a o q o' q' oo qq lo hi lo' hi' _ _ a1 a2 b1 b2 c1 c2 d1 d2 k1 k2 n1 n2 n3 n4 wr (by simp;omega) Xb HTG (au ⟨F1,F2,F3,G1,G2,G3,ha,hq⟩) (au hT)
end
namespace Ps
open Go.RowKit
open Go.RowKit
def Wf(xs:List Nat):Prop:=∀ x ∈ xs,x<18446744073709551616
theorem Wf.get{xs:List Nat}(h:Wf xs)(k:Nat):xs.getD k 0<18446744073709551616:=by
 by_cases hk:k<xs.length
 · exact Qbe
 · rw[aS,rH af];decide
def U(n:Nat):Value:=.float .f64 n
def Rd(B:Nat)(w:World)(ao:Option Addr)(xs:List Nat):Prop :=
 xs≠[]->∃ b off,b<B/\ao=some ⟨b,off,none⟩/\∀ i,i<xs.length->w.cell? ⟨b,off+i,none⟩=some (.float .f64 (xs.getD i 0))
theorem Rd.below{B:Nat}{w w':World}{ao:Option Addr}{xs:List Nat}(h:Rd B w ao xs)(hb:Below B w w'):Rd B w' ao xs:=by
 exact Qal
theorem Rd.mono{B B':Nat}{w:World}{ao:Option Addr}{xs:List Nat}(h:Rd B w ao xs)(hB:B<=B'):Rd B' w ao xs:=by
 exact Qbo
def Lt(lo:Nat)(w:World)(v:Value)(xs:List Nat):Prop:=w.ownsRow lo 31 1 v xs.length (xs.map U)
theorem Lt.nil(lo:Nat)(w:World):Lt lo w (.slice none 0 0) []:=QM _ _ _ _
theorem Tryz.TQ:(Tryz.prog.info? 31).map (fun i=>(i.zero,i.size,i.bytes))=some (some (.float .f64 0),1,8):=by kernel_rfl
open Go.RowKit
abbrev Rw(lo:Nat)(w:World)(v:Value)(n:Nat)(ys:List Value):Prop:=w.ownsRow lo 31 1 v n ys
def PN(w w':World):Prop:=∀ (g:Nat) (cur:Array Value) (e:TypeId),e≠32->e≠34->w.heap[g]?=some (.cells cur e (0,0))->w'.heap[g]?=some (.cells cur e (0,0))
theorem PN.row{w w':World}{lo:Nat}{v:Value}{n:Nat}{ys:List Value}(h:Rw lo w v n ys)(k:PN w w'):Rw lo w' v n ys:=by
 refine⟨h.1,?_⟩;rcases h.2 with hn|⟨g,cap,cur,rfl,hlo,hg,rest⟩
 · exact .inl hn
 · exact .inr ⟨g,cap,cur,rfl,hlo,k _ _ _ aA aA hg,rest⟩
theorem PN.below{w w':World}(h:Below w.heap.size w w'):PN w w':=fun g cur _ _ _ e=>by rw[h.block g (fG.1 e).1];exact e
theorem tY{w w':World}{lo e s:Nat}{v:Value}{n:Nat}{ys:List Value}(h:w.ownsRow lo e s v n ys)(hb:∀ g,v.ownBlock=some g->w'.heap[g]?=w.heap[g]?):w'.ownsRow lo e s v n ys:=by
 exact Qag
theorem Qbi{P:Prop}(h:P:=by
 simp only[List.size_toArray,kv,gm,jE,Array.length_toList,kU,List.length_nil];omega):P:=h
theorem GR (w:World) (lo:Nat) (v:Value) (n:Nat) (ys:List Value) (x:Value) (s:Nat) (ty:TypeId) (hown:Rw lo w v n ys) (hx:w.cell? ⟨s,0,none⟩=some x) (h1:x.oneCell'=true)
 (hbig:n+1<=17592186044416) (hlo:lo<=w.heap.size) :
 ∃ v' w',(Builtin.append_ #[32,32] ty #[v,.slice (some ⟨s,0,none⟩) 1 1]).run Tryz.prog w=.ok v' w'/\Rw lo w' v' (n+1) (ys++[x])/\w.grownBy w' v.ownBlock /\
   (v'.ownBlock=v.ownBlock\/∃ g,v'.ownBlock=some g/\w.heap.size<=g)/\(∀ (u:Value) (k:Nat) (zs:List Value),Rw lo w u k zs->(u.ownBlock=v.ownBlock->k<=n)->Rw lo w' u k zs):=by
 obtain⟨i0,hi,hz0,hz1,hz2⟩:=info_parts Tryz.TQ
 have hnews:∀ j u,[x][j]?=some u->w.cell? ((⟨s,0,none⟩:Addr).add j)=some u:=by
  intro j u hj
  match j,hj with
  | 0,hj=>simp at hj;subst hj;simpa [Addr.add] using hx
 have h1':∀ u ∈ [x],u.oneCell'=true:=by intro u hu;simp at hu;subst hu;exact h1
 have keep:∀ w',w.grownBy w' none->∀ (u:Value) (k:Nat) (zs:List Value),Rw lo w u k zs->Rw lo w' u k zs:=by
  intro w' hg u k zs hr;rcases hr.2 with hn|⟨g,cap,cur,rfl,hl,hgb,rest⟩
  · exact⟨hr.1,.inl hn⟩
  · refine⟨hr.1,.inr ⟨g,cap,cur,rfl,hl,?_,rest⟩⟩;rw[hg.block g (fG.1 hgb).1 aL];exact hgb
 have newb:∀ (v':Value) (w':World) (m:Nat) (zs:List Value),w'.ownsRow w.heap.size 31 1 v' (m+1) zs->∃ g,v'.ownBlock=some g/\w.heap.size<=g:=by
  intro v' w' m zs h;rcases h.2 with ⟨_,h0⟩|⟨g,cap,cur,rfl,hl,_⟩
  · omega
  · exact⟨g,rfl,hl⟩
 have mono:∀ (v':Value) (w':World) (m:Nat) (zs:List Value),w'.ownsRow w.heap.size 31 1 v' m zs->Rw lo w' v' m zs:=by
  intro v' w' m zs h;refine⟨h.1,?_⟩;rcases h.2 with hn|⟨g,cap,cur,rfl,hl,rest⟩
  · exact .inl hn
  · exact .inr ⟨g,cap,cur,rfl,af,rest⟩
 rcases hown.2 with ⟨rfl,rfl⟩|⟨g,cap,cur,rfl,hlg,hg,hnc,hm,hs,ht⟩
 · obtain⟨v',w',r1,r2,r3,_,_⟩:=run_append_own_at (P:=Tryz.prog) w w.heap.size 32 ty 31 i0 (.float .f64 0) 1 8 Tryz.underlying32 hi hz0 hz1 hz2 rfl aA (.slice none 0 0) 0 [] (QM _ _ _ _) ⟨s,0,none⟩ 1 1 [x] rfl hnews h1' (by unfold maxLen;omega) af (aB _);have hy:ys=[]:=xg (by simpa using hown.1);subst hy;exact⟨v',w',r1,mono _ _ _ _ (by simpa using r2),r3,.inr (newb _ _ 0 _ (by simpa using r2)),fun u k zs hr _=>keep _ r3 u k zs hr⟩
 · by_cases hroom:n+1<=cap
   · have hr:=run_append_room (P:=Tryz.prog) w 32 ty 31 i0 Tryz.underlying32 hi g n cap cur hg ⟨s,0,none⟩ 1 1 [x] (by rw[hz1];rfl) hnews h1' hroom (by rw[hz1,hs];simp;omega);rw[hz1] at hr;refine⟨_,_,hr,⟨by simpa using hown.1,.inr ⟨g,cap,_,rfl,hlg,setRow_heap w g cur _ 31 _ hg,hroom,hm,?_,?_⟩⟩,⟨rfl,rfl,rfl,aL,fun k _ hk=>setRow_other w g k _ (fun e=>hk (by simp[Value.ownBlock,e]))⟩,.inl rfl,?_⟩
     · exact Qbi
     · rw[ht];have hyl:ys.length=n:=by simpa using hown.1
       simp only[gI,nX];rw[<-nX];rw[List.take_append_of_le_length (by simp[hyl])];rw[jc (by simp[hyl])]
     · intro u k zs hr2 hle;rcases hr2.2 with hn|⟨g2,cap2,cur2,rfl,hl2,hg2,hnc2,hm2,hs2,ht2⟩
       · exact⟨hr2.1,.inl hn⟩
       · by_cases he:g2=g
         · subst he;rw[hg] at hg2
           cases hg2
           have hk:=hle rfl;refine⟨hr2.1,.inr ⟨g2,cap2,_,rfl,hl2,setRow_heap w g2 cur _ 31 _ hg,hnc2,hm2,?_,?_⟩⟩
           · exact Qbi
           · have hcl:cur.toList.length=cap2:=by simpa using hs2
             rw[<-ht2];simp only[gI,nX];rw[List.take_append_of_le_length (by rw[gm];omega),List.take_take,iy hk]
         · refine⟨hr2.1,.inr ⟨g2,cap2,cur2,rfl,hl2,?_,hnc2,hm2,hs2,ht2⟩⟩;rw[setRow_other w g g2 _ he];exact hg2
   · obtain⟨v',w',r1,r2,r3⟩:=run_append_arg_grows (P:=Tryz.prog) w 32 ty 31 i0 (.float .f64 0) 1 8 Tryz.underlying32 hi hz0 hz1 hz2 rfl aA ⟨g,0,none⟩ n cap ys (by simpa using hown.1) (fun j u hj=>hown.cells (g:=g) (by simp[Value.ownBlock]) j u hj) ⟨s,0,none⟩ 1 1 [x] rfl hnews af (by unfold maxLen;omega) af;exact⟨v',w',r1,mono _ _ _ _ r2,⟨r3.os,r3.tape,r3.output,r3.size,fun k hk _=>r3.block k hk aL⟩,.inr (newb _ _ n _ r2),fun u k zs hr _=>keep _ r3 u k zs hr⟩
theorem ry {w:World}{ops:Array Oper}{rest:List Oper}{o:Oper}{a:Act}{Q:Exit->Act->World->Prop}(hgd:o.guard=none) (s x:Operand) (t:TypeId)
 (ho:o.op=.call { callee:=.builtin .append,args:=#[s,x],argTypes:=#[t,t] }) (v u:Value) (hs:a.eval s=v) (hx:a.eval x=u) (v':Value) (w':World)
 (hrun:(Builtin.append_ #[t,t] o.type #[v,u]).run Tryz.prog w=.ok v' w') (h:wpList Tryz.prog ops Q rest (a.put o.dst v') w'):wpList Tryz.prog ops Q (o::rest) a w:=by
 refine wpList_plain hgd fun K hK=>?_;unfold Oper.wp;simp[execOp,ho,resolve,invoke,builtin,hs,hx,hrun,Result.andThen];exact hK _ _ h
end Ps
namespace Ps
open Go.RowKit
open Go.Proofs.YtaejmlkaefnbhaaGreatDoor.B (bu aM bw)
attribute [local go_sem] bu aM
theorem TR(b:Nat):kd b<=5:=by unfold kd;(repeat' split) <;> omega
open Go.RowKit
open Go.Proofs.YtaejmlkaefnbhaaGreatDoor.B (bu aM bw aU)
attribute [local go_sem] bu aM
def cn(k:Nat)(xs:List Nat):Nat:=xs.countP (fun x=>kd x==k)
theorem PO(k:Nat)(xs ys:List Nat):cn k (xs++ys)=cn k xs+cn k ys:=by simp[cn,List.countP_append]
def one(k x:Nat):Nat:=if kd x=k then 1 else 0
theorem cn_one(k x:Nat):cn k [x]=one k x:=by unfold cn one;by_cases h:kd x=k <;> simp[h]
theorem rz(xs:List Nat)(i:Nat)(h:i<xs.length):xs.take (i+1)=xs.take i++[xs.getD i 0]:=by
 rw[xm h,aS,aY h];rfl
theorem sU(k:Nat)(xs:List Nat)(i:Nat)(h:i<xs.length):cn k (xs.take (i+1))=cn k (xs.take i)+one k (xs.getD i 0):=by
 rw[rz xs i h,PO,cn_one]
theorem cn_le(k:Nat)(xs:List Nat):cn k xs<=xs.length:=xh
def kQ(w:World)(g:Nat)(n u d m p a:Int):Prop:=w.heap[g]?=some (.cells #[.int .i64 n,.int .i64 u,.int .i64 d,.int .i64 m,.int .i64 p,.int .i64 a] 73 (0,0))
theorem kQ.lt{w:World}{g:Nat}{n u d m p a:Int}(h:kQ w g n u d m p a):g<w.heap.size:=(fG.1 h).1
theorem kQ.c0{w:World}{g:Nat}{n u d m p a:Int}(h:kQ w g n u d m p a):w.cell? ⟨g,0,none⟩=some (.int .i64 n):=by unfold kQ at h;simp[World.cell?,h]
theorem kQ.c1{w:World}{g:Nat}{n u d m p a:Int}(h:kQ w g n u d m p a):w.cell? ⟨g,1,none⟩=some (.int .i64 u):=by unfold kQ at h;simp[World.cell?,h]
theorem kQ.c2{w:World}{g:Nat}{n u d m p a:Int}(h:kQ w g n u d m p a):w.cell? ⟨g,2,none⟩=some (.int .i64 d):=by unfold kQ at h;simp[World.cell?,h]
theorem kQ.c3{w:World}{g:Nat}{n u d m p a:Int}(h:kQ w g n u d m p a):w.cell? ⟨g,3,none⟩=some (.int .i64 m):=by unfold kQ at h;simp[World.cell?,h]
theorem kQ.c4{w:World}{g:Nat}{n u d m p a:Int}(h:kQ w g n u d m p a):w.cell? ⟨g,4,none⟩=some (.int .i64 p):=by unfold kQ at h;simp[World.cell?,h]
theorem kQ.c5{w:World}{g:Nat}{n u d m p a:Int}(h:kQ w g n u d m p a):w.cell? ⟨g,5,none⟩=some (.int .i64 a):=by unfold kQ at h;simp[World.cell?,h]
theorem kQ.frozen{w:World}{g:Nat}{n u d m p a:Int}(h:kQ w g n u d m p a)(i:Nat):w.frozen? ⟨g,i,none⟩=false:=by unfold kQ at h;simp[World.frozen?,h]
theorem kQ.below{w w':World}{g B:Nat}{n u d m p a:Int}(h:kQ w g n u d m p a)(hb:Below B w w')(hg:g<B):kQ w' g n u d m p a:=by
 unfold kQ at h |-;rw[hb.block g hg];exact h
theorem yb{P:Prop}(h:P:=by
 go_end0
 refine⟨rfl,?_,(But.refl _ _).set _ _⟩;have h:=HB.o;unfold kQ at h |-;simp[World.setCell,iA,h]):P:=h
theorem PQ(k g:Nat)(n u d m p a:Int)(w:World)(hk:k<=5)(hB:kQ w g n u d m p a)(hn:0<=n/\n<=65536)(hu:0<=u/\u<=65536)(hd:0<=d/\d<=65536)(hm:0<=m/\m<=65536)(hp:0<=p/\p<=65536) :
 Calls Tryz.prog 125 #[.pointer (some ⟨g,0,none⟩),.int .i64 (k:Nat)] w fun r w'=>r=.returned (.tuple #[]) /\
  kQ w' g (if k=0 then n+1 else n) (if k=1 then u+1 else u) (if k=2 then d+1 else d) (if k=3 then m+1 else m) (if k=4 then p+1 else p) a/\But g w w':=by
 have hc0:=hB.c0;have hc1:=hB.c1;have hc2:=hB.c2;have hc3:=hB.c3;have hc4:=hB.c4;have hf0:=hB.frozen 0;have hf1:=hB.frozen 1;have hf2:=hB.frozen 2;have hf3:=hB.frozen 3;have hf4:=hB.frozen 4;have HB:=au hB;clear hB;obtain rfl|rfl|rfl|rfl|rfl|rfl:k=0\/k=1\/k=2\/k=3\/k=4\/k=5:=af
 · go_enter Tryz.func125,Tryz.ntmps125;go_wp2
   exact yb
 · go_enter Tryz.func125,Tryz.ntmps125;go_wp2
   exact yb
 · go_enter Tryz.func125,Tryz.ntmps125;go_wp2
   exact yb
 · go_enter Tryz.func125,Tryz.ntmps125;go_wp2
   exact yb
 · go_enter Tryz.func125,Tryz.ntmps125;go_wp2
   exact yb
 · go_enter Tryz.func125,Tryz.ntmps125;go_wp2
   go_end0
   exact⟨rfl,HB.o,But.refl _ _⟩
def rf(n u d a b:Int):Int:=if 0<n/\a=2 then 60 else if 0<u+d/\b=2 then 61 else 0
theorem zj{P:Prop}(h:P:=by
 by_cases h3:0<t
 · by_cases h4:b=2
   · rw[if_pos ⟨h3,h4⟩];subst h4;go_enter Tryz.func126,Tryz.ntmps126;go_wp2;go_ret;exact⟨rfl,below _ _⟩
   · have h4':(b==2)=false:=by rw[beq_eq_false_iff_ne];exact h4
     rw[if_neg (fun h=>h4 h.2)];go_enter Tryz.func126,Tryz.ntmps126;go_wp2;go_ret;exact⟨rfl,below _ _⟩
 · have h3':decide (0<t)=false:=decide_eq_false h3;rw[if_neg (fun h=>h3 h.1)];go_enter Tryz.func126,Tryz.ntmps126;go_wp2;go_ret;exact⟨rfl,below _ _⟩):P:=h
theorem GU(n u d m p l a b:Int)(w:World)(hu:0<=u/\u<=65536)(hd:0<=d/\d<=65536) :
 Calls Tryz.prog 126 #[.agg #[.int .i64 n,.int .i64 u,.int .i64 d,.int .i64 m,.int .i64 p,.int .i64 l],.agg #[.int .i64 a,.int .i64 b]] w fun r w'=>r=.returned (.int .i64 (rf n u d a b))/\Below w.heap.size w w':=by
 have below:∀ o o',Below w.heap.size w ((w.alloc o).alloc o'):=fun o o'=>((aG _ _).alloc (aB _) _).alloc aL _;obtain⟨t,ht⟩:∃ t,u+d=t:=⟨_,rfl⟩;have ht2:-9223372036854775808<=t/\t<=9223372036854775807:=af
 unfold rf;rw[ht]
 by_cases h1:0<n
 · by_cases h2:a=2
   · rw[if_pos ⟨h1,h2⟩];subst h2;go_enter Tryz.func126,Tryz.ntmps126;go_wp2;go_ret;exact⟨rfl,below _ _⟩
   · have h2':(a==2)=false:=by rw[beq_eq_false_iff_ne];exact h2
     rw[if_neg (fun h=>h2 h.2)]
     exact zj
 · have h1':decide (0<n)=false:=decide_eq_false h1;rw[if_neg (fun h=>h1 h.1)]
   exact zj
open Go.RowKit
open Go.Proofs.YtaejmlkaefnbhaaGreatDoor.B (bu aM bw aU)
attribute [local go_sem] bu aM
theorem kQ.made(w:World)(n u d m p a:Int):kQ (w.alloc (.cells #[.int .i64 n,.int .i64 u,.int .i64 d,.int .i64 m,.int .i64 p,.int .i64 a] 73)) w.heap.size n u d m p a:=jC w _
def Xi(w:World)(g:Nat)(xs:List Nat)(a:Int):Prop:=kQ w g (cn 5 xs:Nat) (cn 3 xs:Nat) (cn 4 xs:Nat) (cn 1 xs:Nat) (cn 2 xs:Nat) a
theorem YR(k:Nat)(xs:List Nat)(n:Nat)(h:xs.length<=n)(hn:n<=65536):0<=((cn k xs:Nat):Int)/\((cn k xs:Nat):Int)<=65536:=by have:=cn_le k xs;omega
theorem But.Xj{a w:World}{g:Nat}(h:But g a w)(u0 u1 u2 u3 u4 u5:Value) :
 But g a ((((((w.setCell ⟨g,0,none⟩ u0).setCell ⟨g,1,none⟩ u1).setCell ⟨g,2,none⟩ u2).setCell ⟨g,3,none⟩ u3).setCell ⟨g,4,none⟩ u4).setCell ⟨g,5,none⟩ u5) :=
 ((((((h.set 0 u0).set 1 u1).set 2 u2).set 3 u3).set 4 u4).set 5 u5)
theorem cset{w:World}{b o:Nat}{u:Value}(h:w.cell? ⟨b,o,none⟩=some u)(v:Value):(w.setCell ⟨b,o,none⟩ v).cell? ⟨b,o,none⟩=some v:=by
 simp only[World.cell?] at h |-;simp only[World.setCell,iA]
 cases hb:w.heap[b]? with
 | none=>rw[hb] at h;simp at h
 | some ob =>
   rw[hb] at h
   cases ob <;> simp_all
   rename_i cs _ _
   by_cases hl:o<cs.size
   · simp[hl]
   · rw[xE af] at h;cases h
theorem MJ(w:World)(b o:Nat)(v:Value):(w.setCell ⟨b,o,none⟩ v).cell? ⟨b,o,none⟩=(w.cell? ⟨b,o,none⟩).map (fun _=>v):=by
 cases h:w.cell? ⟨b,o,none⟩ with
 | some u=>rw[cset h v];rfl
 | none =>
   simp only[World.cell?] at h |-;simp only[World.setCell,iA]
   cases hb:w.heap[b]? with
   | none=>simp
   | some ob =>
     rw[hb] at h
     cases ob <;> simp_all
open Go.RowKit
open Go.Proofs.YtaejmlkaefnbhaaGreatDoor.B (bu aM bw aU)
attribute [local go_sem] bu aM
def fin(xs:List Nat):List Nat:=xs.filter (fun x=>decide (kd x<=2))
theorem yU(xs ys:List Nat):fin (xs++ys)=fin xs++fin ys:=by simp[fin,List.filter_append]
theorem TS(xs:List Nat):(fin xs).length<=xs.length:=xk _ _
theorem fin_in(xs:List Nat)(i:Nat)(h:i<xs.length)(hk:kd (xs.getD i 0)<=2):fin (xs.take (i+1))=fin (xs.take i)++[xs.getD i 0]:=by
 rw[rz xs i h,yU];simp[fin];simpa [aS] using hk
theorem Xk(xs:List Nat)(i:Nat)(h:i<xs.length)(hk:¬ kd (xs.getD i 0)<=2):fin (xs.take (i+1))=fin (xs.take i):=by
 rw[rz xs i h,yU];simp[fin];simpa [aS] using hk
def dZ(a b:Int)(xs:List Nat):Int:=if may a b=false then 1 else if 65536<xs.length then 2 else rf (cn 5 xs:Nat) (cn 3 xs:Nat) (cn 4 xs:Nat) a b
def GV(a b:Int)(xs:List Nat):List Nat:=if dZ a b xs=0 then fin xs else[]
def GZ(a b:Int)(xs:List Nat):Value:=if dZ a b xs=0 then .agg #[.int .i64 (cn 5 xs:Nat),.int .i64 (cn 3 xs:Nat),.int .i64 (cn 4 xs:Nat),.int .i64 (cn 1 xs:Nat),.int .i64 (cn 2 xs:Nat),.int .i64 (xs.length:Nat)] else .agg #[.int .i64 0,.int .i64 0,.int .i64 0,.int .i64 0,.int .i64 0,.int .i64 0]
def iU(w:World)(a b:Int)(xs:List Nat)(r:Ending)(w':World):Prop:=∃ v,r=.returned (.tuple #[v,GZ a b xs,.int .i64 (dZ a b xs)])/\Lt w.heap.size w' v (GV a b xs)/\Below w.heap.size w w'
theorem iU.no{w w':World}{a b:Int}{xs:List Nat}(e:Int)(he:dZ a b xs=e)(h0:e≠0)(hb:Below w.heap.size w w'):iU w a b xs (.returned (.tuple #[.slice none 0 0,.agg #[.int .i64 0,.int .i64 0,.int .i64 0,.int .i64 0,.int .i64 0,.int .i64 0],.int .i64 e])) w':=by
 subst he;refine⟨.slice none 0 0,?_,?_,hb⟩
 · unfold GZ;rw[if_neg h0]
 · unfold GV;rw[if_neg h0];exact Lt.nil _ _
theorem iU.yes{w w':World}{a b:Int}{xs:List Nat}{v:Value}(he:dZ a b xs=0)(hv:Rw w.heap.size w' v (fin xs).length ((fin xs).map U))(hb:Below w.heap.size w w') :
 iU w a b xs (.returned (.tuple #[v,.agg #[.int .i64 (cn 5 xs:Nat),.int .i64 (cn 3 xs:Nat),.int .i64 (cn 4 xs:Nat),.int .i64 (cn 1 xs:Nat),.int .i64 (cn 2 xs:Nat),.int .i64 (xs.length:Nat)],.int .i64 0])) w':=by
 refine⟨v,?_,?_,hb⟩
 · rw[he];unfold GZ;rw[if_pos he]
 · unfold GV;rw[if_pos he];exact hv
theorem Rw.below{lo:Nat}{w w':World}{v:Value}{n:Nat}{ys:List Value}(h:Rw lo w v n ys)(hb:Below w.heap.size w w'):Rw lo w' v n ys :=
 PN.row h (PN.below hb)
theorem Rw.but{lo g:Nat}{w w':World}{v:Value}{n:Nat}{ys:List Value}(h:Rw lo w v n ys)(hb:But g w w'){cur:Array Value}{e:TypeId}(he:e≠31)(hg:w.heap[g]?=some (.cells cur e (0,0))):Rw lo w' v n ys:=by
 refine tY h fun k hk=>?_;rcases h.2 with ⟨rfl,_⟩|⟨g2,cap,c2,rfl,_,hg2,_⟩
 · cases hk
 · cases hk
   refine hb.block _ (fG.1 hg2).1 (fun e2=>?_);subst e2;rw[hg] at hg2
   cases hg2
   exact he rfl
theorem Rw.mono{lo lo':Nat}{w:World}{v:Value}{n:Nat}{ys:List Value}(h:Rw lo w v n ys)(hl:lo'<=lo):Rw lo' w v n ys:=by
 exact Qap
theorem Rw.low{lo:Nat}{w:World}{v:Value}{n:Nat}{ys:List Value}(h:Rw lo w v n ys):∀ b,v.ownBlock=some b->lo<=b:=by
 intro b hb;rcases h.2 with ⟨rfl,_⟩|⟨g,cap,cur,rfl,hlo,_⟩
 · cases hb
 · cases hb;exact hlo
theorem PR(n:Nat)(hn:n<=65536)(w:World) :
 (Instr.makeSlice 32 (.int .i64 0) (.int .i64 (n:Nat))).run Tryz.prog w=.ok (.slice (some ⟨w.heap.size,0,none⟩) 0 n) (w.alloc (.cells (madeCells #[.float .f64 0] n) 31)):=by
 obtain⟨i0,hi,hz0,hz1,hz2⟩:=info_parts Tryz.TQ;have hr:=run_make (P:=Tryz.prog) w 32 31 i0 (.float .f64 0) Tryz.underlying32 hi hz0 .i64 .i64 0 (n:Int) (Int.le_refl _) af (by rw[hz2];omega) af;rw[hz1,gI] at hr;simp only[kV,Int.toNat_zero] at hr;exact hr
theorem TT(lo:Nat)(w:World)(n:Nat)(hn:n<=65536)(hlo:lo<=w.heap.size):Rw lo (w.alloc (.cells (madeCells #[.float .f64 0] n) 31)) (.slice (some ⟨w.heap.size,0,none⟩) 0 n) 0 []:=by
 refine⟨rfl,.inr ⟨w.heap.size,n,madeCells #[.float .f64 0] n,rfl,hlo,jC w _,af,by unfold maxLen;omega,?_,?_⟩⟩
 · have:=congrArg List.length (toList_madeCells_one (.float .f64 0) n);simpa using this
 · simp
theorem push(lo:Nat)(w:World)(v:Value)(ys:List Nat)(x:Nat)(hrow:Rw lo w v ys.length (ys.map U))(hn:ys.length<=65536)(hlo:lo<=w.heap.size) :
 ∃ v' w',(Builtin.append_ #[32,32] 32 #[v,.slice (some ⟨w.heap.size,0,none⟩) 1 1]).run Tryz.prog (w.alloc (.cells #[.float .f64 x] 31))=.ok v' w'/\Rw lo w' v' (ys++[x]).length ((ys++[x]).map U) /\
   Below lo w w'/\(∀ (g:Nat) (cur:Array Value) (e:TypeId),e≠31->w.heap[g]?=some (.cells cur e (0,0))->w'.heap[g]?=some (.cells cur e (0,0)))/\w.heap.size<=w'.heap.size:=by
 obtain⟨v',w',h1,h2,h3,_,_⟩:=GR (w.alloc (.cells #[.float .f64 x] 31)) lo v ys.length (ys.map U) (.float .f64 x) w.heap.size 32 (hrow.alloc _) (by unfold World.cell?;simp only[jC];rfl) rfl af (by simp;omega);refine⟨v',w',h1,by simpa [U] using h2,((aG lo w).alloc hlo _).grown h3 (by simp;omega) hrow.low,?_,by have:=h3.size;simp at this;omega⟩;intro g cur e he hg;have hgl:=(fG.1 hg).1;rw[h3.block g (by simp;omega) (fun e2=>?_),Below.heap_alloc _ _ _ hgl]
 · exact hg
 · rcases hrow.2 with ⟨rfl,_⟩ | ⟨g2,cap,c2,rfl,_,hg2,_⟩
   · cases e2
   · cases e2
     rw[hg] at hg2
     cases hg2
     exact he rfl
structure SI (lo sb:Nat) (W1:World) (xs:List Nat) (i:Nat) (a:Int) (v:Value) (wr:World):Prop where
 row:Rw lo wr v (fin (xs.take i)).length ((fin (xs.take i)).map U)
 sp:Xi wr sb (xs.take i) a
 aD:Below lo W1 wr
 size:W1.heap.size<=wr.heap.size
theorem SI.kind{lo sb:Nat}{W1:World}{xs:List Nat}{i:Nat}{a:Int}{v:Value}{wr w1:World}(h:SI lo sb W1 xs i a v wr)(hb:Below wr.heap.size wr w1)(hlo:lo<=wr.heap.size):SI lo sb W1 xs i a v w1 :=
 ⟨h.row.below hb,kQ.below h.sp hb (kQ.lt h.sp),h.aD.trans (hb.mono hlo),aV h.size hb.size⟩
theorem SI.o{lo sb:Nat}{W1:World}{xs:List Nat}{i:Nat}{a:Int}{v:Value}{wr w2:World}(h:SI lo sb W1 xs i a v wr)(hi:i<xs.length)(hs:Xi w2 sb (xs.take (i+1)) a)(hb:But sb wr w2)(hlo:lo<=sb)(hl:lo<=wr.heap.size)(hk:¬ kd (xs.getD i 0)<=2):SI lo sb W1 xs (i+1) a v w2 :=
 ⟨by rw[Xk xs i hi hk];exact h.row.but hb aA h.sp,hs,But.below h.aD hb hl hlo,aV h.size hb.size⟩
theorem SI.row2{lo sb:Nat}{W1:World}{xs:List Nat}{i:Nat}{a:Int}{v:Value}{wr w2:World}(h:SI lo sb W1 xs i a v wr)(hb:But sb wr w2):Rw lo w2 v (fin (xs.take i)).length ((fin (xs.take i)).map U):=h.row.but hb aA h.sp
theorem kQ.keep{w w':World}{g:Nat}{n u d m p a:Int}(h:kQ w g n u d m p a)(hk:∀ (g:Nat) (cur:Array Value) (e:TypeId),e≠31->w.heap[g]?=some (.cells cur e (0,0))->w'.heap[g]?=some (.cells cur e (0,0))):kQ w' g n u d m p a :=
 hk _ _ _ aA h
theorem SI.into {lo sb:Nat}{W1:World}{xs:List Nat}{i:Nat}{a:Int}{v v':Value}{wr w2 w3:World}(h:SI lo sb W1 xs i a v wr) (hi:i<xs.length) (hs:Xi w2 sb (xs.take (i+1)) a) (hb:But sb wr w2) (hlo:lo<=sb) (hl:lo<=wr.heap.size) (hk:kd (xs.getD i 0)<=2)
 (hrow:Rw lo w3 v' (fin (xs.take i)++[xs.getD i 0]).length ((fin (xs.take i)++[xs.getD i 0]).map U)) (hb3:Below lo w2 w3) (hkeep:∀ (g:Nat) (cur:Array Value) (e:TypeId),e≠31->w2.heap[g]?=some (.cells cur e (0,0))->w3.heap[g]?=some (.cells cur e (0,0))) (hsz:w2.heap.size<=w3.heap.size):SI lo sb W1 xs (i+1) a v' w3 :=
 ⟨by rw[fin_in xs i hi hk];exact hrow,kQ.keep hs hkeep,(But.below h.aD hb hl hlo).trans hb3,aV (aV h.size hb.size) hsz⟩
theorem kp_one(x:Nat)(n u d m p:Nat):(if kp (kd x)=0 then((n:Nat):Int)+1 else n)=((n+one 5 x:Nat):Int)/\(if kp (kd x)=1 then((u:Nat):Int)+1 else u)=((u+one 3 x:Nat):Int)/\(if kp (kd x)=2 then((d:Nat):Int)+1 else d)=((d+one 4 x:Nat):Int) /\
 (if kp (kd x)=3 then((m:Nat):Int)+1 else m)=((m+one 1 x:Nat):Int)/\(if kp (kd x)=4 then((p:Nat):Int)+1 else p)=((p+one 2 x:Nat):Int):=by
 have hk:=TR x;unfold one;generalize kd x=k at hk;obtain rfl|rfl|rfl|rfl|rfl|rfl:k=0\/k=1\/k=2\/k=3\/k=4\/k=5:=af
 all_goals simp[kp]
theorem kp_ge(x:Nat):3<=kp (kd x)↔kd x<=2:=by
 have hk:=TR x;generalize kd x=k at hk;obtain rfl|rfl|rfl|rfl|rfl|rfl:k=0\/k=1\/k=2\/k=3\/k=4\/k=5:=af
 all_goals simp[kp]
theorem kp_le(x:Nat):kp (kd x)<=5:=by unfold kp;(repeat' split) <;> omega
theorem Xi.counted {w w':World}{sb:Nat}{xs:List Nat}{i:Nat}{a:Int}(hi:i<xs.length)
 (h:kQ w' sb (if kp (kd (xs.getD i 0))=0 then((cn 5 (xs.take i):Nat):Int)+1 else((cn 5 (xs.take i):Nat):Int)) (if kp (kd (xs.getD i 0))=1 then((cn 3 (xs.take i):Nat):Int)+1 else((cn 3 (xs.take i):Nat):Int)) (if kp (kd (xs.getD i 0))=2 then((cn 4 (xs.take i):Nat):Int)+1 else((cn 4 (xs.take i):Nat):Int)) (if kp (kd (xs.getD i 0))=3 then((cn 1 (xs.take i):Nat):Int)+1 else((cn 1 (xs.take i):Nat):Int)) (if kp (kd (xs.getD i 0))=4 then((cn 2 (xs.take i):Nat):Int)+1 else((cn 2 (xs.take i):Nat):Int)) a) :
 Xi w' sb (xs.take (i+1)) a:=by
 obtain⟨h1,h2,h3,h4,h5⟩:=kp_one (xs.getD i 0) (cn 5 (xs.take i)) (cn 3 (xs.take i)) (cn 4 (xs.take i)) (cn 1 (xs.take i)) (cn 2 (xs.take i));rw[h1,h2,h3,h4,h5] at h;unfold Xi;rw[sU 5 xs i hi,sU 3 xs i hi,sU 4 xs i hi,sU 1 xs i hi,sU 2 xs i hi];exact h
end Ps
end Go.Proofs.YtaejmlkaefnbhaaGreatDoor
