import Derived.Test.YtfmfhehbdfhnbaaGreatDoorMO2x
import Derived.Test.YtfmfhehbdfhnbaaGreatDoorZ14x
import Derived.Test.YtfmfhehbdfhnbaaGreatDoorM1x
import Derived.Laws.CopyOwn
import Derived.Deep.OwnRows
import Derived.Laws.MakeOwn
import Derived.ArgAppend
import Derived.Maps.AppendAt
import Derived.WalkMore
import Derived.Deep.RegionWith
import Derived.Deep.Cut
import Derived.Test.YtfmfhehbdfhnbaaGreatDoorD32ex
import Derived.Test.YtfmfhehbdfhnbaaGreatDoorW40x
set_option linter.unusedVariables false
set_option linter.unusedSimpArgs false
set_option maxHeartbeats 16000000
set_option maxRecDepth 20000
namespace Go.Proofs.YtfmfhehbdfhnbaaGreatDoor
namespace J
end J
section
open Go Go.RowKit J
theorem VQ (w:World) (n:Int) (np ns nt:Bool) (ap az at':Option Addr) (lp cp ls cs lt ct:Nat) (ep es et:Int) (oI o1 o2 o3:Option (Bool×Nat×Int)) (e1 e2 e3:Int)
 (HI:Hid (∀ u:World,Below w.heap.size w u->Calls Tryz.prog 48 #[.int .i64 n] u fun r w'=>bC 0 w' r oI/\Below u.heap.size u w'))
 (nO:Hid (∀ (u:World) (a:Option Addr) (c:Nat),Below w.heap.size w u->Nt 0 u (.slice a (ws (dX oI)).length c) (dX oI)->Calls Tryz.prog 56 #[.agg #[.bool (dN oI),.slice a (ws (dX oI)).length c,.int .i64 (dE oI)],.agg #[.bool np,.slice ap lp cp,.int .i64 ep]] u fun r w'=>iA w' r o1 e1/\Below u.heap.size u w'))
 (uD:Hid (∀ u:World,Below w.heap.size w u->Calls Tryz.prog 56 #[.agg #[.bool ns,.slice az ls cs,.int .i64 es],.agg #[.bool nt,.slice at' lt ct,.int .i64 et]] u fun r w'=>iA w' r o2 e2/\Below u.heap.size u w'))
 (HS:Hid (∀ (u:World) (a b:Option Addr) (c d:Nat),Below w.heap.size w u->Nt 0 u (.slice a (ws (dX o1)).length c) (dX o1)->Nt 0 u (.slice b (ws (dX o2)).length d) (dX o2)->Calls Tryz.prog 57 #[.agg #[.bool (dN o1),.slice a (ws (dX o1)).length c,.int .i64 (dE o1)],.agg #[.bool (dN o2),.slice b (ws (dX o2)).length d,.int .i64 (dE o2)]] u fun r w'=>iA w' r o3 e3/\Below u.heap.size u w')) (x1:e1=0) (x2:e2=0) :
 Calls Tryz.prog 26 #[.int .i64 n,.agg #[.bool np,.slice ap lp cp,.int .i64 ep],.agg #[.bool ns,.slice az ls cs,.int .i64 es],.agg #[.bool nt,.slice at' lt ct,.int .i64 et]] w fun r w'=>iA w' r o3 e3/\Below w.heap.size w w':=by
 obtain ⟨W,hW⟩:=ah ((((w.alloc (Obj.cells #[.bool np,.slice ap lp cp,.int .i64 ep] 25)).alloc (Obj.cells #[.bool ns,.slice az ls cs,.int .i64 es] 25)).alloc (Obj.cells #[.bool nt,.slice at' lt ct,.int .i64 et] 25)).alloc (Obj.cells #[.bool false,.slice none 0 0,.int .i64 0] 25))
 have H0:Aside (rE w W np ns nt ap az at' lp cp ls cs lt ct ep es et):=by
  subst hW;have z1:=Dk.new (w.alloc (Obj.cells #[.bool np,.slice ap lp cp,.int .i64 ep] 25)) ns (.slice az ls cs) es;have z2:=Dk.new ((w.alloc (Obj.cells #[.bool np,.slice ap lp cp,.int .i64 ep] 25)).alloc (Obj.cells #[.bool ns,.slice az ls cs,.int .i64 es] 25)) nt (.slice at' lt ct) et;have z3:=Lo.zero (((w.alloc (Obj.cells #[.bool np,.slice ap lp cp,.int .i64 ep] 25)).alloc (Obj.cells #[.bool ns,.slice az ls cs,.int .i64 es] 25)).alloc (Obj.cells #[.bool nt,.slice at' lt ct,.int .i64 et] 25));rw [dL] at z1;rw [dL,dL] at z2;rw [dL,dL,dL] at z3;exact ⟨(((Dk.new _ _ _ _).below (ae _ _)).below (ae _ _)).below (ae _ _),(z1.below (ae _ _)).below (ae _ _),z2.below (ae _ _),z3,(((ae _ _).trans ((ae _ _).mono aO)).trans ((ae _ _).mono (by simp;omega))).trans ((ae _ _).mono (by simp;omega))⟩
 have HW:=ak hW;clear hW;subst x1;subst x2;go_enter Tryz.func26,Tryz.ntmps26
 go_upto_region 1 with fail
 rw [<-HW.o];clear HW
 go_cut [10,11] from 13 to 19 (fun q e wx=>∃ gq:Nat,q=.pointer (some ⟨gq,0,none⟩)/\e=.int .i64 0/\Aside (Lo wx gq o1/\rE w wx np ns nt ap az at' lp cp ls cs lt ct ep es et/\w.heap.size+3<gq))
 case first =>
  have hdr:=(aD W.heap.size W).drew;have BB:=ak (H0.o.below hdr);have BZ:=aJ (H0.o.below (jU W)) (jV W);have k0:=BB.o.p.facts;have kS:=aZ k0.1 k0.2.1 k0.2.2.1;have h3l:=H0.o.z.lt;clear hdr k0
  go_region_held3 (fun w'=>w'.cell? ⟨w.heap.size,0,none⟩=some (.bool np)/\w'.cell? ⟨w.heap.size,1,none⟩=some (.slice ap lp cp)/\w'.cell? ⟨w.heap.size,2,none⟩=some (.int .i64 ep)) (first | with_reducible exact kS.o | with_reducible exact ⟨BZ.o.1.p.facts.1,BZ.o.1.p.facts.2.1,BZ.o.1.p.facts.2.2.1⟩ | with_reducible exact ⟨kZ.o.facts.1,kZ.o.facts.2.1,kZ.o.facts.2.2.1⟩ | with_reducible exact kT.o | with_reducible exact ⟨kM.o.facts.1,kM.o.facts.2.1,kM.o.facts.2.2.1⟩ | with_reducible exact ⟨kN.o.facts.1,kN.o.facts.2.1,kN.o.facts.2.2.1⟩) (first
   | (go_at_call 48
      with_reducible refine (HI.o _ BB.o.b).mono ?_
      rintro r u1 ⟨hd,hb⟩;obtain ⟨a3,c3,rfl,dF⟩:=hd.aG;have BC:=aJ (BB.o.below hb) dF;have kS:=aZ BC.o.1.p.facts.1 BC.o.1.p.facts.2.1 BC.o.1.p.facts.2.2.1;have kZ:=ak (BC.o.1.p.below (ae u1 (Obj.cells #[.bool false,.slice none 0 0,.int .i64 0] 25)));have xh:=BC.o.1.z.lt
      clear hb hd dF)
   | (go_at_call 48
      with_reducible refine (HI.o _ BZ.o.1.b).mono ?_
      rintro r u1 ⟨hd,hb⟩;obtain ⟨a3,c3,rfl,dF⟩:=hd.aG;have BC:=aJ (BZ.o.1.below hb) dF;have ZB:=ak (BZ.o.2.below hb);have kS:=aZ BC.o.1.p.facts.1 BC.o.1.p.facts.2.1 BC.o.1.p.facts.2.2.1
      clear hb hd dF)
   | (go_at_call 56
      with_reducible refine (nO.o _ a3 c3 BC.o.1.b BC.o.2).mono ?_
      rintro r u2 ⟨hd,hb⟩;obtain ⟨a4,c4,rfl,fw⟩:=hd.aG;have BE:=aJ (BC.o.1.below hb) fw;have kS:=aZ BE.o.1.p.facts.1 BE.o.1.p.facts.2.1 BE.o.1.p.facts.2.2.1;have kZ:=ak (BE.o.1.p.below (ae u2 (Obj.cells #[.bool false,.slice none 0 0,.int .i64 0] 25)));have kM:=ak (BE.o.1.p.below (ae u2 (Obj.cells #[.bool (dN o1),.slice a4 (ws (dX o1)).length c4,.int .i64 (dE o1)] 25)));have kN:=ak ((BE.o.1.p.below (ae u2 (Obj.cells #[.bool false,.slice none 0 0,.int .i64 0] 25))).other u2.heap.size (by have:=BE.o.1.z.lt;omega) (.bool (dN o1)) (.slice a4 (ws (dX o1)).length c4) (.int .i64 (dE o1)))
      try have ZB:=ak (ZB.o.below hb)
      try have kT:=ak (show _ from (ai (BE.o.1.p.other _ (show w.heap.size≠W.heap.size by omega) (.bool (dN o1)) (.slice a4 (ws (dX o1)).length c4) (.int .i64 (dE o1))).facts.1 (ai (BE.o.1.p.other _ (show w.heap.size≠W.heap.size by omega) (.bool (dN o1)) (.slice a4 (ws (dX o1)).length c4) (.int .i64 (dE o1))).facts.2.1 (BE.o.1.p.other _ (show w.heap.size≠W.heap.size by omega) (.bool (dN o1)) (.slice a4 (ws (dX o1)).length c4) (.int .i64 (dE o1))).facts.2.2.1)))
      try (obtain ⟨zp,zq,DZ,MZ⟩:=ZB.o;obtain ⟨z0,z1,z2,eF,eG,eO⟩:=DZ.facts;clear DZ MZ)
      clear hb hd fw)
   | (go_at_call 56
      with_reducible refine (nO.o _ a3 c3 (BC.o.1.below (ae u1 (Obj.cells #[.bool false,.slice none 0 0,.int .i64 0] 25))).b (BC.o.2.below (ae u1 (Obj.cells #[.bool false,.slice none 0 0,.int .i64 0] 25)))).mono ?_
      rintro r u2 ⟨hd,hb⟩;obtain ⟨a4,c4,rfl,fw⟩:=hd.aG;have BE:=aJ ((BC.o.1.below (ae u1 (Obj.cells #[.bool false,.slice none 0 0,.int .i64 0] 25))).below hb) fw;have ZC:=ak ((Lo.zero u1).below hb);have kS:=aZ BE.o.1.p.facts.1 BE.o.1.p.facts.2.1 BE.o.1.p.facts.2.2.1;have kT:=aZ (BE.o.1.p.other _ (show w.heap.size≠u1.heap.size by omega) (.bool (dN o1)) (.slice a4 (ws (dX o1)).length c4) (.int .i64 (dE o1))).facts.1 (BE.o.1.p.other _ (show w.heap.size≠u1.heap.size by omega) (.bool (dN o1)) (.slice a4 (ws (dX o1)).length c4) (.int .i64 (dE o1))).facts.2.1 (BE.o.1.p.other _ (show w.heap.size≠u1.heap.size by omega) (.bool (dN o1)) (.slice a4 (ws (dX o1)).length c4) (.int .i64 (dE o1))).facts.2.2.1;obtain ⟨zp,zq,DZ,MZ⟩:=ZC.o;obtain ⟨z0,z1,z2,eF,eG,eO⟩:=DZ.facts
      clear hb hd fw DZ MZ))
  all_goals
   go_wp2_with fail
   go_meet
   case rel =>
    first
     | exact ⟨u2.heap.size,rfl,rfl,Lo.new BE.o.2,BE.o.1.below (ae _ _),BE.o.1.z.lt⟩
     | exact ⟨u2.heap.size,rfl,rfl,(Lo.zero u2).set (BE.o.2.below (ae _ _)),(BE.o.1.below (ae _ _)).other (Lo.zero u2) BE.o.1.z.lt _ _ _,BE.o.1.z.lt⟩
     | exact ⟨W.heap.size,rfl,rfl,ZB.o.set BE.o.2,BE.o.1.other ZB.o h3l _ _ _,h3l⟩
     | exact ⟨u1.heap.size,rfl,rfl,ZC.o.set BE.o.2,BE.o.1.other ZC.o xh _ _ _,xh⟩
 obtain ⟨gq,rfl,rfl,K1⟩:=hcut;obtain ⟨U,hU⟩:=ah wc;rw [<-hU] at K1 |-;clear hU H0
 go_upto_region 4 with fail
 obtain ⟨x0,x1,x2,bE,bF,bG⟩:=K1.o.2.1.s.facts;obtain ⟨y0,y1,y2,bN,bO,bU⟩:=K1.o.2.1.t.facts;have C:=hid (uD.o U K1.o.2.1.b);go_wp2_with fail;refine C.o.mono ?_;rintro r u3 ⟨hd,hb⟩;obtain ⟨a5,c5,rfl,nM⟩:=hd.aG;obtain ⟨V,hV⟩:=ah (u3.alloc (Obj.cells #[.bool (dN o2),.slice a5 (ws (dX o2)).length c5,.int .i64 (dE o2)] 25));obtain ⟨gr,hgr⟩:=ah (u3.heap.size)
 have K2:Aside (Lo V gq o1/\rE w V np ns nt ap az at' lp cp ls cs lt ct ep es et/\Lo V gr o2):=by
  rw [hV,hgr];exact ⟨(K1.o.1.below hb).below (ae _ _),(K1.o.2.1.below hb).below (ae _ _),Lo.new nM⟩
 have HV:=(aJ hV hgr);clear hV hgr hb hd nM C x0 x1 x2 bE bF bG y0 y1 y2 bN bO bU K1
 go_upto_region 5 with fail
 rw [<-HV.o.1,<-HV.o.2];clear HV
 go_upto_region 7 with fail
 obtain ⟨p1,q1,D1,M1⟩:=K2.o.1;obtain ⟨p2,q2,D2,M2⟩:=K2.o.r2;obtain ⟨x0,x1,x2,bE,bF,bG⟩:=D1.facts;obtain ⟨y0,y1,y2,bN,bO,bU⟩:=D2.facts;have C:=hid (HS.o V p1 p2 q1 q2 K2.o.2.1.b M1 M2);clear D1 D2 M1 M2;go_wp2_with fail;refine C.o.mono ?_;rintro r u4 ⟨hd,hb⟩;obtain ⟨a6,c6,rfl,qP⟩:=hd.aG;have K3:=aJ (K2.o.2.1.below hb) qP;clear hb hd qP C x0 x1 x2 bE bF bG y0 y1 y2 bN bO bU K2;obtain ⟨p4,q4,D4,M4⟩:=K3.o.1.z;obtain ⟨y0,y1,y2,bN,bO,bU⟩:=D4.facts;have HE:=aZ (D4.set (dN o3) (.slice a6 (ws (dX o3)).length c6) (dE o3)) (K3.o.2.rz D4 (.bool (dN o3)) (.slice a6 (ws (dX o3)).length c6) (.int .i64 (dE o3))) (dY K3.o.1.b K3.o.1.b.size (show w.heap.size<=w.heap.size+3 by omega) (.bool (dN o3)) (.slice a6 (ws (dX o3)).length c6) (.int .i64 (dE o3)));unfold cZ at HE;clear D4 M4;go_wp2;obtain ⟨f0,f1,f2,_,_,_⟩:=HE.o.1.facts;exact aF (v:=.tuple #[.agg #[.bool (dN o3),.slice a6 (ws (dX o3)).length c6,.int .i64 (dE o3)],.int .i64 e3]) (by simp [results,Tryz.results26,go_sem,f0,f1,f2]) rfl ⟨⟨_,rfl,HE.o.2.1⟩,HE.o.r2⟩
theorem rF {o p:Option (Bool×Nat×Int)}(h:(dK o p).isSome=true):mkS (dN (dK o p)) (dX (dK o p)) (dE (dK o p))=dK o p:=by
 cases o with
 | none=>cases h
 | some x =>
   cases p with
   | none=>cases h
   | some y=>exact wR (o:=dK (some x) (some y)) rfl h
theorem lq {w w':World}{p:Addr}{v:Value}(h:w.cell? p=some v) (hb:Below w.heap.size w w'):w'.cell? p=some v:=(hb.cell (p:=p) (lh w p h)).trans h
theorem ck {w u:World}(hb:Below w.heap.size w u){a b c d:Addr}{p q r s:Value}{R R':Prop}(h:w.cell? a=some p/\w.cell? b=some q/\w.cell? c=some r/\w.cell? d=some s/\R)(f:R->R'):u.cell? a=some p/\u.cell? b=some q/\u.cell? c=some r/\u.cell? d=some s/\R':=⟨lq h.1 hb,lq h.2.1 hb,lq h.2.2.1 hb,lq h.2.2.2.1 hb,f h.2.2.2.2⟩
theorem ck1 {w u:World}(hb:Below w.heap.size w u){a:Addr}{p:Value}(h:w.cell? a=some p):u.cell? a=some p:=lq h hb
theorem ck2 {w u:World}(hb:Below w.heap.size w u){a b:Addr}{p q:Value}(h:w.cell? a=some p/\w.cell? b=some q):u.cell? a=some p/\u.cell? b=some q:=⟨lq h.1 hb,lq h.2 hb⟩
theorem vG {w u:World}(hb:Below w.heap.size w u){a b c:Addr}{p q r:Value}(h:w.cell? a=some p/\w.cell? b=some q/\w.cell? c=some r):u.cell? a=some p/\u.cell? b=some q/\u.cell? c=some r:=⟨lq h.1 hb,lq h.2.1 hb,lq h.2.2 hb⟩
theorem jr {w u:World}(hb:Below w.heap.size w u){a b c d:Addr}{p q r s:Value}(h:w.cell? a=some p/\w.cell? b=some q/\w.cell? c=some r/\w.cell? d=some s):u.cell? a=some p/\u.cell? b=some q/\u.cell? c=some r/\u.cell? d=some s:=⟨lq h.1 hb,lq h.2.1 hb,lq h.2.2.1 hb,lq h.2.2.2 hb⟩
theorem mM {w:World}{g:Nat}{x y z:Value}{p:Addr}{v:Value}(h:w.cell? p=some v) (hg:p.block≠g):(cZ w g x y z).cell? p=some v:=by
 rw [zw (a:=p) ((ku g w x y z).block p.block (lh w p h) hg)];exact h
theorem ky {o:Option (Bool×Nat×Int)}(h:o.isSome=true) (hr:mkS (dN o) (dX o) (dE o)=o):(ws (dX o)).length<=8192/\-9223372036854775808<=dE o/\dE o<=9223372036854775807:=by
 have F:=jl (n:=dN o) (X:=dX o) (e:=dE o) (by rw [hr];exact h);rw [hr] at F;have:=dH F;have:=F.up;have:=F.down;refine ⟨af,af,af⟩
theorem rG {w:World}{ap az at':Option Addr}{lp cp ls cs lt ct:Nat}{xs ys zs:List Nat}(n:Int) (np ns nt:Bool) (ep es et:Int) (h1:Arg w ap lp cp xs) (h2:Arg w az ls cs ys) (h3:Arg w at' lt ct zs) (hT:dJ w)
 (hn:-9223372036854775808<=n/\n<=9223372036854775807) (b1:-9223372036854775808<=ep/\ep<=9223372036854775807) (b2:-9223372036854775808<=es/\es<=9223372036854775807) (b3:-9223372036854775808<=et/\et<=9223372036854775807) :
 Calls Tryz.prog 26 #[.int .i64 n,.agg #[.bool np,.slice ap lp cp,.int .i64 ep],.agg #[.bool ns,.slice az ls cs,.int .i64 es],.agg #[.bool nt,.slice at' lt ct,.int .i64 et]] w fun r w' =>
  iA w' r (rD (dK (gV 0 n) (mkS np (val xs) ep)) (dK (mkS ns (val ys) es) (mkS nt (val zs) et))) (l9 (rD (dK (gV 0 n) (mkS np (val xs) ep)) (dK (mkS ns (val ys) es) (mkS nt (val zs) et))))/\Below w.heap.size w w':=by
 have Fi:Fm (gV 0 n):=dB (m:=63) au au (show Bd 63 n by unfold Bd;omega);have HI:=hid (fun (u:World) (hu:Below w.heap.size w u)=>xc n u (hT.belows hu) hn.1 hn.2)
 have nO:∀ (u:World) (a:Option Addr) (c:Nat),Below w.heap.size w u->Nt 0 u (.slice a (ws (dX (gV 0 n))).length c) (dX (gV 0 n))->Calls Tryz.prog 56 #[.agg #[.bool (dN (gV 0 n)),.slice a (ws (dX (gV 0 n))).length c,.int .i64 (dE (gV 0 n))],.agg #[.bool np,.slice ap lp cp,.int .i64 ep]] u fun r w'=>iA w' r (dK (gV 0 n) (mkS np (val xs) ep)) (l9 (dK (gV 0 n) (mkS np (val xs) ep)))/\Below u.heap.size u w':=fun u a c hu hN=>by
  have:=wG (Fi.a12 hN) (h1.below hu) (hT.belows hu) (dN (gV 0 n)) np (dE (gV 0 n)) ep Fi.p9.1 Fi.p9.2 b1.1 b1.2;rw [aj,Fi.re] at this;exact this.mono fun r w' h=>⟨h.1.KA,h.2⟩
 have uD:∀ u:World,Below w.heap.size w u->Calls Tryz.prog 56 #[.agg #[.bool ns,.slice az ls cs,.int .i64 es],.agg #[.bool nt,.slice at' lt ct,.int .i64 et]] u fun r w'=>iA w' r (dK (mkS ns (val ys) es) (mkS nt (val zs) et)) (l9 (dK (mkS ns (val ys) es) (mkS nt (val zs) et)))/\Below u.heap.size u w':=fun u hu =>
  (wG (h2.below hu) (h3.below hu) (hT.belows hu) ns nt es et b2.1 b2.2 b3.1 b3.2).mono fun r w' h=>⟨h.1.KA,h.2⟩
 have R1:=rF (o:=gV 0 n) (p:=mkS np (val xs) ep);have R2:=rF (o:=mkS ns (val ys) es) (p:=mkS nt (val zs) et);generalize dK (gV 0 n) (mkS np (val xs) ep)=o1 at *;generalize dK (mkS ns (val ys) es) (mkS nt (val zs) et)=o2 at *
 have HS:o1.isSome=true->o2.isSome=true->∀ (u:World) (a b:Option Addr) (c d:Nat),Below w.heap.size w u->Nt 0 u (.slice a (ws (dX o1)).length c) (dX o1)->Nt 0 u (.slice b (ws (dX o2)).length d) (dX o2)->Calls Tryz.prog 57 #[.agg #[.bool (dN o1),.slice a (ws (dX o1)).length c,.int .i64 (dE o1)],.agg #[.bool (dN o2),.slice b (ws (dX o2)).length d,.int .i64 (dE o2)]] u fun r w'=>iA w' r (iF o1 (mkS (!dN o2) (dX o2) (dE o2))) (l9 (iF o1 (mkS (!dN o2) (dX o2) (dE o2))))/\Below u.heap.size u w':=fun q1 q2 u a b c d hu n1 n2=>by
  obtain ⟨l1,r1,r1'⟩:=ky q1 (R1 q1);obtain ⟨l2,r2,r2'⟩:=ky q2 (R2 q2);have:=ND (n1.aU af).2 (n2.aU af).2 (hT.belows hu) (dN o1) (dN o2) (dE o1) (dE o2) r1 r1' r2 r2';rw [aj,aj,R1 q1] at this;exact this.mono fun r w' h=>⟨h.1.KA,h.2⟩
 unfold rD;have none14:∀ (u:World) (a b:Option Addr) (c d:Nat),Below w.heap.size w u->Nt 0 u (.slice a (ws (dX o1)).length c) (dX o1)->Nt 0 u (.slice b (ws (dX o2)).length d) (dX o2)->True:=fun _ _ _ _ _ _ _ _=>trivial
 cases q1:o1.isSome with
 | false =>
   have e1:=mK q1;rw [e1] at nO;exact R5 w n np ns nt ap az at' lp cp ls cs lt ct ep es et (gV 0 n) o1 o2 2 (l9 o2) HI (hid nO) au
 | true =>
   have e1:=mJ q1;rw [e1] at nO
   cases q2:o2.isSome with
   | false =>
     have e2:=mK q2;rw [e2] at uD;exact R7 w n np ns nt ap az at' lp cp ls cs lt ct ep es et (gV 0 n) o1 o2 0 2 HI (hid nO) (hid uD) rfl au
   | true =>
     have e2:=mJ q2;rw [e2] at uD;exact VQ w n np ns nt ap az at' lp cp ls cs lt ct ep es et (gV 0 n) o1 o2 _ 0 0 _ HI (hid nO) (hid uD) (hid (HS q1 q2)) rfl rfl
theorem VR {w:World}{ap az at':Option Addr}{cp cs ct:Nat}{n:Nat}{P S T:Int}(hn:n<=65536) (bP:Bd 4212 P) (bS:Bd 2114 S) (bT:Bd 2114 T) (hT:dJ w)
 (N1:Nt 0 w (.slice ap (ws (dX (gV 2148 P))).length cp) (dX (gV 2148 P))) (N2:Nt 0 w (.slice az (ws (dX (gV 1074 S))).length cs) (dX (gV 1074 S))) (N3:Nt 0 w (.slice at' (ws (dX (gV 1074 T))).length ct) (dX (gV 1074 T))) :
 Calls Tryz.prog 26 #[.int .i64 (n:Nat),.agg #[.bool (dN (gV 2148 P)),.slice ap (ws (dX (gV 2148 P))).length cp,.int .i64 (dE (gV 2148 P))],.agg #[.bool (dN (gV 1074 S)),.slice az (ws (dX (gV 1074 S))).length cs,.int .i64 (dE (gV 1074 S))],.agg #[.bool (dN (gV 1074 T)),.slice at' (ws (dX (gV 1074 T))).length ct,.int .i64 (dE (gV 1074 T))]] w fun r w' =>
  iA w' r (gV 2148 ((n:Int)*P-S*T)) 0/\Below w.heap.size w w':=by
 have F1:Fm (gV 2148 P):=dB au au bP;have F2:Fm (gV 1074 S):=dB au au bS;have F3:Fm (gV 1074 T):=dB au au bT;have bn:Bd 16 (n:Int):=Bd.nat af;have b1:Bd 4228 ((n:Int)*P):=(bn.mul bP).mono au;have b2:Bd 4228 (S*T):=(bS.mul bT).mono au;have F4:Fm (gV 2148 ((n:Int)*P)):=dB au au b1;have F5:Fm (gV 2148 (S*T)):=dB au au b2;have F6:Fm (gV 2148 ((n:Int)*P-S*T)):=dB au au (b1.sub b2);have:=rG (n:Int) (dN (gV 2148 P)) (dN (gV 1074 S)) (dN (gV 1074 T)) (dE (gV 2148 P)) (dE (gV 1074 S)) (dE (gV 1074 T)) (F1.a12 N1) (F2.a12 N2) (F3.a12 N3) hT af F1.p9 F2.p9 F3.p9;rw [aj,aj,aj,F1.re,F2.re,F3.re,mH au au au au bn bP,mH au au au au bS bT,dS] at this
 have e:rD (gV 2148 ((n:Int)*P)) (gV 2148 (S*T))=gV 2148 ((n:Int)*P-S*T):=by
  unfold rD;rw [F4.sm,F5.sm];exact Um au au b1 b2
 rw [e,F6.er] at this;exact this
theorem KC (w:World) (n h0 h1:Nat) (A T:Nat->Option (Bool×Nat×Int)) (hn:n<=65536) (hT:dJ w) (FA:∀ i,i<n->Fm (A i)) (FT:∀ i,i<=n->Fm (T i)) (ET:∀ i,i<n->iF (T i) (A i)=T (i+1)) (E0:iX=T 0)
 (HC:Hid (∀ (i:Nat) (u:World),i<n->Below w.heap.size w u->Calls Tryz.prog 92 #[.int .i64 (i:Nat),.pointer (some ⟨h0,0,none⟩),.pointer (some ⟨h1,0,none⟩)] u fun r w'=>bC 0 w' r (A i)/\Below u.heap.size u w')) :
 Calls Tryz.prog 84 #[.int .i64 (n:Nat),.func (.func 92) #[] #[.pointer (some ⟨h0,0,none⟩),.pointer (some ⟨h1,0,none⟩)]] w fun r w'=>bC 0 w' r (T n)/\Below w.heap.size w w':=by
 obtain ⟨W,hW⟩:=ah ((w.alloc (Obj.cells #[.bool false,.slice none 0 0,.int .i64 0] 25)).alloc (Obj.cells #[.bool false,.slice none 0 0,.int .i64 0] 25))
 have H0:Aside (Lo W (w.heap.size+1) (T 0)/\Lo W w.heap.size iX/\Below w.heap.size w W):=by
  subst hW;rw [<-E0];have z2:=Lo.zero (w.alloc (Obj.cells #[.bool false,.slice none 0 0,.int .i64 0] 25));rw [dL] at z2;exact ⟨z2,(Lo.zero w).below (ae _ _),(ae _ _).trans ((ae _ _).mono aO)⟩
 have HP:Hid (∀ (i:Nat) (u:World) (p q:Option Addr) (cp cq:Nat),i<n->dJ u->Nt 0 u (.slice p (ws (dX (T i))).length cp) (dX (T i))->Nt 0 u (.slice q (ws (dX (A i))).length cq) (dX (A i))->Calls Tryz.prog 124 #[.agg #[.bool (dN (T i)),.slice p (ws (dX (T i))).length cp,.int .i64 (dE (T i))],.agg #[.bool (dN (A i)),.slice q (ws (dX (A i))).length cq,.int .i64 (dE (A i))]] u fun r w'=>bC 0 w' r (T (i+1))/\Below u.heap.size u w') :=
  fun i u p q cp cq hi hT n1 n2=>Am (FT i af) (FA i hi) (FT (i+1) af) n1 n2 hT (ET i hi)
 have HW:=ak hW;have PF:=aJ FT FA;have HT:=ak hT;clear hW FT FA ET E0 hT;go_enter Tryz.func84,Tryz.ntmps84
 go_upto_region 2 with fail
 rw [<-HW.o];clear HW;go_wp2
 go_loopg [8] n (fun gk i wr=>∃ j:Nat,gk+j=n/\i=.int .i64 (j:Nat)/\Aside (Lo wr (w.heap.size+1) (T j)/\Lo wr w.heap.size iX/\Below w.heap.size w wr))
 case atStart=>exact ⟨0,af,aO,H0.o⟩
 case round =>
  obtain ⟨j,hgj,rfl,HA⟩:=hrel
  by_cases hj:j<n
  · obtain ⟨p1,q1,D1,M1⟩:=HA.o.1;have hdr:=(aD wr.heap.size wr).drew;have kS:=aZ (D1.below hdr).facts.1 (D1.below hdr).facts.2.1 (D1.below hdr).facts.2.2.1;have B1:=gK (D1.below hdr) (M1.below hdr) (HA.o.2.1.below hdr) (HA.o.r2.trans (hdr.mono HA.o.r2.size));have C:=hid (HC.o j wr.drew hj B1.o.r3);clear D1 M1 hdr
    go_upto_region 5 with fail
    refine fI (fun u=>u.cell? ⟨w.heap.size+1,0,none⟩=some (.bool (dN (T j)))/\u.cell? ⟨w.heap.size+1,1,none⟩=some (.slice p1 (ws (dX (T j))).length q1)/\u.cell? ⟨w.heap.size+1,2,none⟩=some (.int .i64 (dE (T j)))) 5 dm ?_
    refine tk 0 [4] rfl kS.o ?_;try simp only [Act.put,sa,sb,sc]
    refine tk 1 [3,4] rfl kS.o ?_;try simp only [Act.put,sa,sb,sc]
    refine tk 2 [3,4] rfl kS.o ?_;try simp only [Act.put,sa,sb,sc]
    refine aA (i:=3) dm rfl (fun K' hK=>?_);go_simp;refine C.o.mono ?_;rintro r u3 ⟨hd,hb⟩;obtain ⟨a3,c3,rfl,dF⟩:=hd.jm (PF.o.2 j hj);have B2:=eu (B1.o.1.below hb) (B1.o.2.1.below hb) (B1.o.r2.1.below hb) (B1.o.r3.trans (hb.mono B1.o.r3.size)) dF;have kS:=aZ B2.o.1.facts.1 B2.o.1.facts.2.1 B2.o.1.facts.2.2.1;clear hb hd C B1 dF;dsimp only;refine hK.out _ _ (fun _=>kS.o) ?_;clear hK K'
    try simp only [Act.put,sa,sb,sc]
    have C:=hid (HP.o j u3 p1 a3 q1 c3 hj (HT.o.belows B2.o.r3.1) B2.o.2.1 B2.o.r4);refine aA (i:=4) dm rfl (fun K' hK=>?_);go_simp;refine C.o.mono ?_;rintro r u4 ⟨hd,hb⟩;obtain ⟨a4,c4,rfl,fw⟩:=hd.jm (PF.o.1 (j+1) af);have B3:=eu (B2.o.1.below hb) (B2.o.2.1.below hb) (B2.o.r2.1.below hb) (B2.o.r3.1.trans (hb.mono B2.o.r3.1.size)) fw;have kS:=aZ B3.o.1.facts.1 B3.o.1.facts.2.1 B3.o.1.facts.2.2.1;clear hb hd C B2 fw;dsimp only;refine hK.out _ _ (fun _=>kS.o) ?_;clear hK K'
    try simp only [Act.put,sa,sb,sc]
    obtain ⟨z0,z1,z2,eF,eG,eO⟩:=B3.o.1.facts;refine aA (i:=5) dm rfl (fun K' hK=>?_);go_simp;refine hK.out _ _ (fun h=>absurd h au) ?_;clear hK K' kS z0 z1 z2 eF eG eO;refine aQ dm ?_ _;have LB:Lo u4 (w.heap.size+1) (T j):=⟨_,_,B3.o.1,B3.o.2.1⟩;have b3:=B3.o.r3.1;have H3:=aZ (LB.set B3.o.r4) (B3.o.r2.1.other LB af (.bool (dN (T (j+1)))) (.slice a4 (ws (dX (T (j+1)))).length c4) (.int .i64 (dE (T (j+1))))) (dY b3 b3.size (show w.heap.size<=w.heap.size+1 by omega) (.bool (dN (T (j+1)))) (.slice a4 (ws (dX (T (j+1)))).length c4) (.int .i64 (dE (T (j+1)))));clear LB b3;go_wp2;go_roundg (gk-1)
    case measure=>omega
    case rel=>exact ⟨j+1,af,by first | rfl | simp,H3.o⟩
  · obtain rfl:n=j:=af
    have hd:decide ((n:Int)<n)=false:=by simp
    obtain ⟨p1,q1,D1,M1⟩:=HA.o.1;obtain ⟨p2,q2,D2,M2⟩:=HA.o.2.1;obtain ⟨x0,x1,x2,bE,bF,bG⟩:=D1.facts;obtain ⟨y0,y1,y2,bN,bO,bU⟩:=D2.facts;have Ky:=ak M1;clear D1 D2 M1 M2;go_wp2;exact jX Tryz.results84 rfl HA.o.2.1 HA.o.r2 af Ky.o
theorem KD (i n h0 h1 gx gy:Nat) (A B:Nat->Option (Bool×Nat×Int)) (c:Option (Bool×Nat×Int)) (u:World) (hi:i<n) (hn:n<=65536) (hT:dJ u) (FA:Fm (A i)) (FB:Fm (B i)) (Fc:Fm c) (E:dK (A i) (B i)=c)
 (k0:u.cell? ⟨h0,0,none⟩=some (.slice (some ⟨gx,0,none⟩) n n)) (k1:u.cell? ⟨h1,0,none⟩=some (.slice (some ⟨gy,0,none⟩) n n)) (hx:Dr u gx n n A) (hy:Dr u gy n n B) :
 Calls Tryz.prog 92 #[.int .i64 (i:Nat),.pointer (some ⟨h0,0,none⟩),.pointer (some ⟨h1,0,none⟩)] u fun r w'=>bC 0 w' r c/\Below u.heap.size u w':=by
 obtain ⟨W,hW⟩:=ah (u.alloc (Obj.cells #[.bool false,.slice none 0 0,.int .i64 0] 25));have LT:Aside (h0<u.heap.size/\h1<u.heap.size/\gx<u.heap.size/\gy<u.heap.size):=⟨lh u _ k0,lh u _ k1,hx.lt,hy.lt⟩;have hb:Below u.heap.size u W.drew:=by rw [hW];exact jU u
 have L0:Lo W.drew u.heap.size iX:=by rw [hW];exact jV u
 obtain ⟨p1,q1,x0,x1,x2,M1⟩:=(hx.below hb).facts i hi;obtain ⟨p2,q2,y0,y1,y2,M2⟩:=(hy.below hb).facts i hi;have kS:Aside (W.drew.cell? ⟨h0,0,none⟩=some (.slice (some ⟨gx,0,none⟩) n n)/\W.drew.cell? ⟨h1,0,none⟩=some (.slice (some ⟨gy,0,none⟩) n n)/\W.drew.cell? ⟨gx,i*3,none⟩=some (.bool (dN (A i)))/\W.drew.cell? ⟨gx,i*3+1,none⟩=some (.slice p1 (ws (dX (A i))).length q1)/\W.drew.cell? ⟨gx,i*3+2,none⟩=some (.int .i64 (dE (A i)))/\W.drew.cell? ⟨gy,i*3,none⟩=some (.bool (dN (B i)))/\W.drew.cell? ⟨gy,i*3+1,none⟩=some (.slice p2 (ws (dX (B i))).length q2)/\W.drew.cell? ⟨gy,i*3+2,none⟩=some (.int .i64 (dE (B i)))):=⟨lq k0 hb,lq k1 hb,x0,x1,x2,y0,y1,y2⟩;have C:=hid (gL FA FB Fc M1 M2 (hT.belows hb) E);have BD:=(aJ hb L0);have FF:=ak Fc;have HW:=ak hW;have HI:=ak hi;clear hW hb L0 x0 x1 x2 y0 y1 y2 M1 M2 k0 k1 hx hy FA FB Fc E hT;go_enter Tryz.func92,Tryz.ntmps92
 go_upto_region 1 with fail
 rw [<-HW.o];clear HW
 go_region_held3 (fun w'=>w'.cell? ⟨h0,0,none⟩=some (.slice (some ⟨gx,0,none⟩) n n)/\w'.cell? ⟨h1,0,none⟩=some (.slice (some ⟨gy,0,none⟩) n n)/\w'.cell? ⟨gx,i*3,none⟩=some (.bool (dN (A i)))/\w'.cell? ⟨gx,i*3+1,none⟩=some (.slice p1 (ws (dX (A i))).length q1)/\w'.cell? ⟨gx,i*3+2,none⟩=some (.int .i64 (dE (A i)))/\w'.cell? ⟨gy,i*3,none⟩=some (.bool (dN (B i)))/\w'.cell? ⟨gy,i*3+1,none⟩=some (.slice p2 (ws (dX (B i))).length q2)/\w'.cell? ⟨gy,i*3+2,none⟩=some (.int .i64 (dE (B i)))) (first | with_reducible exact kS.o | with_reducible exact kT.o) (first
  | (go_at_call 51
     with_reducible refine C.o.mono ?_
     rintro r u3 ⟨hd,hb⟩;obtain ⟨a3,c3,rfl,dF⟩:=hd.aG;have BD:=aZ (BD.o.1.trans (hb.mono BD.o.1.size)) (BD.o.2.below hb) dF;have kS:=ak (ck hb kS.o fun h=>jr hb h);have kT:=rT (mM (x:=.bool (dN c)) (y:=.slice a3 (ws (dX c)).length c3) (z:=.int .i64 (dE c)) kS.o.1 (gZ LT.o.1)) (mM (x:=.bool (dN c)) (y:=.slice a3 (ws (dX c)).length c3) (z:=.int .i64 (dE c)) kS.o.2.1 (gZ LT.o.2.1)) (mM (x:=.bool (dN c)) (y:=.slice a3 (ws (dX c)).length c3) (z:=.int .i64 (dE c)) kS.o.r2.1 (gZ LT.o.r2.1)) (mM (x:=.bool (dN c)) (y:=.slice a3 (ws (dX c)).length c3) (z:=.int .i64 (dE c)) kS.o.r3.1 (gZ LT.o.r2.1)) (mM (x:=.bool (dN c)) (y:=.slice a3 (ws (dX c)).length c3) (z:=.int .i64 (dE c)) kS.o.r4.1 (gZ LT.o.r2.1)) (mM (x:=.bool (dN c)) (y:=.slice a3 (ws (dX c)).length c3) (z:=.int .i64 (dE c)) kS.o.r5.1 (gZ LT.o.r3)) (mM (x:=.bool (dN c)) (y:=.slice a3 (ws (dX c)).length c3) (z:=.int .i64 (dE c)) kS.o.r6.1 (gZ LT.o.r3)) (mM (x:=.bool (dN c)) (y:=.slice a3 (ws (dX c)).length c3) (z:=.int .i64 (dE c)) kS.o.r7 (gZ LT.o.r3));obtain ⟨zp,zq,DZ,MZ⟩:=BD.o.2.1;obtain ⟨z0,z1,z2,eF,eG,eO⟩:=DZ.facts
     clear hb hd dF DZ MZ C))
 go_wp2;exact jX Tryz.results92 rfl BD.o.2.1 BD.o.1 (aC _) BD.o.r2
theorem yU {f g:Nat->Int}{n:Nat}(bf:∀ i,i<n->Bd 2098 (f i)) (bg:∀ i,i<n->Bd 2098 (g i)) (hn:n<=65536) (k:Nat) (hk:k<=n):Bd 4212 (tS (fun i=>f i*g i) k) :=
 (CS (m:=4196) (fun i hi=>((bf i hi).mul (bg i hi)).mono au) hn k hk).mono au
theorem CZ (w:World) (n gx gy:Nat) (ax ay:Option Addr) (cx cy:Nat) (oS oT oP oD:Option (Bool×Nat×Int)) (hP:Fm oP) (hD:Fm oD)
 (N1:Nt 0 w (.slice ax (ws (dX oS)).length cx) (dX oS)) (N2:Nt 0 w (.slice ay (ws (dX oT)).length cy) (dX oT))
 (HC:Hid (∀ u:World,Below w.heap.size w u->u.cell? ⟨w.heap.size,0,none⟩=some (.slice (some ⟨gx,0,none⟩) n n)->u.cell? ⟨w.heap.size+1,0,none⟩=some (.slice (some ⟨gy,0,none⟩) n n)->Calls Tryz.prog 84 #[.int .i64 (n:Nat),.func (.func 92) #[] #[.pointer (some ⟨w.heap.size,0,none⟩),.pointer (some ⟨w.heap.size+1,0,none⟩)]] u fun r w'=>bC 0 w' r oP/\Below u.heap.size u w'))
 (HD:Hid (∀ (u:World) (a b d:Option Addr) (ca cb cd:Nat),Below w.heap.size w u->Nt 0 u (.slice a (ws (dX oP)).length ca) (dX oP)->Nt 0 u (.slice b (ws (dX oS)).length cb) (dX oS)->Nt 0 u (.slice d (ws (dX oT)).length cd) (dX oT)->Calls Tryz.prog 26 #[.int .i64 (n:Nat),.agg #[.bool (dN oP),.slice a (ws (dX oP)).length ca,.int .i64 (dE oP)],.agg #[.bool (dN oS),.slice b (ws (dX oS)).length cb,.int .i64 (dE oS)],.agg #[.bool (dN oT),.slice d (ws (dX oT)).length cd,.int .i64 (dE oT)]] u fun r w'=>iA w' r oD 0/\Below u.heap.size u w')) :
 Calls Tryz.prog 50 #[.agg #[.slice (some ⟨gx,0,none⟩) n n,.bool (dN oS),.slice ax (ws (dX oS)).length cx,.int .i64 (dE oS)],.agg #[.slice (some ⟨gy,0,none⟩) n n,.bool (dN oT),.slice ay (ws (dX oT)).length cy,.int .i64 (dE oT)]] w fun r w'=>bC 0 w' r oD/\Below w.heap.size w w':=by
 obtain ⟨W,hW⟩:=ah (((w.alloc (Obj.cells #[.slice (some ⟨gx,0,none⟩) n n,.bool (dN oS),.slice ax (ws (dX oS)).length cx,.int .i64 (dE oS)] 74)).alloc (Obj.cells #[.slice (some ⟨gy,0,none⟩) n n,.bool (dN oT),.slice ay (ws (dX oT)).length cy,.int .i64 (dE oT)] 74)).alloc (Obj.cells #[.bool false,.slice none 0 0,.int .i64 0] 25))
 have H0:Aside (Bl W w.heap.size 74 [.slice (some ⟨gx,0,none⟩) n n,.bool (dN oS),.slice ax (ws (dX oS)).length cx,.int .i64 (dE oS)]/\Bl W (w.heap.size+1) 74 [.slice (some ⟨gy,0,none⟩) n n,.bool (dN oT),.slice ay (ws (dX oT)).length cy,.int .i64 (dE oT)]/\Lo W (w.heap.size+2) iX/\Below w.heap.size w W/\Nt 0 W (.slice ax (ws (dX oS)).length cx) (dX oS)/\Nt 0 W (.slice ay (ws (dX oT)).length cy) (dX oT)):=by
  have hbW:Below w.heap.size w W:=by rw [hW];exact ((ae _ _).trans ((ae _ _).mono aO)).trans ((ae _ _).mono (by simp;omega))
  refine ⟨?_,?_,?_,hbW,N1.below hbW,N2.below hbW⟩
  · rw [hW];exact ((Bl.new w 74 [.slice (some ⟨gx,0,none⟩) n n,.bool (dN oS),.slice ax (ws (dX oS)).length cx,.int .i64 (dE oS)]).alloc _).alloc _
  · have z1:=Bl.new (w.alloc (Obj.cells #[.slice (some ⟨gx,0,none⟩) n n,.bool (dN oS),.slice ax (ws (dX oS)).length cx,.int .i64 (dE oS)] 74)) 74 [.slice (some ⟨gy,0,none⟩) n n,.bool (dN oT),.slice ay (ws (dX oT)).length cy,.int .i64 (dE oT)];rw [dL] at z1;rw [hW];exact z1.alloc _
  · have z2:=Lo.zero ((w.alloc (Obj.cells #[.slice (some ⟨gx,0,none⟩) n n,.bool (dN oS),.slice ax (ws (dX oS)).length cx,.int .i64 (dE oS)] 74)).alloc (Obj.cells #[.slice (some ⟨gy,0,none⟩) n n,.bool (dN oT),.slice ay (ws (dX oT)).length cy,.int .i64 (dE oT)] 74));rw [dL,dL] at z2;rw [hW];exact z2
 have HW:=ak hW;have FF:=(aJ hP hD);clear hW N1 N2 hP hD;go_enter Tryz.func50,Tryz.ntmps50
 go_upto_region 1 with fail
 rw [<-HW.o];clear HW;have s0:=H0.o.1.cell 0 _ rfl;have hmf:∀ (fn:Fn) (first cap:Array Value) (w:World),(Instr.makeFunc fn first cap).run Tryz.prog w=.ok (.func fn first cap) w:=fun _ _ _ _=>rfl;have C:=hid (HC.o W H0.o.r3.1 (H0.o.1.cell 0 _ rfl) (H0.o.2.1.cell 0 _ rfl));go_wp2_with fail;refine C.o.mono ?_;rintro r u1 ⟨hd,hb⟩;obtain ⟨a1,c1,rfl,hN1⟩:=hd.aG;obtain ⟨U,hU⟩:=ah (u1.alloc (Obj.cells #[.bool (dN oP),.slice a1 (ws (dX oP)).length c1,.int .i64 (dE oP)] 25));obtain ⟨g6,R8⟩:=ah (u1.heap.size)
 have H1:Aside (Lo U g6 oP/\Bl U w.heap.size 74 [.slice (some ⟨gx,0,none⟩) n n,.bool (dN oS),.slice ax (ws (dX oS)).length cx,.int .i64 (dE oS)]/\Bl U (w.heap.size+1) 74 [.slice (some ⟨gy,0,none⟩) n n,.bool (dN oT),.slice ay (ws (dX oT)).length cy,.int .i64 (dE oT)]/\Lo U (w.heap.size+2) iX/\Below w.heap.size w U/\Nt 0 U (.slice ax (ws (dX oS)).length cx) (dX oS)/\Nt 0 U (.slice ay (ws (dX oT)).length cy) (dX oT)):=by
  have uA:Below W.heap.size W U:=by rw [hU];exact hb.trans ((ae _ _).mono hb.size)
  refine ⟨?_,H0.o.1.below uA H0.o.1.lt,H0.o.2.1.below uA H0.o.2.1.lt,H0.o.r2.1.below uA,H0.o.r3.1.trans (uA.mono H0.o.r3.1.size),H0.o.r4.1.below uA,H0.o.r5.below uA⟩;rw [hU,R8];exact Lo.new hN1
 have HU:=(aJ hU R8);clear hU R8 hb hd hN1 C H0 s0
 go_upto_region 3 with fail
 rw [<-HU.o.1,<-HU.o.2];clear HU;obtain ⟨pp,qp,DP,MP⟩:=H1.o.1;obtain ⟨x0,x1,x2,bE,bF,bG⟩:=DP.facts;have s1:=H1.o.2.1.cell 1 _ rfl;have s2:=H1.o.2.1.cell 2 _ rfl;have s3:=H1.o.2.1.cell 3 _ rfl;have t1:=H1.o.r2.1.cell 1 _ rfl;have t2:=H1.o.r2.1.cell 2 _ rfl;have t3:=H1.o.r2.1.cell 3 _ rfl;have C:=hid (HD.o U pp ax ay qp cx cy H1.o.r4.1 MP H1.o.r5.1 H1.o.r6);clear DP MP;go_wp2_with fail;refine C.o.mono ?_;rintro r u2 ⟨hd,hb⟩;obtain ⟨a2,c2,rfl,ko⟩:=hd.aG;obtain ⟨V,hV⟩:=ah (u2.alloc (Obj.cells #[.bool (dN oD),.slice a2 (ws (dX oD)).length c2,.int .i64 (dE oD)] 25));obtain ⟨g7,qz⟩:=ah (u2.heap.size)
 have H2:Aside (Lo V g7 oD/\Lo V (w.heap.size+2) iX/\Below w.heap.size w V):=by
  have Hq:Below U.heap.size U V:=by rw [hV];exact hb.trans ((ae _ _).mono hb.size)
  refine ⟨?_,H1.o.r3.1.below Hq,H1.o.r4.1.trans (Hq.mono H1.o.r4.1.size)⟩;rw [hV,qz];exact Lo.new ko
 have HV:=(aJ hV qz);clear hV qz hb hd ko C H1 x0 x1 x2 bE bF bG s1 s2 s3 t1 t2 t3
 go_upto_region 4 with fail
 rw [<-HV.o.1,<-HV.o.2];clear HV;obtain ⟨p1,q1,D1,M1⟩:=H2.o.1;obtain ⟨p2,q2,D2,M2⟩:=H2.o.2.1;obtain ⟨x0,x1,x2,bE,bF,bG⟩:=D1.facts;obtain ⟨y0,y1,y2,bN,bO,bU⟩:=D2.facts;have Ky:=ak M1;clear D1 D2 M1 M2;go_wp2;exact jX Tryz.results50 rfl H2.o.2.1 H2.o.r2 af Ky.o
theorem mO {w:World}{v1 v2:Value}{n:Nat}{f g:Nat->Int}{S T:Int}(hn:n<=65536) (hT:dJ w) (bf:∀ i,i<n->Bd 2098 (f i)) (bg:∀ i,i<n->Bd 2098 (g i)) (bS:Bd 2114 S) (bT:Bd 2114 T)
 (h1:Rr w v1 n (fun i=>gV 1074 (f i)) (gV 1074 S)) (h2:Rr w v2 n (fun i=>gV 1074 (g i)) (gV 1074 T)) :
 Calls Tryz.prog 50 #[v1,v2] w fun r w'=>bC 0 w' r (gV 2148 ((n:Int)*tS (fun i=>f i*g i) n-S*T))/\Below w.heap.size w w':=by
 obtain ⟨gx,ax,cx,rfl,hx,n1⟩:=h1;obtain ⟨gy,ay,cy,rfl,hy,n2⟩:=h2;have bP:=fun k hk=>yU bf bg hn k hk;have bn:Bd 16 (n:Int):=Bd.nat af;refine CZ w n gx gy ax ay cx cy (gV 1074 S) (gV 1074 T) (gV 2148 (tS (fun i=>f i*g i) n)) _ (dB au au (bP n (aC _))) (dB (m:=4229) au au (Bd.sub (m:=4228) ((bn.mul (bP n (aC _))).mono au) ((bS.mul bT).mono au))) n1 n2 (hid fun u hu k0 k1=>?_) (hid fun u a b d ca cb cd hu m1 m2 m3=>VR hn (bP n (aC _)) bS bT (hT.belows hu) m1 m2 m3);refine KC u n w.heap.size (w.heap.size+1) (fun i=>gV 2148 (f i*g i)) (fun i=>gV 2148 (tS (fun i=>f i*g i) i)) hn (hT.belows hu) (fun i hi=>dB au au ((bf i hi).mul (bg i hi))) (fun i hi=>dB au au (bP i hi)) (fun i hi=>CR au au (bP i af) (((bf i hi).mul (bg i hi)).mono au)) (wZ 2148).symm (hid fun i v hi hv=>?_);have hv2:Below w.heap.size w v:=hu.trans (hv.mono hu.size);exact KD i n w.heap.size (w.heap.size+1) gx gy (fun i=>gV 1074 (f i)) (fun i=>gV 1074 (g i)) (gV 2148 (f i*g i)) v hi hn (hT.belows hv2) (dB au au (bf i hi)) (dB au au (bg i hi)) (dB au au ((bf i hi).mul (bg i hi))) (mH au au au au (bf i hi) (bg i hi)) (lq k0 hv) (lq k1 hv) (hx.below hv2) (hy.below hv2)
end
namespace Ps
open Go.RowKit
open Go.RowKit
def Wf (xs:List Nat):Prop:=∀ x ∈ xs,x<18446744073709551616
theorem Wf.get {xs:List Nat}(h:Wf xs) (k:Nat):xs.getD k 0<18446744073709551616:=by
 by_cases hk:k<xs.length
 · rw [eP,nQ hk];exact h _ (vJ hk)
 · rw [eP,nR af];decide
def U (n:Nat):Value:=.float .f64 n
def Rd (B:Nat) (w:World) (ao:Option Addr) (xs:List Nat):Prop :=
 xs≠[]->∃ b off,b<B/\ao=some ⟨b,off,none⟩/\∀ i,i<xs.length->w.cell? ⟨b,off+i,none⟩=some (.float .f64 (xs.getD i 0))
theorem Rd.below {B:Nat}{w w':World}{ao:Option Addr}{xs:List Nat}(h:Rd B w ao xs) (hb:Below B w w'):Rd B w' ao xs:=by
 intro hx;obtain ⟨b,off,hlt,rfl,hc⟩:=h hx;exact ⟨b,off,hlt,rfl,fun i hi=>(hb.cell (p:=⟨b,off+i,none⟩) hlt).trans (hc i hi)⟩
theorem Rd.mono {B B':Nat}{w:World}{ao:Option Addr}{xs:List Nat}(h:Rd B w ao xs) (hB:B<=B'):Rd B' w ao xs:=by
 intro hx;obtain ⟨b,off,hlt,rfl,hc⟩:=h hx;exact ⟨b,off,af,rfl,hc⟩
def Lt (lo:Nat) (w:World) (v:Value) (xs:List Nat):Prop:=w.ownsRow lo 28 1 v xs.length (xs.map U)
theorem Lt.nil (lo:Nat) (w:World):Lt lo w (.slice none 0 0) []:=Bj _ _ _ _
theorem Tryz.OI:(Tryz.prog.info? 28).map (fun i=>(i.zero,i.size,i.bytes))=some (some (.float .f64 0),1,8):=by kernel_rfl
open Go.RowKit
abbrev Rw (lo:Nat) (w:World) (v:Value) (n:Nat) (ys:List Value):Prop:=w.ownsRow lo 28 1 v n ys
def KE (w w':World):Prop:=∀ (g:Nat) (cur:Array Value) (e:TypeId),e≠35->e≠44->w.heap[g]?=some (.cells cur e (0,0))->w'.heap[g]?=some (.cells cur e (0,0))
theorem KE.row {w w':World}{lo:Nat}{v:Value}{n:Nat}{ys:List Value}(h:Rw lo w v n ys) (k:KE w w'):Rw lo w' v n ys:=by
 refine ⟨h.1,?_⟩;rcases h.2 with hn|⟨g,cap,cur,rfl,hlo,hg,rest⟩
 · exact .inl hn
 · exact .inr ⟨g,cap,cur,rfl,hlo,k _ _ _ au au hg,rest⟩
theorem KE.below {w w':World}(h:Below w.heap.size w w'):KE w w':=fun g cur _ _ _ e=>by rw [h.block g (gD.1 e).1];exact e
theorem sJ {w w':World}{lo e s:Nat}{v:Value}{n:Nat}{ys:List Value}(h:w.ownsRow lo e s v n ys) (hb:∀ g,v.ownBlock=some g->w'.heap[g]?=w.heap[g]?):w'.ownsRow lo e s v n ys:=by
 refine ⟨h.1,?_⟩;rcases h.2 with hn|⟨g,cap,cur,rfl,hlo,hg,rest⟩
 · exact .inl hn
 · refine .inr ⟨g,cap,cur,rfl,hlo,?_,rest⟩;rw [hb g rfl];exact hg
theorem lI (w:World) (lo:Nat) (v:Value) (n:Nat) (ys:List Value) (x:Value) (s:Nat) (ty:TypeId) (hown:Rw lo w v n ys) (hx:w.cell? ⟨s,0,none⟩=some x) (h1:x.oneCell'=true)
 (hbig:n+1<=17592186044416) (hlo:lo<=w.heap.size) :
 ∃ v' w',(Builtin.append_ #[35,35] ty #[v,.slice (some ⟨s,0,none⟩) 1 1]).run Tryz.prog w=.ok v' w'/\Rw lo w' v' (n+1) (ys++[x])/\w.grownBy w' v.ownBlock /\
   (v'.ownBlock=v.ownBlock\/∃ g,v'.ownBlock=some g/\w.heap.size<=g)/\(∀ (u:Value) (k:Nat) (zs:List Value),Rw lo w u k zs->(u.ownBlock=v.ownBlock->k<=n)->Rw lo w' u k zs):=by
 obtain ⟨i0,hi,hz0,hz1,hz2⟩:=info_parts Tryz.OI
 have hnews:∀ j u,[x][j]?=some u->w.cell? ((⟨s,0,none⟩:Addr).add j)=some u:=by
  intro j u hj
  match j,hj with
  | 0,hj=>simp at hj;subst hj;simpa [Addr.add] using hx
 have h1':∀ u ∈ [x],u.oneCell'=true:=by intro u hu;simp at hu;subst hu;exact h1
 have keep:∀ w',w.grownBy w' none->∀ (u:Value) (k:Nat) (zs:List Value),Rw lo w u k zs->Rw lo w' u k zs:=by
  intro w' hg u k zs hr;rcases hr.2 with hn|⟨g,cap,cur,rfl,hl,hgb,rest⟩
  · exact ⟨hr.1,.inl hn⟩
  · refine ⟨hr.1,.inr ⟨g,cap,cur,rfl,hl,?_,rest⟩⟩;rw [hg.block g (gD.1 hgb).1 aO];exact hgb
 have Mo:∀ (v':Value) (w':World) (m:Nat) (zs:List Value),w'.ownsRow w.heap.size 28 1 v' (m+1) zs->∃ g,v'.ownBlock=some g/\w.heap.size<=g:=by
  intro v' w' m zs h;rcases h.2 with ⟨_,h0⟩|⟨g,cap,cur,rfl,hl,_⟩
  · omega
  · exact ⟨g,rfl,hl⟩
 have mono:∀ (v':Value) (w':World) (m:Nat) (zs:List Value),w'.ownsRow w.heap.size 28 1 v' m zs->Rw lo w' v' m zs:=by
  intro v' w' m zs h;refine ⟨h.1,?_⟩;rcases h.2 with hn|⟨g,cap,cur,rfl,hl,rest⟩
  · exact .inl hn
  · exact .inr ⟨g,cap,cur,rfl,af,rest⟩
 rcases hown.2 with ⟨rfl,rfl⟩|⟨g,cap,cur,rfl,ZF,hg,hnc,hm,hs,ht⟩
 · obtain ⟨v',w',r1,r2,r3,_,_⟩:=run_append_own_at (P:=Tryz.prog) w w.heap.size 35 ty 28 i0 (.float .f64 0) 1 8 Tryz.underlying35 hi hz0 hz1 hz2 rfl au (.slice none 0 0) 0 [] (Bj _ _ _ _) ⟨s,0,none⟩ 1 1 [x] rfl hnews h1' (by unfold maxLen;omega) af (aC _);have hy:ys=[]:=Be (by simpa using hown.1);subst hy;exact ⟨v',w',r1,mono _ _ _ _ (by simpa using r2),r3,.inr (Mo _ _ 0 _ (by simpa using r2)),fun u k zs hr _=>keep _ r3 u k zs hr⟩
 · by_cases hroom:n+1<=cap
   · have hr:=run_append_room (P:=Tryz.prog) w 35 ty 28 i0 Tryz.underlying35 hi g n cap cur hg ⟨s,0,none⟩ 1 1 [x] (by rw [hz1];rfl) hnews h1' hroom (by rw [hz1,hs];simp;omega);rw [hz1] at hr;refine ⟨_,_,hr,⟨by simpa using hown.1,.inr ⟨g,cap,_,rfl,ZF,setRow_heap w g cur _ 28 _ hg,hroom,hm,?_,?_⟩⟩,⟨rfl,rfl,rfl,aO,fun k _ hk=>setRow_other w g k _ (fun e=>hk (by simp [Value.ownBlock,e]))⟩,.inl rfl,?_⟩
     · simp only [zh,A9,gz,pI,zi,qD,zk];omega
     · rw [ht];have hyl:ys.length=n:=by simpa using hown.1
       simp only [fo,x9];rw [<-x9];rw [Bf (by simp [hyl])];rw [ic (by simp [hyl])]
     · intro u k zs hr2 hle;rcases hr2.2 with hn|⟨g2,cap2,U7,rfl,hl2,hg2,Mq,hm2,hs2,ht2⟩
       · exact ⟨hr2.1,.inl hn⟩
       · by_cases he:g2=g
         · subst he;rw [hg] at hg2
           cases hg2
           have hk:=hle rfl;refine ⟨hr2.1,.inr ⟨g2,cap2,_,rfl,hl2,setRow_heap w g2 cur _ 28 _ hg,Mq,hm2,?_,?_⟩⟩
           · simp only [zh,A9,gz,pI,zi,qD,zk];omega
           · have hcl:cur.toList.length=cap2:=by simpa using hs2
             rw [<-ht2];simp only [fo,x9];rw [Bf (by rw [gz];omega),List.take_take,jf hk]
         · refine ⟨hr2.1,.inr ⟨g2,cap2,U7,rfl,hl2,?_,Mq,hm2,hs2,ht2⟩⟩;rw [setRow_other w g g2 _ he];exact hg2
   · obtain ⟨v',w',r1,r2,r3⟩:=run_append_arg_grows (P:=Tryz.prog) w 35 ty 28 i0 (.float .f64 0) 1 8 Tryz.underlying35 hi hz0 hz1 hz2 rfl au ⟨g,0,none⟩ n cap ys (by simpa using hown.1) (fun j u hj=>hown.cells (g:=g) (by simp [Value.ownBlock]) j u hj) ⟨s,0,none⟩ 1 1 [x] rfl hnews af (by unfold maxLen;omega) af;exact ⟨v',w',r1,mono _ _ _ _ r2,⟨r3.os,r3.tape,r3.output,r3.size,fun k hk _=>r3.block k hk aO⟩,.inr (Mo _ _ n _ r2),fun u k zs hr _=>keep _ r3 u k zs hr⟩
theorem dC {w:World}{ops:Array Oper}{rest:List Oper}{o:Oper}{a:Act}{Q:Exit->Act->World->Prop}(hgd:o.guard=none) (s x:Operand) (t:TypeId)
 (ho:o.op=.call { callee:=.builtin .append,args:=#[s,x],argTypes:=#[t,t] }) (v u:Value) (hs:a.eval s=v) (hx:a.eval x=u) (v':Value) (w':World)
 (hrun:(Builtin.append_ #[t,t] o.type #[v,u]).run Tryz.prog w=.ok v' w') (h:wpList Tryz.prog ops Q rest (a.put o.dst v') w'):wpList Tryz.prog ops Q (o::rest) a w:=by
 refine wpList_plain hgd fun K hK=>?_;unfold Oper.wp;simp [execOp,ho,resolve,invoke,builtin,hs,hx,hrun,Result.andThen];exact hK _ _ h
end Ps
namespace Ps
open Go.RowKit
open Go.Proofs.YtfmfhehbdfhnbaaGreatDoor.B (cO aI bw)
attribute [local go_sem] cO aI
theorem OJ (b:Nat):kd b<=5:=by unfold kd;(repeat' split) <;> omega
open Go.RowKit
open Go.Proofs.YtfmfhehbdfhnbaaGreatDoor.B (cO aI bw aR)
attribute [local go_sem] cO aI
def cn (k:Nat) (xs:List Nat):Nat:=xs.countP (fun x=>kd x==k)
theorem KF (k:Nat) (xs ys:List Nat):cn k (xs++ys)=cn k xs+cn k ys:=by simp [cn,List.countP_append]
def one (k x:Nat):Nat:=if kd x=k then 1 else 0
theorem VS (k x:Nat):cn k [x]=one k x:=by unfold cn one;by_cases h:kd x=k <;> simp [h]
theorem qA (xs:List Nat) (i:Nat) (h:i<xs.length):xs.take (i+1)=xs.take i++[xs.getD i 0]:=by
 rw [DL h,eP,nQ h];rfl
theorem rH (k:Nat) (xs:List Nat) (i:Nat) (h:i<xs.length):cn k (xs.take (i+1))=cn k (xs.take i)+one k (xs.getD i 0):=by
 rw [qA xs i h,KF,VS]
theorem Yj (k:Nat) (xs:List Nat):cn k xs<=xs.length:=List.countP_le_length
def kz (w:World) (g:Nat) (n u d m p a:Int):Prop:=w.heap[g]?=some (.cells #[.int .i64 n,.int .i64 u,.int .i64 d,.int .i64 m,.int .i64 p,.int .i64 a] 106 (0,0))
theorem kz.lt {w:World}{g:Nat}{n u d m p a:Int}(h:kz w g n u d m p a):g<w.heap.size:=(gD.1 h).1
theorem kz.c0 {w:World}{g:Nat}{n u d m p a:Int}(h:kz w g n u d m p a):w.cell? ⟨g,0,none⟩=some (.int .i64 n):=by unfold kz at h;simp [World.cell?,h]
theorem kz.c1 {w:World}{g:Nat}{n u d m p a:Int}(h:kz w g n u d m p a):w.cell? ⟨g,1,none⟩=some (.int .i64 u):=by unfold kz at h;simp [World.cell?,h]
theorem kz.c2 {w:World}{g:Nat}{n u d m p a:Int}(h:kz w g n u d m p a):w.cell? ⟨g,2,none⟩=some (.int .i64 d):=by unfold kz at h;simp [World.cell?,h]
theorem kz.c3 {w:World}{g:Nat}{n u d m p a:Int}(h:kz w g n u d m p a):w.cell? ⟨g,3,none⟩=some (.int .i64 m):=by unfold kz at h;simp [World.cell?,h]
theorem kz.c4 {w:World}{g:Nat}{n u d m p a:Int}(h:kz w g n u d m p a):w.cell? ⟨g,4,none⟩=some (.int .i64 p):=by unfold kz at h;simp [World.cell?,h]
theorem kz.c5 {w:World}{g:Nat}{n u d m p a:Int}(h:kz w g n u d m p a):w.cell? ⟨g,5,none⟩=some (.int .i64 a):=by unfold kz at h;simp [World.cell?,h]
theorem kz.frozen {w:World}{g:Nat}{n u d m p a:Int}(h:kz w g n u d m p a) (i:Nat):w.frozen? ⟨g,i,none⟩=false:=by unfold kz at h;simp [World.frozen?,h]
theorem kz.below {w w':World}{g B:Nat}{n u d m p a:Int}(h:kz w g n u d m p a) (hb:Below B w w') (hg:g<B):kz w' g n u d m p a:=by
 unfold kz at h |-;rw [hb.block g hg];exact h
theorem KG (k g:Nat) (n u d m p a:Int) (w:World) (hk:k<=5) (hB:kz w g n u d m p a) (hn:0<=n/\n<=65536) (hu:0<=u/\u<=65536) (hd:0<=d/\d<=65536) (hm:0<=m/\m<=65536) (hp:0<=p/\p<=65536) :
 Calls Tryz.prog 115 #[.pointer (some ⟨g,0,none⟩),.int .i64 (k:Nat)] w fun r w'=>r=.returned (.tuple #[]) /\
  kz w' g (if k=0 then n+1 else n) (if k=1 then u+1 else u) (if k=2 then d+1 else d) (if k=3 then m+1 else m) (if k=4 then p+1 else p) a/\But g w w':=by
 have hc0:=hB.c0;have hc1:=hB.c1;have hc2:=hB.c2;have hc3:=hB.c3;have hc4:=hB.c4;have hf0:=hB.frozen 0;have hf1:=hB.frozen 1;have hf2:=hB.frozen 2;have hf3:=hB.frozen 3;have hf4:=hB.frozen 4;have HB:=ak hB;clear hB;obtain rfl|rfl|rfl|rfl|rfl|rfl:k=0\/k=1\/k=2\/k=3\/k=4\/k=5:=af
 · go_enter Tryz.func115,Tryz.ntmps115;go_wp2
   go_end0
   refine ⟨rfl,?_,(But.refl _ _).set _ _⟩;have h:=HB.o;unfold kz at h |-;simp [World.setCell,lC,h]
 · go_enter Tryz.func115,Tryz.ntmps115;go_wp2
   go_end0
   refine ⟨rfl,?_,(But.refl _ _).set _ _⟩;have h:=HB.o;unfold kz at h |-;simp [World.setCell,lC,h]
 · go_enter Tryz.func115,Tryz.ntmps115;go_wp2
   go_end0
   refine ⟨rfl,?_,(But.refl _ _).set _ _⟩;have h:=HB.o;unfold kz at h |-;simp [World.setCell,lC,h]
 · go_enter Tryz.func115,Tryz.ntmps115;go_wp2
   go_end0
   refine ⟨rfl,?_,(But.refl _ _).set _ _⟩;have h:=HB.o;unfold kz at h |-;simp [World.setCell,lC,h]
 · go_enter Tryz.func115,Tryz.ntmps115;go_wp2
   go_end0
   refine ⟨rfl,?_,(But.refl _ _).set _ _⟩;have h:=HB.o;unfold kz at h |-;simp [World.setCell,lC,h]
 · go_enter Tryz.func115,Tryz.ntmps115;go_wp2
   go_end0
   exact ⟨rfl,HB.o,But.refl _ _⟩
def rf (n u d a b:Int):Int:=if 0<n/\a=2 then 60 else if 0<u+d/\b=2 then 61 else 0
theorem C8 (n u d m p l a b:Int) (w:World) (hu:0<=u/\u<=65536) (hd:0<=d/\d<=65536) :
 Calls Tryz.prog 116 #[.agg #[.int .i64 n,.int .i64 u,.int .i64 d,.int .i64 m,.int .i64 p,.int .i64 l],.agg #[.int .i64 a,.int .i64 b]] w fun r w'=>r=.returned (.int .i64 (rf n u d a b))/\Below w.heap.size w w':=by
 have below:∀ o o',Below w.heap.size w ((w.alloc o).alloc o'):=fun o o'=>((aD _ _).alloc (aC _) _).alloc aO _;obtain ⟨t,ht⟩:∃ t,u+d=t:=⟨_,rfl⟩;have ht2:-9223372036854775808<=t/\t<=9223372036854775807:=af
 unfold rf;rw [ht]
 by_cases h1:0<n
 · by_cases h2:a=2
   · rw [if_pos ⟨h1,h2⟩];subst h2;go_enter Tryz.func116,Tryz.ntmps116;go_wp2;go_ret;exact ⟨rfl,below _ _⟩
   · have h2':(a==2)=false:=by rw [beq_eq_false_iff_ne];exact h2
     rw [if_neg (fun h=>h2 h.2)]
     by_cases h3:0<t
     · by_cases h4:b=2
       · rw [if_pos ⟨h3,h4⟩];subst h4;go_enter Tryz.func116,Tryz.ntmps116;go_wp2;go_ret;exact ⟨rfl,below _ _⟩
       · have h4':(b==2)=false:=by rw [beq_eq_false_iff_ne];exact h4
         rw [if_neg (fun h=>h4 h.2)];go_enter Tryz.func116,Tryz.ntmps116;go_wp2;go_ret;exact ⟨rfl,below _ _⟩
     · have h3':decide (0<t)=false:=decide_eq_false h3;rw [if_neg (fun h=>h3 h.1)];go_enter Tryz.func116,Tryz.ntmps116;go_wp2;go_ret;exact ⟨rfl,below _ _⟩
 · have h1':decide (0<n)=false:=decide_eq_false h1;rw [if_neg (fun h=>h1 h.1)]
   by_cases h3:0<t
   · by_cases h4:b=2
     · rw [if_pos ⟨h3,h4⟩];subst h4;go_enter Tryz.func116,Tryz.ntmps116;go_wp2;go_ret;exact ⟨rfl,below _ _⟩
     · have h4':(b==2)=false:=by rw [beq_eq_false_iff_ne];exact h4
       rw [if_neg (fun h=>h4 h.2)];go_enter Tryz.func116,Tryz.ntmps116;go_wp2;go_ret;exact ⟨rfl,below _ _⟩
   · have h3':decide (0<t)=false:=decide_eq_false h3;rw [if_neg (fun h=>h3 h.1)];go_enter Tryz.func116,Tryz.ntmps116;go_wp2;go_ret;exact ⟨rfl,below _ _⟩
open Go.RowKit
open Go.Proofs.YtfmfhehbdfhnbaaGreatDoor.B (cO aI bw aR)
attribute [local go_sem] cO aI
theorem kz.made (w:World) (n u d m p a:Int):kz (w.alloc (.cells #[.int .i64 n,.int .i64 u,.int .i64 d,.int .i64 m,.int .i64 p,.int .i64 a] 106)) w.heap.size n u d m p a:=ib w _
def R9 (w:World) (g:Nat) (xs:List Nat) (a:Int):Prop:=kz w g (cn 5 xs:Nat) (cn 3 xs:Nat) (cn 4 xs:Nat) (cn 1 xs:Nat) (cn 2 xs:Nat) a
theorem Uq (k:Nat) (xs:List Nat) (n:Nat) (h:xs.length<=n) (hn:n<=65536):0<=((cn k xs:Nat):Int)/\((cn k xs:Nat):Int)<=65536:=by have:=Yj k xs;omega
theorem But.Sa {a w:World}{g:Nat}(h:But g a w) (u0 u1 u2 u3 u4 u5:Value) :
 But g a ((((((w.setCell ⟨g,0,none⟩ u0).setCell ⟨g,1,none⟩ u1).setCell ⟨g,2,none⟩ u2).setCell ⟨g,3,none⟩ u3).setCell ⟨g,4,none⟩ u4).setCell ⟨g,5,none⟩ u5) :=
 ((((((h.set 0 u0).set 1 u1).set 2 u2).set 3 u3).set 4 u4).set 5 u5)
theorem cset {w:World}{b o:Nat}{u:Value}(h:w.cell? ⟨b,o,none⟩=some u) (v:Value):(w.setCell ⟨b,o,none⟩ v).cell? ⟨b,o,none⟩=some v:=by
 simp only [World.cell?] at h |-;simp only [World.setCell,lC]
 cases hb:w.heap[b]? with
 | none=>rw [hb] at h;simp at h
 | some ob =>
   rw [hb] at h
   cases ob <;> simp_all
   rename_i cs _ _
   by_cases hl:o<cs.size
   · simp [hl]
   · rw [Array.getElem?_eq_none af] at h;cases h
theorem Hr (w:World) (b o:Nat) (v:Value):(w.setCell ⟨b,o,none⟩ v).cell? ⟨b,o,none⟩=(w.cell? ⟨b,o,none⟩).map (fun _=>v):=by
 cases h:w.cell? ⟨b,o,none⟩ with
 | some u=>rw [cset h v];rfl
 | none =>
   simp only [World.cell?] at h |-;simp only [World.setCell,lC]
   cases hb:w.heap[b]? with
   | none=>simp
   | some ob =>
     rw [hb] at h
     cases ob <;> simp_all
open Go.RowKit
open Go.Proofs.YtfmfhehbdfhnbaaGreatDoor.B (cO aI bw aR)
attribute [local go_sem] cO aI
def fin (xs:List Nat):List Nat:=xs.filter (fun x=>decide (kd x<=2))
theorem xk (xs ys:List Nat):fin (xs++ys)=fin xs++fin ys:=by simp [fin,List.filter_append]
theorem OL (xs:List Nat):(fin xs).length<=xs.length:=List.length_filter_le _ _
theorem VT (xs:List Nat) (i:Nat) (h:i<xs.length) (hk:kd (xs.getD i 0)<=2):fin (xs.take (i+1))=fin (xs.take i)++[xs.getD i 0]:=by
 rw [qA xs i h,xk];simp [fin];simpa [eP] using hk
theorem Sb (xs:List Nat) (i:Nat) (h:i<xs.length) (hk:¬ kd (xs.getD i 0)<=2):fin (xs.take (i+1))=fin (xs.take i):=by
 rw [qA xs i h,xk];simp [fin];simpa [eP] using hk
def fG (a b:Int) (xs:List Nat):Int:=if may a b=false then 1 else if 65536<xs.length then 2 else rf (cn 5 xs:Nat) (cn 3 xs:Nat) (cn 4 xs:Nat) a b
def Ht (a b:Int) (xs:List Nat):List Nat:=if fG a b xs=0 then fin xs else []
def Hu (a b:Int) (xs:List Nat):Value:=if fG a b xs=0 then .agg #[.int .i64 (cn 5 xs:Nat),.int .i64 (cn 3 xs:Nat),.int .i64 (cn 4 xs:Nat),.int .i64 (cn 1 xs:Nat),.int .i64 (cn 2 xs:Nat),.int .i64 (xs.length:Nat)] else .agg #[.int .i64 0,.int .i64 0,.int .i64 0,.int .i64 0,.int .i64 0,.int .i64 0]
def iL (w:World) (a b:Int) (xs:List Nat) (r:Ending) (w':World):Prop:=∃ v,r=.returned (.tuple #[v,Hu a b xs,.int .i64 (fG a b xs)])/\Lt w.heap.size w' v (Ht a b xs)/\Below w.heap.size w w'
theorem iL.no {w w':World}{a b:Int}{xs:List Nat}(e:Int) (he:fG a b xs=e) (h0:e≠0) (hb:Below w.heap.size w w'):iL w a b xs (.returned (.tuple #[.slice none 0 0,.agg #[.int .i64 0,.int .i64 0,.int .i64 0,.int .i64 0,.int .i64 0,.int .i64 0],.int .i64 e])) w':=by
 subst he;refine ⟨.slice none 0 0,?_,?_,hb⟩
 · unfold Hu;rw [if_neg h0]
 · unfold Ht;rw [if_neg h0];exact Lt.nil _ _
theorem iL.yes {w w':World}{a b:Int}{xs:List Nat}{v:Value}(he:fG a b xs=0) (hv:Rw w.heap.size w' v (fin xs).length ((fin xs).map U)) (hb:Below w.heap.size w w') :
 iL w a b xs (.returned (.tuple #[v,.agg #[.int .i64 (cn 5 xs:Nat),.int .i64 (cn 3 xs:Nat),.int .i64 (cn 4 xs:Nat),.int .i64 (cn 1 xs:Nat),.int .i64 (cn 2 xs:Nat),.int .i64 (xs.length:Nat)],.int .i64 0])) w':=by
 refine ⟨v,?_,?_,hb⟩
 · rw [he];unfold Hu;rw [if_pos he]
 · unfold Ht;rw [if_pos he];exact hv
theorem Rw.below {lo:Nat}{w w':World}{v:Value}{n:Nat}{ys:List Value}(h:Rw lo w v n ys) (hb:Below w.heap.size w w'):Rw lo w' v n ys :=
 KE.row h (KE.below hb)
theorem Rw.but {lo g:Nat}{w w':World}{v:Value}{n:Nat}{ys:List Value}(h:Rw lo w v n ys) (hb:But g w w') {cur:Array Value}{e:TypeId}(he:e≠28) (hg:w.heap[g]?=some (.cells cur e (0,0))):Rw lo w' v n ys:=by
 refine sJ h fun k hk=>?_;rcases h.2 with ⟨rfl,_⟩|⟨g2,cap,c2,rfl,_,hg2,_⟩
 · cases hk
 · cases hk
   refine hb.block _ (gD.1 hg2).1 (fun e2=>?_);subst e2;rw [hg] at hg2
   cases hg2
   exact he rfl
theorem Rw.mono {lo lo':Nat}{w:World}{v:Value}{n:Nat}{ys:List Value}(h:Rw lo w v n ys) (hl:lo'<=lo):Rw lo' w v n ys:=by
 refine ⟨h.1,?_⟩;rcases h.2 with hn|⟨g,cap,cur,rfl,hlo,rest⟩
 · exact .inl hn
 · exact .inr ⟨g,cap,cur,rfl,af,rest⟩
theorem Rw.low {lo:Nat}{w:World}{v:Value}{n:Nat}{ys:List Value}(h:Rw lo w v n ys):∀ b,v.ownBlock=some b->lo<=b:=by
 intro b hb;rcases h.2 with ⟨rfl,_⟩|⟨g,cap,cur,rfl,hlo,_⟩
 · cases hb
 · cases hb;exact hlo
theorem KH (n:Nat) (hn:n<=65536) (w:World) :
 (Instr.makeSlice 35 (.int .i64 0) (.int .i64 (n:Nat))).run Tryz.prog w=.ok (.slice (some ⟨w.heap.size,0,none⟩) 0 n) (w.alloc (.cells (madeCells #[.float .f64 0] n) 28)):=by
 obtain ⟨i0,hi,hz0,hz1,hz2⟩:=info_parts Tryz.OI;have hr:=run_make (P:=Tryz.prog) w 35 28 i0 (.float .f64 0) Tryz.underlying35 hi hz0 .i64 .i64 0 (n:Int) (Int.le_refl _) af (by rw [hz2];omega) af;rw [hz1,fo] at hr;simp only [ma,Int.toNat_zero] at hr;exact hr
theorem OM (lo:Nat) (w:World) (n:Nat) (hn:n<=65536) (hlo:lo<=w.heap.size):Rw lo (w.alloc (.cells (madeCells #[.float .f64 0] n) 28)) (.slice (some ⟨w.heap.size,0,none⟩) 0 n) 0 []:=by
 refine ⟨rfl,.inr ⟨w.heap.size,n,madeCells #[.float .f64 0] n,rfl,hlo,ib w _,af,by unfold maxLen;omega,?_,?_⟩⟩
 · have:=congrArg List.length (toList_madeCells_one (.float .f64 0) n);simpa using this
 · simp
theorem push (lo:Nat) (w:World) (v:Value) (ys:List Nat) (x:Nat) (hrow:Rw lo w v ys.length (ys.map U)) (hn:ys.length<=65536) (hlo:lo<=w.heap.size) :
 ∃ v' w',(Builtin.append_ #[35,35] 35 #[v,.slice (some ⟨w.heap.size,0,none⟩) 1 1]).run Tryz.prog (w.alloc (.cells #[.float .f64 x] 28))=.ok v' w'/\Rw lo w' v' (ys++[x]).length ((ys++[x]).map U) /\
   Below lo w w'/\(∀ (g:Nat) (cur:Array Value) (e:TypeId),e≠28->w.heap[g]?=some (.cells cur e (0,0))->w'.heap[g]?=some (.cells cur e (0,0)))/\w.heap.size<=w'.heap.size:=by
 obtain ⟨v',w',h1,h2,h3,_,_⟩:=lI (w.alloc (.cells #[.float .f64 x] 28)) lo v ys.length (ys.map U) (.float .f64 x) w.heap.size 35 (hrow.alloc _) (by unfold World.cell?;simp only [ib];rfl) rfl af (by simp;omega);refine ⟨v',w',h1,by simpa [U] using h2,((aD lo w).alloc hlo _).grown h3 (by simp;omega) hrow.low,?_,by have:=h3.size;simp at this;omega⟩;intro g cur e he hg;have hgl:=(gD.1 hg).1;rw [h3.block g (by simp;omega) (fun e2=>?_),Below.heap_alloc _ _ _ hgl]
 · exact hg
 · rcases hrow.2 with ⟨rfl,_⟩ | ⟨g2,cap,c2,rfl,_,hg2,_⟩
   · cases e2
   · cases e2
     rw [hg] at hg2
     cases hg2
     exact he rfl
structure SI (lo sb:Nat) (W1:World) (xs:List Nat) (i:Nat) (a:Int) (v:Value) (wr:World):Prop where
 row:Rw lo wr v (fin (xs.take i)).length ((fin (xs.take i)).map U)
 sp:R9 wr sb (xs.take i) a
 aB:Below lo W1 wr
 size:W1.heap.size<=wr.heap.size
theorem SI.kind {lo sb:Nat}{W1:World}{xs:List Nat}{i:Nat}{a:Int}{v:Value}{wr w1:World}(h:SI lo sb W1 xs i a v wr) (hb:Below wr.heap.size wr w1) (hlo:lo<=wr.heap.size):SI lo sb W1 xs i a v w1 :=
 ⟨h.row.below hb,kz.below h.sp hb (kz.lt h.sp),h.aB.trans (hb.mono hlo),dP h.size hb.size⟩
theorem SI.o {lo sb:Nat}{W1:World}{xs:List Nat}{i:Nat}{a:Int}{v:Value}{wr w2:World}(h:SI lo sb W1 xs i a v wr) (hi:i<xs.length) (hs:R9 w2 sb (xs.take (i+1)) a) (hb:But sb wr w2) (hlo:lo<=sb) (hl:lo<=wr.heap.size) (hk:¬ kd (xs.getD i 0)<=2):SI lo sb W1 xs (i+1) a v w2 :=
 ⟨by rw [Sb xs i hi hk];exact h.row.but hb au h.sp,hs,But.below h.aB hb hl hlo,dP h.size hb.size⟩
theorem SI.row2 {lo sb:Nat}{W1:World}{xs:List Nat}{i:Nat}{a:Int}{v:Value}{wr w2:World}(h:SI lo sb W1 xs i a v wr) (hb:But sb wr w2):Rw lo w2 v (fin (xs.take i)).length ((fin (xs.take i)).map U):=h.row.but hb au h.sp
theorem kz.keep {w w':World}{g:Nat}{n u d m p a:Int}(h:kz w g n u d m p a) (hk:∀ (g:Nat) (cur:Array Value) (e:TypeId),e≠28->w.heap[g]?=some (.cells cur e (0,0))->w'.heap[g]?=some (.cells cur e (0,0))):kz w' g n u d m p a :=
 hk _ _ _ au h
theorem SI.into {lo sb:Nat}{W1:World}{xs:List Nat}{i:Nat}{a:Int}{v v':Value}{wr w2 w3:World}(h:SI lo sb W1 xs i a v wr) (hi:i<xs.length) (hs:R9 w2 sb (xs.take (i+1)) a) (hb:But sb wr w2) (hlo:lo<=sb) (hl:lo<=wr.heap.size) (hk:kd (xs.getD i 0)<=2)
 (hrow:Rw lo w3 v' (fin (xs.take i)++[xs.getD i 0]).length ((fin (xs.take i)++[xs.getD i 0]).map U)) (hb3:Below lo w2 w3) (hkeep:∀ (g:Nat) (cur:Array Value) (e:TypeId),e≠28->w2.heap[g]?=some (.cells cur e (0,0))->w3.heap[g]?=some (.cells cur e (0,0))) (hsz:w2.heap.size<=w3.heap.size):SI lo sb W1 xs (i+1) a v' w3 :=
 ⟨by rw [VT xs i hi hk];exact hrow,kz.keep hs hkeep,(But.below h.aB hb hl hlo).trans hb3,dP (dP h.size hb.size) hsz⟩
theorem VU (x:Nat) (n u d m p:Nat):(if kp (kd x)=0 then ((n:Nat):Int)+1 else n)=((n+one 5 x:Nat):Int)/\(if kp (kd x)=1 then ((u:Nat):Int)+1 else u)=((u+one 3 x:Nat):Int)/\(if kp (kd x)=2 then ((d:Nat):Int)+1 else d)=((d+one 4 x:Nat):Int) /\
 (if kp (kd x)=3 then ((m:Nat):Int)+1 else m)=((m+one 1 x:Nat):Int)/\(if kp (kd x)=4 then ((p:Nat):Int)+1 else p)=((p+one 2 x:Nat):Int):=by
 have hk:=OJ x;unfold one;generalize kd x=k at hk;obtain rfl|rfl|rfl|rfl|rfl|rfl:k=0\/k=1\/k=2\/k=3\/k=4\/k=5:=af
 all_goals simp [kp]
theorem Yk (x:Nat):3<=kp (kd x)↔kd x<=2:=by
 have hk:=OJ x;generalize kd x=k at hk;obtain rfl|rfl|rfl|rfl|rfl|rfl:k=0\/k=1\/k=2\/k=3\/k=4\/k=5:=af
 all_goals simp [kp]
theorem Yl (x:Nat):kp (kd x)<=5:=by unfold kp;(repeat' split) <;> omega
theorem R9.counted {w w':World}{sb:Nat}{xs:List Nat}{i:Nat}{a:Int}(hi:i<xs.length)
 (h:kz w' sb (if kp (kd (xs.getD i 0))=0 then ((cn 5 (xs.take i):Nat):Int)+1 else ((cn 5 (xs.take i):Nat):Int)) (if kp (kd (xs.getD i 0))=1 then ((cn 3 (xs.take i):Nat):Int)+1 else ((cn 3 (xs.take i):Nat):Int)) (if kp (kd (xs.getD i 0))=2 then ((cn 4 (xs.take i):Nat):Int)+1 else ((cn 4 (xs.take i):Nat):Int)) (if kp (kd (xs.getD i 0))=3 then ((cn 1 (xs.take i):Nat):Int)+1 else ((cn 1 (xs.take i):Nat):Int)) (if kp (kd (xs.getD i 0))=4 then ((cn 2 (xs.take i):Nat):Int)+1 else ((cn 2 (xs.take i):Nat):Int)) a) :
 R9 w' sb (xs.take (i+1)) a:=by
 obtain ⟨h1,h2,h3,h4,h5⟩:=VU (xs.getD i 0) (cn 5 (xs.take i)) (cn 3 (xs.take i)) (cn 4 (xs.take i)) (cn 1 (xs.take i)) (cn 2 (xs.take i));rw [h1,h2,h3,h4,h5] at h;unfold R9;rw [rH 5 xs i hi,rH 3 xs i hi,rH 4 xs i hi,rH 1 xs i hi,rH 2 xs i hi];exact h
end Ps
namespace Ps
open Go.RowKit
open Go.Proofs.YtfmfhehbdfhnbaaGreatDoor.B (cO aI bw aR)
attribute [local go_sem] cO aI
theorem OO (xs:List Nat) (ao:Option Addr) (n cap:Nat) (a b:Int) (w:World) (hm:may a b=false) :
 Calls Tryz.prog 79 #[.slice ao n cap,.agg #[.int .i64 a,.int .i64 b]] w (iL w a b xs):=by
 have H:=hid (vD a b);rw [hm] at H;have HE:Aside (fG a b xs=1):=by unfold fG;rw [hm];rfl
 clear hm;go_enter Tryz.func79,Tryz.ntmps79;go_wp2_with fail;refine (H.o _).mono ?_;rintro r w1 ⟨rfl,hb⟩;have hsz:=hb.size;simp at hsz;obtain ⟨hc,hf⟩:=aR hb;have HB:=ak hb;clear hb;go_wp2;refine aF (v:=.tuple #[.slice none 0 0,.agg #[.int .i64 0,.int .i64 0,.int .i64 0,.int .i64 0,.int .i64 0,.int .i64 0],.int .i64 1]) (by simp [results,Tryz.results79,go_sem,Hr,hc]) rfl (iL.no 1 HE.o au ?_);exact But.below ((((aD _ w).alloc (aC _) _).alloc aO _).trans (HB.o.mono (by simp;omega))) (But.Sa (But.refl (w.heap.size+1) _) _ _ _ _ _ _) af af
theorem KI (xs:List Nat) (ao:Option Addr) (n cap:Nat) (a b:Int) (w:World) (hn:n=xs.length) (hm:may a b=true) (hl:65536<n) (hn2:n<=35184372088832) :
 Calls Tryz.prog 79 #[.slice ao n cap,.agg #[.int .i64 a,.int .i64 b]] w (iL w a b xs):=by
 have H:=hid (vD a b);rw [hm] at H;have HE:Aside (fG a b xs=2):=by unfold fG;rw [if_neg (by rw [hm];decide),if_pos af,Aside]
 clear hm hn;go_enter Tryz.func79,Tryz.ntmps79;go_wp2_with fail;refine (H.o _).mono ?_;rintro r w1 ⟨rfl,hb⟩;have hsz:=hb.size;simp at hsz;obtain ⟨hc,hf⟩:=aR hb;have HB:=ak hb;clear hb;go_wp2;refine aF (v:=.tuple #[.slice none 0 0,.agg #[.int .i64 0,.int .i64 0,.int .i64 0,.int .i64 0,.int .i64 0,.int .i64 0],.int .i64 2]) (by simp [results,Tryz.results79,go_sem,Hr,hc]) rfl (iL.no 2 HE.o au ?_);exact But.below ((((aD _ w).alloc (aC _) _).alloc aO _).trans (HB.o.mono (by simp;omega))) (But.Sa (But.refl (w.heap.size+1) _) _ _ _ _ _ _) af af
set_option maxRecDepth 100000 in
theorem KJ (xs:List Nat) (ao:Option Addr) (n cap B:Nat) (a b:Int) (w:World) (hn:n=xs.length) (hm:may a b=true) (hl:n<=65536) (hx:Wf xs) (hR:Rd B w ao xs) (hB:B<=w.heap.size) :
 Calls Tryz.prog 79 #[.slice ao n cap,.agg #[.int .i64 a,.int .i64 b]] w (iL w a b xs):=by
 have H:=hid (vD a b);rw [hm] at H;have HE:Aside (fG a b xs=rf (cn 5 xs:Nat) (cn 3 xs:Nat) (cn 4 xs:Nat) a b):=by unfold fG;rw [if_neg (by rw [hm];decide),if_neg af,Aside]
 have hmk:=KH n hl;have HX:=(gK hn hx hR hB);clear hm hn hx hR hB;go_enter Tryz.func79,Tryz.ntmps79;go_wp2_with fail;refine (H.o _).mono ?_;rintro r w1 ⟨rfl,hb⟩;have hsz:=hb.size;simp at hsz;obtain ⟨hc,hf⟩:=aR hb;have HB:=ak hb
 have HZ:Aside (kz w1 (w.heap.size+1) 0 0 0 0 0 0):=by
  have h1:=kz.made (w.alloc (.cells #[.int .i64 a,.int .i64 b] 44)) 0 0 0 0 0 0;simp only [dL] at h1;exact h1.below hb aO
 clear hb;go_wp2
 go_loopg [7,28] n (fun gk lv cv wr=>∃ (i:Nat),gk+i=n/\cv=.int .i64 (i:Nat)/\Aside (SI w1.heap.size (w1.heap.size+1) w1 xs i (n:Nat) lv wr))
 case atStart =>
  refine ⟨0,af,rfl,?_⟩;have h1:=(OM w1.heap.size w1 n hl (aC _)).alloc (.cells #[.int .i64 0,.int .i64 0,.int .i64 0,.int .i64 0,.int .i64 0,.int .i64 (n:Nat)] 106);have h2:=kz.made (w1.alloc (.cells (madeCells #[.float .f64 0] n) 28)) 0 0 0 0 0 (n:Nat);simp only [dL] at h2;exact ⟨h1,h2,((aD _ _).alloc (aC _) _).alloc aO _,by simp;omega⟩
 case round =>
  obtain ⟨i,hi,rfl,HA⟩:=hrel
  by_cases hin:i=n
  · obtain rfl:gk=0:=af
    obtain ⟨hn,hx,hR,hB⟩:=HX.o;have hS:=HA.o;have e:xs.take i=xs:=ic af;have hT:=hS.sp;unfold R9 at hT;rw [e] at hT;have hc0:=hT.c0;have hc1:=hT.c1;have hc2:=hT.c2;have hc3:=hT.c3;have hc4:=hT.c4;have YT:=hT.c5;have hlt:=hT.lt;have hcb:∀ b o,b<w1.heap.size->wr.cell? ⟨b,o,none⟩=w1.cell? ⟨b,o,none⟩:=fun b o h=>hS.aB.cell (p:=⟨b,o,none⟩) h;have hp0:wr.cell? ⟨w.heap.size,0,none⟩=some (.int .i64 a):=by rw [hcb _ _ af,hc _ _ (by simp;omega)];simp [go_sem]
    have hp1:wr.cell? ⟨w.heap.size,1,none⟩=some (.int .i64 b):=by rw [hcb _ _ af,hc _ _ (by simp;omega)];simp [go_sem]
    have hZ:kz wr (w.heap.size+1) 0 0 0 0 0 0:=HZ.o.below hS.aB af;have hbd:=fun k=>Uq k xs n af hl;have HRF:=hid (fun w=>C8 (cn 5 xs:Nat) (cn 3 xs:Nat) (cn 4 xs:Nat) (cn 1 xs:Nat) (cn 2 xs:Nat) (n:Nat) a b w (hbd 3) (hbd 4));obtain ⟨ee,hee⟩:∃ ee,rf (cn 5 xs:Nat) (cn 3 xs:Nat) (cn 4 xs:Nat) a b=ee:=⟨_,rfl⟩;have HEE:Aside (fG a b xs=ee):=by rw [Aside,HE.o,hee]
    rw [hee] at HRF;obtain ⟨c5,e5⟩:∃ c,cn 5 xs=c:=⟨_,rfl⟩;obtain ⟨c3,e3⟩:∃ c,cn 3 xs=c:=⟨_,rfl⟩;obtain ⟨c4,e4⟩:∃ c,cn 4 xs=c:=⟨_,rfl⟩;obtain ⟨c1,e1⟩:∃ c,cn 1 xs=c:=⟨_,rfl⟩;obtain ⟨c2,e2⟩:∃ c,cn 2 xs=c:=⟨_,rfl⟩;rw [e5,e3,e4,e1,e2] at hT HRF;rw [e5] at hc0;rw [e3] at hc1;rw [e4] at hc2;rw [e1] at hc3;rw [e2] at hc4;have HY:=(rT hZ hT e e1 e2 e3 e4 e5);have hBs:=hS.size;clear hn hx hR hB hS hT e hcb hbd hee e1 e2 e3 e4 e5 hZ;subst hin;go_wp2_with fail;refine (HRF.o _).mono ?_;rintro r w5 ⟨rfl,hb5⟩;obtain ⟨hZ,hT,e,e1,e2,e3,e4,e5⟩:=HY.o;have Lc:=hZ.below hb5 hZ.lt;have Sc:=hT.below hb5 hT.lt;have Y9:=HA.o.row.below hb5;have hZf:=Lc.frozen;have hz0:=Lc.c0;have hz1:=Lc.c1;have hz2:=Lc.c2;have hz3:=Lc.c3;have Jk:=Lc.c4;have Jl:=Lc.c5;have ht0:=Sc.c0;have ht1:=Sc.c1;have ht2:=Sc.c2;have ht3:=Sc.c3;have ht4:=Sc.c4;have ht5:=Sc.c5;have hzl:=Lc.lt;have vY:Below w.heap.size w w5:=((((aD _ w).alloc (aC _) _).alloc aO _).trans (HB.o.mono (by simp;omega))).trans ((HA.o.aB.mono af).trans (hb5.mono af));have HV:=(y7 vY Y9 Lc Sc e e1 e2 e3 e4 e5);clear hZ hT e e1 e2 e3 e4 e5 hb5 Lc Sc Y9 vY hc0 hc1 hc2 hc3 hc4 YT hp0 hp1 HY
    by_cases h0:ee=0
    · subst h0;go_wp2
      go_region
      all_goals
       go_wp2;refine aF (v:=.tuple #[u7,.agg #[.int .i64 (c5:Nat),.int .i64 (c3:Nat),.int .i64 (c4:Nat),.int .i64 (c1:Nat),.int .i64 (c2:Nat),.int .i64 (i:Nat)],.int .i64 0]) (by simp [results,Tryz.results79,go_sem,Hr,hz0,hz1,hz2,hz3,Jk,Jl]) rfl ?_;obtain ⟨vY,Y9,Lc,Sc,e,e1,e2,e3,e4,e5⟩:=HV.o;have aH:But (w.heap.size+1) w5 _:=(But.Sa (But.refl (w.heap.size+1) w5) (.int .i64 (c5:Nat)) (.int .i64 (c3:Nat)) (.int .i64 (c4:Nat)) (.int .i64 (c1:Nat)) (.int .i64 (c2:Nat)) (.int .i64 (i:Nat))).drew;have hR6:=Rw.mono (Rw.but Y9 aH au Lc) (show w.heap.size<=w1.heap.size by omega);rw [e] at hR6;have Ym:=iL.yes HEE.o hR6 (But.below vY aH af af);rw [<-HX.o.1,e1,e2,e3,e4,e5] at Ym;exact Ym
    · have h0':(ee==0)=false:=by rw [beq_eq_false_iff_ne];exact h0
      go_wp2;refine aF (v:=.tuple #[.slice none 0 0,.agg #[.int .i64 0,.int .i64 0,.int .i64 0,.int .i64 0,.int .i64 0,.int .i64 0],.int .i64 ee]) (by simp [results,Tryz.results79,go_sem,Hr,hz0,hz1,hz2,hz3,Jk,Jl]) rfl (iL.no ee HEE.o h0 ?_);exact But.below HV.o.1 (But.Sa (But.refl (w.heap.size+1) _) _ _ _ _ _ _) af af
  · have hil:i<n:=af
    obtain ⟨hn,hx,hR,hB⟩:=HX.o;have hS:=HA.o;have hbw:Below w.heap.size w wr:=((((aD _ w).alloc (aC _) _).alloc aO _).trans (HB.o.mono (by simp;omega))).trans (hS.aB.mono af);have hRw:Rd w.heap.size wr ao xs:=(hR.mono hB).below hbw;obtain ⟨bb,off,hlt2,rfl,hcell⟩:=hRw (by intro e;rw [e] at hn;simp at hn;omega);have Va:=hcell i af;have YP:=hx.get i;obtain ⟨x,fZ⟩:∃ x,xs.getD i 0=x:=⟨_,rfl⟩;rw [fZ] at Va YP;have HK:=hid (OA x YP);have hk5:=Yl x;have hk3:=Yk x;obtain ⟨kk,hkk⟩:∃ kk,kp (kd x)=kk:=⟨_,rfl⟩;rw [hkk] at HK hk5 hk3;have l1:(xs.take i).length<=65536:=by rw [gz];omega
    have hbd:=fun k=>Uq k (xs.take i) 65536 l1 (aC _);have hwl:=hS.size;have HY:=(iI fZ hkk hk3 hbd hn hlt2);clear hn hx hR hB hS hbw hRw hcell fZ hkk hk3 hbd l1 hin;go_wp2_with fail;refine (HK.o _).mono ?_;rintro r w2 ⟨rfl,hb2⟩;have HS2:=ak (SI.kind HA.o hb2 hwl);have VV:w2.cell? ⟨bb,off+i,none⟩=some (.float .f64 x):=by rw [hb2.cell (p:=⟨bb,off+i,none⟩) (by have:=HY.o.r5;simp;omega)];exact Va
    have hsz2:=hb2.size;have HC:=hid (KG kk (w1.heap.size+1) _ _ _ _ _ _ w2 hk5 HS2.o.sp (HY.o.r3.1 5) (HY.o.r3.1 3) (HY.o.r3.1 4) (HY.o.r3.1 1) (HY.o.r3.1 2));clear hb2 Va;go_wp2_with fail;refine fP HC.o ?_;rintro r w3 ⟨rfl,hs3,xm⟩;obtain ⟨fZ,hkk,hk3,hbd,hn,hlt2⟩:=HY.o;have Sd:R9 w3 (w1.heap.size+1) (xs.take (i+1)) (n:Nat):=R9.counted (w:=w2) af (by rw [fZ,hkk];exact hs3);have hsz3:=xm.size
    have hxc3:w3.cell? ⟨bb,off+i,none⟩=some (.float .f64 x):=by
     have h9:=(But.below (aD w1.heap.size w2) xm af af).cell (p:=⟨bb,off+i,none⟩) (by simp;omega);rw [h9];exact VV
    by_cases hk2:kd x<=2
    · have hge:(3:Int)<=(kk:Int):=by have:=hk3.2 hk2;omega
      obtain ⟨v',w4,hap,hrow4,hb4,OP,Yn⟩:=push w1.heap.size w3 u7 (fin (xs.take i)) x (SI.row2 HS2.o xm) (by have h1:=OL (xs.take i);rw [gz] at h1;omega) af;have HI:=ak (SI.into (v':=v') HS2.o af Sd xm af af (by rw [fZ];exact hk2) (by rw [fZ];exact hrow4) hb4 OP Yn);have IV:=hid hap;clear hap hrow4 hb4 OP Yn hs3 Sd xm fZ hkk hk3 hbd hn hlt2 hk2 VV
      go_wp2_with (at_builtin;refine dC rfl (.tmp 40) (.tmp 45) 35 rfl _ _ rfl rfl _ _ IV.o ?_)
      go_roundg (n-(i+1))
      case measure=>omega
      case rel=>exact ⟨i+1,af,by first | go_num | (congr 1;omega),HI⟩
    · have hge:decide ((3:Int)<=(kk:Int))=false:=decide_eq_false (fun h=>hk2 (hk3.1 af));have HI:=ak (SI.o HS2.o af Sd xm af af (by rw [fZ];exact hk2));clear hs3 Sd xm fZ hkk hk3 hbd hn hlt2 hk2 VV;go_wp2;go_roundg (n-(i+1))
      case measure=>omega
      case rel=>exact ⟨i+1,af,by first | go_num | (congr 1;omega),HI⟩
theorem OQ (xs:List Nat) (ao:Option Addr) (n cap B:Nat) (a b:Int) (w:World) (hn:n=xs.length) (hm:n<=35184372088832) (hx:Wf xs) (hR:Rd B w ao xs) (hB:B<=w.heap.size) :
 Calls Tryz.prog 79 #[.slice ao n cap,.agg #[.int .i64 a,.int .i64 b]] w (iL w a b xs):=by
 rcases h:may a b with _|_
 · exact OO xs ao n cap a b w h
 · by_cases hl:65536<n
   · exact KI xs ao n cap a b w hn h hl hm
   · exact KJ xs ao n cap B a b w hn h af hx hR hB
end Ps
section
open Go.RowKit
theorem Nt.al' {lo:Nat}{w:World}{v:Value}{X:Nat}(h:Nt lo w v X) (hl:(ws X).length<=2000000):Al w v X:=by
 obtain ⟨a,c,rfl,hA⟩:=h.arg af;exact ⟨a,_,c,_,rfl,hA,aj _,hl⟩
theorem ow {w:World}{v u:Value}{X Y:Nat}(h1:Al w v X) (h2:Al w u Y):Calls Tryz.prog 63 #[v,u] w fun r w'=>∃ p,r=.returned p/\Nt w.heap.size w' p (X*Y)/\Below w.heap.size w w':=by
 obtain ⟨a,l,c,xs,rfl,hA,rfl,hl⟩:=h1;obtain ⟨b,k,d,ys,rfl,hB,rfl,hk⟩:=h2;exact kQ hA hB af rfl
theorem xn {w:World}{v u:Value}{X Y:Nat}{e f:Int}(h1:Al w v X) (h2:Al w u Y) (be:-9223372036854775808<=e/\e<=9223372036854775807) (bf:-9223372036854775808<=f/\f<=9223372036854775807) :
 Calls Tryz.prog 155 #[v,.int .i64 e,u,.int .i64 f] w fun r w'=>r=.returned (.int .i64 (Uc X e Y f))/\Below w.heap.size w w':=by
 obtain ⟨a,l,c,xs,rfl,hA,rfl,hl⟩:=h1;obtain ⟨b,k,d,ys,rfl,hB,rfl,hk⟩:=h2;exact Cs hA hB hl hk e f be.1 be.2 bf.1 bf.2
theorem C9 {w:World}{n m:Bool}{p a b:Option Addr}{lp cp la ca lb cb A X Y:Nat}{g e f:Int}(hA:Al w (.slice p lp cp) A) (hN:Al w (.slice a la ca) X) (hD:Al w (.slice b lb cb) Y) (he:-9223372036854775808<=e/\e<=9223372036854775807) (h g2:Int) (e2:IntKind.i64.wrap (g+f)=h) (hh:-9223372036854775808<=h/\h<=9223372036854775807) (P:Nat) (hP:A*Y=P) (hl:(ws P).length<=2000000) :
 Calls Tryz.prog 152 #[.slice p lp cp,.int .i64 g,.agg #[.bool n,.slice a la ca,.int .i64 e,.bool m,.slice b lb cb,.int .i64 f],.bool false] w fun r w'=>r=.returned (.int .i64 (Uc P h X e))/\Below w.heap.size w w':=by
 obtain ⟨W1,hW1⟩:=ah (w.alloc (.cells #[.bool n,.slice a la ca,.int .i64 e,.bool m,.slice b lb cb,.int .i64 f] 58));have hB:Below w.heap.size w W1:=by rw [hW1];exact ae _ _
 have Sg:Rq W1 w.heap.size n (.slice a la ca) e m (.slice b lb cb) f:=by rw [hW1];exact Rq.new _ _ _ _ _ _ _
 have S0:=(eu hB Sg (hA.below hB) (hN.below hB) (hD.below hB));have BD:=(gK he hh hl hP);clear hB Sg hA hN hD he hh hl hP;go_enter Tryz.func152,Tryz.ntmps152
 go_upto_region 1 with fail
 rw [<-hW1];clear hW1;obtain ⟨x0,x1,x2,x3,x4,x5⟩:=S0.o.2.1.facts
 go_upto_region 6 with fail
 have dr:Below W1.heap.size W1 W1.drew:=(aD _ _).drew;have T1:=hid (ow S0.o.r2.1 S0.o.r4);have T2:=hid (ow (S0.o.r2.1.below dr) (S0.o.r4.below dr));rw [BD.o.r3] at T1 T2;clear dr
 go_region_held3 (fun w'=>w'.cell? ⟨w.heap.size,0,none⟩=some (.bool n)/\w'.cell? ⟨w.heap.size,1,none⟩=some (.slice a la ca)/\w'.cell? ⟨w.heap.size,2,none⟩=some (.int .i64 e)/\w'.cell? ⟨w.heap.size,3,none⟩=some (.bool m)/\w'.cell? ⟨w.heap.size,4,none⟩=some (.slice b lb cb)/\w'.cell? ⟨w.heap.size,5,none⟩=some (.int .i64 f)) (go_keep) (first
  | (go_at_call 63
     first | with_reducible refine T1.o.mono ?_ | with_reducible refine T2.o.mono ?_
     rintro r v1 ⟨pv,rfl,hN,hb⟩;obtain ⟨q1,d1,rfl,-⟩:=hN.shape;have hb1:Below W1.heap.size W1 v1:=by first | exact hb | exact ((aD _ W1).drew).trans (hb.mono (aC _))
     obtain ⟨aB,QR,AX,AN,AD⟩:=S0.o;obtain ⟨m0,m1,m2,m3,m4,m5⟩:=(QR.below hb1).facts;have T3:=hid (xn (hN.al' BD.o.r2.1) (AN.below hb1) BD.o.2.1 BD.o.1);have S4:=(aJ (aB.trans (hb1.mono aB.size)) (QR.below hb1))
     clear hN hb hb1 aB QR AX AN AD)
  | (go_at_call 155
     with_reducible refine T3.o.mono ?_
     rintro r v2 ⟨rfl,hb⟩;obtain ⟨aB,QR⟩:=S4.o;obtain ⟨k0,k1,k2,k3,k4,k5⟩:=(QR.below hb).facts;have S5:=ak (aB.trans (hb.mono aB.size))
     clear hb aB QR))
 all_goals (
  go_wp2;go_ret
  exact ⟨rfl,S5.o⟩)
theorem Da {w:World}{n m:Bool}{p a b:Option Addr}{lp cp la ca lb cb A X Y:Nat}{g e f:Int}(hA:Al w (.slice p lp cp) A) (hN:Al w (.slice a la ca) X) (hD:Al w (.slice b lb cb) Y) (he:-9223372036854775808<=e/\e<=9223372036854775807) (h g2:Int) (e1:IntKind.i64.wrap (2*g)=g2) (e2:IntKind.i64.wrap (g2+f)=h) (hh:-9223372036854775808<=h/\h<=9223372036854775807) (P:Nat) (hP:(A*A)*Y=P) (hl:(ws P).length<=2000000) (hl2:(ws (A*A)).length<=2000000) :
 Calls Tryz.prog 152 #[.slice p lp cp,.int .i64 g,.agg #[.bool n,.slice a la ca,.int .i64 e,.bool m,.slice b lb cb,.int .i64 f],.bool true] w fun r w'=>r=.returned (.int .i64 (Uc P h X e))/\Below w.heap.size w w':=by
 obtain ⟨W1,hW1⟩:=ah (w.alloc (.cells #[.bool n,.slice a la ca,.int .i64 e,.bool m,.slice b lb cb,.int .i64 f] 58));have hB:Below w.heap.size w W1:=by rw [hW1];exact ae _ _
 have Sg:Rq W1 w.heap.size n (.slice a la ca) e m (.slice b lb cb) f:=by rw [hW1];exact Rq.new _ _ _ _ _ _ _
 have S0:=(eu hB Sg (hA.below hB) (hN.below hB) (hD.below hB));have BD:=(gK he hh hl hP);clear hB Sg hA hN hD he hh hl hP;go_enter Tryz.func152,Tryz.ntmps152
 go_upto_region 1 with fail
 rw [<-hW1];clear hW1;have HC:=hid (ow S0.o.r2.1 S0.o.r2.1);have HL2:=ak hl2;clear hl2;go_wp2_with fail;refine HC.o.mono ?_;rintro r U ⟨v,rfl,hN,hb⟩;obtain ⟨q2,d2,rfl,-⟩:=hN.shape;have S1:=(eu (S0.o.1.trans (hb.mono S0.o.1.size)) (S0.o.2.1.below hb) (hN.al' HL2.o) (S0.o.r3.1.below hb) (S0.o.r4.below hb));clear HC hN hb S0 HL2;obtain ⟨x0,x1,x2,x3,x4,x5⟩:=S1.o.2.1.facts
 go_upto_region 6 with fail
 have dr:Below U.heap.size U U.drew:=(aD _ _).drew;have T1:=hid (ow S1.o.r2.1 S1.o.r4);have T2:=hid (ow (S1.o.r2.1.below dr) (S1.o.r4.below dr));rw [BD.o.r3] at T1 T2;clear dr
 go_region_held3 (fun w'=>w'.cell? ⟨w.heap.size,0,none⟩=some (.bool n)/\w'.cell? ⟨w.heap.size,1,none⟩=some (.slice a la ca)/\w'.cell? ⟨w.heap.size,2,none⟩=some (.int .i64 e)/\w'.cell? ⟨w.heap.size,3,none⟩=some (.bool m)/\w'.cell? ⟨w.heap.size,4,none⟩=some (.slice b lb cb)/\w'.cell? ⟨w.heap.size,5,none⟩=some (.int .i64 f)) (go_keep) (first
  | (go_at_call 63
     first | with_reducible refine T1.o.mono ?_ | with_reducible refine T2.o.mono ?_
     rintro r v1 ⟨pv,rfl,hN,hb⟩;obtain ⟨q1,d1,rfl,-⟩:=hN.shape;have hb1:Below U.heap.size U v1:=by first | exact hb | exact ((aD _ U).drew).trans (hb.mono (aC _))
     obtain ⟨aB,QR,AX,AN,AD⟩:=S1.o;obtain ⟨m0,m1,m2,m3,m4,m5⟩:=(QR.below hb1).facts;have T3:=hid (xn (hN.al' BD.o.r2.1) (AN.below hb1) BD.o.2.1 BD.o.1);have S4:=(aJ (aB.trans (hb1.mono aB.size)) (QR.below hb1))
     clear hN hb hb1 aB QR AX AN AD)
  | (go_at_call 155
     with_reducible refine T3.o.mono ?_
     rintro r v2 ⟨rfl,hb⟩;obtain ⟨aB,QR⟩:=S4.o;obtain ⟨k0,k1,k2,k3,k4,k5⟩:=(QR.below hb).facts;have S5:=ak (aB.trans (hb.mono aB.size))
     clear hb aB QR))
 all_goals (
  go_wp2;go_ret
  exact ⟨rfl,S5.o⟩)
end
end Go.Proofs.YtfmfhehbdfhnbaaGreatDoor
