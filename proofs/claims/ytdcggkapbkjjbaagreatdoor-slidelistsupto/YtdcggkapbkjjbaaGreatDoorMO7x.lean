import Derived.Test.YtdcggkapbkjjbaaGreatDoorF9x
import Derived.Test.YtdcggkapbkjjbaaGreatDoorD30x
import Derived.Deep.Cut
import Derived.Deep.RegionHeld3
import Derived.Test.YtdcggkapbkjjbaaGreatDoorM1x
import Derived.Test.YtdcggkapbkjjbaaGreatDoorP2x
import Derived.OwnWalk
import Derived.ArgAppend
import Derived.Maps.AppendAt
import Derived.WalkMore
import Derived.Test.YtdcggkapbkjjbaaGreatDoorF4x
import Derived.Test.YtdcggkapbkjjbaaGreatDoorZ9x
import Derived.Test.YtdcggkapbkjjbaaGreatDoorBIeeex
import Derived.BigQuiet
import Derived.Test.YtdcggkapbkjjbaaGreatDoorD14x
import Derived.Test.YtdcggkapbkjjbaaGreatDoorD21x
import Derived.Deep.RegionWith
import Derived.Deep.CutRange
set_option linter.unusedVariables false
set_option linter.unusedSimpArgs false
set_option maxHeartbeats 16000000
set_option maxRecDepth 20000
namespace Go.Proofs.YtdcggkapbkjjbaaGreatDoor
namespace J
end J
section
open Go Go.RowKit J
def difO (o1 o2:Option (Bool×Nat×Int)):Option (Bool×Nat×Int):=if o1.isSome&&o2.isSome then addD o1 (mkS (!dN o2) (dX o2) (dE o2)) else none
def DA14 (w:World) (r:Ending) (o:Option (Bool×Nat×Int)) (e:Int):Prop:=∃ v,r=.returned (.tuple #[.agg #[.bool (dN o),v,.int .i64 (dE o)],.int .i64 e])∧Nt 0 w v (dX o)
theorem DAns.da14 {lo:Nat}{w:World}{r:Ending}{o:Option (Bool×Nat×Int)}(h:DAns lo w r o):DA14 w r o (erS o):=by
 obtain ⟨v,rfl,hN⟩:=h;exact ⟨v,rfl,hN.mono (Nat.zero_le _)⟩
theorem Nt.shp14 {w:World}{v:Value}{X:Nat}(h:Nt 0 w v X):∃ a c,v=.slice a (ws X).length c∧Nt 0 w (.slice a (ws X).length c) X:=by
 obtain ⟨a,c,rfl,-⟩:=h.shape;exact ⟨a,c,rfl,h⟩
theorem DA14.shp14 {w:World}{r:Ending}{o:Option (Bool×Nat×Int)}{e:Int}(h:DA14 w r o e):∃ a c,r=.returned (.tuple #[.agg #[.bool (dN o),.slice a (ws (dX o)).length c,.int .i64 (dE o)],.int .i64 e])∧Nt 0 w (.slice a (ws (dX o)).length c) (dX o):=by
 obtain ⟨v,rfl,hN⟩:=h;obtain ⟨a,c,rfl,hN⟩:=hN.shp14;exact ⟨a,c,rfl,hN⟩
theorem DVal.shp14 {lo:Nat}{w:World}{r:Ending}{o:Option (Bool×Nat×Int)}(h:DVal lo w r o):∃ a c,r=.returned (.agg #[.bool (dN o),.slice a (ws (dX o)).length c,.int .i64 (dE o)])∧Nt 0 w (.slice a (ws (dX o)).length c) (dX o):=by
 obtain ⟨v,rfl,hN⟩:=h.mono14;obtain ⟨a,c,rfl,hN⟩:=hN.shp14;exact ⟨a,c,rfl,hN⟩
theorem addW14 (W:World):Below W.heap.size W (W.alloc (Obj.cells #[.bool false,.slice none 0 0,.int .i64 0] 81)).drew:=(below_alloc W (Obj.cells #[.bool false,.slice none 0 0,.int .i64 0] 81)).trans (((Below.refl (W.alloc (Obj.cells #[.bool false,.slice none 0 0,.int .i64 0] 81)).heap.size (W.alloc (Obj.cells #[.bool false,.slice none 0 0,.int .i64 0] 81))).drew).mono (by simp))
theorem zerW14 (W:World):Lo (W.alloc (Obj.cells #[.bool false,.slice none 0 0,.int .i64 0] 81)).drew W.heap.size o00:=(Lo.zero W).below (Below.refl _ _).drew
theorem erS_some {o:Option (Bool×Nat×Int)}(h:o.isSome=true):erS o=0:=by unfold erS;rw [h];rfl
theorem erS_none {o:Option (Bool×Nat×Int)}(h:o.isSome=false):erS o=2:=by unfold erS;rw [h];rfl
structure Bx14 (w u:World) (np ns nt:Bool) (ap az at':Option Addr) (lp cp ls cs lt ct:Nat) (ep es et:Int):Prop where
 p:Dk u w.heap.size np (.slice ap lp cp) ep
 s:Dk u (w.heap.size+1) ns (.slice az ls cs) es
 t:Dk u (w.heap.size+2) nt (.slice at' lt ct) et
 z:Lo u (w.heap.size+3) o00
 b:Below w.heap.size w u
theorem Bx14.below {w u v:World}{np ns nt:Bool}{ap az at':Option Addr}{lp cp ls cs lt ct:Nat}{ep es et:Int}(h:Bx14 w u np ns nt ap az at' lp cp ls cs lt ct ep es et) (hb:Below u.heap.size u v):Bx14 w v np ns nt ap az at' lp cp ls cs lt ct ep es et :=
 ⟨h.p.below hb,h.s.below hb,h.t.below hb,h.z.below hb,h.b.trans (hb.mono h.b.size)⟩
theorem Bx14.other {w u:World}{np ns nt:Bool}{ap az at':Option Addr}{lp cp ls cs lt ct g:Nat}{ep es et:Int}{q:Option (Bool×Nat×Int)}(h:Bx14 w u np ns nt ap az at' lp cp ls cs lt ct ep es et) (hL:Lo u g q) (hg:w.heap.size+3<g) (x y z:Value):Bx14 w (st3 u g x y z) np ns nt ap az at' lp cp ls cs lt ct ep es et :=
 ⟨h.p.other g (by omega) _ _ _,h.s.other g (by omega) _ _ _,h.t.other g (by omega) _ _ _,h.z.other hL (by omega) _ _ _,st3_bel12 h.b h.b.size (by omega) _ _ _⟩
theorem dif_no1 (w:World) (n:Int) (np ns nt:Bool) (ap az at':Option Addr) (lp cp ls cs lt ct:Nat) (ep es et:Int) (oI o1 o2:Option (Bool×Nat×Int)) (e1 e2:Int)
 (HI:Hid (∀ u:World,Below w.heap.size w u→Calls Tryz.prog 76 #[.int .i64 n] u fun r w'=>DVal 0 w' r oI∧Below u.heap.size u w'))
 (HM1:Hid (∀ (u:World) (a:Option Addr) (c:Nat),Below w.heap.size w u→Nt 0 u (.slice a (ws (dX oI)).length c) (dX oI)→Calls Tryz.prog 114 #[.agg #[.bool (dN oI),.slice a (ws (dX oI)).length c,.int .i64 (dE oI)],.agg #[.bool np,.slice ap lp cp,.int .i64 ep]] u fun r w'=>DA14 w' r o1 e1∧Below u.heap.size u w')) (x1:(e1==0)=false) :
 Calls Tryz.prog 79 #[.int .i64 n,.agg #[.bool np,.slice ap lp cp,.int .i64 ep],.agg #[.bool ns,.slice az ls cs,.int .i64 es],.agg #[.bool nt,.slice at' lt ct,.int .i64 et]] w fun r w'=>DA14 w' r (none:Option (Bool×Nat×Int)) e1∧Below w.heap.size w w':=by
 obtain ⟨W,hW⟩:∃ W,W=(((w.alloc (Obj.cells #[.bool np,.slice ap lp cp,.int .i64 ep] 81)).alloc (Obj.cells #[.bool ns,.slice az ls cs,.int .i64 es] 81)).alloc (Obj.cells #[.bool nt,.slice at' lt ct,.int .i64 et] 81)).alloc (Obj.cells #[.bool false,.slice none 0 0,.int .i64 0] 81):=⟨_,rfl⟩
 have H0:Aside (Bx14 w W np ns nt ap az at' lp cp ls cs lt ct ep es et):=by
  subst hW;have z1:=Dk.new (w.alloc (Obj.cells #[.bool np,.slice ap lp cp,.int .i64 ep] 81)) ns (.slice az ls cs) es;have z2:=Dk.new ((w.alloc (Obj.cells #[.bool np,.slice ap lp cp,.int .i64 ep] 81)).alloc (Obj.cells #[.bool ns,.slice az ls cs,.int .i64 es] 81)) nt (.slice at' lt ct) et;have z3:=Lo.zero (((w.alloc (Obj.cells #[.bool np,.slice ap lp cp,.int .i64 ep] 81)).alloc (Obj.cells #[.bool ns,.slice az ls cs,.int .i64 es] 81)).alloc (Obj.cells #[.bool nt,.slice at' lt ct,.int .i64 et] 81));rw [World.size_alloc] at z1;rw [World.size_alloc,World.size_alloc] at z2;rw [World.size_alloc,World.size_alloc,World.size_alloc] at z3;exact ⟨(((Dk.new _ _ _ _).below (below_alloc _ _)).below (below_alloc _ _)).below (below_alloc _ _),(z1.below (below_alloc _ _)).below (below_alloc _ _),z2.below (below_alloc _ _),z3,(((below_alloc _ _).trans ((below_alloc _ _).mono (by simp))).trans ((below_alloc _ _).mono (by simp;omega))).trans ((below_alloc _ _).mono (by simp;omega))⟩
 have HW:=qsd hW;clear hW;go_enter Tryz.func79,Tryz.ntmps79
 go_upto_region 1 with fail
 rw [←HW.out];clear HW
 go_cut [10,11] from 13 to 19 (fun q e wx=>∃ gq:Nat,q=.pointer (some ⟨gq,0,none⟩)∧e=.int .i64 e1∧Aside (Lo wx gq o1∧Bx14 w wx np ns nt ap az at' lp cp ls cs lt ct ep es et∧w.heap.size+3<gq))
 case first =>
  have hdr:=(Below.refl W.heap.size W).drew;have BB:=qsd (H0.out.below hdr);have BZ:=qsd (ai (H0.out.below (addW14 W)) (zerW14 W));have k0:=BB.out.p.facts;have kS:=qsd (ai k0.1 (ai k0.2.1 k0.2.2.1));have h3l:=H0.out.z.lt;clear hdr k0
  go_region_held3 (fun w'=>w'.cell? ⟨w.heap.size,0,none⟩=some (.bool np)∧w'.cell? ⟨w.heap.size,1,none⟩=some (.slice ap lp cp)∧w'.cell? ⟨w.heap.size,2,none⟩=some (.int .i64 ep)) (first | with_reducible exact kS.out | with_reducible exact ⟨BZ.out.1.p.facts.1,BZ.out.1.p.facts.2.1,BZ.out.1.p.facts.2.2.1⟩ | with_reducible exact ⟨kZ.out.facts.1,kZ.out.facts.2.1,kZ.out.facts.2.2.1⟩ | with_reducible exact kT.out | with_reducible exact ⟨kM.out.facts.1,kM.out.facts.2.1,kM.out.facts.2.2.1⟩ | with_reducible exact ⟨kN.out.facts.1,kN.out.facts.2.1,kN.out.facts.2.2.1⟩) (first
   | (go_at_call 76
      with_reducible refine (HI.out _ BB.out.b).mono ?_
      rintro r u1 ⟨hd,hb⟩;obtain ⟨a3,c3,rfl,hN3⟩:=hd.shp14;have BC:=qsd (ai (BB.out.below hb) hN3);have kS:=qsd (ai BC.out.1.p.facts.1 (ai BC.out.1.p.facts.2.1 BC.out.1.p.facts.2.2.1));have kZ:=qsd (BC.out.1.p.below (below_alloc u1 (Obj.cells #[.bool false,.slice none 0 0,.int .i64 0] 81)));have h4l:=BC.out.1.z.lt;clear hb hd hN3)
   | (go_at_call 76
      with_reducible refine (HI.out _ BZ.out.1.b).mono ?_
      rintro r u1 ⟨hd,hb⟩;obtain ⟨a3,c3,rfl,hN3⟩:=hd.shp14;have BC:=qsd (ai (BZ.out.1.below hb) hN3);have ZB:=qsd (BZ.out.2.below hb);have kS:=qsd (ai BC.out.1.p.facts.1 (ai BC.out.1.p.facts.2.1 BC.out.1.p.facts.2.2.1));clear hb hd hN3)
   | (go_at_call 114
      with_reducible refine (HM1.out _ a3 c3 BC.out.1.b BC.out.2).mono ?_
      rintro r u2 ⟨hd,hb⟩;obtain ⟨a4,c4,rfl,hN4⟩:=hd.shp14;have BE:=qsd (ai (BC.out.1.below hb) hN4);have kS:=qsd (ai BE.out.1.p.facts.1 (ai BE.out.1.p.facts.2.1 BE.out.1.p.facts.2.2.1));have kZ:=qsd (BE.out.1.p.below (below_alloc u2 (Obj.cells #[.bool false,.slice none 0 0,.int .i64 0] 81)));have kM:=qsd (BE.out.1.p.below (below_alloc u2 (Obj.cells #[.bool (dN o1),.slice a4 (ws (dX o1)).length c4,.int .i64 (dE o1)] 81)));have kN:=qsd ((BE.out.1.p.below (below_alloc u2 (Obj.cells #[.bool false,.slice none 0 0,.int .i64 0] 81))).other u2.heap.size (by have:=BE.out.1.z.lt;omega) (.bool (dN o1)) (.slice a4 (ws (dX o1)).length c4) (.int .i64 (dE o1)))
      try have ZB:=qsd (ZB.out.below hb)
      try have kT:=qsd (show _ from (ai (BE.out.1.p.other _ (show w.heap.size≠W.heap.size by omega) (.bool (dN o1)) (.slice a4 (ws (dX o1)).length c4) (.int .i64 (dE o1))).facts.1 (ai (BE.out.1.p.other _ (show w.heap.size≠W.heap.size by omega) (.bool (dN o1)) (.slice a4 (ws (dX o1)).length c4) (.int .i64 (dE o1))).facts.2.1 (BE.out.1.p.other _ (show w.heap.size≠W.heap.size by omega) (.bool (dN o1)) (.slice a4 (ws (dX o1)).length c4) (.int .i64 (dE o1))).facts.2.2.1)))
      try (obtain ⟨zp,zq,DZ,MZ⟩:=ZB.out;obtain ⟨z0,z1,z2,zf0,zf1,zf2⟩:=DZ.facts;clear DZ MZ)
      clear hb hd hN4)
   | (go_at_call 114
      with_reducible refine (HM1.out _ a3 c3 (BC.out.1.below (below_alloc u1 (Obj.cells #[.bool false,.slice none 0 0,.int .i64 0] 81))).b (BC.out.2.below (below_alloc u1 (Obj.cells #[.bool false,.slice none 0 0,.int .i64 0] 81)))).mono ?_
      rintro r u2 ⟨hd,hb⟩;obtain ⟨a4,c4,rfl,hN4⟩:=hd.shp14;have BE:=qsd (ai ((BC.out.1.below (below_alloc u1 (Obj.cells #[.bool false,.slice none 0 0,.int .i64 0] 81))).below hb) hN4);have ZC:=qsd ((Lo.zero u1).below hb);have kS:=qsd (ai BE.out.1.p.facts.1 (ai BE.out.1.p.facts.2.1 BE.out.1.p.facts.2.2.1));have kT:=qsd (ai (BE.out.1.p.other _ (show w.heap.size≠u1.heap.size by omega) (.bool (dN o1)) (.slice a4 (ws (dX o1)).length c4) (.int .i64 (dE o1))).facts.1 (ai (BE.out.1.p.other _ (show w.heap.size≠u1.heap.size by omega) (.bool (dN o1)) (.slice a4 (ws (dX o1)).length c4) (.int .i64 (dE o1))).facts.2.1 (BE.out.1.p.other _ (show w.heap.size≠u1.heap.size by omega) (.bool (dN o1)) (.slice a4 (ws (dX o1)).length c4) (.int .i64 (dE o1))).facts.2.2.1))
      obtain ⟨zp,zq,DZ,MZ⟩:=ZC.out;obtain ⟨z0,z1,z2,zf0,zf1,zf2⟩:=DZ.facts;clear hb hd hN4 DZ MZ))
  all_goals
   go_wp2_with fail
   go_meet
   case rel =>
    first
     | exact ⟨u2.heap.size,rfl,rfl,Lo.new BE.out.2,BE.out.1.below (below_alloc _ _),BE.out.1.z.lt⟩
     | exact ⟨u2.heap.size,rfl,rfl,(Lo.zero u2).set (BE.out.2.below (below_alloc _ _)),(BE.out.1.below (below_alloc _ _)).other (Lo.zero u2) BE.out.1.z.lt _ _ _,BE.out.1.z.lt⟩
     | exact ⟨W.heap.size,rfl,rfl,ZB.out.set BE.out.2,BE.out.1.other ZB.out h3l _ _ _,h3l⟩
     | exact ⟨u1.heap.size,rfl,rfl,ZC.out.set BE.out.2,BE.out.1.other ZC.out h4l _ _ _,h4l⟩
 obtain ⟨gq,rfl,rfl,K1⟩:=hcut;obtain ⟨U,hU⟩:∃ U,U=wc:=⟨_,rfl⟩;rw [←hU] at K1 ⊢;clear hU H0;obtain ⟨p4,q4,D4,M4⟩:=K1.out.2.1.z;obtain ⟨y0,y1,y2,yf0,yf1,yf2⟩:=D4.facts;have HE:=qsd (ai (D4.set false (.slice none 0 0) 0) (st3_bel12 K1.out.2.1.b K1.out.2.1.b.size (show w.heap.size≤w.heap.size+3 by omega) (.bool false) (.slice none 0 0) (.int .i64 0)))
 unfold st3 at HE;clear D4 M4;go_wp2;obtain ⟨f0,f1,f2,_,_,_⟩:=HE.out.1.facts;exact bodyPost_ret (v:=.tuple #[.agg #[.bool false,.slice none 0 0,.int .i64 0],.int .i64 e1]) (by simp [results,Tryz.results79,go_sem,f0,f1,f2]) rfl ⟨⟨_,rfl,Nt.nil _ _⟩,HE.out.2⟩
end
section
open Go Go.RowKit J
theorem dif_no2 (w:World) (n:Int) (np ns nt:Bool) (ap az at':Option Addr) (lp cp ls cs lt ct:Nat) (ep es et:Int) (oI o1 o2:Option (Bool×Nat×Int)) (e1 e2:Int)
 (HI:Hid (∀ u:World,Below w.heap.size w u→Calls Tryz.prog 76 #[.int .i64 n] u fun r w'=>DVal 0 w' r oI∧Below u.heap.size u w'))
 (HM1:Hid (∀ (u:World) (a:Option Addr) (c:Nat),Below w.heap.size w u→Nt 0 u (.slice a (ws (dX oI)).length c) (dX oI)→Calls Tryz.prog 114 #[.agg #[.bool (dN oI),.slice a (ws (dX oI)).length c,.int .i64 (dE oI)],.agg #[.bool np,.slice ap lp cp,.int .i64 ep]] u fun r w'=>DA14 w' r o1 e1∧Below u.heap.size u w'))
 (HM2:Hid (∀ u:World,Below w.heap.size w u→Calls Tryz.prog 114 #[.agg #[.bool ns,.slice az ls cs,.int .i64 es],.agg #[.bool nt,.slice at' lt ct,.int .i64 et]] u fun r w'=>DA14 w' r o2 e2∧Below u.heap.size u w')) (x1:e1=0) (x2:(e2==0)=false) :
 Calls Tryz.prog 79 #[.int .i64 n,.agg #[.bool np,.slice ap lp cp,.int .i64 ep],.agg #[.bool ns,.slice az ls cs,.int .i64 es],.agg #[.bool nt,.slice at' lt ct,.int .i64 et]] w fun r w'=>DA14 w' r (none:Option (Bool×Nat×Int)) e2∧Below w.heap.size w w':=by
 obtain ⟨W,hW⟩:∃ W,W=(((w.alloc (Obj.cells #[.bool np,.slice ap lp cp,.int .i64 ep] 81)).alloc (Obj.cells #[.bool ns,.slice az ls cs,.int .i64 es] 81)).alloc (Obj.cells #[.bool nt,.slice at' lt ct,.int .i64 et] 81)).alloc (Obj.cells #[.bool false,.slice none 0 0,.int .i64 0] 81):=⟨_,rfl⟩
 have H0:Aside (Bx14 w W np ns nt ap az at' lp cp ls cs lt ct ep es et):=by
  subst hW;have z1:=Dk.new (w.alloc (Obj.cells #[.bool np,.slice ap lp cp,.int .i64 ep] 81)) ns (.slice az ls cs) es;have z2:=Dk.new ((w.alloc (Obj.cells #[.bool np,.slice ap lp cp,.int .i64 ep] 81)).alloc (Obj.cells #[.bool ns,.slice az ls cs,.int .i64 es] 81)) nt (.slice at' lt ct) et;have z3:=Lo.zero (((w.alloc (Obj.cells #[.bool np,.slice ap lp cp,.int .i64 ep] 81)).alloc (Obj.cells #[.bool ns,.slice az ls cs,.int .i64 es] 81)).alloc (Obj.cells #[.bool nt,.slice at' lt ct,.int .i64 et] 81));rw [World.size_alloc] at z1;rw [World.size_alloc,World.size_alloc] at z2;rw [World.size_alloc,World.size_alloc,World.size_alloc] at z3;exact ⟨(((Dk.new _ _ _ _).below (below_alloc _ _)).below (below_alloc _ _)).below (below_alloc _ _),(z1.below (below_alloc _ _)).below (below_alloc _ _),z2.below (below_alloc _ _),z3,(((below_alloc _ _).trans ((below_alloc _ _).mono (by simp))).trans ((below_alloc _ _).mono (by simp;omega))).trans ((below_alloc _ _).mono (by simp;omega))⟩
 have HW:=qsd hW;clear hW;subst x1;go_enter Tryz.func79,Tryz.ntmps79
 go_upto_region 1 with fail
 rw [←HW.out];clear HW
 go_cut [10,11] from 13 to 19 (fun q e wx=>∃ gq:Nat,q=.pointer (some ⟨gq,0,none⟩)∧e=.int .i64 0∧Aside (Lo wx gq o1∧Bx14 w wx np ns nt ap az at' lp cp ls cs lt ct ep es et∧w.heap.size+3<gq))
 case first =>
  have hdr:=(Below.refl W.heap.size W).drew;have BB:=qsd (H0.out.below hdr);have BZ:=qsd (ai (H0.out.below (addW14 W)) (zerW14 W));have k0:=BB.out.p.facts;have kS:=qsd (ai k0.1 (ai k0.2.1 k0.2.2.1));have h3l:=H0.out.z.lt;clear hdr k0
  go_region_held3 (fun w'=>w'.cell? ⟨w.heap.size,0,none⟩=some (.bool np)∧w'.cell? ⟨w.heap.size,1,none⟩=some (.slice ap lp cp)∧w'.cell? ⟨w.heap.size,2,none⟩=some (.int .i64 ep)) (first | with_reducible exact kS.out | with_reducible exact ⟨BZ.out.1.p.facts.1,BZ.out.1.p.facts.2.1,BZ.out.1.p.facts.2.2.1⟩ | with_reducible exact ⟨kZ.out.facts.1,kZ.out.facts.2.1,kZ.out.facts.2.2.1⟩ | with_reducible exact kT.out | with_reducible exact ⟨kM.out.facts.1,kM.out.facts.2.1,kM.out.facts.2.2.1⟩ | with_reducible exact ⟨kN.out.facts.1,kN.out.facts.2.1,kN.out.facts.2.2.1⟩) (first
   | (go_at_call 76
      with_reducible refine (HI.out _ BB.out.b).mono ?_
      rintro r u1 ⟨hd,hb⟩;obtain ⟨a3,c3,rfl,hN3⟩:=hd.shp14;have BC:=qsd (ai (BB.out.below hb) hN3);have kS:=qsd (ai BC.out.1.p.facts.1 (ai BC.out.1.p.facts.2.1 BC.out.1.p.facts.2.2.1));have kZ:=qsd (BC.out.1.p.below (below_alloc u1 (Obj.cells #[.bool false,.slice none 0 0,.int .i64 0] 81)));have h4l:=BC.out.1.z.lt;clear hb hd hN3)
   | (go_at_call 76
      with_reducible refine (HI.out _ BZ.out.1.b).mono ?_
      rintro r u1 ⟨hd,hb⟩;obtain ⟨a3,c3,rfl,hN3⟩:=hd.shp14;have BC:=qsd (ai (BZ.out.1.below hb) hN3);have ZB:=qsd (BZ.out.2.below hb);have kS:=qsd (ai BC.out.1.p.facts.1 (ai BC.out.1.p.facts.2.1 BC.out.1.p.facts.2.2.1));clear hb hd hN3)
   | (go_at_call 114
      with_reducible refine (HM1.out _ a3 c3 BC.out.1.b BC.out.2).mono ?_
      rintro r u2 ⟨hd,hb⟩;obtain ⟨a4,c4,rfl,hN4⟩:=hd.shp14;have BE:=qsd (ai (BC.out.1.below hb) hN4);have kS:=qsd (ai BE.out.1.p.facts.1 (ai BE.out.1.p.facts.2.1 BE.out.1.p.facts.2.2.1));have kZ:=qsd (BE.out.1.p.below (below_alloc u2 (Obj.cells #[.bool false,.slice none 0 0,.int .i64 0] 81)));have kM:=qsd (BE.out.1.p.below (below_alloc u2 (Obj.cells #[.bool (dN o1),.slice a4 (ws (dX o1)).length c4,.int .i64 (dE o1)] 81)));have kN:=qsd ((BE.out.1.p.below (below_alloc u2 (Obj.cells #[.bool false,.slice none 0 0,.int .i64 0] 81))).other u2.heap.size (by have:=BE.out.1.z.lt;omega) (.bool (dN o1)) (.slice a4 (ws (dX o1)).length c4) (.int .i64 (dE o1)))
      try have ZB:=qsd (ZB.out.below hb)
      try have kT:=qsd (show _ from (ai (BE.out.1.p.other _ (show w.heap.size≠W.heap.size by omega) (.bool (dN o1)) (.slice a4 (ws (dX o1)).length c4) (.int .i64 (dE o1))).facts.1 (ai (BE.out.1.p.other _ (show w.heap.size≠W.heap.size by omega) (.bool (dN o1)) (.slice a4 (ws (dX o1)).length c4) (.int .i64 (dE o1))).facts.2.1 (BE.out.1.p.other _ (show w.heap.size≠W.heap.size by omega) (.bool (dN o1)) (.slice a4 (ws (dX o1)).length c4) (.int .i64 (dE o1))).facts.2.2.1)))
      try (obtain ⟨zp,zq,DZ,MZ⟩:=ZB.out;obtain ⟨z0,z1,z2,zf0,zf1,zf2⟩:=DZ.facts;clear DZ MZ)
      clear hb hd hN4)
   | (go_at_call 114
      with_reducible refine (HM1.out _ a3 c3 (BC.out.1.below (below_alloc u1 (Obj.cells #[.bool false,.slice none 0 0,.int .i64 0] 81))).b (BC.out.2.below (below_alloc u1 (Obj.cells #[.bool false,.slice none 0 0,.int .i64 0] 81)))).mono ?_
      rintro r u2 ⟨hd,hb⟩;obtain ⟨a4,c4,rfl,hN4⟩:=hd.shp14;have BE:=qsd (ai ((BC.out.1.below (below_alloc u1 (Obj.cells #[.bool false,.slice none 0 0,.int .i64 0] 81))).below hb) hN4);have ZC:=qsd ((Lo.zero u1).below hb);have kS:=qsd (ai BE.out.1.p.facts.1 (ai BE.out.1.p.facts.2.1 BE.out.1.p.facts.2.2.1));have kT:=qsd (ai (BE.out.1.p.other _ (show w.heap.size≠u1.heap.size by omega) (.bool (dN o1)) (.slice a4 (ws (dX o1)).length c4) (.int .i64 (dE o1))).facts.1 (ai (BE.out.1.p.other _ (show w.heap.size≠u1.heap.size by omega) (.bool (dN o1)) (.slice a4 (ws (dX o1)).length c4) (.int .i64 (dE o1))).facts.2.1 (BE.out.1.p.other _ (show w.heap.size≠u1.heap.size by omega) (.bool (dN o1)) (.slice a4 (ws (dX o1)).length c4) (.int .i64 (dE o1))).facts.2.2.1))
      obtain ⟨zp,zq,DZ,MZ⟩:=ZC.out;obtain ⟨z0,z1,z2,zf0,zf1,zf2⟩:=DZ.facts;clear hb hd hN4 DZ MZ))
  all_goals
   go_wp2_with fail
   go_meet
   case rel =>
    first
     | exact ⟨u2.heap.size,rfl,rfl,Lo.new BE.out.2,BE.out.1.below (below_alloc _ _),BE.out.1.z.lt⟩
     | exact ⟨u2.heap.size,rfl,rfl,(Lo.zero u2).set (BE.out.2.below (below_alloc _ _)),(BE.out.1.below (below_alloc _ _)).other (Lo.zero u2) BE.out.1.z.lt _ _ _,BE.out.1.z.lt⟩
     | exact ⟨W.heap.size,rfl,rfl,ZB.out.set BE.out.2,BE.out.1.other ZB.out h3l _ _ _,h3l⟩
     | exact ⟨u1.heap.size,rfl,rfl,ZC.out.set BE.out.2,BE.out.1.other ZC.out h4l _ _ _,h4l⟩
 obtain ⟨gq,rfl,rfl,K1⟩:=hcut;obtain ⟨U,hU⟩:∃ U,U=wc:=⟨_,rfl⟩;rw [←hU] at K1 ⊢;clear hU H0
 go_upto_region 4 with fail
 obtain ⟨x0,x1,x2,xf0,xf1,xf2⟩:=K1.out.2.1.s.facts;obtain ⟨y0,y1,y2,yf0,yf1,yf2⟩:=K1.out.2.1.t.facts;have C:=hid (HM2.out U K1.out.2.1.b)
 go_wp2_with fail
 refine C.out.mono ?_;rintro r u3 ⟨hd,hb⟩;obtain ⟨a5,c5,rfl,hN5⟩:=hd.shp14;obtain ⟨V,hV⟩:∃ V,V=u3.alloc (Obj.cells #[.bool (dN o2),.slice a5 (ws (dX o2)).length c5,.int .i64 (dE o2)] 81):=⟨_,rfl⟩;obtain ⟨gr,hgr⟩:∃ g,g=u3.heap.size:=⟨_,rfl⟩
 have K2:Aside (Lo V gq o1∧Bx14 w V np ns nt ap az at' lp cp ls cs lt ct ep es et∧Lo V gr o2):=by
  rw [hV,hgr];exact ⟨(K1.out.1.below hb).below (below_alloc _ _),(K1.out.2.1.below hb).below (below_alloc _ _),Lo.new hN5⟩
 have HV:=(qsd (ai hV hgr));clear hV hgr hb hd hN5 C x0 x1 x2 xf0 xf1 xf2 y0 y1 y2 yf0 yf1 yf2 K1
 go_upto_region 5 with fail
 rw [←HV.out.1,←HV.out.2];clear HV;obtain ⟨p4,q4,D4,M4⟩:=K2.out.2.1.z;obtain ⟨y0,y1,y2,yf0,yf1,yf2⟩:=D4.facts;have HE:=qsd (ai (D4.set false (.slice none 0 0) 0) (st3_bel12 K2.out.2.1.b K2.out.2.1.b.size (show w.heap.size≤w.heap.size+3 by omega) (.bool false) (.slice none 0 0) (.int .i64 0)))
 unfold st3 at HE;clear D4 M4;go_wp2;obtain ⟨f0,f1,f2,_,_,_⟩:=HE.out.1.facts;exact bodyPost_ret (v:=.tuple #[.agg #[.bool false,.slice none 0 0,.int .i64 0],.int .i64 e2]) (by simp [results,Tryz.results79,go_sem,f0,f1,f2]) rfl ⟨⟨_,rfl,Nt.nil _ _⟩,HE.out.2⟩
end
section
open Go Go.RowKit J
theorem dif_ok (w:World) (n:Int) (np ns nt:Bool) (ap az at':Option Addr) (lp cp ls cs lt ct:Nat) (ep es et:Int) (oI o1 o2 o3:Option (Bool×Nat×Int)) (e1 e2 e3:Int)
 (HI:Hid (∀ u:World,Below w.heap.size w u→Calls Tryz.prog 76 #[.int .i64 n] u fun r w'=>DVal 0 w' r oI∧Below u.heap.size u w'))
 (HM1:Hid (∀ (u:World) (a:Option Addr) (c:Nat),Below w.heap.size w u→Nt 0 u (.slice a (ws (dX oI)).length c) (dX oI)→Calls Tryz.prog 114 #[.agg #[.bool (dN oI),.slice a (ws (dX oI)).length c,.int .i64 (dE oI)],.agg #[.bool np,.slice ap lp cp,.int .i64 ep]] u fun r w'=>DA14 w' r o1 e1∧Below u.heap.size u w'))
 (HM2:Hid (∀ u:World,Below w.heap.size w u→Calls Tryz.prog 114 #[.agg #[.bool ns,.slice az ls cs,.int .i64 es],.agg #[.bool nt,.slice at' lt ct,.int .i64 et]] u fun r w'=>DA14 w' r o2 e2∧Below u.heap.size u w'))
 (HS:Hid (∀ (u:World) (a b:Option Addr) (c d:Nat),Below w.heap.size w u→Nt 0 u (.slice a (ws (dX o1)).length c) (dX o1)→Nt 0 u (.slice b (ws (dX o2)).length d) (dX o2)→Calls Tryz.prog 115 #[.agg #[.bool (dN o1),.slice a (ws (dX o1)).length c,.int .i64 (dE o1)],.agg #[.bool (dN o2),.slice b (ws (dX o2)).length d,.int .i64 (dE o2)]] u fun r w'=>DA14 w' r o3 e3∧Below u.heap.size u w')) (x1:e1=0) (x2:e2=0) :
 Calls Tryz.prog 79 #[.int .i64 n,.agg #[.bool np,.slice ap lp cp,.int .i64 ep],.agg #[.bool ns,.slice az ls cs,.int .i64 es],.agg #[.bool nt,.slice at' lt ct,.int .i64 et]] w fun r w'=>DA14 w' r o3 e3∧Below w.heap.size w w':=by
 obtain ⟨W,hW⟩:∃ W,W=(((w.alloc (Obj.cells #[.bool np,.slice ap lp cp,.int .i64 ep] 81)).alloc (Obj.cells #[.bool ns,.slice az ls cs,.int .i64 es] 81)).alloc (Obj.cells #[.bool nt,.slice at' lt ct,.int .i64 et] 81)).alloc (Obj.cells #[.bool false,.slice none 0 0,.int .i64 0] 81):=⟨_,rfl⟩
 have H0:Aside (Bx14 w W np ns nt ap az at' lp cp ls cs lt ct ep es et):=by
  subst hW;have z1:=Dk.new (w.alloc (Obj.cells #[.bool np,.slice ap lp cp,.int .i64 ep] 81)) ns (.slice az ls cs) es;have z2:=Dk.new ((w.alloc (Obj.cells #[.bool np,.slice ap lp cp,.int .i64 ep] 81)).alloc (Obj.cells #[.bool ns,.slice az ls cs,.int .i64 es] 81)) nt (.slice at' lt ct) et;have z3:=Lo.zero (((w.alloc (Obj.cells #[.bool np,.slice ap lp cp,.int .i64 ep] 81)).alloc (Obj.cells #[.bool ns,.slice az ls cs,.int .i64 es] 81)).alloc (Obj.cells #[.bool nt,.slice at' lt ct,.int .i64 et] 81));rw [World.size_alloc] at z1;rw [World.size_alloc,World.size_alloc] at z2;rw [World.size_alloc,World.size_alloc,World.size_alloc] at z3;exact ⟨(((Dk.new _ _ _ _).below (below_alloc _ _)).below (below_alloc _ _)).below (below_alloc _ _),(z1.below (below_alloc _ _)).below (below_alloc _ _),z2.below (below_alloc _ _),z3,(((below_alloc _ _).trans ((below_alloc _ _).mono (by simp))).trans ((below_alloc _ _).mono (by simp;omega))).trans ((below_alloc _ _).mono (by simp;omega))⟩
 have HW:=qsd hW;clear hW;subst x1;subst x2;go_enter Tryz.func79,Tryz.ntmps79
 go_upto_region 1 with fail
 rw [←HW.out];clear HW
 go_cut [10,11] from 13 to 19 (fun q e wx=>∃ gq:Nat,q=.pointer (some ⟨gq,0,none⟩)∧e=.int .i64 0∧Aside (Lo wx gq o1∧Bx14 w wx np ns nt ap az at' lp cp ls cs lt ct ep es et∧w.heap.size+3<gq))
 case first =>
  have hdr:=(Below.refl W.heap.size W).drew;have BB:=qsd (H0.out.below hdr);have BZ:=qsd (ai (H0.out.below (addW14 W)) (zerW14 W));have k0:=BB.out.p.facts;have kS:=qsd (ai k0.1 (ai k0.2.1 k0.2.2.1));have h3l:=H0.out.z.lt;clear hdr k0
  go_region_held3 (fun w'=>w'.cell? ⟨w.heap.size,0,none⟩=some (.bool np)∧w'.cell? ⟨w.heap.size,1,none⟩=some (.slice ap lp cp)∧w'.cell? ⟨w.heap.size,2,none⟩=some (.int .i64 ep)) (first | with_reducible exact kS.out | with_reducible exact ⟨BZ.out.1.p.facts.1,BZ.out.1.p.facts.2.1,BZ.out.1.p.facts.2.2.1⟩ | with_reducible exact ⟨kZ.out.facts.1,kZ.out.facts.2.1,kZ.out.facts.2.2.1⟩ | with_reducible exact kT.out | with_reducible exact ⟨kM.out.facts.1,kM.out.facts.2.1,kM.out.facts.2.2.1⟩ | with_reducible exact ⟨kN.out.facts.1,kN.out.facts.2.1,kN.out.facts.2.2.1⟩) (first
   | (go_at_call 76
      with_reducible refine (HI.out _ BB.out.b).mono ?_
      rintro r u1 ⟨hd,hb⟩;obtain ⟨a3,c3,rfl,hN3⟩:=hd.shp14;have BC:=qsd (ai (BB.out.below hb) hN3);have kS:=qsd (ai BC.out.1.p.facts.1 (ai BC.out.1.p.facts.2.1 BC.out.1.p.facts.2.2.1));have kZ:=qsd (BC.out.1.p.below (below_alloc u1 (Obj.cells #[.bool false,.slice none 0 0,.int .i64 0] 81)));have h4l:=BC.out.1.z.lt;clear hb hd hN3)
   | (go_at_call 76
      with_reducible refine (HI.out _ BZ.out.1.b).mono ?_
      rintro r u1 ⟨hd,hb⟩;obtain ⟨a3,c3,rfl,hN3⟩:=hd.shp14;have BC:=qsd (ai (BZ.out.1.below hb) hN3);have ZB:=qsd (BZ.out.2.below hb);have kS:=qsd (ai BC.out.1.p.facts.1 (ai BC.out.1.p.facts.2.1 BC.out.1.p.facts.2.2.1));clear hb hd hN3)
   | (go_at_call 114
      with_reducible refine (HM1.out _ a3 c3 BC.out.1.b BC.out.2).mono ?_
      rintro r u2 ⟨hd,hb⟩;obtain ⟨a4,c4,rfl,hN4⟩:=hd.shp14;have BE:=qsd (ai (BC.out.1.below hb) hN4);have kS:=qsd (ai BE.out.1.p.facts.1 (ai BE.out.1.p.facts.2.1 BE.out.1.p.facts.2.2.1));have kZ:=qsd (BE.out.1.p.below (below_alloc u2 (Obj.cells #[.bool false,.slice none 0 0,.int .i64 0] 81)));have kM:=qsd (BE.out.1.p.below (below_alloc u2 (Obj.cells #[.bool (dN o1),.slice a4 (ws (dX o1)).length c4,.int .i64 (dE o1)] 81)));have kN:=qsd ((BE.out.1.p.below (below_alloc u2 (Obj.cells #[.bool false,.slice none 0 0,.int .i64 0] 81))).other u2.heap.size (by have:=BE.out.1.z.lt;omega) (.bool (dN o1)) (.slice a4 (ws (dX o1)).length c4) (.int .i64 (dE o1)))
      try have ZB:=qsd (ZB.out.below hb)
      try have kT:=qsd (show _ from (ai (BE.out.1.p.other _ (show w.heap.size≠W.heap.size by omega) (.bool (dN o1)) (.slice a4 (ws (dX o1)).length c4) (.int .i64 (dE o1))).facts.1 (ai (BE.out.1.p.other _ (show w.heap.size≠W.heap.size by omega) (.bool (dN o1)) (.slice a4 (ws (dX o1)).length c4) (.int .i64 (dE o1))).facts.2.1 (BE.out.1.p.other _ (show w.heap.size≠W.heap.size by omega) (.bool (dN o1)) (.slice a4 (ws (dX o1)).length c4) (.int .i64 (dE o1))).facts.2.2.1)))
      try (obtain ⟨zp,zq,DZ,MZ⟩:=ZB.out;obtain ⟨z0,z1,z2,zf0,zf1,zf2⟩:=DZ.facts;clear DZ MZ)
      clear hb hd hN4)
   | (go_at_call 114
      with_reducible refine (HM1.out _ a3 c3 (BC.out.1.below (below_alloc u1 (Obj.cells #[.bool false,.slice none 0 0,.int .i64 0] 81))).b (BC.out.2.below (below_alloc u1 (Obj.cells #[.bool false,.slice none 0 0,.int .i64 0] 81)))).mono ?_
      rintro r u2 ⟨hd,hb⟩;obtain ⟨a4,c4,rfl,hN4⟩:=hd.shp14;have BE:=qsd (ai ((BC.out.1.below (below_alloc u1 (Obj.cells #[.bool false,.slice none 0 0,.int .i64 0] 81))).below hb) hN4);have ZC:=qsd ((Lo.zero u1).below hb);have kS:=qsd (ai BE.out.1.p.facts.1 (ai BE.out.1.p.facts.2.1 BE.out.1.p.facts.2.2.1));have kT:=qsd (ai (BE.out.1.p.other _ (show w.heap.size≠u1.heap.size by omega) (.bool (dN o1)) (.slice a4 (ws (dX o1)).length c4) (.int .i64 (dE o1))).facts.1 (ai (BE.out.1.p.other _ (show w.heap.size≠u1.heap.size by omega) (.bool (dN o1)) (.slice a4 (ws (dX o1)).length c4) (.int .i64 (dE o1))).facts.2.1 (BE.out.1.p.other _ (show w.heap.size≠u1.heap.size by omega) (.bool (dN o1)) (.slice a4 (ws (dX o1)).length c4) (.int .i64 (dE o1))).facts.2.2.1))
      obtain ⟨zp,zq,DZ,MZ⟩:=ZC.out;obtain ⟨z0,z1,z2,zf0,zf1,zf2⟩:=DZ.facts;clear hb hd hN4 DZ MZ))
  all_goals
   go_wp2_with fail
   go_meet
   case rel =>
    first
     | exact ⟨u2.heap.size,rfl,rfl,Lo.new BE.out.2,BE.out.1.below (below_alloc _ _),BE.out.1.z.lt⟩
     | exact ⟨u2.heap.size,rfl,rfl,(Lo.zero u2).set (BE.out.2.below (below_alloc _ _)),(BE.out.1.below (below_alloc _ _)).other (Lo.zero u2) BE.out.1.z.lt _ _ _,BE.out.1.z.lt⟩
     | exact ⟨W.heap.size,rfl,rfl,ZB.out.set BE.out.2,BE.out.1.other ZB.out h3l _ _ _,h3l⟩
     | exact ⟨u1.heap.size,rfl,rfl,ZC.out.set BE.out.2,BE.out.1.other ZC.out h4l _ _ _,h4l⟩
 obtain ⟨gq,rfl,rfl,K1⟩:=hcut;obtain ⟨U,hU⟩:∃ U,U=wc:=⟨_,rfl⟩;rw [←hU] at K1 ⊢;clear hU H0
 go_upto_region 4 with fail
 obtain ⟨x0,x1,x2,xf0,xf1,xf2⟩:=K1.out.2.1.s.facts;obtain ⟨y0,y1,y2,yf0,yf1,yf2⟩:=K1.out.2.1.t.facts;have C:=hid (HM2.out U K1.out.2.1.b)
 go_wp2_with fail
 refine C.out.mono ?_;rintro r u3 ⟨hd,hb⟩;obtain ⟨a5,c5,rfl,hN5⟩:=hd.shp14;obtain ⟨V,hV⟩:∃ V,V=u3.alloc (Obj.cells #[.bool (dN o2),.slice a5 (ws (dX o2)).length c5,.int .i64 (dE o2)] 81):=⟨_,rfl⟩;obtain ⟨gr,hgr⟩:∃ g,g=u3.heap.size:=⟨_,rfl⟩
 have K2:Aside (Lo V gq o1∧Bx14 w V np ns nt ap az at' lp cp ls cs lt ct ep es et∧Lo V gr o2):=by
  rw [hV,hgr];exact ⟨(K1.out.1.below hb).below (below_alloc _ _),(K1.out.2.1.below hb).below (below_alloc _ _),Lo.new hN5⟩
 have HV:=(qsd (ai hV hgr));clear hV hgr hb hd hN5 C x0 x1 x2 xf0 xf1 xf2 y0 y1 y2 yf0 yf1 yf2 K1
 go_upto_region 5 with fail
 rw [←HV.out.1,←HV.out.2];clear HV
 go_upto_region 7 with fail
 obtain ⟨p1,q1,D1,M1⟩:=K2.out.1;obtain ⟨p2,q2,D2,M2⟩:=K2.out.2.2;obtain ⟨x0,x1,x2,xf0,xf1,xf2⟩:=D1.facts;obtain ⟨y0,y1,y2,yf0,yf1,yf2⟩:=D2.facts;have C:=hid (HS.out V p1 p2 q1 q2 K2.out.2.1.b M1 M2);clear D1 D2 M1 M2
 go_wp2_with fail
 refine C.out.mono ?_;rintro r u4 ⟨hd,hb⟩;obtain ⟨a6,c6,rfl,hN6⟩:=hd.shp14;have K3:=qsd (ai (K2.out.2.1.below hb) hN6);clear hb hd hN6 C x0 x1 x2 xf0 xf1 xf2 y0 y1 y2 yf0 yf1 yf2 K2;obtain ⟨p4,q4,D4,M4⟩:=K3.out.1.z;obtain ⟨y0,y1,y2,yf0,yf1,yf2⟩:=D4.facts;have HE:=qsd (ai (D4.set (dN o3) (.slice a6 (ws (dX o3)).length c6) (dE o3)) (ai (K3.out.2.off12 D4 (.bool (dN o3)) (.slice a6 (ws (dX o3)).length c6) (.int .i64 (dE o3))) (st3_bel12 K3.out.1.b K3.out.1.b.size (show w.heap.size≤w.heap.size+3 by omega) (.bool (dN o3)) (.slice a6 (ws (dX o3)).length c6) (.int .i64 (dE o3)))))
 unfold st3 at HE;clear D4 M4;go_wp2;obtain ⟨f0,f1,f2,_,_,_⟩:=HE.out.1.facts;exact bodyPost_ret (v:=.tuple #[.agg #[.bool (dN o3),.slice a6 (ws (dX o3)).length c6,.int .i64 (dE o3)],.int .i64 e3]) (by simp [results,Tryz.results79,go_sem,f0,f1,f2]) rfl ⟨⟨_,rfl,HE.out.2.1⟩,HE.out.2.2⟩
end
section
open Go Go.RowKit J
theorem mulD_re {o p:Option (Bool×Nat×Int)}(h:(mulD o p).isSome=true):mkS (dN (mulD o p)) (dX (mulD o p)) (dE (mulD o p))=mulD o p:=by
 cases o with
 | none=>cases h
 | some x =>
   cases p with
   | none=>cases h
   | some y=>exact reform (o:=mulD (some x) (some y)) rfl h
theorem cb14 {w w':World}{p:Addr}{v:Value}(h:w.cell? p=some v) (hb:Below w.heap.size w w'):w'.cell? p=some v:=(hb.cell (p:=p) (World.block_lt_of_cell? w p h)).trans h
theorem cs14 {w:World}{g:Nat}{x y z:Value}{p:Addr}{v:Value}(h:w.cell? p=some v) (hg:p.block≠g):(st3 w g x y z).cell? p=some v:=by
 rw [World.cell?_of_block (a:=p) ((st3_but12 g w x y z).block p.block (World.block_lt_of_cell? w p h) hg)];exact h
theorem len_rng14 {o:Option (Bool×Nat×Int)}(h:o.isSome=true) (hr:mkS (dN o) (dX o) (dE o)=o):(ws (dX o)).length≤8192∧-9223372036854775808≤dE o∧dE o≤9223372036854775807:=by
 have F:=frm_of (n:=dN o) (X:=dX o) (e:=dE o) (by rw [hr];exact h)
 rw [hr] at F;have:=frm_len F;have:=F.up;have:=F.down;refine ⟨by omega,by omega,by omega⟩
theorem difference14 {w:World}{ap az at':Option Addr}{lp cp ls cs lt ct:Nat}{xs ys zs:List Nat}(n:Int) (np ns nt:Bool) (ep es et:Int) (h1:Arg w ap lp cp xs) (h2:Arg w az ls cs ys) (h3:Arg w at' lt ct zs) (hT:Tab w)
 (hn:-9223372036854775808≤n∧n≤9223372036854775807) (b1:-9223372036854775808≤ep∧ep≤9223372036854775807) (b2:-9223372036854775808≤es∧es≤9223372036854775807) (b3:-9223372036854775808≤et∧et≤9223372036854775807) :
 Calls Tryz.prog 79 #[.int .i64 n,.agg #[.bool np,.slice ap lp cp,.int .i64 ep],.agg #[.bool ns,.slice az ls cs,.int .i64 es],.agg #[.bool nt,.slice at' lt ct,.int .i64 et]] w fun r w' =>
  DA14 w' r (difO (mulD (gV 0 n) (mkS np (val xs) ep)) (mulD (mkS ns (val ys) es) (mkS nt (val zs) et))) (erS (difO (mulD (gV 0 n) (mkS np (val xs) ep)) (mulD (mkS ns (val ys) es) (mkS nt (val zs) et))))∧Below w.heap.size w w':=by
 have Fi:Fm (gV 0 n):=g_fm (m:=63) (by decide) (by decide) (show Bd 63 n by unfold Bd;omega)
 have HI:=hid (fun (u:World) (hu:Below w.heap.size w u)=>Int14 n u (hT.belows hu) hn.1 hn.2)
 have HM1:∀ (u:World) (a:Option Addr) (c:Nat),Below w.heap.size w u→Nt 0 u (.slice a (ws (dX (gV 0 n))).length c) (dX (gV 0 n))→Calls Tryz.prog 114 #[.agg #[.bool (dN (gV 0 n)),.slice a (ws (dX (gV 0 n))).length c,.int .i64 (dE (gV 0 n))],.agg #[.bool np,.slice ap lp cp,.int .i64 ep]] u fun r w'=>DA14 w' r (mulD (gV 0 n) (mkS np (val xs) ep)) (erS (mulD (gV 0 n) (mkS np (val xs) ep)))∧Below u.heap.size u w':=fun u a c hu hN=>by
  have:=Mul_any3 (Fi.a12 hN) (h1.below hu) (hT.belows hu) (dN (gV 0 n)) np (dE (gV 0 n)) ep Fi.rng.1 Fi.rng.2 b1.1 b1.2;rw [val_ws,Fi.re] at this;exact this.mono fun r w' h=>⟨h.1.da14,h.2⟩
 have HM2:∀ u:World,Below w.heap.size w u→Calls Tryz.prog 114 #[.agg #[.bool ns,.slice az ls cs,.int .i64 es],.agg #[.bool nt,.slice at' lt ct,.int .i64 et]] u fun r w'=>DA14 w' r (mulD (mkS ns (val ys) es) (mkS nt (val zs) et)) (erS (mulD (mkS ns (val ys) es) (mkS nt (val zs) et)))∧Below u.heap.size u w':=fun u hu =>
  (Mul_any3 (h2.below hu) (h3.below hu) (hT.belows hu) ns nt es et b2.1 b2.2 b3.1 b3.2).mono fun r w' h=>⟨h.1.da14,h.2⟩
 have R1:=mulD_re (o:=gV 0 n) (p:=mkS np (val xs) ep);have R2:=mulD_re (o:=mkS ns (val ys) es) (p:=mkS nt (val zs) et);generalize mulD (gV 0 n) (mkS np (val xs) ep)=o1 at *;generalize mulD (mkS ns (val ys) es) (mkS nt (val zs) et)=o2 at *
 have HS:o1.isSome=true→o2.isSome=true→∀ (u:World) (a b:Option Addr) (c d:Nat),Below w.heap.size w u→Nt 0 u (.slice a (ws (dX o1)).length c) (dX o1)→Nt 0 u (.slice b (ws (dX o2)).length d) (dX o2)→Calls Tryz.prog 115 #[.agg #[.bool (dN o1),.slice a (ws (dX o1)).length c,.int .i64 (dE o1)],.agg #[.bool (dN o2),.slice b (ws (dX o2)).length d,.int .i64 (dE o2)]] u fun r w'=>DA14 w' r (addD o1 (mkS (!dN o2) (dX o2) (dE o2))) (erS (addD o1 (mkS (!dN o2) (dX o2) (dE o2))))∧Below u.heap.size u w':=fun q1 q2 u a b c d hu n1 n2=>by
  obtain ⟨l1,r1,r1'⟩:=len_rng14 q1 (R1 q1);obtain ⟨l2,r2,r2'⟩:=len_rng14 q2 (R2 q2);have:=Sub_any3 (n1.arg' (by omega)).2 (n2.arg' (by omega)).2 (hT.belows hu) (dN o1) (dN o2) (dE o1) (dE o2) r1 r1' r2 r2'
  rw [val_ws,val_ws,R1 q1] at this;exact this.mono fun r w' h=>⟨h.1.da14,h.2⟩
 unfold difO;have none14:∀ (u:World) (a b:Option Addr) (c d:Nat),Below w.heap.size w u→Nt 0 u (.slice a (ws (dX o1)).length c) (dX o1)→Nt 0 u (.slice b (ws (dX o2)).length d) (dX o2)→True:=fun _ _ _ _ _ _ _ _=>trivial
 cases q1:o1.isSome with
 | false =>
   have e1:=erS_none q1;rw [e1] at HM1;exact dif_no1 w n np ns nt ap az at' lp cp ls cs lt ct ep es et (gV 0 n) o1 o2 2 (erS o2) HI (hid HM1) (by decide)
 | true =>
   have e1:=erS_some q1;rw [e1] at HM1
   cases q2:o2.isSome with
   | false =>
     have e2:=erS_none q2;rw [e2] at HM2;exact dif_no2 w n np ns nt ap az at' lp cp ls cs lt ct ep es et (gV 0 n) o1 o2 0 2 HI (hid HM1) (hid HM2) rfl (by decide)
   | true =>
     have e2:=erS_some q2;rw [e2] at HM2;exact dif_ok w n np ns nt ap az at' lp cp ls cs lt ct ep es et (gV 0 n) o1 o2 _ 0 0 _ HI (hid HM1) (hid HM2) (hid (HS q1 q2)) rfl rfl
theorem difg14 {w:World}{ap az at':Option Addr}{cp cs ct:Nat}{n:Nat}{P S T:Int}(hn:n≤65536) (bP:Bd 4212 P) (bS:Bd 2114 S) (bT:Bd 2114 T) (hT:Tab w)
 (N1:Nt 0 w (.slice ap (ws (dX (gV 2148 P))).length cp) (dX (gV 2148 P))) (N2:Nt 0 w (.slice az (ws (dX (gV 1074 S))).length cs) (dX (gV 1074 S))) (N3:Nt 0 w (.slice at' (ws (dX (gV 1074 T))).length ct) (dX (gV 1074 T))) :
 Calls Tryz.prog 79 #[.int .i64 (n:Nat),.agg #[.bool (dN (gV 2148 P)),.slice ap (ws (dX (gV 2148 P))).length cp,.int .i64 (dE (gV 2148 P))],.agg #[.bool (dN (gV 1074 S)),.slice az (ws (dX (gV 1074 S))).length cs,.int .i64 (dE (gV 1074 S))],.agg #[.bool (dN (gV 1074 T)),.slice at' (ws (dX (gV 1074 T))).length ct,.int .i64 (dE (gV 1074 T))]] w fun r w' =>
  DA14 w' r (gV 2148 ((n:Int)*P-S*T)) 0∧Below w.heap.size w w':=by
 have F1:Fm (gV 2148 P):=g_fm (by decide) (by decide) bP
 have F2:Fm (gV 1074 S):=g_fm (by decide) (by decide) bS
 have F3:Fm (gV 1074 T):=g_fm (by decide) (by decide) bT
 have bn:Bd 16 (n:Int):=Bd.nat (by omega)
 have b1:Bd 4228 ((n:Int)*P):=(bn.mul bP).mono (by decide)
 have b2:Bd 4228 (S*T):=(bS.mul bT).mono (by decide)
 have F4:Fm (gV 2148 ((n:Int)*P)):=g_fm (by decide) (by decide) b1
 have F5:Fm (gV 2148 (S*T)):=g_fm (by decide) (by decide) b2
 have F6:Fm (gV 2148 ((n:Int)*P-S*T)):=g_fm (by decide) (by decide) (b1.sub b2)
 have:=difference14 (n:Int) (dN (gV 2148 P)) (dN (gV 1074 S)) (dN (gV 1074 T)) (dE (gV 2148 P)) (dE (gV 1074 S)) (dE (gV 1074 T)) (F1.a12 N1) (F2.a12 N2) (F3.a12 N3) hT (by omega) F1.rng F2.rng F3.rng
 rw [val_ws,val_ws,val_ws,F1.re,F2.re,F3.re,g_mul (by decide) (by decide) (by decide) (by decide) bn bP,g_mul (by decide) (by decide) (by decide) (by decide) bS bT,Nat.zero_add] at this
 have e:difO (gV 2148 ((n:Int)*P)) (gV 2148 (S*T))=gV 2148 ((n:Int)*P-S*T):=by
  unfold difO;rw [F4.sm,F5.sm];exact g_sub (by decide) (by decide) b1 b2
 rw [e,F6.er] at this;exact this
end
section
open Go Go.RowKit J
theorem total14_s (w:World) (n h0 h1:Nat) (A T:Nat→Option (Bool×Nat×Int)) (hn:n≤65536) (hT:Tab w) (FA:∀ i,i<n→Fm (A i)) (FT:∀ i,i≤n→Fm (T i)) (ET:∀ i,i<n→addD (T i) (A i)=T (i+1)) (E0:o00=T 0)
 (HC:Hid (∀ (i:Nat) (u:World),i<n→Below w.heap.size w u→Calls Tryz.prog 185 #[.int .i64 (i:Nat),.pointer (some ⟨h0,0,none⟩),.pointer (some ⟨h1,0,none⟩)] u fun r w'=>DVal 0 w' r (A i)∧Below u.heap.size u w')) :
 Calls Tryz.prog 183 #[.int .i64 (n:Nat),.func (.func 185) #[] #[.pointer (some ⟨h0,0,none⟩),.pointer (some ⟨h1,0,none⟩)]] w fun r w'=>DVal 0 w' r (T n)∧Below w.heap.size w w':=by
 obtain ⟨W,hW⟩:∃ W,W=(w.alloc (Obj.cells #[.bool false,.slice none 0 0,.int .i64 0] 81)).alloc (Obj.cells #[.bool false,.slice none 0 0,.int .i64 0] 81):=⟨_,rfl⟩
 have H0:Aside (Lo W (w.heap.size+1) (T 0)∧Lo W w.heap.size o00∧Below w.heap.size w W):=by
  subst hW;rw [←E0];have z2:=Lo.zero (w.alloc (Obj.cells #[.bool false,.slice none 0 0,.int .i64 0] 81));rw [World.size_alloc] at z2;exact ⟨z2,(Lo.zero w).below (below_alloc _ _),(below_alloc _ _).trans ((below_alloc _ _).mono (by simp))⟩
 have HP:Hid (∀ (i:Nat) (u:World) (p q:Option Addr) (cp cq:Nat),i<n→Tab u→Nt 0 u (.slice p (ws (dX (T i))).length cp) (dX (T i))→Nt 0 u (.slice q (ws (dX (A i))).length cq) (dX (A i))→Calls Tryz.prog 226 #[.agg #[.bool (dN (T i)),.slice p (ws (dX (T i))).length cp,.int .i64 (dE (T i))],.agg #[.bool (dN (A i)),.slice q (ws (dX (A i))).length cq,.int .i64 (dE (A i))]] u fun r w'=>DVal 0 w' r (T (i+1))∧Below u.heap.size u w') :=
  fun i u p q cp cq hi hT n1 n2=>plus14 (FT i (by omega)) (FA i hi) (FT (i+1) (by omega)) n1 n2 hT (ET i hi)
 have HW:=qsd hW;have PF:=qsd (ai FT FA);have HT:=qsd hT;clear hW FT FA ET E0 hT;go_enter Tryz.func183,Tryz.ntmps183
 go_upto_region 2 with fail
 rw [←HW.out];clear HW;go_wp2
 go_loopg [8] n (fun gk i wr=>∃ j:Nat,gk+j=n∧i=.int .i64 (j:Nat)∧Aside (Lo wr (w.heap.size+1) (T j)∧Lo wr w.heap.size o00∧Below w.heap.size w wr))
 case atStart=>exact ⟨0,by omega,by simp,H0.out⟩
 case round =>
  obtain ⟨j,hgj,rfl,HA⟩:=hrel
  by_cases hj:j<n
  · obtain ⟨p1,q1,D1,M1⟩:=HA.out.1
    have hdr:=(Below.refl wr.heap.size wr).drew;have kS:=qsd (ai (D1.below hdr).facts.1 (ai (D1.below hdr).facts.2.1 (D1.below hdr).facts.2.2.1));have B1:=qsd (ai (D1.below hdr) (ai (M1.below hdr) (ai (HA.out.2.1.below hdr) (HA.out.2.2.trans (hdr.mono HA.out.2.2.size)))));have C:=hid (HC.out j wr.drew hj B1.out.2.2.2);clear D1 M1 hdr
    go_upto_region 5 with fail
    refine until_region (fun u=>u.cell? ⟨w.heap.size+1,0,none⟩=some (.bool (dN (T j)))∧u.cell? ⟨w.heap.size+1,1,none⟩=some (.slice p1 (ws (dX (T j))).length q1)∧u.cell? ⟨w.heap.size+1,2,none⟩=some (.int .i64 (dE (T j)))) 5 (by kernel_rfl) ?_
    refine until_take (i:=0) [4] (v:=?_) rfl (by kernel_rfl) (by kernel_rfl) (by kernel_rfl) (by kernel_rfl) (by kernel_rfl) (fun _ _ _ h=>h) (Or.inl ⟨by rfl,?_⟩) kS.out ?_
    rotate_left
    · intro u hSu
      try dsimp only at hSu
      first | (go_simp;done) | (go_simp;with_reducible rfl)
    try simp only [Act.put,List.setIfInBounds_toArray,List.set_cons_zero,List.set_cons_succ]
    refine until_take (i:=1) [3,4] (v:=?_) rfl (by kernel_rfl) (by kernel_rfl) (by kernel_rfl) (by kernel_rfl) (by kernel_rfl) (fun _ _ _ h=>h) (Or.inl ⟨by rfl,?_⟩) kS.out ?_
    rotate_left
    · intro u hSu
      try dsimp only at hSu
      first | (go_simp;done) | (go_simp;with_reducible rfl)
    try simp only [Act.put,List.setIfInBounds_toArray,List.set_cons_zero,List.set_cons_succ]
    refine until_take (i:=2) [3,4] (v:=?_) rfl (by kernel_rfl) (by kernel_rfl) (by kernel_rfl) (by kernel_rfl) (by kernel_rfl) (fun _ _ _ h=>h) (Or.inl ⟨by rfl,?_⟩) kS.out ?_
    rotate_left
    · intro u hSu
      try dsimp only at hSu
      first | (go_simp;done) | (go_simp;with_reducible rfl)
    try simp only [Act.put,List.setIfInBounds_toArray,List.set_cons_zero,List.set_cons_succ]
    refine until_one (i:=3) (by kernel_rfl) rfl (fun K' hK=>?_)
    go_simp
    refine C.out.mono ?_;rintro r u3 ⟨hd,hb⟩;obtain ⟨a3,c3,rfl,hN3⟩:=hd.shape14 (PF.out.2 j hj);have B2:=qsd (ai (B1.out.1.below hb) (ai (B1.out.2.1.below hb) (ai (B1.out.2.2.1.below hb) (ai (B1.out.2.2.2.trans (hb.mono B1.out.2.2.2.size)) hN3))));have kS:=qsd (ai B2.out.1.facts.1 (ai B2.out.1.facts.2.1 B2.out.1.facts.2.2.1));clear hb hd C B1 hN3
    dsimp only
    refine hK.out _ _ (fun _=>kS.out) ?_
    clear hK K'
    try simp only [Act.put,List.setIfInBounds_toArray,List.set_cons_zero,List.set_cons_succ]
    have C:=hid (HP.out j u3 p1 a3 q1 c3 hj (HT.out.belows B2.out.2.2.2.1) B2.out.2.1 B2.out.2.2.2.2);refine until_one (i:=4) (by kernel_rfl) rfl (fun K' hK=>?_)
    go_simp
    refine C.out.mono ?_;rintro r u4 ⟨hd,hb⟩;obtain ⟨a4,c4,rfl,hN4⟩:=hd.shape14 (PF.out.1 (j+1) (by omega))
    have B3:=qsd (ai (B2.out.1.below hb) (ai (B2.out.2.1.below hb) (ai (B2.out.2.2.1.below hb) (ai (B2.out.2.2.2.1.trans (hb.mono B2.out.2.2.2.1.size)) hN4))));have kS:=qsd (ai B3.out.1.facts.1 (ai B3.out.1.facts.2.1 B3.out.1.facts.2.2.1));clear hb hd C B2 hN4
    dsimp only
    refine hK.out _ _ (fun _=>kS.out) ?_
    clear hK K'
    try simp only [Act.put,List.setIfInBounds_toArray,List.set_cons_zero,List.set_cons_succ]
    obtain ⟨z0,z1,z2,zf0,zf1,zf2⟩:=B3.out.1.facts;refine until_one (i:=5) (by kernel_rfl) rfl (fun K' hK=>?_)
    go_simp
    refine hK.out _ _ (fun h=>absurd h (by decide)) ?_
    clear hK K' kS z0 z1 z2 zf0 zf1 zf2;refine until_done (by kernel_rfl) ?_ _
    have LB:Lo u4 (w.heap.size+1) (T j):=⟨_,_,B3.out.1,B3.out.2.1⟩;have b3:=B3.out.2.2.2.1;have H3:=qsd (ai (LB.set B3.out.2.2.2.2) (ai (B3.out.2.2.1.other LB (by omega) (.bool (dN (T (j+1)))) (.slice a4 (ws (dX (T (j+1)))).length c4) (.int .i64 (dE (T (j+1))))) (st3_bel12 b3 b3.size (show w.heap.size≤w.heap.size+1 by omega) (.bool (dN (T (j+1)))) (.slice a4 (ws (dX (T (j+1)))).length c4) (.int .i64 (dE (T (j+1)))))))
    clear LB b3;go_wp2
    go_roundg (gk-1)
    case measure=>omega
    case rel=>exact ⟨j+1,by omega,by first | rfl | simp,H3.out⟩
  · obtain rfl:n=j:=by omega
    have hd:decide ((n:Int)<n)=false:=by simp
    obtain ⟨p1,q1,D1,M1⟩:=HA.out.1;obtain ⟨p2,q2,D2,M2⟩:=HA.out.2.1;obtain ⟨x0,x1,x2,xf0,xf1,xf2⟩:=D1.facts;obtain ⟨y0,y1,y2,yf0,yf1,yf2⟩:=D2.facts;have MM1:=qsd M1;clear D1 D2 M1 M2;go_wp2;exact end14 Tryz.results183 rfl HA.out.2.1 HA.out.2.2 (by omega) MM1.out
end
section
open Go Go.RowKit J
theorem spreadC14 (i n h0 h1 gx gy:Nat) (A B:Nat→Option (Bool×Nat×Int)) (c:Option (Bool×Nat×Int)) (u:World) (hi:i<n) (hn:n≤65536) (hT:Tab u) (FA:Fm (A i)) (FB:Fm (B i)) (Fc:Fm c) (E:mulD (A i) (B i)=c)
 (k0:u.cell? ⟨h0,0,none⟩=some (.slice (some ⟨gx,0,none⟩) n n)) (k1:u.cell? ⟨h1,0,none⟩=some (.slice (some ⟨gy,0,none⟩) n n)) (hx:Dr u gx n n A) (hy:Dr u gy n n B) :
 Calls Tryz.prog 185 #[.int .i64 (i:Nat),.pointer (some ⟨h0,0,none⟩),.pointer (some ⟨h1,0,none⟩)] u fun r w'=>DVal 0 w' r c∧Below u.heap.size u w':=by
 obtain ⟨W,hW⟩:∃ W,W=u.alloc (Obj.cells #[.bool false,.slice none 0 0,.int .i64 0] 81):=⟨_,rfl⟩;have LT:Aside (h0<u.heap.size∧h1<u.heap.size∧gx<u.heap.size∧gy<u.heap.size):=⟨World.block_lt_of_cell? u _ k0,World.block_lt_of_cell? u _ k1,hx.lt,hy.lt⟩;have hb:Below u.heap.size u W.drew:=by rw [hW];exact addW14 u
 have L0:Lo W.drew u.heap.size o00:=by rw [hW];exact zerW14 u
 obtain ⟨p1,q1,x0,x1,x2,M1⟩:=(hx.below hb).facts i hi;obtain ⟨p2,q2,y0,y1,y2,M2⟩:=(hy.below hb).facts i hi;have kS:Aside (W.drew.cell? ⟨h0,0,none⟩=some (.slice (some ⟨gx,0,none⟩) n n)∧W.drew.cell? ⟨h1,0,none⟩=some (.slice (some ⟨gy,0,none⟩) n n)∧W.drew.cell? ⟨gx,i*3,none⟩=some (.bool (dN (A i)))∧W.drew.cell? ⟨gx,i*3+1,none⟩=some (.slice p1 (ws (dX (A i))).length q1)∧W.drew.cell? ⟨gx,i*3+2,none⟩=some (.int .i64 (dE (A i)))∧W.drew.cell? ⟨gy,i*3,none⟩=some (.bool (dN (B i)))∧W.drew.cell? ⟨gy,i*3+1,none⟩=some (.slice p2 (ws (dX (B i))).length q2)∧W.drew.cell? ⟨gy,i*3+2,none⟩=some (.int .i64 (dE (B i)))):=⟨cb14 k0 hb,cb14 k1 hb,x0,x1,x2,y0,y1,y2⟩;have C:=hid (times14 FA FB Fc M1 M2 (hT.belows hb) E);have BD:=(qsd (ai hb L0));have FF:=qsd Fc;have HW:=qsd hW;have HI:=qsd hi;clear hW hb L0 x0 x1 x2 y0 y1 y2 M1 M2 k0 k1 hx hy FA FB Fc E hT;go_enter Tryz.func185,Tryz.ntmps185
 go_upto_region 1 with fail
 rw [←HW.out];clear HW
 go_region_held3 (fun w'=>w'.cell? ⟨h0,0,none⟩=some (.slice (some ⟨gx,0,none⟩) n n)∧w'.cell? ⟨h1,0,none⟩=some (.slice (some ⟨gy,0,none⟩) n n)∧w'.cell? ⟨gx,i*3,none⟩=some (.bool (dN (A i)))∧w'.cell? ⟨gx,i*3+1,none⟩=some (.slice p1 (ws (dX (A i))).length q1)∧w'.cell? ⟨gx,i*3+2,none⟩=some (.int .i64 (dE (A i)))∧w'.cell? ⟨gy,i*3,none⟩=some (.bool (dN (B i)))∧w'.cell? ⟨gy,i*3+1,none⟩=some (.slice p2 (ws (dX (B i))).length q2)∧w'.cell? ⟨gy,i*3+2,none⟩=some (.int .i64 (dE (B i)))) (first | with_reducible exact kS.out | with_reducible exact kT.out) (first
  | (go_at_call 116
     with_reducible refine C.out.mono ?_
     rintro r u3 ⟨hd,hb⟩;obtain ⟨a3,c3,rfl,hN3⟩:=hd.shp14;have BD:=qsd (ai (BD.out.1.trans (hb.mono BD.out.1.size)) (ai (BD.out.2.below hb) hN3));have kS:=qsd (ai (cb14 kS.out.1 hb) (ai (cb14 kS.out.2.1 hb) (ai (cb14 kS.out.2.2.1 hb) (ai (cb14 kS.out.2.2.2.1 hb) (ai (cb14 kS.out.2.2.2.2.1 hb) (ai (cb14 kS.out.2.2.2.2.2.1 hb) (ai (cb14 kS.out.2.2.2.2.2.2.1 hb) (cb14 kS.out.2.2.2.2.2.2.2 hb))))))));have kT:=qsd (ai (cs14 (x:=.bool (dN c)) (y:=.slice a3 (ws (dX c)).length c3) (z:=.int .i64 (dE c)) kS.out.1 (Nat.ne_of_lt LT.out.1)) (ai (cs14 (x:=.bool (dN c)) (y:=.slice a3 (ws (dX c)).length c3) (z:=.int .i64 (dE c)) kS.out.2.1 (Nat.ne_of_lt LT.out.2.1)) (ai (cs14 (x:=.bool (dN c)) (y:=.slice a3 (ws (dX c)).length c3) (z:=.int .i64 (dE c)) kS.out.2.2.1 (Nat.ne_of_lt LT.out.2.2.1)) (ai (cs14 (x:=.bool (dN c)) (y:=.slice a3 (ws (dX c)).length c3) (z:=.int .i64 (dE c)) kS.out.2.2.2.1 (Nat.ne_of_lt LT.out.2.2.1)) (ai (cs14 (x:=.bool (dN c)) (y:=.slice a3 (ws (dX c)).length c3) (z:=.int .i64 (dE c)) kS.out.2.2.2.2.1 (Nat.ne_of_lt LT.out.2.2.1)) (ai (cs14 (x:=.bool (dN c)) (y:=.slice a3 (ws (dX c)).length c3) (z:=.int .i64 (dE c)) kS.out.2.2.2.2.2.1 (Nat.ne_of_lt LT.out.2.2.2)) (ai (cs14 (x:=.bool (dN c)) (y:=.slice a3 (ws (dX c)).length c3) (z:=.int .i64 (dE c)) kS.out.2.2.2.2.2.2.1 (Nat.ne_of_lt LT.out.2.2.2)) (cs14 (x:=.bool (dN c)) (y:=.slice a3 (ws (dX c)).length c3) (z:=.int .i64 (dE c)) kS.out.2.2.2.2.2.2.2 (Nat.ne_of_lt LT.out.2.2.2)))))))));obtain ⟨zp,zq,DZ,MZ⟩:=BD.out.2.1;obtain ⟨z0,z1,z2,zf0,zf1,zf2⟩:=DZ.facts;clear hb hd hN3 DZ MZ C))
 go_wp2;exact end14 Tryz.results185 rfl BD.out.2.1 BD.out.1 (Nat.le_refl _) BD.out.2.2
theorem prod_bd14 {f g:Nat→Int}{n:Nat}(bf:∀ i,i<n→Bd 2098 (f i)) (bg:∀ i,i<n→Bd 2098 (g i)) (hn:n≤65536) (k:Nat) (hk:k≤n):Bd 4212 (tS (fun i=>f i*g i) k) :=
 (tS_bd (m:=4196) (fun i hi=>((bf i hi).mul (bg i hi)).mono (by decide)) hn k hk).mono (by decide)
theorem spread_core (w:World) (n gx gy:Nat) (ax ay:Option Addr) (cx cy:Nat) (oS oT oP oD:Option (Bool×Nat×Int)) (hP:Fm oP) (hD:Fm oD)
 (N1:Nt 0 w (.slice ax (ws (dX oS)).length cx) (dX oS)) (N2:Nt 0 w (.slice ay (ws (dX oT)).length cy) (dX oT))
 (HC:Hid (∀ u:World,Below w.heap.size w u→u.cell? ⟨w.heap.size,0,none⟩=some (.slice (some ⟨gx,0,none⟩) n n)→u.cell? ⟨w.heap.size+1,0,none⟩=some (.slice (some ⟨gy,0,none⟩) n n)→Calls Tryz.prog 183 #[.int .i64 (n:Nat),.func (.func 185) #[] #[.pointer (some ⟨w.heap.size,0,none⟩),.pointer (some ⟨w.heap.size+1,0,none⟩)]] u fun r w'=>DVal 0 w' r oP∧Below u.heap.size u w'))
 (HD:Hid (∀ (u:World) (a b d:Option Addr) (ca cb cd:Nat),Below w.heap.size w u→Nt 0 u (.slice a (ws (dX oP)).length ca) (dX oP)→Nt 0 u (.slice b (ws (dX oS)).length cb) (dX oS)→Nt 0 u (.slice d (ws (dX oT)).length cd) (dX oT)→Calls Tryz.prog 79 #[.int .i64 (n:Nat),.agg #[.bool (dN oP),.slice a (ws (dX oP)).length ca,.int .i64 (dE oP)],.agg #[.bool (dN oS),.slice b (ws (dX oS)).length cb,.int .i64 (dE oS)],.agg #[.bool (dN oT),.slice d (ws (dX oT)).length cd,.int .i64 (dE oT)]] u fun r w'=>DA14 w' r oD 0∧Below u.heap.size u w')) :
 Calls Tryz.prog 136 #[.agg #[.slice (some ⟨gx,0,none⟩) n n,.bool (dN oS),.slice ax (ws (dX oS)).length cx,.int .i64 (dE oS)],.agg #[.slice (some ⟨gy,0,none⟩) n n,.bool (dN oT),.slice ay (ws (dX oT)).length cy,.int .i64 (dE oT)]] w fun r w'=>DVal 0 w' r oD∧Below w.heap.size w w':=by
 obtain ⟨W,hW⟩:∃ W,W=((w.alloc (Obj.cells #[.slice (some ⟨gx,0,none⟩) n n,.bool (dN oS),.slice ax (ws (dX oS)).length cx,.int .i64 (dE oS)] 168)).alloc (Obj.cells #[.slice (some ⟨gy,0,none⟩) n n,.bool (dN oT),.slice ay (ws (dX oT)).length cy,.int .i64 (dE oT)] 168)).alloc (Obj.cells #[.bool false,.slice none 0 0,.int .i64 0] 81):=⟨_,rfl⟩
 have H0:Aside (Bl W w.heap.size 168 [.slice (some ⟨gx,0,none⟩) n n,.bool (dN oS),.slice ax (ws (dX oS)).length cx,.int .i64 (dE oS)]∧Bl W (w.heap.size+1) 168 [.slice (some ⟨gy,0,none⟩) n n,.bool (dN oT),.slice ay (ws (dX oT)).length cy,.int .i64 (dE oT)]∧Lo W (w.heap.size+2) o00∧Below w.heap.size w W∧Nt 0 W (.slice ax (ws (dX oS)).length cx) (dX oS)∧Nt 0 W (.slice ay (ws (dX oT)).length cy) (dX oT)):=by
  have hbW:Below w.heap.size w W:=by rw [hW];exact ((below_alloc _ _).trans ((below_alloc _ _).mono (by simp))).trans ((below_alloc _ _).mono (by simp;omega))
  refine ⟨?_,?_,?_,hbW,N1.below hbW,N2.below hbW⟩
  · rw [hW];exact ((Bl.new w 168 [.slice (some ⟨gx,0,none⟩) n n,.bool (dN oS),.slice ax (ws (dX oS)).length cx,.int .i64 (dE oS)]).alloc _).alloc _
  · have z1:=Bl.new (w.alloc (Obj.cells #[.slice (some ⟨gx,0,none⟩) n n,.bool (dN oS),.slice ax (ws (dX oS)).length cx,.int .i64 (dE oS)] 168)) 168 [.slice (some ⟨gy,0,none⟩) n n,.bool (dN oT),.slice ay (ws (dX oT)).length cy,.int .i64 (dE oT)]
    rw [World.size_alloc] at z1;rw [hW];exact z1.alloc _
  · have z2:=Lo.zero ((w.alloc (Obj.cells #[.slice (some ⟨gx,0,none⟩) n n,.bool (dN oS),.slice ax (ws (dX oS)).length cx,.int .i64 (dE oS)] 168)).alloc (Obj.cells #[.slice (some ⟨gy,0,none⟩) n n,.bool (dN oT),.slice ay (ws (dX oT)).length cy,.int .i64 (dE oT)] 168))
    rw [World.size_alloc,World.size_alloc] at z2;rw [hW];exact z2
 have HW:=qsd hW;have FF:=(qsd (ai hP hD));clear hW N1 N2 hP hD;go_enter Tryz.func136,Tryz.ntmps136
 go_upto_region 1 with fail
 rw [←HW.out];clear HW;have s0:=H0.out.1.cell 0 _ rfl;have hmf:∀ (fn:Fn) (first cap:Array Value) (w:World),(Instr.makeFunc fn first cap).run Tryz.prog w=.ok (.func fn first cap) w:=fun _ _ _ _=>rfl
 have C:=hid (HC.out W H0.out.2.2.2.1 (H0.out.1.cell 0 _ rfl) (H0.out.2.1.cell 0 _ rfl))
 go_wp2_with fail
 refine C.out.mono ?_;rintro r u1 ⟨hd,hb⟩;obtain ⟨a1,c1,rfl,hN1⟩:=hd.shp14;obtain ⟨U,hU⟩:∃ U,U=u1.alloc (Obj.cells #[.bool (dN oP),.slice a1 (ws (dX oP)).length c1,.int .i64 (dE oP)] 81):=⟨_,rfl⟩;obtain ⟨g6,hg6⟩:∃ g,g=u1.heap.size:=⟨_,rfl⟩
 have H1:Aside (Lo U g6 oP∧Bl U w.heap.size 168 [.slice (some ⟨gx,0,none⟩) n n,.bool (dN oS),.slice ax (ws (dX oS)).length cx,.int .i64 (dE oS)]∧Bl U (w.heap.size+1) 168 [.slice (some ⟨gy,0,none⟩) n n,.bool (dN oT),.slice ay (ws (dX oT)).length cy,.int .i64 (dE oT)]∧Lo U (w.heap.size+2) o00∧Below w.heap.size w U∧Nt 0 U (.slice ax (ws (dX oS)).length cx) (dX oS)∧Nt 0 U (.slice ay (ws (dX oT)).length cy) (dX oT)):=by
  have hbU:Below W.heap.size W U:=by rw [hU];exact hb.trans ((below_alloc _ _).mono hb.size)
  refine ⟨?_,H0.out.1.below hbU H0.out.1.lt,H0.out.2.1.below hbU H0.out.2.1.lt,H0.out.2.2.1.below hbU,H0.out.2.2.2.1.trans (hbU.mono H0.out.2.2.2.1.size),H0.out.2.2.2.2.1.below hbU,H0.out.2.2.2.2.2.below hbU⟩;rw [hU,hg6];exact Lo.new hN1
 have HU:=(qsd (ai hU hg6));clear hU hg6 hb hd hN1 C H0 s0
 go_upto_region 3 with fail
 rw [←HU.out.1,←HU.out.2];clear HU;obtain ⟨pp,qp,DP,MP⟩:=H1.out.1;obtain ⟨x0,x1,x2,xf0,xf1,xf2⟩:=DP.facts;have s1:=H1.out.2.1.cell 1 _ rfl;have s2:=H1.out.2.1.cell 2 _ rfl;have s3:=H1.out.2.1.cell 3 _ rfl;have t1:=H1.out.2.2.1.cell 1 _ rfl;have t2:=H1.out.2.2.1.cell 2 _ rfl;have t3:=H1.out.2.2.1.cell 3 _ rfl;have C:=hid (HD.out U pp ax ay qp cx cy H1.out.2.2.2.2.1 MP H1.out.2.2.2.2.2.1 H1.out.2.2.2.2.2.2);clear DP MP
 go_wp2_with fail
 refine C.out.mono ?_;rintro r u2 ⟨hd,hb⟩;obtain ⟨a2,c2,rfl,hN2⟩:=hd.shp14;obtain ⟨V,hV⟩:∃ V,V=u2.alloc (Obj.cells #[.bool (dN oD),.slice a2 (ws (dX oD)).length c2,.int .i64 (dE oD)] 81):=⟨_,rfl⟩;obtain ⟨g7,hg7⟩:∃ g,g=u2.heap.size:=⟨_,rfl⟩
 have H2:Aside (Lo V g7 oD∧Lo V (w.heap.size+2) o00∧Below w.heap.size w V):=by
  have hbV:Below U.heap.size U V:=by rw [hV];exact hb.trans ((below_alloc _ _).mono hb.size)
  refine ⟨?_,H1.out.2.2.2.1.below hbV,H1.out.2.2.2.2.1.trans (hbV.mono H1.out.2.2.2.2.1.size)⟩;rw [hV,hg7];exact Lo.new hN2
 have HV:=(qsd (ai hV hg7));clear hV hg7 hb hd hN2 C H1 x0 x1 x2 xf0 xf1 xf2 s1 s2 s3 t1 t2 t3
 go_upto_region 4 with fail
 rw [←HV.out.1,←HV.out.2];clear HV;obtain ⟨p1,q1,D1,M1⟩:=H2.out.1;obtain ⟨p2,q2,D2,M2⟩:=H2.out.2.1;obtain ⟨x0,x1,x2,xf0,xf1,xf2⟩:=D1.facts;obtain ⟨y0,y1,y2,yf0,yf1,yf2⟩:=D2.facts;have MM1:=qsd M1;clear D1 D2 M1 M2;go_wp2;exact end14 Tryz.results136 rfl H2.out.2.1 H2.out.2.2 (by omega) MM1.out
theorem spread14 {w:World}{v1 v2:Value}{n:Nat}{f g:Nat→Int}{S T:Int}(hn:n≤65536) (hT:Tab w) (bf:∀ i,i<n→Bd 2098 (f i)) (bg:∀ i,i<n→Bd 2098 (g i)) (bS:Bd 2114 S) (bT:Bd 2114 T)
 (h1:Rr w v1 n (fun i=>gV 1074 (f i)) (gV 1074 S)) (h2:Rr w v2 n (fun i=>gV 1074 (g i)) (gV 1074 T)) :
 Calls Tryz.prog 136 #[v1,v2] w fun r w'=>DVal 0 w' r (gV 2148 ((n:Int)*tS (fun i=>f i*g i) n-S*T))∧Below w.heap.size w w':=by
 obtain ⟨gx,ax,cx,rfl,hx,n1⟩:=h1;obtain ⟨gy,ay,cy,rfl,hy,n2⟩:=h2;have bP:=fun k hk=>prod_bd14 bf bg hn k hk
 have bn:Bd 16 (n:Int):=Bd.nat (by omega)
 refine spread_core w n gx gy ax ay cx cy (gV 1074 S) (gV 1074 T) (gV 2148 (tS (fun i=>f i*g i) n)) _ (g_fm (by decide) (by decide) (bP n (Nat.le_refl _))) (g_fm (m:=4229) (by decide) (by decide) (Bd.sub (m:=4228) ((bn.mul (bP n (Nat.le_refl _))).mono (by decide)) ((bS.mul bT).mono (by decide)))) n1 n2 (hid fun u hu k0 k1=>?_) (hid fun u a b d ca cb cd hu m1 m2 m3=>difg14 hn (bP n (Nat.le_refl _)) bS bT (hT.belows hu) m1 m2 m3)
 refine total14_s u n w.heap.size (w.heap.size+1) (fun i=>gV 2148 (f i*g i)) (fun i=>gV 2148 (tS (fun i=>f i*g i) i)) hn (hT.belows hu) (fun i hi=>g_fm (by decide) (by decide) ((bf i hi).mul (bg i hi))) (fun i hi=>g_fm (by decide) (by decide) (bP i hi)) (fun i hi=>g_add (by decide) (by decide) (bP i (by omega)) (((bf i hi).mul (bg i hi)).mono (by decide))) (g_zero 2148).symm (hid fun i v hi hv=>?_)
 have hv2:Below w.heap.size w v:=hu.trans (hv.mono hu.size);exact spreadC14 i n w.heap.size (w.heap.size+1) gx gy (fun i=>gV 1074 (f i)) (fun i=>gV 1074 (g i)) (gV 2148 (f i*g i)) v hi hn (hT.belows hv2) (g_fm (by decide) (by decide) (bf i hi)) (g_fm (by decide) (by decide) (bg i hi)) (g_fm (by decide) (by decide) ((bf i hi).mul (bg i hi))) (g_mul (by decide) (by decide) (by decide) (by decide) (bf i hi) (bg i hi)) (cb14 k0 hv) (cb14 k1 hv) (hx.below hv2) (hy.below hv2)
end
section
open Go.RowKit J
attribute [local go_sem] st_float
theorem wpList_append10 {w:World}{ops:Array Oper}{rest:List Oper}{o:Oper}{a:Act}{Q:Exit→Act→World→Prop}(hgd:o.guard=none) (s x:Operand) (t:TypeId)
 (ho:o.op=.call { callee:=.builtin .append,args:=#[s,x],argTypes:=#[t,t] }) (v u:Value) (hs:a.eval s=v) (hx:a.eval x=u) (v':Value) (w':World)
 (hrun:(Builtin.append_ #[t,t] o.type #[v,u]).run Tryz.prog w=.ok v' w') (h:wpList Tryz.prog ops Q rest (a.put o.dst v') w'):wpList Tryz.prog ops Q (o::rest) a w:=by
 refine wpList_plain hgd fun K hK=>?_
 unfold Oper.wp;simp [execOp,ho,resolve,invoke,builtin,hs,hx,hrun,Result.andThen];exact hK _ _ h
theorem own_fs10 {w:World}{lo n:Nat}{v:Value}{xs:List Nat}(h:w.ownsRow lo 27 1 v n (xs.map Fw10)) (hn:n=xs.length):∃ a c,v=.slice a n c∧n≤c∧Fs w.heap.size w a xs:=by
 have h':=h
 rcases h.2 with ⟨rfl,hn0⟩|⟨g,cap,cur,rfl,hlo,hg,hn1,hm,hs,ht⟩
 · have e:xs=[]:=List.eq_nil_of_length_eq_zero (by rw [←hn];simpa using hn0)
   subst e;have:n=0:=by simpa using hn
   subst this;exact ⟨none,0,rfl,Nat.le_refl _,Fs.nil _ _ _⟩
 · refine ⟨some ⟨g,0,none⟩,cap,rfl,hn1,fun _=>⟨g,0,(Array.getElem?_eq_some_iff.1 hg).1,rfl,fun i hi=>?_⟩⟩
   have:=World.ownsRow.cellAt h' i (by omega)
   rw [Nat.zero_add,this,List.getElem?_map,List.getElem?_eq_getElem hi,List.getD_eq_getElem?_getD,List.getElem?_eq_getElem hi]
   rfl
end
section
open Go Go.RowKit J
def mdB (mode:Int):Bool:=decide (0≤mode)&&decide (mode≤4)
def lsB (less:Int):Bool:=decide (less=0) || decide (less=1)
theorem md_ok {mode:Int}(h:mdB mode=true):0≤mode∧mode≤4:=by unfold mdB at h;simpa using h
theorem ls_ok {less:Int}(h:lsB less=true):less=0∨less=1:=by unfold lsB at h;simpa using h
theorem isMode14 (mode:Int) (w:World):Calls Tryz.prog 77 #[.int .i64 mode] w fun r w'=>r=.returned (.bool (mdB mode))∧w'=w:=by
 unfold mdB
 by_cases h0:0≤mode
 · have d0:decide (0≤mode)=true:=decide_eq_true h0
   by_cases h4:mode≤4
   · have d4:decide (mode≤4)=true:=decide_eq_true h4
     rw [d0,d4];go_enter Tryz.func77,Tryz.ntmps77;go_wp2;go_ret;exact ⟨rfl,rfl⟩
   · have d4:decide (mode≤4)=false:=decide_eq_false h4
     rw [d0,d4];go_enter Tryz.func77,Tryz.ntmps77;go_wp2;go_ret;exact ⟨rfl,rfl⟩
 · have d0:decide (0≤mode)=false:=decide_eq_false h0
   rw [d0,Bool.false_and];go_enter Tryz.func77,Tryz.ntmps77;go_wp2;go_ret;exact ⟨rfl,rfl⟩
theorem isLess14 (less:Int) (w:World):Calls Tryz.prog 78 #[.int .i64 less] w fun r w'=>r=.returned (.bool (lsB less))∧w'=w:=by
 unfold lsB
 by_cases h0:less=0
 · subst h0
   go_enter Tryz.func78,Tryz.ntmps78;go_wp2;go_ret;exact ⟨rfl,rfl⟩
 · by_cases h1:less=1
   · subst h1
     go_enter Tryz.func78,Tryz.ntmps78;go_wp2;go_ret;exact ⟨rfl,rfl⟩
   · rw [decide_eq_false h0,decide_eq_false h1]
     have d0:(less==0)=false:=by simp [h0]
     have d1:(less==1)=false:=by simp [h1]
     go_enter Tryz.func78,Tryz.ntmps78;go_wp2;go_ret;exact ⟨rfl,rfl⟩
theorem shares14 (n:Nat) (less:Int) (w:World) (hT:Tab w) (hn:n≤1099511627776) (h0:0≤less) (h1:less≤1) (hl:less<n) :
 Calls Tryz.prog 80 #[.int .i64 (n:Nat),.int .i64 less] w fun r w'=>DVal 0 w' r (gV 0 ((n:Int)*((n:Int)-less)))∧Below w.heap.size w w':=by
 have b1:Bd 41 (n:Int):=Bd.nat (by omega)
 have b2:Bd 41 ((n:Int)-less):=by unfold Bd;omega
 obtain ⟨oA,hA⟩:∃ o,o=gV 0 (n:Int):=⟨_,rfl⟩;obtain ⟨oB,hB⟩:∃ o,o=gV 0 ((n:Int)-less):=⟨_,rfl⟩;obtain ⟨oC,hC⟩:∃ o,o=gV 0 ((n:Int)*((n:Int)-less)):=⟨_,rfl⟩;have FA:Fm oA:=by rw [hA];exact g_fm (by decide) (by decide) b1
 have FB:Fm oB:=by rw [hB];exact g_fm (by decide) (by decide) b2
 have FC:Fm oC:=by rw [hC];exact g_fm (by decide) (by decide) (b1.mul b2)
 have E:mulD oA oB=oC:=by rw [hA,hB,hC];exact g_mul (by decide) (by decide) (by decide) (by decide) b1 b2
 rw [←hC];have HI1:Hid (∀ u:World,Tab u→Calls Tryz.prog 76 #[.int .i64 (n:Nat)] u fun r w'=>DVal 0 w' r oA∧Below u.heap.size u w'):=fun u hu=>by rw [hA];exact Int14 n u hu (by omega) (by omega)
 have HI2:Hid (∀ u:World,Tab u→Calls Tryz.prog 76 #[.int .i64 ((n:Int)-less)] u fun r w'=>DVal 0 w' r oB∧Below u.heap.size u w'):=fun u hu=>by rw [hB];exact Int14 _ u hu (by omega) (by omega)
 have HX:=qsd (ai FA (ai FB (ai FC (ai E hT))));have hwr:IntKind.i64.wrap ((n:Int)-less)=(n:Int)-less:=by rw [IntKind.wrap_i64];omega
 clear hA hB hC FA FB FC E hT b1 b2;obtain ⟨W,hW⟩:∃ W,W=w.alloc (Obj.cells #[.bool false,.slice none 0 0,.int .i64 0] 81):=⟨_,rfl⟩;have H0:Aside (Lo W w.heap.size o00∧Below w.heap.size w W):=by rw [hW];exact ⟨Lo.zero _,below_alloc _ _⟩
 have HW:=qsd hW;clear hW;go_enter Tryz.func80,Tryz.ntmps80
 go_upto_region 1 with fail
 rw [←HW.out];clear HW;have C:=hid (HI1.out W (HX.out.2.2.2.2.belows H0.out.2))
 go_wp2_with fail
 refine C.out.mono ?_;rintro r u1 ⟨hd,hb⟩;obtain ⟨a1,c1,rfl,hN1⟩:=hd.shp14;have H1:=(qsd (ai (H0.out.1.below hb) (ai (H0.out.2.trans (hb.mono H0.out.2.size)) hN1)));clear hb hd hN1 H0 C;have C:=hid (HI2.out u1 (HX.out.2.2.2.2.belows H1.out.2.1))
 go_wp2_with fail
 refine C.out.mono ?_;rintro r u2 ⟨hd,hb⟩;obtain ⟨a2,c2,rfl,hN2⟩:=hd.shp14;have H2:=(qsd (ai (H1.out.1.below hb) (ai (H1.out.2.1.trans (hb.mono H1.out.2.1.size)) (ai (H1.out.2.2.below hb) hN2))));clear hb hd hN2 H1 C;have C:=hid (times14 HX.out.1 HX.out.2.1 HX.out.2.2.1 H2.out.2.2.1 H2.out.2.2.2 (HX.out.2.2.2.2.belows H2.out.2.1) HX.out.2.2.2.1)
 go_wp2_with fail
 refine C.out.mono ?_;rintro r u3 ⟨hd,hb⟩;obtain ⟨a3,c3,rfl,hN3⟩:=hd.shp14;have H3:=(qsd (ai (H2.out.1.below hb) (ai (H2.out.2.1.trans (hb.mono H2.out.2.1.size)) hN3)));clear hb hd hN3 H2 C;obtain ⟨p2,q2,D2,M2⟩:=H3.out.1;obtain ⟨y0,y1,y2,yf0,yf1,yf2⟩:=D2.facts;clear D2 M2;go_wp2;exact end14 Tryz.results80 rfl H3.out.1 H3.out.2.1 (Nat.le_refl _) H3.out.2.2
noncomputable def qR14 (V D:Option (Bool×Nat×Int)) (mode:Int):Nat×Int:=quoR rndS ⟨dN V,.bool false,dX V,dE V,dN D,.bool false,dX D,dE D⟩ mode
theorem Quot14 {u:World}{a b:Option Addr}{ca cb:Nat}{V D:Option (Bool×Nat×Int)}(mode:Int) (FV:Fm V) (FD:Fm D) (n1:Nt 0 u (.slice a (ws (dX V)).length ca) (dX V)) (n2:Nt 0 u (.slice b (ws (dX D)).length cb) (dX D)) (hT:Tab u) :
 Calls Tryz.prog 75 #[.agg #[.bool (dN V),.slice a (ws (dX V)).length ca,.int .i64 (dE V),.bool (dN D),.slice b (ws (dX D)).length cb,.int .i64 (dE D)],.int .i64 mode] u fun r w'=>r=.returned (.tuple #[.float .f64 (qR14 V D mode).1,.int .i64 (qR14 V D mode).2])∧Below u.heap.size u w' :=
 Quot11 (w:=u) (n:=dN V) (m:=dN D) (X:=dX V) (Y:=dX D) (e:=dE V) (f:=dE D) mode ⟨n1.av (Nat.le_trans FV.len (by decide)),n2.av (Nat.le_trans FD.len (by decide)),FV.rng,FD.rng⟩ hT
theorem ps_rd14 {B:Nat}{w:World}{a:Option Addr}{xs:List Nat}(h:Fs B w a xs):Ps.Rd B w a xs:=h
theorem lt_fs14 {lo:Nat}{w:World}{v:Value}{xs:List Nat}(h:Ps.Lt lo w v xs):∃ a c,v=.slice a xs.length c∧Fs w.heap.size w a xs:=by
 have h2:=h.2;unfold Ps.Lt at h
 rcases h2 with ⟨rfl,h0⟩|⟨g,cap,cur,rfl,hlo,hg,rest⟩
 · exact ⟨none,0,by rw [h0],fun hne=>absurd (List.eq_nil_of_length_eq_zero h0) hne⟩
 · refine ⟨_,cap,rfl,fun _=>⟨g,0,(Array.getElem?_eq_some_iff.1 hg).1,rfl,fun i hi=>?_⟩⟩
   have h1:=h.cells (g:=g) (by simp [Value.ownBlock]) i (.float .f64 (xs.getD i 0)) (by simp [Ps.U,hi])
   have e:(⟨g,0,none⟩:Addr).add i=⟨g,0+i,none⟩:=by unfold Addr.add;split <;> simp_all
   rw [e] at h1;exact h1
theorem Sift14 (xs:List Nat) (a:Option Addr) (n c:Nat) (pa pb:Int) (w:World) (hn:n=xs.length) (hm:n≤35184372088832) (hF:Fs w.heap.size w a xs) (hW:W64 xs) :
 Calls Tryz.prog 88 #[.slice a n c,.agg #[.int .i64 pa,.int .i64 pb]] w fun r w' =>
  ((Ps.siftE pa pb xs≠0∧∃ a' c',r=.returned (.tuple #[.slice a' 0 c',.agg #[.int .i64 0,.int .i64 0,.int .i64 0,.int .i64 0,.int .i64 0,.int .i64 0],.int .i64 (Ps.siftE pa pb xs)])) ∨
   (Ps.siftE pa pb xs=0∧∃ a' c',r=.returned (.tuple #[.slice a' (Ps.fin xs).length c',.agg #[.int .i64 (Ps.cn 5 xs:Nat),.int .i64 (Ps.cn 3 xs:Nat),.int .i64 (Ps.cn 4 xs:Nat),.int .i64 (Ps.cn 1 xs:Nat),.int .i64 (Ps.cn 2 xs:Nat),.int .i64 (xs.length:Nat)],.int .i64 0])∧Fs w'.heap.size w' a' (Ps.fin xs)))∧Below w.heap.size w w':=by
 refine (Ps.Sift_any xs a n c w.heap.size pa pb w hn hm hW (ps_rd14 hF) (Nat.le_refl _)).mono ?_;rintro r w' ⟨v,rfl,hL,hb⟩;refine ⟨?_,hb⟩;unfold Ps.siftS;unfold Ps.siftL at hL
 by_cases h0:Ps.siftE pa pb xs=0
 · rw [if_pos h0] at hL ⊢
   obtain ⟨a',c',rfl,hF'⟩:=lt_fs14 hL;exact .inr ⟨h0,a',c',by rw [h0],hF'⟩
 · rw [if_neg h0] at hL ⊢
   obtain ⟨a',c',rfl,_⟩:=lt_fs14 hL;exact .inl ⟨h0,a',c',rfl⟩
def crB (pa pb:Int) (xs:List Nat):Bool:=(decide (0<Ps.cn 5 xs)&&decide (pa=0)) || (decide (0<Ps.cn 3 xs+Ps.cn 4 xs)&&decide (pb=0))
theorem siftE_ok14 {pa pb:Int}{xs:List Nat}(h:Ps.siftE pa pb xs=0):may pa pb=true∧xs.length≤65536:=by
 unfold Ps.siftE at h
 cases hm:may pa pb with
 | false=>rw [hm] at h;simp at h
 | true =>
   rw [hm,if_neg (by decide)] at h
   by_cases hl:65536<xs.length
   · rw [if_pos hl] at h;exact absurd h (by decide)
   · exact ⟨rfl,by omega⟩
theorem cn_sum14:∀ xs:List Nat,Ps.cn 5 xs+Ps.cn 3 xs+Ps.cn 4 xs+Ps.cn 1 xs+Ps.cn 2 xs≤xs.length
 | []=>by simp [Ps.cn]
 | x::xs=>by
   have ih:=cn_sum14 xs;unfold Ps.cn at ih ⊢;simp only [List.countP_cons,List.length_cons];have hk:=Ps.kd_le x;obtain q|q|q|q|q|q:kd x=0∨kd x=1∨kd x=2∨kd x=3∨kd x=4∨kd x=5:=by omega
   all_goals (rw [q];simp;omega)
theorem vd14 {pa pb:Int}{xs:List Nat}(h:Ps.siftE pa pb xs=0):(vd (snd (Ps.cn 5 xs:Nat) (Ps.cn 3 xs:Nat) (Ps.cn 4 xs:Nat) (Ps.cn 1 xs:Nat) (Ps.cn 2 xs:Nat) (xs.length:Nat)&&may pa pb) (Ps.cn 5 xs:Nat) (Ps.cn 3 xs:Nat) (Ps.cn 4 xs:Nat) pa pb).2=crB pa pb xs:=by
 obtain ⟨hm,hl⟩:=siftE_ok14 h;have hs:=cn_sum14 xs
 have e:snd (Ps.cn 5 xs:Nat) (Ps.cn 3 xs:Nat) (Ps.cn 4 xs:Nat) (Ps.cn 1 xs:Nat) (Ps.cn 2 xs:Nat) (xs.length:Nat)=true:=by
  unfold snd ct;simp;omega
 rw [e,hm];unfold vd crB
 by_cases h5:0<Ps.cn 5 xs∧pa=0
 · have h5':0<((Ps.cn 5 xs:Nat):Int)∧pa=0:=⟨by omega,h5.2⟩
   rw [if_neg (by decide),if_pos h5']
   simp [h5.1,h5.2]
 · have h5':¬ (0<((Ps.cn 5 xs:Nat):Int)∧pa=0):=fun q=>h5 ⟨by omega,q.2⟩
   have e5:(decide (0<Ps.cn 5 xs)&&decide (pa=0))=false:=by
    rcases Nat.lt_or_ge 0 (Ps.cn 5 xs) with q|q
    · have:¬ pa=0:=fun r=>h5 ⟨q,r⟩
      simp [this]
    · have:¬ 0<Ps.cn 5 xs:=by omega
      simp [this]
   rw [if_neg (by decide),if_neg h5',e5,Bool.false_or]
   by_cases hb:pb=0
   · subst hb
     rw [if_neg (by simp)]
     by_cases h3:0<Ps.cn 3 xs
     · have:0<Ps.cn 3 xs+Ps.cn 4 xs:=by omega
       by_cases h4:0<Ps.cn 4 xs
       · rw [if_pos ⟨by omega,by omega⟩];simp [this]
       · rw [if_neg (by omega),if_pos (by omega)];simp [this]
     · by_cases h4:0<Ps.cn 4 xs
       · have:0<Ps.cn 3 xs+Ps.cn 4 xs:=by omega
         rw [if_neg (by omega),if_neg (by omega),if_pos (by omega)];simp [this]
       · have:¬ 0<Ps.cn 3 xs+Ps.cn 4 xs:=by omega
         rw [if_neg (by omega),if_neg (by omega),if_neg (by omega)];simp [this]
   · rw [if_pos hb];simp [hb]
theorem Verdict14 {pa pb:Int}{xs:List Nat}(h:Ps.siftE pa pb xs=0) (w:World):Calls Tryz.prog 35 #[.agg #[.int .i64 (Ps.cn 5 xs:Nat),.int .i64 (Ps.cn 3 xs:Nat),.int .i64 (Ps.cn 4 xs:Nat),.int .i64 (Ps.cn 1 xs:Nat),.int .i64 (Ps.cn 2 xs:Nat),.int .i64 (xs.length:Nat)],.agg #[.int .i64 pa,.int .i64 pb]] w fun r w'=>(∃ x,r=.returned (.tuple #[.float .f64 x,.bool (crB pa pb xs)]))∧Below w.heap.size w w':=by
 refine (Verdict_any _ _ _ _ _ _ pa pb w).mono ?_;rintro r w' ⟨rfl,hb⟩;exact ⟨⟨_,by rw [vd14 h]⟩,hb⟩
theorem fin_W14 {xs:List Nat}(h:W64 xs):W64 (Ps.fin xs):=fun x hx=>h x (List.mem_filter.1 hx).1
theorem fin_all14 {xs:List Nat}(h:W64 xs):∀ x ∈ Ps.fin xs,finW x:=fun x hx=>by
 have hk:kd x≤2:=by simpa using (List.mem_filter.1 hx).2
 have hl:=h x (List.mem_filter.1 hx).1
 show magW x<9218868437227405312
 have em:magW x=x%9223372036854775808:=rfl;unfold kd at hk
 rcases Nat.lt_or_ge (magW x) 9218868437227405312 with q|q
 · exact q
 · rcases Nat.eq_or_lt_of_le q with r | r
   · rw [if_neg (by omega),if_pos (by omega)] at hk;split at hk <;> omega
   · rw [if_pos (by omega)] at hk;omega
theorem fin_len14 {pa pb:Int}{xs:List Nat}(h:Ps.siftE pa pb xs=0):(Ps.fin xs).length≤65536:=Nat.le_trans (Ps.fin_le xs) (siftE_ok14 h).2
theorem fin_ex14 {pa pb:Int}{xs:List Nat}(hW:W64 xs) (h:Ps.siftE pa pb xs=0):exE (Ps.fin xs)=0:=by
 unfold exE;rw [if_neg (by have:=fin_len14 h;omega),if_pos ((fiB_iff _).2 (fin_all14 hW))]
end
end Go.Proofs.YtdcggkapbkjjbaaGreatDoor
