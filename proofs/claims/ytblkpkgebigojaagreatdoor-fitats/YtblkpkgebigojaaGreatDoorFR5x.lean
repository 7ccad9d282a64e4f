import Derived.Test.YtblkpkgebigojaaGreatDoorFR4x
import Derived.Test.YtblkpkgebigojaaGreatDoorFI8x
set_option linter.unusedVariables false
set_option linter.unusedSimpArgs false
set_option maxHeartbeats 16000000
set_option maxRecDepth 20000
namespace Go.Proofs.YtblkpkgebigojaaGreatDoor
namespace J
end J
section
open Go Go.RowKit J
theorem Zu5 {w:World}{a1 a2 a3 a4 a5:Option Addr}{c1 c2 c3 c4 c5 n:Nat}{oX oY oXX oXY oYY:Option (Bool×Nat×Int)}(oN p1 p2 oD:Option (Bool×Nat×Int)) (FF:Aside (Fm oN∧Fm oX∧Fm oXX∧Fm p1∧Fm p2∧Fm oD)) (EE:Aside (mulD oN oXX=p1∧mulD oX oX=p2∧addD p1 (mkS (!dN p2) (dX p2) (dE p2))=oD)) (HI:Hid (∀ u:World,Calls Tryz.prog 50 #[.int .i64 (n:Nat)] u fun r w'=>DVal 0 w' r oN∧Below u.heap.size u w')) (HN:Nt 0 w (.slice a1 (ws (dX oX)).length c1) (dX oX)∧Nt 0 w (.slice a2 (ws (dX oY)).length c2) (dX oY)∧Nt 0 w (.slice a3 (ws (dX oXX)).length c3) (dX oXX)∧Nt 0 w (.slice a4 (ws (dX oXY)).length c4) (dX oXY)∧Nt 0 w (.slice a5 (ws (dX oYY)).length c5) (dX oYY)) :
 Calls Tryz.prog 43 #[.agg #[.int .i64 (n:Nat),.bool (dN oX),.slice a1 (ws (dX oX)).length c1,.int .i64 (dE oX),.bool (dN oY),.slice a2 (ws (dX oY)).length c2,.int .i64 (dE oY),.bool (dN oXX),.slice a3 (ws (dX oXX)).length c3,.int .i64 (dE oXX),.bool (dN oXY),.slice a4 (ws (dX oXY)).length c4,.int .i64 (dE oXY),.bool (dN oYY),.slice a5 (ws (dX oYY)).length c5,.int .i64 (dE oYY)]] w fun r w'=>DVal 0 w' r oD∧Below w.heap.size w w':=by
 obtain ⟨W,hW⟩:∃ W,W=(w.alloc (Obj.cells #[.int .i64 (n:Nat),.bool (dN oX),.slice a1 (ws (dX oX)).length c1,.int .i64 (dE oX),.bool (dN oY),.slice a2 (ws (dX oY)).length c2,.int .i64 (dE oY),.bool (dN oXX),.slice a3 (ws (dX oXX)).length c3,.int .i64 (dE oXX),.bool (dN oXY),.slice a4 (ws (dX oXY)).length c4,.int .i64 (dE oXY),.bool (dN oYY),.slice a5 (ws (dX oYY)).length c5,.int .i64 (dE oYY)] 70)).alloc (Obj.cells #[.bool false,.slice none 0 0,.int .i64 0] 62):=⟨_,rfl⟩;obtain ⟨g,hg⟩:∃ g,g=w.heap.size:=⟨_,rfl⟩;obtain ⟨g2,hg2⟩:∃ g,g=w.heap.size+1:=⟨_,rfl⟩
 have B0:Aside (Bl W g 70 [.int .i64 (n:Nat),.bool (dN oX),.slice a1 (ws (dX oX)).length c1,.int .i64 (dE oX),.bool (dN oY),.slice a2 (ws (dX oY)).length c2,.int .i64 (dE oY),.bool (dN oXX),.slice a3 (ws (dX oXX)).length c3,.int .i64 (dE oXX),.bool (dN oXY),.slice a4 (ws (dX oXY)).length c4,.int .i64 (dE oXY),.bool (dN oYY),.slice a5 (ws (dX oYY)).length c5,.int .i64 (dE oYY)]∧Lo W g2 o00∧Below w.heap.size w W∧w.heap.size≤g2):=by
  have z2:=Lo.zero (w.alloc (Obj.cells #[.int .i64 (n:Nat),.bool (dN oX),.slice a1 (ws (dX oX)).length c1,.int .i64 (dE oX),.bool (dN oY),.slice a2 (ws (dX oY)).length c2,.int .i64 (dE oY),.bool (dN oXX),.slice a3 (ws (dX oXX)).length c3,.int .i64 (dE oXX),.bool (dN oXY),.slice a4 (ws (dX oXY)).length c4,.int .i64 (dE oXY),.bool (dN oYY),.slice a5 (ws (dX oYY)).length c5,.int .i64 (dE oYY)] 70));rw [World.size_alloc] at z2;rw [hW,hg,hg2];exact ⟨(Bl.new _ 70 [.int .i64 (n:Nat),.bool (dN oX),.slice a1 (ws (dX oX)).length c1,.int .i64 (dE oX),.bool (dN oY),.slice a2 (ws (dX oY)).length c2,.int .i64 (dE oY),.bool (dN oXX),.slice a3 (ws (dX oXX)).length c3,.int .i64 (dE oXX),.bool (dN oXY),.slice a4 (ws (dX oXY)).length c4,.int .i64 (dE oXY),.bool (dN oYY),.slice a5 (ws (dX oYY)).length c5,.int .i64 (dE oYY)]).alloc _,z2,(Zd _ _).trans ((Zd _ _).mono (by simp)),by omega⟩
 have NW:Aside (Nt 0 W (.slice a1 (ws (dX oX)).length c1) (dX oX)∧Nt 0 W (.slice a2 (ws (dX oY)).length c2) (dX oY)∧Nt 0 W (.slice a3 (ws (dX oXX)).length c3) (dX oXX)∧Nt 0 W (.slice a4 (ws (dX oXY)).length c4) (dX oXY)∧Nt 0 W (.slice a5 (ws (dX oYY)).length c5) (dX oYY)):=⟨HN.1.below B0.out.2.2.1,HN.2.1.below B0.out.2.2.1,HN.2.2.1.below B0.out.2.2.1,HN.2.2.2.1.below B0.out.2.2.1,HN.2.2.2.2.below B0.out.2.2.1⟩;have HW:=(qsd (ai hW (ai hg hg2)));clear hW hg hg2 HN;go_enter Tryz.func43,Tryz.ntmps43
 go_upto_region 1 with fail
 rw [←HW.out.1]
 try rw [←HW.out.2.2]
 try rw [←HW.out.2.1]
 clear HW;have BD:Aside (Lo W.drew g2 o00∧Nt 0 W.drew (.slice a1 (ws (dX oX)).length c1) (dX oX)∧Nt 0 W.drew (.slice a2 (ws (dX oY)).length c2) (dX oY)∧Nt 0 W.drew (.slice a3 (ws (dX oXX)).length c3) (dX oXX)∧Nt 0 W.drew (.slice a4 (ws (dX oXY)).length c4) (dX oXY)∧Nt 0 W.drew (.slice a5 (ws (dX oYY)).length c5) (dX oYY)∧Below w.heap.size w W.drew):=⟨B0.out.2.1.below (Below.refl _ _).drew,NW.out.1.below (Below.refl _ _).drew,NW.out.2.1.below (Below.refl _ _).drew,NW.out.2.2.1.below (Below.refl _ _).drew,NW.out.2.2.2.1.below (Below.refl _ _).drew,NW.out.2.2.2.2.below (Below.refl _ _).drew,B0.out.2.2.1.drew⟩;have kS:Aside (W.drew.cell? ⟨g,0,none⟩=some (.int .i64 (n:Nat))∧W.drew.cell? ⟨g,1,none⟩=some (.bool (dN oX))∧W.drew.cell? ⟨g,2,none⟩=some (.slice a1 (ws (dX oX)).length c1)∧W.drew.cell? ⟨g,3,none⟩=some (.int .i64 (dE oX))∧W.drew.cell? ⟨g,4,none⟩=some (.bool (dN oY))∧W.drew.cell? ⟨g,5,none⟩=some (.slice a2 (ws (dX oY)).length c2)∧W.drew.cell? ⟨g,6,none⟩=some (.int .i64 (dE oY))∧W.drew.cell? ⟨g,7,none⟩=some (.bool (dN oXX))∧W.drew.cell? ⟨g,8,none⟩=some (.slice a3 (ws (dX oXX)).length c3)∧W.drew.cell? ⟨g,9,none⟩=some (.int .i64 (dE oXX))∧W.drew.cell? ⟨g,10,none⟩=some (.bool (dN oXY))∧W.drew.cell? ⟨g,11,none⟩=some (.slice a4 (ws (dX oXY)).length c4)∧W.drew.cell? ⟨g,12,none⟩=some (.int .i64 (dE oXY))∧W.drew.cell? ⟨g,13,none⟩=some (.bool (dN oYY))∧W.drew.cell? ⟨g,14,none⟩=some (.slice a5 (ws (dX oYY)).length c5)∧W.drew.cell? ⟨g,15,none⟩=some (.int .i64 (dE oYY))):=⟨(B0.out.1.below (Below.refl _ _).drew B0.out.1.lt).cell 0 _ rfl,(B0.out.1.below (Below.refl _ _).drew B0.out.1.lt).cell 1 _ rfl,(B0.out.1.below (Below.refl _ _).drew B0.out.1.lt).cell 2 _ rfl,(B0.out.1.below (Below.refl _ _).drew B0.out.1.lt).cell 3 _ rfl,(B0.out.1.below (Below.refl _ _).drew B0.out.1.lt).cell 4 _ rfl,(B0.out.1.below (Below.refl _ _).drew B0.out.1.lt).cell 5 _ rfl,(B0.out.1.below (Below.refl _ _).drew B0.out.1.lt).cell 6 _ rfl,(B0.out.1.below (Below.refl _ _).drew B0.out.1.lt).cell 7 _ rfl,(B0.out.1.below (Below.refl _ _).drew B0.out.1.lt).cell 8 _ rfl,(B0.out.1.below (Below.refl _ _).drew B0.out.1.lt).cell 9 _ rfl,(B0.out.1.below (Below.refl _ _).drew B0.out.1.lt).cell 10 _ rfl,(B0.out.1.below (Below.refl _ _).drew B0.out.1.lt).cell 11 _ rfl,(B0.out.1.below (Below.refl _ _).drew B0.out.1.lt).cell 12 _ rfl,(B0.out.1.below (Below.refl _ _).drew B0.out.1.lt).cell 13 _ rfl,(B0.out.1.below (Below.refl _ _).drew B0.out.1.lt).cell 14 _ rfl,(B0.out.1.below (Below.refl _ _).drew B0.out.1.lt).cell 15 _ rfl⟩;have HG:=qsd B0.out.2.2.2;clear B0 NW;refine Zn (fun w'=>w'.cell? ⟨g,0,none⟩=some (.int .i64 (n:Nat))∧w'.cell? ⟨g,1,none⟩=some (.bool (dN oX))∧w'.cell? ⟨g,2,none⟩=some (.slice a1 (ws (dX oX)).length c1)∧w'.cell? ⟨g,3,none⟩=some (.int .i64 (dE oX))∧w'.cell? ⟨g,4,none⟩=some (.bool (dN oY))∧w'.cell? ⟨g,5,none⟩=some (.slice a2 (ws (dX oY)).length c2)∧w'.cell? ⟨g,6,none⟩=some (.int .i64 (dE oY))∧w'.cell? ⟨g,7,none⟩=some (.bool (dN oXX))∧w'.cell? ⟨g,8,none⟩=some (.slice a3 (ws (dX oXX)).length c3)∧w'.cell? ⟨g,9,none⟩=some (.int .i64 (dE oXX))∧w'.cell? ⟨g,10,none⟩=some (.bool (dN oXY))∧w'.cell? ⟨g,11,none⟩=some (.slice a4 (ws (dX oXY)).length c4)∧w'.cell? ⟨g,12,none⟩=some (.int .i64 (dE oXY))∧w'.cell? ⟨g,13,none⟩=some (.bool (dN oYY))∧w'.cell? ⟨g,14,none⟩=some (.slice a5 (ws (dX oYY)).length c5)∧w'.cell? ⟨g,15,none⟩=some (.int .i64 (dE oYY))) 12 (by kernel_rfl) ?_
 obtain ⟨Wd,hWd⟩:∃ Vq,Vq=W.drew:=⟨_,rfl⟩;rw [←hWd] at BD kS ⊢;clear hWd
 refine tk 0 [1,2,5,10,11] rfl kS.out ?_;try simp only [Act.put,sa,sb,sc]
 refine tk 1 [2,5,10,11] rfl kS.out ?_;try simp only [Act.put,sa,sb,sc]
 refine tk 3 [4,5,10,11] rfl kS.out ?_;try simp only [Act.put,sa,sb,sc]
 refine tk 4 [5,10,11] rfl kS.out ?_;try simp only [Act.put,sa,sb,sc]
 refine tk 6 [7,10,11] rfl kS.out ?_;try simp only [Act.put,sa,sb,sc]
 refine tk 7 [10,11] rfl kS.out ?_;try simp only [Act.put,sa,sb,sc]
 refine tk 8 [9,10,11] rfl kS.out ?_;try simp only [Act.put,sa,sb,sc]
 refine tk 9 [10,11] rfl kS.out ?_;try simp only [Act.put,sa,sb,sc]
 refine Zb (i:=2) (by kernel_rfl) rfl (fun K' hK=>?_)
 have C:=hid (HI.out Wd)
 go_simp
 refine C.out.mono ?_;rintro r u1_ ⟨hd,hb⟩;obtain ⟨oNa,oNc,rfl,hN⟩:=hd.shp14;clear hd;have BD2:=qsd (ai (BD.out.1.below hb) (ai (BD.out.2.1.below hb) (ai (BD.out.2.2.1.below hb) (ai (BD.out.2.2.2.1.below hb) (ai (BD.out.2.2.2.2.1.below hb) (ai (BD.out.2.2.2.2.2.1.below hb) (ai (BD.out.2.2.2.2.2.2.trans (hb.mono BD.out.2.2.2.2.2.2.size)) hN)))))));have kS2:=qsd (ck hb kS.out fun h=>ck hb h fun h=>ck hb h fun h=>ck4 hb h);clear hb hN C BD kS;have BD:=BD2;have kS:=kS2;clear BD2 kS2
 try dsimp only
 refine hK.out _ _ (fun _=>kS.out) ?_
 clear hK K'
 try simp only [Act.put,sa,sb,sc]
 refine Zb (i:=5) (by kernel_rfl) rfl (fun K' hK=>?_)
 have C:=hid (Qn FF.out.1 FF.out.2.2.1 FF.out.2.2.2.1 BD.out.2.2.2.2.2.2.2 BD.out.2.2.2.1 EE.out.1)
 go_simp
 refine C.out.mono ?_;rintro r u2_ ⟨hd,hb⟩;obtain ⟨p1a,p1c,rfl,hN⟩:=hd.shp14;clear hd;have BD2:=qsd (ai (BD.out.1.below hb) (ai (BD.out.2.1.below hb) (ai (BD.out.2.2.1.below hb) (ai (BD.out.2.2.2.1.below hb) (ai (BD.out.2.2.2.2.1.below hb) (ai (BD.out.2.2.2.2.2.1.below hb) (ai (BD.out.2.2.2.2.2.2.1.trans (hb.mono BD.out.2.2.2.2.2.2.1.size)) (ai (BD.out.2.2.2.2.2.2.2.below hb) hN))))))));have kS2:=qsd (ck hb kS.out fun h=>ck hb h fun h=>ck hb h fun h=>ck4 hb h);clear hb hN C BD kS;have BD:=BD2;have kS:=kS2;clear BD2 kS2
 try dsimp only
 refine hK.out _ _ (fun _=>kS.out) ?_
 clear hK K'
 try simp only [Act.put,sa,sb,sc]
 refine Zb (i:=10) (by kernel_rfl) rfl (fun K' hK=>?_)
 have C:=hid (Qn FF.out.2.1 FF.out.2.1 FF.out.2.2.2.2.1 BD.out.2.1 BD.out.2.1 EE.out.2.1)
 go_simp
 refine C.out.mono ?_;rintro r u3_ ⟨hd,hb⟩;obtain ⟨p2a,p2c,rfl,hN⟩:=hd.shp14;clear hd;have BD2:=qsd (ai (BD.out.1.below hb) (ai (BD.out.2.1.below hb) (ai (BD.out.2.2.1.below hb) (ai (BD.out.2.2.2.1.below hb) (ai (BD.out.2.2.2.2.1.below hb) (ai (BD.out.2.2.2.2.2.1.below hb) (ai (BD.out.2.2.2.2.2.2.1.trans (hb.mono BD.out.2.2.2.2.2.2.1.size)) (ai (BD.out.2.2.2.2.2.2.2.1.below hb) (ai (BD.out.2.2.2.2.2.2.2.2.below hb) hN)))))))));have kS2:=qsd (ck hb kS.out fun h=>ck hb h fun h=>ck hb h fun h=>ck4 hb h);clear hb hN C BD kS;have BD:=BD2;have kS:=kS2;clear BD2 kS2
 try dsimp only
 refine hK.out _ _ (fun _=>kS.out) ?_
 clear hK K'
 try simp only [Act.put,sa,sb,sc]
 refine Zb (i:=11) (by kernel_rfl) rfl (fun K' hK=>?_)
 have C:=hid (Zc4 FF.out.2.2.2.1 FF.out.2.2.2.2.1 FF.out.2.2.2.2.2 BD.out.2.2.2.2.2.2.2.2.1 BD.out.2.2.2.2.2.2.2.2.2 EE.out.2.2)
 go_simp
 refine C.out.mono ?_;rintro r u4_ ⟨hd,hb⟩;obtain ⟨oDa,oDc,rfl,hN⟩:=hd.shp14;clear hd;have BD2:=qsd (ai (BD.out.1.below hb) (ai (BD.out.2.1.below hb) (ai (BD.out.2.2.1.below hb) (ai (BD.out.2.2.2.1.below hb) (ai (BD.out.2.2.2.2.1.below hb) (ai (BD.out.2.2.2.2.2.1.below hb) (ai (BD.out.2.2.2.2.2.2.1.trans (hb.mono BD.out.2.2.2.2.2.2.1.size)) (ai (BD.out.2.2.2.2.2.2.2.1.below hb) (ai (BD.out.2.2.2.2.2.2.2.2.1.below hb) (ai (BD.out.2.2.2.2.2.2.2.2.2.below hb) hN))))))))));have kS2:=qsd (ck hb kS.out fun h=>ck hb h fun h=>ck hb h fun h=>ck4 hb h);clear hb hN C BD kS;have BD:=BD2;have kS:=kS2;clear BD2 kS2
 try dsimp only
 refine hK.out _ _ (fun _=>kS.out) ?_
 clear hK K'
 try simp only [Act.put,sa,sb,sc]
 obtain ⟨p4,q4,D4,M4⟩:=BD.out.1;obtain ⟨y0,y1,y2,yf0,yf1,yf2⟩:=D4.facts;clear D4 M4;refine Zb (i:=12) (by kernel_rfl) rfl (fun K' hK=>?_)
 go_simp
 refine hK.out _ _ (fun h=>absurd h (by decide)) ?_
 clear hK K' y0 y1 y2 yf0 yf1 yf2;refine Zs (by kernel_rfl) ?_ _
 go_wp2;exact Za2 Tryz.results43 rfl BD.out.1 BD.out.2.2.2.2.2.2.1 HG.out BD.out.2.2.2.2.2.2.2.2.2.2
theorem Zu6 {w:World}{a1 a2 a3 a4 a5:Option Addr}{c1 c2 c3 c4 c5 n:Nat}{oX oY oXX oXY oYY:Option (Bool×Nat×Int)}(oN p1 p2 oD:Option (Bool×Nat×Int)) (FF:Aside (Fm oN∧Fm oX∧Fm oY∧Fm oXY∧Fm p1∧Fm p2∧Fm oD)) (EE:Aside (mulD oN oXY=p1∧mulD oX oY=p2∧addD p1 (mkS (!dN p2) (dX p2) (dE p2))=oD)) (HI:Hid (∀ u:World,Calls Tryz.prog 50 #[.int .i64 (n:Nat)] u fun r w'=>DVal 0 w' r oN∧Below u.heap.size u w')) (HN:Nt 0 w (.slice a1 (ws (dX oX)).length c1) (dX oX)∧Nt 0 w (.slice a2 (ws (dX oY)).length c2) (dX oY)∧Nt 0 w (.slice a3 (ws (dX oXX)).length c3) (dX oXX)∧Nt 0 w (.slice a4 (ws (dX oXY)).length c4) (dX oXY)∧Nt 0 w (.slice a5 (ws (dX oYY)).length c5) (dX oYY)) :
 Calls Tryz.prog 44 #[.agg #[.int .i64 (n:Nat),.bool (dN oX),.slice a1 (ws (dX oX)).length c1,.int .i64 (dE oX),.bool (dN oY),.slice a2 (ws (dX oY)).length c2,.int .i64 (dE oY),.bool (dN oXX),.slice a3 (ws (dX oXX)).length c3,.int .i64 (dE oXX),.bool (dN oXY),.slice a4 (ws (dX oXY)).length c4,.int .i64 (dE oXY),.bool (dN oYY),.slice a5 (ws (dX oYY)).length c5,.int .i64 (dE oYY)]] w fun r w'=>DVal 0 w' r oD∧Below w.heap.size w w':=by
 obtain ⟨W,hW⟩:∃ W,W=(w.alloc (Obj.cells #[.int .i64 (n:Nat),.bool (dN oX),.slice a1 (ws (dX oX)).length c1,.int .i64 (dE oX),.bool (dN oY),.slice a2 (ws (dX oY)).length c2,.int .i64 (dE oY),.bool (dN oXX),.slice a3 (ws (dX oXX)).length c3,.int .i64 (dE oXX),.bool (dN oXY),.slice a4 (ws (dX oXY)).length c4,.int .i64 (dE oXY),.bool (dN oYY),.slice a5 (ws (dX oYY)).length c5,.int .i64 (dE oYY)] 70)).alloc (Obj.cells #[.bool false,.slice none 0 0,.int .i64 0] 62):=⟨_,rfl⟩;obtain ⟨g,hg⟩:∃ g,g=w.heap.size:=⟨_,rfl⟩;obtain ⟨g2,hg2⟩:∃ g,g=w.heap.size+1:=⟨_,rfl⟩
 have B0:Aside (Bl W g 70 [.int .i64 (n:Nat),.bool (dN oX),.slice a1 (ws (dX oX)).length c1,.int .i64 (dE oX),.bool (dN oY),.slice a2 (ws (dX oY)).length c2,.int .i64 (dE oY),.bool (dN oXX),.slice a3 (ws (dX oXX)).length c3,.int .i64 (dE oXX),.bool (dN oXY),.slice a4 (ws (dX oXY)).length c4,.int .i64 (dE oXY),.bool (dN oYY),.slice a5 (ws (dX oYY)).length c5,.int .i64 (dE oYY)]∧Lo W g2 o00∧Below w.heap.size w W∧w.heap.size≤g2):=by
  have z2:=Lo.zero (w.alloc (Obj.cells #[.int .i64 (n:Nat),.bool (dN oX),.slice a1 (ws (dX oX)).length c1,.int .i64 (dE oX),.bool (dN oY),.slice a2 (ws (dX oY)).length c2,.int .i64 (dE oY),.bool (dN oXX),.slice a3 (ws (dX oXX)).length c3,.int .i64 (dE oXX),.bool (dN oXY),.slice a4 (ws (dX oXY)).length c4,.int .i64 (dE oXY),.bool (dN oYY),.slice a5 (ws (dX oYY)).length c5,.int .i64 (dE oYY)] 70));rw [World.size_alloc] at z2;rw [hW,hg,hg2];exact ⟨(Bl.new _ 70 [.int .i64 (n:Nat),.bool (dN oX),.slice a1 (ws (dX oX)).length c1,.int .i64 (dE oX),.bool (dN oY),.slice a2 (ws (dX oY)).length c2,.int .i64 (dE oY),.bool (dN oXX),.slice a3 (ws (dX oXX)).length c3,.int .i64 (dE oXX),.bool (dN oXY),.slice a4 (ws (dX oXY)).length c4,.int .i64 (dE oXY),.bool (dN oYY),.slice a5 (ws (dX oYY)).length c5,.int .i64 (dE oYY)]).alloc _,z2,(Zd _ _).trans ((Zd _ _).mono (by simp)),by omega⟩
 have NW:Aside (Nt 0 W (.slice a1 (ws (dX oX)).length c1) (dX oX)∧Nt 0 W (.slice a2 (ws (dX oY)).length c2) (dX oY)∧Nt 0 W (.slice a3 (ws (dX oXX)).length c3) (dX oXX)∧Nt 0 W (.slice a4 (ws (dX oXY)).length c4) (dX oXY)∧Nt 0 W (.slice a5 (ws (dX oYY)).length c5) (dX oYY)):=⟨HN.1.below B0.out.2.2.1,HN.2.1.below B0.out.2.2.1,HN.2.2.1.below B0.out.2.2.1,HN.2.2.2.1.below B0.out.2.2.1,HN.2.2.2.2.below B0.out.2.2.1⟩;have HW:=(qsd (ai hW (ai hg hg2)));clear hW hg hg2 HN;go_enter Tryz.func44,Tryz.ntmps44
 go_upto_region 1 with fail
 rw [←HW.out.1]
 try rw [←HW.out.2.2]
 try rw [←HW.out.2.1]
 clear HW;have BD:Aside (Lo W.drew g2 o00∧Nt 0 W.drew (.slice a1 (ws (dX oX)).length c1) (dX oX)∧Nt 0 W.drew (.slice a2 (ws (dX oY)).length c2) (dX oY)∧Nt 0 W.drew (.slice a3 (ws (dX oXX)).length c3) (dX oXX)∧Nt 0 W.drew (.slice a4 (ws (dX oXY)).length c4) (dX oXY)∧Nt 0 W.drew (.slice a5 (ws (dX oYY)).length c5) (dX oYY)∧Below w.heap.size w W.drew):=⟨B0.out.2.1.below (Below.refl _ _).drew,NW.out.1.below (Below.refl _ _).drew,NW.out.2.1.below (Below.refl _ _).drew,NW.out.2.2.1.below (Below.refl _ _).drew,NW.out.2.2.2.1.below (Below.refl _ _).drew,NW.out.2.2.2.2.below (Below.refl _ _).drew,B0.out.2.2.1.drew⟩;have kS:Aside (W.drew.cell? ⟨g,0,none⟩=some (.int .i64 (n:Nat))∧W.drew.cell? ⟨g,1,none⟩=some (.bool (dN oX))∧W.drew.cell? ⟨g,2,none⟩=some (.slice a1 (ws (dX oX)).length c1)∧W.drew.cell? ⟨g,3,none⟩=some (.int .i64 (dE oX))∧W.drew.cell? ⟨g,4,none⟩=some (.bool (dN oY))∧W.drew.cell? ⟨g,5,none⟩=some (.slice a2 (ws (dX oY)).length c2)∧W.drew.cell? ⟨g,6,none⟩=some (.int .i64 (dE oY))∧W.drew.cell? ⟨g,7,none⟩=some (.bool (dN oXX))∧W.drew.cell? ⟨g,8,none⟩=some (.slice a3 (ws (dX oXX)).length c3)∧W.drew.cell? ⟨g,9,none⟩=some (.int .i64 (dE oXX))∧W.drew.cell? ⟨g,10,none⟩=some (.bool (dN oXY))∧W.drew.cell? ⟨g,11,none⟩=some (.slice a4 (ws (dX oXY)).length c4)∧W.drew.cell? ⟨g,12,none⟩=some (.int .i64 (dE oXY))∧W.drew.cell? ⟨g,13,none⟩=some (.bool (dN oYY))∧W.drew.cell? ⟨g,14,none⟩=some (.slice a5 (ws (dX oYY)).length c5)∧W.drew.cell? ⟨g,15,none⟩=some (.int .i64 (dE oYY))):=⟨(B0.out.1.below (Below.refl _ _).drew B0.out.1.lt).cell 0 _ rfl,(B0.out.1.below (Below.refl _ _).drew B0.out.1.lt).cell 1 _ rfl,(B0.out.1.below (Below.refl _ _).drew B0.out.1.lt).cell 2 _ rfl,(B0.out.1.below (Below.refl _ _).drew B0.out.1.lt).cell 3 _ rfl,(B0.out.1.below (Below.refl _ _).drew B0.out.1.lt).cell 4 _ rfl,(B0.out.1.below (Below.refl _ _).drew B0.out.1.lt).cell 5 _ rfl,(B0.out.1.below (Below.refl _ _).drew B0.out.1.lt).cell 6 _ rfl,(B0.out.1.below (Below.refl _ _).drew B0.out.1.lt).cell 7 _ rfl,(B0.out.1.below (Below.refl _ _).drew B0.out.1.lt).cell 8 _ rfl,(B0.out.1.below (Below.refl _ _).drew B0.out.1.lt).cell 9 _ rfl,(B0.out.1.below (Below.refl _ _).drew B0.out.1.lt).cell 10 _ rfl,(B0.out.1.below (Below.refl _ _).drew B0.out.1.lt).cell 11 _ rfl,(B0.out.1.below (Below.refl _ _).drew B0.out.1.lt).cell 12 _ rfl,(B0.out.1.below (Below.refl _ _).drew B0.out.1.lt).cell 13 _ rfl,(B0.out.1.below (Below.refl _ _).drew B0.out.1.lt).cell 14 _ rfl,(B0.out.1.below (Below.refl _ _).drew B0.out.1.lt).cell 15 _ rfl⟩;have HG:=qsd B0.out.2.2.2;clear B0 NW;refine Zn (fun w'=>w'.cell? ⟨g,0,none⟩=some (.int .i64 (n:Nat))∧w'.cell? ⟨g,1,none⟩=some (.bool (dN oX))∧w'.cell? ⟨g,2,none⟩=some (.slice a1 (ws (dX oX)).length c1)∧w'.cell? ⟨g,3,none⟩=some (.int .i64 (dE oX))∧w'.cell? ⟨g,4,none⟩=some (.bool (dN oY))∧w'.cell? ⟨g,5,none⟩=some (.slice a2 (ws (dX oY)).length c2)∧w'.cell? ⟨g,6,none⟩=some (.int .i64 (dE oY))∧w'.cell? ⟨g,7,none⟩=some (.bool (dN oXX))∧w'.cell? ⟨g,8,none⟩=some (.slice a3 (ws (dX oXX)).length c3)∧w'.cell? ⟨g,9,none⟩=some (.int .i64 (dE oXX))∧w'.cell? ⟨g,10,none⟩=some (.bool (dN oXY))∧w'.cell? ⟨g,11,none⟩=some (.slice a4 (ws (dX oXY)).length c4)∧w'.cell? ⟨g,12,none⟩=some (.int .i64 (dE oXY))∧w'.cell? ⟨g,13,none⟩=some (.bool (dN oYY))∧w'.cell? ⟨g,14,none⟩=some (.slice a5 (ws (dX oYY)).length c5)∧w'.cell? ⟨g,15,none⟩=some (.int .i64 (dE oYY))) 12 (by kernel_rfl) ?_
 obtain ⟨Wd,hWd⟩:∃ Vq,Vq=W.drew:=⟨_,rfl⟩;rw [←hWd] at BD kS ⊢;clear hWd
 refine tk 0 [1,2,5,10,11] rfl kS.out ?_;try simp only [Act.put,sa,sb,sc]
 refine tk 1 [2,5,10,11] rfl kS.out ?_;try simp only [Act.put,sa,sb,sc]
 refine tk 3 [4,5,10,11] rfl kS.out ?_;try simp only [Act.put,sa,sb,sc]
 refine tk 4 [5,10,11] rfl kS.out ?_;try simp only [Act.put,sa,sb,sc]
 refine tk 6 [7,10,11] rfl kS.out ?_;try simp only [Act.put,sa,sb,sc]
 refine tk 7 [10,11] rfl kS.out ?_;try simp only [Act.put,sa,sb,sc]
 refine tk 8 [9,10,11] rfl kS.out ?_;try simp only [Act.put,sa,sb,sc]
 refine tk 9 [10,11] rfl kS.out ?_;try simp only [Act.put,sa,sb,sc]
 refine Zb (i:=2) (by kernel_rfl) rfl (fun K' hK=>?_)
 have C:=hid (HI.out Wd)
 go_simp
 refine C.out.mono ?_;rintro r u1_ ⟨hd,hb⟩;obtain ⟨oNa,oNc,rfl,hN⟩:=hd.shp14;clear hd;have BD2:=qsd (ai (BD.out.1.below hb) (ai (BD.out.2.1.below hb) (ai (BD.out.2.2.1.below hb) (ai (BD.out.2.2.2.1.below hb) (ai (BD.out.2.2.2.2.1.below hb) (ai (BD.out.2.2.2.2.2.1.below hb) (ai (BD.out.2.2.2.2.2.2.trans (hb.mono BD.out.2.2.2.2.2.2.size)) hN)))))));have kS2:=qsd (ck hb kS.out fun h=>ck hb h fun h=>ck hb h fun h=>ck4 hb h);clear hb hN C BD kS;have BD:=BD2;have kS:=kS2;clear BD2 kS2
 try dsimp only
 refine hK.out _ _ (fun _=>kS.out) ?_
 clear hK K'
 try simp only [Act.put,sa,sb,sc]
 refine Zb (i:=5) (by kernel_rfl) rfl (fun K' hK=>?_)
 have C:=hid (Qn FF.out.1 FF.out.2.2.2.1 FF.out.2.2.2.2.1 BD.out.2.2.2.2.2.2.2 BD.out.2.2.2.2.1 EE.out.1)
 go_simp
 refine C.out.mono ?_;rintro r u2_ ⟨hd,hb⟩;obtain ⟨p1a,p1c,rfl,hN⟩:=hd.shp14;clear hd;have BD2:=qsd (ai (BD.out.1.below hb) (ai (BD.out.2.1.below hb) (ai (BD.out.2.2.1.below hb) (ai (BD.out.2.2.2.1.below hb) (ai (BD.out.2.2.2.2.1.below hb) (ai (BD.out.2.2.2.2.2.1.below hb) (ai (BD.out.2.2.2.2.2.2.1.trans (hb.mono BD.out.2.2.2.2.2.2.1.size)) (ai (BD.out.2.2.2.2.2.2.2.below hb) hN))))))));have kS2:=qsd (ck hb kS.out fun h=>ck hb h fun h=>ck hb h fun h=>ck4 hb h);clear hb hN C BD kS;have BD:=BD2;have kS:=kS2;clear BD2 kS2
 try dsimp only
 refine hK.out _ _ (fun _=>kS.out) ?_
 clear hK K'
 try simp only [Act.put,sa,sb,sc]
 refine Zb (i:=10) (by kernel_rfl) rfl (fun K' hK=>?_)
 have C:=hid (Qn FF.out.2.1 FF.out.2.2.1 FF.out.2.2.2.2.2.1 BD.out.2.1 BD.out.2.2.1 EE.out.2.1)
 go_simp
 refine C.out.mono ?_;rintro r u3_ ⟨hd,hb⟩;obtain ⟨p2a,p2c,rfl,hN⟩:=hd.shp14;clear hd;have BD2:=qsd (ai (BD.out.1.below hb) (ai (BD.out.2.1.below hb) (ai (BD.out.2.2.1.below hb) (ai (BD.out.2.2.2.1.below hb) (ai (BD.out.2.2.2.2.1.below hb) (ai (BD.out.2.2.2.2.2.1.below hb) (ai (BD.out.2.2.2.2.2.2.1.trans (hb.mono BD.out.2.2.2.2.2.2.1.size)) (ai (BD.out.2.2.2.2.2.2.2.1.below hb) (ai (BD.out.2.2.2.2.2.2.2.2.below hb) hN)))))))));have kS2:=qsd (ck hb kS.out fun h=>ck hb h fun h=>ck hb h fun h=>ck4 hb h);clear hb hN C BD kS;have BD:=BD2;have kS:=kS2;clear BD2 kS2
 try dsimp only
 refine hK.out _ _ (fun _=>kS.out) ?_
 clear hK K'
 try simp only [Act.put,sa,sb,sc]
 refine Zb (i:=11) (by kernel_rfl) rfl (fun K' hK=>?_)
 have C:=hid (Zc4 FF.out.2.2.2.2.1 FF.out.2.2.2.2.2.1 FF.out.2.2.2.2.2.2 BD.out.2.2.2.2.2.2.2.2.1 BD.out.2.2.2.2.2.2.2.2.2 EE.out.2.2)
 go_simp
 refine C.out.mono ?_;rintro r u4_ ⟨hd,hb⟩;obtain ⟨oDa,oDc,rfl,hN⟩:=hd.shp14;clear hd;have BD2:=qsd (ai (BD.out.1.below hb) (ai (BD.out.2.1.below hb) (ai (BD.out.2.2.1.below hb) (ai (BD.out.2.2.2.1.below hb) (ai (BD.out.2.2.2.2.1.below hb) (ai (BD.out.2.2.2.2.2.1.below hb) (ai (BD.out.2.2.2.2.2.2.1.trans (hb.mono BD.out.2.2.2.2.2.2.1.size)) (ai (BD.out.2.2.2.2.2.2.2.1.below hb) (ai (BD.out.2.2.2.2.2.2.2.2.1.below hb) (ai (BD.out.2.2.2.2.2.2.2.2.2.below hb) hN))))))))));have kS2:=qsd (ck hb kS.out fun h=>ck hb h fun h=>ck hb h fun h=>ck4 hb h);clear hb hN C BD kS;have BD:=BD2;have kS:=kS2;clear BD2 kS2
 try dsimp only
 refine hK.out _ _ (fun _=>kS.out) ?_
 clear hK K'
 try simp only [Act.put,sa,sb,sc]
 obtain ⟨p4,q4,D4,M4⟩:=BD.out.1;obtain ⟨y0,y1,y2,yf0,yf1,yf2⟩:=D4.facts;clear D4 M4;refine Zb (i:=12) (by kernel_rfl) rfl (fun K' hK=>?_)
 go_simp
 refine hK.out _ _ (fun h=>absurd h (by decide)) ?_
 clear hK K' y0 y1 y2 yf0 yf1 yf2;refine Zs (by kernel_rfl) ?_ _
 go_wp2;exact Za2 Tryz.results44 rfl BD.out.1 BD.out.2.2.2.2.2.2.1 HG.out BD.out.2.2.2.2.2.2.2.2.2.2
theorem Zsy {w:World}{a1 a2 a3 a4 a5:Option Addr}{c1 c2 c3 c4 c5 n:Nat}{oX oY oXX oXY oYY:Option (Bool×Nat×Int)}(p1 p2 oD:Option (Bool×Nat×Int)) (FF:Aside (Fm oX∧Fm oY∧Fm oXX∧Fm oXY∧Fm p1∧Fm p2∧Fm oD)) (EE:Aside (mulD oXX oY=p1∧mulD oX oXY=p2∧addD p1 (mkS (!dN p2) (dX p2) (dE p2))=oD)) (HN:Nt 0 w (.slice a1 (ws (dX oX)).length c1) (dX oX)∧Nt 0 w (.slice a2 (ws (dX oY)).length c2) (dX oY)∧Nt 0 w (.slice a3 (ws (dX oXX)).length c3) (dX oXX)∧Nt 0 w (.slice a4 (ws (dX oXY)).length c4) (dX oXY)∧Nt 0 w (.slice a5 (ws (dX oYY)).length c5) (dX oYY)) :
 Calls Tryz.prog 47 #[.agg #[.int .i64 (n:Nat),.bool (dN oX),.slice a1 (ws (dX oX)).length c1,.int .i64 (dE oX),.bool (dN oY),.slice a2 (ws (dX oY)).length c2,.int .i64 (dE oY),.bool (dN oXX),.slice a3 (ws (dX oXX)).length c3,.int .i64 (dE oXX),.bool (dN oXY),.slice a4 (ws (dX oXY)).length c4,.int .i64 (dE oXY),.bool (dN oYY),.slice a5 (ws (dX oYY)).length c5,.int .i64 (dE oYY)]] w fun r w'=>DVal 0 w' r oD∧Below w.heap.size w w':=by
 obtain ⟨W,hW⟩:∃ W,W=(w.alloc (Obj.cells #[.int .i64 (n:Nat),.bool (dN oX),.slice a1 (ws (dX oX)).length c1,.int .i64 (dE oX),.bool (dN oY),.slice a2 (ws (dX oY)).length c2,.int .i64 (dE oY),.bool (dN oXX),.slice a3 (ws (dX oXX)).length c3,.int .i64 (dE oXX),.bool (dN oXY),.slice a4 (ws (dX oXY)).length c4,.int .i64 (dE oXY),.bool (dN oYY),.slice a5 (ws (dX oYY)).length c5,.int .i64 (dE oYY)] 70)).alloc (Obj.cells #[.bool false,.slice none 0 0,.int .i64 0] 62):=⟨_,rfl⟩;obtain ⟨g,hg⟩:∃ g,g=w.heap.size:=⟨_,rfl⟩;obtain ⟨g2,hg2⟩:∃ g,g=w.heap.size+1:=⟨_,rfl⟩
 have B0:Aside (Bl W g 70 [.int .i64 (n:Nat),.bool (dN oX),.slice a1 (ws (dX oX)).length c1,.int .i64 (dE oX),.bool (dN oY),.slice a2 (ws (dX oY)).length c2,.int .i64 (dE oY),.bool (dN oXX),.slice a3 (ws (dX oXX)).length c3,.int .i64 (dE oXX),.bool (dN oXY),.slice a4 (ws (dX oXY)).length c4,.int .i64 (dE oXY),.bool (dN oYY),.slice a5 (ws (dX oYY)).length c5,.int .i64 (dE oYY)]∧Lo W g2 o00∧Below w.heap.size w W∧w.heap.size≤g2):=by
  have z2:=Lo.zero (w.alloc (Obj.cells #[.int .i64 (n:Nat),.bool (dN oX),.slice a1 (ws (dX oX)).length c1,.int .i64 (dE oX),.bool (dN oY),.slice a2 (ws (dX oY)).length c2,.int .i64 (dE oY),.bool (dN oXX),.slice a3 (ws (dX oXX)).length c3,.int .i64 (dE oXX),.bool (dN oXY),.slice a4 (ws (dX oXY)).length c4,.int .i64 (dE oXY),.bool (dN oYY),.slice a5 (ws (dX oYY)).length c5,.int .i64 (dE oYY)] 70));rw [World.size_alloc] at z2;rw [hW,hg,hg2];exact ⟨(Bl.new _ 70 [.int .i64 (n:Nat),.bool (dN oX),.slice a1 (ws (dX oX)).length c1,.int .i64 (dE oX),.bool (dN oY),.slice a2 (ws (dX oY)).length c2,.int .i64 (dE oY),.bool (dN oXX),.slice a3 (ws (dX oXX)).length c3,.int .i64 (dE oXX),.bool (dN oXY),.slice a4 (ws (dX oXY)).length c4,.int .i64 (dE oXY),.bool (dN oYY),.slice a5 (ws (dX oYY)).length c5,.int .i64 (dE oYY)]).alloc _,z2,(Zd _ _).trans ((Zd _ _).mono (by simp)),by omega⟩
 have NW:Aside (Nt 0 W (.slice a1 (ws (dX oX)).length c1) (dX oX)∧Nt 0 W (.slice a2 (ws (dX oY)).length c2) (dX oY)∧Nt 0 W (.slice a3 (ws (dX oXX)).length c3) (dX oXX)∧Nt 0 W (.slice a4 (ws (dX oXY)).length c4) (dX oXY)∧Nt 0 W (.slice a5 (ws (dX oYY)).length c5) (dX oYY)):=⟨HN.1.below B0.out.2.2.1,HN.2.1.below B0.out.2.2.1,HN.2.2.1.below B0.out.2.2.1,HN.2.2.2.1.below B0.out.2.2.1,HN.2.2.2.2.below B0.out.2.2.1⟩;have HW:=(qsd (ai hW (ai hg hg2)));clear hW hg hg2 HN;go_enter Tryz.func47,Tryz.ntmps47
 go_upto_region 1 with fail
 rw [←HW.out.1]
 try rw [←HW.out.2.2]
 try rw [←HW.out.2.1]
 clear HW;have BD:Aside (Lo W.drew g2 o00∧Nt 0 W.drew (.slice a1 (ws (dX oX)).length c1) (dX oX)∧Nt 0 W.drew (.slice a2 (ws (dX oY)).length c2) (dX oY)∧Nt 0 W.drew (.slice a3 (ws (dX oXX)).length c3) (dX oXX)∧Nt 0 W.drew (.slice a4 (ws (dX oXY)).length c4) (dX oXY)∧Nt 0 W.drew (.slice a5 (ws (dX oYY)).length c5) (dX oYY)∧Below w.heap.size w W.drew):=⟨B0.out.2.1.below (Below.refl _ _).drew,NW.out.1.below (Below.refl _ _).drew,NW.out.2.1.below (Below.refl _ _).drew,NW.out.2.2.1.below (Below.refl _ _).drew,NW.out.2.2.2.1.below (Below.refl _ _).drew,NW.out.2.2.2.2.below (Below.refl _ _).drew,B0.out.2.2.1.drew⟩;have kS:Aside (W.drew.cell? ⟨g,0,none⟩=some (.int .i64 (n:Nat))∧W.drew.cell? ⟨g,1,none⟩=some (.bool (dN oX))∧W.drew.cell? ⟨g,2,none⟩=some (.slice a1 (ws (dX oX)).length c1)∧W.drew.cell? ⟨g,3,none⟩=some (.int .i64 (dE oX))∧W.drew.cell? ⟨g,4,none⟩=some (.bool (dN oY))∧W.drew.cell? ⟨g,5,none⟩=some (.slice a2 (ws (dX oY)).length c2)∧W.drew.cell? ⟨g,6,none⟩=some (.int .i64 (dE oY))∧W.drew.cell? ⟨g,7,none⟩=some (.bool (dN oXX))∧W.drew.cell? ⟨g,8,none⟩=some (.slice a3 (ws (dX oXX)).length c3)∧W.drew.cell? ⟨g,9,none⟩=some (.int .i64 (dE oXX))∧W.drew.cell? ⟨g,10,none⟩=some (.bool (dN oXY))∧W.drew.cell? ⟨g,11,none⟩=some (.slice a4 (ws (dX oXY)).length c4)∧W.drew.cell? ⟨g,12,none⟩=some (.int .i64 (dE oXY))∧W.drew.cell? ⟨g,13,none⟩=some (.bool (dN oYY))∧W.drew.cell? ⟨g,14,none⟩=some (.slice a5 (ws (dX oYY)).length c5)∧W.drew.cell? ⟨g,15,none⟩=some (.int .i64 (dE oYY))):=⟨(B0.out.1.below (Below.refl _ _).drew B0.out.1.lt).cell 0 _ rfl,(B0.out.1.below (Below.refl _ _).drew B0.out.1.lt).cell 1 _ rfl,(B0.out.1.below (Below.refl _ _).drew B0.out.1.lt).cell 2 _ rfl,(B0.out.1.below (Below.refl _ _).drew B0.out.1.lt).cell 3 _ rfl,(B0.out.1.below (Below.refl _ _).drew B0.out.1.lt).cell 4 _ rfl,(B0.out.1.below (Below.refl _ _).drew B0.out.1.lt).cell 5 _ rfl,(B0.out.1.below (Below.refl _ _).drew B0.out.1.lt).cell 6 _ rfl,(B0.out.1.below (Below.refl _ _).drew B0.out.1.lt).cell 7 _ rfl,(B0.out.1.below (Below.refl _ _).drew B0.out.1.lt).cell 8 _ rfl,(B0.out.1.below (Below.refl _ _).drew B0.out.1.lt).cell 9 _ rfl,(B0.out.1.below (Below.refl _ _).drew B0.out.1.lt).cell 10 _ rfl,(B0.out.1.below (Below.refl _ _).drew B0.out.1.lt).cell 11 _ rfl,(B0.out.1.below (Below.refl _ _).drew B0.out.1.lt).cell 12 _ rfl,(B0.out.1.below (Below.refl _ _).drew B0.out.1.lt).cell 13 _ rfl,(B0.out.1.below (Below.refl _ _).drew B0.out.1.lt).cell 14 _ rfl,(B0.out.1.below (Below.refl _ _).drew B0.out.1.lt).cell 15 _ rfl⟩;have HG:=qsd B0.out.2.2.2;clear B0 NW;refine Zn (fun w'=>w'.cell? ⟨g,0,none⟩=some (.int .i64 (n:Nat))∧w'.cell? ⟨g,1,none⟩=some (.bool (dN oX))∧w'.cell? ⟨g,2,none⟩=some (.slice a1 (ws (dX oX)).length c1)∧w'.cell? ⟨g,3,none⟩=some (.int .i64 (dE oX))∧w'.cell? ⟨g,4,none⟩=some (.bool (dN oY))∧w'.cell? ⟨g,5,none⟩=some (.slice a2 (ws (dX oY)).length c2)∧w'.cell? ⟨g,6,none⟩=some (.int .i64 (dE oY))∧w'.cell? ⟨g,7,none⟩=some (.bool (dN oXX))∧w'.cell? ⟨g,8,none⟩=some (.slice a3 (ws (dX oXX)).length c3)∧w'.cell? ⟨g,9,none⟩=some (.int .i64 (dE oXX))∧w'.cell? ⟨g,10,none⟩=some (.bool (dN oXY))∧w'.cell? ⟨g,11,none⟩=some (.slice a4 (ws (dX oXY)).length c4)∧w'.cell? ⟨g,12,none⟩=some (.int .i64 (dE oXY))∧w'.cell? ⟨g,13,none⟩=some (.bool (dN oYY))∧w'.cell? ⟨g,14,none⟩=some (.slice a5 (ws (dX oYY)).length c5)∧w'.cell? ⟨g,15,none⟩=some (.int .i64 (dE oYY))) 11 (by kernel_rfl) ?_
 obtain ⟨Wd,hWd⟩:∃ Vq,Vq=W.drew:=⟨_,rfl⟩;rw [←hWd] at BD kS ⊢;clear hWd
 refine tk 0 [1,4,9,10] rfl kS.out ?_;try simp only [Act.put,sa,sb,sc]
 refine tk 1 [4,9,10] rfl kS.out ?_;try simp only [Act.put,sa,sb,sc]
 refine tk 2 [3,4,9,10] rfl kS.out ?_;try simp only [Act.put,sa,sb,sc]
 refine tk 3 [4,9,10] rfl kS.out ?_;try simp only [Act.put,sa,sb,sc]
 refine tk 5 [6,9,10] rfl kS.out ?_;try simp only [Act.put,sa,sb,sc]
 refine tk 6 [9,10] rfl kS.out ?_;try simp only [Act.put,sa,sb,sc]
 refine tk 7 [8,9,10] rfl kS.out ?_;try simp only [Act.put,sa,sb,sc]
 refine tk 8 [9,10] rfl kS.out ?_;try simp only [Act.put,sa,sb,sc]
 refine Zb (i:=4) (by kernel_rfl) rfl (fun K' hK=>?_)
 have C:=hid (Qn FF.out.2.2.1 FF.out.2.1 FF.out.2.2.2.2.1 BD.out.2.2.2.1 BD.out.2.2.1 EE.out.1)
 go_simp
 refine C.out.mono ?_;rintro r u1_ ⟨hd,hb⟩;obtain ⟨p1a,p1c,rfl,hN⟩:=hd.shp14;clear hd;have BD2:=qsd (ai (BD.out.1.below hb) (ai (BD.out.2.1.below hb) (ai (BD.out.2.2.1.below hb) (ai (BD.out.2.2.2.1.below hb) (ai (BD.out.2.2.2.2.1.below hb) (ai (BD.out.2.2.2.2.2.1.below hb) (ai (BD.out.2.2.2.2.2.2.trans (hb.mono BD.out.2.2.2.2.2.2.size)) hN)))))));have kS2:=qsd (ck hb kS.out fun h=>ck hb h fun h=>ck hb h fun h=>ck4 hb h);clear hb hN C BD kS;have BD:=BD2;have kS:=kS2;clear BD2 kS2
 try dsimp only
 refine hK.out _ _ (fun _=>kS.out) ?_
 clear hK K'
 try simp only [Act.put,sa,sb,sc]
 refine Zb (i:=9) (by kernel_rfl) rfl (fun K' hK=>?_)
 have C:=hid (Qn FF.out.1 FF.out.2.2.2.1 FF.out.2.2.2.2.2.1 BD.out.2.1 BD.out.2.2.2.2.1 EE.out.2.1)
 go_simp
 refine C.out.mono ?_;rintro r u2_ ⟨hd,hb⟩;obtain ⟨p2a,p2c,rfl,hN⟩:=hd.shp14;clear hd;have BD2:=qsd (ai (BD.out.1.below hb) (ai (BD.out.2.1.below hb) (ai (BD.out.2.2.1.below hb) (ai (BD.out.2.2.2.1.below hb) (ai (BD.out.2.2.2.2.1.below hb) (ai (BD.out.2.2.2.2.2.1.below hb) (ai (BD.out.2.2.2.2.2.2.1.trans (hb.mono BD.out.2.2.2.2.2.2.1.size)) (ai (BD.out.2.2.2.2.2.2.2.below hb) hN))))))));have kS2:=qsd (ck hb kS.out fun h=>ck hb h fun h=>ck hb h fun h=>ck4 hb h);clear hb hN C BD kS;have BD:=BD2;have kS:=kS2;clear BD2 kS2
 try dsimp only
 refine hK.out _ _ (fun _=>kS.out) ?_
 clear hK K'
 try simp only [Act.put,sa,sb,sc]
 refine Zb (i:=10) (by kernel_rfl) rfl (fun K' hK=>?_)
 have C:=hid (Zc4 FF.out.2.2.2.2.1 FF.out.2.2.2.2.2.1 FF.out.2.2.2.2.2.2 BD.out.2.2.2.2.2.2.2.1 BD.out.2.2.2.2.2.2.2.2 EE.out.2.2)
 go_simp
 refine C.out.mono ?_;rintro r u3_ ⟨hd,hb⟩;obtain ⟨oDa,oDc,rfl,hN⟩:=hd.shp14;clear hd;have BD2:=qsd (ai (BD.out.1.below hb) (ai (BD.out.2.1.below hb) (ai (BD.out.2.2.1.below hb) (ai (BD.out.2.2.2.1.below hb) (ai (BD.out.2.2.2.2.1.below hb) (ai (BD.out.2.2.2.2.2.1.below hb) (ai (BD.out.2.2.2.2.2.2.1.trans (hb.mono BD.out.2.2.2.2.2.2.1.size)) (ai (BD.out.2.2.2.2.2.2.2.1.below hb) (ai (BD.out.2.2.2.2.2.2.2.2.below hb) hN)))))))));have kS2:=qsd (ck hb kS.out fun h=>ck hb h fun h=>ck hb h fun h=>ck4 hb h);clear hb hN C BD kS;have BD:=BD2;have kS:=kS2;clear BD2 kS2
 try dsimp only
 refine hK.out _ _ (fun _=>kS.out) ?_
 clear hK K'
 try simp only [Act.put,sa,sb,sc]
 obtain ⟨p4,q4,D4,M4⟩:=BD.out.1;obtain ⟨y0,y1,y2,yf0,yf1,yf2⟩:=D4.facts;clear D4 M4;refine Zb (i:=11) (by kernel_rfl) rfl (fun K' hK=>?_)
 go_simp
 refine hK.out _ _ (fun h=>absurd h (by decide)) ?_
 clear hK K' y0 y1 y2 yf0 yf1 yf2;refine Zs (by kernel_rfl) ?_ _
 go_wp2;exact Za2 Tryz.results47 rfl BD.out.1 BD.out.2.2.2.2.2.2.1 HG.out BD.out.2.2.2.2.2.2.2.2.2
theorem Zt8 {xs ys:List Nat}(G:Gd xs ys) (a b:Option Addr) (n c d:Nat) (w:World) (hn:n=xs.length) (hF:Fs w.heap.size w a xs) (hG:Fs w.heap.size w b ys) :
 Calls Tryz.prog 42 #[.slice a n c,.slice b n d] w fun r w'=>(∃ v,r=.returned v∧Zr6 w' v n (gV 1074 (zS fvW xs)) (gV 1074 (zS fvW ys)) (gV 2148 (pS xs xs)) (gV 2148 (pS xs ys)) (gV 2148 (pS ys ys)))∧Below w.heap.size w w':=by
 have hm:n=ys.length:=by rw [hn];exact G.len
 have hle:=G.le;have bx:∀ k,Bd 2114 (zS fvW (xs.take k)):=fun k=>Za0 (fun x hx=>G.x64 x (List.mem_of_mem_take hx)) (fun x hx=>G.xf x (List.mem_of_mem_take hx)) (by rw [List.length_take];omega)
 have bY:∀ k,Bd 2114 (zS fvW (ys.take k)):=fun k=>Za0 (fun x hx=>G.y64 x (List.mem_of_mem_take hx)) (fun x hx=>G.yf x (List.mem_of_mem_take hx)) (by rw [List.length_take];omega)
 have fx:∀ k,k<n→Bd 2098 (fvW (xs.getD k 0)):=fun k hk=>by
  have h:k<xs.length:=by omega
  rw [←Qz xs k h];exact Yr (G.x64 _ (List.getElem_mem h)) (G.xf _ (List.getElem_mem h))
 have fy:∀ k,k<n→Bd 2098 (fvW (ys.getD k 0)):=fun k hk=>by
  have h:k<ys.length:=by omega
  rw [←Qz ys k h];exact Yr (G.y64 _ (List.getElem_mem h)) (G.yf _ (List.getElem_mem h))
 have bxx:∀ k,Bd 4212 (zS (fun x=>fvW x*fvW x) (xs.take k)):=fun k=>Zg9 (m:=4196) (fun x hx=>(Yr (G.x64 x (List.mem_of_mem_take hx)) (G.xf x (List.mem_of_mem_take hx))).mul (Yr (G.x64 x (List.mem_of_mem_take hx)) (G.xf x (List.mem_of_mem_take hx)))) (by rw [List.length_take];omega)
 have byy:∀ k,Bd 4212 (zS (fun x=>fvW x*fvW x) (ys.take k)):=fun k=>Zg9 (m:=4196) (fun x hx=>(Yr (G.y64 x (List.mem_of_mem_take hx)) (G.yf x (List.mem_of_mem_take hx))).mul (Yr (G.y64 x (List.mem_of_mem_take hx)) (G.yf x (List.mem_of_mem_take hx)))) (by rw [List.length_take];omega)
 have bxy:∀ k,Bd 4212 (zS (fun p:Nat×Nat=>fvW p.1*fvW p.2) ((xs.zip ys).take k)):=fun k=>Zg9 (m:=4196) (fun p hp=>by
  have hp:=List.of_mem_zip (List.mem_of_mem_take hp);exact (Yr (G.x64 _ hp.1) (G.xf _ hp.1)).mul (Yr (G.y64 _ hp.2) (G.yf _ hp.2))) (by rw [List.length_take,List.length_zip];omega)
 have C:=Zhz xs ys (fun k=>gV 1074 (zS fvW (xs.take k))) (fun k=>gV 1074 (zS fvW (ys.take k))) (fun k=>gV 2148 (zS (fun x=>fvW x*fvW x) (xs.take k))) (fun k=>gV 2148 (zS (fun p:Nat×Nat=>fvW p.1*fvW p.2) ((xs.zip ys).take k))) (fun k=>gV 2148 (zS (fun x=>fvW x*fvW x) (ys.take k)))
  (fun k=>gV 1074 (fvW (xs.getD k 0))) (fun k=>gV 1074 (fvW (ys.getD k 0))) (fun k=>gV 2148 (fvW (xs.getD k 0)*fvW (xs.getD k 0))) (fun k=>gV 2148 (fvW (xs.getD k 0)*fvW (ys.getD k 0))) (fun k=>gV 2148 (fvW (ys.getD k 0)*fvW (ys.getD k 0))) a b n c d w hn hm (by omega) hF hG
  ⟨fun k _=>⟨gf (bx k),gf (bY k),gf (bxx k),gf (bxy k),gf (byy k)⟩,fun k hk=>⟨gf (fx k hk),gf (fy k hk),gf ((fx k hk).mul (fx k hk)),gf ((fx k hk).mul (fy k hk)),gf ((fy k hk).mul (fy k hk))⟩,fun k hk=>⟨gm (fx k hk) (fx k hk),gm (fx k hk) (fy k hk),gm (fy k hk) (fy k hk)⟩,fun k hk=>?_,⟨Zbj _,Zbj _,Zbj _,Zbj _,Zbj _⟩,fun k hk u=>?_⟩
 · have e1:xs.take n=xs:=List.take_of_length_le (by omega)
   have e2:ys.take n=ys:=List.take_of_length_le (by omega)
   have e3:(xs.zip ys).take n=xs.zip ys:=List.take_of_length_le (by rw [List.length_zip];omega)
   simp only [e1,e2,e3] at C;rw [Ze3,Ze3];exact C
 · have h1:k<xs.length:=by omega
   have h2:k<ys.length:=by omega
   have h3:k<(xs.zip ys).length:=by rw [List.length_zip];omega
   have z3:(xs.zip ys)[k]=(xs.getD k 0,ys.getD k 0):=by rw [List.getElem_zip,Qz xs k h1,Qz ys k h2]
   try simp only
   rw [Jk fvW xs k h1,Jk fvW ys k h2,Jk _ xs k h1,Jk _ ys k h2,Jk _ (xs.zip ys) k h3,z3,Qz xs k h1,Qz ys k h2];exact ⟨ga (m:=2114) (bx k) ((fx k hk).mono (by omega)),ga (m:=2114) (bY k) ((fy k hk).mono (by omega)),ga (m:=4212) (bxx k) (((fx k hk).mul (fx k hk)).mono (by omega)),ga (m:=4212) (bxy k) (((fx k hk).mul (fy k hk)).mono (by omega)),ga (m:=4212) (byy k) (((fy k hk).mul (fy k hk)).mono (by omega))⟩
 · have h1:k<xs.length:=by omega
   have h2:k<ys.length:=by omega
   refine ⟨?_,?_⟩
   · exact Zph (x:=xs.getD k 0) (by rw [←Qz xs k h1];exact G.x64 _ (List.getElem_mem h1)) (by rw [←Qz xs k h1];exact G.xf _ (List.getElem_mem h1)) u
   · exact Zph (x:=ys.getD k 0) (by rw [←Qz ys k h2];exact G.y64 _ (List.getElem_mem h2)) (by rw [←Qz ys k h2];exact G.yf _ (List.getElem_mem h2)) u
theorem Zck {o:Option (Bool×Nat×Int)}:((ws (dX o)).length==0)=decide (dX o=0):=by
 by_cases h:dX o=0
 · rw [h,Zj];simp
 · have:(ws (dX o)).length≠0:=fun q=>h (by have:=Zc (dX o);rw [List.eq_nil_of_length_eq_zero q] at this;simpa [val] using this.symm)
   simp [h,this]
end
end Go.Proofs.YtblkpkgebigojaaGreatDoor
