import Derived.Test.YtblkpkgebigojaaGreatDoorFR5x
import Derived.Test.YtblkpkgebigojaaGreatDoorFI8x
import Derived.Test.YtblkpkgebigojaaGreatDoorM1x
import Derived.ProofKit
import Derived.OpenShut
import Derived.ChangeOld
import Derived.ChangeArms
import Derived.SizedLaws
import Derived.Laws.Cover2
set_option linter.unusedVariables false
set_option linter.unusedSimpArgs false
set_option maxHeartbeats 16000000
set_option maxRecDepth 20000
namespace Go.Proofs.YtblkpkgebigojaaGreatDoor
namespace J
end J
section
open Go Go.RowKit J
theorem Zsz {w:World}{a b:Option Addr}{n m c d:Nat}(x:Nat) (mode E:Int) (hE:E≠0) (hE3:E≠3) (HA:Hid (∀ u:World,Below w.heap.size w u→Calls Tryz.prog 41 #[.slice a n c,.slice b m d,.int .i64 mode,.int .i64 2] u fun r w'=>r=.returned (.int .i64 E)∧Below u.heap.size u w')) :
 Calls Tryz.prog 19 #[.slice a n c,.slice b m d,.float .f64 x,.int .i64 mode] w fun r w'=>r=.returned (.tuple #[.float .f64 0,.int .i64 E])∧Below w.heap.size w w':=by
 have e0:(E==0)=false:=by simp [hE]
 have e3:(E==3)=false:=by simp [hE3]
 have C:=hid (HA.out w (Below.refl _ _));clear HA;go_enter Tryz.func19,Tryz.ntmps19
 go_wp2_with fail
 refine C.out.mono ?_;clear C;rintro r u ⟨rfl,hb⟩;have B1:=qsd hb;clear hb;have C:=hid (Zc7 u)
 go_wp2_with fail
 refine C.out.mono ?_;clear C;rintro r v ⟨rfl,hv⟩;rw [hv];clear hv;go_wp2;exact bodyPost_ret (v:=.tuple #[.float .f64 0,.int .i64 E]) (by simp [results,Tryz.results19,go_sem]) rfl ⟨rfl,B1.out⟩
theorem Znm {w:World}{a b:Option Addr}{n m c d:Nat}(x:Nat) (mode:Int) (HC:Hid (∀ u:World,Calls Tryz.prog 54 #[.float .f64 x] u fun r w'=>(∃ c:Int,r=.returned (.int .i64 c)∧decide (2<c)=true)∧Below u.heap.size u w')) (HA:Hid (∀ u:World,Below w.heap.size w u→Calls Tryz.prog 41 #[.slice a n c,.slice b m d,.int .i64 mode,.int .i64 2] u fun r w'=>r=.returned (.int .i64 0)∧Below u.heap.size u w')) :
 Calls Tryz.prog 19 #[.slice a n c,.slice b m d,.float .f64 x,.int .i64 mode] w fun r w'=>r=.returned (.tuple #[.float .f64 0,.int .i64 30])∧Below w.heap.size w w':=by
 have C:=hid (HA.out w (Below.refl _ _));clear HA;go_enter Tryz.func19,Tryz.ntmps19
 go_wp2_with fail
 refine C.out.mono ?_;clear C;rintro r u ⟨rfl,hb⟩;have B1:=qsd hb;clear hb;have C:=hid (HC.out u);clear HC
 go_wp2_with fail
 refine C.out.mono ?_;clear C;rintro r v ⟨⟨k,rfl,hk⟩,hb⟩;have B0:=qsd (B1.out.trans (hb.mono B1.out.size));clear hb B1;have B1:=B0;obtain ⟨u,hu⟩:∃ u,u=v:=⟨_,rfl⟩;rw [←hu] at B1 ⊢;clear B0 hu;have C:=hid (Zc7 u)
 go_wp2_with fail
 refine C.out.mono ?_;clear C;rintro r v ⟨rfl,hv⟩;rw [hv];clear hv;go_wp2;exact bodyPost_ret (v:=.tuple #[.float .f64 0,.int .i64 30]) (by simp [results,Tryz.results19,go_sem]) rfl ⟨rfl,B1.out⟩
theorem Znn {w:World}{a b:Option Addr}{n m c d:Nat}(x:Nat) (mode:Int) (HC:Hid (∀ u:World,Calls Tryz.prog 54 #[.float .f64 x] u fun r w'=>(∃ c:Int,r=.returned (.int .i64 c)∧decide (2<c)=true)∧Below u.heap.size u w')) (HA:Hid (∀ u:World,Below w.heap.size w u→Calls Tryz.prog 41 #[.slice a n c,.slice b m d,.int .i64 mode,.int .i64 2] u fun r w'=>r=.returned (.int .i64 3)∧Below u.heap.size u w')) :
 Calls Tryz.prog 19 #[.slice a n c,.slice b m d,.float .f64 x,.int .i64 mode] w fun r w'=>r=.returned (.tuple #[.float .f64 0,.int .i64 30])∧Below w.heap.size w w':=by
 have C:=hid (HA.out w (Below.refl _ _));clear HA;go_enter Tryz.func19,Tryz.ntmps19
 go_wp2_with fail
 refine C.out.mono ?_;clear C;rintro r u ⟨rfl,hb⟩;have B1:=qsd hb;clear hb;have C:=hid (HC.out u);clear HC
 go_wp2_with fail
 refine C.out.mono ?_;clear C;rintro r v ⟨⟨k,rfl,hk⟩,hb⟩;have B0:=qsd (B1.out.trans (hb.mono B1.out.size));clear hb B1;have B1:=B0;obtain ⟨u,hu⟩:∃ u,u=v:=⟨_,rfl⟩;rw [←hu] at B1 ⊢;clear B0 hu;have C:=hid (Zc7 u)
 go_wp2_with fail
 refine C.out.mono ?_;clear C;rintro r v ⟨rfl,hv⟩;rw [hv];clear hv;go_wp2;exact bodyPost_ret (v:=.tuple #[.float .f64 0,.int .i64 30]) (by simp [results,Tryz.results19,go_sem]) rfl ⟨rfl,B1.out⟩
theorem Zno {w:World}{a b:Option Addr}{n m c d:Nat}(x:Nat) (mode:Int) (HC:Hid (∀ u:World,Calls Tryz.prog 54 #[.float .f64 x] u fun r w'=>(∃ c:Int,r=.returned (.int .i64 c)∧decide (2<c)=false)∧Below u.heap.size u w')) (HA:Hid (∀ u:World,Below w.heap.size w u→Calls Tryz.prog 41 #[.slice a n c,.slice b m d,.int .i64 mode,.int .i64 2] u fun r w'=>r=.returned (.int .i64 3)∧Below u.heap.size u w')) :
 Calls Tryz.prog 19 #[.slice a n c,.slice b m d,.float .f64 x,.int .i64 mode] w fun r w'=>r=.returned (.tuple #[.float .f64 0,.int .i64 3])∧Below w.heap.size w w':=by
 have C:=hid (HA.out w (Below.refl _ _));clear HA;go_enter Tryz.func19,Tryz.ntmps19
 go_wp2_with fail
 refine C.out.mono ?_;clear C;rintro r u ⟨rfl,hb⟩;have B1:=qsd hb;clear hb;have C:=hid (HC.out u);clear HC
 go_wp2_with fail
 refine C.out.mono ?_;clear C;rintro r v ⟨⟨k,rfl,hk⟩,hb⟩;have B0:=qsd (B1.out.trans (hb.mono B1.out.size));clear hb B1;have B1:=B0;obtain ⟨u,hu⟩:∃ u,u=v:=⟨_,rfl⟩;rw [←hu] at B1 ⊢;clear B0 hu;have C:=hid (Zc7 u)
 go_wp2_with fail
 refine C.out.mono ?_;clear C;rintro r v ⟨rfl,hv⟩;rw [hv];clear hv;go_wp2;exact bodyPost_ret (v:=.tuple #[.float .f64 0,.int .i64 3]) (by simp [results,Tryz.results19,go_sem]) rfl ⟨rfl,B1.out⟩
theorem Znp {w:World}{a b:Option Addr}{n m c d:Nat}{oX oY oXX oXY oYY:Option (Bool×Nat×Int)}(x:Nat) (mode:Int) {oD:Option (Bool×Nat×Int)}(hD:dX oD=0) (HC:Hid (∀ u:World,Calls Tryz.prog 54 #[.float .f64 x] u fun r w'=>(∃ c:Int,r=.returned (.int .i64 c)∧decide (2<c)=false)∧Below u.heap.size u w')) (HA:Hid (∀ u:World,Below w.heap.size w u→Calls Tryz.prog 41 #[.slice a n c,.slice b m d,.int .i64 mode,.int .i64 2] u fun r w'=>r=.returned (.int .i64 0)∧Below u.heap.size u w')) (HS:Hid (∀ u:World,Below w.heap.size w u→Calls Tryz.prog 42 #[.slice a n c,.slice b m d] u fun r w'=>(∃ v,r=.returned v∧Zr6 w' v n oX oY oXX oXY oYY)∧Below u.heap.size u w')) (KD:Hid (∀ (u:World) {a1 a2 a3 a4 a5:Option Addr}{c1 c2 c3 c4 c5:Nat},(Nt 0 u (.slice a1 (ws (dX oX)).length c1) (dX oX)∧Nt 0 u (.slice a2 (ws (dX oY)).length c2) (dX oY)∧Nt 0 u (.slice a3 (ws (dX oXX)).length c3) (dX oXX)∧Nt 0 u (.slice a4 (ws (dX oXY)).length c4) (dX oXY)∧Nt 0 u (.slice a5 (ws (dX oYY)).length c5) (dX oYY))→Calls Tryz.prog 43 #[.agg #[.int .i64 (n:Nat),.bool (dN oX),.slice a1 (ws (dX oX)).length c1,.int .i64 (dE oX),.bool (dN oY),.slice a2 (ws (dX oY)).length c2,.int .i64 (dE oY),.bool (dN oXX),.slice a3 (ws (dX oXX)).length c3,.int .i64 (dE oXX),.bool (dN oXY),.slice a4 (ws (dX oXY)).length c4,.int .i64 (dE oXY),.bool (dN oYY),.slice a5 (ws (dX oYY)).length c5,.int .i64 (dE oYY)]] u fun r w'=>DVal 0 w' r oD∧Below u.heap.size u w')) :
 Calls Tryz.prog 19 #[.slice a n c,.slice b m d,.float .f64 x,.int .i64 mode] w fun r w'=>r=.returned (.tuple #[.float .f64 0,.int .i64 190])∧Below w.heap.size w w':=by
 have hl:=Zck (o:=oD);rw [decide_eq_true hD] at hl;have hl2:(ws (dX oD)).length=0:=by simpa using hl
 have HLL:=(qsd (ai hl hl2));clear hD hl hl2;have C:=hid (HA.out w (Below.refl _ _));clear HA;go_enter Tryz.func19,Tryz.ntmps19
 go_wp2_with fail
 refine C.out.mono ?_;clear C;rintro r u ⟨rfl,hb⟩;have B1:=qsd hb;clear hb;have C:=hid (HC.out u);clear HC
 go_wp2_with fail
 refine C.out.mono ?_;clear C;rintro r v ⟨⟨k,rfl,hk⟩,hb⟩;have B0:=qsd (B1.out.trans (hb.mono B1.out.size));clear hb B1;have B1:=B0;obtain ⟨u,hu⟩:∃ u,u=v:=⟨_,rfl⟩;rw [←hu] at B1 ⊢;clear B0 hu;have C:=hid (HS.out u B1.out);clear HS
 go_wp2_with fail
 refine C.out.mono ?_;clear C;rintro r u2 ⟨⟨v,rfl,hv⟩,hb⟩;obtain ⟨a1,c1,a2,c2,a3,c3,a4,c4,a5,c5,rfl,n1,n2,n3,n4,n5⟩:=hv;obtain ⟨U,hU⟩:∃ U,U=u2.alloc (Obj.cells #[.int .i64 (n:Nat),.bool (dN oX),.slice a1 (ws (dX oX)).length c1,.int .i64 (dE oX),.bool (dN oY),.slice a2 (ws (dX oY)).length c2,.int .i64 (dE oY),.bool (dN oXX),.slice a3 (ws (dX oXX)).length c3,.int .i64 (dE oXX),.bool (dN oXY),.slice a4 (ws (dX oXY)).length c4,.int .i64 (dE oXY),.bool (dN oYY),.slice a5 (ws (dX oYY)).length c5,.int .i64 (dE oYY)] 70):=⟨_,rfl⟩;obtain ⟨g,hg⟩:∃ g,g=u2.heap.size:=⟨_,rfl⟩
 have B2:Aside (Bl U g 70 [.int .i64 (n:Nat),.bool (dN oX),.slice a1 (ws (dX oX)).length c1,.int .i64 (dE oX),.bool (dN oY),.slice a2 (ws (dX oY)).length c2,.int .i64 (dE oY),.bool (dN oXX),.slice a3 (ws (dX oXX)).length c3,.int .i64 (dE oXX),.bool (dN oXY),.slice a4 (ws (dX oXY)).length c4,.int .i64 (dE oXY),.bool (dN oYY),.slice a5 (ws (dX oYY)).length c5,.int .i64 (dE oYY)]∧Below w.heap.size w U∧Nt 0 U (.slice a1 (ws (dX oX)).length c1) (dX oX)∧Nt 0 U (.slice a2 (ws (dX oY)).length c2) (dX oY)∧Nt 0 U (.slice a3 (ws (dX oXX)).length c3) (dX oXX)∧Nt 0 U (.slice a4 (ws (dX oXY)).length c4) (dX oXY)∧Nt 0 U (.slice a5 (ws (dX oYY)).length c5) (dX oYY)):=by
  rw [hU,hg];exact ⟨Bl.new _ 70 [.int .i64 (n:Nat),.bool (dN oX),.slice a1 (ws (dX oX)).length c1,.int .i64 (dE oX),.bool (dN oY),.slice a2 (ws (dX oY)).length c2,.int .i64 (dE oY),.bool (dN oXX),.slice a3 (ws (dX oXX)).length c3,.int .i64 (dE oXX),.bool (dN oXY),.slice a4 (ws (dX oXY)).length c4,.int .i64 (dE oXY),.bool (dN oYY),.slice a5 (ws (dX oYY)).length c5,.int .i64 (dE oYY)],(B1.out.trans (hb.mono B1.out.size)).trans ((Zd _ _).mono (Nat.le_trans B1.out.size hb.size)),n1.below (Za _ _),n2.below (Za _ _),n3.below (Za _ _),n4.below (Za _ _),n5.below (Za _ _)⟩
 have HU:=(qsd (ai hU hg));clear hU hg hb B1 n1 n2 n3 n4 n5
 go_upto_region 7 with fail
 rw [←HU.out.1,←HU.out.2];clear HU;have C:=hid (KD.out U B2.out.2.2);clear KD;have y0:=B2.out.1.cell 0 _ rfl;have y1:=B2.out.1.cell 1 _ rfl;have y2:=B2.out.1.cell 2 _ rfl;have y3:=B2.out.1.cell 3 _ rfl;have y4:=B2.out.1.cell 4 _ rfl;have y5:=B2.out.1.cell 5 _ rfl;have y6:=B2.out.1.cell 6 _ rfl;have y7:=B2.out.1.cell 7 _ rfl;have y8:=B2.out.1.cell 8 _ rfl;have y9:=B2.out.1.cell 9 _ rfl;have y10:=B2.out.1.cell 10 _ rfl;have y11:=B2.out.1.cell 11 _ rfl;have y12:=B2.out.1.cell 12 _ rfl;have y13:=B2.out.1.cell 13 _ rfl;have y14:=B2.out.1.cell 14 _ rfl;have y15:=B2.out.1.cell 15 _ rfl
 go_wp2_with fail
 refine C.out.mono ?_;clear C;rintro r u3 ⟨hd,hb⟩;obtain ⟨aD,cD,rfl,hN⟩:=hd.shp14;obtain ⟨V,hV⟩:∃ U,U=u3.alloc (Obj.cells #[.bool (dN oD),.slice aD (ws (dX oD)).length cD,.int .i64 (dE oD)] 62):=⟨_,rfl⟩;obtain ⟨gD,hgD⟩:∃ g,g=u3.heap.size:=⟨_,rfl⟩;have hbV:Below U.heap.size U V:=by rw [hV];exact hb.trans ((Zd _ _).mono hb.size)
 have B3:Aside (Bl V g 70 [.int .i64 (n:Nat),.bool (dN oX),.slice a1 (ws (dX oX)).length c1,.int .i64 (dE oX),.bool (dN oY),.slice a2 (ws (dX oY)).length c2,.int .i64 (dE oY),.bool (dN oXX),.slice a3 (ws (dX oXX)).length c3,.int .i64 (dE oXX),.bool (dN oXY),.slice a4 (ws (dX oXY)).length c4,.int .i64 (dE oXY),.bool (dN oYY),.slice a5 (ws (dX oYY)).length c5,.int .i64 (dE oYY)]∧Below w.heap.size w V∧Dk V gD (dN oD) (.slice aD (ws (dX oD)).length cD) (dE oD)∧Nt 0 V (.slice aD (ws (dX oD)).length cD) (dX oD)∧Nt 0 V (.slice a1 (ws (dX oX)).length c1) (dX oX)∧Nt 0 V (.slice a2 (ws (dX oY)).length c2) (dX oY)∧Nt 0 V (.slice a3 (ws (dX oXX)).length c3) (dX oXX)∧Nt 0 V (.slice a4 (ws (dX oXY)).length c4) (dX oXY)∧Nt 0 V (.slice a5 (ws (dX oYY)).length c5) (dX oYY)):=by
  refine ⟨B2.out.1.below hbV B2.out.1.lt,B2.out.2.1.trans (hbV.mono B2.out.2.1.size),?_,?_,B2.out.2.2.1.below hbV,B2.out.2.2.2.1.below hbV,B2.out.2.2.2.2.1.below hbV,B2.out.2.2.2.2.2.1.below hbV,B2.out.2.2.2.2.2.2.below hbV⟩
  · rw [hV,hgD];exact Dk.new _ _ _ _
  · rw [hV];exact hN.below (Za _ _)
 have HV:=(qsd (ai hV hgD));clear hV hgD hb hbV hN hd B2 y0 y1 y2 y3 y4 y5 y6 y7 y8 y9 y10 y11 y12 y13 y14 y15
 go_upto_region 8 with fail
 rw [←HV.out.1,←HV.out.2];clear HV;obtain ⟨d0,d1,d2,df0,df1,df2⟩:=B3.out.2.2.1.facts;have hl:=HLL.out.1;have hl2:=HLL.out.2;have C:=hid (Zc7 V)
 go_wp2_with fail
 refine C.out.mono ?_;clear C;rintro r v ⟨rfl,hv⟩;rw [hv];clear hv;go_wp2;exact bodyPost_ret (v:=.tuple #[.float .f64 0,.int .i64 190]) (by simp [results,Tryz.results19,go_sem]) rfl ⟨rfl,B3.out.2.1⟩
theorem Zs0 {w:World}{a b:Option Addr}{n m c d:Nat}{oX oY oXX oXY oYY:Option (Bool×Nat×Int)}(x:Nat) (mode:Int) {oD oC oK oP p1 p2:Option (Bool×Nat×Int)}(hD:dX oD≠0) (FF:Aside (Fm oD∧Fm oC∧Fm oK∧Fm oP∧Fm p1∧Fm p2)) (EE:Aside (mulD oC oP=p1∧addD oK p1=p2)) (HC:Hid (∀ u:World,Calls Tryz.prog 54 #[.float .f64 x] u fun r w'=>(∃ c:Int,r=.returned (.int .i64 c)∧decide (2<c)=false)∧Below u.heap.size u w')) (HA:Hid (∀ u:World,Below w.heap.size w u→Calls Tryz.prog 41 #[.slice a n c,.slice b m d,.int .i64 mode,.int .i64 2] u fun r w'=>r=.returned (.int .i64 0)∧Below u.heap.size u w')) (HS:Hid (∀ u:World,Below w.heap.size w u→Calls Tryz.prog 42 #[.slice a n c,.slice b m d] u fun r w'=>(∃ v,r=.returned v∧Zr6 w' v n oX oY oXX oXY oYY)∧Below u.heap.size u w')) (KD:Hid (∀ (u:World) {a1 a2 a3 a4 a5:Option Addr}{c1 c2 c3 c4 c5:Nat},(Nt 0 u (.slice a1 (ws (dX oX)).length c1) (dX oX)∧Nt 0 u (.slice a2 (ws (dX oY)).length c2) (dX oY)∧Nt 0 u (.slice a3 (ws (dX oXX)).length c3) (dX oXX)∧Nt 0 u (.slice a4 (ws (dX oXY)).length c4) (dX oXY)∧Nt 0 u (.slice a5 (ws (dX oYY)).length c5) (dX oYY))→Calls Tryz.prog 43 #[.agg #[.int .i64 (n:Nat),.bool (dN oX),.slice a1 (ws (dX oX)).length c1,.int .i64 (dE oX),.bool (dN oY),.slice a2 (ws (dX oY)).length c2,.int .i64 (dE oY),.bool (dN oXX),.slice a3 (ws (dX oXX)).length c3,.int .i64 (dE oXX),.bool (dN oXY),.slice a4 (ws (dX oXY)).length c4,.int .i64 (dE oXY),.bool (dN oYY),.slice a5 (ws (dX oYY)).length c5,.int .i64 (dE oYY)]] u fun r w'=>DVal 0 w' r oD∧Below u.heap.size u w')) (KC:Hid (∀ (u:World) {a1 a2 a3 a4 a5:Option Addr}{c1 c2 c3 c4 c5:Nat},(Nt 0 u (.slice a1 (ws (dX oX)).length c1) (dX oX)∧Nt 0 u (.slice a2 (ws (dX oY)).length c2) (dX oY)∧Nt 0 u (.slice a3 (ws (dX oXX)).length c3) (dX oXX)∧Nt 0 u (.slice a4 (ws (dX oXY)).length c4) (dX oXY)∧Nt 0 u (.slice a5 (ws (dX oYY)).length c5) (dX oYY))→Calls Tryz.prog 44 #[.agg #[.int .i64 (n:Nat),.bool (dN oX),.slice a1 (ws (dX oX)).length c1,.int .i64 (dE oX),.bool (dN oY),.slice a2 (ws (dX oY)).length c2,.int .i64 (dE oY),.bool (dN oXX),.slice a3 (ws (dX oXX)).length c3,.int .i64 (dE oXX),.bool (dN oXY),.slice a4 (ws (dX oXY)).length c4,.int .i64 (dE oXY),.bool (dN oYY),.slice a5 (ws (dX oYY)).length c5,.int .i64 (dE oYY)]] u fun r w'=>DVal 0 w' r oC∧Below u.heap.size u w')) (KK:Hid (∀ (u:World) {a1 a2 a3 a4 a5:Option Addr}{c1 c2 c3 c4 c5:Nat},(Nt 0 u (.slice a1 (ws (dX oX)).length c1) (dX oX)∧Nt 0 u (.slice a2 (ws (dX oY)).length c2) (dX oY)∧Nt 0 u (.slice a3 (ws (dX oXX)).length c3) (dX oXX)∧Nt 0 u (.slice a4 (ws (dX oXY)).length c4) (dX oXY)∧Nt 0 u (.slice a5 (ws (dX oYY)).length c5) (dX oYY))→Calls Tryz.prog 47 #[.agg #[.int .i64 (n:Nat),.bool (dN oX),.slice a1 (ws (dX oX)).length c1,.int .i64 (dE oX),.bool (dN oY),.slice a2 (ws (dX oY)).length c2,.int .i64 (dE oY),.bool (dN oXX),.slice a3 (ws (dX oXX)).length c3,.int .i64 (dE oXX),.bool (dN oXY),.slice a4 (ws (dX oXY)).length c4,.int .i64 (dE oXY),.bool (dN oYY),.slice a5 (ws (dX oYY)).length c5,.int .i64 (dE oYY)]] u fun r w'=>DVal 0 w' r oK∧Below u.heap.size u w'))
 (HO:Hid (∀ u:World,Calls Tryz.prog 55 #[.float .f64 x] u fun r w'=>(∃ v,r=.returned (.tuple #[.agg #[.bool (dN oP),v,.int .i64 (dE oP)],.int .i64 0])∧Nt u.heap.size w' v (dX oP))∧Below u.heap.size u w')) :
 Calls Tryz.prog 19 #[.slice a n c,.slice b m d,.float .f64 x,.int .i64 mode] w fun r w'=>r=.returned (.tuple #[.float .f64 (Qp p2 oD mode).1,.int .i64 0])∧Below w.heap.size w w':=by
 have hl:=Zck (o:=oD);rw [decide_eq_false hD] at hl;have hl2:¬ (ws (dX oD)).length=0:=by simpa using hl
 have HLL:=(qsd (ai hl hl2));clear hD hl hl2;have C:=hid (HA.out w (Below.refl _ _));clear HA;go_enter Tryz.func19,Tryz.ntmps19
 go_wp2_with fail
 refine C.out.mono ?_;clear C;rintro r u ⟨rfl,hb⟩;have B1:=qsd hb;clear hb;have C:=hid (HC.out u);clear HC
 go_wp2_with fail
 refine C.out.mono ?_;clear C;rintro r v ⟨⟨k,rfl,hk⟩,hb⟩;have B0:=qsd (B1.out.trans (hb.mono B1.out.size));clear hb B1;have B1:=B0;obtain ⟨u,hu⟩:∃ u,u=v:=⟨_,rfl⟩;rw [←hu] at B1 ⊢;clear B0 hu;have C:=hid (HS.out u B1.out);clear HS
 go_wp2_with fail
 refine C.out.mono ?_;clear C;rintro r u2 ⟨⟨v,rfl,hv⟩,hb⟩;obtain ⟨a1,c1,a2,c2,a3,c3,a4,c4,a5,c5,rfl,n1,n2,n3,n4,n5⟩:=hv;obtain ⟨U,hU⟩:∃ U,U=u2.alloc (Obj.cells #[.int .i64 (n:Nat),.bool (dN oX),.slice a1 (ws (dX oX)).length c1,.int .i64 (dE oX),.bool (dN oY),.slice a2 (ws (dX oY)).length c2,.int .i64 (dE oY),.bool (dN oXX),.slice a3 (ws (dX oXX)).length c3,.int .i64 (dE oXX),.bool (dN oXY),.slice a4 (ws (dX oXY)).length c4,.int .i64 (dE oXY),.bool (dN oYY),.slice a5 (ws (dX oYY)).length c5,.int .i64 (dE oYY)] 70):=⟨_,rfl⟩;obtain ⟨g,hg⟩:∃ g,g=u2.heap.size:=⟨_,rfl⟩
 have B2:Aside (Bl U g 70 [.int .i64 (n:Nat),.bool (dN oX),.slice a1 (ws (dX oX)).length c1,.int .i64 (dE oX),.bool (dN oY),.slice a2 (ws (dX oY)).length c2,.int .i64 (dE oY),.bool (dN oXX),.slice a3 (ws (dX oXX)).length c3,.int .i64 (dE oXX),.bool (dN oXY),.slice a4 (ws (dX oXY)).length c4,.int .i64 (dE oXY),.bool (dN oYY),.slice a5 (ws (dX oYY)).length c5,.int .i64 (dE oYY)]∧Below w.heap.size w U∧Nt 0 U (.slice a1 (ws (dX oX)).length c1) (dX oX)∧Nt 0 U (.slice a2 (ws (dX oY)).length c2) (dX oY)∧Nt 0 U (.slice a3 (ws (dX oXX)).length c3) (dX oXX)∧Nt 0 U (.slice a4 (ws (dX oXY)).length c4) (dX oXY)∧Nt 0 U (.slice a5 (ws (dX oYY)).length c5) (dX oYY)):=by
  rw [hU,hg];exact ⟨Bl.new _ 70 [.int .i64 (n:Nat),.bool (dN oX),.slice a1 (ws (dX oX)).length c1,.int .i64 (dE oX),.bool (dN oY),.slice a2 (ws (dX oY)).length c2,.int .i64 (dE oY),.bool (dN oXX),.slice a3 (ws (dX oXX)).length c3,.int .i64 (dE oXX),.bool (dN oXY),.slice a4 (ws (dX oXY)).length c4,.int .i64 (dE oXY),.bool (dN oYY),.slice a5 (ws (dX oYY)).length c5,.int .i64 (dE oYY)],(B1.out.trans (hb.mono B1.out.size)).trans ((Zd _ _).mono (Nat.le_trans B1.out.size hb.size)),n1.below (Za _ _),n2.below (Za _ _),n3.below (Za _ _),n4.below (Za _ _),n5.below (Za _ _)⟩
 have HU:=(qsd (ai hU hg));clear hU hg hb B1 n1 n2 n3 n4 n5
 go_upto_region 7 with fail
 rw [←HU.out.1,←HU.out.2];clear HU;have C:=hid (KD.out U B2.out.2.2);clear KD;have y0:=B2.out.1.cell 0 _ rfl;have y1:=B2.out.1.cell 1 _ rfl;have y2:=B2.out.1.cell 2 _ rfl;have y3:=B2.out.1.cell 3 _ rfl;have y4:=B2.out.1.cell 4 _ rfl;have y5:=B2.out.1.cell 5 _ rfl;have y6:=B2.out.1.cell 6 _ rfl;have y7:=B2.out.1.cell 7 _ rfl;have y8:=B2.out.1.cell 8 _ rfl;have y9:=B2.out.1.cell 9 _ rfl;have y10:=B2.out.1.cell 10 _ rfl;have y11:=B2.out.1.cell 11 _ rfl;have y12:=B2.out.1.cell 12 _ rfl;have y13:=B2.out.1.cell 13 _ rfl;have y14:=B2.out.1.cell 14 _ rfl;have y15:=B2.out.1.cell 15 _ rfl
 go_wp2_with fail
 refine C.out.mono ?_;clear C;rintro r u3 ⟨hd,hb⟩;obtain ⟨aD,cD,rfl,hN⟩:=hd.shp14;obtain ⟨V,hV⟩:∃ U,U=u3.alloc (Obj.cells #[.bool (dN oD),.slice aD (ws (dX oD)).length cD,.int .i64 (dE oD)] 62):=⟨_,rfl⟩;obtain ⟨gD,hgD⟩:∃ g,g=u3.heap.size:=⟨_,rfl⟩;have hbV:Below U.heap.size U V:=by rw [hV];exact hb.trans ((Zd _ _).mono hb.size)
 have B3:Aside (Bl V g 70 [.int .i64 (n:Nat),.bool (dN oX),.slice a1 (ws (dX oX)).length c1,.int .i64 (dE oX),.bool (dN oY),.slice a2 (ws (dX oY)).length c2,.int .i64 (dE oY),.bool (dN oXX),.slice a3 (ws (dX oXX)).length c3,.int .i64 (dE oXX),.bool (dN oXY),.slice a4 (ws (dX oXY)).length c4,.int .i64 (dE oXY),.bool (dN oYY),.slice a5 (ws (dX oYY)).length c5,.int .i64 (dE oYY)]∧Below w.heap.size w V∧Dk V gD (dN oD) (.slice aD (ws (dX oD)).length cD) (dE oD)∧Nt 0 V (.slice aD (ws (dX oD)).length cD) (dX oD)∧Nt 0 V (.slice a1 (ws (dX oX)).length c1) (dX oX)∧Nt 0 V (.slice a2 (ws (dX oY)).length c2) (dX oY)∧Nt 0 V (.slice a3 (ws (dX oXX)).length c3) (dX oXX)∧Nt 0 V (.slice a4 (ws (dX oXY)).length c4) (dX oXY)∧Nt 0 V (.slice a5 (ws (dX oYY)).length c5) (dX oYY)):=by
  refine ⟨B2.out.1.below hbV B2.out.1.lt,B2.out.2.1.trans (hbV.mono B2.out.2.1.size),?_,?_,B2.out.2.2.1.below hbV,B2.out.2.2.2.1.below hbV,B2.out.2.2.2.2.1.below hbV,B2.out.2.2.2.2.2.1.below hbV,B2.out.2.2.2.2.2.2.below hbV⟩
  · rw [hV,hgD];exact Dk.new _ _ _ _
  · rw [hV];exact hN.below (Za _ _)
 have HV:=(qsd (ai hV hgD));clear hV hgD hb hbV hN hd B2 y0 y1 y2 y3 y4 y5 y6 y7 y8 y9 y10 y11 y12 y13 y14 y15
 go_upto_region 8 with fail
 rw [←HV.out.1,←HV.out.2];clear HV;obtain ⟨d0,d1,d2,df0,df1,df2⟩:=B3.out.2.2.1.facts;have hl:=HLL.out.1;have hl2:=HLL.out.2;have C:=hid (HO.out V);clear HO
 go_wp2_with fail
 refine C.out.mono ?_;clear C d0 d1 d2 df0 df1 df2;rintro r u4 ⟨⟨v4,rfl,hv⟩,hb⟩;obtain ⟨aP,cP,rfl,hN⟩:=Lo.shape FF.out.2.2.2.1 hv;obtain ⟨X,hX⟩:∃ U,U=u4.alloc (Obj.cells #[.bool (dN oP),.slice aP (ws (dX oP)).length cP,.int .i64 (dE oP)] 62):=⟨_,rfl⟩;obtain ⟨gP,hgP⟩:∃ g,g=u4.heap.size:=⟨_,rfl⟩;have hbX:Below V.heap.size V X.drew:=by rw [hX];exact (hb.trans ((Za _ _).mono hb.size)).drew
 have BD:Aside (Nt 0 X.drew (.slice a1 (ws (dX oX)).length c1) (dX oX)∧Nt 0 X.drew (.slice a2 (ws (dX oY)).length c2) (dX oY)∧Nt 0 X.drew (.slice a3 (ws (dX oXX)).length c3) (dX oXX)∧Nt 0 X.drew (.slice a4 (ws (dX oXY)).length c4) (dX oXY)∧Nt 0 X.drew (.slice a5 (ws (dX oYY)).length c5) (dX oYY)∧Nt 0 X.drew (.slice aD (ws (dX oD)).length cD) (dX oD)∧Nt 0 X.drew (.slice aP (ws (dX oP)).length cP) (dX oP)∧Below w.heap.size w X.drew):=by
  refine ⟨B3.out.2.2.2.2.1.below hbX,B3.out.2.2.2.2.2.1.below hbX,B3.out.2.2.2.2.2.2.1.below hbX,B3.out.2.2.2.2.2.2.2.1.below hbX,B3.out.2.2.2.2.2.2.2.2.below hbX,B3.out.2.2.2.1.below hbX,?_,B3.out.2.1.trans (hbX.mono B3.out.2.1.size)⟩;rw [hX];exact (hN.below (Za _ _)).below (Below.refl _ _).drew
 have DP:Aside (Dk X.drew gP (dN oP) (.slice aP (ws (dX oP)).length cP) (dE oP)):=by rw [hX,hgP];exact (Dk.new _ _ _ _).below (Below.refl _ _).drew
 have BL:=qsd (ai (B3.out.1.below hbX B3.out.1.lt) (B3.out.2.2.1.below hbX));have HX:=(qsd (ai hX hgP));clear hX hgP hb hN hbX B3 hv
 go_upto_region 11 with fail
 rw [←HX.out.1,←HX.out.2];clear HX;have kS:Aside (X.drew.cell? ⟨g,0,none⟩=some (.int .i64 (n:Nat))∧X.drew.cell? ⟨g,1,none⟩=some (.bool (dN oX))∧X.drew.cell? ⟨g,2,none⟩=some (.slice a1 (ws (dX oX)).length c1)∧X.drew.cell? ⟨g,3,none⟩=some (.int .i64 (dE oX))∧X.drew.cell? ⟨g,4,none⟩=some (.bool (dN oY))∧X.drew.cell? ⟨g,5,none⟩=some (.slice a2 (ws (dX oY)).length c2)∧X.drew.cell? ⟨g,6,none⟩=some (.int .i64 (dE oY))∧X.drew.cell? ⟨g,7,none⟩=some (.bool (dN oXX))∧X.drew.cell? ⟨g,8,none⟩=some (.slice a3 (ws (dX oXX)).length c3)∧X.drew.cell? ⟨g,9,none⟩=some (.int .i64 (dE oXX))∧X.drew.cell? ⟨g,10,none⟩=some (.bool (dN oXY))∧X.drew.cell? ⟨g,11,none⟩=some (.slice a4 (ws (dX oXY)).length c4)∧X.drew.cell? ⟨g,12,none⟩=some (.int .i64 (dE oXY))∧X.drew.cell? ⟨g,13,none⟩=some (.bool (dN oYY))∧X.drew.cell? ⟨g,14,none⟩=some (.slice a5 (ws (dX oYY)).length c5)∧X.drew.cell? ⟨g,15,none⟩=some (.int .i64 (dE oYY))∧X.drew.cell? ⟨gD,0,none⟩=some (.bool (dN oD))∧X.drew.cell? ⟨gD,1,none⟩=some (.slice aD (ws (dX oD)).length cD)∧X.drew.cell? ⟨gD,2,none⟩=some (.int .i64 (dE oD))∧X.drew.cell? ⟨gP,0,none⟩=some (.bool (dN oP))∧X.drew.cell? ⟨gP,1,none⟩=some (.slice aP (ws (dX oP)).length cP)∧X.drew.cell? ⟨gP,2,none⟩=some (.int .i64 (dE oP))):=⟨BL.out.1.cell 0 _ rfl,BL.out.1.cell 1 _ rfl,BL.out.1.cell 2 _ rfl,BL.out.1.cell 3 _ rfl,BL.out.1.cell 4 _ rfl,BL.out.1.cell 5 _ rfl,BL.out.1.cell 6 _ rfl,BL.out.1.cell 7 _ rfl,BL.out.1.cell 8 _ rfl,BL.out.1.cell 9 _ rfl,BL.out.1.cell 10 _ rfl,BL.out.1.cell 11 _ rfl,BL.out.1.cell 12 _ rfl,BL.out.1.cell 13 _ rfl,BL.out.1.cell 14 _ rfl,BL.out.1.cell 15 _ rfl,BL.out.2.facts.1,BL.out.2.facts.2.1,BL.out.2.facts.2.2.1,DP.out.facts.1,DP.out.facts.2.1,DP.out.facts.2.2.1⟩;clear DP BL;refine Zn (fun w'=>w'.cell? ⟨g,0,none⟩=some (.int .i64 (n:Nat))∧w'.cell? ⟨g,1,none⟩=some (.bool (dN oX))∧w'.cell? ⟨g,2,none⟩=some (.slice a1 (ws (dX oX)).length c1)∧w'.cell? ⟨g,3,none⟩=some (.int .i64 (dE oX))∧w'.cell? ⟨g,4,none⟩=some (.bool (dN oY))∧w'.cell? ⟨g,5,none⟩=some (.slice a2 (ws (dX oY)).length c2)∧w'.cell? ⟨g,6,none⟩=some (.int .i64 (dE oY))∧w'.cell? ⟨g,7,none⟩=some (.bool (dN oXX))∧w'.cell? ⟨g,8,none⟩=some (.slice a3 (ws (dX oXX)).length c3)∧w'.cell? ⟨g,9,none⟩=some (.int .i64 (dE oXX))∧w'.cell? ⟨g,10,none⟩=some (.bool (dN oXY))∧w'.cell? ⟨g,11,none⟩=some (.slice a4 (ws (dX oXY)).length c4)∧w'.cell? ⟨g,12,none⟩=some (.int .i64 (dE oXY))∧w'.cell? ⟨g,13,none⟩=some (.bool (dN oYY))∧w'.cell? ⟨g,14,none⟩=some (.slice a5 (ws (dX oYY)).length c5)∧w'.cell? ⟨g,15,none⟩=some (.int .i64 (dE oYY))∧w'.cell? ⟨gD,0,none⟩=some (.bool (dN oD))∧w'.cell? ⟨gD,1,none⟩=some (.slice aD (ws (dX oD)).length cD)∧w'.cell? ⟨gD,2,none⟩=some (.int .i64 (dE oD))∧w'.cell? ⟨gP,0,none⟩=some (.bool (dN oP))∧w'.cell? ⟨gP,1,none⟩=some (.slice aP (ws (dX oP)).length cP)∧w'.cell? ⟨gP,2,none⟩=some (.int .i64 (dE oP))) 12 (by kernel_rfl) ?_
 obtain ⟨Wd,hWd⟩:∃ Vq,Vq=X.drew:=⟨_,rfl⟩;rw [←hWd] at BD kS ⊢;clear hWd
 refine tk 0 [] rfl kS.out ?_;try simp only [Act.put,sa,sb,sc]
 refine tk 2 [] rfl kS.out ?_;try simp only [Act.put,sa,sb,sc]
 refine tk 4 [] rfl kS.out ?_;try simp only [Act.put,sa,sb,sc]
 refine tk 7 [] rfl kS.out ?_;try simp only [Act.put,sa,sb,sc]
 refine tk 8 [] rfl kS.out ?_;try simp only [Act.put,sa,sb,sc]
 refine Zb (i:=1) (by kernel_rfl) rfl (fun K' hK=>?_)
 have C:=hid (KK.out Wd ⟨BD.out.1,BD.out.2.1,BD.out.2.2.1,BD.out.2.2.2.1,BD.out.2.2.2.2.1⟩)
 go_simp
 refine C.out.mono ?_;rintro r u1_ ⟨hd,hb⟩;obtain ⟨oKa,oKc,rfl,hN⟩:=hd.shp14;clear hd;have BD2:=qsd (ai (BD.out.1.below hb) (ai (BD.out.2.1.below hb) (ai (BD.out.2.2.1.below hb) (ai (BD.out.2.2.2.1.below hb) (ai (BD.out.2.2.2.2.1.below hb) (ai (BD.out.2.2.2.2.2.1.below hb) (ai (BD.out.2.2.2.2.2.2.1.below hb) (ai (BD.out.2.2.2.2.2.2.2.trans (hb.mono BD.out.2.2.2.2.2.2.2.size)) hN))))))));have kS2:=qsd (ck hb kS.out fun h=>ck hb h fun h=>ck hb h fun h=>ck hb h fun h=>ck hb h fun h=>ck2 hb h);clear hb hN C BD kS;have BD:=BD2;have kS:=kS2;clear BD2 kS2
 try dsimp only
 refine hK.out _ _ (fun _=>kS.out) ?_
 clear hK K'
 try simp only [Act.put,sa,sb,sc]
 refine Zb (i:=3) (by kernel_rfl) rfl (fun K' hK=>?_)
 have C:=hid (KC.out u1_ ⟨BD.out.1,BD.out.2.1,BD.out.2.2.1,BD.out.2.2.2.1,BD.out.2.2.2.2.1⟩)
 go_simp
 refine C.out.mono ?_;rintro r u2_ ⟨hd,hb⟩;obtain ⟨oCa,oCc,rfl,hN⟩:=hd.shp14;clear hd;have BD2:=qsd (ai (BD.out.1.below hb) (ai (BD.out.2.1.below hb) (ai (BD.out.2.2.1.below hb) (ai (BD.out.2.2.2.1.below hb) (ai (BD.out.2.2.2.2.1.below hb) (ai (BD.out.2.2.2.2.2.1.below hb) (ai (BD.out.2.2.2.2.2.2.1.below hb) (ai (BD.out.2.2.2.2.2.2.2.1.trans (hb.mono BD.out.2.2.2.2.2.2.2.1.size)) (ai (BD.out.2.2.2.2.2.2.2.2.below hb) hN)))))))));have kS2:=qsd (ck hb kS.out fun h=>ck hb h fun h=>ck hb h fun h=>ck hb h fun h=>ck hb h fun h=>ck2 hb h);clear hb hN C BD kS;have BD:=BD2;have kS:=kS2;clear BD2 kS2
 try dsimp only
 refine hK.out _ _ (fun _=>kS.out) ?_
 clear hK K'
 try simp only [Act.put,sa,sb,sc]
 refine Zb (i:=5) (by kernel_rfl) rfl (fun K' hK=>?_)
 have C:=hid (Qn FF.out.2.1 FF.out.2.2.2.1 FF.out.2.2.2.2.1 BD.out.2.2.2.2.2.2.2.2.2 BD.out.2.2.2.2.2.2.1 EE.out.1)
 go_simp
 refine C.out.mono ?_;rintro r u3_ ⟨hd,hb⟩;obtain ⟨p1a,p1c,rfl,hN⟩:=hd.shp14;clear hd;have BD2:=qsd (ai (BD.out.1.below hb) (ai (BD.out.2.1.below hb) (ai (BD.out.2.2.1.below hb) (ai (BD.out.2.2.2.1.below hb) (ai (BD.out.2.2.2.2.1.below hb) (ai (BD.out.2.2.2.2.2.1.below hb) (ai (BD.out.2.2.2.2.2.2.1.below hb) (ai (BD.out.2.2.2.2.2.2.2.1.trans (hb.mono BD.out.2.2.2.2.2.2.2.1.size)) (ai (BD.out.2.2.2.2.2.2.2.2.1.below hb) (ai (BD.out.2.2.2.2.2.2.2.2.2.below hb) hN))))))))));have kS2:=qsd (ck hb kS.out fun h=>ck hb h fun h=>ck hb h fun h=>ck hb h fun h=>ck hb h fun h=>ck2 hb h);clear hb hN C BD kS;have BD:=BD2;have kS:=kS2;clear BD2 kS2
 try dsimp only
 refine hK.out _ _ (fun _=>kS.out) ?_
 clear hK K'
 try simp only [Act.put,sa,sb,sc]
 refine Zb (i:=6) (by kernel_rfl) rfl (fun K' hK=>?_)
 have C:=hid (Zaa FF.out.2.2.1 FF.out.2.2.2.2.1 FF.out.2.2.2.2.2 BD.out.2.2.2.2.2.2.2.2.1 BD.out.2.2.2.2.2.2.2.2.2.2 EE.out.2)
 go_simp
 refine C.out.mono ?_;rintro r u4_ ⟨hd,hb⟩;obtain ⟨p2a,p2c,rfl,hN⟩:=hd.shp14;clear hd;have BD2:=qsd (ai (BD.out.1.below hb) (ai (BD.out.2.1.below hb) (ai (BD.out.2.2.1.below hb) (ai (BD.out.2.2.2.1.below hb) (ai (BD.out.2.2.2.2.1.below hb) (ai (BD.out.2.2.2.2.2.1.below hb) (ai (BD.out.2.2.2.2.2.2.1.below hb) (ai (BD.out.2.2.2.2.2.2.2.1.trans (hb.mono BD.out.2.2.2.2.2.2.2.1.size)) (ai (BD.out.2.2.2.2.2.2.2.2.1.below hb) (ai (BD.out.2.2.2.2.2.2.2.2.2.1.below hb) (ai (BD.out.2.2.2.2.2.2.2.2.2.2.below hb) hN)))))))))));have kS2:=qsd (ck hb kS.out fun h=>ck hb h fun h=>ck hb h fun h=>ck hb h fun h=>ck hb h fun h=>ck2 hb h);clear hb hN C BD kS;have BD:=BD2;have kS:=kS2;clear BD2 kS2
 try dsimp only
 refine hK.out _ _ (fun _=>kS.out) ?_
 clear hK K'
 try simp only [Act.put,sa,sb,sc]
 refine Zb (i:=9) (by kernel_rfl) rfl (fun K' hK=>?_)
 have C:=hid (Zuv mode FF.out.2.2.2.2.2 FF.out.1 BD.out.2.2.2.2.2.2.2.2.2.2.2 BD.out.2.2.2.2.2.1)
 go_simp
 refine C.out.mono ?_;rintro r u5_ ⟨rfl,hb⟩;have BD2:=qsd (ai (BD.out.1.below hb) (ai (BD.out.2.1.below hb) (ai (BD.out.2.2.1.below hb) (ai (BD.out.2.2.2.1.below hb) (ai (BD.out.2.2.2.2.1.below hb) (ai (BD.out.2.2.2.2.2.1.below hb) (ai (BD.out.2.2.2.2.2.2.1.below hb) (ai (BD.out.2.2.2.2.2.2.2.1.trans (hb.mono BD.out.2.2.2.2.2.2.2.1.size)) (ai (BD.out.2.2.2.2.2.2.2.2.1.below hb) (ai (BD.out.2.2.2.2.2.2.2.2.2.1.below hb) (ai (BD.out.2.2.2.2.2.2.2.2.2.2.1.below hb) (BD.out.2.2.2.2.2.2.2.2.2.2.2.below hb))))))))))));have kS2:=qsd (ck hb kS.out fun h=>ck hb h fun h=>ck hb h fun h=>ck hb h fun h=>ck hb h fun h=>ck2 hb h);clear hb C BD kS;have BD:=BD2;have kS:=kS2;clear BD2 kS2
 try dsimp only
 refine hK.out _ _ (fun _=>kS.out) ?_
 clear hK K'
 try simp only [Act.put,sa,sb,sc]
 refine Zb (i:=10) (by kernel_rfl) rfl (fun K' hK=>?_)
 go_simp
 refine hK.out _ _ (fun _=>kS.out) ?_
 clear hK K'
 try simp only [Act.put,sa,sb,sc]
 refine Zb (i:=11) (by kernel_rfl) rfl (fun K' hK=>?_)
 go_simp
 refine hK.out _ _ (fun _=>kS.out) ?_
 clear hK K'
 try simp only [Act.put,sa,sb,sc]
 have BE:=qsd BD.out.2.2.2.2.2.2.2.1;clear kS BD;refine Zs (by kernel_rfl) ?_ _
 go_wp2;exact bodyPost_ret (v:=.tuple #[.float .f64 _,.int .i64 0]) (by simp [results,Tryz.results19,go_sem]) rfl ⟨rfl,BE.out⟩
section
variable {xs ys : List Nat} (G : Gd xs ys) {n : Nat} (hn : n = xs.length)
include G hn
theorem Zux (u:World):Calls Tryz.prog 50 #[.int .i64 (n:Nat)] u fun r w'=>DVal 0 w' r (gV 0 (n:Nat))∧Below u.heap.size u w':=Zts n u (by omega) (by have:=G.le;omega)
theorem Zsb {w:World}{a1 a2 a3 a4 a5:Option Addr}{c1 c2 c3 c4 c5:Nat}(HN:Nt 0 w (.slice a1 (ws (dX (gV 1074 (zS fvW xs)))).length c1) (dX (gV 1074 (zS fvW xs)))∧Nt 0 w (.slice a2 (ws (dX (gV 1074 (zS fvW ys)))).length c2) (dX (gV 1074 (zS fvW ys)))∧Nt 0 w (.slice a3 (ws (dX (gV 2148 (pS xs xs)))).length c3) (dX (gV 2148 (pS xs xs)))∧Nt 0 w (.slice a4 (ws (dX (gV 2148 (pS xs ys)))).length c4) (dX (gV 2148 (pS xs ys)))∧Nt 0 w (.slice a5 (ws (dX (gV 2148 (pS ys ys)))).length c5) (dX (gV 2148 (pS ys ys)))) :
 Calls Tryz.prog 43 #[.agg #[.int .i64 (n:Nat),.bool (dN (gV 1074 (zS fvW xs))),.slice a1 (ws (dX (gV 1074 (zS fvW xs)))).length c1,.int .i64 (dE (gV 1074 (zS fvW xs))),.bool (dN (gV 1074 (zS fvW ys))),.slice a2 (ws (dX (gV 1074 (zS fvW ys)))).length c2,.int .i64 (dE (gV 1074 (zS fvW ys))),.bool (dN (gV 2148 (pS xs xs))),.slice a3 (ws (dX (gV 2148 (pS xs xs)))).length c3,.int .i64 (dE (gV 2148 (pS xs xs))),.bool (dN (gV 2148 (pS xs ys))),.slice a4 (ws (dX (gV 2148 (pS xs ys)))).length c4,.int .i64 (dE (gV 2148 (pS xs ys))),.bool (dN (gV 2148 (pS ys ys))),.slice a5 (ws (dX (gV 2148 (pS ys ys)))).length c5,.int .i64 (dE (gV 2148 (pS ys ys)))]] w fun r w'=>DVal 0 w' r (gV 2148 (fD xs ys))∧Below w.heap.size w w' :=
 Zu5 (gV 0 (n:Nat)) (gV 2148 ((xs.length:Int)*pS xs xs)) (gV 2148 (zS fvW xs*zS fvW xs)) _ ⟨by rw [hn];exact gf G.n16,gf G.sx,gf G.xx,gf (G.n16.mul G.xx),gf (G.sx.mul G.sx),gf G.d⟩ ⟨by rw [hn];exact gm (u:=0) G.n16 G.xx,gm G.sx G.sx,gs (G.n16.mul G.xx) (G.sx.mul G.sx)⟩ (hid fun u=>Zux G hn u) HN
theorem Zt9 {w:World}{a1 a2 a3 a4 a5:Option Addr}{c1 c2 c3 c4 c5:Nat}(HN:Nt 0 w (.slice a1 (ws (dX (gV 1074 (zS fvW xs)))).length c1) (dX (gV 1074 (zS fvW xs)))∧Nt 0 w (.slice a2 (ws (dX (gV 1074 (zS fvW ys)))).length c2) (dX (gV 1074 (zS fvW ys)))∧Nt 0 w (.slice a3 (ws (dX (gV 2148 (pS xs xs)))).length c3) (dX (gV 2148 (pS xs xs)))∧Nt 0 w (.slice a4 (ws (dX (gV 2148 (pS xs ys)))).length c4) (dX (gV 2148 (pS xs ys)))∧Nt 0 w (.slice a5 (ws (dX (gV 2148 (pS ys ys)))).length c5) (dX (gV 2148 (pS ys ys)))) :
 Calls Tryz.prog 44 #[.agg #[.int .i64 (n:Nat),.bool (dN (gV 1074 (zS fvW xs))),.slice a1 (ws (dX (gV 1074 (zS fvW xs)))).length c1,.int .i64 (dE (gV 1074 (zS fvW xs))),.bool (dN (gV 1074 (zS fvW ys))),.slice a2 (ws (dX (gV 1074 (zS fvW ys)))).length c2,.int .i64 (dE (gV 1074 (zS fvW ys))),.bool (dN (gV 2148 (pS xs xs))),.slice a3 (ws (dX (gV 2148 (pS xs xs)))).length c3,.int .i64 (dE (gV 2148 (pS xs xs))),.bool (dN (gV 2148 (pS xs ys))),.slice a4 (ws (dX (gV 2148 (pS xs ys)))).length c4,.int .i64 (dE (gV 2148 (pS xs ys))),.bool (dN (gV 2148 (pS ys ys))),.slice a5 (ws (dX (gV 2148 (pS ys ys)))).length c5,.int .i64 (dE (gV 2148 (pS ys ys)))]] w fun r w'=>DVal 0 w' r (gV 2148 (fC xs ys))∧Below w.heap.size w w' :=
 Zu6 (gV 0 (n:Nat)) (gV 2148 ((xs.length:Int)*pS xs ys)) (gV 2148 (zS fvW xs*zS fvW ys)) _ ⟨by rw [hn];exact gf G.n16,gf G.sx,gf G.sy,gf G.xy,gf (G.n16.mul G.xy),gf (G.sx.mul G.sy),gf G.c⟩ ⟨by rw [hn];exact gm (u:=0) G.n16 G.xy,gm G.sx G.sy,gs (G.n16.mul G.xy) (G.sx.mul G.sy)⟩ (hid fun u=>Zux G hn u) HN
theorem Zua {w:World}{a1 a2 a3 a4 a5:Option Addr}{c1 c2 c3 c4 c5:Nat}(HN:Nt 0 w (.slice a1 (ws (dX (gV 1074 (zS fvW xs)))).length c1) (dX (gV 1074 (zS fvW xs)))∧Nt 0 w (.slice a2 (ws (dX (gV 1074 (zS fvW ys)))).length c2) (dX (gV 1074 (zS fvW ys)))∧Nt 0 w (.slice a3 (ws (dX (gV 2148 (pS xs xs)))).length c3) (dX (gV 2148 (pS xs xs)))∧Nt 0 w (.slice a4 (ws (dX (gV 2148 (pS xs ys)))).length c4) (dX (gV 2148 (pS xs ys)))∧Nt 0 w (.slice a5 (ws (dX (gV 2148 (pS ys ys)))).length c5) (dX (gV 2148 (pS ys ys)))) :
 Calls Tryz.prog 47 #[.agg #[.int .i64 (n:Nat),.bool (dN (gV 1074 (zS fvW xs))),.slice a1 (ws (dX (gV 1074 (zS fvW xs)))).length c1,.int .i64 (dE (gV 1074 (zS fvW xs))),.bool (dN (gV 1074 (zS fvW ys))),.slice a2 (ws (dX (gV 1074 (zS fvW ys)))).length c2,.int .i64 (dE (gV 1074 (zS fvW ys))),.bool (dN (gV 2148 (pS xs xs))),.slice a3 (ws (dX (gV 2148 (pS xs xs)))).length c3,.int .i64 (dE (gV 2148 (pS xs xs))),.bool (dN (gV 2148 (pS xs ys))),.slice a4 (ws (dX (gV 2148 (pS xs ys)))).length c4,.int .i64 (dE (gV 2148 (pS xs ys))),.bool (dN (gV 2148 (pS ys ys))),.slice a5 (ws (dX (gV 2148 (pS ys ys)))).length c5,.int .i64 (dE (gV 2148 (pS ys ys)))]] w fun r w'=>DVal 0 w' r (gV 3222 (fK xs ys))∧Below w.heap.size w w':=by
 have _h:=hn;exact Zsy (gV 3222 (pS xs xs*zS fvW ys)) (gV 3222 (zS fvW xs*pS xs ys)) _ ⟨gf G.sx,gf G.sy,gf G.xx,gf G.xy,gf (G.xx.mul G.sy),gf (G.sx.mul G.xy),gf G.k⟩ ⟨gm G.xx G.sy,gm G.sx G.xy,gs (G.xx.mul G.sy) (G.sx.mul G.xy)⟩ HN
end
theorem Zs1 (xs ys:List Nat) (x:Nat) (mode:Int):amE xs ys [x] mode 2=if (amE xs ys [] mode 2=0∨amE xs ys [] mode 2=3)∧fiB [x]=false then 30 else amE xs ys [] mode 2:=by
 unfold amE;have e:fiB []=true:=rfl;rw [e,Bool.and_true]
 by_cases h1:mode<0∨4<mode
 · simp [h1]
 · rw [if_neg h1,if_neg h1]
   by_cases h2:65536<xs.length∨65536<ys.length
   · simp [h2]
   · rw [if_neg h2,if_neg h2]
     by_cases h3:xs.length≠ys.length
     · simp [h3]
     · rw [if_neg h3,if_neg h3]
       cases h4:(fiB xs&&fiB ys) with
       | false=>simp
       | true =>
         cases h5:fiB [x] with
         | false=>simp;split <;> simp
         | true=>simp
theorem Zub (xs ys:List Nat) (x:Nat) (a b:Option Addr) (n m c d:Nat) (mode:Int) (w:World) (hn:n=xs.length) (hm:m=ys.length) (hF:Fs w.heap.size w a xs) (hF2:Fs w.heap.size w b ys) (hW:W64 xs) (hV:W64 ys) (hx:x<18446744073709551616) :
 Calls Tryz.prog 19 #[.slice a n c,.slice b m d,.float .f64 x,.int .i64 mode] w fun r w'=>r=.returned (.tuple #[.float .f64 (atR xs ys x mode).1,.int .i64 (atR xs ys x mode).2])∧Below w.heap.size w w':=by
 have hs:∀ u:World,Below w.heap.size w u→Fs u.heap.size u a xs:=fun u hu=>(hF.below hu).mono hu.size
 have hs2:∀ u:World,Below w.heap.size w u→Fs u.heap.size u b ys:=fun u hu=>(hF2.below hu).mono hu.size
 have HA:∀ u:World,Below w.heap.size w u→Calls Tryz.prog 41 #[.slice a n c,.slice b m d,.int .i64 mode,.int .i64 2] u fun r w'=>r=.returned (.int .i64 (amE xs ys [] mode 2))∧Below u.heap.size u w' :=
  fun u hu=>Zin xs ys a b n m c d mode 2 u hn hm (by omega) (hs u hu) (hs2 u hu) hW hV
 have hc:=Zs1 xs ys x mode;have hfx:fiB [x]=decide (magW x<9218868437227405312):=by simp [fiB]
 have HC:=hid (fun u:World=>Zg4 hx u)
 rw [←hfx] at HC;unfold atR
 by_cases hE:amE xs ys [] mode 2=0
 · rw [hE] at HA
   obtain ⟨G,h0,h4,h2,_⟩:=Zc9 hW hV hE;have hnm:n=m:=by rw [hn,hm];exact G.len
   subst hnm
   cases h5:fiB [x] with
   | false =>
     rw [h5] at HC;rw [if_pos ⟨.inl hE,h5⟩] at hc;rw [hc,if_pos (by decide)]
     exact Znm x mode HC (hid HA)
   | true =>
     rw [h5] at HC;rw [if_neg (by rw [h5];simp),hE] at hc
     rw [hc,if_neg (by decide)]
     have fx:finW x:=by rw [hfx] at h5;exact of_decide_eq_true h5
     have bx:=Yr hx fx;have HS:=hid (fun (u:World) (hu:Below w.heap.size w u)=>Zt8 G a b n c d u hn (hs u hu) (hs2 u hu))
     by_cases hD:fD xs ys=0
     · rw [if_pos hD]
       exact Znp x mode ((gz G.d).2 hD) HC (hid HA) HS (hid fun u _ _ _ _ _ _ _ _ _ _ h=>Zsb G hn h)
     · rw [if_neg hD]
       exact Zs0 x mode (fun h=>hD ((gz G.d).1 h)) ⟨gf G.d,gf G.c,gf G.k,gf bx,gf (G.c.mul bx),gf (G.k.add (G.c.mul bx))⟩ ⟨gm G.c bx,ga G.k (G.c.mul bx)⟩ HC (hid HA) HS (hid fun u _ _ _ _ _ _ _ _ _ _ h=>Zsb G hn h) (hid fun u _ _ _ _ _ _ _ _ _ _ h=>Zt9 G hn h) (hid fun u _ _ _ _ _ _ _ _ _ _ h=>Zua G hn h) (hid fun u=>Zph x hx fx u)
 · by_cases hE3:amE xs ys [] mode 2=3
   · rw [hE3] at HA
     cases h5:fiB [x] with
     | false =>
       rw [h5] at HC;rw [if_pos ⟨.inr hE3,h5⟩] at hc;rw [hc,if_pos (by decide)]
       exact Znn x mode HC (hid HA)
     | true =>
       rw [h5] at HC;rw [if_neg (by rw [h5];simp),hE3] at hc
       rw [hc,if_pos (by decide)]
       exact Zno x mode HC (hid HA)
   · rw [if_neg (by intro h;rcases h.1 with q | q;exact hE q;exact hE3 q)] at hc
     rw [hc,if_pos hE];exact Zsz x mode _ hE hE3 (hid HA)
end
section
open Go Go.RowKit J
open Go.Proofs.YtblkpkgebigojaaGreatDoor.B (f64bits f64frombits)
attribute [local go_sem] Ps.st_floatP f64bits f64frombits
theorem Zs2 (w:World) (hT:Tab w):Calls Tryz.prog 12 #[] w fun r w'=>r=.returned (.bool true)∧Below w.heap.size w w':=by
 have o0:(FloatKind.f64.format.order 4602678819172646912 4602678819172646912==some .eq)=true:=by decide +kernel
 have o1:(FloatKind.f64.format.order 4604930618986332160 4604930618986332160==some .eq)=true:=by decide +kernel
 have o2:(FloatKind.f64.format.order 4609434218613702656 4609434218613702656==some .eq)=true:=by decide +kernel
 have o3:(FloatKind.f64.format.order 4626604192193052672 4626604192193052672==some .eq)=true:=by decide +kernel
 obtain ⟨Q2,Q4,hq⟩:=Zld;have HQ:=qsd hq;have HT:=qsd hT;clear hq hT;obtain ⟨V1,hV1⟩:∃ V,V=(w.alloc (Obj.cells #[.float .f64 0,.float .f64 4607182418800017408,.float .f64 4611686018427387904] 26)).alloc (Obj.cells #[.float .f64 0,.float .f64 4607182418800017408,.float .f64 4607182418800017408] 26):=⟨_,rfl⟩;obtain ⟨ga1,hga1⟩:∃ g,g=w.heap.size:=⟨_,rfl⟩;obtain ⟨gb1,hgb1⟩:∃ g,g=w.heap.size+1:=⟨_,rfl⟩
 have BV1:Aside (Below w.heap.size w V1∧Fs V1.heap.size V1 (some ⟨ga1,0,none⟩) [0,4607182418800017408,4611686018427387904]∧Fs V1.heap.size V1 (some ⟨gb1,0,none⟩) [0,4607182418800017408,4607182418800017408]):=by
  have z1:=Zea w [0,4607182418800017408,4611686018427387904] ga1 hga1;have z2:=Zea (w.alloc (Obj.cells #[.float .f64 0,.float .f64 4607182418800017408,.float .f64 4611686018427387904] 26)) [0,4607182418800017408,4607182418800017408] gb1 (by rw [hgb1];simp)
  rw [hV1];exact ⟨(Zd _ _).trans ((Zd _ _).mono (by simp)),(z1.below (Zd _ _)).mono (by simp),z2⟩
 have HV1:=(qsd (ai hV1 (ai hga1 hgb1)));clear hV1 hga1 hgb1;have C:=hid (Zqh [0,4607182418800017408,4611686018427387904] [0,4607182418800017408,4607182418800017408] (some ⟨ga1,0,none⟩) (some ⟨gb1,0,none⟩) 3 3 3 3 0 V1 rfl rfl BV1.out.2.1 BV1.out.2.2 (by unfold W64;decide) (by unfold W64;decide) (HT.out.belows BV1.out.1) HQ.out)
 go_enter Tryz.func12,Tryz.ntmps12
 go_wp2_with fail
 rw [←HV1.out.1]
 try rw [←HV1.out.2.2]
 try rw [←HV1.out.2.1]
 clear HV1;refine C.out.mono ?_;clear C;rintro r u1 ⟨rfl,hb⟩;obtain ⟨U1,hU1⟩:∃ U,U=u1.alloc (Obj.cells #[.int .i64 3,.float .f64 4602678819172646912,.float .f64 Q2,.float .f64 4604930618986332160,.float .f64 Q4] 36):=⟨_,rfl⟩;obtain ⟨g1,hg1⟩:∃ g,g=u1.heap.size:=⟨_,rfl⟩
 have B1:Aside (Below w.heap.size w U1∧Bl U1 g1 36 [.int .i64 3,.float .f64 4602678819172646912,.float .f64 Q2,.float .f64 4604930618986332160,.float .f64 Q4]):=by
  rw [hU1,hg1];exact ⟨(BV1.out.1.trans (hb.mono BV1.out.1.size)).trans ((Zd _ _).mono (Nat.le_trans BV1.out.1.size hb.size)),Bl.new _ 36 [.int .i64 3,.float .f64 4602678819172646912,.float .f64 Q2,.float .f64 4604930618986332160,.float .f64 Q4]⟩
 have HU1:=(qsd (ai hU1 hg1));clear hU1 hg1 hb BV1;obtain ⟨V2,hV2⟩:∃ V,V=(U1.alloc (Obj.cells #[.float .f64 4611686018427387904] 26)).alloc (Obj.cells #[.float .f64 4613937818241073152] 26):=⟨_,rfl⟩;obtain ⟨ga2,hga2⟩:∃ g,g=U1.heap.size:=⟨_,rfl⟩;obtain ⟨gb2,hgb2⟩:∃ g,g=U1.heap.size+1:=⟨_,rfl⟩
 have BV2:Aside (Below w.heap.size w V2∧Fs V2.heap.size V2 (some ⟨ga2,0,none⟩) [4611686018427387904]∧Fs V2.heap.size V2 (some ⟨gb2,0,none⟩) [4613937818241073152]):=by
  have z1:=Zea U1 [4611686018427387904] ga2 hga2;have z2:=Zea (U1.alloc (Obj.cells #[.float .f64 4611686018427387904] 26)) [4613937818241073152] gb2 (by rw [hgb2];simp)
  rw [hV2];exact ⟨(B1.out.1.trans ((Zd _ _).mono B1.out.1.size)).trans ((Zd _ _).mono (by simp;have:=B1.out.1.size;omega)),(z1.below (Zd _ _)).mono (by simp),z2⟩
 have HV2:=(qsd (ai hV2 (ai hga2 hgb2)));clear hV2 hga2 hgb2;have C:=hid (Zhu [4611686018427387904] [4613937818241073152] (some ⟨ga2,0,none⟩) (some ⟨gb2,0,none⟩) 1 1 1 1 0 V2 rfl rfl BV2.out.2.1 BV2.out.2.2 (by unfold W64;decide) (by unfold W64;decide) (HT.out.belows BV2.out.1) Zeh)
 have B2:Aside (Bl V2 g1 36 [.int .i64 3,.float .f64 4602678819172646912,.float .f64 Q2,.float .f64 4604930618986332160,.float .f64 Q4]):=by rw [HV2.out.1];exact (B1.out.2.alloc _).alloc _
 go_upto_region 2 with fail
 rw [←HU1.out.1,←HU1.out.2];clear HU1 B1
 go_wp2_with fail
 rw [←HV2.out.1]
 try rw [←HV2.out.2.2]
 try rw [←HV2.out.2.1]
 clear HV2;refine C.out.mono ?_;clear C;rintro r u2 ⟨rfl,hb⟩;have B3:=qsd (ai (BV2.out.1.trans (hb.mono BV2.out.1.size)) (B2.out.below hb B2.out.lt));clear hb BV2 B2;obtain ⟨V3,hV3⟩:∃ V,V=(u2.alloc (Obj.cells #[.float .f64 0,.float .f64 4607182418800017408,.float .f64 4611686018427387904] 26)).alloc (Obj.cells #[.float .f64 4607182418800017408,.float .f64 4613937818241073152,.float .f64 4617315517961601024] 26):=⟨_,rfl⟩;obtain ⟨ga3,hga3⟩:∃ g,g=u2.heap.size:=⟨_,rfl⟩;obtain ⟨gb3,hgb3⟩:∃ g,g=u2.heap.size+1:=⟨_,rfl⟩
 have BV3:Aside (Below w.heap.size w V3∧Fs V3.heap.size V3 (some ⟨ga3,0,none⟩) [0,4607182418800017408,4611686018427387904]∧Fs V3.heap.size V3 (some ⟨gb3,0,none⟩) [4607182418800017408,4613937818241073152,4617315517961601024]):=by
  have z1:=Zea u2 [0,4607182418800017408,4611686018427387904] ga3 hga3;have z2:=Zea (u2.alloc (Obj.cells #[.float .f64 0,.float .f64 4607182418800017408,.float .f64 4611686018427387904] 26)) [4607182418800017408,4613937818241073152,4617315517961601024] gb3 (by rw [hgb3];simp)
  rw [hV3];exact ⟨(B3.out.1.trans ((Zd _ _).mono B3.out.1.size)).trans ((Zd _ _).mono (by simp;have:=B3.out.1.size;omega)),(z1.below (Zd _ _)).mono (by simp),z2⟩
 have HV3:=(qsd (ai hV3 (ai hga3 hgb3)));clear hV3 hga3 hgb3;have C:=hid (Zr9 [0,4607182418800017408,4611686018427387904] [4607182418800017408,4613937818241073152,4617315517961601024] 4621819117588971520 (some ⟨ga3,0,none⟩) (some ⟨gb3,0,none⟩) 3 3 3 3 0 V3 rfl rfl BV3.out.2.1 BV3.out.2.2 (by unfold W64;decide) (by unfold W64;decide) (by decide) (HT.out.belows BV3.out.1) Zqf)
 have B4:Aside (Bl V3 g1 36 [.int .i64 3,.float .f64 4602678819172646912,.float .f64 Q2,.float .f64 4604930618986332160,.float .f64 Q4]):=by rw [HV3.out.1];exact (B3.out.2.alloc _).alloc _
 clear B3
 go_wp2_with fail
 rw [←HV3.out.1]
 try rw [←HV3.out.2.2]
 try rw [←HV3.out.2.1]
 clear HV3;refine C.out.mono ?_;clear C;rintro r u3 ⟨rfl,hb⟩;have B5:=qsd (ai (BV3.out.1.trans (hb.mono BV3.out.1.size)) (B4.out.below hb B4.out.lt));clear hb BV3 B4;have z0:=B5.out.2.cell 0 _ rfl;have z1:=B5.out.2.cell 1 _ rfl;have z3:=B5.out.2.cell 3 _ rfl;go_wp2;exact bodyPost_ret (v:=.bool true) (by simp [results,Tryz.results12,go_sem]) rfl ⟨rfl,B5.out.1⟩
end
section
open Go Go.RowKit J
open Go.Proofs.YtblkpkgebigojaaGreatDoor.B (f64bits f64frombits)
attribute [local go_sem] Ps.st_floatP f64bits f64frombits
theorem Zej (x:Nat) (w:World):Calls Tryz.prog 20 #[.float .f64 x,.float .f64 x] w fun r w'=>r=.returned (.bool true)∧w'=w:=by
 have:=Zqg x x w;rw [decide_eq_true rfl] at this;exact this
end
section
open Go.ChangeShapes Go.WideShapes Go.ChangeAt Go.RowKit
theorem trodF {H:Type}{enc:TypeId×Value→H}{P:Program}{w:World}{base:Nat}{spare:Nat→Bool}{held:Bool}{fuel:Nat}{t:TypeId}{cs:List Value}{x:DataW H×List MemPlace}{k:FloatKind}(ht:P.underlying t=some (.float k)) (h:DataW.trod enc P w base spare held fuel t cs=some x):∃ n,cs=[.float k n]∧x=(.lit (.float k n),[])∧(Lit.float k n).wf=true:=by
 cases fuel with
 | zero=>simp [DataW.trod] at h
 | succ m =>
   simp only [DataW.trod,ht] at h
   split at h <;> simp_all
structure CameF (w:World) (a:Option Addr) (n c:Nat) (xs:List Nat):Prop where
 len:n=xs.length
 cap:n≤c
 wf:W64 xs
 rd:Fs w.heap.size w a xs
 nil:a=none→c=0
theorem Zlh (b off i:Nat):(⟨b,off,none⟩:Addr).add i=⟨b,off+i,none⟩:=by unfold Addr.add;split <;> simp_all
def numF {H:Type} (y:DataW H×List MemPlace):Nat:=match y.1 with | .lit (.float _ n)=>n | _=>0
theorem Tryz.cellsF:Tryz.prog.cellsOf 26=1:=by kernel_rfl
theorem Tryz.bytesF:Tryz.prog.bytesOf 26=8:=by kernel_rfl
theorem Zgl {H:Type}{enc:TypeId×Value→H}{W:World}{a:Option Addr}{n c:Nat}{d:DataW H}{p:List MemPlace}(h:DataW.Trod enc Tryz.prog W 0 (fun _=>true) true 22 (.slice a n c) d p) :
 ∃ xs,CameF W a n c xs∧((d=.nil∧c=0)∨∃ elems spare:List (DataW H),d=.slice elems spare∧elems.length+spare.length=c):=by
 obtain ⟨fuel,hf⟩:=h
 rcases DataW.trod_slice Tryz.underlying22 hf with ⟨hcs,hx⟩|⟨x,l,cp,elems,rest,m,_,hcs,hx,hb,hl,hm,hlen,hel,hsp,hns⟩
 · simp [Value.cells] at hcs
   obtain ⟨rfl,rfl,rfl⟩:=hcs;exact ⟨[],⟨rfl,Nat.le_refl _,(fun x hx=>by cases hx),(fun h=>absurd rfl h),fun _=>rfl⟩,.inl ⟨(Prod.mk.inj hx).1,rfl⟩⟩
 · simp [Value.cells] at hcs
   obtain ⟨rfl,rfl,rfl⟩:=hcs
   have each:∀ i y,i<n→elems[i]?=some y→y=(.lit (.float .f64 (numF y)),[])∧(Lit.float .f64 (numF y)).wf=true∧W.cell? (x.add i)=some (.float .f64 (numF y)):=by
    intro i y hi hy;have hb':=hel i hi;rw [hy,Tryz.cellsF,Nat.mul_one,Option.bind_eq_some_iff] at hb';obtain ⟨cs',hcs,hy'⟩:=hb';obtain ⟨k,rfl,rfl,hw⟩:=trodF Tryz.underlying26 hy';exact ⟨rfl,hw,cell_of_cells?_one hcs⟩
   refine ⟨elems.map numF,⟨by simp [hlen],hl,?_,?_,fun e=>by cases e⟩,.inr ⟨_,_,(Prod.mk.inj hx).1,?_⟩⟩
   · intro y hy
     obtain ⟨z,hz,rfl⟩:=List.mem_map.1 hy;obtain ⟨i,hi⟩:=List.getElem?_of_mem hz;have hil:=(List.getElem?_eq_some_iff.1 hi).1;have:=(each i z (by omega) hi).2.1
     exact of_decide_eq_true this
   · intro hne
     obtain ⟨b,off,spot⟩:=x
     have hn0:0<n:=by
      rcases Nat.eq_zero_or_pos n with h0|h0
      · rw [h0] at hlen;have:=List.eq_nil_of_length_eq_zero hlen;subst this;simp at hne
      · exact h0
     have hc0:=(each 0 (elems[0]'(by omega)) hn0 (List.getElem?_eq_getElem _)).2.2
     have hspot:spot=none:=by simpa [Addr.add] using World.cell?_spot hc0
     subst hspot;refine ⟨b,off,World.block_lt_of_cell? W _ (by simpa [Addr.add] using hc0),rfl,fun i hi=>?_⟩
     rw [List.length_map] at hi;have hadd:=Zlh b off i;have:=(each i (elems[i]'hi) (by omega) (List.getElem?_eq_getElem _)).2.2
     rw [hadd] at this;rw [this];simp [List.getD_eq_getElem?_getD,hi]
   · have hr:=(hsp rfl).1
     simp only [List.length_map];omega
theorem Zbr {H:Type}{ts:List TypeId}{ds:List (DataW H)}(h:(DataW.weightsEach Tryz.prog ts ds).all (·≤reachBytes)=true) {j:Nat}{d:DataW H}{c n:Nat}(ht:ts[j]?=some 22) (hd:ds[j]?=some d) (hn:n≤c)
 (hc:(d=.nil∧c=0)∨∃ elems spare:List (DataW H),d=.slice elems spare∧elems.length+spare.length=c):n≤17592186043904:=by
 rcases hc with ⟨_,rfl⟩|⟨elems,spare,rfl,hl⟩
 · omega
 · have:=sized_slice h ht hd Tryz.underlying22
   rw [Tryz.bytesF,hl] at this;simp only [reachBytes] at this;omega
end
section
open Go.RowKit J
attribute [local go_sem] Ps.st_floatP
theorem Zuc {a:Nat}(h:(Lit.float .f64 a).wf=true):a<18446744073709551616:=by
 simpa [Lit.wf] using h
theorem OwnF.be19 {w w':World}{g:Nat}{L:List Nat}(h:OwnF w g L) (hb:Below w.heap.size w w'):OwnF w' g L:=by
 have hl:=h.lt;unfold OwnF at *;rw [hb.block g hl];exact h
theorem Zja {w:World}{g:Nat}{xs:List Nat}(h:OwnF w g (xs++List.replicate 8 Q6)):Fs w.heap.size w (some ⟨g,0,none⟩) xs:=by
 have:=h.fs (B:=w.heap.size) h.lt xs.length;rw [List.take_left'] at this
 · exact this
 · rfl
theorem Zfs (a b:Option Addr) (n m c d:Nat) (xs ys:List Nat) (x:Nat) (mode:Int) (w:World) (hT:Tab w) (hC:CameF w a n c xs) (hm:n≤17592186043904) (hC2:CameF w b m d ys) (hm2:m≤17592186043904) (hx:x<18446744073709551616) :
 Calls Tryz.prog 6 #[.slice a n c,.slice b m d,.float .f64 x,.int .i64 mode] w fun r w'=>r=.returned (.bool true)∧Below w.heap.size w w':=by
 obtain ⟨hl1,hcap,hW1,hF1,_⟩:=hC;obtain ⟨hl2,hcap2,hW2,hF2,_⟩:=hC2;have HL:=hid (Zs2 w hT);obtain ⟨⟨v,E⟩,hz⟩:∃ z,atR xs ys x mode=z:=⟨_,rfl⟩;have K1:Hid (∀ u:World,Below w.heap.size w u→Calls Tryz.prog 13 #[.slice a n c] u fun r w'=>r=.returned (.slice (some ⟨u.heap.size,0,none⟩) n (n+8))∧OwnF w' u.heap.size (xs++List.replicate 8 Q6)∧Below u.heap.size u w'):=fun u hb=>Zi9 xs a n c u.heap.size u hl1 hm ((hF1.below hb).mono hb.size) (Nat.le_refl _)
 have K2:Hid (∀ u:World,Below w.heap.size w u→Calls Tryz.prog 13 #[.slice b m d] u fun r w'=>r=.returned (.slice (some ⟨u.heap.size,0,none⟩) m (m+8))∧OwnF w' u.heap.size (ys++List.replicate 8 Q6)∧Below u.heap.size u w'):=fun u hb=>Zi9 ys b m d u.heap.size u hl2 hm2 ((hF2.below hb).mono hb.size) (Nat.le_refl _)
 have K3:Hid (∀ (u:World) (g1 g2:Nat),Below w.heap.size w u→OwnF u g1 (xs++List.replicate 8 Q6)→OwnF u g2 (ys++List.replicate 8 Q6)→Calls Tryz.prog 18 #[.slice (some ⟨g1,0,none⟩) n (n+8),.slice (some ⟨g2,0,none⟩) m (m+8),.float .f64 x,.int .i64 mode] u fun r w'=>r=.returned (.tuple #[.float .f64 v,.int .i64 E])∧Below u.heap.size u w'):=fun u g1 g2 hb o1 o2=>Zr9 xs ys x (some ⟨g1,0,none⟩) (some ⟨g2,0,none⟩) n m (n+8) (m+8) mode u hl1 hl2 (Zja o1) (Zja o2) hW1 hW2 hx (hT.belows hb) hz
 have K4:Hid (∀ (u:World) (g1:Nat),Below w.heap.size w u→OwnF u g1 (xs++List.replicate 8 Q6)→Calls Tryz.prog 15 #[.slice (some ⟨g1,0,none⟩) n (n+8),.slice a n c] u fun r w'=>r=.returned (.bool true)∧Below u.heap.size u w'):=fun u g1 hb o1=>Zdr xs a n c u.heap.size g1 u hl1 hm ((hF1.below hb).mono hb.size) (Nat.le_refl _) o1
 have K5:Hid (∀ (u:World) (g1:Nat),Below w.heap.size w u→OwnF u g1 (ys++List.replicate 8 Q6)→Calls Tryz.prog 15 #[.slice (some ⟨g1,0,none⟩) m (m+8),.slice b m d] u fun r w'=>r=.returned (.bool true)∧Below u.heap.size u w'):=fun u g1 hb o1=>Zdr ys b m d u.heap.size g1 u hl2 hm2 ((hF2.below hb).mono hb.size) (Nat.le_refl _) o1
 have K6:Hid (∀ u:World,Below w.heap.size w u→Calls Tryz.prog 19 #[.slice a n c,.slice b m d,.float .f64 x,.int .i64 mode] u fun r w'=>r=.returned (.tuple #[.float .f64 v,.int .i64 E])∧Below u.heap.size u w'):=fun u hb=>by
  have:=Zub xs ys x a b n m c d mode u hl1 hl2 ((hF1.below hb).mono hb.size) ((hF2.below hb).mono hb.size) hW1 hW2 hx;rw [hz] at this;exact this
 clear hl1 hcap hW1 hF1 hl2 hcap2 hW2 hF2 hT hz hm hm2;go_enter Tryz.func6,Tryz.ntmps6
 go_wp2_with fail
 refine HL.out.mono ?_;rintro r u1 ⟨rfl,hb⟩;have B1:=qsd hb;have C:=hid (K1.out u1 hb);clear hb HL K1;obtain ⟨g1,hg1⟩:∃ g,g=u1.heap.size:=⟨_,rfl⟩;rw [←hg1] at C
 go_wp2_with fail
 refine C.out.mono ?_;clear C;rintro r u2 ⟨rfl,ho,hb⟩;rw [hg1] at hb;have B2:=qsd (ai (B1.out.trans (hb.mono B1.out.size)) ho);clear hb ho B1 hg1;have C:=hid (K2.out u2 B2.out.1);clear K2;obtain ⟨g2,hg2⟩:∃ g,g=u2.heap.size:=⟨_,rfl⟩;rw [←hg2] at C
 go_wp2_with fail
 refine C.out.mono ?_;clear C;rintro r u3 ⟨rfl,ho,hb⟩;rw [hg2] at hb;have B3:=qsd (ai (B2.out.1.trans (hb.mono B2.out.1.size)) (ai (B2.out.2.be19 hb) ho));clear hb ho B2 hg2;have C:=hid (K3.out u3 g1 g2 B3.out.1 B3.out.2.1 B3.out.2.2);clear K3
 go_wp2_with fail
 refine C.out.mono ?_;clear C;rintro r u4 ⟨rfl,hb⟩;have B4:=qsd (ai (B3.out.1.trans (hb.mono B3.out.1.size)) (ai (B3.out.2.1.be19 hb) (B3.out.2.2.be19 hb)));clear hb B3;have C:=hid (K4.out u4 g1 B4.out.1 B4.out.2.1);clear K4
 go_wp2_with fail
 refine C.out.mono ?_;clear C;rintro r u5 ⟨rfl,hb⟩;have B5:=qsd (ai (B4.out.1.trans (hb.mono B4.out.1.size)) (B4.out.2.2.be19 hb));clear hb B4;have C:=hid (K5.out u5 g2 B5.out.1 B5.out.2);clear K5
 go_wp2_with fail
 refine C.out.mono ?_;clear C;rintro r u6 ⟨rfl,hb⟩;have B6:=qsd (B5.out.1.trans (hb.mono B5.out.1.size));clear hb B5;have C:=hid (K6.out u6 B6.out);clear K6
 go_wp2_with fail
 refine C.out.mono ?_;clear C;rintro r u7 ⟨rfl,hb⟩;have B7:=qsd (B6.out.trans (hb.mono B6.out.size));clear hb B6;have C:=hid (Zej v u7);have o1:(E==E)=true:=by simp
 go_wp2_with fail
 refine C.out.mono ?_;clear C;rintro r u8 ⟨rfl,hu⟩;rw [hu];clear hu u8;go_wp2;exact bodyPost_ret (v:=.bool true) (by simp [results,Tryz.results6,go_sem]) rfl ⟨rfl,B7.out⟩
end
end Go.Proofs.YtblkpkgebigojaaGreatDoor
