import Derived.Test.YtblkpkgebigojaaGreatDoorF2x
set_option linter.unusedVariables false
set_option linter.unusedSimpArgs false
set_option maxHeartbeats 16000000
set_option maxRecDepth 20000
namespace Go.Proofs.YtblkpkgebigojaaGreatDoor
namespace J
end J
section
open Go Go.RowKit J
attribute [local go_sem] Ps.st_floatP
theorem Jg {fn:Func}{p q:Tmp}(hfn:fn.results=#[.cell p 36,.tmp q]) {tmps:Array Value}{w:World}{g:Nat}{N e:Int}{s1 s2 s3 s4:Nat}{R:Ending→World→Prop}
 (h1:tmps.getD p undef=.pointer (some ⟨g,0,none⟩)) (h2:tmps.getD q undef=.int .i64 e) (hB:Bl w g 36 [.int .i64 N,.float .f64 s1,.float .f64 s2,.float .f64 s3,.float .f64 s4])
 (hR:R (.returned (.tuple #[.agg #[.int .i64 N,.float .f64 s1,.float .f64 s2,.float .f64 s3,.float .f64 s4],.int .i64 e])) w) :
 bodyPost Tryz.prog fn R .ret ⟨tmps,[]⟩ w:=by
 have c0:=hB.cell 0 _ rfl;have c1:=hB.cell 1 _ rfl;have c2:=hB.cell 2 _ rfl;have c3:=hB.cell 3 _ rfl;have c4:=hB.cell 4 _ rfl;rw [Array.getD_eq_getD_getElem?] at h1 h2;exact bodyPost_ret (v:=.tuple #[.agg #[.int .i64 N,.float .f64 s1,.float .f64 s2,.float .f64 s3,.float .f64 s4],.int .i64 e]) (by simp [results,hfn,go_sem,Ps.csetm,h1,h2,c0,c1,c2,c3,c4]) rfl hR
theorem Zqa {w:World}{a b:Option Addr}{n m c d:Nat}(mode E:Int) (hE:E≠0) (HA:Hid (∀ u:World,Below w.heap.size w u→Calls Tryz.prog 34 #[.slice a n c,.slice b m d,.int .i64 mode,.int .i64 2,.slice none 0 0] u fun r w'=>r=.returned (.int .i64 E)∧Below u.heap.size u w')) :
 Calls Tryz.prog 14 #[.slice a n c,.slice b m d,.int .i64 mode] w fun r w'=>r=.returned (.tuple #[.agg #[.int .i64 0,.float .f64 0,.float .f64 0,.float .f64 0,.float .f64 0],.int .i64 E])∧Below w.heap.size w w':=by
 have hE2:(E==0)=false:=by simp [hE]
 clear hE;obtain ⟨W,hW⟩:∃ W,W=w.alloc (Obj.cells #[.int .i64 0,.float .f64 0,.float .f64 0,.float .f64 0,.float .f64 0] 36):=⟨_,rfl⟩
 have B0:Aside (Bl W w.heap.size 36 [.int .i64 0,.float .f64 0,.float .f64 0,.float .f64 0,.float .f64 0]∧Below w.heap.size w W):=by
  rw [hW];exact ⟨Bl.new _ 36 [.int .i64 0,.float .f64 0,.float .f64 0,.float .f64 0,.float .f64 0],Zd _ _⟩
 have HW:=qsd hW;have C:=hid (HA.out W B0.out.2);clear hW HA;go_enter Tryz.func14,Tryz.ntmps14
 go_upto_region 1 with fail
 rw [←HW.out];clear HW
 go_wp2_with fail
 refine C.out.mono ?_;clear C;rintro r u ⟨rfl,hb⟩;have B1:=qsd (ai (B0.out.1.below hb B0.out.1.lt) (B0.out.2.trans (hb.mono B0.out.2.size)));clear hb B0;obtain ⟨U,hU⟩:∃ U,U=u:=⟨_,rfl⟩;rw [←hU] at B1 ⊢;clear hU;have hbt:But w.heap.size U _:=(((((But.refl w.heap.size U).set 0 (.int .i64 0)).set 1 (.float .f64 0)).set 2 (.float .f64 0)).set 3 (.float .f64 0)).set 4 (.float .f64 0);have BE:=qsd (ai (((((B1.out.1.set 0 (.int .i64 0)).set 1 (.float .f64 0)).set 2 (.float .f64 0)).set 3 (.float .f64 0)).set 4 (.float .f64 0)) (But.below B1.out.2 hbt B1.out.2.size (Nat.le_refl _)));clear hbt;have z0:=B1.out.1.cell 0 _ rfl;have zf0:=B1.out.1.frozen 0;have z1:=B1.out.1.cell 1 _ rfl;have zf1:=B1.out.1.frozen 1;have z2:=B1.out.1.cell 2 _ rfl;have zf2:=B1.out.1.frozen 2;have z3:=B1.out.1.cell 3 _ rfl;have zf3:=B1.out.1.frozen 3;have z4:=B1.out.1.cell 4 _ rfl;have zf4:=B1.out.1.frozen 4;go_wp2;refine Jg (e:=E) Tryz.results14 ?_ ?_ BE.out.1 ?_
 · rfl
 · rfl
 · exact ⟨rfl,BE.out.2⟩
theorem Zk9 {w:World}{a b:Option Addr}{n m c d:Nat}{oN oD oC oT oK pc pd pr pn:Option (Bool×Nat×Int)}(mode:Int) (hD:dX oD=0) (FF:Aside (Fm oN∧Fm oD∧Fm oC∧Fm oT∧Fm oK∧Fm pc∧Fm pd∧Fm pr∧Fm pn)) (HA:Hid (∀ u:World,Below w.heap.size w u→Calls Tryz.prog 34 #[.slice a n c,.slice b m d,.int .i64 mode,.int .i64 2,.slice none 0 0] u fun r w'=>r=.returned (.int .i64 0)∧Below u.heap.size u w')) (HL:Hid (∀ u:World,Below w.heap.size w u→Calls Tryz.prog 35 #[.slice a n c,.slice b m d] u fun r w'=>(∃ v,r=.returned v∧Zfd w' v oN oD oC oT oK)∧Below u.heap.size u w')) :
 Calls Tryz.prog 14 #[.slice a n c,.slice b m d,.int .i64 mode] w fun r w'=>r=.returned (.tuple #[.agg #[.int .i64 0,.float .f64 0,.float .f64 0,.float .f64 0,.float .f64 0],.int .i64 190])∧Below w.heap.size w w':=by
 have hd:=decide_eq_true hD;clear hD;obtain ⟨W,hW⟩:∃ W,W=w.alloc (Obj.cells #[.int .i64 0,.float .f64 0,.float .f64 0,.float .f64 0,.float .f64 0] 36):=⟨_,rfl⟩
 have B0:Aside (Bl W w.heap.size 36 [.int .i64 0,.float .f64 0,.float .f64 0,.float .f64 0,.float .f64 0]∧Below w.heap.size w W):=by
  rw [hW];exact ⟨Bl.new _ 36 [.int .i64 0,.float .f64 0,.float .f64 0,.float .f64 0,.float .f64 0],Zd _ _⟩
 have HW:=qsd hW;have C:=hid (HA.out W B0.out.2);clear hW HA;go_enter Tryz.func14,Tryz.ntmps14
 go_upto_region 1 with fail
 rw [←HW.out];clear HW
 go_wp2_with fail
 refine C.out.mono ?_;clear C;rintro r u ⟨rfl,hb⟩;have B1:=qsd (ai (B0.out.1.below hb B0.out.1.lt) (B0.out.2.trans (hb.mono B0.out.2.size)));clear hb B0;have C:=hid (HL.out u B1.out.2);clear HL
 go_wp2_with fail
 refine C.out.mono ?_;clear C;rintro r u2 ⟨⟨v,rfl,hv⟩,hb⟩;obtain ⟨a0,c0,a1,c1,a2,c2,a3,c3,a4,c4,rfl,hN⟩:=hv;obtain ⟨U,hU⟩:∃ U,U=u2.alloc (Obj.cells #[.bool (dN oN),.slice a0 (ws (dX oN)).length c0,.int .i64 (dE oN),.bool (dN oD),.slice a1 (ws (dX oD)).length c1,.int .i64 (dE oD),.bool (dN oC),.slice a2 (ws (dX oC)).length c2,.int .i64 (dE oC),.bool (dN oT),.slice a3 (ws (dX oT)).length c3,.int .i64 (dE oT),.bool (dN oK),.slice a4 (ws (dX oK)).length c4,.int .i64 (dE oK)] 64):=⟨_,rfl⟩;obtain ⟨g,hg⟩:∃ g,g=u2.heap.size:=⟨_,rfl⟩
 have B2:Aside (Bl U w.heap.size 36 [.int .i64 0,.float .f64 0,.float .f64 0,.float .f64 0,.float .f64 0]∧Bl U g 64 [.bool (dN oN),.slice a0 (ws (dX oN)).length c0,.int .i64 (dE oN),.bool (dN oD),.slice a1 (ws (dX oD)).length c1,.int .i64 (dE oD),.bool (dN oC),.slice a2 (ws (dX oC)).length c2,.int .i64 (dE oC),.bool (dN oT),.slice a3 (ws (dX oT)).length c3,.int .i64 (dE oT),.bool (dN oK),.slice a4 (ws (dX oK)).length c4,.int .i64 (dE oK)]∧Below w.heap.size w U):=by
  rw [hU,hg];exact ⟨(B1.out.1.below hb B1.out.1.lt).alloc _,Bl.new _ 64 [.bool (dN oN),.slice a0 (ws (dX oN)).length c0,.int .i64 (dE oN),.bool (dN oD),.slice a1 (ws (dX oD)).length c1,.int .i64 (dE oD),.bool (dN oC),.slice a2 (ws (dX oC)).length c2,.int .i64 (dE oC),.bool (dN oT),.slice a3 (ws (dX oT)).length c3,.int .i64 (dE oT),.bool (dN oK),.slice a4 (ws (dX oK)).length c4,.int .i64 (dE oK)],(B1.out.2.trans (hb.mono B1.out.2.size)).trans ((Zd _ _).mono (Nat.le_trans B1.out.2.size hb.size))⟩
 have NU:Aside (Nt 0 U (.slice a0 (ws (dX oN)).length c0) (dX oN)∧Nt 0 U (.slice a1 (ws (dX oD)).length c1) (dX oD)∧Nt 0 U (.slice a2 (ws (dX oC)).length c2) (dX oC)∧Nt 0 U (.slice a3 (ws (dX oT)).length c3) (dX oT)∧Nt 0 U (.slice a4 (ws (dX oK)).length c4) (dX oK)):=by
  rw [hU];exact ⟨hN.1.below (Za _ _),hN.2.1.below (Za _ _),hN.2.2.1.below (Za _ _),hN.2.2.2.1.below (Za _ _),hN.2.2.2.2.below (Za _ _)⟩
 have HU:=(qsd (ai hU hg));have C:=hid (Ju FF.out.2.1 NU.out);clear hU hg hb B1 hN
 go_upto_region 5 with fail
 rw [←HU.out.1,←HU.out.2];clear HU;have y0:=B2.out.2.1.cell 0 _ rfl;have y1:=B2.out.2.1.cell 1 _ rfl;have y2:=B2.out.2.1.cell 2 _ rfl;have y3:=B2.out.2.1.cell 3 _ rfl;have y4:=B2.out.2.1.cell 4 _ rfl;have y5:=B2.out.2.1.cell 5 _ rfl;have y6:=B2.out.2.1.cell 6 _ rfl;have y7:=B2.out.2.1.cell 7 _ rfl;have y8:=B2.out.2.1.cell 8 _ rfl;have y9:=B2.out.2.1.cell 9 _ rfl;have y10:=B2.out.2.1.cell 10 _ rfl;have y11:=B2.out.2.1.cell 11 _ rfl;have y12:=B2.out.2.1.cell 12 _ rfl;have y13:=B2.out.2.1.cell 13 _ rfl;have y14:=B2.out.2.1.cell 14 _ rfl
 go_wp2_with fail
 refine C.out.mono ?_;clear C;rintro r u3 ⟨rfl,hb⟩;have B3:=qsd (ai (B2.out.1.below hb B2.out.1.lt) (ai (B2.out.2.1.below hb B2.out.2.1.lt) (B2.out.2.2.trans (hb.mono B2.out.2.2.size))));have N3:Aside (Nt 0 u3 (.slice a0 (ws (dX oN)).length c0) (dX oN)∧Nt 0 u3 (.slice a1 (ws (dX oD)).length c1) (dX oD)∧Nt 0 u3 (.slice a2 (ws (dX oC)).length c2) (dX oC)∧Nt 0 u3 (.slice a3 (ws (dX oT)).length c3) (dX oT)∧Nt 0 u3 (.slice a4 (ws (dX oK)).length c4) (dX oK)):=⟨NU.out.1.below hb,NU.out.2.1.below hb,NU.out.2.2.1.below hb,NU.out.2.2.2.1.below hb,NU.out.2.2.2.2.below hb⟩;clear hb B2 NU y0 y1 y2 y3 y4 y5 y6 y7 y8 y9 y10 y11 y12 y13 y14;rw [hd];have B1:=qsd (ai B3.out.1 B3.out.2.2);obtain ⟨U,hU⟩:∃ U,U=u3:=⟨_,rfl⟩;rw [←hU] at B1 ⊢;clear hU B3 N3;have hbt:But w.heap.size U _:=(((((But.refl w.heap.size U).set 0 (.int .i64 0)).set 1 (.float .f64 0)).set 2 (.float .f64 0)).set 3 (.float .f64 0)).set 4 (.float .f64 0);have BE:=qsd (ai (((((B1.out.1.set 0 (.int .i64 0)).set 1 (.float .f64 0)).set 2 (.float .f64 0)).set 3 (.float .f64 0)).set 4 (.float .f64 0)) (But.below B1.out.2 hbt B1.out.2.size (Nat.le_refl _)));clear hbt;have z0:=B1.out.1.cell 0 _ rfl;have zf0:=B1.out.1.frozen 0;have z1:=B1.out.1.cell 1 _ rfl;have zf1:=B1.out.1.frozen 1;have z2:=B1.out.1.cell 2 _ rfl;have zf2:=B1.out.1.frozen 2;have z3:=B1.out.1.cell 3 _ rfl;have zf3:=B1.out.1.frozen 3;have z4:=B1.out.1.cell 4 _ rfl;have zf4:=B1.out.1.frozen 4;go_wp2;refine Jg (e:=190) Tryz.results14 ?_ ?_ BE.out.1 ?_
 · rfl
 · rfl
 · exact ⟨rfl,BE.out.2⟩
theorem Zla {w:World}{a b:Option Addr}{n m c d:Nat}{oN oD oC oT oK pc pd pr pn:Option (Bool×Nat×Int)}(mode:Int) (Q1 Q2 Q3 Q4:Nat) (hD:dX oD≠0) (FF:Aside (Fm oN∧Fm oD∧Fm oC∧Fm oT∧Fm oK∧Fm pc∧Fm pd∧Fm pr∧Fm pn)) (HA:Hid (∀ u:World,Below w.heap.size w u→Calls Tryz.prog 34 #[.slice a n c,.slice b m d,.int .i64 mode,.int .i64 2,.slice none 0 0] u fun r w'=>r=.returned (.int .i64 0)∧Below u.heap.size u w')) (HL:Hid (∀ u:World,Below w.heap.size w u→Calls Tryz.prog 35 #[.slice a n c,.slice b m d] u fun r w'=>(∃ v,r=.returned v∧Zfd w' v oN oD oC oT oK)∧Below u.heap.size u w'))
 (K1:Hid (∀ (u:World) {p q:Option Addr} {e f:Nat},Nt 0 u (.slice p (ws (dX oC)).length e) (dX oC)→Nt 0 u (.slice q (ws (dX oD)).length f) (dX oD)→Below w.heap.size w u→Calls Tryz.prog 37 #[.agg #[.bool (dN oC),.slice p (ws (dX oC)).length e,.int .i64 (dE oC)],.agg #[.bool (dN oD),.slice q (ws (dX oD)).length f,.int .i64 (dE oD)],.int .i64 mode] u fun r w'=>r=.returned (.float .f64 Q1)∧Below u.heap.size u w')) (K2:Hid (∀ (u:World) {p q:Option Addr} {e f:Nat},Nt 0 u (.slice p (ws (dX oK)).length e) (dX oK)→Nt 0 u (.slice q (ws (dX oD)).length f) (dX oD)→Below w.heap.size w u→Calls Tryz.prog 37 #[.agg #[.bool (dN oK),.slice p (ws (dX oK)).length e,.int .i64 (dE oK)],.agg #[.bool (dN oD),.slice q (ws (dX oD)).length f,.int .i64 (dE oD)],.int .i64 mode] u fun r w'=>r=.returned (.float .f64 Q2)∧Below u.heap.size u w')) (K3:Hid (∀ (u:World) {a0 a1 a2 a3 a4:Option Addr} {c0 c1 c2 c3 c4:Nat},(Nt 0 u (.slice a0 (ws (dX oN)).length c0) (dX oN)∧Nt 0 u (.slice a1 (ws (dX oD)).length c1) (dX oD)∧Nt 0 u (.slice a2 (ws (dX oC)).length c2) (dX oC)∧Nt 0 u (.slice a3 (ws (dX oT)).length c3) (dX oT)∧Nt 0 u (.slice a4 (ws (dX oK)).length c4) (dX oK))→Below w.heap.size w u→Calls Tryz.prog 38 #[.agg #[.bool (dN oN),.slice a0 (ws (dX oN)).length c0,.int .i64 (dE oN),.bool (dN oD),.slice a1 (ws (dX oD)).length c1,.int .i64 (dE oD),.bool (dN oC),.slice a2 (ws (dX oC)).length c2,.int .i64 (dE oC),.bool (dN oT),.slice a3 (ws (dX oT)).length c3,.int .i64 (dE oT),.bool (dN oK),.slice a4 (ws (dX oK)).length c4,.int .i64 (dE oK)],.int .i64 mode] u fun r w'=>r=.returned (.float .f64 Q3)∧Below u.heap.size u w')) (K4:Hid (∀ (u:World) {a0 a1 a2 a3 a4:Option Addr} {c0 c1 c2 c3 c4:Nat},(Nt 0 u (.slice a0 (ws (dX oN)).length c0) (dX oN)∧Nt 0 u (.slice a1 (ws (dX oD)).length c1) (dX oD)∧Nt 0 u (.slice a2 (ws (dX oC)).length c2) (dX oC)∧Nt 0 u (.slice a3 (ws (dX oT)).length c3) (dX oT)∧Nt 0 u (.slice a4 (ws (dX oK)).length c4) (dX oK))→Below w.heap.size w u→Calls Tryz.prog 39 #[.agg #[.bool (dN oN),.slice a0 (ws (dX oN)).length c0,.int .i64 (dE oN),.bool (dN oD),.slice a1 (ws (dX oD)).length c1,.int .i64 (dE oD),.bool (dN oC),.slice a2 (ws (dX oC)).length c2,.int .i64 (dE oC),.bool (dN oT),.slice a3 (ws (dX oT)).length c3,.int .i64 (dE oT),.bool (dN oK),.slice a4 (ws (dX oK)).length c4,.int .i64 (dE oK)],.int .i64 mode] u fun r w'=>r=.returned (.float .f64 Q4)∧Below u.heap.size u w')) :
 Calls Tryz.prog 14 #[.slice a n c,.slice b m d,.int .i64 mode] w fun r w'=>r=.returned (.tuple #[.agg #[.int .i64 (n:Nat),.float .f64 Q1,.float .f64 Q2,.float .f64 Q3,.float .f64 Q4],.int .i64 0])∧Below w.heap.size w w':=by
 have hd:=decide_eq_false hD;clear hD;obtain ⟨W,hW⟩:∃ W,W=w.alloc (Obj.cells #[.int .i64 0,.float .f64 0,.float .f64 0,.float .f64 0,.float .f64 0] 36):=⟨_,rfl⟩
 have B0:Aside (Bl W w.heap.size 36 [.int .i64 0,.float .f64 0,.float .f64 0,.float .f64 0,.float .f64 0]∧Below w.heap.size w W):=by
  rw [hW];exact ⟨Bl.new _ 36 [.int .i64 0,.float .f64 0,.float .f64 0,.float .f64 0,.float .f64 0],Zd _ _⟩
 have HW:=qsd hW;have C:=hid (HA.out W B0.out.2);clear hW HA;go_enter Tryz.func14,Tryz.ntmps14
 go_upto_region 1 with fail
 rw [←HW.out];clear HW
 go_wp2_with fail
 refine C.out.mono ?_;clear C;rintro r u ⟨rfl,hb⟩;have B1:=qsd (ai (B0.out.1.below hb B0.out.1.lt) (B0.out.2.trans (hb.mono B0.out.2.size)));clear hb B0;have C:=hid (HL.out u B1.out.2);clear HL
 go_wp2_with fail
 refine C.out.mono ?_;clear C;rintro r u2 ⟨⟨v,rfl,hv⟩,hb⟩;obtain ⟨a0,c0,a1,c1,a2,c2,a3,c3,a4,c4,rfl,hN⟩:=hv;obtain ⟨U,hU⟩:∃ U,U=u2.alloc (Obj.cells #[.bool (dN oN),.slice a0 (ws (dX oN)).length c0,.int .i64 (dE oN),.bool (dN oD),.slice a1 (ws (dX oD)).length c1,.int .i64 (dE oD),.bool (dN oC),.slice a2 (ws (dX oC)).length c2,.int .i64 (dE oC),.bool (dN oT),.slice a3 (ws (dX oT)).length c3,.int .i64 (dE oT),.bool (dN oK),.slice a4 (ws (dX oK)).length c4,.int .i64 (dE oK)] 64):=⟨_,rfl⟩;obtain ⟨g,hg⟩:∃ g,g=u2.heap.size:=⟨_,rfl⟩
 have B2:Aside (Bl U w.heap.size 36 [.int .i64 0,.float .f64 0,.float .f64 0,.float .f64 0,.float .f64 0]∧Bl U g 64 [.bool (dN oN),.slice a0 (ws (dX oN)).length c0,.int .i64 (dE oN),.bool (dN oD),.slice a1 (ws (dX oD)).length c1,.int .i64 (dE oD),.bool (dN oC),.slice a2 (ws (dX oC)).length c2,.int .i64 (dE oC),.bool (dN oT),.slice a3 (ws (dX oT)).length c3,.int .i64 (dE oT),.bool (dN oK),.slice a4 (ws (dX oK)).length c4,.int .i64 (dE oK)]∧Below w.heap.size w U):=by
  rw [hU,hg];exact ⟨(B1.out.1.below hb B1.out.1.lt).alloc _,Bl.new _ 64 [.bool (dN oN),.slice a0 (ws (dX oN)).length c0,.int .i64 (dE oN),.bool (dN oD),.slice a1 (ws (dX oD)).length c1,.int .i64 (dE oD),.bool (dN oC),.slice a2 (ws (dX oC)).length c2,.int .i64 (dE oC),.bool (dN oT),.slice a3 (ws (dX oT)).length c3,.int .i64 (dE oT),.bool (dN oK),.slice a4 (ws (dX oK)).length c4,.int .i64 (dE oK)],(B1.out.2.trans (hb.mono B1.out.2.size)).trans ((Zd _ _).mono (Nat.le_trans B1.out.2.size hb.size))⟩
 have NU:Aside (Nt 0 U (.slice a0 (ws (dX oN)).length c0) (dX oN)∧Nt 0 U (.slice a1 (ws (dX oD)).length c1) (dX oD)∧Nt 0 U (.slice a2 (ws (dX oC)).length c2) (dX oC)∧Nt 0 U (.slice a3 (ws (dX oT)).length c3) (dX oT)∧Nt 0 U (.slice a4 (ws (dX oK)).length c4) (dX oK)):=by
  rw [hU];exact ⟨hN.1.below (Za _ _),hN.2.1.below (Za _ _),hN.2.2.1.below (Za _ _),hN.2.2.2.1.below (Za _ _),hN.2.2.2.2.below (Za _ _)⟩
 have HU:=(qsd (ai hU hg));have C:=hid (Ju FF.out.2.1 NU.out);clear hU hg hb B1 hN
 go_upto_region 5 with fail
 rw [←HU.out.1,←HU.out.2];clear HU;have y0:=B2.out.2.1.cell 0 _ rfl;have y1:=B2.out.2.1.cell 1 _ rfl;have y2:=B2.out.2.1.cell 2 _ rfl;have y3:=B2.out.2.1.cell 3 _ rfl;have y4:=B2.out.2.1.cell 4 _ rfl;have y5:=B2.out.2.1.cell 5 _ rfl;have y6:=B2.out.2.1.cell 6 _ rfl;have y7:=B2.out.2.1.cell 7 _ rfl;have y8:=B2.out.2.1.cell 8 _ rfl;have y9:=B2.out.2.1.cell 9 _ rfl;have y10:=B2.out.2.1.cell 10 _ rfl;have y11:=B2.out.2.1.cell 11 _ rfl;have y12:=B2.out.2.1.cell 12 _ rfl;have y13:=B2.out.2.1.cell 13 _ rfl;have y14:=B2.out.2.1.cell 14 _ rfl
 go_wp2_with fail
 refine C.out.mono ?_;clear C;rintro r u3 ⟨rfl,hb⟩;have B3:=qsd (ai (B2.out.1.below hb B2.out.1.lt) (ai (B2.out.2.1.below hb B2.out.2.1.lt) (B2.out.2.2.trans (hb.mono B2.out.2.2.size))));have N3:Aside (Nt 0 u3 (.slice a0 (ws (dX oN)).length c0) (dX oN)∧Nt 0 u3 (.slice a1 (ws (dX oD)).length c1) (dX oD)∧Nt 0 u3 (.slice a2 (ws (dX oC)).length c2) (dX oC)∧Nt 0 u3 (.slice a3 (ws (dX oT)).length c3) (dX oT)∧Nt 0 u3 (.slice a4 (ws (dX oK)).length c4) (dX oK)):=⟨NU.out.1.below hb,NU.out.2.1.below hb,NU.out.2.2.1.below hb,NU.out.2.2.2.1.below hb,NU.out.2.2.2.2.below hb⟩;clear hb B2 NU y0 y1 y2 y3 y4 y5 y6 y7 y8 y9 y10 y11 y12 y13 y14;rw [hd];obtain ⟨U,hU⟩:∃ U,U=u3:=⟨_,rfl⟩;rw [←hU] at B3 N3 ⊢;clear hU hd
 go_upto_region 7 with fail
 have BD:Aside (Bl U.drew w.heap.size 36 [.int .i64 0,.float .f64 0,.float .f64 0,.float .f64 0,.float .f64 0]∧Nt 0 U.drew (.slice a0 (ws (dX oN)).length c0) (dX oN)∧Nt 0 U.drew (.slice a1 (ws (dX oD)).length c1) (dX oD)∧Nt 0 U.drew (.slice a2 (ws (dX oC)).length c2) (dX oC)∧Nt 0 U.drew (.slice a3 (ws (dX oT)).length c3) (dX oT)∧Nt 0 U.drew (.slice a4 (ws (dX oK)).length c4) (dX oK)∧Below w.heap.size w U.drew):=⟨B3.out.1.below (Below.refl _ _).drew B3.out.1.lt,N3.out.1.below (Below.refl _ _).drew,N3.out.2.1.below (Below.refl _ _).drew,N3.out.2.2.1.below (Below.refl _ _).drew,N3.out.2.2.2.1.below (Below.refl _ _).drew,N3.out.2.2.2.2.below (Below.refl _ _).drew,B3.out.2.2.drew⟩;have kS:Aside (U.drew.cell? ⟨g,0,none⟩=some (.bool (dN oN))∧U.drew.cell? ⟨g,1,none⟩=some (.slice a0 (ws (dX oN)).length c0)∧U.drew.cell? ⟨g,2,none⟩=some (.int .i64 (dE oN))∧U.drew.cell? ⟨g,3,none⟩=some (.bool (dN oD))∧U.drew.cell? ⟨g,4,none⟩=some (.slice a1 (ws (dX oD)).length c1)∧U.drew.cell? ⟨g,5,none⟩=some (.int .i64 (dE oD))∧U.drew.cell? ⟨g,6,none⟩=some (.bool (dN oC))∧U.drew.cell? ⟨g,7,none⟩=some (.slice a2 (ws (dX oC)).length c2)∧U.drew.cell? ⟨g,8,none⟩=some (.int .i64 (dE oC))∧U.drew.cell? ⟨g,9,none⟩=some (.bool (dN oT))∧U.drew.cell? ⟨g,10,none⟩=some (.slice a3 (ws (dX oT)).length c3)∧U.drew.cell? ⟨g,11,none⟩=some (.int .i64 (dE oT))∧U.drew.cell? ⟨g,12,none⟩=some (.bool (dN oK))∧U.drew.cell? ⟨g,13,none⟩=some (.slice a4 (ws (dX oK)).length c4)∧U.drew.cell? ⟨g,14,none⟩=some (.int .i64 (dE oK))):=⟨(B3.out.2.1.below (Below.refl _ _).drew B3.out.2.1.lt).cell 0 _ rfl,(B3.out.2.1.below (Below.refl _ _).drew B3.out.2.1.lt).cell 1 _ rfl,(B3.out.2.1.below (Below.refl _ _).drew B3.out.2.1.lt).cell 2 _ rfl,(B3.out.2.1.below (Below.refl _ _).drew B3.out.2.1.lt).cell 3 _ rfl,(B3.out.2.1.below (Below.refl _ _).drew B3.out.2.1.lt).cell 4 _ rfl,(B3.out.2.1.below (Below.refl _ _).drew B3.out.2.1.lt).cell 5 _ rfl,(B3.out.2.1.below (Below.refl _ _).drew B3.out.2.1.lt).cell 6 _ rfl,(B3.out.2.1.below (Below.refl _ _).drew B3.out.2.1.lt).cell 7 _ rfl,(B3.out.2.1.below (Below.refl _ _).drew B3.out.2.1.lt).cell 8 _ rfl,(B3.out.2.1.below (Below.refl _ _).drew B3.out.2.1.lt).cell 9 _ rfl,(B3.out.2.1.below (Below.refl _ _).drew B3.out.2.1.lt).cell 10 _ rfl,(B3.out.2.1.below (Below.refl _ _).drew B3.out.2.1.lt).cell 11 _ rfl,(B3.out.2.1.below (Below.refl _ _).drew B3.out.2.1.lt).cell 12 _ rfl,(B3.out.2.1.below (Below.refl _ _).drew B3.out.2.1.lt).cell 13 _ rfl,(B3.out.2.1.below (Below.refl _ _).drew B3.out.2.1.lt).cell 14 _ rfl⟩;clear N3;clear B3;refine Zn (fun w'=>w'.cell? ⟨g,0,none⟩=some (.bool (dN oN))∧w'.cell? ⟨g,1,none⟩=some (.slice a0 (ws (dX oN)).length c0)∧w'.cell? ⟨g,2,none⟩=some (.int .i64 (dE oN))∧w'.cell? ⟨g,3,none⟩=some (.bool (dN oD))∧w'.cell? ⟨g,4,none⟩=some (.slice a1 (ws (dX oD)).length c1)∧w'.cell? ⟨g,5,none⟩=some (.int .i64 (dE oD))∧w'.cell? ⟨g,6,none⟩=some (.bool (dN oC))∧w'.cell? ⟨g,7,none⟩=some (.slice a2 (ws (dX oC)).length c2)∧w'.cell? ⟨g,8,none⟩=some (.int .i64 (dE oC))∧w'.cell? ⟨g,9,none⟩=some (.bool (dN oT))∧w'.cell? ⟨g,10,none⟩=some (.slice a3 (ws (dX oT)).length c3)∧w'.cell? ⟨g,11,none⟩=some (.int .i64 (dE oT))∧w'.cell? ⟨g,12,none⟩=some (.bool (dN oK))∧w'.cell? ⟨g,13,none⟩=some (.slice a4 (ws (dX oK)).length c4)∧w'.cell? ⟨g,14,none⟩=some (.int .i64 (dE oK))) 21 (by kernel_rfl) ?_
 obtain ⟨Wd,hWd⟩:∃ Vq,Vq=U.drew:=⟨_,rfl⟩;rw [←hWd] at BD kS ⊢;clear hWd
 refine tk 0 [1,20] rfl kS.out ?_;try simp only [Act.put,sa,sb,sc]
 refine tk 1 [20] rfl kS.out ?_;try simp only [Act.put,sa,sb,sc]
 refine tk 2 [3,7,13,16,19,20] rfl kS.out ?_;try simp only [Act.put,sa,sb,sc]
 refine tk 3 [7,13,16,19,20] rfl kS.out ?_;try simp only [Act.put,sa,sb,sc]
 refine tk 4 [5,7,13,16,19,20] rfl kS.out ?_;try simp only [Act.put,sa,sb,sc]
 refine tk 5 [7,13,16,19,20] rfl kS.out ?_;try simp only [Act.put,sa,sb,sc]
 refine tk 6 [7,13,16,19,20] rfl kS.out ?_;try simp only [Act.put,sa,sb,sc]
 refine tk 8 [9,13,16,19,20] rfl kS.out ?_;try simp only [Act.put,sa,sb,sc]
 refine tk 9 [13,16,19,20] rfl kS.out ?_;try simp only [Act.put,sa,sb,sc]
 refine tk 10 [11,13,16,19,20] rfl kS.out ?_;try simp only [Act.put,sa,sb,sc]
 refine tk 11 [13,16,19,20] rfl kS.out ?_;try simp only [Act.put,sa,sb,sc]
 refine tk 12 [13,16,19,20] rfl kS.out ?_;try simp only [Act.put,sa,sb,sc]
 refine tk 14 [16,19,20] rfl kS.out ?_;try simp only [Act.put,sa,sb,sc]
 refine tk 15 [16,19,20] rfl kS.out ?_;try simp only [Act.put,sa,sb,sc]
 refine tk 17 [19,20] rfl kS.out ?_;try simp only [Act.put,sa,sb,sc]
 refine tk 18 [19,20] rfl kS.out ?_;try simp only [Act.put,sa,sb,sc]
 refine Zb (i:=7) (by kernel_rfl) rfl (fun K' hK=>?_)
 have C:=hid (K1.out _ BD.out.2.2.2.1 BD.out.2.2.1 BD.out.2.2.2.2.2.2)
 go_simp
 refine C.out.mono ?_;rintro r u1_ ⟨rfl,hb⟩;have BD2:=qsd (ai (BD.out.1.below hb BD.out.1.lt) (nk hb BD.out.2 (ai (BD.out.2.2.2.2.2.1.below hb) (BD.out.2.2.2.2.2.2.trans (hb.mono BD.out.2.2.2.2.2.2.size)))));have kS2:=qsd (ck hb kS.out fun h=>ck hb h fun h=>ck hb h fun h=>ck3 hb h);clear hb C BD kS;have BD:=BD2;have kS:=kS2;clear BD2 kS2
 try dsimp only
 refine hK.out _ _ (fun _=>kS.out) ?_
 clear hK K'
 try simp only [Act.put,sa,sb,sc]
 refine Zb (i:=13) (by kernel_rfl) rfl (fun K' hK=>?_)
 have C:=hid (K2.out _ BD.out.2.2.2.2.2.1 BD.out.2.2.1 BD.out.2.2.2.2.2.2)
 go_simp
 refine C.out.mono ?_;rintro r u2_ ⟨rfl,hb⟩;have BD2:=qsd (ai (BD.out.1.below hb BD.out.1.lt) (nk hb BD.out.2 (ai (BD.out.2.2.2.2.2.1.below hb) (BD.out.2.2.2.2.2.2.trans (hb.mono BD.out.2.2.2.2.2.2.size)))));have kS2:=qsd (ck hb kS.out fun h=>ck hb h fun h=>ck hb h fun h=>ck3 hb h);clear hb C BD kS;have BD:=BD2;have kS:=kS2;clear BD2 kS2
 try dsimp only
 refine hK.out _ _ (fun _=>kS.out) ?_
 clear hK K'
 try simp only [Act.put,sa,sb,sc]
 refine Zb (i:=16) (by kernel_rfl) rfl (fun K' hK=>?_)
 have C:=hid (K3.out _ ⟨BD.out.2.1,BD.out.2.2.1,BD.out.2.2.2.1,BD.out.2.2.2.2.1,BD.out.2.2.2.2.2.1⟩ BD.out.2.2.2.2.2.2)
 go_simp
 refine C.out.mono ?_;rintro r u3_ ⟨rfl,hb⟩;have BD2:=qsd (ai (BD.out.1.below hb BD.out.1.lt) (nk hb BD.out.2 (ai (BD.out.2.2.2.2.2.1.below hb) (BD.out.2.2.2.2.2.2.trans (hb.mono BD.out.2.2.2.2.2.2.size)))));have kS2:=qsd (ck hb kS.out fun h=>ck hb h fun h=>ck hb h fun h=>ck3 hb h);clear hb C BD kS;have BD:=BD2;have kS:=kS2;clear BD2 kS2
 try dsimp only
 refine hK.out _ _ (fun _=>kS.out) ?_
 clear hK K'
 try simp only [Act.put,sa,sb,sc]
 refine Zb (i:=19) (by kernel_rfl) rfl (fun K' hK=>?_)
 have C:=hid (K4.out _ ⟨BD.out.2.1,BD.out.2.2.1,BD.out.2.2.2.1,BD.out.2.2.2.2.1,BD.out.2.2.2.2.2.1⟩ BD.out.2.2.2.2.2.2)
 go_simp
 refine C.out.mono ?_;rintro r u4_ ⟨rfl,hb⟩;have BD2:=qsd (ai (BD.out.1.below hb BD.out.1.lt) (nk hb BD.out.2 (ai (BD.out.2.2.2.2.2.1.below hb) (BD.out.2.2.2.2.2.2.trans (hb.mono BD.out.2.2.2.2.2.2.size)))));have kS2:=qsd (ck hb kS.out fun h=>ck hb h fun h=>ck hb h fun h=>ck3 hb h);clear hb C BD kS;have BD:=BD2;have kS:=kS2;clear BD2 kS2
 try dsimp only
 refine hK.out _ _ (fun _=>kS.out) ?_
 clear hK K'
 try simp only [Act.put,sa,sb,sc]
 refine Zb (i:=20) (by kernel_rfl) rfl (fun K' hK=>?_)
 go_simp
 refine hK.out _ _ (fun _=>kS.out) ?_
 clear hK K'
 try simp only [Act.put,sa,sb,sc]
 have z0:=BD.out.1.cell 0 _ rfl;have zf0:=BD.out.1.frozen 0;have z1:=BD.out.1.cell 1 _ rfl;have zf1:=BD.out.1.frozen 1;have z2:=BD.out.1.cell 2 _ rfl;have zf2:=BD.out.1.frozen 2;have z3:=BD.out.1.cell 3 _ rfl;have zf3:=BD.out.1.frozen 3;have z4:=BD.out.1.cell 4 _ rfl;have zf4:=BD.out.1.frozen 4;have hbt:But w.heap.size u4_ _:=((((((But.refl w.heap.size u4_).set 0 (.int .i64 (n:Nat))).set 1 (.float .f64 Q1)).set 2 (.float .f64 Q2)).set 3 (.float .f64 Q3)).set 4 (.float .f64 Q4));have BE:=qsd (ai (((((BD.out.1.set 0 (.int .i64 (n:Nat))).set 1 (.float .f64 Q1)).set 2 (.float .f64 Q2)).set 3 (.float .f64 Q3)).set 4 (.float .f64 Q4)) (But.below BD.out.2.2.2.2.2.2 hbt BD.out.2.2.2.2.2.2.size (Nat.le_refl _)));clear hbt;refine Zb (i:=21) (by kernel_rfl) rfl (fun K' hK=>?_)
 go_simp
 refine hK.out _ _ (fun h=>absurd h (by decide)) ?_
 clear hK K' z0 zf0 z1 zf1 z2 zf2 z3 zf3 z4 zf4 kS BD
 try simp only [Act.put,sa,sb,sc]
 refine Zb (i:=22) (by kernel_rfl) rfl (fun K' hK=>?_)
 go_simp
 refine hK.out _ _ (fun h=>absurd h (by decide)) ?_
 clear hK K'
 try simp only [Act.put,sa,sb,sc]
 refine Zs (by kernel_rfl) ?_ _
 go_wp2;refine Jg (e:=0) Tryz.results14 ?_ ?_ BE.out.1 ?_
 · rfl
 · rfl
 · exact ⟨rfl,BE.out.2⟩
theorem Zqb {w:World}{a b:Option Addr}{n m c d:Nat}{oN oD oC oT oK pc pd pr pn:Option (Bool×Nat×Int)}(mode:Int) (hn:n=m) (hD:dX oD≠0) (FF:Aside (Fm oN∧Fm oD∧Fm oC∧Fm oT∧Fm oK∧Fm pc∧Fm pd∧Fm pr∧Fm pn)) (EE:Aside (mulD oD oT=pd∧mulD oC oC=pc∧addD pd (mkS (!dN pc) (dX pc) (dE pc))=pr∧mulD oN oD=pn)) (HT:Aside (∀ u:World,Below w.heap.size w u→Tab u)) (HA:Hid (∀ u:World,Below w.heap.size w u→Calls Tryz.prog 34 #[.slice a n c,.slice b m d,.int .i64 mode,.int .i64 2,.slice none 0 0] u fun r w'=>r=.returned (.int .i64 0)∧Below u.heap.size u w')) (HL:Hid (∀ u:World,Below w.heap.size w u→Calls Tryz.prog 35 #[.slice a n c,.slice b m d] u fun r w'=>(∃ v,r=.returned v∧Zfd w' v oN oD oC oT oK)∧Below u.heap.size u w')) :
 Calls Tryz.prog 14 #[.slice a n c,.slice b m d,.int .i64 mode] w fun r w'=>r=.returned (.tuple #[.agg #[.int .i64 (n:Nat),.float .f64 (Qp oC oD mode).1,.float .f64 (Qp oK oD mode).1,.float .f64 (if dX oT=0 then 4607182418800017408 else (Qp pc pd mode).1),.float .f64 (Qp pr pn mode).1],.int .i64 0])∧Below w.heap.size w w' :=
 Zla (oN:=oN) (oD:=oD) (oC:=oC) (oT:=oT) (oK:=oK) (pc:=pc) (pd:=pd) (pr:=pr) (pn:=pn) mode _ _ _ _ hD FF HA HL
  (hid fun u _ _ _ _ h1 h2 hb=>Zbf mode FF.out.2.2.1 FF.out.2.1 h1 h2 (HT.out u hb))
  (hid fun u _ _ _ _ h1 h2 hb=>Zbf mode FF.out.2.2.2.2.1 FF.out.2.1 h1 h2 (HT.out u hb))
  (hid fun u _ _ _ _ _ _ _ _ _ _ hN hb=>Zsr pc pd mode ⟨FF.out.2.1,FF.out.2.2.1,FF.out.2.2.2.1,FF.out.2.2.2.2.2.1,FF.out.2.2.2.2.2.2.1⟩ ⟨EE.out.2.1,EE.out.1⟩ (qsd fun u' hu=>HT.out u' (hb.trans (hu.mono hb.size))) hN)
  (hid fun u _ _ _ _ _ _ _ _ _ _ hN hb=>Zss pc pd pr pn mode ⟨FF.out.1,FF.out.2.1,FF.out.2.2.1,FF.out.2.2.2.1,FF.out.2.2.2.2.2.2.1,FF.out.2.2.2.2.2.1,FF.out.2.2.2.2.2.2.2.1,FF.out.2.2.2.2.2.2.2.2⟩ EE.out (qsd fun u' hu=>HT.out u' (hb.trans (hu.mono hb.size))) hN)
end
section
open Go Go.RowKit J
attribute [local go_sem] Ps.st_floatP
theorem Zt4 {w:World}{a b:Option Addr}{n m c d:Nat}(x:Nat) (mode E:Int) (hE:E≠0) (HA:Hid (∀ u:World,Below w.heap.size w u→∀ g:Nat,w.heap.size≤g→u.cell? ⟨g,0,none⟩=some (.float .f64 x)→Calls Tryz.prog 34 #[.slice a n c,.slice b m d,.int .i64 mode,.int .i64 2,.slice (some ⟨g,0,none⟩) 1 1] u fun r w'=>r=.returned (.int .i64 E)∧Below u.heap.size u w')) :
 Calls Tryz.prog 18 #[.slice a n c,.slice b m d,.float .f64 x,.int .i64 mode] w fun r w'=>r=.returned (.tuple #[.float .f64 0,.int .i64 E])∧Below w.heap.size w w':=by
 have hE2:(E==0)=false:=by simp [hE]
 clear hE;obtain ⟨W,hW⟩:∃ W,W=w.alloc (Obj.cells #[.float .f64 x] 26):=⟨_,rfl⟩
 have B0:Aside (Below w.heap.size w W∧W.cell? ⟨w.heap.size,0,none⟩=some (.float .f64 x)):=by
  rw [hW];exact ⟨Zd _ _,(Bl.new w 26 [.float .f64 x]).cell 0 _ rfl⟩
 have HW:=qsd hW;have C:=hid (HA.out W B0.out.1 w.heap.size (Nat.le_refl _) B0.out.2);clear hW HA;go_enter Tryz.func18,Tryz.ntmps18
 go_wp2_with fail
 rw [←HW.out];clear HW;refine C.out.mono ?_;clear C;rintro r u ⟨rfl,hb⟩;have B1:=qsd (B0.out.1.trans (hb.mono B0.out.1.size));clear hb B0;go_wp2;exact bodyPost_ret (v:=.tuple #[.float .f64 0,.int .i64 E]) (by simp [results,Tryz.results18,go_sem]) rfl ⟨rfl,B1.out⟩
theorem Zqc {w:World}{a b:Option Addr}{n m c d:Nat}{oN oD oC oT oK oP p1 p2:Option (Bool×Nat×Int)}(x:Nat) (mode:Int) (hD:dX oD=0) (FF:Aside (Fm oD∧Fm oC∧Fm oK∧Fm oP∧Fm p1∧Fm p2)) (HA:Hid (∀ u:World,Below w.heap.size w u→∀ g:Nat,w.heap.size≤g→u.cell? ⟨g,0,none⟩=some (.float .f64 x)→Calls Tryz.prog 34 #[.slice a n c,.slice b m d,.int .i64 mode,.int .i64 2,.slice (some ⟨g,0,none⟩) 1 1] u fun r w'=>r=.returned (.int .i64 0)∧Below u.heap.size u w')) (HL:Hid (∀ u:World,Below w.heap.size w u→Calls Tryz.prog 35 #[.slice a n c,.slice b m d] u fun r w'=>(∃ v,r=.returned v∧Zfd w' v oN oD oC oT oK)∧Below u.heap.size u w')) :
 Calls Tryz.prog 18 #[.slice a n c,.slice b m d,.float .f64 x,.int .i64 mode] w fun r w'=>r=.returned (.tuple #[.float .f64 0,.int .i64 190])∧Below w.heap.size w w':=by
 have hd:=decide_eq_true hD;clear hD;obtain ⟨W,hW⟩:∃ W,W=w.alloc (Obj.cells #[.float .f64 x] 26):=⟨_,rfl⟩
 have B0:Aside (Below w.heap.size w W∧W.cell? ⟨w.heap.size,0,none⟩=some (.float .f64 x)):=by
  rw [hW];exact ⟨Zd _ _,(Bl.new w 26 [.float .f64 x]).cell 0 _ rfl⟩
 have HW:=qsd hW;have C:=hid (HA.out W B0.out.1 w.heap.size (Nat.le_refl _) B0.out.2);clear hW HA;go_enter Tryz.func18,Tryz.ntmps18
 go_wp2_with fail
 rw [←HW.out];clear HW;refine C.out.mono ?_;clear C;rintro r u ⟨rfl,hb⟩;have B1:=qsd (B0.out.1.trans (hb.mono B0.out.1.size));clear hb B0;have C:=hid (HL.out u B1.out);clear HL
 go_wp2_with fail
 refine C.out.mono ?_;clear C;rintro r u2 ⟨⟨v,rfl,hv⟩,hb⟩;obtain ⟨a0,c0,a1,c1,a2,c2,a3,c3,a4,c4,rfl,hN⟩:=hv;obtain ⟨U,hU⟩:∃ U,U=u2.alloc (Obj.cells #[.bool (dN oN),.slice a0 (ws (dX oN)).length c0,.int .i64 (dE oN),.bool (dN oD),.slice a1 (ws (dX oD)).length c1,.int .i64 (dE oD),.bool (dN oC),.slice a2 (ws (dX oC)).length c2,.int .i64 (dE oC),.bool (dN oT),.slice a3 (ws (dX oT)).length c3,.int .i64 (dE oT),.bool (dN oK),.slice a4 (ws (dX oK)).length c4,.int .i64 (dE oK)] 64):=⟨_,rfl⟩;obtain ⟨g,hg⟩:∃ g,g=u2.heap.size:=⟨_,rfl⟩
 have B2:Aside (Bl U g 64 [.bool (dN oN),.slice a0 (ws (dX oN)).length c0,.int .i64 (dE oN),.bool (dN oD),.slice a1 (ws (dX oD)).length c1,.int .i64 (dE oD),.bool (dN oC),.slice a2 (ws (dX oC)).length c2,.int .i64 (dE oC),.bool (dN oT),.slice a3 (ws (dX oT)).length c3,.int .i64 (dE oT),.bool (dN oK),.slice a4 (ws (dX oK)).length c4,.int .i64 (dE oK)]∧Below w.heap.size w U):=by
  rw [hU,hg];exact ⟨Bl.new _ 64 [.bool (dN oN),.slice a0 (ws (dX oN)).length c0,.int .i64 (dE oN),.bool (dN oD),.slice a1 (ws (dX oD)).length c1,.int .i64 (dE oD),.bool (dN oC),.slice a2 (ws (dX oC)).length c2,.int .i64 (dE oC),.bool (dN oT),.slice a3 (ws (dX oT)).length c3,.int .i64 (dE oT),.bool (dN oK),.slice a4 (ws (dX oK)).length c4,.int .i64 (dE oK)],(B1.out.trans (hb.mono B1.out.size)).trans ((Zd _ _).mono (Nat.le_trans B1.out.size hb.size))⟩
 have NU:Aside (Nt 0 U (.slice a0 (ws (dX oN)).length c0) (dX oN)∧Nt 0 U (.slice a1 (ws (dX oD)).length c1) (dX oD)∧Nt 0 U (.slice a2 (ws (dX oC)).length c2) (dX oC)∧Nt 0 U (.slice a3 (ws (dX oT)).length c3) (dX oT)∧Nt 0 U (.slice a4 (ws (dX oK)).length c4) (dX oK)):=by
  rw [hU];exact ⟨hN.1.below (Za _ _),hN.2.1.below (Za _ _),hN.2.2.1.below (Za _ _),hN.2.2.2.1.below (Za _ _),hN.2.2.2.2.below (Za _ _)⟩
 have HU:=(qsd (ai hU hg));have C:=hid (Ju FF.out.1 NU.out);clear hU hg hb B1 hN
 go_upto_region 5 with fail
 rw [←HU.out.1,←HU.out.2];clear HU;have y0:=B2.out.1.cell 0 _ rfl;have y1:=B2.out.1.cell 1 _ rfl;have y2:=B2.out.1.cell 2 _ rfl;have y3:=B2.out.1.cell 3 _ rfl;have y4:=B2.out.1.cell 4 _ rfl;have y5:=B2.out.1.cell 5 _ rfl;have y6:=B2.out.1.cell 6 _ rfl;have y7:=B2.out.1.cell 7 _ rfl;have y8:=B2.out.1.cell 8 _ rfl;have y9:=B2.out.1.cell 9 _ rfl;have y10:=B2.out.1.cell 10 _ rfl;have y11:=B2.out.1.cell 11 _ rfl;have y12:=B2.out.1.cell 12 _ rfl;have y13:=B2.out.1.cell 13 _ rfl;have y14:=B2.out.1.cell 14 _ rfl
 go_wp2_with fail
 refine C.out.mono ?_;clear C;rintro r u3 ⟨rfl,hb⟩;have B3:=qsd (ai (B2.out.1.below hb B2.out.1.lt) (B2.out.2.trans (hb.mono B2.out.2.size)));have N3:Aside (Nt 0 u3 (.slice a0 (ws (dX oN)).length c0) (dX oN)∧Nt 0 u3 (.slice a1 (ws (dX oD)).length c1) (dX oD)∧Nt 0 u3 (.slice a2 (ws (dX oC)).length c2) (dX oC)∧Nt 0 u3 (.slice a3 (ws (dX oT)).length c3) (dX oT)∧Nt 0 u3 (.slice a4 (ws (dX oK)).length c4) (dX oK)):=⟨NU.out.1.below hb,NU.out.2.1.below hb,NU.out.2.2.1.below hb,NU.out.2.2.2.1.below hb,NU.out.2.2.2.2.below hb⟩;clear hb B2 NU y0 y1 y2 y3 y4 y5 y6 y7 y8 y9 y10 y11 y12 y13 y14;rw [hd];go_wp2;exact bodyPost_ret (v:=.tuple #[.float .f64 0,.int .i64 190]) (by simp [results,Tryz.results18,go_sem]) rfl ⟨rfl,B3.out.2⟩
theorem Zt5 {w:World}{a b:Option Addr}{n m c d:Nat}{oN oD oC oT oK oP p1 p2:Option (Bool×Nat×Int)}(x:Nat) (mode:Int) (hD:dX oD≠0) (FF:Aside (Fm oD∧Fm oC∧Fm oK∧Fm oP∧Fm p1∧Fm p2)) (EE:Aside (mulD oC oP=p1∧addD oK p1=p2)) (HT:Aside (∀ u:World,Below w.heap.size w u→Tab u)) (HA:Hid (∀ u:World,Below w.heap.size w u→∀ g:Nat,w.heap.size≤g→u.cell? ⟨g,0,none⟩=some (.float .f64 x)→Calls Tryz.prog 34 #[.slice a n c,.slice b m d,.int .i64 mode,.int .i64 2,.slice (some ⟨g,0,none⟩) 1 1] u fun r w'=>r=.returned (.int .i64 0)∧Below u.heap.size u w')) (HL:Hid (∀ u:World,Below w.heap.size w u→Calls Tryz.prog 35 #[.slice a n c,.slice b m d] u fun r w'=>(∃ v,r=.returned v∧Zfd w' v oN oD oC oT oK)∧Below u.heap.size u w'))
 (HO:Hid (∀ u:World,Below w.heap.size w u→Calls Tryz.prog 51 #[.float .f64 x] u fun r w'=>(∃ v,r=.returned (.tuple #[.agg #[.bool (dN oP),v,.int .i64 (dE oP)],.int .i64 0])∧Nt u.heap.size w' v (dX oP))∧Below u.heap.size u w')) :
 Calls Tryz.prog 18 #[.slice a n c,.slice b m d,.float .f64 x,.int .i64 mode] w fun r w'=>r=.returned (.tuple #[.float .f64 (Qp p2 oD mode).1,.int .i64 0])∧Below w.heap.size w w':=by
 have hd:=decide_eq_false hD;clear hD;obtain ⟨W,hW⟩:∃ W,W=w.alloc (Obj.cells #[.float .f64 x] 26):=⟨_,rfl⟩
 have B0:Aside (Below w.heap.size w W∧W.cell? ⟨w.heap.size,0,none⟩=some (.float .f64 x)):=by
  rw [hW];exact ⟨Zd _ _,(Bl.new w 26 [.float .f64 x]).cell 0 _ rfl⟩
 have HW:=qsd hW;have C:=hid (HA.out W B0.out.1 w.heap.size (Nat.le_refl _) B0.out.2);clear hW HA;go_enter Tryz.func18,Tryz.ntmps18
 go_wp2_with fail
 rw [←HW.out];clear HW;refine C.out.mono ?_;clear C;rintro r u ⟨rfl,hb⟩;have B1:=qsd (B0.out.1.trans (hb.mono B0.out.1.size));clear hb B0;have C:=hid (HL.out u B1.out);clear HL
 go_wp2_with fail
 refine C.out.mono ?_;clear C;rintro r u2 ⟨⟨v,rfl,hv⟩,hb⟩;obtain ⟨a0,c0,a1,c1,a2,c2,a3,c3,a4,c4,rfl,hN⟩:=hv;obtain ⟨U,hU⟩:∃ U,U=u2.alloc (Obj.cells #[.bool (dN oN),.slice a0 (ws (dX oN)).length c0,.int .i64 (dE oN),.bool (dN oD),.slice a1 (ws (dX oD)).length c1,.int .i64 (dE oD),.bool (dN oC),.slice a2 (ws (dX oC)).length c2,.int .i64 (dE oC),.bool (dN oT),.slice a3 (ws (dX oT)).length c3,.int .i64 (dE oT),.bool (dN oK),.slice a4 (ws (dX oK)).length c4,.int .i64 (dE oK)] 64):=⟨_,rfl⟩;obtain ⟨g,hg⟩:∃ g,g=u2.heap.size:=⟨_,rfl⟩
 have B2:Aside (Bl U g 64 [.bool (dN oN),.slice a0 (ws (dX oN)).length c0,.int .i64 (dE oN),.bool (dN oD),.slice a1 (ws (dX oD)).length c1,.int .i64 (dE oD),.bool (dN oC),.slice a2 (ws (dX oC)).length c2,.int .i64 (dE oC),.bool (dN oT),.slice a3 (ws (dX oT)).length c3,.int .i64 (dE oT),.bool (dN oK),.slice a4 (ws (dX oK)).length c4,.int .i64 (dE oK)]∧Below w.heap.size w U):=by
  rw [hU,hg];exact ⟨Bl.new _ 64 [.bool (dN oN),.slice a0 (ws (dX oN)).length c0,.int .i64 (dE oN),.bool (dN oD),.slice a1 (ws (dX oD)).length c1,.int .i64 (dE oD),.bool (dN oC),.slice a2 (ws (dX oC)).length c2,.int .i64 (dE oC),.bool (dN oT),.slice a3 (ws (dX oT)).length c3,.int .i64 (dE oT),.bool (dN oK),.slice a4 (ws (dX oK)).length c4,.int .i64 (dE oK)],(B1.out.trans (hb.mono B1.out.size)).trans ((Zd _ _).mono (Nat.le_trans B1.out.size hb.size))⟩
 have NU:Aside (Nt 0 U (.slice a0 (ws (dX oN)).length c0) (dX oN)∧Nt 0 U (.slice a1 (ws (dX oD)).length c1) (dX oD)∧Nt 0 U (.slice a2 (ws (dX oC)).length c2) (dX oC)∧Nt 0 U (.slice a3 (ws (dX oT)).length c3) (dX oT)∧Nt 0 U (.slice a4 (ws (dX oK)).length c4) (dX oK)):=by
  rw [hU];exact ⟨hN.1.below (Za _ _),hN.2.1.below (Za _ _),hN.2.2.1.below (Za _ _),hN.2.2.2.1.below (Za _ _),hN.2.2.2.2.below (Za _ _)⟩
 have HU:=(qsd (ai hU hg));have C:=hid (Ju FF.out.1 NU.out);clear hU hg hb B1 hN
 go_upto_region 5 with fail
 rw [←HU.out.1,←HU.out.2];clear HU;have y0:=B2.out.1.cell 0 _ rfl;have y1:=B2.out.1.cell 1 _ rfl;have y2:=B2.out.1.cell 2 _ rfl;have y3:=B2.out.1.cell 3 _ rfl;have y4:=B2.out.1.cell 4 _ rfl;have y5:=B2.out.1.cell 5 _ rfl;have y6:=B2.out.1.cell 6 _ rfl;have y7:=B2.out.1.cell 7 _ rfl;have y8:=B2.out.1.cell 8 _ rfl;have y9:=B2.out.1.cell 9 _ rfl;have y10:=B2.out.1.cell 10 _ rfl;have y11:=B2.out.1.cell 11 _ rfl;have y12:=B2.out.1.cell 12 _ rfl;have y13:=B2.out.1.cell 13 _ rfl;have y14:=B2.out.1.cell 14 _ rfl
 go_wp2_with fail
 refine C.out.mono ?_;clear C;rintro r u3 ⟨rfl,hb⟩;have B3:=qsd (ai (B2.out.1.below hb B2.out.1.lt) (B2.out.2.trans (hb.mono B2.out.2.size)));have N3:Aside (Nt 0 u3 (.slice a0 (ws (dX oN)).length c0) (dX oN)∧Nt 0 u3 (.slice a1 (ws (dX oD)).length c1) (dX oD)∧Nt 0 u3 (.slice a2 (ws (dX oC)).length c2) (dX oC)∧Nt 0 u3 (.slice a3 (ws (dX oT)).length c3) (dX oT)∧Nt 0 u3 (.slice a4 (ws (dX oK)).length c4) (dX oK)):=⟨NU.out.1.below hb,NU.out.2.1.below hb,NU.out.2.2.1.below hb,NU.out.2.2.2.1.below hb,NU.out.2.2.2.2.below hb⟩;clear hb B2 NU y0 y1 y2 y3 y4 y5 y6 y7 y8 y9 y10 y11 y12 y13 y14;rw [hd];have C:=hid (HO.out u3 B3.out.2);clear HO
 go_wp2_with fail
 refine C.out.mono ?_;clear C;rintro r u4 ⟨⟨v,rfl,hv⟩,hb⟩;obtain ⟨aP,cP,rfl,hN⟩:=Lo.shape FF.out.2.2.2.1 hv;clear hv;obtain ⟨U,hU⟩:∃ U,U=u4.alloc (Obj.cells #[.bool (dN oP),.slice aP (ws (dX oP)).length cP,.int .i64 (dE oP)] 62):=⟨_,rfl⟩;obtain ⟨gP,hgP⟩:∃ g,g=u4.heap.size:=⟨_,rfl⟩;have hbU:Below u4.heap.size u4 U.drew:=by rw [hU];exact (Za _ _).drew
 have BD:Aside (Nt 0 U.drew (.slice a0 (ws (dX oN)).length c0) (dX oN)∧Nt 0 U.drew (.slice a1 (ws (dX oD)).length c1) (dX oD)∧Nt 0 U.drew (.slice a2 (ws (dX oC)).length c2) (dX oC)∧Nt 0 U.drew (.slice a3 (ws (dX oT)).length c3) (dX oT)∧Nt 0 U.drew (.slice a4 (ws (dX oK)).length c4) (dX oK)∧Nt 0 U.drew (.slice aP (ws (dX oP)).length cP) (dX oP)∧Below w.heap.size w U.drew) :=
  ⟨(N3.out.1.below hb).below hbU,(N3.out.2.1.below hb).below hbU,(N3.out.2.2.1.below hb).below hbU,(N3.out.2.2.2.1.below hb).below hbU,(N3.out.2.2.2.2.below hb).below hbU,hN.below hbU,(B3.out.2.trans (hb.mono B3.out.2.size)).trans (hbU.mono (Nat.le_trans B3.out.2.size hb.size))⟩
 have DP:Aside (Dk U.drew gP (dN oP) (.slice aP (ws (dX oP)).length cP) (dE oP)):=by rw [hU,hgP];exact (Dk.new _ _ _ _).below (Below.refl _ _).drew
 have BL:=qsd ((B3.out.1.below hb B3.out.1.lt).below hbU (B3.out.1.below hb B3.out.1.lt).lt);have HU:=(qsd (ai hU hgP));clear hU hgP hb hN hbU B3 N3
 go_upto_region 8 with fail
 rw [←HU.out.1,←HU.out.2];clear HU;have kS:Aside (U.drew.cell? ⟨g,0,none⟩=some (.bool (dN oN))∧U.drew.cell? ⟨g,1,none⟩=some (.slice a0 (ws (dX oN)).length c0)∧U.drew.cell? ⟨g,2,none⟩=some (.int .i64 (dE oN))∧U.drew.cell? ⟨g,3,none⟩=some (.bool (dN oD))∧U.drew.cell? ⟨g,4,none⟩=some (.slice a1 (ws (dX oD)).length c1)∧U.drew.cell? ⟨g,5,none⟩=some (.int .i64 (dE oD))∧U.drew.cell? ⟨g,6,none⟩=some (.bool (dN oC))∧U.drew.cell? ⟨g,7,none⟩=some (.slice a2 (ws (dX oC)).length c2)∧U.drew.cell? ⟨g,8,none⟩=some (.int .i64 (dE oC))∧U.drew.cell? ⟨g,9,none⟩=some (.bool (dN oT))∧U.drew.cell? ⟨g,10,none⟩=some (.slice a3 (ws (dX oT)).length c3)∧U.drew.cell? ⟨g,11,none⟩=some (.int .i64 (dE oT))∧U.drew.cell? ⟨g,12,none⟩=some (.bool (dN oK))∧U.drew.cell? ⟨g,13,none⟩=some (.slice a4 (ws (dX oK)).length c4)∧U.drew.cell? ⟨g,14,none⟩=some (.int .i64 (dE oK))∧U.drew.cell? ⟨gP,0,none⟩=some (.bool (dN oP))∧U.drew.cell? ⟨gP,1,none⟩=some (.slice aP (ws (dX oP)).length cP)∧U.drew.cell? ⟨gP,2,none⟩=some (.int .i64 (dE oP))):=⟨BL.out.cell 0 _ rfl,BL.out.cell 1 _ rfl,BL.out.cell 2 _ rfl,BL.out.cell 3 _ rfl,BL.out.cell 4 _ rfl,BL.out.cell 5 _ rfl,BL.out.cell 6 _ rfl,BL.out.cell 7 _ rfl,BL.out.cell 8 _ rfl,BL.out.cell 9 _ rfl,BL.out.cell 10 _ rfl,BL.out.cell 11 _ rfl,BL.out.cell 12 _ rfl,BL.out.cell 13 _ rfl,BL.out.cell 14 _ rfl,DP.out.facts.1,DP.out.facts.2.1,DP.out.facts.2.2.1⟩;clear DP BL;refine Zn (fun w'=>w'.cell? ⟨g,0,none⟩=some (.bool (dN oN))∧w'.cell? ⟨g,1,none⟩=some (.slice a0 (ws (dX oN)).length c0)∧w'.cell? ⟨g,2,none⟩=some (.int .i64 (dE oN))∧w'.cell? ⟨g,3,none⟩=some (.bool (dN oD))∧w'.cell? ⟨g,4,none⟩=some (.slice a1 (ws (dX oD)).length c1)∧w'.cell? ⟨g,5,none⟩=some (.int .i64 (dE oD))∧w'.cell? ⟨g,6,none⟩=some (.bool (dN oC))∧w'.cell? ⟨g,7,none⟩=some (.slice a2 (ws (dX oC)).length c2)∧w'.cell? ⟨g,8,none⟩=some (.int .i64 (dE oC))∧w'.cell? ⟨g,9,none⟩=some (.bool (dN oT))∧w'.cell? ⟨g,10,none⟩=some (.slice a3 (ws (dX oT)).length c3)∧w'.cell? ⟨g,11,none⟩=some (.int .i64 (dE oT))∧w'.cell? ⟨g,12,none⟩=some (.bool (dN oK))∧w'.cell? ⟨g,13,none⟩=some (.slice a4 (ws (dX oK)).length c4)∧w'.cell? ⟨g,14,none⟩=some (.int .i64 (dE oK))∧w'.cell? ⟨gP,0,none⟩=some (.bool (dN oP))∧w'.cell? ⟨gP,1,none⟩=some (.slice aP (ws (dX oP)).length cP)∧w'.cell? ⟨gP,2,none⟩=some (.int .i64 (dE oP))) 13 (by kernel_rfl) ?_
 obtain ⟨Wd,hWd⟩:∃ Vq,Vq=U.drew:=⟨_,rfl⟩;rw [←hWd] at BD kS ⊢;clear hWd
 refine tk 0 [] rfl kS.out ?_;try simp only [Act.put,sa,sb,sc]
 refine tk 1 [] rfl kS.out ?_;try simp only [Act.put,sa,sb,sc]
 refine tk 2 [] rfl kS.out ?_;try simp only [Act.put,sa,sb,sc]
 refine tk 3 [] rfl kS.out ?_;try simp only [Act.put,sa,sb,sc]
 refine tk 4 [] rfl kS.out ?_;try simp only [Act.put,sa,sb,sc]
 refine tk 7 [] rfl kS.out ?_;try simp only [Act.put,sa,sb,sc]
 refine tk 8 [] rfl kS.out ?_;try simp only [Act.put,sa,sb,sc]
 refine tk 9 [] rfl kS.out ?_;try simp only [Act.put,sa,sb,sc]
 refine Zb (i:=5) (by kernel_rfl) rfl (fun K' hK=>?_)
 have C:=hid (Qe FF.out.2.1 FF.out.2.2.2.1 FF.out.2.2.2.2.1 BD.out.2.2.1 BD.out.2.2.2.2.2.1 (HT.out _ BD.out.2.2.2.2.2.2) EE.out.1)
 go_simp
 refine C.out.mono ?_;rintro r u1_ ⟨hd,hb⟩;obtain ⟨p1a,p1c,rfl,hN⟩:=hd.shp14;clear hd;have BD2:=qsd (nk hb BD.out (ai (BD.out.2.2.2.2.1.below hb) (ai (BD.out.2.2.2.2.2.1.below hb) (ai (BD.out.2.2.2.2.2.2.trans (hb.mono BD.out.2.2.2.2.2.2.size)) hN))));have kS2:=qsd (ck hb kS.out fun h=>ck hb h fun h=>ck hb h fun h=>ck hb h fun h=>ck2 hb h);clear hb hN C BD kS;have BD:=BD2;have kS:=kS2;clear BD2 kS2
 try dsimp only
 refine hK.out _ _ (fun _=>kS.out) ?_
 clear hK K'
 try simp only [Act.put,sa,sb,sc]
 refine Zb (i:=6) (by kernel_rfl) rfl (fun K' hK=>?_)
 have C:=hid (Ztt FF.out.2.2.1 FF.out.2.2.2.2.1 FF.out.2.2.2.2.2 BD.out.2.2.2.2.1 BD.out.2.2.2.2.2.2.2 (HT.out _ BD.out.2.2.2.2.2.2.1) EE.out.2)
 go_simp
 refine C.out.mono ?_;rintro r u2_ ⟨hd,hb⟩;obtain ⟨p2a,p2c,rfl,hN⟩:=hd.shp14;clear hd;have BD2:=qsd (nk hb BD.out (ai (BD.out.2.2.2.2.1.below hb) (ai (BD.out.2.2.2.2.2.1.below hb) (ai (BD.out.2.2.2.2.2.2.1.trans (hb.mono BD.out.2.2.2.2.2.2.1.size)) (ai (BD.out.2.2.2.2.2.2.2.below hb) hN)))));have kS2:=qsd (ck hb kS.out fun h=>ck hb h fun h=>ck hb h fun h=>ck hb h fun h=>ck2 hb h);clear hb hN C BD kS;have BD:=BD2;have kS:=kS2;clear BD2 kS2
 try dsimp only
 refine hK.out _ _ (fun _=>kS.out) ?_
 clear hK K'
 try simp only [Act.put,sa,sb,sc]
 refine Zb (i:=10) (by kernel_rfl) rfl (fun K' hK=>?_)
 have C:=hid (Zbf mode FF.out.2.2.2.2.2 FF.out.1 BD.out.2.2.2.2.2.2.2.2 BD.out.2.1 (HT.out _ BD.out.2.2.2.2.2.2.1))
 go_simp
 refine C.out.mono ?_;rintro r u3_ ⟨rfl,hb⟩;have BD2:=qsd (nk hb BD.out (ai (BD.out.2.2.2.2.1.below hb) (ai (BD.out.2.2.2.2.2.1.below hb) (ai (BD.out.2.2.2.2.2.2.1.trans (hb.mono BD.out.2.2.2.2.2.2.1.size)) (ai (BD.out.2.2.2.2.2.2.2.1.below hb) (BD.out.2.2.2.2.2.2.2.2.below hb))))));have kS2:=qsd (ck hb kS.out fun h=>ck hb h fun h=>ck hb h fun h=>ck hb h fun h=>ck2 hb h);clear hb C BD kS;have BD:=BD2;have kS:=kS2;clear BD2 kS2
 try dsimp only
 refine hK.out _ _ (fun _=>kS.out) ?_
 clear hK K'
 try simp only [Act.put,sa,sb,sc]
 refine Zb (i:=11) (by kernel_rfl) rfl (fun K' hK=>?_)
 go_simp
 refine hK.out _ _ (fun _=>kS.out) ?_
 clear hK K'
 try simp only [Act.put,sa,sb,sc]
 refine Zb (i:=12) (by kernel_rfl) rfl (fun K' hK=>?_)
 go_simp
 refine hK.out _ _ (fun _=>kS.out) ?_
 clear hK K'
 try simp only [Act.put,sa,sb,sc]
 have BE:=qsd BD.out.2.2.2.2.2.2.1;clear kS BD;refine Zs (by kernel_rfl) ?_ _
 go_wp2;exact bodyPost_ret (v:=.tuple #[.float .f64 _,.int .i64 0]) (by simp [results,Tryz.results18,go_sem]) rfl ⟨rfl,BE.out⟩
theorem Zhs {w:World}{a b:Option Addr}{n m c d:Nat}(mode E:Int) (hE:E≠0) (HA:Hid (∀ u:World,Below w.heap.size w u→Calls Tryz.prog 34 #[.slice a n c,.slice b m d,.int .i64 mode,.int .i64 1,.slice none 0 0] u fun r w'=>r=.returned (.int .i64 E)∧Below u.heap.size u w')) :
 Calls Tryz.prog 21 #[.slice a n c,.slice b m d,.int .i64 mode] w fun r w'=>r=.returned (.tuple #[.float .f64 0,.int .i64 E])∧Below w.heap.size w w':=by
 have hE2:(E==0)=false:=by simp [hE]
 clear hE;have C:=hid (HA.out w (Below.refl _ _));clear HA;go_enter Tryz.func21,Tryz.ntmps21
 go_wp2_with fail
 refine C.out.mono ?_;clear C;rintro r u ⟨rfl,hb⟩;have B1:=qsd hb;clear hb;go_wp2;exact bodyPost_ret (v:=.tuple #[.float .f64 0,.int .i64 E]) (by simp [results,Tryz.results21,go_sem]) rfl ⟨rfl,B1.out⟩
theorem Zeg {w:World}{a b:Option Addr}{n m c d:Nat}{oX oY:Option (Bool×Nat×Int)}(mode:Int) (hD:dX oX=0) (FF:Aside (Fm oX∧Fm oY)) (HA:Hid (∀ u:World,Below w.heap.size w u→Calls Tryz.prog 34 #[.slice a n c,.slice b m d,.int .i64 mode,.int .i64 1,.slice none 0 0] u fun r w'=>r=.returned (.int .i64 0)∧Below u.heap.size u w')) (HX:Hid (∀ u:World,Below w.heap.size w u→Calls Tryz.prog 57 #[.slice a n c,.slice a n c] u fun r w'=>DVal 0 w' r oX∧Below u.heap.size u w')) :
 Calls Tryz.prog 21 #[.slice a n c,.slice b m d,.int .i64 mode] w fun r w'=>r=.returned (.tuple #[.float .f64 0,.int .i64 190])∧Below w.heap.size w w':=by
 have hd:=decide_eq_true hD;clear hD;have C:=hid (HA.out w (Below.refl _ _));clear HA;go_enter Tryz.func21,Tryz.ntmps21
 go_wp2_with fail
 refine C.out.mono ?_;clear C;rintro r u ⟨rfl,hb⟩;have B1:=qsd hb;clear hb;have C:=hid (HX.out u B1.out);clear HX
 go_wp2_with fail
 refine C.out.mono ?_;clear C;rintro r u2 ⟨hv,hb⟩;obtain ⟨aX,cX,rfl,hN⟩:=hv.shp14;clear hv;obtain ⟨U,hU⟩:∃ U,U=u2.alloc (Obj.cells #[.bool (dN oX),.slice aX (ws (dX oX)).length cX,.int .i64 (dE oX)] 62):=⟨_,rfl⟩;obtain ⟨g,hg⟩:∃ g,g=u2.heap.size:=⟨_,rfl⟩
 have B2:Aside (Dk U g (dN oX) (.slice aX (ws (dX oX)).length cX) (dE oX)∧Nt 0 U (.slice aX (ws (dX oX)).length cX) (dX oX)∧Below w.heap.size w U):=by
  rw [hU,hg];exact ⟨Dk.new _ _ _ _,hN.below (Za _ _),(B1.out.trans (hb.mono B1.out.size)).trans ((Za _ _).mono (Nat.le_trans B1.out.size hb.size))⟩
 have HU:=(qsd (ai hU hg));have hs:=Y8 (dN oX) (dX oX);rw [hd] at hs;obtain ⟨s,hs2⟩:∃ s,s=sgn (dN oX) (dX oX):=⟨_,rfl⟩;have C:=hid (Ze5 FF.out.1 B2.out.2.1);rw [←hs2] at C hs;clear hU hg hb B1 hN hs2 hd
 go_upto_region 5 with fail
 rw [←HU.out.1,←HU.out.2];clear HU;obtain ⟨x0,x1,x2,xf0,xf1,xf2⟩:=B2.out.1.facts
 go_wp2_with fail
 refine C.out.mono ?_;clear C;rintro r u3 ⟨rfl,hb⟩;have B3:=qsd (ai (B2.out.1.below hb) (ai (B2.out.2.1.below hb) (B2.out.2.2.trans (hb.mono B2.out.2.2.size))));clear hb B2 x0 x1 x2 xf0 xf1 xf2;go_wp2;exact bodyPost_ret (v:=.tuple #[.float .f64 0,.int .i64 190]) (by simp [results,Tryz.results21,go_sem]) rfl ⟨rfl,B3.out.2.2⟩
theorem Zht {w:World}{a b:Option Addr}{n m c d:Nat}{oX oY:Option (Bool×Nat×Int)}(mode:Int) (hD:dX oX≠0) (FF:Aside (Fm oX∧Fm oY)) (HT:Aside (∀ u:World,Below w.heap.size w u→Tab u)) (HA:Hid (∀ u:World,Below w.heap.size w u→Calls Tryz.prog 34 #[.slice a n c,.slice b m d,.int .i64 mode,.int .i64 1,.slice none 0 0] u fun r w'=>r=.returned (.int .i64 0)∧Below u.heap.size u w')) (HX:Hid (∀ u:World,Below w.heap.size w u→Calls Tryz.prog 57 #[.slice a n c,.slice a n c] u fun r w'=>DVal 0 w' r oX∧Below u.heap.size u w')) (HY:Hid (∀ u:World,Below w.heap.size w u→Calls Tryz.prog 57 #[.slice a n c,.slice b m d] u fun r w'=>DVal 0 w' r oY∧Below u.heap.size u w')) :
 Calls Tryz.prog 21 #[.slice a n c,.slice b m d,.int .i64 mode] w fun r w'=>r=.returned (.tuple #[.float .f64 (Qp oY oX mode).1,.int .i64 0])∧Below w.heap.size w w':=by
 have hd:=decide_eq_false hD;clear hD;have C:=hid (HA.out w (Below.refl _ _));clear HA;go_enter Tryz.func21,Tryz.ntmps21
 go_wp2_with fail
 refine C.out.mono ?_;clear C;rintro r u ⟨rfl,hb⟩;have B1:=qsd hb;clear hb;have C:=hid (HX.out u B1.out);clear HX
 go_wp2_with fail
 refine C.out.mono ?_;clear C;rintro r u2 ⟨hv,hb⟩;obtain ⟨aX,cX,rfl,hN⟩:=hv.shp14;clear hv;obtain ⟨U,hU⟩:∃ U,U=u2.alloc (Obj.cells #[.bool (dN oX),.slice aX (ws (dX oX)).length cX,.int .i64 (dE oX)] 62):=⟨_,rfl⟩;obtain ⟨g,hg⟩:∃ g,g=u2.heap.size:=⟨_,rfl⟩
 have B2:Aside (Dk U g (dN oX) (.slice aX (ws (dX oX)).length cX) (dE oX)∧Nt 0 U (.slice aX (ws (dX oX)).length cX) (dX oX)∧Below w.heap.size w U):=by
  rw [hU,hg];exact ⟨Dk.new _ _ _ _,hN.below (Za _ _),(B1.out.trans (hb.mono B1.out.size)).trans ((Za _ _).mono (Nat.le_trans B1.out.size hb.size))⟩
 have HU:=(qsd (ai hU hg));have hs:=Y8 (dN oX) (dX oX);rw [hd] at hs;obtain ⟨s,hs2⟩:∃ s,s=sgn (dN oX) (dX oX):=⟨_,rfl⟩;have C:=hid (Ze5 FF.out.1 B2.out.2.1);rw [←hs2] at C hs;clear hU hg hb B1 hN hs2 hd
 go_upto_region 5 with fail
 rw [←HU.out.1,←HU.out.2];clear HU;obtain ⟨x0,x1,x2,xf0,xf1,xf2⟩:=B2.out.1.facts
 go_wp2_with fail
 refine C.out.mono ?_;clear C;rintro r u3 ⟨rfl,hb⟩;have B3:=qsd (ai (B2.out.1.below hb) (ai (B2.out.2.1.below hb) (B2.out.2.2.trans (hb.mono B2.out.2.2.size))));clear hb B2 x0 x1 x2 xf0 xf1 xf2;obtain ⟨U,hU⟩:∃ U,U=u3:=⟨_,rfl⟩;rw [←hU] at B3 ⊢;clear hU
 go_upto_region 7 with fail
 have BD:Aside (Nt 0 U.drew (.slice aX (ws (dX oX)).length cX) (dX oX)∧Below w.heap.size w U.drew):=⟨B3.out.2.1.below (Below.refl _ _).drew,B3.out.2.2.drew⟩;have DX:=(B3.out.1.below (Below.refl _ _).drew).facts;have kS:Aside (U.drew.cell? ⟨g,0,none⟩=some (.bool (dN oX))∧U.drew.cell? ⟨g,1,none⟩=some (.slice aX (ws (dX oX)).length cX)∧U.drew.cell? ⟨g,2,none⟩=some (.int .i64 (dE oX))):=⟨DX.1,DX.2.1,DX.2.2.1⟩;clear DX B3;refine Zn (fun w'=>w'.cell? ⟨g,0,none⟩=some (.bool (dN oX))∧w'.cell? ⟨g,1,none⟩=some (.slice aX (ws (dX oX)).length cX)∧w'.cell? ⟨g,2,none⟩=some (.int .i64 (dE oX))) 8 (by kernel_rfl) ?_
 obtain ⟨Wd,hWd⟩:∃ Vq,Vq=U.drew:=⟨_,rfl⟩;rw [←hWd] at BD kS ⊢;clear hWd
 refine tk 0 [] rfl kS.out ?_;try simp only [Act.put,sa,sb,sc]
 refine tk 1 [] rfl kS.out ?_;try simp only [Act.put,sa,sb,sc]
 refine tk 3 [] rfl kS.out ?_;try simp only [Act.put,sa,sb,sc]
 refine tk 4 [] rfl kS.out ?_;try simp only [Act.put,sa,sb,sc]
 refine Zb (i:=2) (by kernel_rfl) rfl (fun K' hK=>?_)
 have C:=hid (HY.out _ BD.out.2)
 go_simp
 refine C.out.mono ?_;rintro r u1_ ⟨hd,hb⟩;obtain ⟨oYa,oYc,rfl,hN⟩:=hd.shp14;clear hd;have BD2:=qsd (ai (BD.out.1.below hb) (ai (BD.out.2.trans (hb.mono BD.out.2.size)) hN));have kS2:=qsd (ck3 hb kS.out);clear hb hN C BD kS;have BD:=BD2;have kS:=kS2;clear BD2 kS2
 try dsimp only
 refine hK.out _ _ (fun _=>kS.out) ?_
 clear hK K'
 try simp only [Act.put,sa,sb,sc]
 refine Zb (i:=5) (by kernel_rfl) rfl (fun K' hK=>?_)
 have C:=hid (Zbf mode FF.out.2 FF.out.1 BD.out.2.2 BD.out.1 (HT.out _ BD.out.2.1))
 go_simp
 refine C.out.mono ?_;rintro r u2_ ⟨rfl,hb⟩;have BD2:=qsd (ai (BD.out.1.below hb) (ai (BD.out.2.1.trans (hb.mono BD.out.2.1.size)) (BD.out.2.2.below hb)));have kS2:=qsd (ck3 hb kS.out);clear hb C BD kS;have BD:=BD2;have kS:=kS2;clear BD2 kS2
 try dsimp only
 refine hK.out _ _ (fun _=>kS.out) ?_
 clear hK K'
 try simp only [Act.put,sa,sb,sc]
 refine Zb (i:=6) (by kernel_rfl) rfl (fun K' hK=>?_)
 go_simp
 refine hK.out _ _ (fun _=>kS.out) ?_
 clear hK K'
 try simp only [Act.put,sa,sb,sc]
 refine Zb (i:=7) (by kernel_rfl) rfl (fun K' hK=>?_)
 go_simp
 refine hK.out _ _ (fun _=>kS.out) ?_
 clear hK K'
 try simp only [Act.put,sa,sb,sc]
 have BE:=qsd BD.out.2.1;clear kS BD;refine Zs (by kernel_rfl) ?_ _
 go_wp2;exact bodyPost_ret (v:=.tuple #[.float .f64 _,.int .i64 0]) (by simp [results,Tryz.results21,go_sem]) rfl ⟨rfl,BE.out⟩
end
end Go.Proofs.YtblkpkgebigojaaGreatDoor
