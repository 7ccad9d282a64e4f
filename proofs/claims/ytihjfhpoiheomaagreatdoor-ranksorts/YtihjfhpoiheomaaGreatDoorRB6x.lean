import Derived.Test.YtihjfhpoiheomaaGreatDoorJ19x
import Derived.BigQuiet
import Derived.Test.YtihjfhpoiheomaaGreatDoorD30x
import Derived.Test.YtihjfhpoiheomaaGreatDoorM1x
import Derived.Test.YtihjfhpoiheomaaGreatDoorRS8x
import Derived.OwnWalk
import Derived.ArgAppend
import Derived.Maps.AppendAt
import Derived.WalkMore
import Derived.Test.YtihjfhpoiheomaaGreatDoorM4x
import Derived.Test.YtihjfhpoiheomaaGreatDoorW25x
import Derived.Deep.MidRow
import Derived.ChangeKeysEq
import Derived.Laws.OwnMore
import Derived.Lib.SliceRun
import Derived.Deep.RegionHeld
import Derived.Deep.RegionWith
import Derived.Test.YtihjfhpoiheomaaGreatDoorD21x
import Derived.Test.YtihjfhpoiheomaaGreatDoorD16x
import Derived.Deep.RegionHeld3
import Derived.Laws.IdiomStrings
import Derived.Test.YtihjfhpoiheomaaGreatDoorD8x
import Derived.Deep.Cut
import Derived.Deep.CutRange
import Derived.Deep.OwnRows
import Derived.Deep.LoopGhost
import Derived.Laws.FloatArith
import Derived.WalkKit
import Derived.Below
import Derived.Laws.CopyOwn
import Derived.Laws.MakeOwn
set_option linter.unusedVariables false
set_option linter.unusedSimpArgs false
set_option maxHeartbeats 16000000
set_option maxRecDepth 20000
namespace Go.Proofs.YtihjfhpoiheomaaGreatDoor
namespace J
end J
section
open Go Go.RowKit J
attribute [local go_sem] st_float
theorem half_core16 (x y:Nat) (ox oy os oh oq:Option (Bool×Nat×Int)) (F1:Fm ox) (F2:Fm oy) (F3:Fm os) (F4:Fm oh) (F5:Fm oq) (w:World) (hT:Tab w)
 (HX:Hid (∀ u:World,Tab u→Calls Tryz.prog 74 #[.float .f64 x] u fun r w'=>(∃ v,r=.returned (.tuple #[.agg #[.bool (dN ox),v,.int .i64 (dE ox)],.int .i64 0])∧Nt u.heap.size w' v (dX ox))∧Below u.heap.size u w'))
 (HY:Hid (∀ u:World,Tab u→Calls Tryz.prog 74 #[.float .f64 y] u fun r w'=>(∃ v,r=.returned (.tuple #[.agg #[.bool (dN oy),v,.int .i64 (dE oy)],.int .i64 0])∧Nt u.heap.size w' v (dX oy))∧Below u.heap.size u w'))
 (HH:Hid (∀ u:World,Tab u→Calls Tryz.prog 74 #[.float .f64 4602678819172646912] u fun r w'=>(∃ v,r=.returned (.tuple #[.agg #[.bool (dN oh),v,.int .i64 (dE oh)],.int .i64 0])∧Nt u.heap.size w' v (dX oh))∧Below u.heap.size u w'))
 (HS:Hid (∀ (u:World) (a b:Option Addr) (c d:Nat),Tab u→Nt 0 u (.slice a (ws (dX ox)).length c) (dX ox)→Nt 0 u (.slice b (ws (dX oy)).length d) (dX oy)→Calls Tryz.prog 75 #[.agg #[.bool (dN ox),.slice a (ws (dX ox)).length c,.int .i64 (dE ox)],.agg #[.bool (dN oy),.slice b (ws (dX oy)).length d,.int .i64 (dE oy)]] u fun r w'=>(∃ v,r=.returned (.tuple #[.agg #[.bool (dN os),v,.int .i64 (dE os)],.int .i64 0])∧Nt u.heap.size w' v (dX os))∧Below u.heap.size u w'))
 (HM:Hid (∀ (u:World) (a b:Option Addr) (c d:Nat),Tab u→Nt 0 u (.slice a (ws (dX os)).length c) (dX os)→Nt 0 u (.slice b (ws (dX oh)).length d) (dX oh)→Calls Tryz.prog 76 #[.agg #[.bool (dN os),.slice a (ws (dX os)).length c,.int .i64 (dE os)],.agg #[.bool (dN oh),.slice b (ws (dX oh)).length d,.int .i64 (dE oh)]] u fun r w'=>(∃ v,r=.returned (.tuple #[.agg #[.bool (dN oq),v,.int .i64 (dE oq)],.int .i64 0])∧Nt u.heap.size w' v (dX oq))∧Below u.heap.size u w')) :
 Calls Tryz.prog 59 #[.float .f64 x,.float .f64 y] w fun r w'=>DVal 0 w' r oq∧Below w.heap.size w w':=by
 have FF:=(qsd (ai F1 (ai F2 (ai F3 (ai F4 (ai F5 hT))))));clear F1 F2 F3 F4 F5 hT;obtain ⟨W0,hW0⟩:∃ W,W=w.alloc (Obj.cells #[.bool false,.slice none 0 0,.int .i64 0] 77):=⟨_,rfl⟩
 have H:Aside (Lo W0 w.heap.size o00∧Below w.heap.size w W0):=by
  subst hW0;exact ⟨Lo.zero w,below_alloc _ _⟩
 have HW:=qsd hW0;clear hW0;go_enter Tryz.func59,Tryz.ntmps59
 go_upto_region 1 with fail
 rw [←HW.out];clear HW;have C:=hid (HX.out _ (FF.out.2.2.2.2.2.belows H.out.2))
 go_wp2_with fail
 refine C.out.mono ?_;rintro r v1 ⟨⟨s1,rfl,hN⟩,hb⟩;obtain ⟨a1,c1,rfl,hN0⟩:=Lo.shape FF.out.1 hN;obtain ⟨V1,hV⟩:∃ V,V=v1.alloc (Obj.cells #[.bool (dN ox),.slice a1 (ws (dX ox)).length c1,.int .i64 (dE ox)] 77):=⟨_,rfl⟩;obtain ⟨g1,hgd⟩:∃ g,g=v1.heap.size:=⟨_,rfl⟩;have hbl:Below v1.heap.size v1 V1:=by rw [hV];exact below_alloc _ _
 have K1:Aside (Dk V1 g1 (dN ox) (.slice a1 (ws (dX ox)).length c1) (dE ox)∧Nt 0 V1 (.slice a1 (ws (dX ox)).length c1) (dX ox)):=by
  subst hV hgd;exact ⟨Dk.new _ _ _ _,hN0.below (below_alloc _ _)⟩
 replace H:=qsd (ai ((H.out.1.below hb).below hbl) ((H.out.2.trans (hb.mono H.out.2.size)).trans (hbl.mono (Nat.le_trans H.out.2.size hb.size))));have HV:=(qsd (ai hV hgd));clear C hb hbl hN hN0 hV hgd
 go_upto_region 2 with fail
 rw [←HV.out.1,←HV.out.2];clear HV;have C:=hid (HY.out _ (FF.out.2.2.2.2.2.belows H.out.2))
 go_wp2_with fail
 refine C.out.mono ?_;rintro r v2 ⟨⟨s2,rfl,hN⟩,hb⟩;obtain ⟨a2,c2,rfl,hN0⟩:=Lo.shape FF.out.2.1 hN;obtain ⟨V2,hV⟩:∃ V,V=v2.alloc (Obj.cells #[.bool (dN oy),.slice a2 (ws (dX oy)).length c2,.int .i64 (dE oy)] 77):=⟨_,rfl⟩;obtain ⟨g2,hgd⟩:∃ g,g=v2.heap.size:=⟨_,rfl⟩;have hbl:Below v2.heap.size v2 V2:=by rw [hV];exact below_alloc _ _
 have K2:Aside (Dk V2 g2 (dN oy) (.slice a2 (ws (dX oy)).length c2) (dE oy)∧Nt 0 V2 (.slice a2 (ws (dX oy)).length c2) (dX oy)):=by
  subst hV hgd;exact ⟨Dk.new _ _ _ _,hN0.below (below_alloc _ _)⟩
 replace H:=qsd (ai ((H.out.1.below hb).below hbl) ((H.out.2.trans (hb.mono H.out.2.size)).trans (hbl.mono (Nat.le_trans H.out.2.size hb.size))));replace K1:=qsd (ai ((K1.out.1.below hb).below hbl) ((K1.out.2.below hb).below hbl));have HV:=(qsd (ai hV hgd));clear C hb hbl hN hN0 hV hgd
 go_upto_region 3 with fail
 rw [←HV.out.1,←HV.out.2];clear HV;obtain ⟨p10,p11,p12,f10,f11,f12⟩:=K1.out.1.facts;obtain ⟨p20,p21,p22,f20,f21,f22⟩:=K2.out.1.facts;have C:=hid (HS.out _ a1 a2 c1 c2 (FF.out.2.2.2.2.2.belows H.out.2) K1.out.2 K2.out.2);clear f10 f11 f12 f20 f21 f22
 go_wp2_with fail
 refine C.out.mono ?_;rintro r v3 ⟨⟨s3,rfl,hN⟩,hb⟩;obtain ⟨a3,c3,rfl,hN0⟩:=Lo.shape FF.out.2.2.1 hN;obtain ⟨V3,hV⟩:∃ V,V=v3.alloc (Obj.cells #[.bool (dN os),.slice a3 (ws (dX os)).length c3,.int .i64 (dE os)] 77):=⟨_,rfl⟩;obtain ⟨g3,hgd⟩:∃ g,g=v3.heap.size:=⟨_,rfl⟩;have hbl:Below v3.heap.size v3 V3:=by rw [hV];exact below_alloc _ _
 have K3:Aside (Dk V3 g3 (dN os) (.slice a3 (ws (dX os)).length c3) (dE os)∧Nt 0 V3 (.slice a3 (ws (dX os)).length c3) (dX os)):=by
  subst hV hgd;exact ⟨Dk.new _ _ _ _,hN0.below (below_alloc _ _)⟩
 replace H:=qsd (ai ((H.out.1.below hb).below hbl) ((H.out.2.trans (hb.mono H.out.2.size)).trans (hbl.mono (Nat.le_trans H.out.2.size hb.size))));have HV:=(qsd (ai hV hgd));clear C hb hbl hN hN0 hV hgd K1 p10 p11 p12 K2 p20 p21 p22
 go_upto_region 4 with fail
 rw [←HV.out.1,←HV.out.2];clear HV;have C:=hid (HH.out _ (FF.out.2.2.2.2.2.belows H.out.2))
 go_wp2_with fail
 refine C.out.mono ?_;rintro r v4 ⟨⟨s4,rfl,hN⟩,hb⟩;obtain ⟨a4,c4,rfl,hN0⟩:=Lo.shape FF.out.2.2.2.1 hN;obtain ⟨V4,hV⟩:∃ V,V=v4.alloc (Obj.cells #[.bool (dN oh),.slice a4 (ws (dX oh)).length c4,.int .i64 (dE oh)] 77):=⟨_,rfl⟩;obtain ⟨g4,hgd⟩:∃ g,g=v4.heap.size:=⟨_,rfl⟩;have hbl:Below v4.heap.size v4 V4:=by rw [hV];exact below_alloc _ _
 have K4:Aside (Dk V4 g4 (dN oh) (.slice a4 (ws (dX oh)).length c4) (dE oh)∧Nt 0 V4 (.slice a4 (ws (dX oh)).length c4) (dX oh)):=by
  subst hV hgd;exact ⟨Dk.new _ _ _ _,hN0.below (below_alloc _ _)⟩
 replace H:=qsd (ai ((H.out.1.below hb).below hbl) ((H.out.2.trans (hb.mono H.out.2.size)).trans (hbl.mono (Nat.le_trans H.out.2.size hb.size))));replace K3:=qsd (ai ((K3.out.1.below hb).below hbl) ((K3.out.2.below hb).below hbl));have HV:=(qsd (ai hV hgd));clear C hb hbl hN hN0 hV hgd
 go_upto_region 5 with fail
 rw [←HV.out.1,←HV.out.2];clear HV;obtain ⟨p30,p31,p32,f30,f31,f32⟩:=K3.out.1.facts;obtain ⟨p40,p41,p42,f40,f41,f42⟩:=K4.out.1.facts;have C:=hid (HM.out _ a3 a4 c3 c4 (FF.out.2.2.2.2.2.belows H.out.2) K3.out.2 K4.out.2);clear f30 f31 f32 f40 f41 f42
 go_wp2_with fail
 refine C.out.mono ?_;rintro r v5 ⟨⟨s5,rfl,hN⟩,hb⟩;obtain ⟨a5,c5,rfl,hN0⟩:=Lo.shape FF.out.2.2.2.2.1 hN;obtain ⟨V5,hV⟩:∃ V,V=v5.alloc (Obj.cells #[.bool (dN oq),.slice a5 (ws (dX oq)).length c5,.int .i64 (dE oq)] 77):=⟨_,rfl⟩;obtain ⟨g5,hgd⟩:∃ g,g=v5.heap.size:=⟨_,rfl⟩;have hbl:Below v5.heap.size v5 V5:=by rw [hV];exact below_alloc _ _
 have K5:Aside (Dk V5 g5 (dN oq) (.slice a5 (ws (dX oq)).length c5) (dE oq)∧Nt 0 V5 (.slice a5 (ws (dX oq)).length c5) (dX oq)):=by
  subst hV hgd;exact ⟨Dk.new _ _ _ _,hN0.below (below_alloc _ _)⟩
 replace H:=qsd (ai ((H.out.1.below hb).below hbl) ((H.out.2.trans (hb.mono H.out.2.size)).trans (hbl.mono (Nat.le_trans H.out.2.size hb.size))));have HV:=(qsd (ai hV hgd));clear C hb hbl hN hN0 hV hgd K3 p30 p31 p32 K4 p40 p41 p42
 go_upto_region 6 with fail
 rw [←HV.out.1,←HV.out.2];clear HV;obtain ⟨p0,p1,p2,f0,f1,f2⟩:=K5.out.1.facts;obtain ⟨a0,c0,D0,N0⟩:=H.out.1;obtain ⟨y0,y1,y2,z0,z1,z2⟩:=D0.facts;clear D0 N0;go_wp2;exact end14 Tryz.results59 rfl H.out.1 H.out.2 (Nat.le_refl _) K5.out.2
theorem g_scale15 {u k m:Nat}{V:Int}(hu:u+k≤100000) (hm:m+k≤90000) (hV:Bd m V):gV (u+k) (V*((2^k:Nat):Int))=gV u V:=by
 have F:=g_fm (u:=u+k) hu (m:=m+k) (by omega) (hV.mul (Bd.nat (Nat.le_refl (2^k))))
 have G:=g_fm (u:=u) (by omega) (m:=m) (by omega) hV
 obtain ⟨j1,e1⟩:=exK (u+k) (by omega)
 obtain ⟨j2,e2⟩:=exK u (by omega)
 refine valO_inj F G ?_;rw [val_g F (by omega) j1 e1,val_g G (by omega) j2 e2,Int.mul_assoc,←Int.natCast_mul,←Nat.pow_add,show k+j1=j2 by omega]
theorem fv_half15 (k:Nat) (hk:k=1073):fvW 4602678819172646912=((2^k:Nat):Int):=by subst hk;decide +kernel
theorem half15 (x y:Nat) (hx:x<18446744073709551616) (fx:finW x) (hy:y<18446744073709551616) (fy:finW y) (w:World) (hT:Tab w) :
 Calls Tryz.prog 59 #[.float .f64 x,.float .f64 y] w fun r w'=>DVal 0 w' r (gV 1075 (fvW x+fvW y))∧Below w.heap.size w w':=by
 obtain ⟨h,hh⟩:∃ z,z=1073:=⟨_,rfl⟩;have b1:=fv_bd hx fx;have b2:=fv_bd hy fy;have bs:=b1.add b2;have f5:finW 4602678819172646912:=by decide
 have b5:=fv_bd (x:=4602678819172646912) (by decide) f5
 have ea:addD (gV 1074 (fvW x)) (gV 1074 (fvW y))=gV 1074 (fvW x+fvW y):=g_add (u:=1074) (by omega) (by omega) b1 b2
 have em:mulD (gV 1074 (fvW x+fvW y)) (gV 1074 (fvW 4602678819172646912))=gV 1075 (fvW x+fvW y):=by
  rw [g_mul (by omega) (by omega) (by omega) (by omega) bs b5,fv_half15 h hh]
  have:=g_scale15 (u:=1075) (k:=h) (m:=2099) (by omega) (by omega) bs
  rw [show 1075+h=1074+1074 by omega] at this
  exact this
 have F1:=g_fm (u:=1074) (by omega) (by omega) b1
 have F2:=g_fm (u:=1074) (by omega) (by omega) b2
 have F3:=g_fm (u:=1074) (by omega) (by omega) bs
 have F4:=g_fm (u:=1074) (by omega) (by omega) b5
 have F5:=g_fm (u:=1075) (by omega) (by omega) bs
 exact half_core16 x y _ _ _ _ _ F1 F2 F3 F4 F5 w hT (fun u hT=>of12 x hx fx u hT) (fun u hT=>of12 y hy fy u hT) (fun u hT=>of12 _ (by decide) f5 u hT)
  (fun u a b c d hT N1 N2=>addP12' F1 F2 N1 N2 hT ea F3) (fun u a b c d hT N1 N2=>mulP12 F3 F4 N1 N2 hT em F5)
def midW (x y:Nat) (mode:Int):Nat×Int :=
 if x=y then (x,0) else if magW x=9218868437227405312∧magW y=9218868437227405312 then (0,30) else if magW x=9218868437227405312 then (x,0) else if magW y=9218868437227405312 then (y,0) else rndS (gV 1075 (fvW x+fvW y)) mode
theorem nnan {x:Nat}(h:nanW x=false):magW x≤9218868437227405312:=by unfold nanW at h;unfold magW;have:=of_decide_eq_false h;omega
theorem same15 {x y:Nat}(hx:x<18446744073709551616) (hy:y<18446744073709551616) (nx:nanW x=false) (ny:nanW y=false) (w:World) :
 Calls Tryz.prog 56 #[.float .f64 x,.float .f64 y] w fun r w'=>r=.returned (.bool (decide (x=y)))∧w'=w:=by
 obtain ⟨s,e,f,h1,h2,h3,h4,h5,h6⟩:=bw15 hx;obtain ⟨t,u,v,i1,i2,i3,i4,i5,i6⟩:=bw15 hy;have a:=nnan nx;have b:=nnan ny;have:=B.Same_any s t e f u v h1 h2 i1 i2 w;rw [B.cb_else _ _ _ (by omega),B.cb_else _ _ _ (by omega),←h3,←i3] at this
 exact this
def infN (x:Nat):Bool:=negW x&&decide (magW x=9218868437227405312)
def infP (x:Nat):Bool:=!negW x&&decide (magW x=9218868437227405312)
theorem parts_inf (m:Nat):(m/4503599627370496==2047&&m%4503599627370496==0)=decide (m=9218868437227405312):=by
 rw [Bool.eq_iff_iff];simp;omega
theorem infN15 {x:Nat}(hx:x<18446744073709551616) (w:World) :
 Calls Tryz.prog 57 #[.float .f64 x,.int .i64 (-1)] w fun r w'=>r=.returned (.bool (infN x))∧w'=w:=by
 obtain ⟨s,e,f,h1,h2,h3,h4,h5,h6⟩:=bw15 hx;have:=B.isInf_neg s e f h1 h2 w;rw [←h3,h4,h5,h6,parts_inf] at this;exact this
theorem infP15 {x:Nat}(hx:x<18446744073709551616) (w:World) :
 Calls Tryz.prog 57 #[.float .f64 x,.int .i64 1] w fun r w'=>r=.returned (.bool (infP x))∧w'=w:=by
 obtain ⟨s,e,f,h1,h2,h3,h4,h5,h6⟩:=bw15 hx;have:=B.isInf_pos s e f h1 h2 w;rw [←h3,h4,h5,h6,parts_inf] at this;exact this
theorem clx_inf {x:Nat}(nx:nanW x=false):(clx x==3)=decide (magW x=9218868437227405312):=by
 have:=nnan nx;unfold clx B.cls
 by_cases h:magW x=9218868437227405312
 · rw [h];rfl
 · rw [decide_eq_false h,if_neg (by omega)]
   split
   · split <;> rfl
   · rfl
theorem ends15 {x y:Nat}(hx:x<18446744073709551616) (hy:y<18446744073709551616) (nx:nanW x=false) (ny:nanW y=false) (ho:tk x≤tk y) (hne:x≠y) :
 (magW x=9218868437227405312→negW x=true)∧(magW y=9218868437227405312→negW y=false):=by
 have a:=nnan nx;have b:=nnan ny;have tx:tk x=if negW x then -1-(magW x:Int) else magW x:=by unfold tk;exact if_neg (by omega)
 have ty:tk y=if negW y then -1-(magW y:Int) else magW y:=by unfold tk;exact if_neg (by omega)
 rw [tx,ty] at ho;have ex:=wd_of x hx;have ey:=wd_of y hy
 constructor
 · intro h
   cases hn:negW x
   · exfalso
     rw [hn,h] at ho
     cases hm:negW y
     · rw [hm] at ho
       simp at ho;have:magW y=9218868437227405312:=by omega
       exact hne (by rw [ex,ey,hn,hm,h,this])
     · rw [hm] at ho
       simp at ho;omega
   · rfl
 · intro h
   cases hm:negW y
   · rfl
   · exfalso
     rw [hm,h] at ho
     cases hn:negW x
     · rw [hn] at ho
       simp at ho;omega
     · rw [hn] at ho
       simp at ho;have:magW x=9218868437227405312:=by omega
       exact hne (by rw [ex,ey,hn,hm,h,this])
theorem middle15 (x y:Nat) (hx:x<18446744073709551616) (hy:y<18446744073709551616) (nx:nanW x=false) (ny:nanW y=false) (ho:tk x≤tk y) (mode:Int) (w:World) (hT:Tab w) :
 Calls Tryz.prog 42 #[.float .f64 x,.float .f64 y,.int .i64 mode] w fun r w'=>r=.returned (.tuple #[.float .f64 (midW x y mode).1,.int .i64 (midW x y mode).2])∧Below w.heap.size w w':=by
 have CS:=hid (same15 hx hy nx ny w)
 by_cases h:x=y
 · have e:midW x y mode=(x,0):=if_pos h
   rw [e];rw [decide_eq_true h] at CS;clear e h;go_enter Tryz.func42,Tryz.ntmps42
   go_wp2_with fail
   refine CS.out.mono ?_;rintro r u ⟨rfl,hu⟩;rw [hu];clear hu u CS;go_wp2
   go_ret2
   exact ⟨rfl,Below.refl _ _⟩
 · rw [decide_eq_false h] at CS
   obtain ⟨e1,e2⟩:=ends15 hx hy nx ny ho h;have CI:=hid (infN15 hx w);have CJ:=hid (infP15 hy w);have CX:=hid (class15 hx w);have CY:=hid (fun u:World=>class15 hy u)
   have kx:=clx_inf nx;have ky:=clx_inf ny;obtain ⟨cx,hcx⟩:∃ c,c=clx x:=⟨_,rfl⟩;obtain ⟨cy,hcy⟩:∃ c,c=clx y:=⟨_,rfl⟩;rw [←hcx] at CX kx;rw [←hcy] at CY ky;clear hcx hcy
   by_cases ix:magW x=9218868437227405312
   · rw [decide_eq_true ix] at kx
     by_cases iy:magW y=9218868437227405312
     · have e:midW x y mode=(0,30):=by unfold midW;rw [if_neg h,if_pos ⟨ix,iy⟩]
       have j1:infN x=true:=by unfold infN;rw [e1 ix,ix];rfl
       have j2:infP y=true:=by unfold infP;rw [e2 iy,iy];rfl
       rw [j1] at CI;rw [j2] at CJ;rw [e];clear e j1 j2 h e1 e2 kx ky CX CY ix iy ho hT;go_enter Tryz.func42,Tryz.ntmps42
       go_wp2_with fail
       refine CS.out.mono ?_;rintro r u ⟨rfl,hu⟩;rw [hu];clear hu u CS
       go_wp2_with fail
       refine CI.out.mono ?_;rintro r u ⟨rfl,hu⟩;rw [hu];clear hu u CI
       go_wp2_with fail
       refine CJ.out.mono ?_;rintro r u ⟨rfl,hu⟩;rw [hu];clear hu u CJ;go_wp2
       go_ret2
       exact ⟨rfl,Below.refl _ _⟩
     · have e:midW x y mode=(x,0):=by unfold midW;rw [if_neg h,if_neg (fun q=>iy q.2),if_pos ix]
       have j1:infN x=true:=by unfold infN;rw [e1 ix,ix];rfl
       have j2:infP y=false:=by unfold infP;rw [decide_eq_false iy,Bool.and_false]
       rw [j1] at CI;rw [j2] at CJ;rw [e];clear e j1 j2 h e1 e2 ky CY ix iy ho hT;go_enter Tryz.func42,Tryz.ntmps42
       go_wp2_with fail
       refine CS.out.mono ?_;rintro r u ⟨rfl,hu⟩;rw [hu];clear hu u CS
       go_wp2_with fail
       refine CI.out.mono ?_;rintro r u ⟨rfl,hu⟩;rw [hu];clear hu u CI
       go_wp2_with fail
       refine CJ.out.mono ?_;rintro r u ⟨rfl,hu⟩;rw [hu];clear hu u CJ
       go_wp2_with fail
       refine CX.out.mono ?_;rintro r u ⟨rfl,hb⟩;have HB:=qsd hb;clear hb CX;go_wp2
       go_ret2
       exact ⟨rfl,HB.out⟩
   · rw [decide_eq_false ix] at kx
     have j1:infN x=false:=by unfold infN;rw [decide_eq_false ix,Bool.and_false]
     rw [j1] at CI
     by_cases iy:magW y=9218868437227405312
     · have e:midW x y mode=(y,0):=by unfold midW;rw [if_neg h,if_neg (fun q=>ix q.1),if_neg ix,if_pos iy]
       rw [decide_eq_true iy] at ky;rw [e];clear e j1 h e1 e2 CJ ix iy ho hT;go_enter Tryz.func42,Tryz.ntmps42
       go_wp2_with fail
       refine CS.out.mono ?_;rintro r u ⟨rfl,hu⟩;rw [hu];clear hu u CS
       go_wp2_with fail
       refine CI.out.mono ?_;rintro r u ⟨rfl,hu⟩;rw [hu];clear hu u CI
       go_wp2_with fail
       refine CX.out.mono ?_;rintro r u1 ⟨rfl,hb⟩;have HB:=qsd hb;clear hb CX
       go_wp2_with fail
       refine (CY.out _).mono ?_;rintro r u2 ⟨rfl,hb⟩;replace HB:=qsd (HB.out.trans (hb.mono HB.out.size));clear hb CY;go_wp2
       go_ret2
       exact ⟨rfl,HB.out⟩
     · have e:midW x y mode=rndS (gV 1075 (fvW x+fvW y)) mode:=by unfold midW;rw [if_neg h,if_neg (fun q=>ix q.1),if_neg ix,if_neg iy]
       rw [decide_eq_false iy] at ky;have fx:finW x:=by have:=nnan nx;unfold finW;omega
       have fy:finW y:=by have:=nnan ny;unfold finW;omega
       have F5:=g_fm (u:=1075) (by omega) (by omega) ((fv_bd hx fx).add (fv_bd hy fy))
       have CH:=hid (fun (u:World) (hu:Below w.heap.size w u)=>half15 x y hx fx hy fy u (hT.belows hu))
       have CR:=hid (fun (u:World) (a:Option Addr) (c:Nat) (hu:Below w.heap.size w u) (N:Nt 0 u (.slice a (ws (dX (gV 1075 (fvW x+fvW y)))).length c) (dX (gV 1075 (fvW x+fvW y))))=>roundP12 F5 N (hT.belows hu) mode _ e.symm)
       obtain ⟨zz,hzz⟩:∃ q,q=midW x y mode:=⟨_,rfl⟩;rw [←hzz] at CR ⊢;obtain ⟨oq,hoq⟩:∃ o,o=gV 1075 (fvW x+fvW y):=⟨_,rfl⟩;rw [←hoq] at CH F5;simp only [←hoq] at CR;have HF:=qsd F5;clear hoq hzz e j1 h e1 e2 CJ ix iy ho hT fx fy F5;go_enter Tryz.func42,Tryz.ntmps42
       go_wp2_with fail
       refine CS.out.mono ?_;rintro r u ⟨rfl,hu⟩;rw [hu];clear hu u CS
       go_wp2_with fail
       refine CI.out.mono ?_;rintro r u ⟨rfl,hu⟩;rw [hu];clear hu u CI
       go_wp2_with fail
       refine CX.out.mono ?_;rintro r u1 ⟨rfl,hb⟩;have HB:=qsd hb;clear hb CX
       go_wp2_with fail
       refine (CY.out _).mono ?_;rintro r u2 ⟨rfl,hb⟩;replace HB:=qsd (HB.out.trans (hb.mono HB.out.size));clear hb CY;have C:=hid (CH.out _ HB.out)
       go_wp2_with fail
       refine C.out.mono ?_;rintro r u3 ⟨⟨v,rfl,hN⟩,hb⟩;obtain ⟨a0,c0,rfl,hN0⟩:=Lo.shape HF.out hN;replace HB:=qsd (HB.out.trans (hb.mono HB.out.size));have C2:=hid (CR.out _ a0 c0 HB.out hN0);clear C hb hN hN0 CH CR
       go_wp2_with fail
       refine C2.out.mono ?_;rintro r u4 ⟨rfl,hb⟩;replace HB:=qsd (HB.out.trans (hb.mono HB.out.size));clear hb C2;go_wp2
       go_ret2
       exact ⟨rfl,HB.out⟩
end
section
open Go Go.RowKit J
attribute [local go_sem] st_float
theorem isnan15 {x:Nat}(hx:x<18446744073709551616) (w:World):Calls Tryz.prog 41 #[.float .f64 x] w fun r w'=>r=.returned (.bool (nanW x))∧Below w.heap.size w w':=by
 refine (isNaN_w x hx w).mono fun r w' h=>?_
 obtain ⟨h1,h2⟩:=h;rw [h2];exact ⟨h1,Below.refl _ _⟩
theorem any_take15n {xs:List Nat}{k:Nat}(h:k<xs.length):(xs.take (k+1)).any nanW=((xs.take k).any nanW || nanW (xs.getD k 0)):=by
 rw [List.take_add_one,List.getElem?_eq_getElem h,List.getD_eq_getElem?_getD,List.getElem?_eq_getElem h,List.any_append]
 simp only [Option.toList,List.any_cons,List.any_nil,Bool.or_false,Option.getD_some]
theorem index15n (xs:List Nat) (ao:Option Addr) (n cap:Nat) (w:World) (hF:Fs w.heap.size w ao xs) (hn:n=xs.length) (hb:n≤17592186044416) (hW:W64 xs) :
 Calls Tryz.prog 55 #[.slice ao n cap,.func (.func 41) #[] #[]] w fun r w'=>∃ z:Int,r=.returned (.int .i64 z)∧(decide (0≤z)=xs.any nanW)∧Below w.heap.size w w':=by
 have HN:=(qsd (ai hn (ai hW hF)));clear hF hn hW;go_enter Tryz.func55,Tryz.ntmps55;go_wp2
 go_loopg [8] n (fun gk iv wr=>∃ k:Nat,gk+k=n∧iv=.int .i64 (k:Nat)∧Aside ((xs.take k).any nanW=false∧Below w.heap.size w wr))
 case atStart=>exact ⟨0,rfl,by first | rfl | simp,by simp,Below.refl _ _⟩
 case round =>
  obtain ⟨k,hgk,rfl,HA⟩:=hrel
  by_cases hk:k<n
  · have hdk:decide ((k:Int)<(n:Int))=true:=by simp;omega
    have bk:(k:Int)<(n:Int):=by omega
    obtain ⟨k1,hk1⟩:∃ x,x=k+1:=⟨_,rfl⟩;have wk:IntKind.i64.wrap ((k:Int)+1)=(k1:Int):=wrapZ (by omega) (by omega)
    obtain ⟨hn,hW,hF⟩:=HN.out;obtain ⟨b,off,rfl,c2⟩:=hF.at HA.out.2 k (by omega)
    have hx:xs.getD k 0<18446744073709551616:=hW _ (getD_mem15 (by omega))
    have ht:=any_take15n (xs:=xs) (k:=k) (by omega)
    obtain ⟨x,hxx⟩:∃ x,x=xs.getD k 0:=⟨_,rfl⟩;rw [←hxx] at c2 hx ht;have D:=hid (isnan15 hx wr);rw [HA.out.1,Bool.false_or] at ht;have HK:=(qsd (ai hk1 ht));obtain ⟨t,htt⟩:∃ t,t=nanW x:=⟨_,rfl⟩;rw [←htt] at D ht;have HT:=qsd htt
    have hany:Aside (t=true→xs.any nanW=true):=fun h=>by
     rw [List.any_eq_true];exact ⟨x,by rw [hxx];exact getD_mem15 (by omega),by rw [←HT.out];exact h⟩
    have HT2:=qsd ht;clear hn hW hF hx ht hxx hk1 htt
    go_wp2_with fail
    refine D.out.mono ?_;rintro r v ⟨rfl,hv⟩;have HB:=qsd (HA.out.2.trans (hv.mono HA.out.2.size));clear D hv
    cases t
    · go_wp2
      go_roundg (n-k1)
      case measure=>have:=HK.out;omega
      case rel=>exact ⟨k1,by have:=HK.out;omega,by first | rfl | simp,by rw [HK.out.1];exact HT2.out,HB.out⟩
    · go_wp2
      refine bodyPost_ret (v:=.int .i64 (k:Nat)) (by simp [results,Tryz.results55,go_sem]) rfl ?_
      exact ⟨k,rfl,by rw [hany.out (by first | rfl | trivial)];simp,HB.out⟩
  · have hdk:decide ((k:Int)<(n:Int))=false:=by simp;omega
    have E:Aside (xs.any nanW=false):=by
     have h1:=HA.out.1;rw [List.take_of_length_le (by have:=HN.out.1;omega)] at h1
     exact h1
    go_wp2;refine bodyPost_ret (v:=.int .i64 (-1)) (by simp [results,Tryz.results55,go_sem]) rfl ?_
    exact ⟨-1,rfl,by rw [E.out];rfl,HA.out.2⟩
theorem contains15n (xs:List Nat) (ao:Option Addr) (n cap:Nat) (w:World) (hF:Fs w.heap.size w ao xs) (hn:n=xs.length) (hb:n≤17592186044416) (hW:W64 xs) :
 Calls Tryz.prog 40 #[.slice ao n cap,.func (.func 41) #[] #[]] w fun r w'=>r=.returned (.bool (xs.any nanW))∧Below w.heap.size w w':=by
 have C:=hid (index15n xs ao n cap w hF hn hb hW);clear hF hn hW;go_enter Tryz.func40,Tryz.ntmps40
 go_wp2_with fail
 refine C.out.mono ?_;rintro r v ⟨z,rfl,hz,hv⟩;have HZ:=(qsd (ai hz hv));clear C hz hv;go_wp2;go_ret;exact ⟨by rw [←HZ.out.1];first | rfl | simp,HZ.out.2⟩
theorem Median_mode (a:Option Addr) (n c:Nat) (mode:Int) (w:World) (h:mode<0∨4<mode) :
 Calls Tryz.prog 23 #[.slice a n c,.int .i64 mode] w fun r w'=>r=.returned (.tuple #[.float .f64 0,.int .i64 1])∧Below w.heap.size w w':=by
 by_cases h1:mode<0
 · have d1:decide (mode<0)=true:=decide_eq_true h1
   clear h;go_enter Tryz.func23,Tryz.ntmps23;go_wp2
   go_ret2
   exact ⟨rfl,Below.refl _ _⟩
 · have d1:decide (mode<0)=false:=decide_eq_false h1
   have d2:decide (4<mode)=true:=decide_eq_true (by omega)
   clear h;go_enter Tryz.func23,Tryz.ntmps23;go_wp2
   go_ret2
   exact ⟨rfl,Below.refl _ _⟩
theorem Median_long (a:Option Addr) (n c:Nat) (mode:Int) (w:World) (hm0:0≤mode) (hm4:mode≤4) (hn:65536<n) :
 Calls Tryz.prog 23 #[.slice a n c,.int .i64 mode] w fun r w'=>r=.returned (.tuple #[.float .f64 0,.int .i64 2])∧Below w.heap.size w w':=by
 have d1:decide (mode<0)=false:=decide_eq_false (by omega)
 have d2:decide (4<mode)=false:=decide_eq_false (by omega)
 have d3:decide ((65536:Int)<(n:Int))=true:=by simp;omega
 clear hm0 hm4 hn;go_enter Tryz.func23,Tryz.ntmps23;go_wp2
 go_ret2
 exact ⟨rfl,Below.refl _ _⟩
theorem Median_none (a:Option Addr) (c:Nat) (mode:Int) (w:World) (hm0:0≤mode) (hm4:mode≤4) :
 Calls Tryz.prog 23 #[.slice a 0 c,.int .i64 mode] w fun r w'=>r=.returned (.tuple #[.float .f64 0,.int .i64 3])∧Below w.heap.size w w':=by
 have d1:decide (mode<0)=false:=decide_eq_false (by omega)
 have d2:decide (4<mode)=false:=decide_eq_false (by omega)
 have C:=hid (contains15n [] a 0 c w (Fs.nil _ _ _) rfl (by omega) (fun x hx=>by cases hx))
 rw [List.any_nil] at C;clear hm0 hm4;go_enter Tryz.func23,Tryz.ntmps23
 go_wp2_with fail
 refine C.out.mono ?_;rintro r u ⟨rfl,hb⟩;go_wp2
 go_ret2
 exact ⟨rfl,hb⟩
theorem nrm_nrm (x:Nat):nrm (nrm x)=nrm x:=by
 unfold nrm
 by_cases h:nanW x=true
 · rw [if_pos h];decide
 · rw [if_neg h,if_neg h]
theorem tk_nrm_eq {x:Nat}(hx:x<18446744073709551616):tk (nrm x)=tk x:=(tk_nrm (nrm_lt15 hx) hx).2 (nrm_nrm x)
theorem sort_ky {xs:List Nat}(hW:W64 xs) {k:Nat}(h:k<xs.length):tk ((sortL xs).getD k 0)=kyR xs k∧(sortL xs).getD k 0<18446744073709551616:=by
 have hx:=hW _ (getD_mem15 (rowL_lt h));rw [sortL_get h];exact ⟨tk_nrm_eq hx,nrm_lt15 hx⟩
theorem sort_nn {xs:List Nat}(hn:xs.any nanW=false) {k:Nat}(h:k<xs.length):nanW ((sortL xs).getD k 0)=false∧(sortL xs).getD k 0 ∈ xs:=by
 have hm:=getD_mem15 (rowL_lt h)
 have hq:nanW (xs.getD ((rowL xs).getD k 0) 0)=false:=by
  have:=List.any_eq_false.1 hn _ hm;simpa using this
 rw [sortL_get h];unfold nrm;rw [if_neg (by rw [hq];decide)]
 exact ⟨hq,hm⟩
def medR (xs:List Nat) (mode:Int):Nat×Int :=
 if mode<0∨4<mode then (0,1) else if 65536<xs.length then (0,2) else if xs.any nanW then (0,30) else if xs.length=0 then (0,3) else midW ((sortL xs).getD ((xs.length-1)/2) 0) ((sortL xs).getD (xs.length/2) 0) mode
theorem Median_odd (xs:List Nat) (a:Option Addr) (n c:Nat) (mode:Int) (w:World) (hm0:0≤mode) (hm4:mode≤4) (hF:Fs w.heap.size w a xs) (hn:n=xs.length) (hb:n≤65536) (hW:W64 xs) (ha:xs.any nanW=true) :
 Calls Tryz.prog 23 #[.slice a n c,.int .i64 mode] w fun r w'=>r=.returned (.tuple #[.float .f64 0,.int .i64 30])∧Below w.heap.size w w':=by
 have d1:decide (mode<0)=false:=decide_eq_false (by omega)
 have d2:decide (4<mode)=false:=decide_eq_false (by omega)
 have d3:decide ((65536:Int)<(n:Int))=false:=by simp;omega
 have C:=hid (contains15n xs a n c w hF hn (by omega) hW)
 rw [ha] at C;clear hm0 hm4 hF hn hb hW ha;go_enter Tryz.func23,Tryz.ntmps23
 go_wp2_with fail
 refine C.out.mono ?_;rintro r u ⟨rfl,hb⟩;go_wp2
 go_ret2
 exact ⟨rfl,hb⟩
theorem Median_mid (xs:List Nat) (a:Option Addr) (n c:Nat) (mode:Int) (w:World) (hT:Tab w) (hF:Fs w.heap.size w a xs) (hn:n=xs.length) (hW:W64 xs) (ha:xs.any nanW=false) (h1:1≤n) (h2:n≤65536) (hm0:0≤mode) (hm4:mode≤4) (z:Nat) (ez:Int) (hz:midW ((sortL xs).getD ((n-1)/2) 0) ((sortL xs).getD (n/2) 0) mode=(z,ez)) :
 Calls Tryz.prog 23 #[.slice a n c,.int .i64 mode] w fun r w'=>r=.returned (.tuple #[.float .f64 z,.int .i64 ez])∧Below w.heap.size w w':=by
 have d1:decide (mode<0)=false:=decide_eq_false (by omega)
 have d2:decide (4<mode)=false:=decide_eq_false (by omega)
 have d3:decide ((65536:Int)<(n:Int))=false:=by simp;omega
 have d4:((n:Int)==0)=false:=by simp;omega
 have C1:=hid (contains15n xs a n c w hF hn (by omega) hW)
 rw [ha] at C1;have C2:=hid (fun (u:World) (hu:Below w.heap.size w u)=>Sort15 xs a n c u ((hF.below hu).mono hu.size) hn (by omega) hW)
 obtain ⟨n1,e1⟩:∃ k,k=n-1:=⟨_,rfl⟩;obtain ⟨i,ei⟩:∃ k,k=n1/2:=⟨_,rfl⟩;obtain ⟨j,ej⟩:∃ k,k=n/2:=⟨_,rfl⟩;rw [←e1,←ei,←ej] at hz;have hi:i<xs.length:=by omega
 have hj:j<xs.length:=by omega
 obtain ⟨k1,l1⟩:=sort_ky hW hi;obtain ⟨k2,l2⟩:=sort_ky hW hj;have m1:=(sort_nn ha hi).1;have m2:=(sort_nn ha hj).1;have ho:tk ((sortL xs).getD i 0)≤tk ((sortL xs).getD j 0):=by rw [k1,k2];exact kyR_mono (by omega) hj
 obtain ⟨x,hx⟩:∃ x,x=(sortL xs).getD i 0:=⟨_,rfl⟩;obtain ⟨y,hy⟩:∃ y,y=(sortL xs).getD j 0:=⟨_,rfl⟩;rw [←hx] at m1 l1 ho hz;rw [←hy] at m2 l2 ho hz;have C3:=hid (fun (u:World) (hu:Below w.heap.size w u)=>middle15 x y l1 l2 m1 m2 ho mode u (hT.belows hu))
 rw [hz] at C3;have w1:IntKind.i64.wrap ((n:Int)-1)=(n1:Int):=wrapZ (by omega) (by omega)
 have w2:Int.tdiv (n1:Int) 2=(i:Int):=by rw [ei];rfl
 have w3:Int.tdiv (n:Int) 2=(j:Int):=by rw [ej];rfl
 have w4:IntKind.i64.wrap (i:Int)=(i:Int):=wrapZ rfl (by omega)
 have w5:IntKind.i64.wrap (j:Int)=(j:Int):=wrapZ rfl (by omega)
 have w6:((n:Int)-1)=(n1:Int):=by omega
 have w7:IntKind.i64.wrap (n1:Int)=(n1:Int):=wrapZ rfl (by omega)
 have hin:(i:Int)<(n:Int):=by omega
 have hjn:(j:Int)<(n:Int):=by omega
 have hi0:(0:Int)≤(i:Int):=by omega
 have hj0:(0:Int)≤(j:Int):=by omega
 have HX:=(qsd (ai hx (ai hy (ai hi (ai hj hn)))));clear hT hF hW ha h1 h2 hm0 hm4 e1 ei ej m1 m2 hx hy hi hj hn k1 k2 l1 l2 ho hz;go_enter Tryz.func23,Tryz.ntmps23
 go_wp2_with fail
 refine C1.out.mono ?_;rintro r u ⟨rfl,hb⟩;have HB:=qsd hb;have C:=hid (C2.out _ hb);clear hb C1 C2
 go_wp2_with fail
 refine C.out.mono ?_;rintro r u2 ⟨rfl,hO,hb⟩;replace HB:=qsd (HB.out.trans (hb.mono HB.out.size));obtain ⟨b,hb0⟩:∃ b,b=u.heap.size:=⟨_,rfl⟩;rw [←hb0] at hO ⊢
 have c1:u2.cell? ⟨b,i,none⟩=some (.float .f64 x):=by
  have:=hO.cell i (by rw [sortL_len];exact HX.out.2.2.1)
  rw [this,HX.out.1]
 have c2:u2.cell? ⟨b,j,none⟩=some (.float .f64 y):=by
  have:=hO.cell j (by rw [sortL_len];exact HX.out.2.2.2.1)
  rw [this,HX.out.2.1]
 have HD:Aside (Below w.heap.size w u2.drew):=⟨HB.out.os,HB.out.tape,HB.out.output,HB.out.size,HB.out.block⟩;have kS:Aside (u2.drew.cell? ⟨b,i,none⟩=some (.float .f64 x)∧u2.drew.cell? ⟨b,j,none⟩=some (.float .f64 y)):=⟨c1,c2⟩;have HLt:=qsd hO.lt;clear hO hb hb0 C
 go_upto_region 10 with fail
 go_region_held3 (fun w'=>w'.cell? ⟨b,i,none⟩=some (.float .f64 x)∧w'.cell? ⟨b,j,none⟩=some (.float .f64 y)) (with_reducible exact kS.out) (first
  | (go_at_call 42
     with_reducible refine (C3.out _ HD.out).mono ?_
     rintro r v ⟨rfl,hb⟩;have HZ:=qsd (HD.out.trans (hb.mono HD.out.size))
     have kS:Aside (v.cell? ⟨b,i,none⟩=some (.float .f64 x)∧v.cell? ⟨b,j,none⟩=some (.float .f64 y)):=by
      have e:=hb.block b HLt.out;exact ⟨(World.cell?_of_block (a:=⟨b,i,none⟩) e).trans kS.out.1,(World.cell?_of_block (a:=⟨b,j,none⟩) e).trans kS.out.2⟩
     clear hb))
 all_goals
  go_wp2_with fail
  go_ret2
  exact ⟨rfl,HZ.out⟩
theorem Median15 (xs:List Nat) (a:Option Addr) (n c:Nat) (mode:Int) (w:World) (hT:Tab w) (hF:Fs w.heap.size w a xs) (hn:n=xs.length) (hW:W64 xs) :
 Calls Tryz.prog 23 #[.slice a n c,.int .i64 mode] w fun r w'=>r=.returned (.tuple #[.float .f64 (medR xs mode).1,.int .i64 (medR xs mode).2])∧Below w.heap.size w w':=by
 unfold medR
 by_cases h1:mode<0∨4<mode
 · rw [if_pos h1];exact Median_mode a n c mode w h1
 · rw [if_neg h1]
   by_cases h2:65536<xs.length
   · rw [if_pos h2];exact Median_long a n c mode w (by omega) (by omega) (by omega)
   · rw [if_neg h2]
     by_cases h3:xs.any nanW=true
     · rw [if_pos h3];exact Median_odd xs a n c mode w (by omega) (by omega) hF hn (by omega) hW h3
     · rw [if_neg h3]
       have h3':xs.any nanW=false:=by simpa using h3
       by_cases h4:xs.length=0
       · rw [if_pos h4]
         obtain rfl:n=0:=by omega
         exact Median_none a c mode w (by omega) (by omega)
       · rw [if_neg h4,←hn]
         exact Median_mid xs a n c mode w hT hF hn hW h3' (by omega) (by omega) (by omega) (by omega) _ _ rfl
end
section
open Go Go.RowKit J
def five15:List Nat:=[4619567317775286272,4617315517961601024,4619567317775286272,4619567317775286272,4621256167635550208]
theorem row_eq15 {xs M:List Nat}(hP:M.Perm (List.range xs.length)) (hU:M.Pairwise (fun a b=>leI xs a b=true)):M=rowL xs :=
 List.Perm.eq_of_pairwise (le:=fun a b=>leI xs a b=true) (fun a b ha hb h1 h2=>leI_anti xs a b h1 h2) hU (rowI_sorted xs _) (hP.trans (rowL_perm xs).symm)
theorem row5:rowL five15=[1,0,2,3,4]:=(row_eq15 (by decide) (by decide +kernel)).symm
theorem sort5:sortL five15=[4617315517961601024,4619567317775286272,4619567317775286272,4619567317775286272,4621256167635550208]:=by
 unfold sortL;rw [row5]
 decide +kernel
theorem place5:eachL five15 (fun k=>k)=[1,0,2,3,4]:=by
 unfold eachL plI;rw [row5]
 decide +kernel
theorem eachL_get {xs:List Nat}(f:Nat→Nat) {i:Nat}(h:i<xs.length):(eachL xs f).getD i 0=f (plI xs i):=by
 unfold eachL;rw [List.getD_eq_getElem?_getD,List.getElem?_map,List.getElem?_range h]
 rfl
theorem rank5:(rkL five15 2).getD 0 0=4613937818241073152∧(rkL five15 2).length=5:=by
 refine ⟨?_,by unfold rkL;rw [eachL_len];rfl⟩
 have e:(rkL five15 2).getD 0 0=rkW 2 (rnR five15 (plI five15 0)).1 (rnR five15 (plI five15 0)).2.1 (rnR five15 (plI five15 0)).2.2 (plI five15 0):=by
  unfold rkL;exact eachL_get _ (by decide)
 have p:plI five15 0=1:=by unfold plI;rw [row5];rfl
 have q:rnR five15 1=(1,3,1):=by
  unfold rnR enR;have k:∀ i,kyR five15 i=tk (five15.getD ([1,0,2,3,4].getD i 0) 0):=fun i=>by unfold kyR;rw [row5]
  have s0:stR five15 1=(1,1):=by
   show (if kyR five15 1=kyR five15 0 then stR five15 0 else (1,(stR five15 0).2+1))=_
   rw [k,k,if_neg (by decide +kernel)]
   rfl
  have hB:Bh five15 1 4:=by
   refine ⟨by decide,by decide,fun j h1 h2=>?_,fun _=>?_⟩
   · obtain rfl | rfl | rfl:j=1∨j=2∨j=3:=by omega
     · rfl
     all_goals (rw [k,k];decide +kernel)
   · rw [k,k];decide +kernel
  have:=hB.en (p:=1) (by decide) (by decide)
  unfold enR at this;rw [s0,this];rfl
 rw [e,p,q]
 show hvW ((6:Nat):Int)=_
 have h:=hv_even 3 (by decide) (by decide)
 rw [show ((6:Nat):Int)=2*3 by rfl,h]
 decide +kernel
theorem med2:medR [4607182418800017408,4611686018427387904] 0=(4609434218613702656,0):=by
 have e:rowL [4607182418800017408,4611686018427387904]=[0,1]:=(row_eq15 (by decide) (by decide +kernel)).symm
 have s:sortL [4607182418800017408,4611686018427387904]=[4607182418800017408,4611686018427387904]:=by
  unfold sortL;rw [e]
  decide +kernel
 unfold medR;rw [if_neg (by decide),if_neg (by decide),if_neg (by decide +kernel),if_neg (by decide),s]
 show midW 4607182418800017408 4611686018427387904 0=_
 unfold midW;rw [if_neg (by decide),if_neg (by decide +kernel),if_neg (by decide +kernel),if_neg (by decide +kernel)]
 decide +kernel
theorem med0:medR [] 0=(0,3):=by
 unfold medR;rw [if_neg (by decide),if_neg (by decide),if_neg (by decide),if_pos (show ([]:List Nat).length=0 from rfl)]
end
section
open Go Go.RowKit J
attribute [local go_sem] st_float
theorem lit15 (w:World) (xs:List Nat) (g:Nat) (hg:g=w.heap.size):Fs (w.alloc (Obj.cells (xs.map fun x=>Value.float .f64 x).toArray 40)).heap.size (w.alloc (Obj.cells (xs.map fun x=>Value.float .f64 x).toArray 40)) (some ⟨g,0,none⟩) xs:=by
 intro _;refine ⟨g,0,by simp;omega,rfl,fun i hi=>?_⟩
 rw [hg,World.cell?_alloc_new,Nat.zero_add,List.getElem?_toArray,List.getElem?_map,List.getD_eq_getElem?_getD,List.getElem?_eq_getElem hi]
 rfl
theorem awake15 (w:World) (hT:Tab w):Calls Tryz.prog 7 #[] w fun r w'=>r=.returned (.bool true)∧Below w.heap.size w w':=by
 have o5:(FloatKind.f64.format.order 4617315517961601024 4617315517961601024==some .eq)=true:=by decide +kernel
 have o9:(FloatKind.f64.format.order 4621256167635550208 4621256167635550208==some .eq)=true:=by decide +kernel
 have o3:(FloatKind.f64.format.order 4613937818241073152 4613937818241073152==some .eq)=true:=by decide +kernel
 have o15:(FloatKind.f64.format.order 4609434218613702656 4609434218613702656==some .eq)=true:=by decide +kernel
 obtain ⟨W1,hW1⟩:∃ W,W=w.alloc (Obj.cells #[.float .f64 4619567317775286272,.float .f64 4617315517961601024,.float .f64 4619567317775286272,.float .f64 4619567317775286272,.float .f64 4621256167635550208] 40):=⟨_,rfl⟩;obtain ⟨g,hg⟩:∃ g,g=w.heap.size:=⟨_,rfl⟩
 have B1:Aside (Below w.heap.size w W1∧Fs W1.heap.size W1 (some ⟨g,0,none⟩) five15):=by
  rw [hW1];exact ⟨below_alloc _ _,lit15 w five15 _ hg⟩
 have hW:W64 five15:=by unfold W64;decide
 have HX:Aside (∀ u,Below W1.heap.size W1 u→Fs u.heap.size u (some ⟨g,0,none⟩) five15):=fun u hu=>(B1.out.2.below hu).mono hu.size
 have HT:=(qsd (ai hT hW));have HW1:=(qsd (ai hW1 hg));have C1:=hid (Sort15 five15 (some ⟨g,0,none⟩) 5 5 W1 B1.out.2 rfl (by decide) hW)
 have C2:=hid (fun (u:World) (hu:Below W1.heap.size W1 u)=>Places15 five15 (some ⟨g,0,none⟩) 5 5 u (HX.out u hu) rfl (by decide) hW)
 have C3:=hid (fun (u:World) (hu:Below W1.heap.size W1 u)=>Ranks15 five15 (some ⟨g,0,none⟩) 5 5 2 u (HX.out u hu) rfl (by decide) hW (by decide) (by decide))
 have C4:=hid (fun (u:World) (hu:Below W1.heap.size W1 u)=>Pick15 five15 (some ⟨g,0,none⟩) 5 5 0 u (HX.out u hu) rfl (by decide) hW (by decide))
 rw [show (sortL five15).getD 0 0=4617315517961601024 by rw [sort5];rfl] at C4
 have C6:=hid (fun (u:World) (hu:Below w.heap.size w u)=>Median15 [] none 0 0 0 u (hT.belows hu) (Fs.nil _ _ _) rfl (fun x hx=>by cases hx))
 rw [med0] at C6;have C5:=hid (fun (u:World) (hT':Tab u) (a:Option Addr) (hF:Fs u.heap.size u a [4607182418800017408,4611686018427387904])=>Median15 [4607182418800017408,4611686018427387904] a 2 2 0 u hT' hF rfl (by unfold W64;decide))
 rw [med2] at C5;simp only at C4 C5 C6;clear hW1 hT hg hW HX;go_enter Tryz.func7,Tryz.ntmps7
 go_wp2_with fail
 rw [←HW1.out.1,←HW1.out.2];refine C1.out.mono ?_;rintro r u1 ⟨rfl,e1,hb1⟩;obtain ⟨g1,hg1⟩:∃ x,x=W1.heap.size:=⟨_,rfl⟩;rw [←hg1] at e1 ⊢;have B2:Aside (Below W1.heap.size W1 u1∧OwnF u1 g1 (sortL five15)):=⟨hb1,e1⟩;clear hb1 C1 e1 hg1;have C:=hid (C2.out _ B2.out.1)
 go_wp2_with fail
 refine C.out.mono ?_;rintro r u2 ⟨g2,rfl,e2,hb2,_⟩;have B3:Aside (Below W1.heap.size W1 u2∧OwnF u2 g1 (sortL five15)∧OwnI u2 g2 (eachL five15 fun k=>k)):=⟨B2.out.1.trans (hb2.mono B2.out.1.size),B2.out.2.below hb2 B2.out.2.lt,e2⟩
 clear hb2 C C2 B2 e2;have C:=hid (C3.out _ B3.out.1)
 go_wp2_with fail
 refine C.out.mono ?_;rintro r u3 ⟨g3,rfl,e3,hb3,_⟩;have B4:Aside (Below W1.heap.size W1 u3∧OwnF u3 g1 (sortL five15)∧OwnI u3 g2 (eachL five15 fun k=>k)∧OwnF u3 g3 (rkL five15 2)):=⟨B3.out.1.trans (hb3.mono B3.out.1.size),B3.out.2.1.below hb3 B3.out.2.1.lt,B3.out.2.2.below hb3 B3.out.2.2.lt,e3⟩
 clear hb3 C C3 B3 e3;have C:=hid (C4.out _ B4.out.1)
 go_wp2_with fail
 refine C.out.mono ?_;rintro r u4 ⟨rfl,hb4⟩;obtain ⟨W5,hW5⟩:∃ W,W=u4.alloc (Obj.cells #[.float .f64 4607182418800017408,.float .f64 4611686018427387904] 40):=⟨_,rfl⟩;obtain ⟨g5,hg5⟩:∃ g,g=u4.heap.size:=⟨_,rfl⟩;have ba:Below u4.heap.size u4 W5:=by rw [hW5];exact below_alloc _ _
 have f5:Fs W5.heap.size W5 (some ⟨g5,0,none⟩) [4607182418800017408,4611686018427387904]:=by rw [hW5];exact lit15 u4 _ _ hg5
 have B5:Aside (Below W1.heap.size W1 W5∧OwnF W5 g1 (sortL five15)∧OwnI W5 g2 (eachL five15 fun k=>k)∧OwnF W5 g3 (rkL five15 2)):=by
  obtain ⟨h1,h2,h3,h4⟩:=B4.out;have hs:=hb4.size;exact ⟨(h1.trans (hb4.mono h1.size)).trans (ba.mono (by have:=h1.size;omega)),(h2.below hb4 h2.lt).below ba (by have:=h2.lt;omega),(h3.below hb4 h3.lt).below ba (by have:=h3.lt;omega),(h4.below hb4 h4.lt).below ba (by have:=h4.lt;omega)⟩
 have C:=hid (C5.out W5 ((HT.out.1.belows B1.out.1).belows B5.out.1) _ f5);have HW5:=(qsd (ai hW5 hg5));clear hb4 C4 B4 hW5 hg5 ba f5 C5
 go_wp2_with fail
 rw [←HW5.out.1,←HW5.out.2];refine C.out.mono ?_;rintro r u5 ⟨rfl,hb5⟩
 have B6:Aside (Below W1.heap.size W1 u5∧OwnF u5 g1 (sortL five15)∧OwnI u5 g2 (eachL five15 fun k=>k)∧OwnF u5 g3 (rkL five15 2)):=by
  obtain ⟨h1,h2,h3,h4⟩:=B5.out;exact ⟨h1.trans (hb5.mono h1.size),h2.below hb5 h2.lt,h3.below hb5 h3.lt,h4.below hb5 h4.lt⟩
 clear hb5 C B5;have C:=hid (C6.out _ (B1.out.1.trans (B6.out.1.mono B1.out.1.size)))
 go_wp2_with fail
 refine C.out.mono ?_;rintro r u6 ⟨rfl,hb6⟩;have HB:Aside (Below w.heap.size w u6):=(B1.out.1.trans (B6.out.1.mono B1.out.1.size)).trans (hb6.mono (Nat.le_trans B1.out.1.size B6.out.1.size));obtain ⟨h1,h2,h3,h4⟩:=B6.out;have i1:=h2.below hb6 h2.lt;have i2:=h3.below hb6 h3.lt;have i3:=h4.below hb6 h4.lt;have s0:=i1.cell 0 (by rw [sortL_len];decide)
 have s4:=i1.cell 4 (by rw [sortL_len];decide)
 have p0:=i2.cell 0 (by rw [eachL_len];decide)
 have p1:=i2.cell 1 (by rw [eachL_len];decide)
 have r0:=i3.cell 0 (by rw [rank5.2];decide)
 rw [sort5] at s0 s4;rw [place5] at p0 p1;rw [rank5.1] at r0;have s0':u6.cell? ⟨g1,0,none⟩=some (.float .f64 4617315517961601024):=s0;have s4':u6.cell? ⟨g1,4,none⟩=some (.float .f64 4621256167635550208):=s4;have p0':u6.cell? ⟨g2,0,none⟩=some (.int .i64 1):=p0;have p1':u6.cell? ⟨g2,1,none⟩=some (.int .i64 0):=p1;clear C C6 B6 h1 h2 h3 h4 i1 i2 i3 s0 s4 p0 p1 hb6 B1;go_wp2;go_ret;exact ⟨rfl,HB.out⟩
end
section
open Go.RowKit J
attribute [local go_sem] st_float
theorem wpList_append10 {w:World}{ops:Array Oper}{rest:List Oper}{o:Oper}{a:Act}{Q:Exit→Act→World→Prop}(hgd:o.guard=none) (s x:Operand) (t:TypeId)
 (ho:o.op=.call { callee:=.builtin .append,args:=#[s,x],argTypes:=#[t,t] }) (v u:Value) (hs:a.eval s=v) (hx:a.eval x=u) (v':Value) (w':World)
 (hrun:(Builtin.append_ #[t,t] o.type #[v,u]).run Tryz.prog w=.ok v' w') (h:wpList Tryz.prog ops Q rest (a.put o.dst v') w'):wpList Tryz.prog ops Q (o::rest) a w:=by
 refine wpList_plain hgd fun K hK=>?_
 unfold Oper.wp;simp [execOp,ho,resolve,invoke,builtin,hs,hx,hrun,Result.andThen];exact hK _ _ h
theorem own_below10 {lo:Nat}{w w':World}{v:Value}{n:Nat}{L:List Value}(h:w.ownsRow lo 40 1 v n L) (hb:Below w.heap.size w w'):w'.ownsRow lo 40 1 v n L:=by
 refine ⟨h.1,?_⟩
 rcases h.2 with hn|⟨g,cap,cur,rfl,hlo,hgc,rest⟩
 · exact .inl hn
 · refine .inr ⟨g,cap,cur,rfl,hlo,?_,rest⟩
   rw [hb.block g (Array.getElem?_eq_some_iff.1 hgc).1];exact hgc
theorem own_fs10 {w:World}{lo n:Nat}{v:Value}{xs:List Nat}(h:w.ownsRow lo 40 1 v n (xs.map Fw10)) (hn:n=xs.length):∃ a c,v=.slice a n c∧n≤c∧Fs w.heap.size w a xs:=by
 have h':=h
 rcases h.2 with ⟨rfl,hn0⟩|⟨g,cap,cur,rfl,hlo,hg,hn1,hm,hs,ht⟩
 · have e:xs=[]:=List.eq_nil_of_length_eq_zero (by rw [←hn];simpa using hn0)
   subst e;have:n=0:=by simpa using hn
   subst this;exact ⟨none,0,rfl,Nat.le_refl _,Fs.nil _ _ _⟩
 · refine ⟨some ⟨g,0,none⟩,cap,rfl,hn1,fun _=>⟨g,0,(Array.getElem?_eq_some_iff.1 hg).1,rfl,fun i hi=>?_⟩⟩
   have:=World.ownsRow.cellAt h' i (by omega)
   rw [Nat.zero_add,this,List.getElem?_map,List.getElem?_eq_getElem hi,List.getD_eq_getElem?_getD,List.getElem?_eq_getElem hi]
   rfl
end
section
open Go Go.RowKit J
open Go.Proofs.YtihjfhpoiheomaaGreatDoor.B (f64bits f64frombits)
attribute [local go_sem] st_float f64bits f64frombits
theorem rBitsN15 {x:Nat}(hx:x<18446744073709551616) (w:World):Calls Tryz.prog 47 #[.float .f64 x] w fun r w'=>r=.returned (.int .u64 (nrm x:Nat))∧w'=w:=rBits10 hx w
theorem rplace15 {x:Nat}(hx:x<18446744073709551616) (w:World) :
 Calls Tryz.prog 46 #[.float .f64 x] w fun r w'=>r=.returned (.int .i64 (tk x))∧w'=w:=by
 have HB:=hid (rBitsN15 hx w);have hn:=nrm_lt15 hx
 have ht:tk x=if 9223372036854775808≤nrm x then -1-((nrm x:Int)-9223372036854775808) else nrm x:=by
  unfold tk nrm nanW oddW negW magW
  by_cases a:9218868437227405312<x%9223372036854775808 <;> by_cases c:9223372036854775808≤x <;> simp only [a,c,decide_true,decide_false,if_true,if_false,Bool.false_eq_true] <;> omega
 rw [ht];generalize nrm x=y at *;clear ht
 by_cases h:9223372036854775808≤y
 · have e1:IntKind.u64.wrap ((y:Int)-9223372036854775808)=(y:Int)-9223372036854775808:=by rw [IntKind.wrap_u64];omega
   have e2:IntKind.i64.wrap ((y:Int)-9223372036854775808)=(y:Int)-9223372036854775808:=by rw [IntKind.wrap_i64];omega
   have e3:IntKind.i64.wrap (-1-((y:Int)-9223372036854775808))=-1-((y:Int)-9223372036854775808):=by rw [IntKind.wrap_i64];omega
   have d1:decide ((9223372036854775808:Int)≤(y:Int))=true:=by simp;omega
   rw [if_pos h];go_enter Tryz.func46,Tryz.ntmps46
   go_wp2_with (go_at_call 47;refine HB.out.mono ?_;rintro r w1 ⟨rfl,rfl⟩)
   go_ret
   first | exact ⟨rfl,rfl⟩ | exact ⟨by simp [e1,e2,e3],rfl⟩
 · have e2:IntKind.i64.wrap ((y:Int))=(y:Int):=by rw [IntKind.wrap_i64];omega
   have d1:decide ((9223372036854775808:Int)≤(y:Int))=false:=by simp;omega
   rw [if_neg h];go_enter Tryz.func46,Tryz.ntmps46
   go_wp2_with (go_at_call 47;refine HB.out.mono ?_;rintro r w1 ⟨rfl,rfl⟩)
   go_ret
   first | exact ⟨rfl,rfl⟩ | exact ⟨by simp [e2],rfl⟩
theorem rOrder15 {x y:Nat}(hx:x<18446744073709551616) (hy:y<18446744073709551616) (w:World) :
 Calls Tryz.prog 27 #[.float .f64 x,.float .f64 y] w fun r w'=>r=.returned (.int .i64 (B.oc (tk x) (tk y)))∧w'=w:=by
 have H1:=hid (rplace15 hx w);have H2:=hid (rplace15 hy w);generalize tk x=a at *;generalize tk y=b at *;unfold B.oc
 by_cases h1:a<b
 · have d1:decide (a<b)=true:=by simp [h1]
   rw [if_pos h1];go_enter Tryz.func27,Tryz.ntmps27
   go_wp2_with (go_at_call 46;first | (with_reducible refine H1.out.mono ?_;rintro r w1 ⟨rfl,rfl⟩) | (with_reducible refine H2.out.mono ?_;rintro r w1 ⟨rfl,rfl⟩))
   go_ret;exact ⟨rfl,rfl⟩
 · have d1:decide (a<b)=false:=by simp [h1]
   rw [if_neg h1]
   by_cases h2:b<a
   · have d2:decide (b<a)=true:=by simp [h2]
     rw [if_pos h2];go_enter Tryz.func27,Tryz.ntmps27
     go_wp2_with (go_at_call 46;first | (with_reducible refine H1.out.mono ?_;rintro r w1 ⟨rfl,rfl⟩) | (with_reducible refine H2.out.mono ?_;rintro r w1 ⟨rfl,rfl⟩))
     go_ret;exact ⟨rfl,rfl⟩
   · have d2:decide (b<a)=false:=by simp [h2]
     rw [if_neg h2];go_enter Tryz.func27,Tryz.ntmps27
     go_wp2_with (go_at_call 46;first | (with_reducible refine H1.out.mono ?_;rintro r w1 ⟨rfl,rfl⟩) | (with_reducible refine H2.out.mono ?_;rintro r w1 ⟨rfl,rfl⟩))
     go_ret;exact ⟨rfl,rfl⟩
theorem alike15 (x:Nat) (w:World):Calls Tryz.prog 26 #[.float .f64 x,.float .f64 x] w fun r w'=>r=.returned (.bool true)∧w'=w:=by
 go_enter Tryz.func26,Tryz.ntmps26;go_wp2;go_ret;exact ⟨by first | rfl | simp,rfl⟩
theorem take_snoc15 {L:List Nat}{k:Nat}(h:k<L.length):L.take (k+1)=L.take k++[L.getD k 0]:=by
 rw [List.take_add_one,List.getElem?_eq_getElem h,List.getD_eq_getElem?_getD,List.getElem?_eq_getElem h];rfl
end
section
open Go Go.RowKit J
attribute [local go_sem] st_float
def Is15 (B:Nat) (w:World) (ao:Option Addr) (xs:List Nat):Prop :=
 xs≠[]→∃ b off,b<B∧ao=some ⟨b,off,none⟩∧∀ i,i<xs.length→w.cell? ⟨b,off+i,none⟩=some (.int .i64 ((xs.getD i 0:Nat):Int))
theorem Is15.below {B:Nat}{w w':World}{ao:Option Addr}{xs:List Nat}(h:Is15 B w ao xs) (hb:Below B w w'):Is15 B w' ao xs:=by
 intro hne;obtain ⟨b,off,h1,h2,h3⟩:=h hne;refine ⟨b,off,h1,h2,fun i hi=>?_⟩
 rw [←h3 i hi];exact World.cell?_of_block (a:=⟨b,off+i,none⟩) (hb.block b h1)
theorem Is15.mono {B B':Nat}{w:World}{ao:Option Addr}{xs:List Nat}(h:Is15 B w ao xs) (hb:B≤B'):Is15 B' w ao xs:=by
 intro hne;obtain ⟨b,off,h1,h2,h3⟩:=h hne;exact ⟨b,off,by omega,h2,h3⟩
theorem appendI15 (lo:Nat) (v:Value) (K:List Nat) (x:Nat) (w:World) (hb:w.ownsRow lo 3 1 v K.length (K.map Iw15)) (hlo:lo≤w.heap.size) (hk:K.length≤17592186043904) :
 ∃ v' w',(Builtin.append_ #[25,25] 25 #[v,.slice (some ⟨w.heap.size,0,none⟩) 1 1]).run Tryz.prog (w.alloc (.cells #[.int .i64 (x:Nat)] 3))=.ok v' w'∧w'.ownsRow lo 3 1 v' (K++[x]).length ((K++[x]).map Iw15)∧Below lo w w'∧w.heap.size≤w'.heap.size:=by
 obtain ⟨i0,hi,hz0,hz1,hz2⟩:=info_parts Tryz.info_int15;obtain ⟨W,hW⟩:∃ W,W=w.alloc (.cells #[.int .i64 (x:Nat)] 3):=⟨_,rfl⟩;have hcx:W.cell? ⟨w.heap.size,0,none⟩=some (.int .i64 (x:Nat)):=by subst hW;unfold World.cell?;simp only [heap_alloc_new];rfl
 have hWb:W.ownsRow lo 3 1 v K.length (K.map Iw15):=by subst hW;exact World.ownsRow.alloc hb _
 have hWs:w.heap.size≤W.heap.size:=by subst hW;simp
 obtain ⟨v',w',r1,r2,r3,_,r5⟩:=run_append_own_at (P:=Tryz.prog) W lo 25 25 3 i0 (.int .i64 0) 1 8 Tryz.und_ints hi hz0 hz1 hz2 rfl (by decide) v K.length (K.map Iw15) hWb ⟨w.heap.size,0,none⟩ 1 1 [.int .i64 (x:Nat)] rfl (by
  intro j u hj
  match j,hj with
  | 0,hj=>simp at hj;subst hj;simpa [Addr.add] using hcx) (by intro u hu;simp at hu;subst hu;rfl) (by unfold maxLen;omega) (by omega) (by omega)
 rw [←hW];refine ⟨v',w',r1,?_,?_,?_⟩
 · rw [List.length_append,List.map_append];exact r2
 · have hlw:Below lo w W:=by subst hW;exact (Below.refl _ _).alloc hlo _
   refine ⟨r3.os.trans hlw.os,r3.tape.trans hlw.tape,r3.output.trans hlw.output,Nat.le_trans hlw.size r3.size,fun k hkl=>?_⟩
   rw [r3.block k (by omega) (fun e=>by
    rcases hWb.2 with ⟨e2,_⟩|⟨g,cap,cur,e2,hlo2,_⟩
    · rw [e2] at e;simp [Value.ownBlock] at e
    · rw [e2] at e;simp [Value.ownBlock] at e;omega)]
   exact hlw.block k hkl
 · exact Nat.le_trans hWs r3.size
theorem own_is15 {w:World}{lo n:Nat}{v:Value}{xs:List Nat}(h:w.ownsRow lo 3 1 v n (xs.map Iw15)) (hn:n=xs.length):∃ a c,v=.slice a n c∧n≤c∧Is15 w.heap.size w a xs:=by
 have h':=h
 rcases h.2 with ⟨rfl,hn0⟩|⟨g,cap,cur,rfl,hlo,hg,hn1,hm,hs,ht⟩
 · have e:xs=[]:=List.eq_nil_of_length_eq_zero (by rw [←hn];simpa using hn0)
   subst e;have:n=0:=by simpa using hn
   subst this;exact ⟨none,0,rfl,Nat.le_refl _,fun h=>absurd rfl h⟩
 · refine ⟨some ⟨g,0,none⟩,cap,rfl,hn1,fun _=>⟨g,0,(Array.getElem?_eq_some_iff.1 hg).1,rfl,fun i hi=>?_⟩⟩
   have:=World.ownsRow.cellAt h' i (by omega)
   rw [Nat.zero_add,this,List.getElem?_map,List.getElem?_eq_getElem hi,List.getD_eq_getElem?_getD,List.getElem?_eq_getElem hi]
   rfl
theorem appendIs15 {B:Nat}(lo:Nat) (v:Value) (R xs:List Nat) (ao:Option Addr) (m c:Nat) (w:World) (hR:w.ownsRow lo 3 1 v R.length (R.map Iw15)) (hm:m=xs.length) (hF:Is15 B w ao xs) (hnil:ao=none→c=0) (hlo:lo≤w.heap.size) (hk:R.length+xs.length≤17592186043904) (hmc:m≤c) :
 ∃ v' w',(Builtin.append_ #[25,25] 25 #[v,.slice ao m c]).run Tryz.prog w=.ok v' w'∧w'.ownsRow lo 3 1 v' (R++xs).length ((R++xs).map Iw15)∧Below lo w w':=by
 obtain ⟨i0,hi,hz0,hz1,hz2⟩:=info_parts Tryz.info_int15
 cases ao with
 | none =>
   obtain rfl:=hnil rfl;obtain rfl:m=0:=by omega
   have e:xs=[]:=List.eq_nil_of_length_eq_zero hm.symm;subst e;exact ⟨v,w,run_append_owned_none w lo 25 25 3 i0 1 Tryz.und_ints hi v _ _ hR,by rw [List.append_nil];exact hR,Below.refl _ _⟩
 | some a =>
   subst hm
   obtain ⟨v',w',r1,r2,r3,_,r5⟩:=run_append_own_at (P:=Tryz.prog) w lo 25 25 3 i0 (.int .i64 0) 1 8 Tryz.und_ints hi hz0 hz1 hz2 rfl (by decide) v R.length (R.map Iw15) hR a xs.length c (xs.map Iw15) (by simp) (by
    intro j u hj;have hj2:j<xs.length:=by have:=(List.getElem?_eq_some_iff.1 hj).1;simpa using this
    obtain ⟨b,off,_,e,hc0⟩:=hF (List.ne_nil_of_length_pos (by omega))
    have hc:=hc0 j hj2
    cases e
    have hadd:(⟨b,off,none⟩:Addr).add j=⟨b,off+j,none⟩:=by unfold Addr.add;split <;> simp_all
    rw [hadd,hc];rw [List.getElem?_map,List.getElem?_eq_getElem hj2] at hj
    rw [List.getD_eq_getElem?_getD,List.getElem?_eq_getElem hj2]
    exact hj) (by
    intro u hu;obtain ⟨x,_,rfl⟩:=List.mem_map.1 hu
    rfl) (by unfold maxLen;omega) (by omega) hlo
   refine ⟨v',w',r1,?_,⟨r3.os,r3.tape,r3.output,r3.size,fun k hkl=>r3.block k (by omega) (fun e=>?_)⟩⟩
   · show w'.ownsRow lo 3 1 v' (R++xs).length ((R++xs).map Iw15)
     rw [List.length_append,List.map_append];exact r2
   · rcases hR.2 with ⟨e2,_⟩ | ⟨g,cap,cur,e2,hlo2,_⟩
     · rw [e2] at e;simp [Value.ownBlock] at e
     · rw [e2] at e;simp [Value.ownBlock] at e;omega
end
section
open Go Go.RowKit J
attribute [local go_sem] st_float
theorem own_isn {w:World}{lo n:Nat}{v:Value}{xs:List Nat}(h:w.ownsRow lo 3 1 v n (xs.map Iw15)) (hn:n=xs.length):∃ a c,v=.slice a n c∧n≤c∧(a=none→c=0)∧Is15 w.heap.size w a xs:=by
 obtain ⟨a,c,rfl,h2,h3⟩:=own_is15 h hn;refine ⟨a,c,rfl,h2,fun e=>?_,h3⟩
 subst e
 rcases h.2 with ⟨e,_⟩|⟨g,cap,cur,e,_⟩
 · cases e;rfl
 · cases e
theorem own_baseI {w:World}{lo lo' n:Nat}{t:TypeId}{v:Value}{L:List Value}(h:w.ownsRow lo t 1 v n L) (hl:lo'≤lo):w.ownsRow lo' t 1 v n L:=by
 refine ⟨h.1,?_⟩
 rcases h.2 with q|⟨g,cap,cur,h1,h2,h3⟩
 · exact .inl q
 · exact .inr ⟨g,cap,cur,h1,by omega,h3⟩
def RowD (xs:List Nat) (ao:Option Addr) (n cap:Nat) (is:List Nat):Prop:=∀ (a:Option Addr) (c:Nat) (w:World),is.length≤c→(a=none→c=0)→Fs w.heap.size w ao xs→Is15 w.heap.size w a is →
 Calls Tryz.prog 52 #[.slice ao n cap,.slice a is.length c] w fun r w'=>(∃ a' c',r=.returned (.slice a' is.length c')∧is.length≤c'∧(a'=none→c'=0)∧Is15 w'.heap.size w' a' (rowI xs is))∧Below w.heap.size w w'
theorem row_few (xs:List Nat) (ao:Option Addr) (n cap:Nat) (is:List Nat) (h:is.length<2):RowD xs ao n cap is:=by
 intro a c w hc hn hF hI
 have e:rowI xs is=is:=by
  rcases is with _|⟨x,l⟩
  · unfold rowI;simp
  · rcases l with _ | ⟨y,l⟩
    · exact rowI_one xs x
    · simp at h;omega
 rw [e];obtain ⟨m,hm⟩:∃ m,m=is.length:=⟨_,rfl⟩;rw [←hm] at hc h ⊢;have d:decide ((m:Int)<2)=true:=by simp;omega
 have HX:=(qsd (ai hc (ai hn hI)));clear hc hn hF hI e h hm;go_enter Tryz.func52,Tryz.ntmps52;go_wp2;go_ret;exact ⟨⟨a,c,rfl,HX.out.1,HX.out.2.1,HX.out.2.2⟩,Below.refl _ _⟩
theorem leI_oc {xs:List Nat}{i j:Nat}(h:i<j):decide (B.oc (tk (xs.getD i 0)) (tk (xs.getD j 0))≤0)=leI xs i j:=by
 unfold leI B.oc;rw [decide_eq_decide]
 split
 · constructor <;> intro _ <;> omega
 · split
   · constructor <;> intro _ <;> omega
   · constructor <;> intro _ <;> omega
theorem row_two (xs:List Nat) (ao:Option Addr) (n cap:Nat) (is:List Nat) (hnx:n=xs.length) (hW:W64 xs) (hi:∀ i ∈ is,i<n) (hp:is.Pairwise (·<·)) (h2:2≤is.length) (hl:is.length≤17592186043904) (hn6:n≤4611686018427387904)
 (H1:RowD xs ao n cap (is.take (is.length/2))) (H2:RowD xs ao n cap (is.drop (is.length/2))):RowD xs ao n cap is:=by
 intro a c w hc hnil hF hI;obtain ⟨m,hm⟩:∃ m,m=is.length:=⟨_,rfl⟩;rw [←hm] at hc h2 hl H1 H2 ⊢;obtain ⟨b,off,hb,rfl,hcell⟩:=hI (by intro e;rw [e] at hm;simp at hm;omega)
 have l1:(is.take (m/2)).length=m/2:=by rw [List.length_take];omega
 have l2:(is.drop (m/2)).length=m-m/2:=by rw [List.length_drop];omega
 have F1:Is15 w.heap.size w (some ⟨b,off,none⟩) (is.take (m/2)):=fun _=>⟨b,off,hb,rfl,fun i hi=>by
  rw [hcell i (by omega),List.getD_eq_getElem?_getD,List.getD_eq_getElem?_getD,List.getElem?_take,if_pos (by omega)]⟩
 have F2:Is15 w.heap.size w (some ⟨b,off+m/2,none⟩) (is.drop (m/2)):=fun _=>⟨b,off+m/2,hb,rfl,fun i hi=>by
  rw [Nat.add_assoc,hcell (m/2+i) (by omega),List.getD_eq_getElem?_getD,List.getD_eq_getElem?_getD,List.getElem?_drop]⟩
 have C1:=hid (H1 (some ⟨b,off,none⟩) c w (by omega) (fun h=>by cases h) hF F1)
 have C2:=hid (fun (u:World) (hb:Below w.heap.size w u)=>H2 (some ⟨b,off+m/2,none⟩) (c-m/2) u (by omega) (fun h=>by cases h) ((hF.below hb).mono hb.size) ((F2.below hb).mono hb.size))
 rw [l1] at C1;rw [l2] at C2
 have HS:Aside (∀ i ∈ rowI xs (is.take (m/2)),∀ j ∈ rowI xs (is.drop (m/2)),i<j∧i<n∧j<n):=fun i h1 j h2=>by
  have a1:=(rowI_perm xs _).mem_iff.1 h1;have a2:=(rowI_perm xs _).mem_iff.1 h2;refine ⟨?_,hi i (List.mem_of_mem_take a1),hi j (List.mem_of_mem_drop a2)⟩;have e:is.take (m/2)++is.drop (m/2)=is:=List.take_append_drop _ _;rw [←e] at hp;exact (List.pairwise_append.1 hp).2.2 i a1 j a2
 have HMg:Aside (List.merge (rowI xs (is.take (m/2))) (rowI xs (is.drop (m/2))) (leI xs)=rowI xs is):=qsd (rowI_merge xs is (m/2));have m1:(rowI xs (is.take (m/2))).length=m/2:=by rw [rowI_len,l1]
 have m2:(rowI xs (is.drop (m/2))).length=m-m/2:=by rw [rowI_len,l2]
 have m3:(rowI xs is).length=m:=by rw [rowI_len,hm]
 obtain ⟨A,hA⟩:∃ A,rowI xs (is.take (m/2))=A:=⟨_,rfl⟩;obtain ⟨Bs,hB⟩:∃ Bs,rowI xs (is.drop (m/2))=Bs:=⟨_,rfl⟩;obtain ⟨R,hR⟩:∃ R,rowI xs is=R:=⟨_,rfl⟩;rw [hA] at C1 HS HMg m1;rw [hB] at HS HMg m2;simp only [hB] at C2;rw [hR] at HMg m3 ⊢;obtain ⟨nb,hnb⟩:∃ nb,m-m/2=nb:=⟨_,rfl⟩;rw [hnb] at m2 C2;have d2:decide ((m:Int)<2)=false:=by simp;omega
 have hhc:m/2<c:=by omega
 have hmc:m≤c:=hc;have hm6:m≤17592186043904:=hl;have HN:=(qsd (ai m1 (ai m2 (ai m3 (ai hnb (ai hnx (ai hW hF)))))));have H2M:=qsd h2;clear hF hcell F1 F2 l1 l2 m1 m2 m3 hA hB hR H1 H2 hW hi hp hnb hnx hm hb hnil hl h2 hc;go_enter Tryz.func52,Tryz.ntmps52
 go_upto_region 3 with fail
 clear d2
 go_wp2_with fail
 refine C1.out.mono ?_;rintro r u1 ⟨⟨a1,q1,rfl,hq1,hz1,hI1⟩,hb1⟩;have B1:=(qsd (ai hb1 (ai hI1 (ai hz1 hq1))));clear hb1 hI1 C1 hz1 hq1;replace C2:=hid (C2.out u1 B1.out.1)
 go_upto_region 4 with fail
 go_wp2_with fail
 rw [HN.out.2.2.2.1];refine C2.out.mono ?_;rintro r u2 ⟨⟨a2,q2,rfl,hq2,hz2,hI2⟩,hb2⟩;obtain ⟨na,hna⟩:∃ na,m/2=na:=⟨_,rfl⟩;have B2:Aside (Below w.heap.size w u2∧Is15 u2.heap.size u2 a1 A∧Is15 u2.heap.size u2 a2 Bs∧(a1=none→q1=0)∧na≤q1):=⟨B1.out.1.trans (hb2.mono B1.out.1.size),(B1.out.2.1.below hb2).mono hb2.size,hI2,B1.out.2.2.1,by rw [←hna];exact B1.out.2.2.2⟩
 have HD:Aside (na+nb=m∧A.length=na∧Bs.length=nb∧R.length=m):=by
  have:=HN.out.2.2.2.1;exact ⟨by omega,HN.out.1.trans hna,HN.out.2.1,HN.out.2.2.1⟩
 have H1N:Aside (1≤na):=qsd (by have:=H2M.out;omega)
 have HNA:=qsd hna;have hna6:na≤17592186043904:=by omega
 have hnb6:nb≤17592186043904:=by have:=HD.out.1;omega
 have HX:Aside (∀ u:World,Below u2.heap.size u2 u→Is15 u2.heap.size u a1 A∧Is15 u2.heap.size u a2 Bs∧Fs w.heap.size u ao xs):=fun u hu=>⟨B2.out.2.1.below hu,B2.out.2.2.1.below hu,HN.out.2.2.2.2.2.2.below (B2.out.1.trans (hu.mono B2.out.1.size))⟩
 have HBw:=qsd B2.out.1.size;clear hb2 hI2 hq2 hz2 C2 B1 hna hhc;go_wp2;rw [HNA.out];clear HNA
 go_loopg [7,8,9] nb (fun gk ov iv kv wr=>∃ (i k:Nat) (O:List Nat) (v:Value),gk+k=nb∧i≤na∧iv=.int .i64 (i:Nat)∧kv=.int .i64 (k:Nat)∧ov=v∧Aside (wr.ownsRow u2.heap.size 3 1 v O.length (O.map Iw15)∧Below w.heap.size w wr∧Below u2.heap.size u2 wr∧O++List.merge (A.drop i) (Bs.drop k) (leI xs)=R∧O.length=i+k))
 case atStart=>exact ⟨0,0,[],.slice none 0 0,by omega,by omega,by first | rfl | simp,by first | rfl | simp,rfl,World.ownsRow_nil _ _ _ _,B2.out.1,Below.refl _ _,by simpa using HMg.out,rfl⟩
 case round =>
  obtain ⟨i0,k,O0,v0,hgk,hi0,rfl,rfl,hv,HA⟩:=hrel;have hv':=hv.symm;clear hv;subst hv';have hkb:k≤nb:=by omega
  by_cases hk:k<nb
  · have e2:decide ((k:Int)<nb)=true:=by simp;omega
    have bk:(k:Int)<(nb:Int):=by omega
    obtain ⟨k1,hk1⟩:∃ x,x=k+1:=⟨_,rfl⟩;have wk:IntKind.i64.wrap ((k:Int)+1)=(k1:Int):=wrapZ (by omega) (by omega)
    obtain ⟨wo,hwo⟩:∃ W,W=wr:=⟨_,rfl⟩;rw [←hwo] at HA ⊢;clear hwo;have HG:=(qsd (ai hk1 hgk));clear hk1 hgk;go_wp2
    go_loopg [7,8] (na-i0) (fun gq ov iv wr=>∃ (i:Nat) (O:List Nat) (v:Value),gq+i=na∧iv=.int .i64 (i:Nat)∧ov=v∧Aside (wr.ownsRow u2.heap.size 3 1 v O.length (O.map Iw15)∧Below w.heap.size w wr∧Below u2.heap.size u2 wr∧O++List.merge (A.drop i) (Bs.drop k) (leI xs)=R∧O.length=i+k))
    case atStart=>exact ⟨i0,O0,_,by omega,by first | rfl | simp,rfl,HA.out⟩
    case round =>
     clear HA;obtain ⟨i,O,v,hgq,rfl,hv,HA⟩:=hrel;have hv':=hv.symm;clear hv;subst hv';obtain ⟨hIA,hIB,hFx⟩:=HX.out _ HA.out.2.2.1;obtain ⟨b2,o2,hb2,rfl,hcB⟩:=hIB (by intro e;have:=HD.out.2.2.1;rw [e] at this;simp at this;omega)
     have cB:=hcB k (by rw [HD.out.2.2.1];exact hk)
     obtain ⟨jb,hjb⟩:∃ j,j=Bs.getD k 0:=⟨_,rfl⟩;rw [←hjb] at cB
     have HDr:Aside (∀ mm,(wr.drewN mm).ownsRow u2.heap.size 3 1 v O.length (O.map Iw15)∧Below w.heap.size w (wr.drewN mm)∧Below u2.heap.size u2 (wr.drewN mm)):=fun mm=>by
      obtain ⟨h1,h2,h3,_⟩:=HA.out;exact ⟨h1,⟨h2.os,h2.tape,h2.output,h2.size,h2.block⟩,⟨h3.os,h3.tape,h3.output,h3.size,h3.block⟩⟩
     by_cases hia:i<na
     · have hda:decide (i<na)=true:=by simp;omega
       have bi:(i:Int)<(na:Int):=by omega
       obtain ⟨b1,o1,hb1,rfl,hcA⟩:=hIA (by intro e;have:=HD.out.2.1;rw [e] at this;simp at this;omega)
       have cA:=hcA i (by rw [HD.out.2.1];exact hia)
       obtain ⟨ja,hja⟩:∃ j,j=A.getD i 0:=⟨_,rfl⟩;rw [←hja] at cA;have hmA:ja ∈ A:=by rw [hja];exact getD_mem15 (by rw [HD.out.2.1];exact hia)
       have hmB:jb ∈ Bs:=by rw [hjb];exact getD_mem15 (by rw [HD.out.2.2.1];exact hk)
       obtain ⟨hab,han,hbn⟩:=HS.out ja hmA jb hmB;obtain ⟨hnx,hW⟩:n=xs.length∧W64 xs:=⟨HN.out.2.2.2.2.1,HN.out.2.2.2.2.2.1⟩;obtain ⟨b3,o3,rfl,d1⟩:=hFx.at (Below.refl _ _) ja (by omega)
       obtain ⟨b4,o4,e,d2⟩:=hFx.at (Below.refl _ _) jb (by omega)
       obtain ⟨rfl,rfl⟩:b3=b4∧o3=o4:=by simpa using e
       have hx:xs.getD ja 0<18446744073709551616:=hW _ (getD_mem15 (by omega))
       have hy:xs.getD jb 0<18446744073709551616:=hW _ (getD_mem15 (by omega))
       have hle:=leI_oc (xs:=xs) hab;have ian:(ja:Int)<(n:Int):=by omega
       have ibn:(jb:Int)<(n:Int):=by omega
       obtain ⟨x,hxx⟩:∃ x,x=xs.getD ja 0:=⟨_,rfl⟩;obtain ⟨y,hyy⟩:∃ x,x=xs.getD jb 0:=⟨_,rfl⟩;rw [←hxx] at d1 hx hle;rw [←hyy] at d2 hy hle;have CO:=hid (fun u:World=>rOrder15 hx hy u)
       obtain ⟨z,hz⟩:∃ z,z=B.oc (tk x) (tk y):=⟨_,rfl⟩;rw [←hz] at CO hle;have HL:=qsd HA.out.2.2.2.2;have hgn:na-(i+1)<gk:=by omega
       obtain ⟨i1,hi1⟩:∃ x,x=i+1:=⟨_,rfl⟩;have wi:IntKind.i64.wrap ((i:Int)+1)=(i1:Int):=wrapZ (by omega) (by omega)
       by_cases hl:leI xs ja jb=true
       · rw [hl] at hle
         have HMx:Aside ((O++[ja])++List.merge (A.drop (i+1)) (Bs.drop k) (leI xs)=R∧(O++[ja]).length=i+1+k):=by
          refine ⟨?_,by rw [List.length_append,HA.out.2.2.2.2];simp;omega⟩
          have h1:=HA.out.2.2.2.1;rw [mgA15 (le:=leI xs) (by rw [HD.out.2.1];exact hia) (.inr ⟨by rw [HD.out.2.2.1];exact hk,by rw [←hja,←hjb];exact hl⟩),←hja] at h1
          rw [←h1];simp
         have HI:=(qsd (ai hi1 (ai hgq hia)));clear HA hIA hIB hFx hcA hcB hja hjb hmA hmB hab han hbn hnx hW e hx hy hxx hyy hz hl hgq hi1
         go_wp2_with fail
         go_quiet (first | (go_at_call 27;exact Calls.quiet_of_same (CO.out _)))
         obtain ⟨v',w',r1,r2,r3,r4⟩:=appendI15 u2.heap.size v O ja (wr.drewN nq) (HDr.out nq).1 (HDr.out nq).2.2.size (by have:=HL.out;have:=HD.out.1;omega)
         have HR:=qsd r1;have HNx:Aside (w'.ownsRow u2.heap.size 3 1 v' (O++[ja]).length ((O++[ja]).map Iw15)∧Below w.heap.size w w'∧Below u2.heap.size u2 w'):=⟨r2,(HDr.out nq).2.1.trans (r3.mono HBw.out),(HDr.out nq).2.2.trans r3⟩;clear r1 r2 r3 r4
         go_wp2_with (at_builtin;refine wpList_append10 rfl (.tmp 56) (.tmp 61) 25 rfl _ _ rfl rfl _ _ HR.out ?_)
         go_roundg (na-i1)
         case measure=>have:=HI.out;omega
         case rel=>exact ⟨i1,O++[ja],v',by have:=HI.out;omega,by first | rfl | simp,rfl,HNx.out.1,HNx.out.2.1,HNx.out.2.2,by rw [HI.out.1];exact HMx.out.1,by rw [HI.out.1];exact HMx.out.2⟩
       · have hl':leI xs ja jb=false:=by simpa using hl
         rw [hl'] at hle
         have HMx:Aside ((O++[jb])++List.merge (A.drop i) (Bs.drop k1) (leI xs)=R∧(O++[jb]).length=i+k1):=by
          have e1:=HG.out.1;refine ⟨?_,by rw [List.length_append,HA.out.2.2.2.2];simp;omega⟩
          have h1:=HA.out.2.2.2.1;rw [mgB15 (le:=leI xs) (by rw [HD.out.2.2.1];exact hk) (.inr ⟨by rw [HD.out.2.1];exact hia,by rw [←hja,←hjb];exact hl'⟩),←hjb] at h1
          rw [←h1,e1];simp
         clear HA hIA hIB hFx hcA hcB hja hjb hmA hmB hab han hbn hnx hW e hx hy hxx hyy hz hl hl' hgq hi1 wi
         go_wp2_with fail
         go_quiet (first | (go_at_call 27;exact Calls.quiet_of_same (CO.out _)))
         obtain ⟨v',w',r1,r2,r3,r4⟩:=appendI15 u2.heap.size v O jb (wr.drewN nq) (HDr.out nq).1 (HDr.out nq).2.2.size (by have:=HL.out;have:=HD.out.1;omega)
         have HR:=qsd r1;have HNx:Aside (w'.ownsRow u2.heap.size 3 1 v' (O++[jb]).length ((O++[jb]).map Iw15)∧Below w.heap.size w w'∧Below u2.heap.size u2 w'):=⟨r2,(HDr.out nq).2.1.trans (r3.mono HBw.out),(HDr.out nq).2.2.trans r3⟩;clear r1 r2 r3 r4
         go_wp2_with (at_builtin;refine wpList_append10 rfl (.tmp 65) (.tmp 70) 25 rfl _ _ rfl rfl _ _ HR.out ?_)
         go_roundg (nb-k1)
         case measure=>have:=HG.out;omega
         case rel=>exact ⟨i,k1,O++[jb],v',by have:=HG.out;omega,by omega,by first | rfl | simp,by first | rfl | simp,rfl,HNx.out.1,HNx.out.2.1,HNx.out.2.2,HMx.out.1,HMx.out.2⟩
     · have hle:i≤na:=by omega
       obtain rfl:i=na:=by omega
       have hda:decide (i<i)=false:=by simp
       have HL:=qsd HA.out.2.2.2.2
       have HMx:Aside ((O++[jb])++List.merge (A.drop i) (Bs.drop k1) (leI xs)=R∧(O++[jb]).length=i+k1):=by
        have e1:=HG.out.1;refine ⟨?_,by rw [List.length_append,HA.out.2.2.2.2];simp;omega⟩
        have h1:=HA.out.2.2.2.1;rw [mgB15 (le:=leI xs) (by rw [HD.out.2.2.1];exact hk) (.inl HD.out.2.1.symm),←hjb] at h1
        rw [←h1,e1];simp
       clear HA hIA hIB hFx hcB hjb hgq hia
       go_wp2_with fail
       go_quiet (fail)
       obtain ⟨v',w',r1,r2,r3,r4⟩:=appendI15 u2.heap.size v O jb (wr.drewN nq) (HDr.out nq).1 (HDr.out nq).2.2.size (by have:=HL.out;have:=HD.out.1;omega)
       have HR:=qsd r1;have HNx:Aside (w'.ownsRow u2.heap.size 3 1 v' (O++[jb]).length ((O++[jb]).map Iw15)∧Below w.heap.size w w'∧Below u2.heap.size u2 w'):=⟨r2,(HDr.out nq).2.1.trans (r3.mono HBw.out),(HDr.out nq).2.2.trans r3⟩;clear r1 r2 r3 r4
       go_wp2_with (at_builtin;refine wpList_append10 rfl (.tmp 65) (.tmp 70) 25 rfl _ _ rfl rfl _ _ HR.out ?_)
       go_roundg (nb-k1)
       case measure=>have:=HG.out;omega
       case rel=>exact ⟨i,k1,O++[jb],v',by have:=HG.out;omega,by omega,by first | rfl | simp,by first | rfl | simp,rfl,HNx.out.1,HNx.out.2.1,HNx.out.2.2,HMx.out.1,HMx.out.2⟩
  · obtain rfl:k=nb:=by omega
    have e2:decide ((k:Int)<(k:Int))=false:=by simp
    obtain ⟨hIA,_,_⟩:=HX.out _ HA.out.2.2.1;obtain ⟨b1,o1,hb1,rfl,hcA⟩:=hIA (by intro e;have:=HD.out.2.1;have:=H1N.out;rw [e] at *;simp at *;omega)
    have hq:=B2.out.2.2.2.2;have hO:O0.length+(A.drop i0).length≤17592186043904:=by rw [List.length_drop,HA.out.2.2.2.2,HD.out.2.1];have:=HD.out.1;omega
    have eR:O0++A.drop i0=R:=by
     have h1:=HA.out.2.2.2.1;rw [List.drop_of_length_le (l:=Bs) (by rw [HD.out.2.2.1];exact Nat.le_refl _),List.merge_right] at h1
     exact h1
    have hi0':(i0:Int)≤(na:Int):=by omega
    by_cases hcap:q1=i0
    · have hda:A.drop i0=[]:=List.drop_of_length_le (by rw [HD.out.2.1];omega)
      rw [hda] at hO;obtain ⟨v',w',r1,r2,r3⟩:=appendIs15 (B:=u2.heap.size) u2.heap.size v0 O0 [] (some ⟨b1,o1,none⟩) 0 0 wr HA.out.1 rfl (fun h=>absurd rfl h) (fun h=>by cases h) HA.out.2.2.1.size hO (Nat.le_refl _)
      have HR:=qsd r1;rw [hda,List.append_nil] at eR;rw [List.append_nil] at r2
      have HNx:Aside (w'.ownsRow w.heap.size 3 1 v' m (R.map Iw15)∧Below w.heap.size w w'):=by
       rw [eR] at r2;rw [HD.out.2.2.2] at r2;exact ⟨own_baseI r2 HBw.out,HA.out.2.1.trans (r3.mono HBw.out)⟩
      obtain rfl:i0=na:=by omega
      subst hcap;clear r1 r2 r3 HA hIA hcA hO hda eR
      go_wp2_with (at_builtin;refine wpList_append10 rfl (.tmp 72) (.tmp 75) 25 rfl _ _ rfl (by simp [Act.eval]) _ _ HR.out ?_)
      go_ret;obtain ⟨a3,c3,rfl,h1,h2,h3⟩:=own_isn HNx.out.1 HD.out.2.2.2.symm;exact ⟨⟨a3,c3,rfl,h1,h2,h3⟩,HNx.out.2⟩
    · have hF:Is15 u2.heap.size wr (some ⟨b1,o1+i0,none⟩) (A.drop i0):=fun _=>⟨b1,o1+i0,hb1,rfl,fun j hj=>by
       rw [List.length_drop] at hj;rw [Nat.add_assoc,hcA (i0+j) (by omega),List.getD_eq_getElem?_getD,List.getD_eq_getElem?_getD,List.getElem?_drop]⟩
      obtain ⟨v',w',r1,r2,r3⟩:=appendIs15 (B:=u2.heap.size) u2.heap.size v0 O0 (A.drop i0) (some ⟨b1,o1+i0,none⟩) (na-i0) (q1-i0) wr HA.out.1 (by rw [List.length_drop,HD.out.2.1]) hF (fun h=>by cases h) HA.out.2.2.1.size hO (by omega)
      have HR:=qsd r1;rw [eR] at r2
      have HNx:Aside (w'.ownsRow w.heap.size 3 1 v' m (R.map Iw15)∧Below w.heap.size w w'):=by
       rw [HD.out.2.2.2] at r2;exact ⟨own_baseI r2 HBw.out,HA.out.2.1.trans (r3.mono HBw.out)⟩
      have hlt:i0<q1:=by omega
      clear r1 r2 r3 HA hIA hcA hO eR hF hcap
      go_wp2_with (at_builtin;refine wpList_append10 rfl (.tmp 72) (.tmp 75) 25 rfl _ _ rfl (by simp [Act.eval]) _ _ HR.out ?_)
      go_ret;obtain ⟨a3,c3,rfl,h1,h2,h3⟩:=own_isn HNx.out.1 HD.out.2.2.2.symm;exact ⟨⟨a3,c3,rfl,h1,h2,h3⟩,HNx.out.2⟩
end
section
open Go Go.RowKit J
attribute [local go_sem] st_float
theorem row_all (xs:List Nat) (ao:Option Addr) (n cap:Nat) (hnx:n=xs.length) (hW:W64 xs) (hn6:n≤4611686018427387904):∀ (N:Nat) (is:List Nat),is.length≤N→(∀ i ∈ is,i<n)→is.Pairwise (·<·)→is.length≤17592186043904→RowD xs ao n cap is
 | 0,is,h,_,_,_=>row_few xs ao n cap is (by omega)
 | N+1,is,h,hi,hp,hl=>by
   by_cases h2:is.length<2
   · exact row_few xs ao n cap is h2
   · refine row_two xs ao n cap is hnx hW hi hp (by omega) hl hn6 ?_ ?_
     · exact row_all xs ao n cap hnx hW hn6 N _ (by rw [List.length_take];omega) (fun i h=>hi i (List.mem_of_mem_take h)) (List.Pairwise.sublist (List.take_sublist _ _) hp) (by rw [List.length_take];omega)
     · exact row_all xs ao n cap hnx hW hn6 N _ (by rw [List.length_drop];omega) (fun i h=>hi i (List.mem_of_mem_drop h)) (List.Pairwise.sublist (List.drop_sublist _ _) hp) (by rw [List.length_drop];omega)
theorem rRow15 (xs:List Nat) (ao:Option Addr) (n cap:Nat) (w:World) (hF:Fs w.heap.size w ao xs) (hn:n=xs.length) (hl:n≤17592186043904) (hW:W64 xs) :
 Calls Tryz.prog 34 #[.slice ao n cap] w fun r w'=>(∃ a c,r=.returned (.slice a n c)∧Is15 w'.heap.size w' a (rowL xs))∧Below w.heap.size w w':=by
 have HR0:=hid (row_all xs ao n cap hn hW (by omega) n (List.range n) (by simp) (fun i h=>List.mem_range.1 h) List.pairwise_lt_range (by simpa using hl))
 have HN:=(qsd (ai hF hn));clear hF hn hW;go_enter Tryz.func34,Tryz.ntmps34;go_wp2
 go_loopg [3,4] n (fun gk ov iv wr=>∃ (i:Nat) (v:Value),gk+i=n∧iv=.int .i64 (i:Nat)∧ov=v∧Aside (wr.ownsRow w.heap.size 3 1 v (List.range i).length ((List.range i).map Iw15)∧Below w.heap.size w wr))
 case atStart=>exact ⟨0,.slice none 0 0,by omega,by first | rfl | simp,rfl,World.ownsRow_nil _ _ _ _,Below.refl _ _⟩
 case round =>
  obtain ⟨i,v,hgk,rfl,hv,HA⟩:=hrel;have hv':=hv.symm;clear hv;subst hv'
  by_cases hk:i<n
  · have hdk:decide ((i:Int)<(n:Int))=true:=by simp;omega
    obtain ⟨i1,hi1⟩:∃ x,x=i+1:=⟨_,rfl⟩;have wk:IntKind.i64.wrap ((i:Int)+1)=(i1:Int):=wrapZ (by omega) (by omega)
    obtain ⟨v',w',r1,r2,r3,r4⟩:=appendI15 w.heap.size v (List.range i) i wr HA.out.1 HA.out.2.size (by simp;omega)
    have e9:List.range i++[i]=List.range i1:=by rw [hi1,List.range_succ]
    rw [e9] at r2;have HR:=qsd r1;have HX:=(qsd (ai r2 (ai (HA.out.2.trans r3) hi1)));clear r1 r2 r3 r4 hi1 HA e9
    go_wp2_with (at_builtin;refine wpList_append10 rfl (.tmp 11) (.tmp 13) 25 rfl _ _ rfl rfl _ _ HR.out ?_)
    go_roundg (gk-1)
    case measure=>omega
    case rel=>exact ⟨i1,v',by have:=HX.out.2.2;omega,by first | rfl | simp,rfl,HX.out.1,HX.out.2.1⟩
  · obtain rfl:i=n:=by omega
    have hdk:decide ((i:Int)<(i:Int))=false:=by simp
    obtain ⟨a,c,rfl,h1,h2,h3⟩:=own_isn HA.out.1 rfl;rw [List.length_range] at h1 ⊢;have C:=hid (HR0.out a c wr (by rw [List.length_range];exact h1) h2 ((HN.out.1.below HA.out.2).mono HA.out.2.size) h3)
    rw [List.length_range] at C;have HB:=qsd HA.out.2;clear HR0 HA h1 h2 h3
    go_wp2_with fail
    refine C.out.mono ?_;rintro r u ⟨⟨a',c',rfl,_,_,hI⟩,hb⟩;have HX:Aside (Is15 u.heap.size u a' (rowL xs)∧Below w.heap.size w u):=⟨by rw [HN.out.2] at hI;exact hI,HB.out.trans (hb.mono HB.out.size)⟩
    clear C hI hb;go_wp2;go_ret;exact ⟨⟨a',c',rfl,HX.out.1⟩,HX.out.2⟩
theorem rtold15 {x:Nat}(hx:x<18446744073709551616) (w:World):Calls Tryz.prog 35 #[.float .f64 x] w fun r w'=>r=.returned (.float .f64 (nrm x))∧Below w.heap.size w w':=by
 have C:=hid (rBitsN15 hx w);have hl:=nrm_lt15 hx;obtain ⟨y,hy⟩:∃ y,y=nrm x:=⟨_,rfl⟩;rw [←hy] at C hl ⊢;have D:=hid (fun u:World=>rOf10 y u)
 clear hy hl;go_enter Tryz.func35,Tryz.ntmps35
 go_wp2_with fail
 refine C.out.mono ?_;rintro r u ⟨rfl,hu⟩;rw [hu];clear hu u C
 go_wp2_with fail
 refine (D.out _).mono ?_;rintro r u ⟨rfl,hu⟩;rw [hu];clear hu u D;go_wp2;go_ret;exact ⟨rfl,Below.refl _ _⟩
end
section
open Go.RowKit J
attribute [local go_sem] st_float
attribute [local go_sem] B.f64bits in
theorem alike12 (x:Nat) (w:World):Calls Tryz.prog 26 #[.float .f64 x,.float .f64 x] w fun r w'=>r=.returned (.bool true)∧w'=w:=by
 go_enter Tryz.func26,Tryz.ntmps26;go_wp2;go_ret;exact ⟨by first | rfl | simp,rfl⟩
end
section
open Go.RowKit J
attribute [local go_sem] st_float
theorem ord71:(FloatKind.f64.format.order 4634696597773484032 4634696597773484032==some .eq)=true:=by decide +kernel
theorem ord72:(FloatKind.f64.format.order 4634766966517661696 4634766966517661696==some .eq)=true:=by decide +kernel
attribute [local go_sem] ord71 ord72
theorem butN12 {g:Nat}{a w:World}(h:But g a w) (n:Nat):But g a (w.drewN n):=⟨h.os,h.tape,h.output,h.size,h.block⟩
theorem lent2_zeros (xs:List Nat) (n:Nat) (hn:n=xs.length):xs++(List.replicate (n+2) 0).drop n=xs++[0,0]:=by
 rw [List.drop_replicate,show n+2-n=2 by omega];rfl
def lnt (xs:List Nat):List Nat:=xs++[4634696597773484032,4634766966517661696]
theorem lnt_len (xs:List Nat):(lnt xs).length=xs.length+2:=by simp [lnt]
theorem lent2_marks (xs:List Nat) (n:Nat) (hn:n=xs.length):((xs++[0,0]).set n 4634696597773484032).set (n+1) 4634766966517661696=lnt xs:=by
 subst hn;simp [lnt]
theorem rLent12 (xs:List Nat) (ao:Option Addr) (n cap B:Nat) (w:World) (hn:n=xs.length) (hm:n≤17592186043904) (hR:Fs B w ao xs) (hB:B≤w.heap.size) :
 Calls Tryz.prog 8 #[.slice ao n cap] w fun r w'=>r=.returned (.slice (some ⟨w.heap.size,0,none⟩) n (n+2))∧OwnF w' w.heap.size (lnt xs)∧Below w.heap.size w w':=by
 have hmk:=make_floats ((n+2:Nat):Int) (n+2) rfl (by omega)
 have hmk2:=make_floats ((n:Int)+2) (n+2) (by omega) (by omega)
 have HO2:Hid (OwnF (w.alloc (.cells (madeCells #[.float .f64 0] (n+2)) 40)) w.heap.size (List.replicate (n+2) 0)):=OwnF.made w (n+2);obtain ⟨w2,hcp,hO2,hbut⟩:=copy_floats _ w.heap.size (n+2) (n+2) ao n cap B 3 (List.replicate (n+2) 0) xs HO2.out (by simp) hn (hR.below ((Below.refl _ _).alloc hB _)) (by omega)
 rw [lent2_zeros xs n hn] at hO2;have hg1:=hO2.frozen n;have hg2:=hO2.frozen (n+1);have hc1:=hO2.cell n (by simp;omega)
 have hc2:=hO2.cell (n+1) (by simp;omega)
 have HX:=(qsd (ai hO2 (ai hbut hn)));clear hO2 hbut HO2 hn hR;go_enter Tryz.func8,Tryz.ntmps8;go_wp2;go_ret;obtain ⟨hO2,hbut,hn⟩:=HX.out;refine ⟨rfl,?_,?_⟩
 · have h1:=(hO2.set n 4634696597773484032).set (n+1) 4634766966517661696
   rw [lent2_marks xs n hn] at h1;exact h1
 · exact But.below ((Below.refl _ _).alloc (Nat.le_refl _) _) ((hbut.set _ _).set _ _) (by simp) (Nat.le_refl _)
theorem rAsLent12 (xs:List Nat) (ao:Option Addr) (n cap B g:Nat) (w:World) (hn:n=xs.length) (hm:n≤17592186043904) (hR:Fs B w ao xs) (hB:B≤g) (hO:OwnF w g (lnt xs)) :
 Calls Tryz.prog 11 #[.slice (some ⟨g,0,none⟩) n (n+2),.slice ao n cap] w fun r w'=>r=.returned (.bool true)∧But g w w':=by
 have hgl:=hO.lt;have hc1:=hO.cell n (by rw [lnt_len];omega)
 have hc2:=hO.cell (n+1) (by rw [lnt_len];omega)
 have e1:(lnt xs).getD n 0=4634696597773484032:=by subst hn;simp [lnt]
 have e2:(lnt xs).getD (n+1) 0=4634766966517661696:=by subst hn;simp [lnt]
 rw [e1] at hc1;rw [e2] at hc2;have HX:=(qsd (ai hR (ai hO (ai hn (ai hB hgl)))));clear hR hO hn hB e1 e2 hgl;go_enter Tryz.func11,Tryz.ntmps11;go_wp2
 go_loopg [6,7] (n+2) (fun gk gv iv wr=>∃ (k:Nat) (M:List Nat),gk+k=n+2∧gv=.bool true∧iv=.int .i64 (k:Nat)∧Hid (OwnF wr g M) ∧
  Aside (M.length=n+2∧(∀ j,k≤j→M.getD j 0=(lnt xs).getD j 0)∧But g w wr))
 case atStart =>
  obtain ⟨hR,hO,hn,hB,hgl⟩:=HX.out;exact ⟨0,lnt xs,by omega,rfl,rfl,hO,by rw [lnt_len];omega,fun _ _=>rfl,But.refl _ _⟩
 case round =>
  obtain ⟨k,M,hk,rfl,rfl,HM,HA⟩:=hrel
  by_cases hk2:k=n+2
  · obtain rfl:gk=0:=by omega
    subst hk2;go_wp2;go_ret;exact ⟨rfl,HA.out.2.2⟩
  · obtain ⟨hl,hM,hbut⟩:=HA.out
    have hgc:=HM.out.cell k (by omega)
    have hgf:=HM.out.frozen k;have hklt:k<n+2:=by omega
    by_cases hkn:k<n
    · obtain ⟨hR,hO,hn,hB,hgl⟩:=HX.out
      obtain ⟨b,off,hlt,rfl,hcell⟩:=(hR.but hbut (by omega) hB) (by intro e;subst e;simp at hn;omega)
      have hxc:=hcell k (by omega)
      have e3:M.getD k 0=xs.getD k 0:=by
       rw [hM k (Nat.le_refl _)];simp [lnt,List.getD_eq_getElem?_getD,List.getElem?_append_left (show k<xs.length by omega)]
      rw [e3] at hgc;obtain ⟨x,hx1⟩:∃ x,xs.getD k 0=x:=⟨_,rfl⟩;rw [hx1] at hgc hxc;have hd:decide ((n:Int)≤(k:Int))=false:=decide_eq_false (by omega)
      clear hl hM hbut hR hO hn hB hgl hcell e3 hx1;go_wp2
      go_quiet (first | (go_at_call 26;exact Calls.quiet_of_same (alike12 x _)))
      go_wp2
      go_roundg (gk-1)
      case measure=>omega
      case rel =>
       obtain ⟨hl,hM,hbut⟩:=HA.out;refine ⟨k+1,M.set k 4635541022703616000,by omega,by first | rfl | simp,by first | go_num | (congr 1;omega),(HM.out.set k 4635541022703616000).drew,by simp [hl],fun j hj=>?_,((butN12 hbut _).set k _)⟩
       rw [getD_set_ne _ _ _ _ (by omega)]
       exact hM j (by omega)
    · have hd:decide ((n:Int)≤(k:Int))=true:=decide_eq_true (by omega)
      clear hl hM hbut;go_wp2
      go_quiet (fail)
      go_wp2
      go_roundg (gk-1)
      case measure=>omega
      case rel =>
       obtain ⟨hl,hM,hbut⟩:=HA.out;refine ⟨k+1,M.set k 4635541022703616000,by omega,by first | rfl | simp,by first | go_num | (congr 1;omega),(HM.out.set k 4635541022703616000).drew,by simp [hl],fun j hj=>?_,((butN12 hbut _).set k _)⟩
       rw [getD_set_ne _ _ _ _ (by omega)]
       exact hM j (by omega)
end
namespace PB
open Go.RowKit Go.Proofs.YtihjfhpoiheomaaGreatDoor
def U (n:Nat):Value:=.float .f64 n
def Rd (B:Nat) (w:World) (ao:Option Addr) (xs:List Nat):Prop :=
 xs≠[]→∃ b off,b<B∧ao=some ⟨b,off,none⟩∧∀ i,i<xs.length→w.cell? ⟨b,off+i,none⟩=some (.float .f64 (xs.getD i 0))
theorem Rd.nil (B:Nat) (w:World) (ao:Option Addr):Rd B w ao []:=fun h=>absurd rfl h
def Lt (lo:Nat) (w:World) (v:Value) (xs:List Nat):Prop:=w.ownsRow lo 40 1 v xs.length (xs.map U)
theorem Lt.shape {lo:Nat}{w:World}{v:Value}{xs:List Nat}(h:Lt lo w v xs):∃ ao cap,v=.slice ao xs.length cap∧xs.length≤cap∧cap≤maxLen∧Rd w.heap.size w ao xs:=by
 rcases h.2 with ⟨rfl,h0⟩|⟨g,cap,cur,rfl,hlo,hg,hn,hm,hs,ht⟩
 · refine ⟨none,0,by rw [h0],by omega,by unfold maxLen;omega,?_⟩
   have:xs=[]:=List.length_eq_zero_iff.1 h0;rw [this];exact Rd.nil _ _ _
 · refine ⟨_,cap,rfl,hn,hm,fun _=>⟨g,0,(Array.getElem?_eq_some_iff.1 hg).1,rfl,fun i hi=>?_⟩⟩
   have:=h.cells (g:=g) (by simp [Value.ownBlock]) i (U (xs.getD i 0)) (by simp [hi])
   have e:(⟨g,0,none⟩:Addr).add i=⟨g,0+i,none⟩:=by unfold Addr.add;split <;> simp_all
   rw [e] at this;simpa [U] using this
theorem Lt.below {lo:Nat}{w w':World}{v:Value}{xs:List Nat}(h:Lt lo w v xs) (hb:Below w.heap.size w w'):Lt lo w' v xs:=by
 refine ⟨h.1,?_⟩
 rcases h.2 with hn|⟨g,cap,cur,rfl,hlo,hg,rest⟩
 · exact .inl hn
 · refine .inr ⟨g,cap,cur,rfl,hlo,?_,rest⟩
   rw [hb.block g (Array.getElem?_eq_some_iff.1 hg).1];exact hg
theorem Lt.mono {lo lo':Nat}{w:World}{v:Value}{xs:List Nat}(h:Lt lo w v xs) (hl:lo'≤lo):Lt lo' w v xs:=by
 refine ⟨h.1,?_⟩
 rcases h.2 with hn|⟨g,cap,cur,rfl,hlo,rest⟩
 · exact .inl hn
 · exact .inr ⟨g,cap,cur,rfl,by omega,rest⟩
theorem Tryz.info40:(Tryz.prog.info? 40).map (fun i=>(i.zero,i.size,i.bytes))=some (some (.float .f64 0),1,8):=by kernel_rfl
end PB
end Go.Proofs.YtihjfhpoiheomaaGreatDoor
