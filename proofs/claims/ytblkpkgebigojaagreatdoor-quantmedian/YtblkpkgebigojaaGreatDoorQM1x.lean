import Derived.Test.YtblkpkgebigojaaGreatDoorRS15x
import Derived.Test.YtblkpkgebigojaaGreatDoorQR0x
import Derived.Test.YtblkpkgebigojaaGreatDoorZ9x
import Derived.BigQuiet
import Derived.Deep.RegionHeld3
set_option linter.unusedVariables false
set_option linter.unusedSimpArgs false
set_option maxHeartbeats 16000000
set_option maxRecDepth 20000
namespace Go.Proofs.YtblkpkgebigojaaGreatDoor
namespace J
end J
section
open Go Go.RowKit J
theorem rnd_lies {V:Int}(hV:V≠0) (k:Nat) (hk:k≤90000) (hb:V.natAbs<2^k):∃ K t m,(∀ j,j=1074→Lies K t m V.natAbs (2^j))∧∀ mode:Int,0≤mode→mode≤4→rndS (exV V) mode=(rK mode (decide (V<0)) K t m+(if V<0 then 9223372036854775808 else 0),0):=by
 obtain ⟨X,e,ho,hX,he0,he1,hv,hbl,F⟩:=ex_parts13 hV k hk hb;have hL:=lies X e hX (by omega) (by omega) (-2148) he0 (by omega)
 rw [show (e - -2148).toNat=(e+2148).toNat by congr 1,hv] at hL
 refine ⟨flK X e,(plc 53 (-1074) 1024 X e).2.2.1,(plc 53 (-1074) 1024 X e).2.2.2,fun j hj=>?_,fun mode hm0 hm4=>?_⟩
 rotate_left
 · rw [ho,rndS_form mode (decide (V<0)) X e hm0 hm4]
   have hX0:X≠0:=by omega
   unfold rS rW wd64;rw [if_neg hX0,if_neg hX0,rndK_eq]
   by_cases q:V<0
   · simp [q]
   · simp [q]
 · rw [hj,←show ((-1074:Int) - -2148).toNat=1074 from by decide]
   exact hL
theorem fv_half (k:Nat) (hk:k=1073):fvW 4602678819172646912=((2^k:Nat):Int):=by subst hk;decide +kernel
theorem bd_sum {x y:Nat}(hx:x<18446744073709551616) (fx:finW x) (hy:y<18446744073709551616) (fy:finW y) (z:Nat) (hz:z=2098):Bd (z+1) (fvW x+fvW y):=by
 have b1:=bd_fv16 hx fx z hz;have b2:=bd_fv16 hy fy z hz;exact b1.add b2
theorem Rz.rnd {x y:Nat}{mode:Int}(hx:x<18446744073709551616) (fx:finW x) (hy:y<18446744073709551616) (fy:finW y) (hm0:0≤mode) (hm4:mode≤4) (h:Nat) (hh:h=1073) :
 Rz mode (fvW x+fvW y) 2 (rndS (gV 2148 ((fvW x+fvW y)*((2^h:Nat):Int))) mode).1∧(rndS (gV 2148 ((fvW x+fvW y)*((2^h:Nat):Int))) mode).2=0:=by
 obtain ⟨z,hz⟩:∃ z,z=2098:=⟨_,rfl⟩;have bd:=bd_sum hx fx hy fy z hz;have hp:=Nat.two_pow_pos h
 by_cases q:fvW x+fvW y=0
 · rw [q,Int.zero_mul,g_zero]
   have e:rndS o00 mode=(0,0):=by unfold rndS o00;rw [if_neg (by omega)];rfl
   rw [e];exact ⟨⟨by decide,.inl ⟨rfl,by decide,by decide⟩⟩,rfl⟩
 · have q2:(fvW x+fvW y)*((2^h:Nat):Int)≠0:=fun c=>by rcases Int.mul_eq_zero.1 c with d | d;exact q d;omega
   have hb:((fvW x+fvW y)*((2^h:Nat):Int)).natAbs<2^(z+1+h+1):=by
    rw [Int.natAbs_mul,Int.natAbs_natCast];unfold Bd at bd;have:=Nat.mul_le_mul_right (2^h) bd;rw [←Nat.pow_add] at this;exact Nat.lt_of_le_of_lt this (Nat.pow_lt_pow_right (by decide) (by omega))
   obtain ⟨K,t,m,l,r⟩:=rnd_lies q2 (z+1+h+1) (by omega) hb
   have r':=r mode hm0 hm4;have e:exV ((fvW x+fvW y)*((2^h:Nat):Int))=gV 2148 ((fvW x+fvW y)*((2^h:Nat):Int)):=rfl;rw [e] at r';rw [r'];have sg:=neg_scale (fvW x+fvW y) hp;refine ⟨⟨by decide,.inr ⟨q,K,t,m,?_,?_⟩⟩,rfl⟩
   · obtain ⟨j,hj⟩:∃ j,j=1074:=⟨_,rfl⟩
     refine (l j hj).ratio (by decide) ?_
     rw [Int.natAbs_mul,Int.natAbs_natCast,show j=h+1 by omega,Nat.pow_succ,Nat.mul_assoc]
   · by_cases n:fvW x+fvW y<0
     · rw [decide_eq_true n,decide_eq_true (sg.2 n),if_pos n,if_pos (sg.2 n)]
     · rw [decide_eq_false n,decide_eq_false (fun c=>n (sg.1 c)),if_neg n,if_neg (fun c=>n (sg.1 c))]
theorem half_core16 (x y:Nat) (ox oy os oh oq:Option (Bool×Nat×Int)) (F1:Fm ox) (F2:Fm oy) (F3:Fm os) (F4:Fm oh) (F5:Fm oq) (w:World) (hT:Tab w)
 (HX:Hid (∀ u:World,Tab u→Calls Tryz.prog 51 #[.float .f64 x] u fun r w'=>(∃ v,r=.returned (.tuple #[.agg #[.bool (dN ox),v,.int .i64 (dE ox)],.int .i64 0])∧Nt u.heap.size w' v (dX ox))∧Below u.heap.size u w'))
 (HY:Hid (∀ u:World,Tab u→Calls Tryz.prog 51 #[.float .f64 y] u fun r w'=>(∃ v,r=.returned (.tuple #[.agg #[.bool (dN oy),v,.int .i64 (dE oy)],.int .i64 0])∧Nt u.heap.size w' v (dX oy))∧Below u.heap.size u w'))
 (HH:Hid (∀ u:World,Tab u→Calls Tryz.prog 51 #[.float .f64 4602678819172646912] u fun r w'=>(∃ v,r=.returned (.tuple #[.agg #[.bool (dN oh),v,.int .i64 (dE oh)],.int .i64 0])∧Nt u.heap.size w' v (dX oh))∧Below u.heap.size u w'))
 (HS:Hid (∀ (u:World) (a b:Option Addr) (c d:Nat),Tab u→Nt 0 u (.slice a (ws (dX ox)).length c) (dX ox)→Nt 0 u (.slice b (ws (dX oy)).length d) (dX oy)→Calls Tryz.prog 88 #[.agg #[.bool (dN ox),.slice a (ws (dX ox)).length c,.int .i64 (dE ox)],.agg #[.bool (dN oy),.slice b (ws (dX oy)).length d,.int .i64 (dE oy)]] u fun r w'=>(∃ v,r=.returned (.tuple #[.agg #[.bool (dN os),v,.int .i64 (dE os)],.int .i64 0])∧Nt u.heap.size w' v (dX os))∧Below u.heap.size u w'))
 (HM:Hid (∀ (u:World) (a b:Option Addr) (c d:Nat),Tab u→Nt 0 u (.slice a (ws (dX os)).length c) (dX os)→Nt 0 u (.slice b (ws (dX oh)).length d) (dX oh)→Calls Tryz.prog 89 #[.agg #[.bool (dN os),.slice a (ws (dX os)).length c,.int .i64 (dE os)],.agg #[.bool (dN oh),.slice b (ws (dX oh)).length d,.int .i64 (dE oh)]] u fun r w'=>(∃ v,r=.returned (.tuple #[.agg #[.bool (dN oq),v,.int .i64 (dE oq)],.int .i64 0])∧Nt u.heap.size w' v (dX oq))∧Below u.heap.size u w')) :
 Calls Tryz.prog 71 #[.float .f64 x,.float .f64 y] w fun r w'=>DVal 0 w' r oq∧Below w.heap.size w w':=by
 have FF:=(qsd (ai F1 (ai F2 (ai F3 (ai F4 (ai F5 hT))))));clear F1 F2 F3 F4 F5 hT;obtain ⟨W0,hW0⟩:∃ W,W=w.alloc (Obj.cells #[.bool false,.slice none 0 0,.int .i64 0] 62):=⟨_,rfl⟩
 have H:Aside (Lo W0 w.heap.size o00∧Below w.heap.size w W0):=by
  subst hW0;exact ⟨Lo.zero w,below_alloc _ _⟩
 have HW:=qsd hW0;clear hW0;go_enter Tryz.func71,Tryz.ntmps71
 go_upto_region 1 with fail
 rw [←HW.out];clear HW;have C:=hid (HX.out _ (FF.out.2.2.2.2.2.belows H.out.2))
 go_wp2_with fail
 refine C.out.mono ?_;rintro r v1 ⟨⟨s1,rfl,hN⟩,hb⟩;obtain ⟨a1,c1,rfl,hN0⟩:=Lo.shape FF.out.1 hN;obtain ⟨V1,hV⟩:∃ V,V=v1.alloc (Obj.cells #[.bool (dN ox),.slice a1 (ws (dX ox)).length c1,.int .i64 (dE ox)] 62):=⟨_,rfl⟩;obtain ⟨g1,hgd⟩:∃ g,g=v1.heap.size:=⟨_,rfl⟩;have hbl:Below v1.heap.size v1 V1:=by rw [hV];exact below_alloc _ _
 have K1:Aside (Dk V1 g1 (dN ox) (.slice a1 (ws (dX ox)).length c1) (dE ox)∧Nt 0 V1 (.slice a1 (ws (dX ox)).length c1) (dX ox)):=by
  subst hV hgd;exact ⟨Dk.new _ _ _ _,hN0.below (below_alloc _ _)⟩
 replace H:=qsd (ai ((H.out.1.below hb).below hbl) ((H.out.2.trans (hb.mono H.out.2.size)).trans (hbl.mono (Nat.le_trans H.out.2.size hb.size))));have HV:=(qsd (ai hV hgd));clear C hb hbl hN hN0 hV hgd
 go_upto_region 2 with fail
 rw [←HV.out.1,←HV.out.2];clear HV;have C:=hid (HY.out _ (FF.out.2.2.2.2.2.belows H.out.2))
 go_wp2_with fail
 refine C.out.mono ?_;rintro r v2 ⟨⟨s2,rfl,hN⟩,hb⟩;obtain ⟨a2,c2,rfl,hN0⟩:=Lo.shape FF.out.2.1 hN;obtain ⟨V2,hV⟩:∃ V,V=v2.alloc (Obj.cells #[.bool (dN oy),.slice a2 (ws (dX oy)).length c2,.int .i64 (dE oy)] 62):=⟨_,rfl⟩;obtain ⟨g2,hgd⟩:∃ g,g=v2.heap.size:=⟨_,rfl⟩;have hbl:Below v2.heap.size v2 V2:=by rw [hV];exact below_alloc _ _
 have K2:Aside (Dk V2 g2 (dN oy) (.slice a2 (ws (dX oy)).length c2) (dE oy)∧Nt 0 V2 (.slice a2 (ws (dX oy)).length c2) (dX oy)):=by
  subst hV hgd;exact ⟨Dk.new _ _ _ _,hN0.below (below_alloc _ _)⟩
 replace H:=qsd (ai ((H.out.1.below hb).below hbl) ((H.out.2.trans (hb.mono H.out.2.size)).trans (hbl.mono (Nat.le_trans H.out.2.size hb.size))));replace K1:=qsd (ai ((K1.out.1.below hb).below hbl) ((K1.out.2.below hb).below hbl));have HV:=(qsd (ai hV hgd));clear C hb hbl hN hN0 hV hgd
 go_upto_region 3 with fail
 rw [←HV.out.1,←HV.out.2];clear HV;obtain ⟨p10,p11,p12,f10,f11,f12⟩:=K1.out.1.facts;obtain ⟨p20,p21,p22,f20,f21,f22⟩:=K2.out.1.facts;have C:=hid (HS.out _ a1 a2 c1 c2 (FF.out.2.2.2.2.2.belows H.out.2) K1.out.2 K2.out.2);clear f10 f11 f12 f20 f21 f22
 go_wp2_with fail
 refine C.out.mono ?_;rintro r v3 ⟨⟨s3,rfl,hN⟩,hb⟩;obtain ⟨a3,c3,rfl,hN0⟩:=Lo.shape FF.out.2.2.1 hN;obtain ⟨V3,hV⟩:∃ V,V=v3.alloc (Obj.cells #[.bool (dN os),.slice a3 (ws (dX os)).length c3,.int .i64 (dE os)] 62):=⟨_,rfl⟩;obtain ⟨g3,hgd⟩:∃ g,g=v3.heap.size:=⟨_,rfl⟩;have hbl:Below v3.heap.size v3 V3:=by rw [hV];exact below_alloc _ _
 have K3:Aside (Dk V3 g3 (dN os) (.slice a3 (ws (dX os)).length c3) (dE os)∧Nt 0 V3 (.slice a3 (ws (dX os)).length c3) (dX os)):=by
  subst hV hgd;exact ⟨Dk.new _ _ _ _,hN0.below (below_alloc _ _)⟩
 replace H:=qsd (ai ((H.out.1.below hb).below hbl) ((H.out.2.trans (hb.mono H.out.2.size)).trans (hbl.mono (Nat.le_trans H.out.2.size hb.size))));have HV:=(qsd (ai hV hgd));clear C hb hbl hN hN0 hV hgd K1 p10 p11 p12 K2 p20 p21 p22
 go_upto_region 4 with fail
 rw [←HV.out.1,←HV.out.2];clear HV;have C:=hid (HH.out _ (FF.out.2.2.2.2.2.belows H.out.2))
 go_wp2_with fail
 refine C.out.mono ?_;rintro r v4 ⟨⟨s4,rfl,hN⟩,hb⟩;obtain ⟨a4,c4,rfl,hN0⟩:=Lo.shape FF.out.2.2.2.1 hN;obtain ⟨V4,hV⟩:∃ V,V=v4.alloc (Obj.cells #[.bool (dN oh),.slice a4 (ws (dX oh)).length c4,.int .i64 (dE oh)] 62):=⟨_,rfl⟩;obtain ⟨g4,hgd⟩:∃ g,g=v4.heap.size:=⟨_,rfl⟩;have hbl:Below v4.heap.size v4 V4:=by rw [hV];exact below_alloc _ _
 have K4:Aside (Dk V4 g4 (dN oh) (.slice a4 (ws (dX oh)).length c4) (dE oh)∧Nt 0 V4 (.slice a4 (ws (dX oh)).length c4) (dX oh)):=by
  subst hV hgd;exact ⟨Dk.new _ _ _ _,hN0.below (below_alloc _ _)⟩
 replace H:=qsd (ai ((H.out.1.below hb).below hbl) ((H.out.2.trans (hb.mono H.out.2.size)).trans (hbl.mono (Nat.le_trans H.out.2.size hb.size))));replace K3:=qsd (ai ((K3.out.1.below hb).below hbl) ((K3.out.2.below hb).below hbl));have HV:=(qsd (ai hV hgd));clear C hb hbl hN hN0 hV hgd
 go_upto_region 5 with fail
 rw [←HV.out.1,←HV.out.2];clear HV;obtain ⟨p30,p31,p32,f30,f31,f32⟩:=K3.out.1.facts;obtain ⟨p40,p41,p42,f40,f41,f42⟩:=K4.out.1.facts;have C:=hid (HM.out _ a3 a4 c3 c4 (FF.out.2.2.2.2.2.belows H.out.2) K3.out.2 K4.out.2);clear f30 f31 f32 f40 f41 f42
 go_wp2_with fail
 refine C.out.mono ?_;rintro r v5 ⟨⟨s5,rfl,hN⟩,hb⟩;obtain ⟨a5,c5,rfl,hN0⟩:=Lo.shape FF.out.2.2.2.2.1 hN;obtain ⟨V5,hV⟩:∃ V,V=v5.alloc (Obj.cells #[.bool (dN oq),.slice a5 (ws (dX oq)).length c5,.int .i64 (dE oq)] 62):=⟨_,rfl⟩;obtain ⟨g5,hgd⟩:∃ g,g=v5.heap.size:=⟨_,rfl⟩;have hbl:Below v5.heap.size v5 V5:=by rw [hV];exact below_alloc _ _
 have K5:Aside (Dk V5 g5 (dN oq) (.slice a5 (ws (dX oq)).length c5) (dE oq)∧Nt 0 V5 (.slice a5 (ws (dX oq)).length c5) (dX oq)):=by
  subst hV hgd;exact ⟨Dk.new _ _ _ _,hN0.below (below_alloc _ _)⟩
 replace H:=qsd (ai ((H.out.1.below hb).below hbl) ((H.out.2.trans (hb.mono H.out.2.size)).trans (hbl.mono (Nat.le_trans H.out.2.size hb.size))));have HV:=(qsd (ai hV hgd));clear C hb hbl hN hN0 hV hgd K3 p30 p31 p32 K4 p40 p41 p42
 go_upto_region 6 with fail
 rw [←HV.out.1,←HV.out.2];clear HV;obtain ⟨p0,p1,p2,f0,f1,f2⟩:=K5.out.1.facts;obtain ⟨a0,c0,D0,N0⟩:=H.out.1;obtain ⟨y0,y1,y2,z0,z1,z2⟩:=D0.facts;clear D0 N0;go_wp2;exact end14 Tryz.results71 rfl H.out.1 H.out.2 (Nat.le_refl _) K5.out.2
theorem half16 (x y:Nat) (hx:x<18446744073709551616) (fx:finW x) (hy:y<18446744073709551616) (fy:finW y) (h:Nat) (hh:h=1073) (w:World) (hT:Tab w) :
 Calls Tryz.prog 71 #[.float .f64 x,.float .f64 y] w fun r w'=>DVal 0 w' r (gV 2148 ((fvW x+fvW y)*((2^h:Nat):Int)))∧Below w.heap.size w w':=by
 obtain ⟨z,hz⟩:∃ z,z=2098:=⟨_,rfl⟩;have b1:=bd_fv16 hx fx z hz;have b2:=bd_fv16 hy fy z hz;have bs:=b1.add b2;have f5:finW 4602678819172646912:=by decide
 have b5:Bd z (fvW 4602678819172646912):=bd_fv16 (by decide) f5 z hz
 have ea:addD (gV 1074 (fvW x)) (gV 1074 (fvW y))=gV 1074 (fvW x+fvW y):=g_add (u:=1074) (by omega) (by omega) b1 b2
 have em:mulD (gV 1074 (fvW x+fvW y)) (gV 1074 (fvW 4602678819172646912))=gV 2148 ((fvW x+fvW y)*((2^h:Nat):Int)):=by
  rw [g_mul (by omega) (by omega) (by omega) (by omega) bs b5,fv_half h hh]
 have F1:=g_fm (u:=1074) (by omega) (by omega) b1
 have F2:=g_fm (u:=1074) (by omega) (by omega) b2
 have F3:=g_fm (u:=1074) (by omega) (by omega) bs
 have F4:=g_fm (u:=1074) (by omega) (by omega) b5
 have bq:=bs.mul b5;rw [fv_half h hh] at bq;have F5:=g_fm (u:=2148) (by omega) (by omega) bq
 exact half_core16 x y _ _ _ _ _ F1 F2 F3 F4 F5 w hT (fun u hT=>of12 x hx fx u hT) (fun u hT=>of12 y hy fy u hT) (fun u hT=>of12 _ (by decide) f5 u hT)
  (fun u a b c d hT N1 N2=>addP12' F1 F2 N1 N2 hT ea F3) (fun u a b c d hT N1 N2=>mulP12 F3 F4 N1 N2 hT em F5)
end
section
open Go Go.RowKit J
attribute [local go_sem] st_float
theorem sub_self_fin (x:Nat) (hx:x<18446744073709551616) (fx:finW x):floatBits .sub .f64 x x=some 0:=by
 obtain ⟨m,k,hr,_⟩:=read_finW x hx fx
 show ((Ieee.double.read x).sum (Ieee.double.read x).opposite).map Ieee.double.write=some 0
 rw [hr];generalize Ieee.double.leastPlace+(k:Int)=p
 have ht:Ieee.signed (negW x) m (p-min p p).toNat+Ieee.signed (!negW x) m (p-min p p).toNat=0:=by
  unfold Ieee.signed
  cases negW x <;> simp <;> omega
 simp only [Ieee.Datum.opposite,Ieee.Datum.sum,ht,if_true,Option.map_some];have hs:(negW x&&!negW x)=false:=by cases negW x <;> rfl
 rw [hs];rfl
theorem sub_odd_self {x:Nat}(hx:x<18446744073709551616) (h:¬ finW x):floatBits .sub .f64 x x=none:=by
 rcases Nat.lt_trichotomy 9218868437227405312 (magW x) with q|q|q
 · obtain ⟨s,t,hr⟩:=read_nanW x q
   show ((Ieee.double.read x).sum (Ieee.double.read x).opposite).map Ieee.double.write=none
   rw [hr];rfl
 · have hr:=read_infW x hx q.symm
   show ((Ieee.double.read x).sum (Ieee.double.read x).opposite).map Ieee.double.write=none
   rw [hr]
   cases negW x <;> rfl
 · exact absurd q h
theorem order_nan13 (z:Nat) (h:9218868437227405312<z%9223372036854775808):(FloatKind.f64.format.order z 0==some .eq)=false:=order_nanL z 0 h _
theorem fin_e {x:Nat}(fx:finW x):magW x/4503599627370496<2047:=by unfold finW at fx;omega
theorem same16b {x y:Nat}(hx:x<18446744073709551616) (hy:y<18446744073709551616) (fx:finW x) (fy:finW y) (w:World) :
 Calls Tryz.prog 67 #[.float .f64 x,.float .f64 y] w fun r w'=>r=.returned (.bool (decide (x=y)))∧w'=w:=by
 obtain ⟨e1,h1,h2⟩:=bw_split17 x hx;obtain ⟨e2,h3,h4⟩:=bw_split17 y hy;have:=B.Same_any (negW x) (negW y) _ _ _ _ h1 h2 h3 h4 w;rw [B.cb_else _ _ _ (by have:=fin_e fx;omega),B.cb_else _ _ _ (by have:=fin_e fy;omega),←e1,←e2] at this
 exact this
theorem clx_fin {x:Nat}(fx:finW x):(clx x==3)=false:=by
 have:=fin_e fx;unfold clx B.cls;rw [if_neg (by omega)]
 split
 · split <;> rfl
 · rfl
theorem inf_fin {x:Nat}(fx:finW x):infB true x=false:=by
 unfold infB finW at *;simp;intro _;omega
def nanB16 (x:Nat):Bool:=B.odd (magW x/4503599627370496) (magW x%4503599627370496)
theorem nan_fin {x:Nat}(fx:finW x):nanB16 x=false:=by
 have:=fin_e fx;unfold nanB16 B.odd;simp;omega
theorem middle16 (x y:Nat) (hx:x<18446744073709551616) (fx:finW x) (hy:y<18446744073709551616) (fy:finW y) (mode:Int) (hm0:0≤mode) (hm4:mode≤4) (w:World) (hT:Tab w) :
 Calls Tryz.prog 32 #[.float .f64 x,.float .f64 y,.int .i64 mode] w fun r w'=>(∃ z,r=.returned (.tuple #[.float .f64 z,.int .i64 0])∧Rz mode (fvW x+fvW y) 2 z)∧Below w.heap.size w w':=by
 have CS:=hid (same16b hx hy fx fy w)
 by_cases h:x=y
 · subst h
   rw [decide_eq_true rfl] at CS
   have HR:Aside (Rz mode (fvW x+fvW x) 2 x):=by
    have:=(Rz.own mode hx fx).scale 2 (by decide)
    rw [show fvW x*((2:Nat):Int)=fvW x+fvW x by omega] at this
    exact this
   go_enter Tryz.func32,Tryz.ntmps32
   go_wp2_with fail
   refine CS.out.mono ?_;rintro r u ⟨rfl,hu⟩;rw [hu];clear hu u CS;go_wp2
   go_ret2
   exact ⟨⟨x,rfl,HR.out⟩,Below.refl _ _⟩
 · rw [decide_eq_false h] at CS
   have CI:=hid (inf17n x hx w);rw [inf_fin fx] at CI;have CX:=hid (class15 hx w);have CY:=hid (fun u:World=>class15 hy u)
   have kx:=clx_fin fx;have ky:=clx_fin fy;obtain ⟨cx,hcx⟩:∃ c,c=clx x:=⟨_,rfl⟩;obtain ⟨cy,hcy⟩:∃ c,c=clx y:=⟨_,rfl⟩;rw [←hcx] at CX kx;rw [←hcy] at CY ky;obtain ⟨hh,ehh⟩:∃ h,h=1073:=⟨_,rfl⟩;obtain ⟨r1,r2⟩:=Rz.rnd (mode:=mode) hx fx hy fy hm0 hm4 hh ehh;obtain ⟨z,hz⟩:∃ z,z=2098:=⟨_,rfl⟩;have b5:Bd z (fvW 4602678819172646912):=bd_fv16 (by decide) (by decide) z hz
   have bq:=(bd_sum hx fx hy fy z hz).mul b5;rw [fv_half hh ehh] at bq;have F5:=g_fm (u:=2148) (by omega) (by omega) bq
   have CH:=hid (fun (u:World) (hu:Below w.heap.size w u)=>half16 x y hx fx hy fy hh ehh u (hT.belows hu))
   obtain ⟨oq,hoq⟩:∃ o,o=gV 2148 ((fvW x+fvW y)*((2^hh:Nat):Int)):=⟨_,rfl⟩;rw [←hoq] at CH r1 r2 F5;obtain ⟨zz,hzz⟩:∃ q,q=(rndS oq mode).1:=⟨_,rfl⟩;have er:rndS oq mode=(zz,0):=Prod.ext hzz.symm r2;have HR:Aside (Rz mode (fvW x+fvW y) 2 zz):=by rw [hzz];exact r1
   have CR:=hid (fun (u:World) (a:Option Addr) (c:Nat) (hu:Below w.heap.size w u) (N:Nt 0 u (.slice a (ws (dX oq)).length c) (dX oq))=>roundP12 F5 N (hT.belows hu) mode _ er)
   have HF:=qsd F5;clear r1 r2 bq b5 hoq hzz er ehh hcx hcy h hT fx fy hx hy F5;go_enter Tryz.func32,Tryz.ntmps32
   go_wp2_with fail
   refine CS.out.mono ?_;rintro r u ⟨rfl,hu⟩;rw [hu];clear hu u CS
   go_wp2_with fail
   refine CI.out.mono ?_;rintro r u ⟨rfl,hu⟩;rw [hu];clear hu u CI
   go_wp2_with fail
   refine CX.out.mono ?_;rintro r u1 ⟨rfl,hb⟩;have HB:=qsd hb;clear hb CX
   go_wp2_with fail
   refine (CY.out _).mono ?_;rintro r u2 ⟨rfl,hb⟩;replace HB:=qsd (HB.out.trans (hb.mono HB.out.size));clear hb CY;have C:=hid (CH.out _ HB.out)
   go_wp2_with fail
   refine C.out.mono ?_;rintro r u3 ⟨⟨v,rfl,hN⟩,hb⟩;obtain ⟨a0,c0,rfl,hN0⟩:=Lo.shape HF.out hN;replace HB:=qsd (HB.out.trans (hb.mono HB.out.size));have C2:=hid (CR.out _ a0 c0 HB.out hN0);clear C hb hN hN0 CH CR
   go_wp2_with fail
   refine C2.out.mono ?_;rintro r u4 ⟨rfl,hb⟩;replace HB:=qsd (HB.out.trans (hb.mono HB.out.size));clear hb C2;go_wp2
   go_ret2
   exact ⟨⟨zz,rfl,HR.out⟩,HB.out⟩
theorem isnan16 {x:Nat}(hx:x<18446744073709551616) (w:World):Calls Tryz.prog 31 #[.float .f64 x] w fun r w'=>r=.returned (.bool (nanB16 x))∧Below w.heap.size w w':=by
 obtain ⟨e1,h1,h2⟩:=bw_split17 x hx;have:=B.isNaN_any (negW x) _ _ h1 h2 w;rw [←e1] at this;refine this.mono fun r w' h=>?_
 obtain ⟨h1,h2⟩:=h;rw [h2];exact ⟨h1,Below.refl _ _⟩
theorem any_take15n {xs:List Nat}{k:Nat}(h:k<xs.length):(xs.take (k+1)).any nanB16=((xs.take k).any nanB16 || nanB16 (xs.getD k 0)):=by
 rw [List.take_add_one,List.getElem?_eq_getElem h,List.getD_eq_getElem?_getD,List.getElem?_eq_getElem h,List.any_append]
 simp only [Option.toList,List.any_cons,List.any_nil,Bool.or_false,Option.getD_some]
theorem index16n (xs:List Nat) (ao:Option Addr) (n cap:Nat) (w:World) (hF:Fs w.heap.size w ao xs) (hn:n=xs.length) (hb:n≤17592186044416) (hW:W64 xs) :
 Calls Tryz.prog 66 #[.slice ao n cap,.func (.func 31) #[] #[]] w fun r w'=>∃ z:Int,r=.returned (.int .i64 z)∧(decide (0≤z)=xs.any nanB16)∧Below w.heap.size w w':=by
 have HN:=(qsd (ai hn (ai hW hF)));clear hF hn hW;go_enter Tryz.func66,Tryz.ntmps66;go_wp2
 go_loopg [8] n (fun gk iv wr=>∃ k:Nat,gk+k=n∧iv=.int .i64 (k:Nat)∧Aside ((xs.take k).any nanB16=false∧Below w.heap.size w wr))
 case atStart=>exact ⟨0,rfl,by first | rfl | simp,by simp,Below.refl _ _⟩
 case round =>
  obtain ⟨k,hgk,rfl,HA⟩:=hrel
  by_cases hk:k<n
  · have hdk:decide ((k:Int)<(n:Int))=true:=by simp;omega
    have bk:(k:Int)<(n:Int):=by omega
    obtain ⟨k1,hk1⟩:∃ x,x=k+1:=⟨_,rfl⟩;have wk:IntKind.i64.wrap ((k:Int)+1)=(k1:Int):=wrapZ (by omega) (by omega)
    obtain ⟨hn,hW,hF⟩:=HN.out;obtain ⟨b,off,rfl,c2⟩:=hF.at HA.out.2 k (by omega)
    have hx:xs.getD k 0<18446744073709551616:=hW _ (getD_mem15 (by omega))
    have ht:=any_take15n (xs:=xs) (k:=k) (by omega)
    obtain ⟨x,hxx⟩:∃ x,x=xs.getD k 0:=⟨_,rfl⟩;rw [←hxx] at c2 hx ht;have D:=hid (isnan16 hx wr);rw [HA.out.1,Bool.false_or] at ht;have HK:=(qsd (ai hk1 ht));obtain ⟨t,htt⟩:∃ t,t=nanB16 x:=⟨_,rfl⟩;rw [←htt] at D ht;have HT:=qsd htt
    have hany:Aside (t=true→xs.any nanB16=true):=fun h=>by
     rw [List.any_eq_true];exact ⟨x,by rw [hxx];exact getD_mem15 (by omega),by rw [←HT.out];exact h⟩
    have HT2:=qsd ht;clear hn hW hF hx ht hxx hk1 htt
    go_wp2_with fail
    refine D.out.mono ?_;rintro r v ⟨rfl,hv⟩;have HB:=qsd (HA.out.2.trans (hv.mono HA.out.2.size));clear D hv
    cases t
    · go_wp2
      go_roundg (n-k1)
      case measure=>have:=HK.out;omega
      case rel=>exact ⟨k1,by have:=HK.out;omega,by first | rfl | simp,by rw [HK.out.1];exact HT2.out,HB.out⟩
    · go_wp2
      refine bodyPost_ret (v:=.int .i64 (k:Nat)) (by simp [results,Tryz.results66,go_sem]) rfl ?_
      exact ⟨k,rfl,by rw [hany.out (by first | rfl | trivial)];simp,HB.out⟩
  · have hdk:decide ((k:Int)<(n:Int))=false:=by simp;omega
    have E:Aside (xs.any nanB16=false):=by
     have h1:=HA.out.1;rw [List.take_of_length_le (by have:=HN.out.1;omega)] at h1
     exact h1
    go_wp2;refine bodyPost_ret (v:=.int .i64 (-1)) (by simp [results,Tryz.results66,go_sem]) rfl ?_
    exact ⟨-1,rfl,by rw [E.out];rfl,HA.out.2⟩
theorem contains16n (xs:List Nat) (ao:Option Addr) (n cap:Nat) (w:World) (hF:Fs w.heap.size w ao xs) (hn:n=xs.length) (hb:n≤17592186044416) (hW:W64 xs) :
 Calls Tryz.prog 30 #[.slice ao n cap,.func (.func 31) #[] #[]] w fun r w'=>r=.returned (.bool (xs.any nanB16))∧Below w.heap.size w w':=by
 have C:=hid (index16n xs ao n cap w hF hn hb hW);clear hF hn hW;go_enter Tryz.func30,Tryz.ntmps30
 go_wp2_with fail
 refine C.out.mono ?_;rintro r v ⟨z,rfl,hz,hv⟩;have HZ:=(qsd (ai hz hv));clear C hz hv;go_wp2;go_ret;exact ⟨by rw [←HZ.out.1];first | rfl | simp,HZ.out.2⟩
end
section
open Go Go.RowKit J
attribute [local go_sem] st_float
theorem any_nan {xs:List Nat}(hf:∀ x ∈ xs,finW x):xs.any nanB16=false:=by
 rw [List.any_eq_false];intro x hx;rw [nan_fin (hf x hx)];decide
theorem Median_mode (a:Option Addr) (n c:Nat) (mode:Int) (w:World) (h:mode<0∨4<mode) :
 Calls Tryz.prog 11 #[.slice a n c,.int .i64 mode] w fun r w'=>r=.returned (.tuple #[.float .f64 0,.int .i64 1])∧Below w.heap.size w w':=by
 by_cases h1:mode<0
 · have d1:decide (mode<0)=true:=decide_eq_true h1
   clear h;go_enter Tryz.func11,Tryz.ntmps11;go_wp2
   go_ret2
   exact ⟨rfl,Below.refl _ _⟩
 · have d1:decide (mode<0)=false:=decide_eq_false h1
   have d2:decide (4<mode)=true:=decide_eq_true (by omega)
   clear h;go_enter Tryz.func11,Tryz.ntmps11;go_wp2
   go_ret2
   exact ⟨rfl,Below.refl _ _⟩
theorem Median_long (a:Option Addr) (n c:Nat) (mode:Int) (w:World) (hm0:0≤mode) (hm4:mode≤4) (hn:65536<n) :
 Calls Tryz.prog 11 #[.slice a n c,.int .i64 mode] w fun r w'=>r=.returned (.tuple #[.float .f64 0,.int .i64 2])∧Below w.heap.size w w':=by
 have d1:decide (mode<0)=false:=decide_eq_false (by omega)
 have d2:decide (4<mode)=false:=decide_eq_false (by omega)
 have d3:decide ((65536:Int)<(n:Int))=true:=by simp;omega
 clear hm0 hm4 hn;go_enter Tryz.func11,Tryz.ntmps11;go_wp2
 go_ret2
 exact ⟨rfl,Below.refl _ _⟩
theorem Median_none (a:Option Addr) (c:Nat) (mode:Int) (w:World) (hm0:0≤mode) (hm4:mode≤4) :
 Calls Tryz.prog 11 #[.slice a 0 c,.int .i64 mode] w fun r w'=>r=.returned (.tuple #[.float .f64 0,.int .i64 3])∧Below w.heap.size w w':=by
 have d1:decide (mode<0)=false:=decide_eq_false (by omega)
 have d2:decide (4<mode)=false:=decide_eq_false (by omega)
 have C:=hid (contains16n [] a 0 c w (Fs.nil _ _ _) rfl (by omega) (fun x hx=>by cases hx))
 rw [List.any_nil] at C;clear hm0 hm4;go_enter Tryz.func11,Tryz.ntmps11
 go_wp2_with fail
 refine C.out.mono ?_;rintro r u ⟨rfl,hb⟩;go_wp2
 go_ret2
 exact ⟨rfl,hb⟩
theorem Median16 (xs:List Nat) (a:Option Addr) (n c:Nat) (mode:Int) (w:World) (hT:Tab w) (hF:Fs w.heap.size w a xs) (hn:n=xs.length) (hW:W64 xs) (hf:∀ x ∈ xs,finW x) (h1:1≤n) (h2:n≤65536) (hm0:0≤mode) (hm4:mode≤4) :
 Calls Tryz.prog 11 #[.slice a n c,.int .i64 mode] w fun r w'=>(∃ z,r=.returned (.tuple #[.float .f64 z,.int .i64 0])∧Rz mode (fvW ((sortL xs).getD ((n-1)/2) 0)+fvW ((sortL xs).getD (n/2) 0)) 2 z)∧Below w.heap.size w w':=by
 have d1:decide (mode<0)=false:=decide_eq_false (by omega)
 have d2:decide (4<mode)=false:=decide_eq_false (by omega)
 have d3:decide ((65536:Int)<(n:Int))=false:=by simp;omega
 have d4:((n:Int)==0)=false:=by simp;omega
 have C1:=hid (contains16n xs a n c w hF hn (by omega) hW)
 rw [any_nan hf] at C1;have C2:=hid (fun (u:World) (hu:Below w.heap.size w u)=>Sort15 xs a n c u ((hF.below hu).mono hu.size) hn (by omega) hW)
 obtain ⟨n1,e1⟩:∃ k,k=n-1:=⟨_,rfl⟩;obtain ⟨i,ei⟩:∃ k,k=n1/2:=⟨_,rfl⟩;obtain ⟨j,ej⟩:∃ k,k=n/2:=⟨_,rfl⟩;rw [←e1,←ei,←ej];have hi:i<xs.length:=by omega
 have hj:j<xs.length:=by omega
 have m1:=sort_mem hf hi;have m2:=sort_mem hf hj;obtain ⟨x,hx⟩:∃ x,x=(sortL xs).getD i 0:=⟨_,rfl⟩;obtain ⟨y,hy⟩:∃ y,y=(sortL xs).getD j 0:=⟨_,rfl⟩;rw [←hx] at m1 ⊢;rw [←hy] at m2 ⊢;have C3:=hid (fun (u:World) (hu:Below w.heap.size w u)=>middle16 x y (hW _ m1) (hf _ m1) (hW _ m2) (hf _ m2) mode hm0 hm4 u (hT.belows hu))
 have w1:IntKind.i64.wrap ((n:Int)-1)=(n1:Int):=wrapZ (by omega) (by omega)
 have w2:Int.tdiv (n1:Int) 2=(i:Int):=by rw [ei];rfl
 have w3:Int.tdiv (n:Int) 2=(j:Int):=by rw [ej];rfl
 have w4:IntKind.i64.wrap (i:Int)=(i:Int):=wrapZ rfl (by omega)
 have w5:IntKind.i64.wrap (j:Int)=(j:Int):=wrapZ rfl (by omega)
 have w6:((n:Int)-1)=(n1:Int):=by omega
 have w7:IntKind.i64.wrap (n1:Int)=(n1:Int):=wrapZ rfl (by omega)
 have hin:(i:Int)<(n:Int):=by omega
 have hjn:(j:Int)<(n:Int):=by omega
 have hi0:(0:Int)≤(i:Int):=by omega
 have hj0:(0:Int)≤(j:Int):=by omega
 have HX:=(qsd (ai hx (ai hy (ai hi (ai hj hn)))));clear hT hF hW hf h1 h2 hm0 hm4 e1 ei ej m1 m2 hx hy hi hj hn;go_enter Tryz.func11,Tryz.ntmps11
 go_wp2_with fail
 refine C1.out.mono ?_;rintro r u ⟨rfl,hb⟩;have HB:=qsd hb;have C:=hid (C2.out _ hb);clear hb C1 C2
 go_wp2_with fail
 refine C.out.mono ?_;rintro r u2 ⟨rfl,hO,hb⟩;replace HB:=qsd (HB.out.trans (hb.mono HB.out.size));obtain ⟨b,hb0⟩:∃ b,b=u.heap.size:=⟨_,rfl⟩;rw [←hb0] at hO ⊢
 have c1:u2.cell? ⟨b,i,none⟩=some (.float .f64 x):=by
  have:=hO.cell i (by rw [sortL_len];exact HX.out.2.2.1)
  rw [this,HX.out.1]
 have c2:u2.cell? ⟨b,j,none⟩=some (.float .f64 y):=by
  have:=hO.cell j (by rw [sortL_len];exact HX.out.2.2.2.1)
  rw [this,HX.out.2.1]
 have HD:Aside (Below w.heap.size w u2.drew):=⟨HB.out.os,HB.out.tape,HB.out.output,HB.out.size,HB.out.block⟩;have kS:Aside (u2.drew.cell? ⟨b,i,none⟩=some (.float .f64 x)∧u2.drew.cell? ⟨b,j,none⟩=some (.float .f64 y)):=⟨c1,c2⟩;have HLt:=qsd hO.lt;clear hO hb hb0 C
 go_upto_region 10 with fail
 go_region_held3 (fun w'=>w'.cell? ⟨b,i,none⟩=some (.float .f64 x)∧w'.cell? ⟨b,j,none⟩=some (.float .f64 y)) (with_reducible exact kS.out) (first
  | (go_at_call 32
     with_reducible refine (C3.out _ HD.out).mono ?_
     rintro r v ⟨⟨z,rfl,hz⟩,hb⟩;have HZ:=qsd (ai hz (HD.out.trans (hb.mono HD.out.size)))
     have kS:Aside (v.cell? ⟨b,i,none⟩=some (.float .f64 x)∧v.cell? ⟨b,j,none⟩=some (.float .f64 y)):=by
      have e:=hb.block b HLt.out;exact ⟨(World.cell?_of_block (a:=⟨b,i,none⟩) e).trans kS.out.1,(World.cell?_of_block (a:=⟨b,j,none⟩) e).trans kS.out.2⟩
     clear hb hz))
 all_goals
  go_wp2_with fail
  go_ret2
  exact ⟨⟨z,rfl,HZ.out.1⟩,HZ.out.2⟩
end
section
open Go Go.RowKit J
open Go.Proofs.YtblkpkgebigojaaGreatDoor.B (f64bits f64frombits)
attribute [local go_sem] st_float f64bits f64frombits
abbrev l16:List Nat:=[4621819117588971520,4630826316843712512,4626322717216342016,4629137466983448576]
theorem live16 (w:World) (hT:Tab w):Calls Tryz.prog 8 #[] w fun r w'=>r=.returned (.bool true)∧Below w.heap.size w w':=by
 have o1:(FloatKind.f64.format.order 4625619029774565376 4625619029774565376==some .eq)=true:=by decide +kernel
 have o2:(FloatKind.f64.format.order 4627730092099895296 4627730092099895296==some .eq)=true:=by decide +kernel
 obtain ⟨W1,hW1⟩:∃ W,W=w.alloc (Obj.cells #[.float .f64 4621819117588971520,.float .f64 4630826316843712512,.float .f64 4626322717216342016,.float .f64 4629137466983448576] 26):=⟨_,rfl⟩;obtain ⟨g,hg⟩:∃ g,g=w.heap.size:=⟨_,rfl⟩
 have B1:Aside (Below w.heap.size w W1∧Fs W1.heap.size W1 (some ⟨g,0,none⟩) l16):=by
  rw [hW1];exact ⟨bel_alloc _ _,lit13 w [_,_,_,_] _ hg⟩
 have hW:W64 l16:=by unfold W64;decide
 have HT:=(qsd (ai hT hW));have C1:=hid (Quantile16 l16 (some ⟨g,0,none⟩) 4 4 1 4 4 0 W1 (hT.belows B1.out.1) B1.out.2 rfl (by decide) hW _ qu16)
 have HW1:=(qsd (ai hW1 hg));clear hW1 hT hg hW;go_enter Tryz.func8,Tryz.ntmps8
 go_wp2_with fail
 rw [←HW1.out.1,←HW1.out.2];clear HW1;refine C1.out.mono ?_;rintro r u1 ⟨rfl,hb1⟩;have B2:Aside (Below w.heap.size w u1∧Fs u1.heap.size u1 (some ⟨g,0,none⟩) l16):=⟨B1.out.1.trans (hb1.mono B1.out.1.size),(B1.out.2.below hb1).mono hb1.size⟩;clear hb1 C1 B1;have C2:=hid (Share16 l16 4626322717216342016 (some ⟨g,0,none⟩) 4 4 u1 (by decide) B2.out.2 rfl (by decide) HT.out.2)
 rw [show amE l16 (nanW 4626322717216342016)=0 by decide +kernel,if_pos rfl,if_pos rfl,show cntS l16 4626322717216342016=2 from ct16,show l16.length=4 from rfl] at C2
 go_wp2_with fail
 refine C2.out.mono ?_;rintro r u2 ⟨rfl,hb2⟩;have B3:Aside (Below w.heap.size w u2∧Fs u2.heap.size u2 (some ⟨g,0,none⟩) l16):=⟨B2.out.1.trans (hb2.mono B2.out.1.size),(B2.out.2.below hb2).mono hb2.size⟩;clear hb2 C2 B2;have C3:=hid (Several_ok16 l16 (some ⟨g,0,none⟩) 4 4 2 3 0 u2 (HT.out.1.belows B3.out.1) B3.out.2 rfl HT.out.2 (by decide) (by decide) (by decide) am16)
 go_wp2_with fail
 refine C3.out.mono ?_;rintro r u3 ⟨gs,rfl,hO,hg,hb3⟩;have B4:=qsd (B3.out.1.trans (hb3.mono B3.out.1.size));have c1:=hO.cell 1 (by rw [sevTo_len _ _ _ _ _ (by decide)];decide)
 rw [show (sevTo l16 2 3 0 (2+1)).getD 1 0=4627730092099895296 from sv16] at c1
 clear hb3 C3 B3 hO hg;simp only;go_wp2;go_ret;exact ⟨rfl,B4.out⟩
end
section
open Go Go.RowKit J
attribute [local go_sem] st_float
theorem any_by {xs:List Nat}(hf:∀ x ∈ xs,finW x):xs.any byB=false:=by
 rw [List.any_eq_false];intro x hx;have:=hf x hx;unfold byB;unfold finW at this;unfold magW at *;simp;omega
theorem kn3 {mode:Int}(h:0≤mode∧mode≤4):knB 3 mode=true:=decide_eq_true ⟨by decide,by decide,h.1,h.2⟩
theorem quM_mode {xs:List Nat}{mode:Int}(h:mode<0∨4<mode):quR xs 1 2 3 mode=(0,1):=by
 unfold quR;rw [if_pos (.inl (decide_eq_false (by omega)))]
theorem quM_am {xs:List Nat}{mode:Int}(h:0≤mode∧mode≤4) (ha:amE xs false≠0):quR xs 1 2 3 mode=(0,amE xs false):=by
 unfold quR;rw [if_neg (by rw [kn3 h];simp),if_neg ha]
theorem am_long {xs:List Nat}(h:65536<xs.length):amE xs false=2:=by unfold amE;rw [if_pos h]
theorem am_none:amE [] false=3:=rfl
theorem am_good {xs:List Nat}(hf:∀ x ∈ xs,finW x) (h1:1≤xs.length) (h2:xs.length≤65536):amE xs false=0:=by
 unfold amE;rw [if_neg (by omega),any_by hf,if_neg (by decide),if_neg (by omega)]
theorem quM_good {xs:List Nat}(hW:W64 xs) (hf:∀ x ∈ xs,finW x) (h1:1≤xs.length) (h2:xs.length≤65536) {mode:Int}(h:0≤mode∧mode≤4) :
 ∃ x,quR xs 1 2 3 mode=(x,0)∧∀ z,Rz mode (fvW ((sortL xs).getD ((xs.length-1)/2) 0)+fvW ((sortL xs).getD (xs.length/2) 0)) 2 z→(FloatKind.f64.format.order x z==some .eq)=true:=by
 refine ⟨_,quR_is ⟨by decide,by decide,h.1,h.2⟩ (by decide) (by decide) (by decide) (by decide) (am_good hf h1 h2),fun z hz=>?_⟩
 have U:=sort_up16 hW hf;have hl:=sortL_len xs;have t:=tel_rz U (by omega) (show 1≤2 by decide) (by decide) (show 1≤2 by decide) 3 mode h.1 h.2
 have z2:=hz.scale 2 (by decide)
 rw [hl,Nat.mul_one] at t
 have eV2:eV (fun i=>fvW ((sortL xs).getD i 0)) ((xs.length-1)/2) ((xs.length-1)%2) 2 3=(fvW ((sortL xs).getD ((xs.length-1)/2) 0)+fvW ((sortL xs).getD (xs.length/2) 0))*((2:Nat):Int):=by
  unfold eV
  by_cases c:(xs.length-1)%2=0
  · rw [if_pos c,show xs.length/2=(xs.length-1)/2 by omega]
    simp only;omega
  · rw [if_neg c,if_neg (by decide),if_neg (by decide),if_neg (by decide),if_pos rfl,show xs.length/2=(xs.length-1)/2+1 by omega]
 rw [eV2] at t;have a1:=t.mono z2 (Int.le_refl _);have a2:=z2.mono t (Int.le_refl _);obtain ⟨q1,q2,_⟩:=t.sp;obtain ⟨q3,q4,_⟩:=z2.sp
 show (FloatKind.f64.format.order (telR (sortL xs) 1 2 3 mode) z==some .eq)=true
 rw [eq17 q1 q3 q2 q4];exact decide_eq_true (by omega)
theorem walk2_QuantMedian (a1:Option Addr) (N1 c1:Nat) (xs:List Nat) (mode:Int) (w:World) (hT:Tab w) (hC:CameF w a1 N1 c1 xs) (hm1:N1≤17592186043904) :
 Calls Tryz.prog 4 #[.slice a1 N1 c1,.int .i64 mode] w fun r w'=>r=.returned (.bool true)∧Below w.heap.size w w':=by
 have HL:=hid (live16 w hT);have HX:Aside (∀ u:World,Below w.heap.size w u→Fs u.heap.size u a1 xs∧Tab u):=fun u hu=>⟨(hC.rd.below hu).mono hu.size,hT.belows hu⟩
 have HC:=(qsd (ai hC hm1));clear hT hC;go_enter Tryz.func4,Tryz.ntmps4
 go_wp2_with fail
 refine HL.out.mono ?_;rintro r u ⟨rfl,hb⟩;have HB:=qsd hb;clear hb HL;go_wp2
 go_loopg [6] N1 (fun gk i wr=>∃ k:Nat,gk+k=N1∧i=.int .i64 (k:Nat)∧Aside (Below w.heap.size w wr∧∀ j,j<k→finW (xs.getD j 0)))
 case atStart=>exact ⟨0,by omega,by simp,HB.out,fun j hj=>absurd hj (by omega)⟩
 case round =>
  clear HB;obtain ⟨k,hgk,rfl,HA⟩:=hrel
  by_cases hk:k<N1
  · obtain ⟨b,off,rfl,hc⟩:=(HX.out _ HA.out.1).1.at (Below.refl _ _) k (by rw [←HC.out.1.len];exact hk)
    obtain ⟨x,hx⟩:∃ x,x=xs.getD k 0:=⟨_,rfl⟩;rw [←hx] at hc;have hx64:x<18446744073709551616:=by rw [hx];exact HC.out.1.wf.get k
    have HXX:=qsd hx;clear hx;have hkb:k<4611686018427387904:=by omega
    have hd:decide ((k:Int)<N1)=true:=by simp;omega
    have HB:=qsd (HA.out.1.trans ((Below.refl wr.heap.size wr).drew.mono HA.out.1.size))
    by_cases fx:finW x
    · have d:=fun W:World=>run_float_arith (P:=Tryz.prog) W .sub 26 .f64 x x 0 (sub_self_fin x hx64 fx)
      have h0:(FloatKind.f64.format.order 0 0==some .eq)=true:=by decide +kernel
      have h0':FloatKind.f64.format.order 0 0=some .eq:=by decide +kernel
      have Hf:=qsd fx;clear fx hx64
      go_upto_region 5 with fail
      go_region
      all_goals
       go_wp2
       go_roundg (gk-1)
       case measure=>omega
       case rel =>
        refine ⟨k+1,by omega,by first | rfl | simp,HB.out,fun j hj=>?_⟩
        by_cases e:j=k
        · subst e;rw [←HXX.out];exact Hf.out
        · exact HA.out.2 j (by omega)
    · obtain ⟨z,hz,d⟩:=run_float_none (P:=Tryz.prog) wr.drew .sub 26 x x (.inr (.inl rfl)) (sub_odd_self hx64 fx)
      have ho:=order_nan13 z hz.1;have ho2:(FloatKind.f64.format.order z 0 != some .eq)=true:=by simp only [bne,ho];rfl
      have ho':¬ FloatKind.f64.format.order z 0=some .eq:=by simpa using ho
      have HB2:=qsd (HB.out.trans ((Below.refl wr.drew.heap.size wr.drew).drew.mono HB.out.size));clear fx hx64 hz
      go_upto_region 5 with fail
      go_region
      all_goals
       go_wp2;go_ret;exact ⟨rfl,HB2.out⟩
  · obtain rfl:N1=k:=by omega
    have hd:decide ((N1:Int)<N1)=false:=by simp
    have fin:∀ z ∈ xs,finW z:=fun z hz=>by
     obtain ⟨j,hj,rfl⟩:=List.mem_iff_getElem.1 hz;have:=HA.out.2 j (by rw [HC.out.1.len];exact hj)
     rw [List.getD_eq_getElem?_getD,List.getElem?_eq_getElem hj] at this
     exact this
    have hlen:=HC.out.1.len;have h00:(FloatKind.f64.format.order 0 0==some .eq)=true:=by decide +kernel
    have HQ:=hid (fun (z:Nat) (e:Int) (hz:quR xs 1 2 3 mode=(z,e))=>Quantile16 xs a1 N1 c1 1 2 3 mode wr (HX.out _ HA.out.1).2 (HX.out _ HA.out.1).1 HC.out.1.len (by omega) HC.out.1.wf _ hz)
    simp only at HQ;have HB:=qsd HA.out.1;clear HA hgk hk
    by_cases hm:mode<0∨4<mode
    · have C:=hid (HQ.out _ _ (quM_mode hm))
      have C2:=hid (fun u:World=>Median_mode a1 N1 c1 mode u hm)
      clear HQ hm hlen fin
      go_wp2_with fail
      refine C.out.mono ?_;rintro r v ⟨rfl,hb⟩;replace HB:=qsd (HB.out.trans (hb.mono HB.out.size));clear hb C
      go_wp2_with fail
      refine (C2.out _).mono ?_;rintro r v2 ⟨rfl,hb⟩;replace HB:=qsd (HB.out.trans (hb.mono HB.out.size));clear hb C2;go_wp2;go_ret;exact ⟨rfl,HB.out⟩
    · have hm':0≤mode∧mode≤4:=by omega
      by_cases h1:65536<N1
      · have C:=hid (HQ.out _ _ (quM_am hm' (by rw [am_long (by omega)];decide)))
        rw [am_long (by omega)] at C
        have C2:=hid (fun u:World=>Median_long a1 N1 c1 mode u hm'.1 hm'.2 h1)
        clear HQ hm hm' hlen fin h1
        go_wp2_with fail
        refine C.out.mono ?_;rintro r v ⟨rfl,hb⟩;replace HB:=qsd (HB.out.trans (hb.mono HB.out.size));clear hb C
        go_wp2_with fail
        refine (C2.out _).mono ?_;rintro r v2 ⟨rfl,hb⟩;replace HB:=qsd (HB.out.trans (hb.mono HB.out.size));clear hb C2;go_wp2;go_ret;exact ⟨rfl,HB.out⟩
      · by_cases h2:N1=0
        · subst h2
          have e0:xs=[]:=List.eq_nil_of_length_eq_zero hlen.symm;have C:=hid (HQ.out _ _ (quM_am hm' (by rw [e0,am_none];decide)))
          rw [e0,am_none] at C;have C2:=hid (fun u:World=>Median_none a1 c1 mode u hm'.1 hm'.2)
          clear HQ hm hm' hlen fin h1 e0
          go_wp2_with fail
          refine C.out.mono ?_;rintro r v ⟨rfl,hb⟩;replace HB:=qsd (HB.out.trans (hb.mono HB.out.size));clear hb C
          go_wp2_with fail
          refine (C2.out _).mono ?_;rintro r v2 ⟨rfl,hb⟩;replace HB:=qsd (HB.out.trans (hb.mono HB.out.size));clear hb C2;go_wp2;go_ret;exact ⟨rfl,HB.out⟩
        · obtain ⟨x,q1,q2⟩:=quM_good HC.out.1.wf fin (by omega) (by omega) hm'
          have C:=hid (HQ.out _ _ q1);have C2:=hid (fun (u:World) (hu:Below w.heap.size w u)=>Median16 xs a1 N1 c1 mode u (HX.out _ hu).2 (HX.out _ hu).1 hlen HC.out.1.wf fin (by omega) (by omega) hm'.1 hm'.2)
          have HQ2:=qsd q2;rw [←hlen] at HQ2;clear HQ hm hm' hlen fin h1 h2 q1 q2
          go_wp2_with fail
          refine C.out.mono ?_;rintro r v ⟨rfl,hb⟩;replace HB:=qsd (HB.out.trans (hb.mono HB.out.size));clear hb C;have C:=hid (C2.out _ HB.out)
          go_wp2_with fail
          refine C.out.mono ?_;rintro r v2 ⟨⟨z,rfl,hz⟩,hb⟩;replace HB:=qsd (HB.out.trans (hb.mono HB.out.size));have oz:=HQ2.out z hz;clear hb C C2 hz HQ2;go_wp2;go_ret;exact ⟨rfl,HB.out⟩
end
end Go.Proofs.YtblkpkgebigojaaGreatDoor
