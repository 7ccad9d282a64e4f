import Derived.Test.YtgfemeencgjneaaGreatDoorHI10x
set_option linter.unusedVariables false
set_option linter.unusedSimpArgs false
set_option maxHeartbeats 16000000
set_option maxRecDepth 20000
namespace Go.Proofs.YtgfemeencgjneaaGreatDoor
namespace J
end J
section
open Go Go.RowKit J
open Go.Proofs.YtgfemeencgjneaaGreatDoor.B (f64bits f64frombits)
attribute [local go_sem] st_float f64bits f64frombits
abbrev e2a:List Nat:=[0,4607182418800017408]
abbrev e2b:List Nat:=[0,4611686018427387904]
theorem edg_e2a:Edg e2a:=by
 refine ⟨by decide,by decide,by decide,fun i hi=>?_⟩
 obtain rfl:i=0:=by simp at hi;omega
 decide
theorem edg_e2b:Edg e2b:=by
 refine ⟨by decide,by decide,by decide,fun i hi=>?_⟩
 obtain rfl:i=0:=by simp at hi;omega
 decide
theorem edg_thirds:Edg [0,4591870180066957721,4596373779694328217,4599075939470750515]:=by
 refine ⟨by decide,by decide,by decide,fun i hi=>?_⟩
 have:i=0∨i=1∨i=2:=by simp at hi;omega
 rcases this with rfl|rfl|rfl <;> decide
theorem edg_least:¬ Edg [0,0,1]:=fun h=>by have:=h.2.2.2 0 (by decide);revert this;decide
def pw17 (k:Nat):Hs:=⟨[2^k],0,0,0⟩
theorem pw_all (k:Nat):(pw17 k).all=2^k:=by simp [pw17,Hs.all]
theorem pw_mrg (k:Nat):(pw17 k).mrg (pw17 k)=pw17 (k+1):=by
 unfold pw17 Hs.mrg;simp only [List.zipWith_cons_cons,List.zipWith_nil_left,Nat.add_zero];rw [show 2^k+2^k=2^(k+1) by rw [Nat.pow_succ];omega]
theorem put_half:(Hs.mk (List.replicate 1 0) 0 0 0).put e2a 4602678819172646912=pw17 0:=by
 have h:((Hs.mk (List.replicate 1 0) 0 0 0).put e2a 4602678819172646912).C=[1]∧((Hs.mk (List.replicate 1 0) 0 0 0).put e2a 4602678819172646912).b=0∧((Hs.mk (List.replicate 1 0) 0 0 0).put e2a 4602678819172646912).a=0∧((Hs.mk (List.replicate 1 0) 0 0 0).put e2a 4602678819172646912).o=0:=by decide +kernel
 obtain ⟨h1,h2,h3,h4⟩:=h
 cases hs:(Hs.mk (List.replicate 1 0) 0 0 0).put e2a 4602678819172646912 with
 | mk C b a o=>rw [hs] at h1 h2 h3 h4;simp only at h1 h2 h3 h4;subst h1 h2 h3 h4;rfl
def Tw17 (w0 u:World) (g gE gC cE:Nat) (E:List Nat) (s:Hs) (g2 gF gD cF:Nat) (F:List Nat) (t:Hs):Prop:=Hm u g gE gC cE E s∧Hm u g2 gF gD cF F t∧Below w0.heap.size w0 u∧w0.heap.size≤g∧w0.heap.size≤gC∧(g2≠g∧g2≠gC)∧(gD≠g∧gD≠gC)∧(gF≠g∧gF≠gC)
theorem Tw17.but {w0 u u':World}{g gE gC cE g2 gF gD cF:Nat}{E F:List Nat}{s t s':Hs}(h:Tw17 w0 u g gE gC cE E s g2 gF gD cF F t) (h':Hm u' g gE gC cE E s') (hb:But2 g gC u u'):Tw17 w0 u' g gE gC cE E s' g2 gF gD cF F t:=by
 obtain ⟨h1,h2,h3,h4,h5,h6,h7,h8⟩:=h;exact ⟨h',h2.keep hb h6 h7 h8,But2.below h3 hb h3.size h4 h5,h4,h5,h6,h7,h8⟩
theorem ne_maps:¬ e2a.map sP=e2b.map sP:=by decide
theorem walk2_HistNumbers (w:World) (hT:Tab w):Calls Tryz.prog 3 #[] w fun r w'=>r=.returned (.bool true)∧Below w.heap.size w w':=by
 have hTT:=qsd hT;have C:=hid (awake17 w hT);clear hT;go_enter Tryz.func3,Tryz.ntmps3
 go_wp2_with fail
 refine C.out.mono ?_;rintro r u1 ⟨rfl,hb⟩;have B1:=qsd hb;clear hb C;have C:=hid (Edges17 0 w03 3 u1 (hTT.out.belows B1.out) (by decide) (by decide) (by decide) (by decide) (by decide) (by decide) (edL_W64 (by decide) (by decide) (by decide) (by decide) (by decide) (by decide)))
 rw [edL_thirds] at C
 go_wp2_with fail
 refine C.out.mono ?_;rintro r u2 ⟨hr,hb⟩
 obtain ⟨gl,rfl,hO⟩:∃ gl,r=.returned (.tuple #[.slice (some ⟨gl,0,none⟩) 4 4,.int .i64 0])∧OwnF u2 gl [0,4591870180066957721,4596373779694328217,4599075939470750515]:=by
  rcases hr with ⟨_,gl,h1,h2,h3⟩|⟨h1,_⟩
  · exact ⟨gl,h1,h2⟩
  · exact absurd edg_thirds h1
 clear hr;have B2:=qsd (B1.out.trans (hb.mono B1.out.size));obtain ⟨W3,hW3⟩:∃ W,W=u2.alloc (Obj.cells #[.float .f64 0,.float .f64 4591870180066957721,.float .f64 4596373779694328217,.float .f64 4599075939470750515] 27):=⟨_,rfl⟩;obtain ⟨g3,hg3⟩:∃ g,g=u2.heap.size:=⟨_,rfl⟩;have b3:Below u2.heap.size u2 W3:=by rw [hW3];exact below_alloc _ _
 have C':=hid (floats17 [0,4591870180066957721,4596373779694328217,4599075939470750515] (some ⟨gl,0,none⟩) (some ⟨g3,0,none⟩) 4 4 4 W3 rfl (by decide) ((hO.below b3 hO.lt).fs (Nat.lt_of_lt_of_le hO.lt b3.size) 4) (by rw [hW3];exact lit13 u2 [_,_,_,_] _ hg3))
 have B3:=qsd (B2.out.trans (b3.mono B2.out.size));have HW:=(qsd (ai hW3 hg3));clear hO hb C B2 b3 hW3 hg3
 go_wp2_with fail
 rw [←HW.out.1,←HW.out.2];clear HW;refine C'.out.mono ?_;rintro r u3 ⟨rfl,hb⟩;have B4:=qsd (B3.out.trans (hb.mono B3.out.size));clear hb C' B3;have C:=hid (Edges17 0 1 2 u3 (hTT.out.belows B4.out) (by decide) (by decide) (by decide) (by decide) (by decide) (by decide) (edL_W64 (by decide) (by decide) (by decide) (by decide) (by decide) (by decide)))
 rw [edL_least] at C
 go_wp2_with fail
 refine C.out.mono ?_;rintro r u4 ⟨hr,hb⟩
 obtain rfl:r=.returned (.tuple #[.slice none 0 0,.int .i64 170]):=by
  rcases hr with ⟨h1,_⟩|⟨_,h1⟩
  · exact absurd h1 edg_least
  · exact h1
 clear hr;have B5:=qsd (B4.out.trans (hb.mono B4.out.size));clear hb C B4;have C:=hid (odd17 u4)
 go_wp2_with fail
 refine C.out.mono ?_;rintro r u5 ⟨rfl,hu⟩;rw [hu];clear hu C;have C:=hid (EdgesLow17 9221120237041090560 4607182418800017408 1 u4 (by decide) (by decide) (by decide) (by decide))
 go_wp2_with fail
 refine C.out.mono ?_;rintro r u6 ⟨rfl,hb⟩;have B6:=qsd (B5.out.trans (hb.mono B5.out.size));clear hb C B5;have C:=hid (EdgesArg17 0 4607182418800017408 1024 u6 (.inr (by decide)))
 go_wp2_with fail
 refine C.out.mono ?_;rintro r u7 ⟨rfl,hu⟩;rw [hu];clear hu C;obtain ⟨W4,hW4⟩:∃ W,W=u6.alloc (Obj.cells #[.float .f64 0,.float .f64 4607182418800017408] 27):=⟨_,rfl⟩;obtain ⟨g4,hg4⟩:∃ g,g=u6.heap.size:=⟨_,rfl⟩;have b4:Below u6.heap.size u6 W4:=by rw [hW4];exact below_alloc _ _
 have B7:=qsd (B6.out.trans (b4.mono B6.out.size));have C:=hid (New17 e2a (some ⟨g4,0,none⟩) 2 2 W4 (by rw [hW4];exact lit13 u6 [_,_] _ hg4) rfl (by decide) (by unfold W64;decide) edg_e2a)
 have HW:=(qsd (ai hW4 hg4));clear hW4 hg4 b4 B6
 go_wp2_with fail
 rw [←HW.out.1,←HW.out.2];clear HW;refine C.out.mono ?_;rintro r v1 ⟨⟨g,gE,gC,cE,rfl,hm,h1,h2,h3⟩,hb⟩;have B8:=qsd (B7.out.trans (hb.mono B7.out.size));have H1:Aside (Hm v1 g gE gC cE e2a ⟨List.replicate 1 0,0,0,0⟩∧w.heap.size≤g∧w.heap.size≤gC):=⟨hm,Nat.le_trans B7.out.size h1,Nat.le_trans B7.out.size h3⟩;clear hm h1 h2 h3 hb C B7;obtain ⟨W5,hW5⟩:∃ W,W=v1.alloc (Obj.cells #[.float .f64 0,.float .f64 4611686018427387904] 27):=⟨_,rfl⟩;obtain ⟨g5,hg5⟩:∃ g,g=v1.heap.size:=⟨_,rfl⟩;have b5:Below v1.heap.size v1 W5:=by rw [hW5];exact below_alloc _ _
 have C:=hid (New17 e2b (some ⟨g5,0,none⟩) 2 2 W5 (by rw [hW5];exact lit13 v1 [_,_] _ hg5) rfl (by decide) (by unfold W64;decide) edg_e2b)
 have HW:=(qsd (ai hW5 hg5));have B9:=qsd b5;clear hW5 hg5 b5
 go_wp2_with fail
 rw [←HW.out.1,←HW.out.2];clear HW;refine C.out.mono ?_;rintro r v2 ⟨⟨g2,gF,gD,cF,rfl,hm,h1,h2,h3⟩,hb⟩
 have K0:Aside (Tw17 w v2 g gE gC cE e2a ⟨List.replicate 1 0,0,0,0⟩ g2 gF gD cF e2b ⟨List.replicate 1 0,0,0,0⟩):=by
  have b1:=B9.out.trans (hb.mono B9.out.size);have l1:=H1.out.1.bl.lt;have l2:=H1.out.1.cs.lt;have l3:=B9.out.size;exact ⟨H1.out.1.below b1,hm,B8.out.trans (b1.mono B8.out.size),H1.out.2.1,H1.out.2.2,⟨by omega,by omega⟩,⟨by omega,by omega⟩,⟨by omega,by omega⟩⟩
 clear hm h1 h2 h3 hb C B8 B9 H1;have C:=hid (Add17 (x:=4602678819172646912) K0.out.1 (by decide))
 rw [show (Hs.mk (List.replicate 1 0) 0 0 0).all=0 from rfl,if_neg (by decide),if_neg (by decide),put_half] at C
 go_wp2_with fail
 refine C.out.mono ?_;rintro r v3 ⟨rfl,hm,hb⟩;have K1:=qsd (K0.out.but hm hb);clear C hm hb K0;go_wp2
 go_loopg [15] 40 (fun gk iv wr=>∃ k:Nat,gk+k=40∧iv=.int .i64 (k:Nat)∧Aside (Tw17 w wr g gE gC cE e2a (pw17 k) g2 gF gD cF e2b ⟨List.replicate 1 0,0,0,0⟩))
 case atStart=>exact ⟨0,by omega,by first | rfl | simp,K1.out⟩
 case round =>
  clear K1;obtain ⟨k,hgk,rfl,HA⟩:=hrel
  by_cases hk:k<40
  · have hdk:decide ((k:Int)<40)=true:=by simp;omega
    obtain ⟨k1,hk1⟩:∃ x,x=k+1:=⟨_,rfl⟩;have wk:IntKind.i64.wrap ((k:Int)+1)=(k1:Int):=wrapY (by omega) (by omega)
    have C:=hid (MergeSelf17 HA.out.1)
    have hp:¬ 1099511627776<(pw17 k).all+(pw17 k).all:=by
     rw [pw_all];have:2^k≤2^39:=Nat.pow_le_pow_right (by decide) (by omega)
     omega
    rw [if_neg hp,if_neg hp,pw_mrg,←hk1] at C;have HK:=qsd hk1;clear hk1 hp
    go_wp2_with fail
    refine C.out.mono ?_;rintro r v ⟨rfl,hm,hb⟩;have HN:=qsd (HA.out.but hm hb);clear C hm hb HA;go_wp2
    go_roundg (40-k1)
    case measure=>have:=HK.out;omega
    case rel=>exact ⟨k1,by have:=HK.out;omega,by first | rfl | simp,HN.out⟩
  · obtain rfl:k=40:=by omega
    have hdk:decide (((40:Nat):Int)<40)=false:=by simp
    have C:=hid (Add17 (x:=4602678819172646912) HA.out.1 (by decide))
    rw [pw_all,if_pos (by decide),if_pos (by decide)] at C
    go_wp2_with fail
    refine C.out.mono ?_;rintro r v1' ⟨rfl,hm,hb⟩;have K2:=qsd (HA.out.but hm hb);clear C hm hb HA;have C:=hid (MergeSelf17 K2.out.1);rw [pw_all,if_pos (by decide),if_pos (by decide)] at C
    go_wp2_with fail
    refine C.out.mono ?_;rintro r v2' ⟨rfl,hm,hb⟩;have K3:=qsd (K2.out.but hm hb);clear C hm hb K2;have C:=hid (Merge17 K3.out.1 K3.out.2.1 K3.out.2.2.2.2.2.1 K3.out.2.2.2.2.2.2.1 K3.out.2.2.2.2.2.2.2);rw [if_pos ne_maps,if_pos ne_maps] at C
    go_wp2_with fail
    refine C.out.mono ?_;rintro r v3' ⟨rfl,hm,hb⟩;have K4:=qsd (K3.out.but hm hb);clear C hm hb K3;have C:=hid (All17 K4.out.1);rw [pw_all,show ((2^40:Nat):Int)=1099511627776 by decide] at C
    have HE:=qsd K4.out.2.2.1;clear K4
    go_wp2_with fail
    refine C.out.mono ?_;rintro r v9 ⟨rfl,hu⟩;rw [hu];clear hu C;go_wp2;go_ret;exact ⟨rfl,HE.out⟩
end
end Go.Proofs.YtgfemeencgjneaaGreatDoor
