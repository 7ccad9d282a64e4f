import Derived.Test.YtopgffjnejaijaaGreatDoorFI8x
import Derived.Deep.Cut
set_option linter.unusedVariables false
set_option linter.unusedSimpArgs false
set_option maxHeartbeats 16000000
set_option maxRecDepth 20000
namespace Go.Proofs.YtopgffjnejaijaaGreatDoor
namespace J
end J
section
open Go.RowKit J
attribute [local go_sem] Ps.st_floatP
theorem xor_up13 (z:Nat) (hz:z<2^63):z ^^^ 2^63=2^63+z:=by
 apply Nat.eq_of_testBit_eq
 intro i;rw [Nat.testBit_xor,Nat.testBit_two_pow]
 rcases Nat.lt_trichotomy i 63 with h|h|h
 · rw [Nat.testBit_two_pow_add_gt h]
   simp [show ¬ 63=i by omega]
 · subst h
   rw [Nat.testBit_two_pow_add_eq,Nat.testBit_lt_two_pow hz];simp
 · have h1:z<2^i:=Nat.lt_of_lt_of_le hz (Nat.pow_le_pow_right (by decide) (by omega))
   have h2:2^63+z<2^i:=Nat.lt_of_lt_of_le (show 2^63+z<2^64 by omega) (Nat.pow_le_pow_right (by decide) (by omega))
   rw [Nat.testBit_lt_two_pow h1,Nat.testBit_lt_two_pow h2];simp [show ¬ 63=i by omega]
theorem neg_turn13 (y:Nat) (hy:y<18446744073709551616):Op.negFloat .f64 y=turnW y:=by
 show y ^^^ 2^63=turnW y
 unfold turnW
 by_cases h:9223372036854775808≤y
 · rw [if_pos h]
   obtain ⟨z,hz⟩:∃ z,z=y-9223372036854775808:=⟨_,rfl⟩;have e:y=z ^^^ 2^63:=by rw [xor_up13 z (by omega)];omega
   rw [←hz,e,Nat.xor_assoc,Nat.xor_self,Nat.xor_zero]
 · rw [if_neg h,xor_up13 y (by omega)];omega
theorem neg13 {P:Program}(w:World) (y:Nat) (hy:y<18446744073709551616):(Go.Op.unary .neg (.float .f64 y)).run P w=.ok (.float .f64 (turnW y)) w:=by
 rw [←neg_turn13 y hy];rfl
theorem tl_take (xs:List Nat) (k:Nat) (h:k<xs.length):tl (xs.take (k+1))=tl (xs.take k)++[turnW (xs.getD k 0)]:=by
 rw [take_snoc10 xs k h];simp [tl]
theorem take_fs {B:Nat}{w:World}{a:Option Addr}{xs:List Nat}(h:Fs B w a xs) (k:Nat):Fs B w a (xs.take k):=by
 intro hne;obtain ⟨b,off,h1,h2,h3⟩:=h (by intro q;rw [q] at hne;simp at hne)
 refine ⟨b,off,h1,h2,fun i hi=>?_⟩
 rw [List.length_take] at hi;rw [h3 i (by omega)]
 congr 2
 rw [List.getD_eq_getElem?_getD,List.getD_eq_getElem?_getD,List.getElem?_take,if_pos (by omega)]
theorem take_w64 {xs:List Nat}(h:W64 xs) (k:Nat):W64 (xs.take k):=fun x hx=>h x (List.mem_of_mem_take hx)
theorem walk_FitTurned (a b:Option Addr) (n m c d:Nat) (xs ys:List Nat) (mode:Int) (w:World) (hT:Tab w) (hC:CameF w a n c xs) (hm:n≤17592186043904) (hC2:CameF w b m d ys) (hm2:m≤17592186043904) :
 Calls Tryz.prog 8 #[.slice a n c,.slice b m d,.int .i64 mode] w fun r w'=>r=.returned (.bool true)∧Below w.heap.size w w':=by
 obtain ⟨hl1,hcap,hW1,hF1,_⟩:=hC;obtain ⟨hl2,hcap2,hW2,hF2,_⟩:=hC2;obtain ⟨zx,hzx⟩:∃ zs,zs=xs.take 300:=⟨_,rfl⟩;obtain ⟨zy,hzy⟩:∃ zs,zs=ys.take 300:=⟨_,rfl⟩;obtain ⟨N,hN⟩:∃ N,N=zx.length:=⟨_,rfl⟩;obtain ⟨M,hM⟩:∃ N,N=zy.length:=⟨_,rfl⟩;have hNn:N=min 300 n:=by rw [hN,hzx,List.length_take,hl1]
 have hMm:M=min 300 m:=by rw [hM,hzy,List.length_take,hl2]
 have hWx:W64 zx:=by rw [hzx];exact take_w64 hW1 _
 have hWy:W64 zy:=by rw [hzy];exact take_w64 hW2 _
 have hFx:Fs w.heap.size w a zx:=by rw [hzx];exact take_fs hF1 _
 have hFy:Fs w.heap.size w b zy:=by rw [hzy];exact take_fs hF2 _
 have HTn:=qsd (turned19 hWx hWy mode);have HL:=hid (live19 w hT)
 have HM:Hid (∀ (u:World) (p q:Option Addr) (e f:Nat) (ls:List Nat) (md:Int) {k0 E:Int} {k1 k2 k3 k4:Nat},Below w.heap.size w u→Fs u.heap.size u q ls→ls.length=M→W64 ls→fitR zx ls md=(k0,k1,k2,k3,k4,E)→Calls Tryz.prog 10 #[.slice a N c,.slice q M f,.int .i64 md] u fun r w'=>r=.returned (.tuple #[.agg #[.int .i64 k0,.float .f64 k1,.float .f64 k2,.float .f64 k3,.float .f64 k4],.int .i64 E])∧Below u.heap.size u w') :=
  fun u p q e f ls md _ _ _ _ _ _ hb hF hl hW hz=>Line19z zx ls a q N M c f md u hN hl.symm ((hFx.below hb).mono hb.size) hF hWx hW (hT.belows hb) hz
 have HX:=(qsd (ai hM (ai hFy (ai hWy (ai hl2 (ai hF2 (ai hW2 hzy)))))));have HNn:=(qsd (ai hNn (ai hMm (ai hcap hcap2))));have hM1:M≤300:=by omega
 have hMm2:M≤m:=by omega
 clear hl1 hW1 hF1 hcap hm hT hN hNn hWx hFx hzx hl2 hW2 hF2 hcap2 hm2 hM hMm hWy hFy;go_enter Tryz.func8,Tryz.ntmps8
 go_wp2_with fail
 refine HL.out.mono ?_;rintro r u ⟨rfl,hb⟩;have B2:=qsd hb;clear hb HL;go_wp2
 go_loopg [8,9] M (fun gk lv iv wr=>∃ (k:Nat) (v:Value),gk+k=M∧iv=.int .i64 (k:Nat)∧lv=v∧Aside (wr.ownsRow w.heap.size 24 1 v (tl (ys.take k)).length ((tl (ys.take k)).map Fw10)∧Below w.heap.size w wr))
 case atStart=>exact ⟨0,.slice none 0 0,by omega,by simp,rfl,World.ownsRow_nil _ _ _ _,B2.out⟩
 case round =>
  obtain ⟨k,v,hgk,rfl,hv,HA⟩:=hrel;have hv':=hv.symm;clear hv;subst hv'
  by_cases hk:k<M
  · clear HM
    have hky:k<ys.length:=by have:=HX.out.2.2.2.1;omega
    obtain ⟨b0,off,rfl,hc⟩:=HX.out.2.2.2.2.1.at HA.out.2 k hky;obtain ⟨z,hz⟩:∃ z,z=ys.getD k 0:=⟨_,rfl⟩;rw [←hz] at hc;have hz64:z<18446744073709551616:=by rw [hz];exact HX.out.2.2.2.2.2.1.get k
    have hn:=fun U:World=>neg13 (P:=Tryz.prog) U z hz64
    have HTl:Aside (tl (ys.take (k+1))=tl (ys.take k)++[turnW z]):=by rw [hz];exact tl_take ys k hky
    obtain ⟨y,hy⟩:∃ y,turnW z=y:=⟨_,rfl⟩;rw [hy] at hn HTl;obtain ⟨v',w',r1,r2,r3,r4⟩:=append10 w.heap.size v (tl (ys.take k)) y wr HA.out.1 HA.out.2.size (by rw [tl_len,List.length_take];omega)
    have HR:=qsd r1;have HN:=qsd (ai r2 (HA.out.2.trans r3));have hkb:k<4611686018427387904:=by omega
    have hd:decide ((k:Int)<(m:Nat))=true:=by simp;omega
    have hd2:decide ((k:Int)<300)=true:=by simp;omega
    clear r1 r2 r3 r4 hz hy hz64 hky
    go_wp2_with (first | (at_builtin;refine wpList_append10 rfl (.tmp 28) (.tmp 34) 23 rfl _ _ rfl rfl _ _ HR.out ?_) | (simp only [hn]))
    go_roundg (gk-1)
    case measure=>omega
    case rel =>
     refine ⟨k+1,_,by omega,by first | rfl | simp,rfl,?_,HN.out.2⟩
     rw [HTl.out];exact HN.out.1
  · obtain rfl:k=M:=by omega
    obtain ⟨ao,co,hv2,hc2,hF2⟩:=own_fs10 HA.out.1 rfl
    have etk:ys.take k=zy:=by
     rw [HX.out.2.2.2.2.2.2];have h1:=HNn.out.2.1;have h2:=HX.out.2.2.2.1
     rcases Nat.le_total 300 m with q|q
     · rw [show k=300 by omega]
     · rw [List.take_of_length_le (by omega),List.take_of_length_le (by omega)]
    rw [etk] at hv2 hF2 hc2;have hlz:(tl zy).length=k:=by rw [tl_len];exact HX.out.1.symm
    rw [hlz] at hv2 hc2;subst hv2;have B5:=qsd (ai HA.out.2 hF2);clear HA hF2 hc2 etk hlz B2
    rcases Nat.lt_or_ge 300 m with hq|hq
    · have hd:decide ((k:Int)<(m:Nat))=true:=by have:=HNn.out.2.1;simp;omega
      have hd3:k<m:=by have:=HNn.out.2.1;omega
      have hd2:decide ((k:Int)<300)=false:=by have:=HNn.out.2.1;simp;omega
      clear hq
      go_upto_if 38 with fail
      go_cut [0] from 36 to 40 (fun v wx=>v=.slice a N c∧wr=wx)
      case first =>
       by_cases h3:300<n
       · have e3:decide ((300:Int)<(n:Nat))=true:=by simp;omega
         have h1:=HNn.out.1;have h4:=HNn.out.2.2.1;obtain rfl:N=300:=by omega
         have h5:(300:Nat)≤c:=by omega
         clear h1 h4;go_wp2
         go_meet
         case rel=>exact ⟨rfl,rfl⟩
       · have e3:decide ((300:Int)<(n:Nat))=false:=by simp;omega
         have h1:=HNn.out.1;obtain rfl:n=N:=by omega
         clear h1;go_wp2
         go_meet
         case rel=>exact ⟨rfl,rfl⟩
      obtain ⟨rfl,rfl⟩:=hcut
      go_upto_if 43 with fail
      go_cut [1] from 41 to 45 (fun v wx=>v=.slice b k d∧wr=wx)
      case first =>
       by_cases h3:300<m
       · first
          | (exfalso;have:=HNn.out.2.1;omega)
          | (have e3:decide ((300:Int)<(m:Nat))=true:=by simp;omega
             have h1:=HNn.out.2.1;have h4:=HNn.out.2.2.2;obtain rfl:k=300:=by omega
             have h5:(300:Nat)≤d:=by omega
             clear h1 h4;go_wp2
             go_meet
             case rel=>exact ⟨rfl,rfl⟩)
       · first
          | (exfalso;have:=HNn.out.2.1;omega)
          | (have e3:decide ((300:Int)<(m:Nat))=false:=by simp;omega
             have h1:=HNn.out.2.1;obtain rfl:m=k:=by omega
             clear h1;go_wp2
             go_meet
             case rel=>exact ⟨rfl,rfl⟩)
      obtain ⟨rfl,rfl⟩:=hcut
      go_upto_if 48 with fail
      go_cut [10] from 46 to 50 (fun v wx=>v=.int .i64 (bkM mode)∧wr=wx)
      case first =>
       by_cases h2:mode=2
       · subst h2
         go_wp2
         go_meet
         case rel=>exact ⟨rfl,rfl⟩
       · by_cases h3:mode=3
         · subst h3
           go_wp2
           go_meet
           case rel=>exact ⟨rfl,rfl⟩
         · have e2:(mode==2)=false:=by simp [h2]
           have e3:(mode==3)=false:=by simp [h3]
           have e4:bkM mode=mode:=by unfold bkM;rw [if_neg h2,if_neg h3]
           have E4:=qsd e4;clear h2 h3 e4;go_wp2
           go_meet
           case rel=>exact ⟨by rw [E4.out],rfl⟩
      obtain ⟨rfl,rfl⟩:=hcut
      rcases HTn.out with ⟨E,hE,t1,t2,t3⟩|⟨N0,s,c0,t,l,s',c',t',l',s2,c2,t1,t2,t3,ws,wc,q1,q2,q3,q4,q5⟩
      · have hE2:(E==0)=false:=by simp [hE]
        have hEE:(E==E)=true:=by simp
        have C:=hid (HM.out wr b b d d zy mode B5.out.1 ((HX.out.2.1.below B5.out.1).mono B5.out.1.size) HX.out.1.symm HX.out.2.2.1 t1)
        go_wp2_with fail
        refine C.out.mono ?_;clear C;rintro r u1 ⟨rfl,hb⟩;obtain ⟨U1,hU1⟩:∃ U,U=u1.alloc (Obj.cells #[.int .i64 0,.float .f64 0,.float .f64 0,.float .f64 0,.float .f64 0] 26):=⟨_,rfl⟩;obtain ⟨g1,hg1⟩:∃ g,g=u1.heap.size:=⟨_,rfl⟩
        have B6:Aside (Below w.heap.size w U1∧Fs U1.heap.size U1 ao (tl zy)∧Bl U1 g1 26 [.int .i64 0,.float .f64 0,.float .f64 0,.float .f64 0,.float .f64 0]):=by
         have hb2:Below wr.heap.size wr U1:=by rw [hU1];exact hb.trans ((bel_alloc _ _).mono hb.size)
         refine ⟨B5.out.1.trans (hb2.mono B5.out.1.size),(B5.out.2.below hb2).mono hb2.size,?_⟩;rw [hU1,hg1];exact Bl.new _ 26 [.int .i64 0,.float .f64 0,.float .f64 0,.float .f64 0,.float .f64 0]
        have HU1:=(qsd (ai hU1 hg1));clear hU1 hg1 hb B5;have C:=hid (HM.out U1 ao ao co co (tl zy) (bkM mode) B6.out.1 B6.out.2.1 (by rw [tl_len];exact HX.out.1.symm) (tl_W64 HX.out.2.2.1) t2)
        go_upto_region 17 with fail
        rw [←HU1.out.1,←HU1.out.2];clear HU1
        go_wp2_with fail
        refine C.out.mono ?_;clear C;rintro r u2 ⟨rfl,hb⟩;obtain ⟨U2,hU2⟩:∃ U,U=u2.alloc (Obj.cells #[.int .i64 0,.float .f64 0,.float .f64 0,.float .f64 0,.float .f64 0] 26):=⟨_,rfl⟩;obtain ⟨g2,hg2⟩:∃ g,g=u2.heap.size:=⟨_,rfl⟩
        have B7:Aside (Below w.heap.size w U2∧Fs U2.heap.size U2 ao (tl zy)∧Bl U2 g1 26 [.int .i64 0,.float .f64 0,.float .f64 0,.float .f64 0,.float .f64 0]∧Bl U2 g2 26 [.int .i64 0,.float .f64 0,.float .f64 0,.float .f64 0,.float .f64 0]):=by
         have hb2:Below U1.heap.size U1 U2:=by rw [hU2];exact hb.trans ((bel_alloc _ _).mono hb.size)
         refine ⟨B6.out.1.trans (hb2.mono B6.out.1.size),(B6.out.2.1.below hb2).mono hb2.size,B6.out.2.2.below hb2 B6.out.2.2.lt,?_⟩;rw [hU2,hg2];exact Bl.new _ 26 [.int .i64 0,.float .f64 0,.float .f64 0,.float .f64 0,.float .f64 0]
        have HU2:=(qsd (ai hU2 hg2));clear hU2 hg2 hb B6;have C:=hid (HM.out U2 ao ao co co (tl zy) mode B7.out.1 B7.out.2.1 (by rw [tl_len];exact HX.out.1.symm) (tl_W64 HX.out.2.2.1) t3)
        clear HM
        go_upto_region 18 with fail
        rw [←HU2.out.1,←HU2.out.2];clear HU2
        go_wp2_with fail
        refine C.out.mono ?_;clear C;rintro r u3 ⟨rfl,hb⟩;obtain ⟨U3,hU3⟩:∃ U,U=u3.alloc (Obj.cells #[.int .i64 0,.float .f64 0,.float .f64 0,.float .f64 0,.float .f64 0] 26):=⟨_,rfl⟩;obtain ⟨g3,hg3⟩:∃ g,g=u3.heap.size:=⟨_,rfl⟩
        have B8:Aside (Below w.heap.size w U3∧Bl U3 g1 26 [.int .i64 0,.float .f64 0,.float .f64 0,.float .f64 0,.float .f64 0]∧Bl U3 g2 26 [.int .i64 0,.float .f64 0,.float .f64 0,.float .f64 0,.float .f64 0]∧Bl U3 g3 26 [.int .i64 0,.float .f64 0,.float .f64 0,.float .f64 0,.float .f64 0]):=by
         have hb2:Below U2.heap.size U2 U3:=by rw [hU3];exact hb.trans ((bel_alloc _ _).mono hb.size)
         refine ⟨B7.out.1.trans (hb2.mono B7.out.1.size),B7.out.2.2.1.below hb2 B7.out.2.2.1.lt,B7.out.2.2.2.below hb2 B7.out.2.2.2.lt,?_⟩;rw [hU3,hg3];exact Bl.new _ 26 [.int .i64 0,.float .f64 0,.float .f64 0,.float .f64 0,.float .f64 0]
        have HU3:=(qsd (ai hU3 hg3));clear hU3 hg3 hb B7 t1 t2 t3
        go_upto_region 19 with fail
        rw [←HU3.out.1,←HU3.out.2];clear HU3;have C:=hid (same19 0 0 0 0 0 U3);have x0:=B8.out.2.1.cell 0 _ rfl;have x1:=B8.out.2.1.cell 1 _ rfl;have x2:=B8.out.2.1.cell 2 _ rfl;have x3:=B8.out.2.1.cell 3 _ rfl;have x4:=B8.out.2.1.cell 4 _ rfl
        go_wp2_with fail
        refine C.out.mono ?_;clear C x0 x1 x2 x3 x4;rintro r u4 ⟨rfl,hb⟩;have B9:=qsd (ai (B8.out.1.trans (hb.mono B8.out.1.size)) (ai (B8.out.2.1.below hb B8.out.2.1.lt) (ai (B8.out.2.2.1.below hb B8.out.2.2.1.lt) (B8.out.2.2.2.below hb B8.out.2.2.2.lt))));clear hb B8;have C:=hid (same19 0 0 0 0 0 u4);have x0:=B9.out.2.1.cell 0 _ rfl;have x1:=B9.out.2.1.cell 1 _ rfl;have x2:=B9.out.2.1.cell 2 _ rfl;have x3:=B9.out.2.1.cell 3 _ rfl;have x4:=B9.out.2.1.cell 4 _ rfl;have y0:=B9.out.2.2.1.cell 0 _ rfl;have y1:=B9.out.2.2.1.cell 1 _ rfl;have y2:=B9.out.2.2.1.cell 2 _ rfl;have y3:=B9.out.2.2.1.cell 3 _ rfl;have y4:=B9.out.2.2.1.cell 4 _ rfl
        go_wp2_with fail
        refine C.out.mono ?_;clear C x0 x1 x2 x3 x4 y0 y1 y2 y3 y4;rintro r u5 ⟨rfl,hb⟩;have B10:=qsd (ai (B9.out.1.trans (hb.mono B9.out.1.size)) (ai (B9.out.2.1.below hb B9.out.2.1.lt) (B9.out.2.2.2.below hb B9.out.2.2.2.lt)));clear hb B9;have C:=hid (same19 0 0 0 0 0 u5);have x0:=B10.out.2.1.cell 0 _ rfl;have x1:=B10.out.2.1.cell 1 _ rfl;have x2:=B10.out.2.1.cell 2 _ rfl;have x3:=B10.out.2.1.cell 3 _ rfl;have x4:=B10.out.2.1.cell 4 _ rfl;have y0:=B10.out.2.2.cell 0 _ rfl;have y1:=B10.out.2.2.cell 1 _ rfl;have y2:=B10.out.2.2.cell 2 _ rfl;have y3:=B10.out.2.2.cell 3 _ rfl;have y4:=B10.out.2.2.cell 4 _ rfl
        go_wp2_with fail
        refine C.out.mono ?_;clear C x0 x1 x2 x3 x4 y0 y1 y2 y3 y4;rintro r u6 ⟨rfl,hb⟩;have B11:=qsd (B10.out.1.trans (hb.mono B10.out.1.size));clear hb B10;go_wp2;exact bodyPost_ret (v:=.bool true) (by simp [results,Tryz.results8,go_sem]) rfl ⟨rfl,B11.out⟩
      · have hn1:=fun U:World=>neg13 (P:=Tryz.prog) U s' ws
        have hn2:=fun U:World=>neg13 (P:=Tryz.prog) U c' wc
        obtain ⟨ts,hts⟩:∃ y,turnW s'=y:=⟨_,rfl⟩;obtain ⟨tc,htc⟩:∃ y,turnW c'=y:=⟨_,rfl⟩;rw [hts] at hn1 q1;rw [htc] at hn2 q2;clear hts htc ws wc;have C:=hid (HM.out wr b b d d zy mode B5.out.1 ((HX.out.2.1.below B5.out.1).mono B5.out.1.size) HX.out.1.symm HX.out.2.2.1 t1)
        go_wp2_with fail
        refine C.out.mono ?_;clear C;rintro r u1 ⟨rfl,hb⟩;obtain ⟨U1,hU1⟩:∃ U,U=u1.alloc (Obj.cells #[.int .i64 N0,.float .f64 s,.float .f64 c0,.float .f64 t,.float .f64 l] 26):=⟨_,rfl⟩;obtain ⟨g1,hg1⟩:∃ g,g=u1.heap.size:=⟨_,rfl⟩
        have B6:Aside (Below w.heap.size w U1∧Fs U1.heap.size U1 ao (tl zy)∧Bl U1 g1 26 [.int .i64 N0,.float .f64 s,.float .f64 c0,.float .f64 t,.float .f64 l]):=by
         have hb2:Below wr.heap.size wr U1:=by rw [hU1];exact hb.trans ((bel_alloc _ _).mono hb.size)
         refine ⟨B5.out.1.trans (hb2.mono B5.out.1.size),(B5.out.2.below hb2).mono hb2.size,?_⟩;rw [hU1,hg1];exact Bl.new _ 26 [.int .i64 N0,.float .f64 s,.float .f64 c0,.float .f64 t,.float .f64 l]
        have HU1:=(qsd (ai hU1 hg1));clear hU1 hg1 hb B5;have C:=hid (HM.out U1 ao ao co co (tl zy) (bkM mode) B6.out.1 B6.out.2.1 (by rw [tl_len];exact HX.out.1.symm) (tl_W64 HX.out.2.2.1) t2)
        go_upto_region 17 with fail
        rw [←HU1.out.1,←HU1.out.2];clear HU1
        go_wp2_with fail
        refine C.out.mono ?_;clear C;rintro r u2 ⟨rfl,hb⟩;obtain ⟨U2,hU2⟩:∃ U,U=u2.alloc (Obj.cells #[.int .i64 N0,.float .f64 s',.float .f64 c',.float .f64 t',.float .f64 l'] 26):=⟨_,rfl⟩;obtain ⟨g2,hg2⟩:∃ g,g=u2.heap.size:=⟨_,rfl⟩
        have B7:Aside (Below w.heap.size w U2∧Fs U2.heap.size U2 ao (tl zy)∧Bl U2 g1 26 [.int .i64 N0,.float .f64 s,.float .f64 c0,.float .f64 t,.float .f64 l]∧Bl U2 g2 26 [.int .i64 N0,.float .f64 s',.float .f64 c',.float .f64 t',.float .f64 l']):=by
         have hb2:Below U1.heap.size U1 U2:=by rw [hU2];exact hb.trans ((bel_alloc _ _).mono hb.size)
         refine ⟨B6.out.1.trans (hb2.mono B6.out.1.size),(B6.out.2.1.below hb2).mono hb2.size,B6.out.2.2.below hb2 B6.out.2.2.lt,?_⟩;rw [hU2,hg2];exact Bl.new _ 26 [.int .i64 N0,.float .f64 s',.float .f64 c',.float .f64 t',.float .f64 l']
        have HU2:=(qsd (ai hU2 hg2));clear hU2 hg2 hb B6;have C:=hid (HM.out U2 ao ao co co (tl zy) mode B7.out.1 B7.out.2.1 (by rw [tl_len];exact HX.out.1.symm) (tl_W64 HX.out.2.2.1) t3)
        clear HM
        go_upto_region 18 with fail
        rw [←HU2.out.1,←HU2.out.2];clear HU2
        go_wp2_with fail
        refine C.out.mono ?_;clear C;rintro r u3 ⟨rfl,hb⟩;obtain ⟨U3,hU3⟩:∃ U,U=u3.alloc (Obj.cells #[.int .i64 N0,.float .f64 s2,.float .f64 c2,.float .f64 t,.float .f64 l] 26):=⟨_,rfl⟩;obtain ⟨g3,hg3⟩:∃ g,g=u3.heap.size:=⟨_,rfl⟩
        have B8:Aside (Below w.heap.size w U3∧Bl U3 g1 26 [.int .i64 N0,.float .f64 s,.float .f64 c0,.float .f64 t,.float .f64 l]∧Bl U3 g2 26 [.int .i64 N0,.float .f64 s',.float .f64 c',.float .f64 t',.float .f64 l']∧Bl U3 g3 26 [.int .i64 N0,.float .f64 s2,.float .f64 c2,.float .f64 t,.float .f64 l]):=by
         have hb2:Below U2.heap.size U2 U3:=by rw [hU3];exact hb.trans ((bel_alloc _ _).mono hb.size)
         refine ⟨B7.out.1.trans (hb2.mono B7.out.1.size),B7.out.2.2.1.below hb2 B7.out.2.2.1.lt,B7.out.2.2.2.below hb2 B7.out.2.2.2.lt,?_⟩;rw [hU3,hg3];exact Bl.new _ 26 [.int .i64 N0,.float .f64 s2,.float .f64 c2,.float .f64 t,.float .f64 l]
        have HU3:=(qsd (ai hU3 hg3));clear hU3 hg3 hb B7 t1 t2 t3
        go_upto_region 19 with fail
        rw [←HU3.out.1,←HU3.out.2];clear HU3;have x0:=B8.out.2.1.cell 0 _ rfl;have x1:=B8.out.2.1.cell 1 _ rfl;have x2:=B8.out.2.1.cell 2 _ rfl;have x3:=B8.out.2.1.cell 3 _ rfl;have x4:=B8.out.2.1.cell 4 _ rfl;have y0:=B8.out.2.2.1.cell 0 _ rfl;have y1:=B8.out.2.2.1.cell 1 _ rfl;have y2:=B8.out.2.2.1.cell 2 _ rfl;have y3:=B8.out.2.2.1.cell 3 _ rfl;have y4:=B8.out.2.2.1.cell 4 _ rfl;have z0:=B8.out.2.2.2.cell 0 _ rfl;have z1:=B8.out.2.2.2.cell 1 _ rfl;have z2:=B8.out.2.2.2.cell 2 _ rfl;have z3:=B8.out.2.2.2.cell 3 _ rfl;have z4:=B8.out.2.2.2.cell 4 _ rfl;have C:=hid (exact_self19 t U3);have D:=hid (exact_self19 l U3)
        go_wp2_with (simp only [hn1,hn2])
        refine C.out.mono ?_;rintro r u4 ⟨rfl,hu⟩;rw [hu];clear C hu u4
        go_wp2_with fail
        refine D.out.mono ?_;rintro r u4 ⟨rfl,hu⟩;rw [hu];clear D hu u4;go_wp2;exact bodyPost_ret (v:=.bool true) (by simp [results,Tryz.results8,go_sem]) rfl ⟨rfl,B8.out.1⟩
    · have hd:decide ((k:Int)<(m:Nat))=false:=by have:=HNn.out.2.1;simp;omega
      have hd3:¬ k<m:=by have:=HNn.out.2.1;omega
      clear hq
      go_upto_if 38 with fail
      go_cut [0] from 36 to 40 (fun v wx=>v=.slice a N c∧wr=wx)
      case first =>
       by_cases h3:300<n
       · have e3:decide ((300:Int)<(n:Nat))=true:=by simp;omega
         have h1:=HNn.out.1;have h4:=HNn.out.2.2.1;obtain rfl:N=300:=by omega
         have h5:(300:Nat)≤c:=by omega
         clear h1 h4;go_wp2
         go_meet
         case rel=>exact ⟨rfl,rfl⟩
       · have e3:decide ((300:Int)<(n:Nat))=false:=by simp;omega
         have h1:=HNn.out.1;obtain rfl:n=N:=by omega
         clear h1;go_wp2
         go_meet
         case rel=>exact ⟨rfl,rfl⟩
      obtain ⟨rfl,rfl⟩:=hcut
      go_upto_if 43 with fail
      go_cut [1] from 41 to 45 (fun v wx=>v=.slice b k d∧wr=wx)
      case first =>
       by_cases h3:300<m
       · first
          | (exfalso;have:=HNn.out.2.1;omega)
          | (have e3:decide ((300:Int)<(m:Nat))=true:=by simp;omega
             have h1:=HNn.out.2.1;have h4:=HNn.out.2.2.2;obtain rfl:k=300:=by omega
             have h5:(300:Nat)≤d:=by omega
             clear h1 h4;go_wp2
             go_meet
             case rel=>exact ⟨rfl,rfl⟩)
       · first
          | (exfalso;have:=HNn.out.2.1;omega)
          | (have e3:decide ((300:Int)<(m:Nat))=false:=by simp;omega
             have h1:=HNn.out.2.1;obtain rfl:m=k:=by omega
             clear h1;go_wp2
             go_meet
             case rel=>exact ⟨rfl,rfl⟩)
      obtain ⟨rfl,rfl⟩:=hcut
      go_upto_if 48 with fail
      go_cut [10] from 46 to 50 (fun v wx=>v=.int .i64 (bkM mode)∧wr=wx)
      case first =>
       by_cases h2:mode=2
       · subst h2
         go_wp2
         go_meet
         case rel=>exact ⟨rfl,rfl⟩
       · by_cases h3:mode=3
         · subst h3
           go_wp2
           go_meet
           case rel=>exact ⟨rfl,rfl⟩
         · have e2:(mode==2)=false:=by simp [h2]
           have e3:(mode==3)=false:=by simp [h3]
           have e4:bkM mode=mode:=by unfold bkM;rw [if_neg h2,if_neg h3]
           have E4:=qsd e4;clear h2 h3 e4;go_wp2
           go_meet
           case rel=>exact ⟨by rw [E4.out],rfl⟩
      obtain ⟨rfl,rfl⟩:=hcut
      rcases HTn.out with ⟨E,hE,t1,t2,t3⟩|⟨N0,s,c0,t,l,s',c',t',l',s2,c2,t1,t2,t3,ws,wc,q1,q2,q3,q4,q5⟩
      · have hE2:(E==0)=false:=by simp [hE]
        have hEE:(E==E)=true:=by simp
        have C:=hid (HM.out wr b b d d zy mode B5.out.1 ((HX.out.2.1.below B5.out.1).mono B5.out.1.size) HX.out.1.symm HX.out.2.2.1 t1)
        go_wp2_with fail
        refine C.out.mono ?_;clear C;rintro r u1 ⟨rfl,hb⟩;obtain ⟨U1,hU1⟩:∃ U,U=u1.alloc (Obj.cells #[.int .i64 0,.float .f64 0,.float .f64 0,.float .f64 0,.float .f64 0] 26):=⟨_,rfl⟩;obtain ⟨g1,hg1⟩:∃ g,g=u1.heap.size:=⟨_,rfl⟩
        have B6:Aside (Below w.heap.size w U1∧Fs U1.heap.size U1 ao (tl zy)∧Bl U1 g1 26 [.int .i64 0,.float .f64 0,.float .f64 0,.float .f64 0,.float .f64 0]):=by
         have hb2:Below wr.heap.size wr U1:=by rw [hU1];exact hb.trans ((bel_alloc _ _).mono hb.size)
         refine ⟨B5.out.1.trans (hb2.mono B5.out.1.size),(B5.out.2.below hb2).mono hb2.size,?_⟩;rw [hU1,hg1];exact Bl.new _ 26 [.int .i64 0,.float .f64 0,.float .f64 0,.float .f64 0,.float .f64 0]
        have HU1:=(qsd (ai hU1 hg1));clear hU1 hg1 hb B5;have C:=hid (HM.out U1 ao ao co co (tl zy) (bkM mode) B6.out.1 B6.out.2.1 (by rw [tl_len];exact HX.out.1.symm) (tl_W64 HX.out.2.2.1) t2)
        go_upto_region 17 with fail
        rw [←HU1.out.1,←HU1.out.2];clear HU1
        go_wp2_with fail
        refine C.out.mono ?_;clear C;rintro r u2 ⟨rfl,hb⟩;obtain ⟨U2,hU2⟩:∃ U,U=u2.alloc (Obj.cells #[.int .i64 0,.float .f64 0,.float .f64 0,.float .f64 0,.float .f64 0] 26):=⟨_,rfl⟩;obtain ⟨g2,hg2⟩:∃ g,g=u2.heap.size:=⟨_,rfl⟩
        have B7:Aside (Below w.heap.size w U2∧Fs U2.heap.size U2 ao (tl zy)∧Bl U2 g1 26 [.int .i64 0,.float .f64 0,.float .f64 0,.float .f64 0,.float .f64 0]∧Bl U2 g2 26 [.int .i64 0,.float .f64 0,.float .f64 0,.float .f64 0,.float .f64 0]):=by
         have hb2:Below U1.heap.size U1 U2:=by rw [hU2];exact hb.trans ((bel_alloc _ _).mono hb.size)
         refine ⟨B6.out.1.trans (hb2.mono B6.out.1.size),(B6.out.2.1.below hb2).mono hb2.size,B6.out.2.2.below hb2 B6.out.2.2.lt,?_⟩;rw [hU2,hg2];exact Bl.new _ 26 [.int .i64 0,.float .f64 0,.float .f64 0,.float .f64 0,.float .f64 0]
        have HU2:=(qsd (ai hU2 hg2));clear hU2 hg2 hb B6;have C:=hid (HM.out U2 ao ao co co (tl zy) mode B7.out.1 B7.out.2.1 (by rw [tl_len];exact HX.out.1.symm) (tl_W64 HX.out.2.2.1) t3)
        clear HM
        go_upto_region 18 with fail
        rw [←HU2.out.1,←HU2.out.2];clear HU2
        go_wp2_with fail
        refine C.out.mono ?_;clear C;rintro r u3 ⟨rfl,hb⟩;obtain ⟨U3,hU3⟩:∃ U,U=u3.alloc (Obj.cells #[.int .i64 0,.float .f64 0,.float .f64 0,.float .f64 0,.float .f64 0] 26):=⟨_,rfl⟩;obtain ⟨g3,hg3⟩:∃ g,g=u3.heap.size:=⟨_,rfl⟩
        have B8:Aside (Below w.heap.size w U3∧Bl U3 g1 26 [.int .i64 0,.float .f64 0,.float .f64 0,.float .f64 0,.float .f64 0]∧Bl U3 g2 26 [.int .i64 0,.float .f64 0,.float .f64 0,.float .f64 0,.float .f64 0]∧Bl U3 g3 26 [.int .i64 0,.float .f64 0,.float .f64 0,.float .f64 0,.float .f64 0]):=by
         have hb2:Below U2.heap.size U2 U3:=by rw [hU3];exact hb.trans ((bel_alloc _ _).mono hb.size)
         refine ⟨B7.out.1.trans (hb2.mono B7.out.1.size),B7.out.2.2.1.below hb2 B7.out.2.2.1.lt,B7.out.2.2.2.below hb2 B7.out.2.2.2.lt,?_⟩;rw [hU3,hg3];exact Bl.new _ 26 [.int .i64 0,.float .f64 0,.float .f64 0,.float .f64 0,.float .f64 0]
        have HU3:=(qsd (ai hU3 hg3));clear hU3 hg3 hb B7 t1 t2 t3
        go_upto_region 19 with fail
        rw [←HU3.out.1,←HU3.out.2];clear HU3;have C:=hid (same19 0 0 0 0 0 U3);have x0:=B8.out.2.1.cell 0 _ rfl;have x1:=B8.out.2.1.cell 1 _ rfl;have x2:=B8.out.2.1.cell 2 _ rfl;have x3:=B8.out.2.1.cell 3 _ rfl;have x4:=B8.out.2.1.cell 4 _ rfl
        go_wp2_with fail
        refine C.out.mono ?_;clear C x0 x1 x2 x3 x4;rintro r u4 ⟨rfl,hb⟩;have B9:=qsd (ai (B8.out.1.trans (hb.mono B8.out.1.size)) (ai (B8.out.2.1.below hb B8.out.2.1.lt) (ai (B8.out.2.2.1.below hb B8.out.2.2.1.lt) (B8.out.2.2.2.below hb B8.out.2.2.2.lt))));clear hb B8;have C:=hid (same19 0 0 0 0 0 u4);have x0:=B9.out.2.1.cell 0 _ rfl;have x1:=B9.out.2.1.cell 1 _ rfl;have x2:=B9.out.2.1.cell 2 _ rfl;have x3:=B9.out.2.1.cell 3 _ rfl;have x4:=B9.out.2.1.cell 4 _ rfl;have y0:=B9.out.2.2.1.cell 0 _ rfl;have y1:=B9.out.2.2.1.cell 1 _ rfl;have y2:=B9.out.2.2.1.cell 2 _ rfl;have y3:=B9.out.2.2.1.cell 3 _ rfl;have y4:=B9.out.2.2.1.cell 4 _ rfl
        go_wp2_with fail
        refine C.out.mono ?_;clear C x0 x1 x2 x3 x4 y0 y1 y2 y3 y4;rintro r u5 ⟨rfl,hb⟩;have B10:=qsd (ai (B9.out.1.trans (hb.mono B9.out.1.size)) (ai (B9.out.2.1.below hb B9.out.2.1.lt) (B9.out.2.2.2.below hb B9.out.2.2.2.lt)));clear hb B9;have C:=hid (same19 0 0 0 0 0 u5);have x0:=B10.out.2.1.cell 0 _ rfl;have x1:=B10.out.2.1.cell 1 _ rfl;have x2:=B10.out.2.1.cell 2 _ rfl;have x3:=B10.out.2.1.cell 3 _ rfl;have x4:=B10.out.2.1.cell 4 _ rfl;have y0:=B10.out.2.2.cell 0 _ rfl;have y1:=B10.out.2.2.cell 1 _ rfl;have y2:=B10.out.2.2.cell 2 _ rfl;have y3:=B10.out.2.2.cell 3 _ rfl;have y4:=B10.out.2.2.cell 4 _ rfl
        go_wp2_with fail
        refine C.out.mono ?_;clear C x0 x1 x2 x3 x4 y0 y1 y2 y3 y4;rintro r u6 ⟨rfl,hb⟩;have B11:=qsd (B10.out.1.trans (hb.mono B10.out.1.size));clear hb B10;go_wp2;exact bodyPost_ret (v:=.bool true) (by simp [results,Tryz.results8,go_sem]) rfl ⟨rfl,B11.out⟩
      · have hn1:=fun U:World=>neg13 (P:=Tryz.prog) U s' ws
        have hn2:=fun U:World=>neg13 (P:=Tryz.prog) U c' wc
        obtain ⟨ts,hts⟩:∃ y,turnW s'=y:=⟨_,rfl⟩;obtain ⟨tc,htc⟩:∃ y,turnW c'=y:=⟨_,rfl⟩;rw [hts] at hn1 q1;rw [htc] at hn2 q2;clear hts htc ws wc;have C:=hid (HM.out wr b b d d zy mode B5.out.1 ((HX.out.2.1.below B5.out.1).mono B5.out.1.size) HX.out.1.symm HX.out.2.2.1 t1)
        go_wp2_with fail
        refine C.out.mono ?_;clear C;rintro r u1 ⟨rfl,hb⟩;obtain ⟨U1,hU1⟩:∃ U,U=u1.alloc (Obj.cells #[.int .i64 N0,.float .f64 s,.float .f64 c0,.float .f64 t,.float .f64 l] 26):=⟨_,rfl⟩;obtain ⟨g1,hg1⟩:∃ g,g=u1.heap.size:=⟨_,rfl⟩
        have B6:Aside (Below w.heap.size w U1∧Fs U1.heap.size U1 ao (tl zy)∧Bl U1 g1 26 [.int .i64 N0,.float .f64 s,.float .f64 c0,.float .f64 t,.float .f64 l]):=by
         have hb2:Below wr.heap.size wr U1:=by rw [hU1];exact hb.trans ((bel_alloc _ _).mono hb.size)
         refine ⟨B5.out.1.trans (hb2.mono B5.out.1.size),(B5.out.2.below hb2).mono hb2.size,?_⟩;rw [hU1,hg1];exact Bl.new _ 26 [.int .i64 N0,.float .f64 s,.float .f64 c0,.float .f64 t,.float .f64 l]
        have HU1:=(qsd (ai hU1 hg1));clear hU1 hg1 hb B5;have C:=hid (HM.out U1 ao ao co co (tl zy) (bkM mode) B6.out.1 B6.out.2.1 (by rw [tl_len];exact HX.out.1.symm) (tl_W64 HX.out.2.2.1) t2)
        go_upto_region 17 with fail
        rw [←HU1.out.1,←HU1.out.2];clear HU1
        go_wp2_with fail
        refine C.out.mono ?_;clear C;rintro r u2 ⟨rfl,hb⟩;obtain ⟨U2,hU2⟩:∃ U,U=u2.alloc (Obj.cells #[.int .i64 N0,.float .f64 s',.float .f64 c',.float .f64 t',.float .f64 l'] 26):=⟨_,rfl⟩;obtain ⟨g2,hg2⟩:∃ g,g=u2.heap.size:=⟨_,rfl⟩
        have B7:Aside (Below w.heap.size w U2∧Fs U2.heap.size U2 ao (tl zy)∧Bl U2 g1 26 [.int .i64 N0,.float .f64 s,.float .f64 c0,.float .f64 t,.float .f64 l]∧Bl U2 g2 26 [.int .i64 N0,.float .f64 s',.float .f64 c',.float .f64 t',.float .f64 l']):=by
         have hb2:Below U1.heap.size U1 U2:=by rw [hU2];exact hb.trans ((bel_alloc _ _).mono hb.size)
         refine ⟨B6.out.1.trans (hb2.mono B6.out.1.size),(B6.out.2.1.below hb2).mono hb2.size,B6.out.2.2.below hb2 B6.out.2.2.lt,?_⟩;rw [hU2,hg2];exact Bl.new _ 26 [.int .i64 N0,.float .f64 s',.float .f64 c',.float .f64 t',.float .f64 l']
        have HU2:=(qsd (ai hU2 hg2));clear hU2 hg2 hb B6;have C:=hid (HM.out U2 ao ao co co (tl zy) mode B7.out.1 B7.out.2.1 (by rw [tl_len];exact HX.out.1.symm) (tl_W64 HX.out.2.2.1) t3)
        clear HM
        go_upto_region 18 with fail
        rw [←HU2.out.1,←HU2.out.2];clear HU2
        go_wp2_with fail
        refine C.out.mono ?_;clear C;rintro r u3 ⟨rfl,hb⟩;obtain ⟨U3,hU3⟩:∃ U,U=u3.alloc (Obj.cells #[.int .i64 N0,.float .f64 s2,.float .f64 c2,.float .f64 t,.float .f64 l] 26):=⟨_,rfl⟩;obtain ⟨g3,hg3⟩:∃ g,g=u3.heap.size:=⟨_,rfl⟩
        have B8:Aside (Below w.heap.size w U3∧Bl U3 g1 26 [.int .i64 N0,.float .f64 s,.float .f64 c0,.float .f64 t,.float .f64 l]∧Bl U3 g2 26 [.int .i64 N0,.float .f64 s',.float .f64 c',.float .f64 t',.float .f64 l']∧Bl U3 g3 26 [.int .i64 N0,.float .f64 s2,.float .f64 c2,.float .f64 t,.float .f64 l]):=by
         have hb2:Below U2.heap.size U2 U3:=by rw [hU3];exact hb.trans ((bel_alloc _ _).mono hb.size)
         refine ⟨B7.out.1.trans (hb2.mono B7.out.1.size),B7.out.2.2.1.below hb2 B7.out.2.2.1.lt,B7.out.2.2.2.below hb2 B7.out.2.2.2.lt,?_⟩;rw [hU3,hg3];exact Bl.new _ 26 [.int .i64 N0,.float .f64 s2,.float .f64 c2,.float .f64 t,.float .f64 l]
        have HU3:=(qsd (ai hU3 hg3));clear hU3 hg3 hb B7 t1 t2 t3
        go_upto_region 19 with fail
        rw [←HU3.out.1,←HU3.out.2];clear HU3;have x0:=B8.out.2.1.cell 0 _ rfl;have x1:=B8.out.2.1.cell 1 _ rfl;have x2:=B8.out.2.1.cell 2 _ rfl;have x3:=B8.out.2.1.cell 3 _ rfl;have x4:=B8.out.2.1.cell 4 _ rfl;have y0:=B8.out.2.2.1.cell 0 _ rfl;have y1:=B8.out.2.2.1.cell 1 _ rfl;have y2:=B8.out.2.2.1.cell 2 _ rfl;have y3:=B8.out.2.2.1.cell 3 _ rfl;have y4:=B8.out.2.2.1.cell 4 _ rfl;have z0:=B8.out.2.2.2.cell 0 _ rfl;have z1:=B8.out.2.2.2.cell 1 _ rfl;have z2:=B8.out.2.2.2.cell 2 _ rfl;have z3:=B8.out.2.2.2.cell 3 _ rfl;have z4:=B8.out.2.2.2.cell 4 _ rfl;have C:=hid (exact_self19 t U3);have D:=hid (exact_self19 l U3)
        go_wp2_with (simp only [hn1,hn2])
        refine C.out.mono ?_;rintro r u4 ⟨rfl,hu⟩;rw [hu];clear C hu u4
        go_wp2_with fail
        refine D.out.mono ?_;rintro r u4 ⟨rfl,hu⟩;rw [hu];clear D hu u4;go_wp2;exact bodyPost_ret (v:=.bool true) (by simp [results,Tryz.results8,go_sem]) rfl ⟨rfl,B8.out.1⟩
end
end Go.Proofs.YtopgffjnejaijaaGreatDoor
