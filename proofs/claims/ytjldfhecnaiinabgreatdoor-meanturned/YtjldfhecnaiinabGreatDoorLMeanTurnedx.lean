import Derived.Test.YtjldfhecnaiinabGreatDoorF11x
import Derived.Test.YtjldfhecnaiinabGreatDoorD24x
import Derived.ProofKit
import Derived.OpenShut
import Derived.ChangeOld
import Derived.ChangeArms
import Derived.SizedLaws
import Derived.Laws.Cover2
set_option linter.unusedVariables false
set_option linter.unusedSimpArgs false
set_option maxHeartbeats 16000000
set_option maxRecDepth 20000
namespace Go.Proofs.YtjldfhecnaiinabGreatDoor
namespace J
end J
section
open Go.RowKit J
attribute [local go_sem] st_float
theorem xor_up13 (z:Nat) (hz:z<2^63):z ^^^ 2^63=2^63+z:=by
 apply Nat.eq_of_testBit_eq
 intro i;rw [Nat.testBit_xor,Nat.testBit_two_pow]
 rcases Nat.lt_trichotomy i 63 with h|h|h
 · rw [Nat.testBit_two_pow_add_gt h]
   simp [show ¬ 63=i by omega]
 · subst h
   rw [Nat.testBit_two_pow_add_eq,Nat.testBit_lt_two_pow hz];simp
 · have h1:z<2^i:=Nat.lt_of_lt_of_le hz (Nat.pow_le_pow_right (by decide) (by omega))
   have h2:2^63+z<2^i:=Nat.lt_of_lt_of_le (show 2^63+z<2^64 by omega) (Nat.pow_le_pow_right (by decide) (by omega))
   rw [Nat.testBit_lt_two_pow h1,Nat.testBit_lt_two_pow h2];simp [show ¬ 63=i by omega]
theorem neg_turn13 (y:Nat) (hy:y<18446744073709551616):Op.negFloat .f64 y=turnW y:=by
 show y ^^^ 2^63=turnW y
 unfold turnW
 by_cases h:9223372036854775808≤y
 · rw [if_pos h]
   obtain ⟨z,hz⟩:∃ z,z=y-9223372036854775808:=⟨_,rfl⟩;have e:y=z ^^^ 2^63:=by rw [xor_up13 z (by omega)];omega
   rw [←hz,e,Nat.xor_assoc,Nat.xor_self,Nat.xor_zero]
 · rw [if_neg h,xor_up13 y (by omega)];omega
theorem neg13 {P:Program}(w:World) (y:Nat) (hy:y<18446744073709551616):(Go.Op.unary .neg (.float .f64 y)).run P w=.ok (.float .f64 (turnW y)) w:=by
 rw [←neg_turn13 y hy];rfl
theorem tl_take (xs:List Nat) (k:Nat) (h:k<xs.length):tl (xs.take (k+1))=tl (xs.take k)++[turnW (xs.getD k 0)]:=by
 rw [take_snoc10 xs k h];simp [tl]
theorem walk2_MeanTurned (a:Option Addr) (n c:Nat) (xs:List Nat) (mode pa pb:Int) (w:World) (hT:Tab w) (hC:CameF w a n c xs) (hm:n≤17592186043904) :
 Calls Tryz.prog 6 #[.slice a n c,.int .i64 mode,.agg #[.int .i64 pa,.int .i64 pb]] w fun r w'=>r=.returned (.bool true)∧Below w.heap.size w w':=by
 obtain ⟨hl1,hcap,hW1,hF1,_⟩:=hC;obtain ⟨zs,hzs⟩:∃ zs,zs=xs.take 1000:=⟨_,rfl⟩;obtain ⟨N,hN⟩:∃ N,N=zs.length:=⟨_,rfl⟩;have hNn:N=min 1000 n:=by rw [hN,hzs,List.length_take,hl1]
 have hWz:W64 zs:=fun x hx=>hW1 x (by rw [hzs] at hx;exact List.mem_of_mem_take hx)
 have hFz:Fs w.heap.size w a zs:=by
  intro hne;obtain ⟨b,off,h1,h2,h3⟩:=hF1 (by intro q;rw [hzs,q] at hne;exact hne rfl)
  refine ⟨b,off,h1,h2,fun i hi=>?_⟩
  have hi2:i<xs.length:=by rw [hzs,List.length_take] at hi;omega
  rw [h3 i hi2,hzs]
  congr 2
  rw [List.getD_eq_getElem?_getD,List.getD_eq_getElem?_getD,List.getElem?_take,if_pos (by rw [hzs,List.length_take] at hi;omega)]
 have hTn:=turned13 hWz (by omega) mode pa pb
 obtain ⟨⟨X,E⟩,h1⟩:∃ r,meanR zs mode pa pb=r:=⟨_,rfl⟩;obtain ⟨⟨Y,F⟩,h2⟩:∃ r,meanR (tl zs) (bkM mode) pa pb=r:=⟨_,rfl⟩;rw [h1,h2] at hTn;simp only at hTn;have HL:=hid (fun (u:World) (hb:Below w.heap.size w u)=>live13 u (hT.belows hb))
 have HM1:Hid (∀ (u:World),Below w.heap.size w u→Calls Tryz.prog 10 #[.slice a N c,.int .i64 mode,.agg #[.int .i64 pa,.int .i64 pb]] u fun r w'=>r=.returned (.tuple #[.float .f64 X,.int .i64 E])∧Below u.heap.size u w'):=fun u hb=>Mean13 zs a N c mode pa pb u hN ((hFz.below hb).mono hb.size) hWz (hT.belows hb) (by omega) _ h1
 have HM2:Hid (∀ (u:World) (ao:Option Addr) (co:Nat),Below w.heap.size w u→Fs u.heap.size u ao (tl zs)→Calls Tryz.prog 10 #[.slice ao N co,.int .i64 (bkM mode),.agg #[.int .i64 pa,.int .i64 pb]] u fun r w'=>r=.returned (.tuple #[.float .f64 Y,.int .i64 F])∧Below u.heap.size u w'):=fun u ao co hb hF=>Mean13 (tl zs) ao N co (bkM mode) pa pb u (by rw [tl_len];exact hN) hF (tl_W64 hWz) (hT.belows hb) (by omega) _ h2
 have HX:=(qsd (ai hN (ai hFz hWz)));have HTn:=qsd hTn;have hN1:N≤1000:=by omega
 obtain ⟨W,hW⟩:∃ W,W=w.alloc (Obj.cells #[.int .i64 pa,.int .i64 pb] 29):=⟨_,rfl⟩;obtain ⟨gp,hgp⟩:∃ g,w.heap.size=g:=⟨_,rfl⟩;have B0:Aside (Below w.heap.size w W∧Bl W gp 29 [.int .i64 pa,.int .i64 pb]):=by rw [hW,←hgp];exact ⟨bel_alloc _ _,Bl.new w 29 [_,_]⟩
 have HW:=(qsd (ai hW hgp));have HNn:=(qsd (ai hNn hcap));clear hl1 hW1 hF1 hcap hm hT hN hNn hWz hFz hTn h1 h2 hzs hW hgp;go_enter Tryz.func6,Tryz.ntmps6
 go_wp2_with fail
 rw [←HW.out.1,HW.out.2];refine (HL.out _ B0.out.1).mono ?_;rintro r u ⟨rfl,hb⟩;have B2:Aside (Below w.heap.size w u∧Bl u gp 29 [.int .i64 pa,.int .i64 pb]):=⟨B0.out.1.trans (hb.mono B0.out.1.size),B0.out.2.below hb B0.out.2.lt⟩;clear hb HL B0
 by_cases hbig:1000<n
 · have d1:decide ((1000:Int)<(n:Nat))=true:=by simp;omega
   obtain rfl:N=1000:=by have:=HNn.out.1;omega
   have hc1:(1000:Nat)≤c:=by have:=HNn.out.2;omega
   go_wp2
   go_loopg [8,9] 1000 (fun gk lv iv wr=>∃ (k:Nat) (v:Value),gk+k=1000∧iv=.int .i64 (k:Nat)∧lv=v∧Aside (wr.ownsRow (gp+1) 22 1 v (tl (zs.take k)).length ((tl (zs.take k)).map Fw10)∧Below w.heap.size w wr∧Bl wr gp 29 [.int .i64 pa,.int .i64 pb]))
   case atStart=>exact ⟨0,.slice none 0 0,by omega,by simp,rfl,World.ownsRow_nil _ _ _ _,B2.out.1,B2.out.2⟩
   case round =>
    obtain ⟨k,v,hgk,rfl,hv,HA⟩:=hrel;have hv':=hv.symm;clear hv;subst hv'
    by_cases hk:k<1000
    · clear HM1 HM2
      obtain ⟨b,off,rfl,hc⟩:=HX.out.2.1.at HA.out.2.1 k (by rw [←HX.out.1];exact hk)
      have hkz:k<zs.length:=by rw [←HX.out.1];exact hk
      obtain ⟨z,hz⟩:∃ z,z=zs.getD k 0:=⟨_,rfl⟩;rw [←hz] at hc;have hz64:z<18446744073709551616:=by rw [hz];exact HX.out.2.2.get k
      have hn:=fun U:World=>neg13 (P:=Tryz.prog) U z hz64
      have HTl:Aside (tl (zs.take (k+1))=tl (zs.take k)++[turnW z]):=by rw [hz];exact tl_take zs k hkz
      obtain ⟨y,hy⟩:∃ y,turnW z=y:=⟨_,rfl⟩;rw [hy] at hn HTl;obtain ⟨v',w',r1,r2,r3,r4⟩:=append10 (gp+1) v (tl (zs.take k)) y wr HA.out.1 (by have:=HA.out.2.2.lt;omega) (by rw [tl_len,List.length_take];omega)
      have HR:=qsd r1;have HB':Aside (Bl w' gp 29 [.int .i64 pa,.int .i64 pb]):=HA.out.2.2.below r3 (by omega)
      have HN:=qsd (ai r2 (HA.out.2.1.trans (r3.mono (by have:=HW.out.2;omega))))
      have hkb:k<4611686018427387904:=by omega
      have hd:decide ((k:Int)<1000)=true:=by simp;omega
      clear r1 r2 r3 r4 hz hy hz64 hkz
      go_wp2_with (first | (at_builtin;refine wpList_append10 rfl (.tmp 27) (.tmp 33) 24 rfl _ _ rfl rfl _ _ HR.out ?_) | (simp only [hn]))
      go_roundg (gk-1)
      case measure=>omega
      case rel =>
       refine ⟨k+1,_,by omega,by first | rfl | simp,rfl,?_,HN.out.2,HB'.out⟩
       rw [HTl.out];exact HN.out.1
    · obtain rfl:k=1000:=by omega
      have etk:zs.take 1000=zs:=List.take_of_length_le (by have:=HX.out.1;omega)
      have hd:decide (((1000:Nat):Int)<1000)=false:=by simp
      obtain ⟨ao,co,hv2,hc2,hF2⟩:=own_fs10 HA.out.1 rfl;rw [etk] at hv2 hF2 hc2;have hlz:(tl zs).length=1000:=by rw [tl_len];exact HX.out.1.symm
      rw [hlz] at hv2 hc2;subst hv2;have B5:Aside (Below w.heap.size w wr∧Bl wr gp 29 [.int .i64 pa,.int .i64 pb]∧Fs wr.heap.size wr ao (tl zs)):=⟨HA.out.2.1,HA.out.2.2,hF2⟩;clear HA hF2 hc2 etk hlz B2
      by_cases h2:mode=2
      · subst h2
        have HBK:Aside (bkM 2=3):=rfl;have p0:=B5.out.2.1.cell 0 _ rfl;have p1:=B5.out.2.1.cell 1 _ rfl
        go_wp2_with fail
        refine (HM1.out _ B5.out.1).mono ?_;rintro r u1 ⟨rfl,hb⟩;have B6:Aside (Below w.heap.size w u1∧Bl u1 gp 29 [.int .i64 pa,.int .i64 pb]∧Fs u1.heap.size u1 ao (tl zs)):=⟨B5.out.1.trans (hb.mono B5.out.1.size),B5.out.2.1.below hb B5.out.2.1.lt,(B5.out.2.2.below hb).mono hb.size⟩;clear hb HM1 B5 p0 p1;have p0:=B6.out.2.1.cell 0 _ rfl;have p1:=B6.out.2.1.cell 1 _ rfl;have C2:=hid (HM2.out u1 ao co B6.out.1 B6.out.2.2);clear HM2;rw [HBK.out] at C2
        go_wp2_with fail
        refine C2.out.mono ?_;rintro r u2 ⟨rfl,hb⟩;have B7:=qsd (B6.out.1.trans (hb.mono B6.out.1.size));clear hb C2 B6 p0 p1;obtain ⟨ef,hT⟩:=HTn.out;subst ef;have ee:(E==E)=true:=by simp
        clear HTn HBK
        rcases hT with ⟨h0,rfl⟩|⟨rfl,rfl,rfl⟩|⟨rfl,hx,hy,hmx,hyx⟩
        · have h1:(E==0)=false:=by simp [h0]
          have C3:=hid (exact_law13 X X u2);rw [decide_eq_true rfl] at C3
          go_wp2_with fail
          refine C3.out.mono ?_;rintro r u3 ⟨rfl,hu⟩;rw [hu];clear hu C3;go_wp2;go_ret;exact ⟨rfl,B7.out⟩
        · have h1:(FloatKind.f64.format.order 9221120237041090560 9221120237041090560==some .eq)=false:=by decide +kernel
          have h2:(FloatKind.f64.format.order 9221120237041090560 9221120237041090560 != some .eq)=true:=by decide +kernel
          have h3:¬ FloatKind.f64.format.order 9221120237041090560 9221120237041090560=some .eq:=by decide +kernel
          have C3:=hid (exact_law13 9221120237041090560 9221120237041090560 u2);rw [decide_eq_true rfl] at C3
          go_wp2_with fail
          refine C3.out.mono ?_;rintro r u3 ⟨rfl,hu⟩;rw [hu];clear hu C3;go_wp2;go_ret;exact ⟨rfl,B7.out⟩
        · have h1:=eq_self13 hx hmx
          have h2:(FloatKind.f64.format.order X X != some .eq)=false:=by simp only [bne,h1];rfl
          have h3:FloatKind.f64.format.order X X=some .eq:=by simpa using h1
          have hn:=fun U:World=>neg13 (P:=Tryz.prog) U Y hy
          have hz:=eq_zero13 hx hmx
          rcases hyx with hyx|⟨hx0,hy0⟩
          · have et:turnW Y=X:=by rw [hyx];exact turn_turn hx
            rw [et] at hn
            by_cases hx0:magW X=0
            · have h4:(FloatKind.f64.format.order X 0==some .eq)=true:=by rw [hz];simp [hx0]
              have h5:FloatKind.f64.format.order X 0=some .eq:=by simpa using h4
              clear hz et hyx hx0 hx hy hmx
              go_wp2_with (simp only [hn])
              go_ret;exact ⟨rfl,B7.out⟩
            · have h4:(FloatKind.f64.format.order X 0==some .eq)=false:=by rw [hz];simp [hx0]
              have h5:¬ FloatKind.f64.format.order X 0=some .eq:=by simpa using h4
              have C3:=hid (exact_law13 X X u2);rw [decide_eq_true rfl] at C3;clear hz et hyx hx0 hx hy hmx
              go_wp2_with (first | (go_at_call 13;refine C3.out.mono ?_;rintro r u3 ⟨rfl,hu⟩;rw [hu];clear hu C3) | (simp only [hn]))
              go_ret;exact ⟨rfl,B7.out⟩
          · have h4:(FloatKind.f64.format.order X 0==some .eq)=true:=by rw [hz];simp [hx0]
            have h5:FloatKind.f64.format.order X 0=some .eq:=by simpa using h4
            obtain ⟨t1,t2,t3⟩:=turn_facts hy;have h6:(FloatKind.f64.format.order X (turnW Y)==some .eq)=true:=eq_nought13 hx t1 hx0 (by rw [t2];exact hy0)
            have h7:FloatKind.f64.format.order X (turnW Y)=some .eq:=by simpa using h6
            obtain ⟨Y',hY'⟩:∃ Y',turnW Y=Y':=⟨_,rfl⟩;rw [hY'] at hn h6 h7;clear hz hx0 hy0 hx hy hmx t1 t2 t3 hY'
            go_wp2_with (simp only [hn])
            go_ret;exact ⟨rfl,B7.out⟩
      · by_cases h3:mode=3
        · subst h3
          have HBK:Aside (bkM 3=2):=rfl;have p0:=B5.out.2.1.cell 0 _ rfl;have p1:=B5.out.2.1.cell 1 _ rfl
          go_wp2_with fail
          refine (HM1.out _ B5.out.1).mono ?_;rintro r u1 ⟨rfl,hb⟩;have B6:Aside (Below w.heap.size w u1∧Bl u1 gp 29 [.int .i64 pa,.int .i64 pb]∧Fs u1.heap.size u1 ao (tl zs)):=⟨B5.out.1.trans (hb.mono B5.out.1.size),B5.out.2.1.below hb B5.out.2.1.lt,(B5.out.2.2.below hb).mono hb.size⟩;clear hb HM1 B5 p0 p1;have p0:=B6.out.2.1.cell 0 _ rfl;have p1:=B6.out.2.1.cell 1 _ rfl;have C2:=hid (HM2.out u1 ao co B6.out.1 B6.out.2.2);clear HM2;rw [HBK.out] at C2
          go_wp2_with fail
          refine C2.out.mono ?_;rintro r u2 ⟨rfl,hb⟩;have B7:=qsd (B6.out.1.trans (hb.mono B6.out.1.size));clear hb C2 B6 p0 p1;obtain ⟨ef,hT⟩:=HTn.out;subst ef;have ee:(E==E)=true:=by simp
          clear HTn HBK
          rcases hT with ⟨h0,rfl⟩|⟨rfl,rfl,rfl⟩|⟨rfl,hx,hy,hmx,hyx⟩
          · have h1:(E==0)=false:=by simp [h0]
            have C3:=hid (exact_law13 X X u2);rw [decide_eq_true rfl] at C3
            go_wp2_with fail
            refine C3.out.mono ?_;rintro r u3 ⟨rfl,hu⟩;rw [hu];clear hu C3;go_wp2;go_ret;exact ⟨rfl,B7.out⟩
          · have h1:(FloatKind.f64.format.order 9221120237041090560 9221120237041090560==some .eq)=false:=by decide +kernel
            have h2:(FloatKind.f64.format.order 9221120237041090560 9221120237041090560 != some .eq)=true:=by decide +kernel
            have h3:¬ FloatKind.f64.format.order 9221120237041090560 9221120237041090560=some .eq:=by decide +kernel
            have C3:=hid (exact_law13 9221120237041090560 9221120237041090560 u2);rw [decide_eq_true rfl] at C3
            go_wp2_with fail
            refine C3.out.mono ?_;rintro r u3 ⟨rfl,hu⟩;rw [hu];clear hu C3;go_wp2;go_ret;exact ⟨rfl,B7.out⟩
          · have h1:=eq_self13 hx hmx
            have h2:(FloatKind.f64.format.order X X != some .eq)=false:=by simp only [bne,h1];rfl
            have h3:FloatKind.f64.format.order X X=some .eq:=by simpa using h1
            have hn:=fun U:World=>neg13 (P:=Tryz.prog) U Y hy
            have hz:=eq_zero13 hx hmx
            rcases hyx with hyx|⟨hx0,hy0⟩
            · have et:turnW Y=X:=by rw [hyx];exact turn_turn hx
              rw [et] at hn
              by_cases hx0:magW X=0
              · have h4:(FloatKind.f64.format.order X 0==some .eq)=true:=by rw [hz];simp [hx0]
                have h5:FloatKind.f64.format.order X 0=some .eq:=by simpa using h4
                clear hz et hyx hx0 hx hy hmx
                go_wp2_with (simp only [hn])
                go_ret;exact ⟨rfl,B7.out⟩
              · have h4:(FloatKind.f64.format.order X 0==some .eq)=false:=by rw [hz];simp [hx0]
                have h5:¬ FloatKind.f64.format.order X 0=some .eq:=by simpa using h4
                have C3:=hid (exact_law13 X X u2);rw [decide_eq_true rfl] at C3;clear hz et hyx hx0 hx hy hmx
                go_wp2_with (first | (go_at_call 13;refine C3.out.mono ?_;rintro r u3 ⟨rfl,hu⟩;rw [hu];clear hu C3) | (simp only [hn]))
                go_ret;exact ⟨rfl,B7.out⟩
            · have h4:(FloatKind.f64.format.order X 0==some .eq)=true:=by rw [hz];simp [hx0]
              have h5:FloatKind.f64.format.order X 0=some .eq:=by simpa using h4
              obtain ⟨t1,t2,t3⟩:=turn_facts hy;have h6:(FloatKind.f64.format.order X (turnW Y)==some .eq)=true:=eq_nought13 hx t1 hx0 (by rw [t2];exact hy0)
              have h7:FloatKind.f64.format.order X (turnW Y)=some .eq:=by simpa using h6
              obtain ⟨Y',hY'⟩:∃ Y',turnW Y=Y':=⟨_,rfl⟩;rw [hY'] at hn h6 h7;clear hz hx0 hy0 hx hy hmx t1 t2 t3 hY'
              go_wp2_with (simp only [hn])
              go_ret;exact ⟨rfl,B7.out⟩
        · have HBK:Aside (bkM mode=mode):=by unfold bkM;rw [if_neg h2,if_neg h3];exact qsd rfl
          have d2:(mode==2)=false:=by simp [h2]
          have d3:(mode==3)=false:=by simp [h3]
          have p0:=B5.out.2.1.cell 0 _ rfl;have p1:=B5.out.2.1.cell 1 _ rfl
          go_wp2_with fail
          refine (HM1.out _ B5.out.1).mono ?_;rintro r u1 ⟨rfl,hb⟩;have B6:Aside (Below w.heap.size w u1∧Bl u1 gp 29 [.int .i64 pa,.int .i64 pb]∧Fs u1.heap.size u1 ao (tl zs)):=⟨B5.out.1.trans (hb.mono B5.out.1.size),B5.out.2.1.below hb B5.out.2.1.lt,(B5.out.2.2.below hb).mono hb.size⟩;clear hb HM1 B5 p0 p1;have p0:=B6.out.2.1.cell 0 _ rfl;have p1:=B6.out.2.1.cell 1 _ rfl;have C2:=hid (HM2.out u1 ao co B6.out.1 B6.out.2.2);clear HM2;rw [HBK.out] at C2
          go_wp2_with fail
          refine C2.out.mono ?_;rintro r u2 ⟨rfl,hb⟩;have B7:=qsd (B6.out.1.trans (hb.mono B6.out.1.size));clear hb C2 B6 p0 p1;obtain ⟨ef,hT⟩:=HTn.out;subst ef;have ee:(E==E)=true:=by simp
          clear HTn HBK
          rcases hT with ⟨h0,rfl⟩|⟨rfl,rfl,rfl⟩|⟨rfl,hx,hy,hmx,hyx⟩
          · have h1:(E==0)=false:=by simp [h0]
            have C3:=hid (exact_law13 X X u2);rw [decide_eq_true rfl] at C3
            go_wp2_with fail
            refine C3.out.mono ?_;rintro r u3 ⟨rfl,hu⟩;rw [hu];clear hu C3;go_wp2;go_ret;exact ⟨rfl,B7.out⟩
          · have h1:(FloatKind.f64.format.order 9221120237041090560 9221120237041090560==some .eq)=false:=by decide +kernel
            have h2:(FloatKind.f64.format.order 9221120237041090560 9221120237041090560 != some .eq)=true:=by decide +kernel
            have h3:¬ FloatKind.f64.format.order 9221120237041090560 9221120237041090560=some .eq:=by decide +kernel
            have C3:=hid (exact_law13 9221120237041090560 9221120237041090560 u2);rw [decide_eq_true rfl] at C3
            go_wp2_with fail
            refine C3.out.mono ?_;rintro r u3 ⟨rfl,hu⟩;rw [hu];clear hu C3;go_wp2;go_ret;exact ⟨rfl,B7.out⟩
          · have h1:=eq_self13 hx hmx
            have h2:(FloatKind.f64.format.order X X != some .eq)=false:=by simp only [bne,h1];rfl
            have h3:FloatKind.f64.format.order X X=some .eq:=by simpa using h1
            have hn:=fun U:World=>neg13 (P:=Tryz.prog) U Y hy
            have hz:=eq_zero13 hx hmx
            rcases hyx with hyx|⟨hx0,hy0⟩
            · have et:turnW Y=X:=by rw [hyx];exact turn_turn hx
              rw [et] at hn
              by_cases hx0:magW X=0
              · have h4:(FloatKind.f64.format.order X 0==some .eq)=true:=by rw [hz];simp [hx0]
                have h5:FloatKind.f64.format.order X 0=some .eq:=by simpa using h4
                clear hz et hyx hx0 hx hy hmx
                go_wp2_with (simp only [hn])
                go_ret;exact ⟨rfl,B7.out⟩
              · have h4:(FloatKind.f64.format.order X 0==some .eq)=false:=by rw [hz];simp [hx0]
                have h5:¬ FloatKind.f64.format.order X 0=some .eq:=by simpa using h4
                have C3:=hid (exact_law13 X X u2);rw [decide_eq_true rfl] at C3;clear hz et hyx hx0 hx hy hmx
                go_wp2_with (first | (go_at_call 13;refine C3.out.mono ?_;rintro r u3 ⟨rfl,hu⟩;rw [hu];clear hu C3) | (simp only [hn]))
                go_ret;exact ⟨rfl,B7.out⟩
            · have h4:(FloatKind.f64.format.order X 0==some .eq)=true:=by rw [hz];simp [hx0]
              have h5:FloatKind.f64.format.order X 0=some .eq:=by simpa using h4
              obtain ⟨t1,t2,t3⟩:=turn_facts hy;have h6:(FloatKind.f64.format.order X (turnW Y)==some .eq)=true:=eq_nought13 hx t1 hx0 (by rw [t2];exact hy0)
              have h7:FloatKind.f64.format.order X (turnW Y)=some .eq:=by simpa using h6
              obtain ⟨Y',hY'⟩:∃ Y',turnW Y=Y':=⟨_,rfl⟩;rw [hY'] at hn h6 h7;clear hz hx0 hy0 hx hy hmx t1 t2 t3 hY'
              go_wp2_with (simp only [hn])
              go_ret;exact ⟨rfl,B7.out⟩
 · have d1:decide ((1000:Int)<(n:Nat))=false:=by simp;omega
   obtain rfl:N=n:=by have:=HNn.out.1;omega
   go_wp2
   go_loopg [8,9] N (fun gk lv iv wr=>∃ (k:Nat) (v:Value),gk+k=N∧iv=.int .i64 (k:Nat)∧lv=v∧Aside (wr.ownsRow (gp+1) 22 1 v (tl (zs.take k)).length ((tl (zs.take k)).map Fw10)∧Below w.heap.size w wr∧Bl wr gp 29 [.int .i64 pa,.int .i64 pb]))
   case atStart=>exact ⟨0,.slice none 0 0,by omega,by simp,rfl,World.ownsRow_nil _ _ _ _,B2.out.1,B2.out.2⟩
   case round =>
    obtain ⟨k,v,hgk,rfl,hv,HA⟩:=hrel;have hv':=hv.symm;clear hv;subst hv'
    by_cases hk:k<N
    · clear HM1 HM2
      obtain ⟨b,off,rfl,hc⟩:=HX.out.2.1.at HA.out.2.1 k (by rw [←HX.out.1];exact hk)
      have hkz:k<zs.length:=by rw [←HX.out.1];exact hk
      obtain ⟨z,hz⟩:∃ z,z=zs.getD k 0:=⟨_,rfl⟩;rw [←hz] at hc;have hz64:z<18446744073709551616:=by rw [hz];exact HX.out.2.2.get k
      have hn:=fun U:World=>neg13 (P:=Tryz.prog) U z hz64
      have HTl:Aside (tl (zs.take (k+1))=tl (zs.take k)++[turnW z]):=by rw [hz];exact tl_take zs k hkz
      obtain ⟨y,hy⟩:∃ y,turnW z=y:=⟨_,rfl⟩;rw [hy] at hn HTl;obtain ⟨v',w',r1,r2,r3,r4⟩:=append10 (gp+1) v (tl (zs.take k)) y wr HA.out.1 (by have:=HA.out.2.2.lt;omega) (by rw [tl_len,List.length_take];omega)
      have HR:=qsd r1;have HB':Aside (Bl w' gp 29 [.int .i64 pa,.int .i64 pb]):=HA.out.2.2.below r3 (by omega)
      have HN:=qsd (ai r2 (HA.out.2.1.trans (r3.mono (by have:=HW.out.2;omega))))
      have hkb:k<4611686018427387904:=by omega
      have hd:decide ((k:Int)<N)=true:=by simp;omega
      clear r1 r2 r3 r4 hz hy hz64 hkz
      go_wp2_with (first | (at_builtin;refine wpList_append10 rfl (.tmp 27) (.tmp 33) 24 rfl _ _ rfl rfl _ _ HR.out ?_) | (simp only [hn]))
      go_roundg (gk-1)
      case measure=>omega
      case rel =>
       refine ⟨k+1,_,by omega,by first | rfl | simp,rfl,?_,HN.out.2,HB'.out⟩
       rw [HTl.out];exact HN.out.1
    · obtain rfl:N=k:=by omega
      have etk:zs.take N=zs:=List.take_of_length_le (by have:=HX.out.1;omega)
      have hd:decide (((N:Nat):Int)<N)=false:=by simp
      obtain ⟨ao,co,hv2,hc2,hF2⟩:=own_fs10 HA.out.1 rfl;rw [etk] at hv2 hF2 hc2;have hlz:(tl zs).length=N:=by rw [tl_len];exact HX.out.1.symm
      rw [hlz] at hv2 hc2;subst hv2;have B5:Aside (Below w.heap.size w wr∧Bl wr gp 29 [.int .i64 pa,.int .i64 pb]∧Fs wr.heap.size wr ao (tl zs)):=⟨HA.out.2.1,HA.out.2.2,hF2⟩;clear HA hF2 hc2 etk hlz B2
      by_cases h2:mode=2
      · subst h2
        have HBK:Aside (bkM 2=3):=rfl;have p0:=B5.out.2.1.cell 0 _ rfl;have p1:=B5.out.2.1.cell 1 _ rfl
        go_wp2_with fail
        refine (HM1.out _ B5.out.1).mono ?_;rintro r u1 ⟨rfl,hb⟩;have B6:Aside (Below w.heap.size w u1∧Bl u1 gp 29 [.int .i64 pa,.int .i64 pb]∧Fs u1.heap.size u1 ao (tl zs)):=⟨B5.out.1.trans (hb.mono B5.out.1.size),B5.out.2.1.below hb B5.out.2.1.lt,(B5.out.2.2.below hb).mono hb.size⟩;clear hb HM1 B5 p0 p1;have p0:=B6.out.2.1.cell 0 _ rfl;have p1:=B6.out.2.1.cell 1 _ rfl;have C2:=hid (HM2.out u1 ao co B6.out.1 B6.out.2.2);clear HM2;rw [HBK.out] at C2
        go_wp2_with fail
        refine C2.out.mono ?_;rintro r u2 ⟨rfl,hb⟩;have B7:=qsd (B6.out.1.trans (hb.mono B6.out.1.size));clear hb C2 B6 p0 p1;obtain ⟨ef,hT⟩:=HTn.out;subst ef;have ee:(E==E)=true:=by simp
        clear HTn HBK
        rcases hT with ⟨h0,rfl⟩|⟨rfl,rfl,rfl⟩|⟨rfl,hx,hy,hmx,hyx⟩
        · have h1:(E==0)=false:=by simp [h0]
          have C3:=hid (exact_law13 X X u2);rw [decide_eq_true rfl] at C3
          go_wp2_with fail
          refine C3.out.mono ?_;rintro r u3 ⟨rfl,hu⟩;rw [hu];clear hu C3;go_wp2;go_ret;exact ⟨rfl,B7.out⟩
        · have h1:(FloatKind.f64.format.order 9221120237041090560 9221120237041090560==some .eq)=false:=by decide +kernel
          have h2:(FloatKind.f64.format.order 9221120237041090560 9221120237041090560 != some .eq)=true:=by decide +kernel
          have h3:¬ FloatKind.f64.format.order 9221120237041090560 9221120237041090560=some .eq:=by decide +kernel
          have C3:=hid (exact_law13 9221120237041090560 9221120237041090560 u2);rw [decide_eq_true rfl] at C3
          go_wp2_with fail
          refine C3.out.mono ?_;rintro r u3 ⟨rfl,hu⟩;rw [hu];clear hu C3;go_wp2;go_ret;exact ⟨rfl,B7.out⟩
        · have h1:=eq_self13 hx hmx
          have h2:(FloatKind.f64.format.order X X != some .eq)=false:=by simp only [bne,h1];rfl
          have h3:FloatKind.f64.format.order X X=some .eq:=by simpa using h1
          have hn:=fun U:World=>neg13 (P:=Tryz.prog) U Y hy
          have hz:=eq_zero13 hx hmx
          rcases hyx with hyx|⟨hx0,hy0⟩
          · have et:turnW Y=X:=by rw [hyx];exact turn_turn hx
            rw [et] at hn
            by_cases hx0:magW X=0
            · have h4:(FloatKind.f64.format.order X 0==some .eq)=true:=by rw [hz];simp [hx0]
              have h5:FloatKind.f64.format.order X 0=some .eq:=by simpa using h4
              clear hz et hyx hx0 hx hy hmx
              go_wp2_with (simp only [hn])
              go_ret;exact ⟨rfl,B7.out⟩
            · have h4:(FloatKind.f64.format.order X 0==some .eq)=false:=by rw [hz];simp [hx0]
              have h5:¬ FloatKind.f64.format.order X 0=some .eq:=by simpa using h4
              have C3:=hid (exact_law13 X X u2);rw [decide_eq_true rfl] at C3;clear hz et hyx hx0 hx hy hmx
              go_wp2_with (first | (go_at_call 13;refine C3.out.mono ?_;rintro r u3 ⟨rfl,hu⟩;rw [hu];clear hu C3) | (simp only [hn]))
              go_ret;exact ⟨rfl,B7.out⟩
          · have h4:(FloatKind.f64.format.order X 0==some .eq)=true:=by rw [hz];simp [hx0]
            have h5:FloatKind.f64.format.order X 0=some .eq:=by simpa using h4
            obtain ⟨t1,t2,t3⟩:=turn_facts hy;have h6:(FloatKind.f64.format.order X (turnW Y)==some .eq)=true:=eq_nought13 hx t1 hx0 (by rw [t2];exact hy0)
            have h7:FloatKind.f64.format.order X (turnW Y)=some .eq:=by simpa using h6
            obtain ⟨Y',hY'⟩:∃ Y',turnW Y=Y':=⟨_,rfl⟩;rw [hY'] at hn h6 h7;clear hz hx0 hy0 hx hy hmx t1 t2 t3 hY'
            go_wp2_with (simp only [hn])
            go_ret;exact ⟨rfl,B7.out⟩
      · by_cases h3:mode=3
        · subst h3
          have HBK:Aside (bkM 3=2):=rfl;have p0:=B5.out.2.1.cell 0 _ rfl;have p1:=B5.out.2.1.cell 1 _ rfl
          go_wp2_with fail
          refine (HM1.out _ B5.out.1).mono ?_;rintro r u1 ⟨rfl,hb⟩;have B6:Aside (Below w.heap.size w u1∧Bl u1 gp 29 [.int .i64 pa,.int .i64 pb]∧Fs u1.heap.size u1 ao (tl zs)):=⟨B5.out.1.trans (hb.mono B5.out.1.size),B5.out.2.1.below hb B5.out.2.1.lt,(B5.out.2.2.below hb).mono hb.size⟩;clear hb HM1 B5 p0 p1;have p0:=B6.out.2.1.cell 0 _ rfl;have p1:=B6.out.2.1.cell 1 _ rfl;have C2:=hid (HM2.out u1 ao co B6.out.1 B6.out.2.2);clear HM2;rw [HBK.out] at C2
          go_wp2_with fail
          refine C2.out.mono ?_;rintro r u2 ⟨rfl,hb⟩;have B7:=qsd (B6.out.1.trans (hb.mono B6.out.1.size));clear hb C2 B6 p0 p1;obtain ⟨ef,hT⟩:=HTn.out;subst ef;have ee:(E==E)=true:=by simp
          clear HTn HBK
          rcases hT with ⟨h0,rfl⟩|⟨rfl,rfl,rfl⟩|⟨rfl,hx,hy,hmx,hyx⟩
          · have h1:(E==0)=false:=by simp [h0]
            have C3:=hid (exact_law13 X X u2);rw [decide_eq_true rfl] at C3
            go_wp2_with fail
            refine C3.out.mono ?_;rintro r u3 ⟨rfl,hu⟩;rw [hu];clear hu C3;go_wp2;go_ret;exact ⟨rfl,B7.out⟩
          · have h1:(FloatKind.f64.format.order 9221120237041090560 9221120237041090560==some .eq)=false:=by decide +kernel
            have h2:(FloatKind.f64.format.order 9221120237041090560 9221120237041090560 != some .eq)=true:=by decide +kernel
            have h3:¬ FloatKind.f64.format.order 9221120237041090560 9221120237041090560=some .eq:=by decide +kernel
            have C3:=hid (exact_law13 9221120237041090560 9221120237041090560 u2);rw [decide_eq_true rfl] at C3
            go_wp2_with fail
            refine C3.out.mono ?_;rintro r u3 ⟨rfl,hu⟩;rw [hu];clear hu C3;go_wp2;go_ret;exact ⟨rfl,B7.out⟩
          · have h1:=eq_self13 hx hmx
            have h2:(FloatKind.f64.format.order X X != some .eq)=false:=by simp only [bne,h1];rfl
            have h3:FloatKind.f64.format.order X X=some .eq:=by simpa using h1
            have hn:=fun U:World=>neg13 (P:=Tryz.prog) U Y hy
            have hz:=eq_zero13 hx hmx
            rcases hyx with hyx|⟨hx0,hy0⟩
            · have et:turnW Y=X:=by rw [hyx];exact turn_turn hx
              rw [et] at hn
              by_cases hx0:magW X=0
              · have h4:(FloatKind.f64.format.order X 0==some .eq)=true:=by rw [hz];simp [hx0]
                have h5:FloatKind.f64.format.order X 0=some .eq:=by simpa using h4
                clear hz et hyx hx0 hx hy hmx
                go_wp2_with (simp only [hn])
                go_ret;exact ⟨rfl,B7.out⟩
              · have h4:(FloatKind.f64.format.order X 0==some .eq)=false:=by rw [hz];simp [hx0]
                have h5:¬ FloatKind.f64.format.order X 0=some .eq:=by simpa using h4
                have C3:=hid (exact_law13 X X u2);rw [decide_eq_true rfl] at C3;clear hz et hyx hx0 hx hy hmx
                go_wp2_with (first | (go_at_call 13;refine C3.out.mono ?_;rintro r u3 ⟨rfl,hu⟩;rw [hu];clear hu C3) | (simp only [hn]))
                go_ret;exact ⟨rfl,B7.out⟩
            · have h4:(FloatKind.f64.format.order X 0==some .eq)=true:=by rw [hz];simp [hx0]
              have h5:FloatKind.f64.format.order X 0=some .eq:=by simpa using h4
              obtain ⟨t1,t2,t3⟩:=turn_facts hy;have h6:(FloatKind.f64.format.order X (turnW Y)==some .eq)=true:=eq_nought13 hx t1 hx0 (by rw [t2];exact hy0)
              have h7:FloatKind.f64.format.order X (turnW Y)=some .eq:=by simpa using h6
              obtain ⟨Y',hY'⟩:∃ Y',turnW Y=Y':=⟨_,rfl⟩;rw [hY'] at hn h6 h7;clear hz hx0 hy0 hx hy hmx t1 t2 t3 hY'
              go_wp2_with (simp only [hn])
              go_ret;exact ⟨rfl,B7.out⟩
        · have HBK:Aside (bkM mode=mode):=by unfold bkM;rw [if_neg h2,if_neg h3];exact qsd rfl
          have d2:(mode==2)=false:=by simp [h2]
          have d3:(mode==3)=false:=by simp [h3]
          have p0:=B5.out.2.1.cell 0 _ rfl;have p1:=B5.out.2.1.cell 1 _ rfl
          go_wp2_with fail
          refine (HM1.out _ B5.out.1).mono ?_;rintro r u1 ⟨rfl,hb⟩;have B6:Aside (Below w.heap.size w u1∧Bl u1 gp 29 [.int .i64 pa,.int .i64 pb]∧Fs u1.heap.size u1 ao (tl zs)):=⟨B5.out.1.trans (hb.mono B5.out.1.size),B5.out.2.1.below hb B5.out.2.1.lt,(B5.out.2.2.below hb).mono hb.size⟩;clear hb HM1 B5 p0 p1;have p0:=B6.out.2.1.cell 0 _ rfl;have p1:=B6.out.2.1.cell 1 _ rfl;have C2:=hid (HM2.out u1 ao co B6.out.1 B6.out.2.2);clear HM2;rw [HBK.out] at C2
          go_wp2_with fail
          refine C2.out.mono ?_;rintro r u2 ⟨rfl,hb⟩;have B7:=qsd (B6.out.1.trans (hb.mono B6.out.1.size));clear hb C2 B6 p0 p1;obtain ⟨ef,hT⟩:=HTn.out;subst ef;have ee:(E==E)=true:=by simp
          clear HTn HBK
          rcases hT with ⟨h0,rfl⟩|⟨rfl,rfl,rfl⟩|⟨rfl,hx,hy,hmx,hyx⟩
          · have h1:(E==0)=false:=by simp [h0]
            have C3:=hid (exact_law13 X X u2);rw [decide_eq_true rfl] at C3
            go_wp2_with fail
            refine C3.out.mono ?_;rintro r u3 ⟨rfl,hu⟩;rw [hu];clear hu C3;go_wp2;go_ret;exact ⟨rfl,B7.out⟩
          · have h1:(FloatKind.f64.format.order 9221120237041090560 9221120237041090560==some .eq)=false:=by decide +kernel
            have h2:(FloatKind.f64.format.order 9221120237041090560 9221120237041090560 != some .eq)=true:=by decide +kernel
            have h3:¬ FloatKind.f64.format.order 9221120237041090560 9221120237041090560=some .eq:=by decide +kernel
            have C3:=hid (exact_law13 9221120237041090560 9221120237041090560 u2);rw [decide_eq_true rfl] at C3
            go_wp2_with fail
            refine C3.out.mono ?_;rintro r u3 ⟨rfl,hu⟩;rw [hu];clear hu C3;go_wp2;go_ret;exact ⟨rfl,B7.out⟩
          · have h1:=eq_self13 hx hmx
            have h2:(FloatKind.f64.format.order X X != some .eq)=false:=by simp only [bne,h1];rfl
            have h3:FloatKind.f64.format.order X X=some .eq:=by simpa using h1
            have hn:=fun U:World=>neg13 (P:=Tryz.prog) U Y hy
            have hz:=eq_zero13 hx hmx
            rcases hyx with hyx|⟨hx0,hy0⟩
            · have et:turnW Y=X:=by rw [hyx];exact turn_turn hx
              rw [et] at hn
              by_cases hx0:magW X=0
              · have h4:(FloatKind.f64.format.order X 0==some .eq)=true:=by rw [hz];simp [hx0]
                have h5:FloatKind.f64.format.order X 0=some .eq:=by simpa using h4
                clear hz et hyx hx0 hx hy hmx
                go_wp2_with (simp only [hn])
                go_ret;exact ⟨rfl,B7.out⟩
              · have h4:(FloatKind.f64.format.order X 0==some .eq)=false:=by rw [hz];simp [hx0]
                have h5:¬ FloatKind.f64.format.order X 0=some .eq:=by simpa using h4
                have C3:=hid (exact_law13 X X u2);rw [decide_eq_true rfl] at C3;clear hz et hyx hx0 hx hy hmx
                go_wp2_with (first | (go_at_call 13;refine C3.out.mono ?_;rintro r u3 ⟨rfl,hu⟩;rw [hu];clear hu C3) | (simp only [hn]))
                go_ret;exact ⟨rfl,B7.out⟩
            · have h4:(FloatKind.f64.format.order X 0==some .eq)=true:=by rw [hz];simp [hx0]
              have h5:FloatKind.f64.format.order X 0=some .eq:=by simpa using h4
              obtain ⟨t1,t2,t3⟩:=turn_facts hy;have h6:(FloatKind.f64.format.order X (turnW Y)==some .eq)=true:=eq_nought13 hx t1 hx0 (by rw [t2];exact hy0)
              have h7:FloatKind.f64.format.order X (turnW Y)=some .eq:=by simpa using h6
              obtain ⟨Y',hY'⟩:∃ Y',turnW Y=Y':=⟨_,rfl⟩;rw [hY'] at hn h6 h7;clear hz hx0 hy0 hx hy hmx t1 t2 t3 hY'
              go_wp2_with (simp only [hn])
              go_ret;exact ⟨rfl,B7.out⟩
end
section
open Go.ChangeShapes Go.WideShapes Go.ChangeAt Go.RowKit
theorem ints_of12 {H:Type}{enc:TypeId×Value→H}{W:World}{k:Nat}{c:Value}{x:Option (DataW H×List MemPlace)}{y:DataW H×List MemPlace}(h:DataW.trod enc Tryz.prog W 0 (fun _=>true) true k 3 [c]=x) (hx:x=some y):∃ n:Int,c=.int .i64 n∧y.1=.lit (.int .i64 n)∧-9223372036854775808≤n∧n≤9223372036854775807:=by
 subst hx;obtain ⟨e,e2,rfl,hw⟩:=DataW.trod_int Tryz.underlying3 h
 cases e2
 have hw':-9223372036854775808≤e∧e≤9223372036854775807:=by
  simp [Lit.wf,IntKind.min,IntKind.max,IntKind.signed,IntKind.bits] at hw;omega
 exact ⟨e,rfl,rfl,hw'.1,hw'.2⟩
theorem pol_of12 {H:Type}{enc:TypeId×Value→H}{W:World}{r:Reach}{b0:Nat}{v:Value}{d:DataW H}{p:List MemPlace}(hv:Value.okWide Tryz.prog W r b0 29 v) (h:DataW.Trod enc Tryz.prog W 0 (fun _=>true) true 29 v d p) :
 ∃ a b:Int,v=.agg #[.int .i64 a,.int .i64 b]:=by
 obtain ⟨cs,rfl,hsz⟩:=okWide_struct Tryz.underlying29 hv;obtain ⟨fuel,hf⟩:=h;have hC:Tryz.prog.cellsOf 29=2:=by kernel_rfl
 have c3:Tryz.prog.cellsOf 3=1:=by kernel_rfl
 obtain ⟨xs,k,rfl,hx,hl,hxl,hfs⟩:=DataW.trod_struct Tryz.underlying29 hf;rw [hC] at hsz
 obtain ⟨c0,c1,rfl⟩:∃ c0 c1,cs=#[c0,c1]:=by
  obtain ⟨l⟩:=cs
  match l,hsz with
  | [a,b],_=>exact ⟨a,b,rfl⟩
 have h0:DataW.trod enc Tryz.prog W 0 (fun _=>true) true k 3 (List.take (Tryz.prog.cellsOf 3) (List.drop 0 [c0,c1]))=xs[0]?:=hfs 0 _ rfl
 have h1:DataW.trod enc Tryz.prog W 0 (fun _=>true) true k 3 (List.take (Tryz.prog.cellsOf 3) (List.drop 1 [c0,c1]))=xs[1]?:=hfs 1 _ rfl
 rw [c3] at h0 h1
 match xs,hxl with
 | [x0,x1],_ =>
   obtain ⟨a,rfl,_⟩:=ints_of12 (c:=c0) h0 rfl;obtain ⟨b,rfl,_⟩:=ints_of12 (c:=c1) h1 rfl;exact ⟨a,b,rfl⟩
end
end Go.Proofs.YtjldfhecnaiinabGreatDoor
