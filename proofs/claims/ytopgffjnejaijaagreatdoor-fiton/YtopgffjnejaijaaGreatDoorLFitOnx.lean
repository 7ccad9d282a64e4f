import Derived.Test.YtopgffjnejaijaaGreatDoorFI8x
set_option linter.unusedVariables false
set_option linter.unusedSimpArgs false
set_option maxHeartbeats 16000000
set_option maxRecDepth 20000
namespace Go.Proofs.YtopgffjnejaijaaGreatDoor
namespace J
end J
section
open Go.RowKit J
attribute [local go_sem] Ps.st_floatP
abbrev tm (z:Int):Int:=Int.tmod z 1000000
theorem tm_bd (z:Int):-1000000<tm z∧tm z<1000000:=⟨Int.lt_tmod_of_pos z (by decide),Int.tmod_lt_of_pos z (by decide)⟩
def tsL (ks:List Int) (k:Nat):List Int:=(ks.take k).map tm
theorem tsL_succ (ks:List Int) (k:Nat) (h:k<ks.length):tsL ks (k+1)=tsL ks k++[tm (ks.getD k 0)]:=by
 unfold tsL;rw [List.take_succ_eq_append_getElem h,List.map_append,List.getD_eq_getElem?_getD,List.getElem?_eq_getElem h]
 rfl
theorem tsL_len (ks:List Int) (k:Nat) (h:k≤ks.length):(tsL ks k).length=k:=by unfold tsL;rw [List.length_map,List.length_take];omega
def unl (ks:List Int) (k:Nat):Bool:=(tsL ks k).any fun t=>t != tm (ks.getD 0 0)
theorem unl_succ (ks:List Int) (k:Nat) (h:k<ks.length):unl ks (k+1)=(unl ks k || (tm (ks.getD k 0) != tm (ks.getD 0 0))):=by
 unfold unl;rw [tsL_succ ks k h,List.any_append];simp
theorem tsL_zero (ks:List Int) (k:Nat) (h0:0<k) (h:k≤ks.length):(tsL ks k).getD 0 0=tm (ks.getD 0 0):=by
 have hk:0<ks.length:=by omega
 unfold tsL;rw [List.getD_eq_getElem?_getD,List.getElem?_map,List.getElem?_take,if_pos h0,List.getElem?_eq_getElem hk,List.getD_eq_getElem?_getD,List.getElem?_eq_getElem hk]
 rfl
theorem on_s {ks:List Int}{k:Nat}{s c:Int}(hs:-1000<s∧s<1000) (hc:-1000000<c∧c<1000000):OnS s c (tsL ks k):=⟨hs,hc,fun t ht=>by
 obtain ⟨z,_,rfl⟩:=List.mem_map.1 ht;exact tm_bd z⟩
theorem onX_snoc (ts:List Int) (t:Int):onX (ts++[t])=onX ts++[iw t]:=by unfold onX;rw [List.map_append];rfl
theorem onY_snoc (s c:Int) (ts:List Int) (t:Int):onY s c (ts++[t])=onY s c ts++[iw (c+s*t)]:=by unfold onY;rw [List.map_append];rfl
theorem on_all {ks:List Int}{k:Nat}{s c:Int}(hs:-1000<s∧s<1000) (hc:-1000000<c∧c<1000000) (hk:k≤ks.length) (hk2:k≤1000) (mode:Int) :
 ((mode<0∨4<mode)∧fitR (onX (tsL ks k)) (onY s c (tsL ks k)) mode=(0,0,0,0,0,1))∨((0≤mode∧mode≤4)∧k<2∧fitR (onX (tsL ks k)) (onY s c (tsL ks k)) mode=(0,0,0,0,0,3)) ∨
 ((0≤mode∧mode≤4)∧2≤k∧unl ks k=false∧fitR (onX (tsL ks k)) (onY s c (tsL ks k)) mode=(0,0,0,0,0,190)) ∨
 ((0≤mode∧mode≤4)∧2≤k∧unl ks k=true∧fitR (onX (tsL ks k)) (onY s c (tsL ks k)) mode=(((k:Nat):Int),iw s,iw c,4607182418800017408,0,0)):=by
 have H:=on_s (ks:=ks) (k:=k) hs hc;have hl:=tsL_len ks k hk;have hE:=H.am (by omega) mode
 rw [hl] at hE
 by_cases h1:mode<0∨4<mode
 · left
   rw [if_pos h1] at hE;refine ⟨h1,?_⟩;unfold fitR;rw [hE,if_pos (by decide)]
 · rw [if_neg h1] at hE
   by_cases h2:k<2
   · right;left
     rw [if_pos h2] at hE;refine ⟨by omega,h2,?_⟩
     unfold fitR;rw [hE,if_pos (by decide)]
   · have e0:=tsL_zero ks k (by omega) hk
     cases hu:unl ks k with
     | false =>
       right;right;left
       refine ⟨by omega,by omega,rfl,H.flat (by omega) (by omega) (by omega) (by omega) fun t ht=>?_⟩
       unfold unl at hu;rw [List.any_eq_false] at hu;have:=hu t ht;rw [e0];simpa using this
     | true =>
       right;right;right
       refine ⟨by omega,by omega,rfl,?_⟩
       unfold unl at hu;rw [List.any_eq_true] at hu;obtain ⟨t,ht,hne⟩:=hu
       have m0:(tsL ks k).getD 0 0 ∈ tsL ks k:=by
        rw [List.getD_eq_getElem?_getD,List.getElem?_eq_getElem (show 0<(tsL ks k).length by omega)]
        exact List.getElem_mem _
       have hp:=H.pos ht m0 (by rw [e0];simpa using hne)
       have:=H.answer (by omega) (mode:=mode) (by omega) (by omega) (by omega) hp
       rw [hl] at this;exact this
theorem walk_FitOn (a:Option Addr) (n cp:Nat) (ks:List Int) (sl ct mode:Int) (w:World) (hT:Tab w) (hC:CameI w a n cp ks) (hm:n≤17592186043904) :
 Calls Tryz.prog 7 #[.slice a n cp,.int .i64 sl,.int .i64 ct,.int .i64 mode] w fun r w'=>r=.returned (.bool true)∧Below w.heap.size w w':=by
 obtain ⟨hl1,hcap,hW1,hF1,_⟩:=hC;obtain ⟨M,hM⟩:∃ M,M=min 1000 n:=⟨_,rfl⟩;obtain ⟨s,hs⟩:∃ s,s=Int.tmod sl 1000:=⟨_,rfl⟩;obtain ⟨c,hc⟩:∃ s,s=Int.tmod ct 1000000:=⟨_,rfl⟩;have bs:-1000<s∧s<1000:=by rw [hs];exact ⟨Int.lt_tmod_of_pos sl (by decide),Int.tmod_lt_of_pos sl (by decide)⟩
 have bc:-1000000<c∧c<1000000:=by rw [hc];exact ⟨Int.lt_tmod_of_pos ct (by decide),Int.tmod_lt_of_pos ct (by decide)⟩
 have hs2:=hs.symm;have hc2:=hc.symm;have ws1:IntKind.i64.wrap s=s:=by rw [IntKind.wrap_i64];omega
 have wc1:IntKind.i64.wrap c=c:=by rw [IntKind.wrap_i64];omega
 have HL:=hid (live19 w hT);have HX:=(qsd (ai hl1 (ai hF1 (ai hT (ai bs (ai bc hM))))));have hM1:M≤1000:=by omega
 have hMn:M≤n:=by omega
 clear hl1 hF1 hT hs hc hm hcap hM bs bc hW1;go_enter Tryz.func7,Tryz.ntmps7
 go_wp2_with fail
 refine HL.out.mono ?_;rintro r u ⟨rfl,hb⟩;have B2:=qsd hb;clear hb HL;go_wp2;clear hs2 hc2 ws1 wc1
 go_loopg [13,12,10,11] M (fun gk iv qv xv yv wr=>∃ (k:Nat) (v1 v2:Value),gk+k=M∧iv=.int .i64 (k:Nat)∧qv=.bool (unl ks k)∧xv=v1∧yv=v2∧Aside (R2 w wr v1 v2 (onX (tsL ks k)) (onY s c (tsL ks k))))
 case atStart=>exact ⟨0,.slice none 0 0,.slice none 0 0,by omega,by simp,by simp [unl,tsL],rfl,rfl,R2.nil B2.out⟩
 case round =>
  clear B2;obtain ⟨k,v1,v2,hgk,rfl,rfl,h1,h2,HA⟩:=hrel;have h1':=h1.symm;have h2':=h2.symm;clear h1 h2;subst h1' h2'
  by_cases hk:k<M
  · have hkl:k<ks.length:=by have:=HX.out.1;omega
    have hk0:0<ks.length:=by omega
    obtain ⟨b0,off,rfl,hck⟩:=HX.out.2.1.at HA.out.bel k hkl;obtain ⟨b1,off1,hb1,hc0⟩:=HX.out.2.1.at HA.out.bel 0 hk0;obtain ⟨rfl,rfl⟩:b0=b1∧off=off1:=by cases hb1;exact ⟨rfl,rfl⟩
    rw [Nat.add_zero] at hc0;have hu:=unl_succ ks k hkl;have ht:=tsL_succ ks k hkl;obtain ⟨z,hz⟩:∃ z,z=ks.getD k 0:=⟨_,rfl⟩;obtain ⟨z0,hz0⟩:∃ z,z=ks.getD 0 0:=⟨_,rfl⟩;rw [←hz] at hck ht hu;rw [←hz0] at hc0 hu;obtain ⟨t,ht1⟩:∃ t,t=tm z:=⟨_,rfl⟩;obtain ⟨t0,ht0⟩:∃ t,t=tm z0:=⟨_,rfl⟩;rw [←ht1] at ht hu;rw [←ht0] at hu;have bt:=tm_bd z;have bt0:=tm_bd z0;rw [←ht1] at bt;rw [←ht0] at bt0;have e1:Int.tmod z 1000000=t:=ht1.symm;have e0:Int.tmod z0 1000000=t0:=ht0.symm;have w1:IntKind.i64.wrap t=t:=by rw [IntKind.wrap_i64];omega
    have w0:IntKind.i64.wrap t0=t0:=by rw [IntKind.wrap_i64];omega
    have bst:(s*t).natAbs≤1000*1000000:=by rw [Int.natAbs_mul];have:=HX.out.2.2.2.1;exact Nat.mul_le_mul (by omega) (by omega)
    obtain ⟨p,hp⟩:∃ p,p=s*t:=⟨_,rfl⟩;have hp2:=hp.symm;rw [←hp] at bst;have w2:IntKind.i64.wrap p=p:=by rw [IntKind.wrap_i64];omega
    have w3:IntKind.i64.wrap (c+p)=c+p:=by have:=HX.out.2.2.2.2.1;rw [IntKind.wrap_i64];omega
    obtain ⟨x,hx⟩:∃ x,x=iw t:=⟨_,rfl⟩;obtain ⟨y,hy⟩:∃ y,y=iw (c+p):=⟨_,rfl⟩;have hx2:floatOfInt .f64 t=x:=hx.symm;have hy2:floatOfInt .f64 (c+p)=y:=hy.symm;have l1:(onX (tsL ks k)).length≤90000:=by unfold onX;rw [List.length_map,tsL_len ks k (by omega)];omega
    have l2:(onY s c (tsL ks k)).length≤90000:=by unfold onY;rw [List.length_map,tsL_len ks k (by omega)];omega
    obtain ⟨v3,W3,r1,r2,_⟩:=HA.out.push x l1;obtain ⟨v4,W4,r3,r4,_⟩:=r2.swap.push y l2;have r5:=r4.swap;have HR1:=qsd r1;have HR2:=qsd r3
    have HN:Aside (R2 w W4 v3 v4 (onX (tsL ks (k+1))) (onY s c (tsL ks (k+1)))):=by
     rw [ht,onX_snoc,onY_snoc,←hx,←hp,←hy];exact r5
    have HU:=qsd hu;have hkb:k<4611686018427387904:=by omega
    have hd:k<n:=by omega
    have hd2:decide ((k:Int)<1000)=true:=by simp;omega
    obtain ⟨q,hq⟩:∃ q,q=unl ks k:=⟨_,rfl⟩;have HQ:=qsd hq;rw [←hq];clear r1 r2 r3 r4 r5 hz hz0 ht1 ht0 hx hy ht hu bt bt0 bst l1 l2 hp hq HA hkl hk0 hb1
    cases q with
    | true =>
      go_wp2_with (first | (at_builtin;refine wpList_append_flt rfl (.tmp 46) (.tmp 49) rfl _ _ rfl rfl _ _ HR1.out ?_) | (at_builtin;refine wpList_append_flt rfl (.tmp 51) (.tmp 58) rfl _ _ rfl rfl _ _ HR2.out ?_))
      go_roundg (gk-1)
      case measure=>omega
      case rel=>exact ⟨k+1,_,_,by omega,by first | rfl | simp,by rw [HU.out,←HQ.out];rfl,rfl,rfl,HN.out⟩
    | false =>
      by_cases hne:t=t0
      · have hb0:(t==t0)=true:=by simp [hne]
        have HE:=qsd hne;clear hne
        go_wp2_with (first | (at_builtin;refine wpList_append_flt rfl (.tmp 46) (.tmp 49) rfl _ _ rfl rfl _ _ HR1.out ?_) | (at_builtin;refine wpList_append_flt rfl (.tmp 51) (.tmp 58) rfl _ _ rfl rfl _ _ HR2.out ?_))
        go_roundg (gk-1)
        case measure=>omega
        case rel=>exact ⟨k+1,_,_,by omega,by first | rfl | simp,by rw [HU.out,←HQ.out,HE.out];simp,rfl,rfl,HN.out⟩
      · have hb0:(t==t0)=false:=by simp [hne]
        have HE:=qsd hne;clear hne
        go_wp2_with (first | (at_builtin;refine wpList_append_flt rfl (.tmp 46) (.tmp 49) rfl _ _ rfl rfl _ _ HR1.out ?_) | (at_builtin;refine wpList_append_flt rfl (.tmp 51) (.tmp 58) rfl _ _ rfl rfl _ _ HR2.out ?_))
        go_roundg (gk-1)
        case measure=>omega
        case rel=>exact ⟨k+1,_,_,by omega,by first | rfl | simp,by rw [HU.out,←HQ.out];simp [HE.out],rfl,rfl,HN.out⟩
  · obtain rfl:k=M:=by omega
    obtain ⟨ax,cx,hv1,hcx⟩:=HA.out.a.shape0;obtain ⟨ay,cy,hv2,hcy⟩:=HA.out.b.shape0;have lx:(onX (tsL ks k)).length=k:=by unfold onX;rw [List.length_map,tsL_len ks k (by have:=HX.out.1;omega)]
    have ly:(onY s c (tsL ks k)).length=k:=by unfold onY;rw [List.length_map,tsL_len ks k (by have:=HX.out.1;omega)]
    rw [lx] at hv1;rw [ly] at hv2;subst hv1 hv2;have HS:=on_s (ks:=ks) (k:=k) HX.out.2.2.2.1 HX.out.2.2.2.2.1;have HK:=(qsd (ai (tsL_len ks k (by have:=HX.out.1;omega)) (ai HA.out.a.fs (ai HA.out.b.fs (ai HS.x64 (ai HS.y64 HA.out.bel))))))
    have HW:=qsd (on_all (ks:=ks) (k:=k) HX.out.2.2.2.1 HX.out.2.2.2.2.1 (by have:=HX.out.1;omega) hM1 mode)
    clear HA hcx hcy lx ly HS
    rcases Nat.lt_or_ge 1000 n with hq|hq
    · have hd:k<n:=by have:=HX.out.2.2.2.2.2;omega
      have hd2:decide ((k:Int)<1000)=false:=by have:=HX.out.2.2.2.2.2;simp;omega
      clear hq
      rcases HW.out with ⟨hb,hz⟩|⟨hm,h2,hz⟩|⟨hm,h2,hu,hz⟩|⟨hm,h2,hu,hz⟩
      · skip
        have C:=hid (Line19z (onX (tsL ks k)) (onY s c (tsL ks k)) ax ay k k cx cy mode wr (by unfold onX;rw [List.length_map,HK.out.1]) (by unfold onY;rw [List.length_map,HK.out.1]) HK.out.2.1 HK.out.2.2.1 HK.out.2.2.2.1 HK.out.2.2.2.2.1 (HX.out.2.2.1.belows HK.out.2.2.2.2.2) hz)
        clear hz
        go_wp2_with fail
        refine C.out.mono ?_;clear C;rintro r u1 ⟨rfl,hb⟩;obtain ⟨U1,hU1⟩:∃ U,U=u1.alloc (Obj.cells #[.int .i64 0,.float .f64 0,.float .f64 0,.float .f64 0,.float .f64 0] 26):=⟨_,rfl⟩;obtain ⟨g1,hg1⟩:∃ g,g=u1.heap.size:=⟨_,rfl⟩
        have B6:Aside (Below w.heap.size w U1∧Bl U1 g1 26 [.int .i64 0,.float .f64 0,.float .f64 0,.float .f64 0,.float .f64 0]):=by
         have hb2:Below wr.heap.size wr U1:=by rw [hU1];exact hb.trans ((bel_alloc _ _).mono hb.size)
         refine ⟨HK.out.2.2.2.2.2.trans (hb2.mono HK.out.2.2.2.2.2.size),?_⟩;rw [hU1,hg1];exact Bl.new _ 26 [.int .i64 0,.float .f64 0,.float .f64 0,.float .f64 0,.float .f64 0]
        have HU1:=(qsd (ai hU1 hg1));clear hU1 hg1 hb
        go_upto_region 15 with fail
        rw [←HU1.out.1,←HU1.out.2];clear HU1
        rcases Int.lt_or_le mode 0 with q|q
        · have d1:decide (mode<0)=true:=decide_eq_true q
          go_wp2;exact bodyPost_ret (v:=.bool true) (by simp [results,Tryz.results7,go_sem]) rfl ⟨rfl,B6.out.1⟩
        · have d1:decide (mode<0)=false:=decide_eq_false (by omega)
          have d2:decide (4<mode)=true:=decide_eq_true (by omega)
          go_wp2;exact bodyPost_ret (v:=.bool true) (by simp [results,Tryz.results7,go_sem]) rfl ⟨rfl,B6.out.1⟩
      · skip
        have d1:decide (mode<0)=false:=decide_eq_false (by omega)
        have d2:decide (4<mode)=false:=decide_eq_false (by omega)
        have d3:k<2:=h2;have d4:decide ((k:Int)<2)=true:=by simp;omega
        clear h2 hm;have C:=hid (Line19z (onX (tsL ks k)) (onY s c (tsL ks k)) ax ay k k cx cy mode wr (by unfold onX;rw [List.length_map,HK.out.1]) (by unfold onY;rw [List.length_map,HK.out.1]) HK.out.2.1 HK.out.2.2.1 HK.out.2.2.2.1 HK.out.2.2.2.2.1 (HX.out.2.2.1.belows HK.out.2.2.2.2.2) hz)
        clear hz
        go_wp2_with fail
        refine C.out.mono ?_;clear C;rintro r u1 ⟨rfl,hb⟩;obtain ⟨U1,hU1⟩:∃ U,U=u1.alloc (Obj.cells #[.int .i64 0,.float .f64 0,.float .f64 0,.float .f64 0,.float .f64 0] 26):=⟨_,rfl⟩;obtain ⟨g1,hg1⟩:∃ g,g=u1.heap.size:=⟨_,rfl⟩
        have B6:Aside (Below w.heap.size w U1∧Bl U1 g1 26 [.int .i64 0,.float .f64 0,.float .f64 0,.float .f64 0,.float .f64 0]):=by
         have hb2:Below wr.heap.size wr U1:=by rw [hU1];exact hb.trans ((bel_alloc _ _).mono hb.size)
         refine ⟨HK.out.2.2.2.2.2.trans (hb2.mono HK.out.2.2.2.2.2.size),?_⟩;rw [hU1,hg1];exact Bl.new _ 26 [.int .i64 0,.float .f64 0,.float .f64 0,.float .f64 0,.float .f64 0]
        have HU1:=(qsd (ai hU1 hg1));clear hU1 hg1 hb
        go_upto_region 15 with fail
        rw [←HU1.out.1,←HU1.out.2];clear HU1;go_wp2;exact bodyPost_ret (v:=.bool true) (by simp [results,Tryz.results7,go_sem]) rfl ⟨rfl,B6.out.1⟩
      · skip
        have d1:decide (mode<0)=false:=decide_eq_false (by omega)
        have d2:decide (4<mode)=false:=decide_eq_false (by omega)
        have d3:¬ k<2:=by omega
        have d4:decide ((k:Int)<2)=false:=by simp;omega
        clear h2 hm;rw [hu];clear hu;have C:=hid (Line19z (onX (tsL ks k)) (onY s c (tsL ks k)) ax ay k k cx cy mode wr (by unfold onX;rw [List.length_map,HK.out.1]) (by unfold onY;rw [List.length_map,HK.out.1]) HK.out.2.1 HK.out.2.2.1 HK.out.2.2.2.1 HK.out.2.2.2.2.1 (HX.out.2.2.1.belows HK.out.2.2.2.2.2) hz)
        clear hz
        go_wp2_with fail
        refine C.out.mono ?_;clear C;rintro r u1 ⟨rfl,hb⟩;obtain ⟨U1,hU1⟩:∃ U,U=u1.alloc (Obj.cells #[.int .i64 0,.float .f64 0,.float .f64 0,.float .f64 0,.float .f64 0] 26):=⟨_,rfl⟩;obtain ⟨g1,hg1⟩:∃ g,g=u1.heap.size:=⟨_,rfl⟩
        have B6:Aside (Below w.heap.size w U1∧Bl U1 g1 26 [.int .i64 0,.float .f64 0,.float .f64 0,.float .f64 0,.float .f64 0]):=by
         have hb2:Below wr.heap.size wr U1:=by rw [hU1];exact hb.trans ((bel_alloc _ _).mono hb.size)
         refine ⟨HK.out.2.2.2.2.2.trans (hb2.mono HK.out.2.2.2.2.2.size),?_⟩;rw [hU1,hg1];exact Bl.new _ 26 [.int .i64 0,.float .f64 0,.float .f64 0,.float .f64 0,.float .f64 0]
        have HU1:=(qsd (ai hU1 hg1));clear hU1 hg1 hb
        go_upto_region 15 with fail
        rw [←HU1.out.1,←HU1.out.2];clear HU1;go_wp2;exact bodyPost_ret (v:=.bool true) (by simp [results,Tryz.results7,go_sem]) rfl ⟨rfl,B6.out.1⟩
      · skip
        have d1:decide (mode<0)=false:=decide_eq_false (by omega)
        have d2:decide (4<mode)=false:=decide_eq_false (by omega)
        have d3:¬ k<2:=by omega
        have d4:decide ((k:Int)<2)=false:=by simp;omega
        have o1:(FloatKind.f64.format.order 4607182418800017408 4607182418800017408==some .eq)=true:=by decide +kernel
        have o0:(FloatKind.f64.format.order 0 0==some .eq)=true:=by decide +kernel
        have os:=iw_eq (k:=s) (by have:=HX.out.2.2.2.1;omega) (by have:=HX.out.2.2.2.1;omega)
        have oc:=iw_eq (k:=c) (by have:=HX.out.2.2.2.2.1;omega) (by have:=HX.out.2.2.2.2.1;omega)
        obtain ⟨S,hS⟩:∃ S,S=iw s:=⟨_,rfl⟩;obtain ⟨K,hK⟩:∃ S,S=iw c:=⟨_,rfl⟩;rw [←hS] at os hz;rw [←hK] at oc hz;have fS:floatOfInt .f64 s=S:=hS.symm;have fK:floatOfInt .f64 c=K:=hK.symm;clear h2 hm hS hK;rw [hu];clear hu;have C:=hid (Line19z (onX (tsL ks k)) (onY s c (tsL ks k)) ax ay k k cx cy mode wr (by unfold onX;rw [List.length_map,HK.out.1]) (by unfold onY;rw [List.length_map,HK.out.1]) HK.out.2.1 HK.out.2.2.1 HK.out.2.2.2.1 HK.out.2.2.2.2.1 (HX.out.2.2.1.belows HK.out.2.2.2.2.2) hz)
        clear hz
        go_wp2_with fail
        refine C.out.mono ?_;clear C;rintro r u1 ⟨rfl,hb⟩;obtain ⟨U1,hU1⟩:∃ U,U=u1.alloc (Obj.cells #[.int .i64 (k:Nat),.float .f64 S,.float .f64 K,.float .f64 4607182418800017408,.float .f64 0] 26):=⟨_,rfl⟩;obtain ⟨g1,hg1⟩:∃ g,g=u1.heap.size:=⟨_,rfl⟩
        have B6:Aside (Below w.heap.size w U1∧Bl U1 g1 26 [.int .i64 (k:Nat),.float .f64 S,.float .f64 K,.float .f64 4607182418800017408,.float .f64 0]):=by
         have hb2:Below wr.heap.size wr U1:=by rw [hU1];exact hb.trans ((bel_alloc _ _).mono hb.size)
         refine ⟨HK.out.2.2.2.2.2.trans (hb2.mono HK.out.2.2.2.2.2.size),?_⟩;rw [hU1,hg1];exact Bl.new _ 26 [.int .i64 (k:Nat),.float .f64 S,.float .f64 K,.float .f64 4607182418800017408,.float .f64 0]
        have HU1:=(qsd (ai hU1 hg1));clear hU1 hg1 hb
        go_upto_region 15 with fail
        rw [←HU1.out.1,←HU1.out.2];clear HU1;have z0:=B6.out.2.cell 0 _ rfl;have z1:=B6.out.2.cell 1 _ rfl;have z2:=B6.out.2.cell 2 _ rfl;have z3:=B6.out.2.cell 3 _ rfl;have z4:=B6.out.2.cell 4 _ rfl;go_wp2;exact bodyPost_ret (v:=.bool true) (by simp [results,Tryz.results7,go_sem]) rfl ⟨rfl,B6.out.1⟩
    · have hd:¬ k<n:=by have:=HX.out.2.2.2.2.2;omega
      clear hq
      rcases HW.out with ⟨hb,hz⟩|⟨hm,h2,hz⟩|⟨hm,h2,hu,hz⟩|⟨hm,h2,hu,hz⟩
      · skip
        have C:=hid (Line19z (onX (tsL ks k)) (onY s c (tsL ks k)) ax ay k k cx cy mode wr (by unfold onX;rw [List.length_map,HK.out.1]) (by unfold onY;rw [List.length_map,HK.out.1]) HK.out.2.1 HK.out.2.2.1 HK.out.2.2.2.1 HK.out.2.2.2.2.1 (HX.out.2.2.1.belows HK.out.2.2.2.2.2) hz)
        clear hz
        go_wp2_with fail
        refine C.out.mono ?_;clear C;rintro r u1 ⟨rfl,hb⟩;obtain ⟨U1,hU1⟩:∃ U,U=u1.alloc (Obj.cells #[.int .i64 0,.float .f64 0,.float .f64 0,.float .f64 0,.float .f64 0] 26):=⟨_,rfl⟩;obtain ⟨g1,hg1⟩:∃ g,g=u1.heap.size:=⟨_,rfl⟩
        have B6:Aside (Below w.heap.size w U1∧Bl U1 g1 26 [.int .i64 0,.float .f64 0,.float .f64 0,.float .f64 0,.float .f64 0]):=by
         have hb2:Below wr.heap.size wr U1:=by rw [hU1];exact hb.trans ((bel_alloc _ _).mono hb.size)
         refine ⟨HK.out.2.2.2.2.2.trans (hb2.mono HK.out.2.2.2.2.2.size),?_⟩;rw [hU1,hg1];exact Bl.new _ 26 [.int .i64 0,.float .f64 0,.float .f64 0,.float .f64 0,.float .f64 0]
        have HU1:=(qsd (ai hU1 hg1));clear hU1 hg1 hb
        go_upto_region 15 with fail
        rw [←HU1.out.1,←HU1.out.2];clear HU1
        rcases Int.lt_or_le mode 0 with q|q
        · have d1:decide (mode<0)=true:=decide_eq_true q
          go_wp2;exact bodyPost_ret (v:=.bool true) (by simp [results,Tryz.results7,go_sem]) rfl ⟨rfl,B6.out.1⟩
        · have d1:decide (mode<0)=false:=decide_eq_false (by omega)
          have d2:decide (4<mode)=true:=decide_eq_true (by omega)
          go_wp2;exact bodyPost_ret (v:=.bool true) (by simp [results,Tryz.results7,go_sem]) rfl ⟨rfl,B6.out.1⟩
      · skip
        have d1:decide (mode<0)=false:=decide_eq_false (by omega)
        have d2:decide (4<mode)=false:=decide_eq_false (by omega)
        have d3:k<2:=h2;have d4:decide ((k:Int)<2)=true:=by simp;omega
        clear h2 hm;have C:=hid (Line19z (onX (tsL ks k)) (onY s c (tsL ks k)) ax ay k k cx cy mode wr (by unfold onX;rw [List.length_map,HK.out.1]) (by unfold onY;rw [List.length_map,HK.out.1]) HK.out.2.1 HK.out.2.2.1 HK.out.2.2.2.1 HK.out.2.2.2.2.1 (HX.out.2.2.1.belows HK.out.2.2.2.2.2) hz)
        clear hz
        go_wp2_with fail
        refine C.out.mono ?_;clear C;rintro r u1 ⟨rfl,hb⟩;obtain ⟨U1,hU1⟩:∃ U,U=u1.alloc (Obj.cells #[.int .i64 0,.float .f64 0,.float .f64 0,.float .f64 0,.float .f64 0] 26):=⟨_,rfl⟩;obtain ⟨g1,hg1⟩:∃ g,g=u1.heap.size:=⟨_,rfl⟩
        have B6:Aside (Below w.heap.size w U1∧Bl U1 g1 26 [.int .i64 0,.float .f64 0,.float .f64 0,.float .f64 0,.float .f64 0]):=by
         have hb2:Below wr.heap.size wr U1:=by rw [hU1];exact hb.trans ((bel_alloc _ _).mono hb.size)
         refine ⟨HK.out.2.2.2.2.2.trans (hb2.mono HK.out.2.2.2.2.2.size),?_⟩;rw [hU1,hg1];exact Bl.new _ 26 [.int .i64 0,.float .f64 0,.float .f64 0,.float .f64 0,.float .f64 0]
        have HU1:=(qsd (ai hU1 hg1));clear hU1 hg1 hb
        go_upto_region 15 with fail
        rw [←HU1.out.1,←HU1.out.2];clear HU1;go_wp2;exact bodyPost_ret (v:=.bool true) (by simp [results,Tryz.results7,go_sem]) rfl ⟨rfl,B6.out.1⟩
      · skip
        have d1:decide (mode<0)=false:=decide_eq_false (by omega)
        have d2:decide (4<mode)=false:=decide_eq_false (by omega)
        have d3:¬ k<2:=by omega
        have d4:decide ((k:Int)<2)=false:=by simp;omega
        clear h2 hm;rw [hu];clear hu;have C:=hid (Line19z (onX (tsL ks k)) (onY s c (tsL ks k)) ax ay k k cx cy mode wr (by unfold onX;rw [List.length_map,HK.out.1]) (by unfold onY;rw [List.length_map,HK.out.1]) HK.out.2.1 HK.out.2.2.1 HK.out.2.2.2.1 HK.out.2.2.2.2.1 (HX.out.2.2.1.belows HK.out.2.2.2.2.2) hz)
        clear hz
        go_wp2_with fail
        refine C.out.mono ?_;clear C;rintro r u1 ⟨rfl,hb⟩;obtain ⟨U1,hU1⟩:∃ U,U=u1.alloc (Obj.cells #[.int .i64 0,.float .f64 0,.float .f64 0,.float .f64 0,.float .f64 0] 26):=⟨_,rfl⟩;obtain ⟨g1,hg1⟩:∃ g,g=u1.heap.size:=⟨_,rfl⟩
        have B6:Aside (Below w.heap.size w U1∧Bl U1 g1 26 [.int .i64 0,.float .f64 0,.float .f64 0,.float .f64 0,.float .f64 0]):=by
         have hb2:Below wr.heap.size wr U1:=by rw [hU1];exact hb.trans ((bel_alloc _ _).mono hb.size)
         refine ⟨HK.out.2.2.2.2.2.trans (hb2.mono HK.out.2.2.2.2.2.size),?_⟩;rw [hU1,hg1];exact Bl.new _ 26 [.int .i64 0,.float .f64 0,.float .f64 0,.float .f64 0,.float .f64 0]
        have HU1:=(qsd (ai hU1 hg1));clear hU1 hg1 hb
        go_upto_region 15 with fail
        rw [←HU1.out.1,←HU1.out.2];clear HU1;go_wp2;exact bodyPost_ret (v:=.bool true) (by simp [results,Tryz.results7,go_sem]) rfl ⟨rfl,B6.out.1⟩
      · skip
        have d1:decide (mode<0)=false:=decide_eq_false (by omega)
        have d2:decide (4<mode)=false:=decide_eq_false (by omega)
        have d3:¬ k<2:=by omega
        have d4:decide ((k:Int)<2)=false:=by simp;omega
        have o1:(FloatKind.f64.format.order 4607182418800017408 4607182418800017408==some .eq)=true:=by decide +kernel
        have o0:(FloatKind.f64.format.order 0 0==some .eq)=true:=by decide +kernel
        have os:=iw_eq (k:=s) (by have:=HX.out.2.2.2.1;omega) (by have:=HX.out.2.2.2.1;omega)
        have oc:=iw_eq (k:=c) (by have:=HX.out.2.2.2.2.1;omega) (by have:=HX.out.2.2.2.2.1;omega)
        obtain ⟨S,hS⟩:∃ S,S=iw s:=⟨_,rfl⟩;obtain ⟨K,hK⟩:∃ S,S=iw c:=⟨_,rfl⟩;rw [←hS] at os hz;rw [←hK] at oc hz;have fS:floatOfInt .f64 s=S:=hS.symm;have fK:floatOfInt .f64 c=K:=hK.symm;clear h2 hm hS hK;rw [hu];clear hu;have C:=hid (Line19z (onX (tsL ks k)) (onY s c (tsL ks k)) ax ay k k cx cy mode wr (by unfold onX;rw [List.length_map,HK.out.1]) (by unfold onY;rw [List.length_map,HK.out.1]) HK.out.2.1 HK.out.2.2.1 HK.out.2.2.2.1 HK.out.2.2.2.2.1 (HX.out.2.2.1.belows HK.out.2.2.2.2.2) hz)
        clear hz
        go_wp2_with fail
        refine C.out.mono ?_;clear C;rintro r u1 ⟨rfl,hb⟩;obtain ⟨U1,hU1⟩:∃ U,U=u1.alloc (Obj.cells #[.int .i64 (k:Nat),.float .f64 S,.float .f64 K,.float .f64 4607182418800017408,.float .f64 0] 26):=⟨_,rfl⟩;obtain ⟨g1,hg1⟩:∃ g,g=u1.heap.size:=⟨_,rfl⟩
        have B6:Aside (Below w.heap.size w U1∧Bl U1 g1 26 [.int .i64 (k:Nat),.float .f64 S,.float .f64 K,.float .f64 4607182418800017408,.float .f64 0]):=by
         have hb2:Below wr.heap.size wr U1:=by rw [hU1];exact hb.trans ((bel_alloc _ _).mono hb.size)
         refine ⟨HK.out.2.2.2.2.2.trans (hb2.mono HK.out.2.2.2.2.2.size),?_⟩;rw [hU1,hg1];exact Bl.new _ 26 [.int .i64 (k:Nat),.float .f64 S,.float .f64 K,.float .f64 4607182418800017408,.float .f64 0]
        have HU1:=(qsd (ai hU1 hg1));clear hU1 hg1 hb
        go_upto_region 15 with fail
        rw [←HU1.out.1,←HU1.out.2];clear HU1;have z0:=B6.out.2.cell 0 _ rfl;have z1:=B6.out.2.cell 1 _ rfl;have z2:=B6.out.2.cell 2 _ rfl;have z3:=B6.out.2.cell 3 _ rfl;have z4:=B6.out.2.cell 4 _ rfl;go_wp2;exact bodyPost_ret (v:=.bool true) (by simp [results,Tryz.results7,go_sem]) rfl ⟨rfl,B6.out.1⟩
end
end Go.Proofs.YtopgffjnejaijaaGreatDoor
