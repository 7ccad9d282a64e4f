import Derived.Test.YtmkmndlpjenemaaGreatDoorTN1x
import Derived.Laws.FloatArith
set_option linter.unusedVariables false
set_option linter.unusedSimpArgs false
set_option maxHeartbeats 16000000
set_option maxRecDepth 20000
namespace Go.Proofs.YtmkmndlpjenemaaGreatDoor
namespace J
end J
section
open Go.RowKit J
attribute [local go_sem] st_float B.f64bits B.f64frombits
set_option maxRecDepth 20000 in
theorem walk2_TopNearest (a1:Option Addr) (n1 c1:Nat) (xs:List Nat) (w:World) (hT:Tab w) (hC:CameF w a1 n1 c1 xs) (hm1:n1≤17592186043904) :
 Calls Tryz.prog 5 #[.slice a1 n1 c1] w fun r w'=>r=.returned (.bool true)∧Below w.heap.size w w':=by
 obtain ⟨hl1,hcap1,hW1,hF1,hnil1⟩:=hC;obtain ⟨zs,hzs⟩:∃ zs,zs=xs.take 4096:=⟨_,rfl⟩;have hzl:zs.length=min 4096 n1:=by rw [hzs,List.length_take,hl1]
 have hzW:W64 zs:=fun x hx=>hW1 x (by rw [hzs] at hx;exact List.mem_of_mem_take hx)
 have hzF:Fs w.heap.size w a1 zs:=by rw [hzs];exact fs_takeT hF1 4096
 obtain ⟨K,hK⟩:∃ K,K=zs.filter smT++[4602678819172646912]:=⟨_,rfl⟩;obtain ⟨k1,k2,k3,k4⟩:=kp_all hzW (by omega) hK
 have n1s:=nst_sum k1 k2 (by omega)
 have n2s:=nst_mean k1 k2 k3 (by omega)
 have kS:=fS_bdT k2 (by omega) 3000 rfl
 have HX:=(qsd (ai hzl (ai hzW (ai hzF (ai hK (ai k4 (ai k1 (ai hT (ai k2 (ai n1s (ai n2s kS)))))))))));have HC1:=qsd hcap1;have hn1b:n1<4611686018427387904:=by omega
 have OA:=hid (fun (u:World) (hT:Tab u)=>of_any8 4607182418800017408 ⟨by decide,by decide⟩ u hT)
 have OB:=hid (fun (u:World) (hT:Tab u)=>of_any8 4611686018427387904 ⟨by decide,by decide⟩ u hT)
 have CAB:=hid (fun (U:World) (a b:Option Addr) (c d:Nat) (n1:Nt 0 U (.slice a (ws (dX (fo8 (fvW 4607182418800017408)))).length c) (dX (fo8 (fvW 4607182418800017408)))) (n2:Nt 0 U (.slice b (ws (dX (fo8 (fvW 4611686018427387904)))).length d) (dX (fo8 (fvW 4611686018427387904))))=>cmpT 3000 (by decide) cl2.1 cl2.2 n1 n2)
 have CBA:=hid (fun (U:World) (a b:Option Addr) (c d:Nat) (n1:Nt 0 U (.slice a (ws (dX (fo8 (fvW 4611686018427387904)))).length c) (dX (fo8 (fvW 4611686018427387904)))) (n2:Nt 0 U (.slice b (ws (dX (fo8 (fvW 4607182418800017408)))).length d) (dX (fo8 (fvW 4607182418800017408))))=>cmpT 3000 (by decide) cl2.2 cl2.1 n1 n2)
 rw [cl1.1] at CAB;rw [cl1.2] at CBA;have FA:=qsd (fo_fm13 (fvW 4607182418800017408) 3000 (by decide) cl2.1)
 have FB:=qsd (fo_fm13 (fvW 4611686018427387904) 3000 (by decide) cl2.2)
 obtain ⟨oA,hoA⟩:∃ o,fo8 (fvW 4607182418800017408)=o:=⟨_,rfl⟩;obtain ⟨oB,hoB⟩:∃ o,fo8 (fvW 4611686018427387904)=o:=⟨_,rfl⟩;rw [hoA] at OA CAB CBA FA;rw [hoB] at OB CAB CBA FB;have HNX:=hid (fun u:World=>nextT (x:=4607182418800017408) (by decide) (by decide) u)
 rw [cl4] at HNX;have HL5:=hid (fun u:World=>Ldexp52 u)
 have z75:(FloatKind.f64.format.order 4604930618986332160 4604930618986332160==some .eq)=true:=by decide +kernel
 have z75':FloatKind.f64.format.order 4604930618986332160 4604930618986332160=some .eq:=by decide +kernel
 have zn:(FloatKind.f64.format.order 4607182418800017409 4607182418800017409==some .eq)=true:=by decide +kernel
 have zn':FloatKind.f64.format.order 4607182418800017409 4607182418800017409=some .eq:=by decide +kernel
 have hop:∀ t (u:World),(binOp .add t (.float .f64 4607182418800017408) (.float .f64 4372995238176751616)).run Tryz.prog u=.ok (.float .f64 4607182418800017409) u:=fun t u=>run_float_arith u .add t .f64 4607182418800017408 4372995238176751616 4607182418800017409 (by decide +kernel)
 have S0:Aside (Sn w w []):=⟨fun e he=>absurd he (by simp),Below.refl _ _,hT⟩
 clear hl1 hcap1 hW1 hF1 hnil1 hzs hzl hzW hzF hK k1 k2 k3 k4 n1s n2s kS hT hm1 hoA hoB
 by_cases h3:4096<n1
 · have d3:decide ((4096:Int)<(n1:Nat))=true:=by simp;omega
   have hle:4096≤c1:=by have:=HC1.out;omega
   go_enter Tryz.func5,Tryz.ntmps5
   go_wp2_with fail
   refine (OA.out _ S0.out.t).mono ?_;rintro r u1 ⟨⟨v,rfl,hN⟩,hb⟩;obtain ⟨a1,c1,rfl,hN⟩:=Lo.shape FA.out hN;obtain ⟨U1,hU⟩:∃ U,U=u1.alloc (Obj.cells #[.bool (dN oA),.slice a1 (ws (dX oA)).length c1,.int .i64 (dE oA)] 42):=⟨_,rfl⟩;obtain ⟨g1,hg⟩:∃ g,u1.heap.size=g:=⟨_,rfl⟩;have S1:Aside (Sn w U1 ((g1,oA)::[])):=by rw [hU,←hg];exact (S0.out.below hb).new hN
   have HU:=(qsd (ai hU hg));clear hb hN hU hg S0
   go_upto_region 2 with fail
   rw [←HU.out.1,HU.out.2];clear HU
   go_wp2_with fail
   refine (OB.out _ S1.out.t).mono ?_;rintro r u2 ⟨⟨v,rfl,hN⟩,hb⟩;obtain ⟨a2,c2,rfl,hN⟩:=Lo.shape FB.out hN;obtain ⟨U2,hU⟩:∃ U,U=u2.alloc (Obj.cells #[.bool (dN oB),.slice a2 (ws (dX oB)).length c2,.int .i64 (dE oB)] 42):=⟨_,rfl⟩;obtain ⟨g2,hg⟩:∃ g,u2.heap.size=g:=⟨_,rfl⟩;have S2:Aside (Sn w U2 ((g2,oB)::[(g1,oA)])):=by rw [hU,←hg];exact (S1.out.below hb).new hN
   have HU:=(qsd (ai hU hg));clear hb hN hU hg S1
   go_upto_region 3 with fail
   rw [←HU.out.1,HU.out.2];clear HU;obtain ⟨V3,hV3⟩:∃ V,V=U2.alloc (Obj.cells #[.float .f64 4602678819172646912,.float .f64 4598175219545276416] 22):=⟨_,rfl⟩;have S3:Aside (Sn w V3 [(g2,oB),(g1,oA)]):=by rw [hV3];exact S2.out.below (below_alloc _ _)
   have C3:Hid (Calls Tryz.prog 18 #[.slice (some ⟨U2.heap.size,0,none⟩) 2 2,.int .i64 0,.agg #[.int .i64 0,.int .i64 0]] V3 fun r w'=>r=.returned (.tuple #[.float .f64 4604930618986332160,.int .i64 0])∧Below V3.heap.size V3 w'):=by
    have hF:Fs V3.heap.size V3 (some ⟨U2.heap.size,0,none⟩) [4602678819172646912,4598175219545276416]:=by
     rw [hV3];intro _;refine ⟨U2.heap.size,0,by simp,rfl,fun i hi=>?_⟩
     have hi2:i<2:=hi
     by_cases q:i=0
     · subst q;unfold World.cell?;simp only [heap_alloc_new];rfl
     · obtain rfl:i=1:=by omega
       unfold World.cell?;simp only [heap_alloc_new];rfl
    have:=Exact10_any [4602678819172646912,4598175219545276416] (some ⟨U2.heap.size,0,none⟩) 2 2 0 0 0 V3 rfl hF (by unfold W64;decide) S3.out.t (by decide) (by decide) (by decide) (by decide)
    rw [cl3] at this;exact this
   have HV:=qsd hV3;clear hV3 S2
   go_wp2_with fail
   rw [←HV.out];refine C3.out.mono ?_;rintro r u3 ⟨rfl,hb⟩;have S4:=qsd (S3.out.below hb);clear hb C3 HV S3;obtain ⟨pe,qe,De,Me⟩:=S4.out.l (g1,oA) (by simp)
   obtain ⟨xe0,xe1,xe2,ye0,ye1,ye2⟩:=De.facts;obtain ⟨pf,qf,Df,Mf⟩:=S4.out.l (g2,oB) (by simp)
   obtain ⟨xf0,xf1,xf2,yf0,yf1,yf2⟩:=Df.facts;have C4:=hid (CAB.out _ pe pf qe qf Me Mf);clear De Df Me Mf
   go_wp2_with (first | (go_at_call 19;refine (HNX.out _).mono ?_;rintro r u ⟨rfl,hu⟩;rw [hu];clear hu) | (go_at_call 20;refine (HL5.out _).mono ?_;rintro r u ⟨rfl,hu⟩;rw [hu];clear hu) | simp only [hop])
   refine C4.out.mono ?_;rintro r u4 ⟨rfl,hb⟩;have S5:=qsd (S4.out.below hb);clear hb C4 S4;clear xe0 xe1 xe2 ye0 ye1 ye2 xf0 xf1 xf2 yf0 yf1 yf2;obtain ⟨pe,qe,De,Me⟩:=S5.out.l (g1,oA) (by simp)
   obtain ⟨xe0,xe1,xe2,ye0,ye1,ye2⟩:=De.facts;obtain ⟨pf,qf,Df,Mf⟩:=S5.out.l (g2,oB) (by simp)
   obtain ⟨xf0,xf1,xf2,yf0,yf1,yf2⟩:=Df.facts;have C5:=hid (CBA.out _ pf pe qf qe Mf Me);clear De Df Me Mf
   go_wp2_with fail
   refine C5.out.mono ?_;rintro r u5 ⟨rfl,hb⟩;have B0:Aside (Below w.heap.size w u5):=(S5.out.below hb).b;clear hb C5 S5;clear xe0 xe1 xe2 ye0 ye1 ye2 xf0 xf1 xf2 yf0 yf1 yf2;have HZ:Aside (zs.length=4096):=by have:=HX.out.1;first | exact this | (show zs.length=_;omega)
   have O0:Aside (Rf w.heap.size u5 (.slice none 0 0) ((zs.take 0).filter smT)∧Below w.heap.size w u5):=⟨by simpa using Rf.nil w.heap.size u5,B0.out⟩
   clear B0;go_wp2
   go_loopg [9,66] 4096 (fun gk kv iv wr=>∃ (k:Nat) (v:Value),gk+k=4096∧iv=.int .i64 (k:Nat)∧kv=v∧Aside (Rf w.heap.size wr v ((zs.take k).filter smT)∧Below w.heap.size w wr))
   case atStart=>exact ⟨0,_,by omega,by simp,rfl,O0.out⟩
   case round =>
    clear O0;obtain ⟨k,v,hgk,rfl,hv,HA⟩:=hrel;have hv':=hv.symm;clear hv;subst hv'
    by_cases hk:k<4096
    · have hkz:k<zs.length:=by rw [HZ.out];exact hk
      obtain ⟨b,off,rfl,hc⟩:=HX.out.2.2.1.at HA.out.2 k hkz;obtain ⟨x,hx⟩:∃ x,x=zs.getD k 0:=⟨_,rfl⟩;rw [←hx] at hc;have hx64:x<18446744073709551616:=by rw [hx];exact HX.out.2.1.get k
      have CA:=hid (fun u:World=>absT hx64 u)
      have CL:=hid (fun u:World=>Ldexp1000 u)
      have hd:decide ((k:Int)<(4096:Nat))=true:=by simp;omega
      have hle:=leT (m:=magW x) (by unfold magW;omega)
      have hkt:=ft_take hkz;rw [←hx] at hkt;have hkb:k<4611686018427387904:=by omega
      obtain ⟨mx,hmx⟩:∃ m,m=magW x:=⟨_,rfl⟩;rw [←hmx] at CA hle
      cases hs:smT x
      · rw [hs,if_neg (by decide)] at hkt
        have hle2:(FloatKind.f64.format.order mx 9110782046170513408==some .lt || FloatKind.f64.format.order mx 9110782046170513408==some .eq)=false:=by
         rw [hle,hmx];exact hs
        have HN:Aside (Rf w.heap.size wr v ((zs.take (k+1)).filter smT)∧Below w.heap.size w wr):=by rw [hkt];exact HA.out
        clear hle hkt hs hx hmx HA hkz
        go_wp2_with (first | (go_at_call 22;refine (CA.out _).mono ?_;rintro r u1 ⟨rfl,hu⟩;rw [hu];clear hu) | (go_at_call 20;refine (CL.out _).mono ?_;rintro r u1 ⟨rfl,hu⟩;rw [hu];clear hu))
        go_roundg (gk-1)
        case measure=>omega
        case rel=>exact ⟨k+1,_,by omega,by first | rfl | simp,rfl,HN.out⟩
      · rw [hs,if_pos rfl] at hkt
        have hle2:(FloatKind.f64.format.order mx 9110782046170513408==some .lt || FloatKind.f64.format.order mx 9110782046170513408==some .eq)=true:=by
         rw [hle,hmx];exact hs
        obtain ⟨v2,W2,hrun0,hO2,hg2,hb2⟩:=append_flts (wr.alloc (Obj.cells #[.float .f64 x] 22)) w.heap.size v ((zs.take k).filter smT) [x] (some ⟨wr.heap.size,0,none⟩) 1 1 24 (HA.out.1.alloc _) rfl
         (fun _=>⟨wr.heap.size,0,rfl,fun i hi=>by
          obtain rfl:i=0:=by simp at hi;omega
          unfold World.cell?;simp only [heap_alloc_new];rfl⟩) (by simp) (by have:=List.length_filter_le smT (zs.take k);rw [List.length_take] at this;omega) (by have:=HA.out.2.size;simp;omega)
        have HN:Aside (Rf w.heap.size W2 v2 ((zs.take (k+1)).filter smT)∧Below w.heap.size w W2):=by
         rw [hkt];exact ⟨hO2,(HA.out.2.alloc HA.out.2.size _).grown hg2 (by have:=HA.out.2.size;simp;omega) (fun k e=>(HA.out.1.lt k e).1)⟩
        have HJ:=qsd hrun0;clear hle hkt hs hx hmx HA hkz hrun0 hO2 hg2 hb2
        go_wp2_with (first | (go_at_call 22;refine (CA.out _).mono ?_;rintro r u1 ⟨rfl,hu⟩;rw [hu];clear hu) | (go_at_call 20;refine (CL.out _).mono ?_;rintro r u1 ⟨rfl,hu⟩;rw [hu];clear hu) | (at_builtin;refine wpList_append_flt rfl _ _ rfl _ _ rfl rfl v2 W2 HJ.out ?_))
        go_roundg (gk-1)
        case measure=>omega
        case rel=>exact ⟨k+1,_,by omega,by first | rfl | simp,rfl,HN.out⟩
    · obtain rfl:k=4096:=by omega
      have hd:decide (((4096:Nat):Int)<(4096:Nat))=false:=by simp
      obtain ⟨Wk,hWk⟩:∃ W,W=wr:=⟨_,rfl⟩;subst hWk;have hzz:zs.take 4096=zs:=List.take_of_length_le (by rw [HZ.out];exact Nat.le_refl _)
      rw [hzz] at HA;have hfl:(zs.filter smT).length≤4096:=by have:=List.length_filter_le smT zs;rw [HZ.out] at this;omega
      obtain ⟨v2,Z,hrun0,hO2,hg2,hb2⟩:=append_flts (Wk.alloc (Obj.cells #[.float .f64 4602678819172646912] 22)) w.heap.size v (zs.filter smT) [4602678819172646912] (some ⟨Wk.heap.size,0,none⟩) 1 1 24 (HA.out.1.alloc _) rfl
       (fun _=>⟨Wk.heap.size,0,rfl,fun i hi=>by
        obtain rfl:i=0:=by simp at hi;omega
        unfold World.cell?;simp only [heap_alloc_new];rfl⟩) (by simp) (by omega) (by have:=HA.out.2.size;simp;omega)
      rw [←HX.out.2.2.2.1] at hO2;obtain ⟨ao,co,rfl,hco⟩:=hO2.shape0;have P1:Aside (Fs Z.heap.size Z ao K∧Below w.heap.size w Z):=⟨hO2.fs,(HA.out.2.alloc HA.out.2.size _).grown hg2 (by have:=HA.out.2.size;simp;omega) (fun k e=>(HA.out.1.lt k e).1)⟩
      have HJ:=qsd hrun0;clear HA hzz hfl hrun0 hO2 hg2 hb2;obtain ⟨N,hN⟩:∃ N,N=K.length:=⟨_,rfl⟩;rw [←hN] at hco HJ;have hN4:N≤4097:=by rw [hN];exact HX.out.2.2.2.2.1
      obtain ⟨x,lo,hi,e1,e2,e3,H1⟩:=HX.out.2.2.2.2.2.2.2.2.1;obtain ⟨x',lo',hi',f1,f2,f3,H2⟩:=HX.out.2.2.2.2.2.2.2.2.2.1;rw [←hN] at H2;have hN0:0<N:=by rw [hN,HX.out.2.2.2.1,List.length_append];simp
      have kS:=HX.out.2.2.2.2.2.2.2.2.2.2;have TT:Aside (∀ u:World,Below Z.heap.size Z u→Tab u):=fun u hb=>HX.out.2.2.2.2.2.2.1.belows (P1.out.2.trans (hb.mono P1.out.2.size))
      have FF:Aside (∀ u:World,Below Z.heap.size Z u→Fs u.heap.size u ao K):=fun u hb=>(P1.out.1.below hb).mono hb.size
      have CX:=hid (exactlyT K ao N co Z hN P1.out.1 HX.out.2.2.2.2.2.1 (fun x hx=>by show magW x<_;have:=HX.out.2.2.2.2.2.2.2.1 x hx;omega) (TT.out Z (Below.refl _ _)) (by omega))
      have CE:∀ (mode:Int) (r:Nat),0≤mode→mode≤4→rd10 (vS K) (sS K) mode 0 0=(r,0)→∀ u:World,Below Z.heap.size Z u→Calls Tryz.prog 18 #[.slice ao N co,.int .i64 mode,.agg #[.int .i64 0,.int .i64 0]] u fun r' w'=>r'=.returned (.tuple #[.float .f64 r,.int .i64 0])∧Below u.heap.size u w':=fun mode r h0 h4 hr u hb=>by
       have:=Exact10_any K ao N co mode 0 0 u hN (FF.out u hb) HX.out.2.2.2.2.2.1 (TT.out u hb) h0 h4 (by decide) (by omega)
       rw [hr] at this;exact this
      have E1:=hid (CE 0 x (by decide) (by decide) e1)
      have E2:=hid (CE 3 lo (by decide) (by decide) e2)
      have E3:=hid (CE 2 hi (by decide) (by decide) e3)
      have CM:∀ (mode:Int) (r:Nat),meanR K mode 0 0=(r,0)→∀ u:World,Below Z.heap.size Z u→Calls Tryz.prog 7 #[.slice ao N co,.int .i64 mode,.agg #[.int .i64 0,.int .i64 0]] u fun r' w'=>r'=.returned (.tuple #[.float .f64 r,.int .i64 0])∧Below u.heap.size u w':=fun mode r hr u hb=>Mean13 K ao N co mode 0 0 u hN (FF.out u hb) HX.out.2.2.2.2.2.1 (TT.out u hb) (by omega) (r,0) hr
      have M1:=hid (CM 0 x' f1);have M2:=hid (CM 3 lo' f2);have M3:=hid (CM 2 hi' f3);obtain ⟨SV,hSV⟩:∃ S,S=fS K:=⟨_,rfl⟩;rw [←hSV] at CX H1 H2 kS
      have N1:Hid (∀ (u:World) (p:Option Addr) (q:Nat),Below Z.heap.size Z u→Nt 0 u (.slice p (ws (dX (fo8 SV))).length q) (dX (fo8 SV))→Calls Tryz.prog 24 #[.agg #[.bool (dN (fo8 SV)),.slice p (ws (dX (fo8 SV))).length q,.int .i64 (dE (fo8 SV))],.int .i64 1,.float .f64 x,.float .f64 lo,.float .f64 hi] u fun r w'=>r=.returned (.bool true)∧Below u.heap.size u w'):=fun u p q hb hNt=>by
       have:=nearestT SV 1 x lo hi p q u 3000 rfl kS (by decide) (by decide) (TT.out u hb) hNt H1
       exact this
      have N2:Hid (∀ (u:World) (p:Option Addr) (q:Nat),Below Z.heap.size Z u→Nt 0 u (.slice p (ws (dX (fo8 SV))).length q) (dX (fo8 SV))→Calls Tryz.prog 24 #[.agg #[.bool (dN (fo8 SV)),.slice p (ws (dX (fo8 SV))).length q,.int .i64 (dE (fo8 SV))],.int .i64 (N:Nat),.float .f64 x',.float .f64 lo',.float .f64 hi'] u fun r w'=>r=.returned (.bool true)∧Below u.heap.size u w'):=fun u p q hb hNt =>
       nearestT SV N x' lo' hi' p q u 3000 rfl kS hN0 (by omega) (TT.out u hb) hNt H2
      obtain ⟨oS,hoS⟩:∃ o,fo8 SV=o:=⟨_,rfl⟩;rw [hoS] at CX N1 N2;have hNb:N<4611686018427387904:=by omega
      clear e1 e2 e3 H1 f1 f2 f3 H2 kS CE CM hN hN0 hN4 hSV hoS HX HZ
      go_wp2_with (at_builtin;refine wpList_append_flt rfl _ _ rfl _ _ rfl rfl _ Z HJ.out ?_)
      refine CX.out.mono ?_;rintro r u6 ⟨⟨p6,q6,rfl,hNt⟩,hb⟩;obtain ⟨U6,hU⟩:∃ U,U=(u6.alloc (Obj.cells #[.bool (dN oS),.slice p6 (ws (dX oS)).length q6,.int .i64 (dE oS)] 42)).alloc (Obj.cells #[.int .i64 0,.int .i64 0] 29):=⟨_,rfl⟩;obtain ⟨gs,hgs⟩:∃ g,u6.heap.size=g:=⟨_,rfl⟩;obtain ⟨gp,hgp⟩:∃ g,(u6.alloc (Obj.cells #[.bool (dN oS),.slice p6 (ws (dX oS)).length q6,.int .i64 (dE oS)] 42)).heap.size=g:=⟨_,rfl⟩
      have G6:Aside (En Z U6 gs gp oS):=by
       rw [hU,←hgs,←hgp];refine ⟨(Lo.new hNt).below (below_alloc _ _),by unfold World.cell?;simp only [heap_alloc_new];rfl,by unfold World.cell?;simp only [heap_alloc_new];rfl,?_⟩
       have b1:=hb.trans ((below_alloc u6 (Obj.cells #[.bool (dN oS),.slice p6 (ws (dX oS)).length q6,.int .i64 (dE oS)] 42)).mono hb.size);exact b1.trans ((below_alloc _ _).mono b1.size)
      have HU:=(qsd (ai hU (ai hgs hgp)));clear hb hNt hU hgs hgp CX HJ
      go_upto_region 18 with fail
      rw [←HU.out.1]
      try rw [HU.out.2.1]
      try rw [←HU.out.2.1,←World.size_alloc,HU.out.2.2]
      try rw [HU.out.2.1]
      clear HU;have xp0:=G6.out.p0;have xp1:=G6.out.p1;have C:=hid (E1.out _ G6.out.b);clear E1
      go_wp2_with fail
      refine C.out.mono ?_;rintro r u7 ⟨rfl,hb⟩;have G7:=qsd (G6.out.below hb);clear hb C xp0 xp1 G6;have xp0:=G7.out.p0;have xp1:=G7.out.p1;have C:=hid (E2.out _ G7.out.b);clear E2
      go_wp2_with fail
      refine C.out.mono ?_;rintro r u8 ⟨rfl,hb⟩;have G8:=qsd (G7.out.below hb);clear hb C xp0 xp1 G7;have xp0:=G8.out.p0;have xp1:=G8.out.p1;have C:=hid (E3.out _ G8.out.b);clear E3
      go_wp2_with fail
      refine C.out.mono ?_;rintro r u9 ⟨rfl,hb⟩;have G9:=qsd (G8.out.below hb);clear hb C xp0 xp1 G8;obtain ⟨pe,qe,De,Me⟩:=G9.out.l;obtain ⟨xe0,xe1,xe2,ye0,ye1,ye2⟩:=De.facts;have C:=hid (N1.out _ pe qe G9.out.b Me);clear N1 De Me
      go_wp2_with fail
      refine C.out.mono ?_;rintro r u10 ⟨rfl,hb⟩;have G10:=qsd (G9.out.below hb);clear hb C G9 xe0 xe1 xe2 ye0 ye1 ye2;have xp0:=G10.out.p0;have xp1:=G10.out.p1;have C:=hid (M1.out _ G10.out.b);clear M1
      go_wp2_with fail
      refine C.out.mono ?_;rintro r u11 ⟨rfl,hb⟩;have G11:=qsd (G10.out.below hb);clear hb C xp0 xp1 G10;have xp0:=G11.out.p0;have xp1:=G11.out.p1;have C:=hid (M2.out _ G11.out.b);clear M2
      go_wp2_with fail
      refine C.out.mono ?_;rintro r u12 ⟨rfl,hb⟩;have G12:=qsd (G11.out.below hb);clear hb C xp0 xp1 G11;have xp0:=G12.out.p0;have xp1:=G12.out.p1;have C:=hid (M3.out _ G12.out.b);clear M3
      go_wp2_with fail
      refine C.out.mono ?_;rintro r u13 ⟨rfl,hb⟩;have G13:=qsd (G12.out.below hb);clear hb C xp0 xp1 G12;obtain ⟨pe,qe,De,Me⟩:=G13.out.l;obtain ⟨xe0,xe1,xe2,ye0,ye1,ye2⟩:=De.facts;have C:=hid (N2.out _ pe qe G13.out.b Me);clear N2 De Me
      go_wp2_with fail
      refine C.out.mono ?_;rintro r u14 ⟨rfl,hb⟩;have G14:=qsd (G13.out.below hb);clear hb C G13 xe0 xe1 xe2 ye0 ye1 ye2;go_wp2;go_ret;exact ⟨rfl,P1.out.2.trans (G14.out.b.mono P1.out.2.size)⟩
 · have d3:decide ((4096:Int)<(n1:Nat))=false:=by simp;omega
   go_enter Tryz.func5,Tryz.ntmps5
   go_wp2_with fail
   refine (OA.out _ S0.out.t).mono ?_;rintro r u1 ⟨⟨v,rfl,hN⟩,hb⟩;obtain ⟨a1,c1,rfl,hN⟩:=Lo.shape FA.out hN;obtain ⟨U1,hU⟩:∃ U,U=u1.alloc (Obj.cells #[.bool (dN oA),.slice a1 (ws (dX oA)).length c1,.int .i64 (dE oA)] 42):=⟨_,rfl⟩;obtain ⟨g1,hg⟩:∃ g,u1.heap.size=g:=⟨_,rfl⟩;have S1:Aside (Sn w U1 ((g1,oA)::[])):=by rw [hU,←hg];exact (S0.out.below hb).new hN
   have HU:=(qsd (ai hU hg));clear hb hN hU hg S0
   go_upto_region 2 with fail
   rw [←HU.out.1,HU.out.2];clear HU
   go_wp2_with fail
   refine (OB.out _ S1.out.t).mono ?_;rintro r u2 ⟨⟨v,rfl,hN⟩,hb⟩;obtain ⟨a2,c2,rfl,hN⟩:=Lo.shape FB.out hN;obtain ⟨U2,hU⟩:∃ U,U=u2.alloc (Obj.cells #[.bool (dN oB),.slice a2 (ws (dX oB)).length c2,.int .i64 (dE oB)] 42):=⟨_,rfl⟩;obtain ⟨g2,hg⟩:∃ g,u2.heap.size=g:=⟨_,rfl⟩;have S2:Aside (Sn w U2 ((g2,oB)::[(g1,oA)])):=by rw [hU,←hg];exact (S1.out.below hb).new hN
   have HU:=(qsd (ai hU hg));clear hb hN hU hg S1
   go_upto_region 3 with fail
   rw [←HU.out.1,HU.out.2];clear HU;obtain ⟨V3,hV3⟩:∃ V,V=U2.alloc (Obj.cells #[.float .f64 4602678819172646912,.float .f64 4598175219545276416] 22):=⟨_,rfl⟩;have S3:Aside (Sn w V3 [(g2,oB),(g1,oA)]):=by rw [hV3];exact S2.out.below (below_alloc _ _)
   have C3:Hid (Calls Tryz.prog 18 #[.slice (some ⟨U2.heap.size,0,none⟩) 2 2,.int .i64 0,.agg #[.int .i64 0,.int .i64 0]] V3 fun r w'=>r=.returned (.tuple #[.float .f64 4604930618986332160,.int .i64 0])∧Below V3.heap.size V3 w'):=by
    have hF:Fs V3.heap.size V3 (some ⟨U2.heap.size,0,none⟩) [4602678819172646912,4598175219545276416]:=by
     rw [hV3];intro _;refine ⟨U2.heap.size,0,by simp,rfl,fun i hi=>?_⟩
     have hi2:i<2:=hi
     by_cases q:i=0
     · subst q;unfold World.cell?;simp only [heap_alloc_new];rfl
     · obtain rfl:i=1:=by omega
       unfold World.cell?;simp only [heap_alloc_new];rfl
    have:=Exact10_any [4602678819172646912,4598175219545276416] (some ⟨U2.heap.size,0,none⟩) 2 2 0 0 0 V3 rfl hF (by unfold W64;decide) S3.out.t (by decide) (by decide) (by decide) (by decide)
    rw [cl3] at this;exact this
   have HV:=qsd hV3;clear hV3 S2
   go_wp2_with fail
   rw [←HV.out];refine C3.out.mono ?_;rintro r u3 ⟨rfl,hb⟩;have S4:=qsd (S3.out.below hb);clear hb C3 HV S3;obtain ⟨pe,qe,De,Me⟩:=S4.out.l (g1,oA) (by simp)
   obtain ⟨xe0,xe1,xe2,ye0,ye1,ye2⟩:=De.facts;obtain ⟨pf,qf,Df,Mf⟩:=S4.out.l (g2,oB) (by simp)
   obtain ⟨xf0,xf1,xf2,yf0,yf1,yf2⟩:=Df.facts;have C4:=hid (CAB.out _ pe pf qe qf Me Mf);clear De Df Me Mf
   go_wp2_with (first | (go_at_call 19;refine (HNX.out _).mono ?_;rintro r u ⟨rfl,hu⟩;rw [hu];clear hu) | (go_at_call 20;refine (HL5.out _).mono ?_;rintro r u ⟨rfl,hu⟩;rw [hu];clear hu) | simp only [hop])
   refine C4.out.mono ?_;rintro r u4 ⟨rfl,hb⟩;have S5:=qsd (S4.out.below hb);clear hb C4 S4;clear xe0 xe1 xe2 ye0 ye1 ye2 xf0 xf1 xf2 yf0 yf1 yf2;obtain ⟨pe,qe,De,Me⟩:=S5.out.l (g1,oA) (by simp)
   obtain ⟨xe0,xe1,xe2,ye0,ye1,ye2⟩:=De.facts;obtain ⟨pf,qf,Df,Mf⟩:=S5.out.l (g2,oB) (by simp)
   obtain ⟨xf0,xf1,xf2,yf0,yf1,yf2⟩:=Df.facts;have C5:=hid (CBA.out _ pf pe qf qe Mf Me);clear De Df Me Mf
   go_wp2_with fail
   refine C5.out.mono ?_;rintro r u5 ⟨rfl,hb⟩;have B0:Aside (Below w.heap.size w u5):=(S5.out.below hb).b;clear hb C5 S5;clear xe0 xe1 xe2 ye0 ye1 ye2 xf0 xf1 xf2 yf0 yf1 yf2;have HZ:Aside (zs.length=n1):=by have:=HX.out.1;first | exact this | (show zs.length=_;omega)
   have O0:Aside (Rf w.heap.size u5 (.slice none 0 0) ((zs.take 0).filter smT)∧Below w.heap.size w u5):=⟨by simpa using Rf.nil w.heap.size u5,B0.out⟩
   clear B0;go_wp2
   go_loopg [9,66] n1 (fun gk kv iv wr=>∃ (k:Nat) (v:Value),gk+k=n1∧iv=.int .i64 (k:Nat)∧kv=v∧Aside (Rf w.heap.size wr v ((zs.take k).filter smT)∧Below w.heap.size w wr))
   case atStart=>exact ⟨0,_,by omega,by simp,rfl,O0.out⟩
   case round =>
    clear O0;obtain ⟨k,v,hgk,rfl,hv,HA⟩:=hrel;have hv':=hv.symm;clear hv;subst hv'
    by_cases hk:k<n1
    · have hkz:k<zs.length:=by rw [HZ.out];exact hk
      obtain ⟨b,off,rfl,hc⟩:=HX.out.2.2.1.at HA.out.2 k hkz;obtain ⟨x,hx⟩:∃ x,x=zs.getD k 0:=⟨_,rfl⟩;rw [←hx] at hc;have hx64:x<18446744073709551616:=by rw [hx];exact HX.out.2.1.get k
      have CA:=hid (fun u:World=>absT hx64 u)
      have CL:=hid (fun u:World=>Ldexp1000 u)
      have hd:decide ((k:Int)<(n1:Nat))=true:=by simp;omega
      have hle:=leT (m:=magW x) (by unfold magW;omega)
      have hkt:=ft_take hkz;rw [←hx] at hkt;have hkb:k<4611686018427387904:=by omega
      obtain ⟨mx,hmx⟩:∃ m,m=magW x:=⟨_,rfl⟩;rw [←hmx] at CA hle
      cases hs:smT x
      · rw [hs,if_neg (by decide)] at hkt
        have hle2:(FloatKind.f64.format.order mx 9110782046170513408==some .lt || FloatKind.f64.format.order mx 9110782046170513408==some .eq)=false:=by
         rw [hle,hmx];exact hs
        have HN:Aside (Rf w.heap.size wr v ((zs.take (k+1)).filter smT)∧Below w.heap.size w wr):=by rw [hkt];exact HA.out
        clear hle hkt hs hx hmx HA hkz
        go_wp2_with (first | (go_at_call 22;refine (CA.out _).mono ?_;rintro r u1 ⟨rfl,hu⟩;rw [hu];clear hu) | (go_at_call 20;refine (CL.out _).mono ?_;rintro r u1 ⟨rfl,hu⟩;rw [hu];clear hu))
        go_roundg (gk-1)
        case measure=>omega
        case rel=>exact ⟨k+1,_,by omega,by first | rfl | simp,rfl,HN.out⟩
      · rw [hs,if_pos rfl] at hkt
        have hle2:(FloatKind.f64.format.order mx 9110782046170513408==some .lt || FloatKind.f64.format.order mx 9110782046170513408==some .eq)=true:=by
         rw [hle,hmx];exact hs
        obtain ⟨v2,W2,hrun0,hO2,hg2,hb2⟩:=append_flts (wr.alloc (Obj.cells #[.float .f64 x] 22)) w.heap.size v ((zs.take k).filter smT) [x] (some ⟨wr.heap.size,0,none⟩) 1 1 24 (HA.out.1.alloc _) rfl
         (fun _=>⟨wr.heap.size,0,rfl,fun i hi=>by
          obtain rfl:i=0:=by simp at hi;omega
          unfold World.cell?;simp only [heap_alloc_new];rfl⟩) (by simp) (by have:=List.length_filter_le smT (zs.take k);rw [List.length_take] at this;omega) (by have:=HA.out.2.size;simp;omega)
        have HN:Aside (Rf w.heap.size W2 v2 ((zs.take (k+1)).filter smT)∧Below w.heap.size w W2):=by
         rw [hkt];exact ⟨hO2,(HA.out.2.alloc HA.out.2.size _).grown hg2 (by have:=HA.out.2.size;simp;omega) (fun k e=>(HA.out.1.lt k e).1)⟩
        have HJ:=qsd hrun0;clear hle hkt hs hx hmx HA hkz hrun0 hO2 hg2 hb2
        go_wp2_with (first | (go_at_call 22;refine (CA.out _).mono ?_;rintro r u1 ⟨rfl,hu⟩;rw [hu];clear hu) | (go_at_call 20;refine (CL.out _).mono ?_;rintro r u1 ⟨rfl,hu⟩;rw [hu];clear hu) | (at_builtin;refine wpList_append_flt rfl _ _ rfl _ _ rfl rfl v2 W2 HJ.out ?_))
        go_roundg (gk-1)
        case measure=>omega
        case rel=>exact ⟨k+1,_,by omega,by first | rfl | simp,rfl,HN.out⟩
    · obtain rfl:n1=k:=by omega
      have hd:decide (((n1:Nat):Int)<(n1:Nat))=false:=by simp
      obtain ⟨Wk,hWk⟩:∃ W,W=wr:=⟨_,rfl⟩;subst hWk;have hzz:zs.take n1=zs:=List.take_of_length_le (by rw [HZ.out];exact Nat.le_refl _)
      rw [hzz] at HA;have hfl:(zs.filter smT).length≤4096:=by have:=List.length_filter_le smT zs;rw [HZ.out] at this;omega
      obtain ⟨v2,Z,hrun0,hO2,hg2,hb2⟩:=append_flts (Wk.alloc (Obj.cells #[.float .f64 4602678819172646912] 22)) w.heap.size v (zs.filter smT) [4602678819172646912] (some ⟨Wk.heap.size,0,none⟩) 1 1 24 (HA.out.1.alloc _) rfl
       (fun _=>⟨Wk.heap.size,0,rfl,fun i hi=>by
        obtain rfl:i=0:=by simp at hi;omega
        unfold World.cell?;simp only [heap_alloc_new];rfl⟩) (by simp) (by omega) (by have:=HA.out.2.size;simp;omega)
      rw [←HX.out.2.2.2.1] at hO2;obtain ⟨ao,co,rfl,hco⟩:=hO2.shape0;have P1:Aside (Fs Z.heap.size Z ao K∧Below w.heap.size w Z):=⟨hO2.fs,(HA.out.2.alloc HA.out.2.size _).grown hg2 (by have:=HA.out.2.size;simp;omega) (fun k e=>(HA.out.1.lt k e).1)⟩
      have HJ:=qsd hrun0;clear HA hzz hfl hrun0 hO2 hg2 hb2;obtain ⟨N,hN⟩:∃ N,N=K.length:=⟨_,rfl⟩;rw [←hN] at hco HJ;have hN4:N≤4097:=by rw [hN];exact HX.out.2.2.2.2.1
      obtain ⟨x,lo,hi,e1,e2,e3,H1⟩:=HX.out.2.2.2.2.2.2.2.2.1;obtain ⟨x',lo',hi',f1,f2,f3,H2⟩:=HX.out.2.2.2.2.2.2.2.2.2.1;rw [←hN] at H2;have hN0:0<N:=by rw [hN,HX.out.2.2.2.1,List.length_append];simp
      have kS:=HX.out.2.2.2.2.2.2.2.2.2.2;have TT:Aside (∀ u:World,Below Z.heap.size Z u→Tab u):=fun u hb=>HX.out.2.2.2.2.2.2.1.belows (P1.out.2.trans (hb.mono P1.out.2.size))
      have FF:Aside (∀ u:World,Below Z.heap.size Z u→Fs u.heap.size u ao K):=fun u hb=>(P1.out.1.below hb).mono hb.size
      have CX:=hid (exactlyT K ao N co Z hN P1.out.1 HX.out.2.2.2.2.2.1 (fun x hx=>by show magW x<_;have:=HX.out.2.2.2.2.2.2.2.1 x hx;omega) (TT.out Z (Below.refl _ _)) (by omega))
      have CE:∀ (mode:Int) (r:Nat),0≤mode→mode≤4→rd10 (vS K) (sS K) mode 0 0=(r,0)→∀ u:World,Below Z.heap.size Z u→Calls Tryz.prog 18 #[.slice ao N co,.int .i64 mode,.agg #[.int .i64 0,.int .i64 0]] u fun r' w'=>r'=.returned (.tuple #[.float .f64 r,.int .i64 0])∧Below u.heap.size u w':=fun mode r h0 h4 hr u hb=>by
       have:=Exact10_any K ao N co mode 0 0 u hN (FF.out u hb) HX.out.2.2.2.2.2.1 (TT.out u hb) h0 h4 (by decide) (by omega)
       rw [hr] at this;exact this
      have E1:=hid (CE 0 x (by decide) (by decide) e1)
      have E2:=hid (CE 3 lo (by decide) (by decide) e2)
      have E3:=hid (CE 2 hi (by decide) (by decide) e3)
      have CM:∀ (mode:Int) (r:Nat),meanR K mode 0 0=(r,0)→∀ u:World,Below Z.heap.size Z u→Calls Tryz.prog 7 #[.slice ao N co,.int .i64 mode,.agg #[.int .i64 0,.int .i64 0]] u fun r' w'=>r'=.returned (.tuple #[.float .f64 r,.int .i64 0])∧Below u.heap.size u w':=fun mode r hr u hb=>Mean13 K ao N co mode 0 0 u hN (FF.out u hb) HX.out.2.2.2.2.2.1 (TT.out u hb) (by omega) (r,0) hr
      have M1:=hid (CM 0 x' f1);have M2:=hid (CM 3 lo' f2);have M3:=hid (CM 2 hi' f3);obtain ⟨SV,hSV⟩:∃ S,S=fS K:=⟨_,rfl⟩;rw [←hSV] at CX H1 H2 kS
      have N1:Hid (∀ (u:World) (p:Option Addr) (q:Nat),Below Z.heap.size Z u→Nt 0 u (.slice p (ws (dX (fo8 SV))).length q) (dX (fo8 SV))→Calls Tryz.prog 24 #[.agg #[.bool (dN (fo8 SV)),.slice p (ws (dX (fo8 SV))).length q,.int .i64 (dE (fo8 SV))],.int .i64 1,.float .f64 x,.float .f64 lo,.float .f64 hi] u fun r w'=>r=.returned (.bool true)∧Below u.heap.size u w'):=fun u p q hb hNt=>by
       have:=nearestT SV 1 x lo hi p q u 3000 rfl kS (by decide) (by decide) (TT.out u hb) hNt H1
       exact this
      have N2:Hid (∀ (u:World) (p:Option Addr) (q:Nat),Below Z.heap.size Z u→Nt 0 u (.slice p (ws (dX (fo8 SV))).length q) (dX (fo8 SV))→Calls Tryz.prog 24 #[.agg #[.bool (dN (fo8 SV)),.slice p (ws (dX (fo8 SV))).length q,.int .i64 (dE (fo8 SV))],.int .i64 (N:Nat),.float .f64 x',.float .f64 lo',.float .f64 hi'] u fun r w'=>r=.returned (.bool true)∧Below u.heap.size u w'):=fun u p q hb hNt =>
       nearestT SV N x' lo' hi' p q u 3000 rfl kS hN0 (by omega) (TT.out u hb) hNt H2
      obtain ⟨oS,hoS⟩:∃ o,fo8 SV=o:=⟨_,rfl⟩;rw [hoS] at CX N1 N2;have hNb:N<4611686018427387904:=by omega
      clear e1 e2 e3 H1 f1 f2 f3 H2 kS CE CM hN hN0 hN4 hSV hoS HX HZ
      go_wp2_with (at_builtin;refine wpList_append_flt rfl _ _ rfl _ _ rfl rfl _ Z HJ.out ?_)
      refine CX.out.mono ?_;rintro r u6 ⟨⟨p6,q6,rfl,hNt⟩,hb⟩;obtain ⟨U6,hU⟩:∃ U,U=(u6.alloc (Obj.cells #[.bool (dN oS),.slice p6 (ws (dX oS)).length q6,.int .i64 (dE oS)] 42)).alloc (Obj.cells #[.int .i64 0,.int .i64 0] 29):=⟨_,rfl⟩;obtain ⟨gs,hgs⟩:∃ g,u6.heap.size=g:=⟨_,rfl⟩;obtain ⟨gp,hgp⟩:∃ g,(u6.alloc (Obj.cells #[.bool (dN oS),.slice p6 (ws (dX oS)).length q6,.int .i64 (dE oS)] 42)).heap.size=g:=⟨_,rfl⟩
      have G6:Aside (En Z U6 gs gp oS):=by
       rw [hU,←hgs,←hgp];refine ⟨(Lo.new hNt).below (below_alloc _ _),by unfold World.cell?;simp only [heap_alloc_new];rfl,by unfold World.cell?;simp only [heap_alloc_new];rfl,?_⟩
       have b1:=hb.trans ((below_alloc u6 (Obj.cells #[.bool (dN oS),.slice p6 (ws (dX oS)).length q6,.int .i64 (dE oS)] 42)).mono hb.size);exact b1.trans ((below_alloc _ _).mono b1.size)
      have HU:=(qsd (ai hU (ai hgs hgp)));clear hb hNt hU hgs hgp CX HJ
      go_upto_region 18 with fail
      rw [←HU.out.1]
      try rw [HU.out.2.1]
      try rw [←HU.out.2.1,←World.size_alloc,HU.out.2.2]
      try rw [HU.out.2.1]
      clear HU;have xp0:=G6.out.p0;have xp1:=G6.out.p1;have C:=hid (E1.out _ G6.out.b);clear E1
      go_wp2_with fail
      refine C.out.mono ?_;rintro r u7 ⟨rfl,hb⟩;have G7:=qsd (G6.out.below hb);clear hb C xp0 xp1 G6;have xp0:=G7.out.p0;have xp1:=G7.out.p1;have C:=hid (E2.out _ G7.out.b);clear E2
      go_wp2_with fail
      refine C.out.mono ?_;rintro r u8 ⟨rfl,hb⟩;have G8:=qsd (G7.out.below hb);clear hb C xp0 xp1 G7;have xp0:=G8.out.p0;have xp1:=G8.out.p1;have C:=hid (E3.out _ G8.out.b);clear E3
      go_wp2_with fail
      refine C.out.mono ?_;rintro r u9 ⟨rfl,hb⟩;have G9:=qsd (G8.out.below hb);clear hb C xp0 xp1 G8;obtain ⟨pe,qe,De,Me⟩:=G9.out.l;obtain ⟨xe0,xe1,xe2,ye0,ye1,ye2⟩:=De.facts;have C:=hid (N1.out _ pe qe G9.out.b Me);clear N1 De Me
      go_wp2_with fail
      refine C.out.mono ?_;rintro r u10 ⟨rfl,hb⟩;have G10:=qsd (G9.out.below hb);clear hb C G9 xe0 xe1 xe2 ye0 ye1 ye2;have xp0:=G10.out.p0;have xp1:=G10.out.p1;have C:=hid (M1.out _ G10.out.b);clear M1
      go_wp2_with fail
      refine C.out.mono ?_;rintro r u11 ⟨rfl,hb⟩;have G11:=qsd (G10.out.below hb);clear hb C xp0 xp1 G10;have xp0:=G11.out.p0;have xp1:=G11.out.p1;have C:=hid (M2.out _ G11.out.b);clear M2
      go_wp2_with fail
      refine C.out.mono ?_;rintro r u12 ⟨rfl,hb⟩;have G12:=qsd (G11.out.below hb);clear hb C xp0 xp1 G11;have xp0:=G12.out.p0;have xp1:=G12.out.p1;have C:=hid (M3.out _ G12.out.b);clear M3
      go_wp2_with fail
      refine C.out.mono ?_;rintro r u13 ⟨rfl,hb⟩;have G13:=qsd (G12.out.below hb);clear hb C xp0 xp1 G12;obtain ⟨pe,qe,De,Me⟩:=G13.out.l;obtain ⟨xe0,xe1,xe2,ye0,ye1,ye2⟩:=De.facts;have C:=hid (N2.out _ pe qe G13.out.b Me);clear N2 De Me
      go_wp2_with fail
      refine C.out.mono ?_;rintro r u14 ⟨rfl,hb⟩;have G14:=qsd (G13.out.below hb);clear hb C G13 xe0 xe1 xe2 ye0 ye1 ye2;go_wp2;go_ret;exact ⟨rfl,P1.out.2.trans (G14.out.b.mono P1.out.2.size)⟩
end
end Go.Proofs.YtmkmndlpjenemaaGreatDoor
