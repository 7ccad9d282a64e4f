import Derived.Test.YtgfemeencgjneaaGreatDoorHS3x
import Derived.Test.YtgfemeencgjneaaGreatDoorHI5x
set_option linter.unusedVariables false
set_option linter.unusedSimpArgs false
set_option maxHeartbeats 16000000
set_option maxRecDepth 20000
namespace Go.Proofs.YtgfemeencgjneaaGreatDoor
namespace J
end J
section
open Go Go.RowKit J
attribute [local go_sem] st_float
theorem walk2_HistSums (a1:Option Addr) (n1 c1:Nat) (E:List Nat) (a2:Option Addr) (n2 c2:Nat) (ls:List Nat) (cut:Int) (w:World) (hT:Tab w) (hC:CameF w a1 n1 c1 E) (hD:CameF w a2 n2 c2 ls) (hm1:n1≤1048576) (hm2:n2≤1048576) :
 Calls Tryz.prog 6 #[.slice a1 n1 c1,.slice a2 n2 c2,.int .i64 cut] w fun r w'=>r=.returned (.bool true)∧Below w.heap.size w w':=by
 obtain ⟨hl1,hcap1,hW1,hF1,hnil1⟩:=hC;obtain ⟨hl2,hcap2,hW2,hF2,hnil2⟩:=hD;have HL:=hid (awake17 w hT);have HI:=(qsd (ai hl1 (ai hW1 (ai hF1 (ai hl2 (ai hW2 hF2))))));clear hcap1 hnil1 hcap2 hnil2 hl1 hW1 hF1 hl2 hW2 hF2 hT;go_enter Tryz.func6,Tryz.ntmps6
 go_wp2_with fail
 refine HL.out.mono ?_;rintro r u1 ⟨rfl,hb⟩;have B1:=qsd hb;clear hb HL;have HF:Aside (∀ u:World,Below w.heap.size w u→Fs u.heap.size u a1 E):=fun u hu=>(HI.out.2.2.1.below hu).mono hu.size
 by_cases hE:Edg E
 · have HE:=qsd hE
   have hE1:=hE.1;have hE2:=hE.2.1;rw [←HI.out.1] at hE1 hE2;clear hE;have CN:=hid (fun (u:World) (hu:Below w.heap.size w u)=>New17 E a1 n1 c1 u (HF.out u hu) HI.out.1 (by omega) HI.out.2.1 HE.out)
   have C:=hid (CN.out u1 B1.out)
   go_wp2_with fail
   refine C.out.mono ?_;rintro r u2 ⟨⟨gA,eA,cA,kA,rfl,hA,p1,p2,p3⟩,hb⟩;have hb1:=B1.out.size;have B2:Aside (Below w.heap.size w u2∧Hm u2 gA eA cA kA E ⟨List.replicate (n1-1) 0,0,0,0⟩∧In3 w.heap.size u2.heap.size gA eA cA):=⟨B1.out.trans (hb.mono hb1),hA,by omega,hA.bl.lt,by omega,Fs.lt17 hA.es hA.ne,by omega,hA.cs.lt⟩
   clear hb C hA p1 p2 p3 B1 hb1;have C:=hid (CN.out u2 B2.out.1)
   go_wp2_with fail
   refine C.out.mono ?_;rintro r u3 ⟨⟨gB,eB,cB,kB,rfl,hB,p1,p2,p3⟩,hb⟩;have B3:Aside (Below w.heap.size w u3∧Hm u3 gA eA cA kA E ⟨List.replicate (n1-1) 0,0,0,0⟩∧In3 w.heap.size u2.heap.size gA eA cA∧Hm u3 gB eB cB kB E ⟨List.replicate (n1-1) 0,0,0,0⟩∧In3 u2.heap.size u3.heap.size gB eB cB):=⟨B2.out.1.trans (hb.mono B2.out.1.size),B2.out.2.1.below hb,B2.out.2.2,hB,p1,hB.bl.lt,p2,Fs.lt17 hB.es hB.ne,p3,hB.cs.lt⟩;clear hb C hB p1 p2 p3 B2;have C:=hid (CN.out u3 B3.out.1)
   go_wp2_with fail
   refine C.out.mono ?_;rintro r u4 ⟨⟨gD,eD,cD,kD,rfl,hD,p1,p2,p3⟩,hb⟩;have B4:Aside (Below w.heap.size w u4∧Hm u4 gA eA cA kA E ⟨List.replicate (n1-1) 0,0,0,0⟩∧In3 w.heap.size u2.heap.size gA eA cA∧Hm u4 gB eB cB kB E ⟨List.replicate (n1-1) 0,0,0,0⟩∧In3 u2.heap.size u3.heap.size gB eB cB∧Hm u4 gD eD cD kD E ⟨List.replicate (n1-1) 0,0,0,0⟩∧In3 u3.heap.size u4.heap.size gD eD cD):=⟨B3.out.1.trans (hb.mono B3.out.1.size),B3.out.2.1.below hb,B3.out.2.2.1,B3.out.2.2.2.1.below hb,B3.out.2.2.2.2,hD,p1,hD.bl.lt,p2,Fs.lt17 hD.es hD.ne,p3,hD.cs.lt⟩;clear hb C hD p1 p2 p3 B3 CN;have C:=hid (May17 E a1 n1 c1 u4 (HF.out u4 B4.out.1) HI.out.1 (by omega) HI.out.2.1)
   go_wp2_with fail
   refine C.out.mono ?_;rintro r u5 ⟨⟨b,rfl,hbe⟩,hb⟩;obtain rfl:b=true:=hbe.2 HE.out;obtain ⟨m,hm⟩:∃ m,m=n1-1:=⟨_,rfl⟩;have wm:IntKind.i64.wrap ((n1:Int)-1)=(m:Int):=wrapY (by omega) (by omega)
   obtain ⟨W6,hW6⟩:∃ W,W=u5.alloc (.cells (madeCells #[.int .i64 0] m) 3):=⟨_,rfl⟩;obtain ⟨gw,hgw⟩:∃ g,g=u5.heap.size:=⟨_,rfl⟩;have hmk:(Instr.makeSlice 56 (.int .i64 (m:Nat)) (.int .i64 (m:Nat))).run Tryz.prog u5=.ok (.slice (some ⟨gw,0,none⟩) m m) W6:=by rw [hgw,hW6];exact make_ints17 ((m:Nat):Int) m rfl (by omega) u5
   have hc0:cntH E []=⟨List.replicate (n1-1) 0,0,0,0⟩:=by rw [cnt_nil,←HI.out.1]
   have ST:Aside (Sx17 w gA eA cA kA gB eB cB kB gD eD cD kD gw):=⟨_,_,_,B4.out.2.2.1,B4.out.2.2.2.2.1,B4.out.2.2.2.2.2.2,by rw [hgw];exact hb.size⟩
   have K0:Aside (Dy17 w W6 E gA eA cA kA gB eB cB kB gD eD cD kD gw (cntH E (ls.drop (n2-0))) (cntH E ((ls.take 0).take cut.toNat)) (cntH E ((ls.take 0).drop cut.toNat)) (cntH E (ls.take 0)).C):=by
    have e0:ls.drop (n2-0)=[]:=by rw [Nat.sub_zero,HI.out.2.2.2.1];exact List.drop_length
    rw [e0,List.take_zero,List.take_nil,List.drop_nil,hc0];have al:=below_alloc u5 (.cells (madeCells #[.int .i64 0] m) 3);rw [←hW6] at al;refine ⟨(B4.out.2.1.below hb).below al,(B4.out.2.2.2.1.below hb).below al,(B4.out.2.2.2.2.2.1.below hb).below al,?_,?_⟩
    · rw [hW6,hgw,←hm];exact OwnI.made17 u5 m
    · have b5:=B4.out.1.trans (hb.mono B4.out.1.size)
      exact b5.trans (al.mono b5.size)
   have HMM:=(qsd hm);clear hb C hbe B4 hW6 hgw hc0 hm;go_wp2
   go_loopg [16,17,18,19] n2 (fun gk bv av ov iv wr=>∃ k:Nat,gk+k=n2∧bv=.int .i64 ((cntH E (ls.take k)).b:Nat)∧av=.int .i64 ((cntH E (ls.take k)).a:Nat)∧ov=.int .i64 ((cntH E (ls.take k)).o:Nat)∧iv=.int .i64 (k:Nat)∧Aside (Dy17 w wr E gA eA cA kA gB eB cB kB gD eD cD kD gw (cntH E (ls.drop (n2-k))) (cntH E ((ls.take k).take cut.toNat)) (cntH E ((ls.take k).drop cut.toNat)) (cntH E (ls.take k)).C))
   case atStart=>exact ⟨0,by omega,by first | rfl | simp [cntH],by first | rfl | simp [cntH],by first | rfl | simp [cntH],by first | rfl | simp,K0.out⟩
   case round =>
    clear K0 hmk;obtain ⟨k,hgk,hbv,hav,hov,rfl,HA⟩:=hrel
    by_cases hk:k<n2
    · have hsm:=cnt_small (E:=E) (L:=ls.take k)
      have hlk:(ls.take k).length=k:=by rw [List.length_take,←HI.out.2.2.2.1];omega
      rw [hlk] at hsm;have hdk:decide ((k:Int)<(n2:Int))=true:=by simp;omega
      have bk0:(k:Int)<(n2:Int):=by omega
      have bk00:(0:Int)≤(k:Int):=by omega
      obtain ⟨k1,hk1⟩:∃ x,x=k+1:=⟨_,rfl⟩;have wk:IntKind.i64.wrap ((k:Int)+1)=(k1:Int):=wrapY (by omega) (by omega)
      obtain ⟨m2,hm2'⟩:∃ x,x=n2-1:=⟨_,rfl⟩;have wm2:IntKind.i64.wrap ((n2:Int)-1)=(m2:Int):=wrapY (by omega) (by omega)
      obtain ⟨j2,hj2⟩:∃ x,x=n2-1-k:=⟨_,rfl⟩;have wj2:IntKind.i64.wrap ((m2:Int)-(k:Int))=(j2:Int):=wrapY (by omega) (by omega)
      have bj2:(j2:Int)<(n2:Int):=by omega
      have bj20:(0:Int)≤(j2:Int):=by omega
      obtain ⟨b2,o2,rfl,x1⟩:=HI.out.2.2.2.2.2.at HA.out.2.2.2.2 j2 (by rw [←HI.out.2.2.2.1];omega)
      have hy:=HI.out.2.2.2.2.1.get j2;have hx:=HI.out.2.2.2.2.1.get k;have C:=hid (Add17 HA.out.1 hy);have hal:(cntH E (ls.drop (n2-k))).all=k:=by rw [cnt_all HE.out,List.length_drop,←HI.out.2.2.2.1];omega
      rw [hal,if_neg (by omega),if_neg (by omega),cnt_put HE.out,show n2-k=j2+1 by omega,drop_cons17 (by rw [←HI.out.2.2.2.1];omega),show j2=n2-k1 by omega] at C
      rw [show (n2-k1:Nat)=j2 by omega] at C
      obtain ⟨y,hyy⟩:∃ y,y=ls.getD j2 0:=⟨_,rfl⟩;rw [←hyy] at x1 C;have HK:Aside (k1=k+1∧j2=n2-k1∧ls.getD k 0<18446744073709551616∧k<ls.length):=⟨hk1,by omega,hx,by rw [←HI.out.2.2.2.1];exact hk⟩
      obtain ⟨sb,hsb⟩:∃ b,b=(cntH E (ls.take k)).b:=⟨_,rfl⟩;obtain ⟨sa,hsa⟩:∃ b,b=(cntH E (ls.take k)).a:=⟨_,rfl⟩;obtain ⟨so,hso⟩:∃ b,b=(cntH E (ls.take k)).o:=⟨_,rfl⟩;rw [←hsb] at hbv hsm;rw [←hsa] at hav hsm;rw [←hso] at hov hsm;subst hbv hav hov;have HS:=(qsd (ai hsb (ai hsa hso)));clear hyy hy hx hal hk1 hm2' hj2 hlk hsb hsa hso
      go_wp2_with fail
      refine C.out.mono ?_;rintro r v1 ⟨rfl,hm,hb⟩;have K1:=qsd (HA.out.addA ST.out hm hb);clear C hm hb HA x1;have x2:=HI.out.2.2.2.2.2.cell K1.out.2.2.2.2 k HK.out.2.2.2;obtain ⟨x,hxx⟩:∃ y,y=ls.getD k 0:=⟨_,rfl⟩;rw [←hxx] at x2;have HX:Aside (x=ls.getD k 0∧x<18446744073709551616):=⟨hxx,by rw [hxx];exact HK.out.2.2.1⟩
      clear hxx;obtain ⟨b1,o1,rfl,y0⟩:=HI.out.2.2.1.at K1.out.2.2.2.2 0 (by rw [←HI.out.1];omega)
      clear y0
      by_cases hct:(k:Int)<cut
      · have dct:decide ((k:Int)<cut)=true:=by simp;omega
        have C:=hid (Add17 (x:=x) K1.out.2.1 HX.out.2)
        have hal:(cntH E ((ls.take k).take cut.toNat)).all≤k:=by
         rw [cnt_all HE.out];simp;omega
        rw [if_neg (by omega),if_neg (by omega),cnt_snoc HE.out,HX.out.1,←cut_b17 HK.out.2.2.2 (by omega),←HX.out.1,←HK.out.1] at C
        clear hal
        go_wp2_with fail
        refine C.out.mono ?_;rintro r v2 ⟨rfl,hm,hb⟩
        have K2:Aside (Dy17 w v2 E gA eA cA kA gB eB cB kB gD eD cD kD gw (cntH E (ls.drop (n2-k1))) (cntH E ((ls.take k1).take cut.toNat)) (cntH E ((ls.take k1).drop cut.toNat)) (wtL E (ls.take k) x 0)):=by
         have q:=K1.out.addB ST.out hm hb;rw [wt_zero,←HK.out.2.1,HK.out.1,cut_d17' (l:=ls) (k:=k) (cn:=cut.toNat) (by omega),←HK.out.1]
         exact q
        clear C hm hb K1 x2;have hX:=HX.out;have hbw:=K2.out.2.2.2.2;obtain ⟨t1,t2,t3⟩:=kd_tests HE.out HI.out.2.1 hX.2;have z2:=HI.out.2.2.2.2.2.cell hbw k HK.out.2.2.2;rw [←hX.1] at z2;have z0:=HI.out.2.2.1.cell hbw 0 (by rw [←HI.out.1];omega)
        have z1:=HI.out.2.2.1.cell hbw (E.length-1) (by rw [←HI.out.1];omega)
        rw [Nat.add_zero] at z0;rw [←HI.out.1,←HMM.out] at z1 t2;obtain ⟨E0,hE0⟩:∃ y,y=E.getD 0 0:=⟨_,rfl⟩;obtain ⟨Em,hEm⟩:∃ y,y=E.getD m 0:=⟨_,rfl⟩;rw [←hE0] at z0 t1 t3;rw [←hEm] at z1 t2;have bm:(m:Int)<(n1:Int):=by have:=HMM.out;omega
        have bm0:(0:Int)≤(m:Int):=by omega
        have bn0:(0:Int)<(n1:Int):=by omega
        have hput:(cntH E (ls.take k)).put E x=cntH E (ls.take k1):=by rw [cnt_snoc HE.out,hX.1,←take_snoc17 HK.out.2.2.2,←HK.out.1]
        obtain ⟨kd,hkd⟩:∃ c,c=kdE E x:=⟨_,rfl⟩;have hpb:=put_b17 (E:=E) (s:=cntH E (ls.take k)) hkd.symm;rw [hput,←HS.out.1,←HS.out.2.1,←HS.out.2.2] at hpb;have hkc:=kd_cases (E.getD 0 0) (E.getD (E.length-1) 0) x;have hkc':kd=0∨kd=1∨kd=2∨kd=3:=by rw [hkd];exact hkc
        rw [←hkd] at t1 t2 t3;have HPB:=qsd hpb;have HBV:=qsd hbw;clear hX hbw hE0 hEm hput hkd hpb hkc;have wsb:IntKind.i64.wrap ((sb:Int)+1)=((sb+1:Nat):Int):=wrapY (by omega) (by omega)
        have wsa:IntKind.i64.wrap ((sa:Int)+1)=((sa+1:Nat):Int):=wrapY (by omega) (by omega)
        have wso:IntKind.i64.wrap ((so:Int)+1)=((so+1:Nat):Int):=wrapY (by omega) (by omega)
        obtain ⟨sb1,hsb1⟩:∃ b,b=sb+1:=⟨_,rfl⟩;obtain ⟨sa1,hsa1⟩:∃ b,b=sa+1:=⟨_,rfl⟩;obtain ⟨so1,hso1⟩:∃ b,b=so+1:=⟨_,rfl⟩;rw [←hsb1] at wsb;rw [←hsa1] at wsa;rw [←hso1] at wso;have HS1:=(qsd (ai hsb1 (ai hsa1 hso1)));clear hsb1 hsa1 hso1
        by_cases h1:kd=1
        · rw [decide_eq_true h1] at t1
          have HV:Aside ((cntH E (ls.take k1)).b=sb1∧(cntH E (ls.take k1)).a=sa∧(cntH E (ls.take k1)).o=so):=by
           have q:=HPB.out;rw [h1,if_pos rfl,if_neg (by decide),if_neg (by decide),←HS1.out.1] at q
           exact q
          clear t2 t3 hkc'
          go_wp2_with fail
          go_quiet (fail)
          go_wp2
          go_loopg [20] m (fun gk jv wr=>∃ j:Nat,gk+j=m∧jv=.int .i64 (j:Nat)∧Aside (Dy17 w wr E gA eA cA kA gB eB cB kB gD eD cD kD gw (cntH E (ls.drop (n2-k1))) (cntH E ((ls.take k1).take cut.toNat)) (cntH E ((ls.take k1).drop cut.toNat)) (wtL E (ls.take k) x j)))
          case atStart=>exact ⟨0,by omega,by first | rfl | simp,K2.out.bel (by repeat (first | exact Below.refl _ _ | refine below_drewN17 ?_ _))⟩
          case round =>
           clear K2 z0 z1 z2 t1 dct wsb wsa wso HPB HS1 HBV;obtain ⟨j,hgj,rfl,HJ⟩:=hrel;obtain ⟨j1,hj1⟩:∃ x,x=j+1:=⟨_,rfl⟩;have wj1:IntKind.i64.wrap ((j:Int)+1)=(j1:Int):=wrapY (by omega) (by have:=HMM.out;omega)
           by_cases hj:j<m
           · have hdj:decide ((j1:Int)<(n1:Int))=true:=by simp;have:=HMM.out;omega
             have bj:(j:Int)<(n1:Int):=by have:=HMM.out;omega
             have bj0:(0:Int)≤(j:Int):=by omega
             have bj1:(j1:Int)<(n1:Int):=by have:=HMM.out;omega
             have bjm:(j:Int)<(m:Int):=by omega
             obtain ⟨j3,hj3⟩:∃ x,x=j+2:=⟨_,rfl⟩;have wj3:IntKind.i64.wrap ((j:Int)+2)=(j3:Int):=wrapY (by omega) (by have:=HMM.out;omega)
             have hlen:E.length=m+1:=by rw [←HI.out.1];have:=HMM.out;omega
             have C:=hid (fun u=>lies17 HE.out HI.out.2.1 (k:=j) (x:=x) (by omega) HX.out.2 u)
             have hlb:((j3:Int)==(n1:Int))=decide (j+2=E.length):=by
              rw [Bool.eq_iff_iff,beq_iff_eq,decide_eq_true_eq,←HI.out.1];omega
             have y2:=HI.out.2.2.2.2.2.cell HJ.out.2.2.2.2 k HK.out.2.2.2;rw [←HX.out.1] at y2;have y0:=HI.out.2.2.1.cell HJ.out.2.2.2.2 j (by omega)
             have y1:=HI.out.2.2.1.cell HJ.out.2.2.2.2 (j+1) (by omega)
             obtain ⟨lb,hlb'⟩:∃ b,b=decide (j+2=E.length):=⟨_,rfl⟩;rw [←hlb'] at hlb C;rw [←hj1] at y1 C;obtain ⟨Ea,hEa⟩:∃ y,y=E.getD j 0:=⟨_,rfl⟩;obtain ⟨Eb,hEb⟩:∃ y,y=E.getD j1 0:=⟨_,rfl⟩;rw [←hEa] at y0 C;rw [←hEb] at y1 C;obtain ⟨ib,hib⟩:∃ b,b=inK E j x:=⟨_,rfl⟩;rw [←hib] at C;have HJJ:=(qsd (ai hj1 (ai hib hlen)));clear hlb' hEa hEb hib hlen hj1 hj3
             go_upto_region 30 with fail
             go_cut [21] from 168 to 186 (fun v wx=>v=.bool ib∧Aside (Dy17 w wx E gA eA cA kA gB eB cB kB gD eD cD kD gw (cntH E (ls.drop (n2-k1))) (cntH E ((ls.take k1).take cut.toNat)) (cntH E ((ls.take k1).drop cut.toNat)) (wtL E (ls.take k) x j)))
             case first =>
              go_quiet (first | (go_at_call 25;exact Calls.quiet_of_same (C.out _)))
              go_wp2_with fail
              go_meet
              case rel=>exact ⟨rfl,HJ.out.bel (below_drewN17 (Below.refl _ _) _)⟩
             clear HJ C y0 y1 y2 hlb;obtain ⟨rfl,HJ⟩:=hcut;obtain ⟨V3,hV⟩:∃ W,W=wc:=⟨_,rfl⟩;subst hV
             cases ib
             · have HN:Aside (Dy17 w V3 E gA eA cA kA gB eB cB kB gD eD cD kD gw (cntH E (ls.drop (n2-k1))) (cntH E ((ls.take k1).take cut.toNat)) (cntH E ((ls.take k1).drop cut.toNat)) (wtL E (ls.take k) x j1)):=by
                rw [HJJ.out.1,wt_no HJJ.out.2.1.symm];exact HJ.out
               clear HJ;go_wp2
               go_roundg (m-j1)
               case measure=>have:=HJJ.out.1;omega
               case rel=>exact ⟨j1,by have:=HJJ.out.1;omega,by first | rfl | simp,HN.out⟩
             · have hO:=HJ.out.2.2.2.1
               have q1:=hO.cell j (by rw [wt_len,HJJ.out.2.2];omega)
               rw [wt_get (by rw [HJJ.out.2.2];omega)] at q1
               have q2:=hO.frozen j
               have hle:(ls.take k).countP (inK E j)≤1048576:=by
                refine Nat.le_trans List.countP_le_length ?_;rw [List.length_take];omega
               have hset:=hO.set j ((ls.take k).countP (inK E j)+1);rw [wt_yes (by rw [HJJ.out.2.2];omega) HJJ.out.2.1.symm,←HJJ.out.1] at hset
               obtain ⟨q,hq⟩:∃ q,q=(ls.take k).countP (inK E j):=⟨_,rfl⟩;rw [←hq] at q1 hle hset;obtain ⟨qq,hqq⟩:∃ z,z=q+1:=⟨_,rfl⟩;rw [←hqq] at hset;have wq:IntKind.i64.wrap ((q:Int)+1)=(qq:Int):=wrapY (by omega) (by omega)
               have HN:Aside (Dy17 w (V3.setCell ⟨gw,j,none⟩ (.int .i64 (qq:Nat))) E gA eA cA kA gB eB cB kB gD eD cD kD gw (cntH E (ls.drop (n2-k1))) (cntH E ((ls.take k1).take cut.toNat)) (cntH E ((ls.take k1).drop cut.toNat)) (wtL E (ls.take k) x j1)):=HJ.out.addW ST.out hset ((But.refl gw V3).set j _);clear HJ hO hset hq hqq hle;go_wp2
               go_roundg (m-j1)
               case measure=>have:=HJJ.out.1;omega
               case rel=>exact ⟨j1,by have:=HJJ.out.1;omega,by first | rfl | simp,HN.out⟩
           · obtain rfl:j=m:=by omega
             have hdj:decide ((j1:Int)<(n1:Int))=false:=by simp;have:=HMM.out;omega
             have hdj2:¬ j1<n1:=by have:=HMM.out;omega
             have hdj3:decide (j1<n1)=false:=by simp;have:=HMM.out;omega
             have HN:Aside (Dy17 w wr E gA eA cA kA gB eB cB kB gD eD cD kD gw (cntH E (ls.drop (n2-k1))) (cntH E ((ls.take k1).take cut.toNat)) (cntH E ((ls.take k1).drop cut.toNat)) (cntH E (ls.take k1)).C):=by
              have q:=HJ.out;rw [show j=E.length-1 by rw [←HI.out.1];exact HMM.out,wt_all,HX.out.1,←take_snoc17 HK.out.2.2.2,←HK.out.1] at q
              exact q
             clear HJ hj1;go_wp2
             go_roundg (n2-k1)
             case measure=>have:=HK.out;omega
             case rel=>exact ⟨k1,by have:=HK.out;omega,by rw [HV.out.1],by rw [HV.out.2.1],by rw [HV.out.2.2],by first | rfl | simp,HN.out⟩
        · rw [decide_eq_false h1] at t1
          replace t2:=t2 h1
          by_cases h2:kd=2
          · rw [decide_eq_true h2] at t2
            have HV:Aside ((cntH E (ls.take k1)).b=sb∧(cntH E (ls.take k1)).a=sa1∧(cntH E (ls.take k1)).o=so):=by
             have q:=HPB.out;rw [h2,if_neg (by decide),if_pos rfl,if_neg (by decide),←HS1.out.2.1] at q
             exact q
            clear t3 hkc'
            go_wp2_with fail
            go_quiet (fail)
            go_wp2_with fail
            go_quiet (fail)
            go_wp2
            go_loopg [20] m (fun gk jv wr=>∃ j:Nat,gk+j=m∧jv=.int .i64 (j:Nat)∧Aside (Dy17 w wr E gA eA cA kA gB eB cB kB gD eD cD kD gw (cntH E (ls.drop (n2-k1))) (cntH E ((ls.take k1).take cut.toNat)) (cntH E ((ls.take k1).drop cut.toNat)) (wtL E (ls.take k) x j)))
            case atStart=>exact ⟨0,by omega,by first | rfl | simp,K2.out.bel (by repeat (first | exact Below.refl _ _ | refine below_drewN17 ?_ _))⟩
            case round =>
             clear K2 z0 z1 z2 t1 dct wsb wsa wso HPB HS1 HBV;obtain ⟨j,hgj,rfl,HJ⟩:=hrel;obtain ⟨j1,hj1⟩:∃ x,x=j+1:=⟨_,rfl⟩;have wj1:IntKind.i64.wrap ((j:Int)+1)=(j1:Int):=wrapY (by omega) (by have:=HMM.out;omega)
             by_cases hj:j<m
             · have hdj:decide ((j1:Int)<(n1:Int))=true:=by simp;have:=HMM.out;omega
               have bj:(j:Int)<(n1:Int):=by have:=HMM.out;omega
               have bj0:(0:Int)≤(j:Int):=by omega
               have bj1:(j1:Int)<(n1:Int):=by have:=HMM.out;omega
               have bjm:(j:Int)<(m:Int):=by omega
               obtain ⟨j3,hj3⟩:∃ x,x=j+2:=⟨_,rfl⟩;have wj3:IntKind.i64.wrap ((j:Int)+2)=(j3:Int):=wrapY (by omega) (by have:=HMM.out;omega)
               have hlen:E.length=m+1:=by rw [←HI.out.1];have:=HMM.out;omega
               have C:=hid (fun u=>lies17 HE.out HI.out.2.1 (k:=j) (x:=x) (by omega) HX.out.2 u)
               have hlb:((j3:Int)==(n1:Int))=decide (j+2=E.length):=by
                rw [Bool.eq_iff_iff,beq_iff_eq,decide_eq_true_eq,←HI.out.1];omega
               have y2:=HI.out.2.2.2.2.2.cell HJ.out.2.2.2.2 k HK.out.2.2.2;rw [←HX.out.1] at y2;have y0:=HI.out.2.2.1.cell HJ.out.2.2.2.2 j (by omega)
               have y1:=HI.out.2.2.1.cell HJ.out.2.2.2.2 (j+1) (by omega)
               obtain ⟨lb,hlb'⟩:∃ b,b=decide (j+2=E.length):=⟨_,rfl⟩;rw [←hlb'] at hlb C;rw [←hj1] at y1 C;obtain ⟨Ea,hEa⟩:∃ y,y=E.getD j 0:=⟨_,rfl⟩;obtain ⟨Eb,hEb⟩:∃ y,y=E.getD j1 0:=⟨_,rfl⟩;rw [←hEa] at y0 C;rw [←hEb] at y1 C;obtain ⟨ib,hib⟩:∃ b,b=inK E j x:=⟨_,rfl⟩;rw [←hib] at C;have HJJ:=(qsd (ai hj1 (ai hib hlen)));clear hlb' hEa hEb hib hlen hj1 hj3
               go_upto_region 30 with fail
               go_cut [21] from 168 to 186 (fun v wx=>v=.bool ib∧Aside (Dy17 w wx E gA eA cA kA gB eB cB kB gD eD cD kD gw (cntH E (ls.drop (n2-k1))) (cntH E ((ls.take k1).take cut.toNat)) (cntH E ((ls.take k1).drop cut.toNat)) (wtL E (ls.take k) x j)))
               case first =>
                go_quiet (first | (go_at_call 25;exact Calls.quiet_of_same (C.out _)))
                go_wp2_with fail
                go_meet
                case rel=>exact ⟨rfl,HJ.out.bel (below_drewN17 (Below.refl _ _) _)⟩
               clear HJ C y0 y1 y2 hlb;obtain ⟨rfl,HJ⟩:=hcut;obtain ⟨V3,hV⟩:∃ W,W=wc:=⟨_,rfl⟩;subst hV
               cases ib
               · have HN:Aside (Dy17 w V3 E gA eA cA kA gB eB cB kB gD eD cD kD gw (cntH E (ls.drop (n2-k1))) (cntH E ((ls.take k1).take cut.toNat)) (cntH E ((ls.take k1).drop cut.toNat)) (wtL E (ls.take k) x j1)):=by
                  rw [HJJ.out.1,wt_no HJJ.out.2.1.symm];exact HJ.out
                 clear HJ;go_wp2
                 go_roundg (m-j1)
                 case measure=>have:=HJJ.out.1;omega
                 case rel=>exact ⟨j1,by have:=HJJ.out.1;omega,by first | rfl | simp,HN.out⟩
               · have hO:=HJ.out.2.2.2.1
                 have q1:=hO.cell j (by rw [wt_len,HJJ.out.2.2];omega)
                 rw [wt_get (by rw [HJJ.out.2.2];omega)] at q1
                 have q2:=hO.frozen j
                 have hle:(ls.take k).countP (inK E j)≤1048576:=by
                  refine Nat.le_trans List.countP_le_length ?_;rw [List.length_take];omega
                 have hset:=hO.set j ((ls.take k).countP (inK E j)+1);rw [wt_yes (by rw [HJJ.out.2.2];omega) HJJ.out.2.1.symm,←HJJ.out.1] at hset
                 obtain ⟨q,hq⟩:∃ q,q=(ls.take k).countP (inK E j):=⟨_,rfl⟩;rw [←hq] at q1 hle hset;obtain ⟨qq,hqq⟩:∃ z,z=q+1:=⟨_,rfl⟩;rw [←hqq] at hset;have wq:IntKind.i64.wrap ((q:Int)+1)=(qq:Int):=wrapY (by omega) (by omega)
                 have HN:Aside (Dy17 w (V3.setCell ⟨gw,j,none⟩ (.int .i64 (qq:Nat))) E gA eA cA kA gB eB cB kB gD eD cD kD gw (cntH E (ls.drop (n2-k1))) (cntH E ((ls.take k1).take cut.toNat)) (cntH E ((ls.take k1).drop cut.toNat)) (wtL E (ls.take k) x j1)):=HJ.out.addW ST.out hset ((But.refl gw V3).set j _);clear HJ hO hset hq hqq hle;go_wp2
                 go_roundg (m-j1)
                 case measure=>have:=HJJ.out.1;omega
                 case rel=>exact ⟨j1,by have:=HJJ.out.1;omega,by first | rfl | simp,HN.out⟩
             · obtain rfl:j=m:=by omega
               have hdj:decide ((j1:Int)<(n1:Int))=false:=by simp;have:=HMM.out;omega
               have hdj2:¬ j1<n1:=by have:=HMM.out;omega
               have hdj3:decide (j1<n1)=false:=by simp;have:=HMM.out;omega
               have HN:Aside (Dy17 w wr E gA eA cA kA gB eB cB kB gD eD cD kD gw (cntH E (ls.drop (n2-k1))) (cntH E ((ls.take k1).take cut.toNat)) (cntH E ((ls.take k1).drop cut.toNat)) (cntH E (ls.take k1)).C):=by
                have q:=HJ.out;rw [show j=E.length-1 by rw [←HI.out.1];exact HMM.out,wt_all,HX.out.1,←take_snoc17 HK.out.2.2.2,←HK.out.1] at q
                exact q
               clear HJ hj1;go_wp2
               go_roundg (n2-k1)
               case measure=>have:=HK.out;omega
               case rel=>exact ⟨k1,by have:=HK.out;omega,by rw [HV.out.1],by rw [HV.out.2.1],by rw [HV.out.2.2],by first | rfl | simp,HN.out⟩
          · rw [decide_eq_false h2] at t2
            replace t3:=t3 h1 h2
            by_cases h3:kd=0
            · rw [decide_eq_true h3] at t3
              have HV:Aside ((cntH E (ls.take k1)).b=sb∧(cntH E (ls.take k1)).a=sa∧(cntH E (ls.take k1)).o=so1):=by
               have q:=HPB.out;rw [h3,if_neg (by decide),if_neg (by decide),if_pos rfl,←HS1.out.2.2] at q
               exact q
              clear hkc'
              go_wp2_with fail
              go_quiet (fail)
              go_wp2_with fail
              go_quiet (fail)
              go_wp2_with fail
              go_quiet (fail)
              go_wp2
              go_loopg [20] m (fun gk jv wr=>∃ j:Nat,gk+j=m∧jv=.int .i64 (j:Nat)∧Aside (Dy17 w wr E gA eA cA kA gB eB cB kB gD eD cD kD gw (cntH E (ls.drop (n2-k1))) (cntH E ((ls.take k1).take cut.toNat)) (cntH E ((ls.take k1).drop cut.toNat)) (wtL E (ls.take k) x j)))
              case atStart=>exact ⟨0,by omega,by first | rfl | simp,K2.out.bel (by repeat (first | exact Below.refl _ _ | refine below_drewN17 ?_ _))⟩
              case round =>
               clear K2 z0 z1 z2 t1 dct wsb wsa wso HPB HS1 HBV;obtain ⟨j,hgj,rfl,HJ⟩:=hrel;obtain ⟨j1,hj1⟩:∃ x,x=j+1:=⟨_,rfl⟩;have wj1:IntKind.i64.wrap ((j:Int)+1)=(j1:Int):=wrapY (by omega) (by have:=HMM.out;omega)
               by_cases hj:j<m
               · have hdj:decide ((j1:Int)<(n1:Int))=true:=by simp;have:=HMM.out;omega
                 have bj:(j:Int)<(n1:Int):=by have:=HMM.out;omega
                 have bj0:(0:Int)≤(j:Int):=by omega
                 have bj1:(j1:Int)<(n1:Int):=by have:=HMM.out;omega
                 have bjm:(j:Int)<(m:Int):=by omega
                 obtain ⟨j3,hj3⟩:∃ x,x=j+2:=⟨_,rfl⟩;have wj3:IntKind.i64.wrap ((j:Int)+2)=(j3:Int):=wrapY (by omega) (by have:=HMM.out;omega)
                 have hlen:E.length=m+1:=by rw [←HI.out.1];have:=HMM.out;omega
                 have C:=hid (fun u=>lies17 HE.out HI.out.2.1 (k:=j) (x:=x) (by omega) HX.out.2 u)
                 have hlb:((j3:Int)==(n1:Int))=decide (j+2=E.length):=by
                  rw [Bool.eq_iff_iff,beq_iff_eq,decide_eq_true_eq,←HI.out.1];omega
                 have y2:=HI.out.2.2.2.2.2.cell HJ.out.2.2.2.2 k HK.out.2.2.2;rw [←HX.out.1] at y2;have y0:=HI.out.2.2.1.cell HJ.out.2.2.2.2 j (by omega)
                 have y1:=HI.out.2.2.1.cell HJ.out.2.2.2.2 (j+1) (by omega)
                 obtain ⟨lb,hlb'⟩:∃ b,b=decide (j+2=E.length):=⟨_,rfl⟩;rw [←hlb'] at hlb C;rw [←hj1] at y1 C;obtain ⟨Ea,hEa⟩:∃ y,y=E.getD j 0:=⟨_,rfl⟩;obtain ⟨Eb,hEb⟩:∃ y,y=E.getD j1 0:=⟨_,rfl⟩;rw [←hEa] at y0 C;rw [←hEb] at y1 C;obtain ⟨ib,hib⟩:∃ b,b=inK E j x:=⟨_,rfl⟩;rw [←hib] at C;have HJJ:=(qsd (ai hj1 (ai hib hlen)));clear hlb' hEa hEb hib hlen hj1 hj3
                 go_upto_region 30 with fail
                 go_cut [21] from 168 to 186 (fun v wx=>v=.bool ib∧Aside (Dy17 w wx E gA eA cA kA gB eB cB kB gD eD cD kD gw (cntH E (ls.drop (n2-k1))) (cntH E ((ls.take k1).take cut.toNat)) (cntH E ((ls.take k1).drop cut.toNat)) (wtL E (ls.take k) x j)))
                 case first =>
                  go_quiet (first | (go_at_call 25;exact Calls.quiet_of_same (C.out _)))
                  go_wp2_with fail
                  go_meet
                  case rel=>exact ⟨rfl,HJ.out.bel (below_drewN17 (Below.refl _ _) _)⟩
                 clear HJ C y0 y1 y2 hlb;obtain ⟨rfl,HJ⟩:=hcut;obtain ⟨V3,hV⟩:∃ W,W=wc:=⟨_,rfl⟩;subst hV
                 cases ib
                 · have HN:Aside (Dy17 w V3 E gA eA cA kA gB eB cB kB gD eD cD kD gw (cntH E (ls.drop (n2-k1))) (cntH E ((ls.take k1).take cut.toNat)) (cntH E ((ls.take k1).drop cut.toNat)) (wtL E (ls.take k) x j1)):=by
                    rw [HJJ.out.1,wt_no HJJ.out.2.1.symm];exact HJ.out
                   clear HJ;go_wp2
                   go_roundg (m-j1)
                   case measure=>have:=HJJ.out.1;omega
                   case rel=>exact ⟨j1,by have:=HJJ.out.1;omega,by first | rfl | simp,HN.out⟩
                 · have hO:=HJ.out.2.2.2.1
                   have q1:=hO.cell j (by rw [wt_len,HJJ.out.2.2];omega)
                   rw [wt_get (by rw [HJJ.out.2.2];omega)] at q1
                   have q2:=hO.frozen j
                   have hle:(ls.take k).countP (inK E j)≤1048576:=by
                    refine Nat.le_trans List.countP_le_length ?_;rw [List.length_take];omega
                   have hset:=hO.set j ((ls.take k).countP (inK E j)+1);rw [wt_yes (by rw [HJJ.out.2.2];omega) HJJ.out.2.1.symm,←HJJ.out.1] at hset
                   obtain ⟨q,hq⟩:∃ q,q=(ls.take k).countP (inK E j):=⟨_,rfl⟩;rw [←hq] at q1 hle hset;obtain ⟨qq,hqq⟩:∃ z,z=q+1:=⟨_,rfl⟩;rw [←hqq] at hset;have wq:IntKind.i64.wrap ((q:Int)+1)=(qq:Int):=wrapY (by omega) (by omega)
                   have HN:Aside (Dy17 w (V3.setCell ⟨gw,j,none⟩ (.int .i64 (qq:Nat))) E gA eA cA kA gB eB cB kB gD eD cD kD gw (cntH E (ls.drop (n2-k1))) (cntH E ((ls.take k1).take cut.toNat)) (cntH E ((ls.take k1).drop cut.toNat)) (wtL E (ls.take k) x j1)):=HJ.out.addW ST.out hset ((But.refl gw V3).set j _);clear HJ hO hset hq hqq hle;go_wp2
                   go_roundg (m-j1)
                   case measure=>have:=HJJ.out.1;omega
                   case rel=>exact ⟨j1,by have:=HJJ.out.1;omega,by first | rfl | simp,HN.out⟩
               · obtain rfl:j=m:=by omega
                 have hdj:decide ((j1:Int)<(n1:Int))=false:=by simp;have:=HMM.out;omega
                 have hdj2:¬ j1<n1:=by have:=HMM.out;omega
                 have hdj3:decide (j1<n1)=false:=by simp;have:=HMM.out;omega
                 have HN:Aside (Dy17 w wr E gA eA cA kA gB eB cB kB gD eD cD kD gw (cntH E (ls.drop (n2-k1))) (cntH E ((ls.take k1).take cut.toNat)) (cntH E ((ls.take k1).drop cut.toNat)) (cntH E (ls.take k1)).C):=by
                  have q:=HJ.out;rw [show j=E.length-1 by rw [←HI.out.1];exact HMM.out,wt_all,HX.out.1,←take_snoc17 HK.out.2.2.2,←HK.out.1] at q
                  exact q
                 clear HJ hj1;go_wp2
                 go_roundg (n2-k1)
                 case measure=>have:=HK.out;omega
                 case rel=>exact ⟨k1,by have:=HK.out;omega,by rw [HV.out.1],by rw [HV.out.2.1],by rw [HV.out.2.2],by first | rfl | simp,HN.out⟩
            · rw [decide_eq_false h3] at t3
              have HV:Aside ((cntH E (ls.take k1)).b=sb∧(cntH E (ls.take k1)).a=sa∧(cntH E (ls.take k1)).o=so):=by
               have q:=HPB.out;rw [if_neg h1,if_neg h2,if_neg h3] at q;exact q
              go_wp2_with fail
              go_quiet (fail)
              go_wp2_with fail
              go_quiet (fail)
              go_wp2_with fail
              go_quiet (fail)
              go_wp2
              go_loopg [20] m (fun gk jv wr=>∃ j:Nat,gk+j=m∧jv=.int .i64 (j:Nat)∧Aside (Dy17 w wr E gA eA cA kA gB eB cB kB gD eD cD kD gw (cntH E (ls.drop (n2-k1))) (cntH E ((ls.take k1).take cut.toNat)) (cntH E ((ls.take k1).drop cut.toNat)) (wtL E (ls.take k) x j)))
              case atStart=>exact ⟨0,by omega,by first | rfl | simp,K2.out.bel (by repeat (first | exact Below.refl _ _ | refine below_drewN17 ?_ _))⟩
              case round =>
               clear K2 z0 z1 z2 t1 dct wsb wsa wso HPB HS1 HBV;obtain ⟨j,hgj,rfl,HJ⟩:=hrel;obtain ⟨j1,hj1⟩:∃ x,x=j+1:=⟨_,rfl⟩;have wj1:IntKind.i64.wrap ((j:Int)+1)=(j1:Int):=wrapY (by omega) (by have:=HMM.out;omega)
               by_cases hj:j<m
               · have hdj:decide ((j1:Int)<(n1:Int))=true:=by simp;have:=HMM.out;omega
                 have bj:(j:Int)<(n1:Int):=by have:=HMM.out;omega
                 have bj0:(0:Int)≤(j:Int):=by omega
                 have bj1:(j1:Int)<(n1:Int):=by have:=HMM.out;omega
                 have bjm:(j:Int)<(m:Int):=by omega
                 obtain ⟨j3,hj3⟩:∃ x,x=j+2:=⟨_,rfl⟩;have wj3:IntKind.i64.wrap ((j:Int)+2)=(j3:Int):=wrapY (by omega) (by have:=HMM.out;omega)
                 have hlen:E.length=m+1:=by rw [←HI.out.1];have:=HMM.out;omega
                 have C:=hid (fun u=>lies17 HE.out HI.out.2.1 (k:=j) (x:=x) (by omega) HX.out.2 u)
                 have hlb:((j3:Int)==(n1:Int))=decide (j+2=E.length):=by
                  rw [Bool.eq_iff_iff,beq_iff_eq,decide_eq_true_eq,←HI.out.1];omega
                 have y2:=HI.out.2.2.2.2.2.cell HJ.out.2.2.2.2 k HK.out.2.2.2;rw [←HX.out.1] at y2;have y0:=HI.out.2.2.1.cell HJ.out.2.2.2.2 j (by omega)
                 have y1:=HI.out.2.2.1.cell HJ.out.2.2.2.2 (j+1) (by omega)
                 obtain ⟨lb,hlb'⟩:∃ b,b=decide (j+2=E.length):=⟨_,rfl⟩;rw [←hlb'] at hlb C;rw [←hj1] at y1 C;obtain ⟨Ea,hEa⟩:∃ y,y=E.getD j 0:=⟨_,rfl⟩;obtain ⟨Eb,hEb⟩:∃ y,y=E.getD j1 0:=⟨_,rfl⟩;rw [←hEa] at y0 C;rw [←hEb] at y1 C;obtain ⟨ib,hib⟩:∃ b,b=inK E j x:=⟨_,rfl⟩;rw [←hib] at C;have HJJ:=(qsd (ai hj1 (ai hib hlen)));clear hlb' hEa hEb hib hlen hj1 hj3
                 go_upto_region 30 with fail
                 go_cut [21] from 168 to 186 (fun v wx=>v=.bool ib∧Aside (Dy17 w wx E gA eA cA kA gB eB cB kB gD eD cD kD gw (cntH E (ls.drop (n2-k1))) (cntH E ((ls.take k1).take cut.toNat)) (cntH E ((ls.take k1).drop cut.toNat)) (wtL E (ls.take k) x j)))
                 case first =>
                  go_quiet (first | (go_at_call 25;exact Calls.quiet_of_same (C.out _)))
                  go_wp2_with fail
                  go_meet
                  case rel=>exact ⟨rfl,HJ.out.bel (below_drewN17 (Below.refl _ _) _)⟩
                 clear HJ C y0 y1 y2 hlb;obtain ⟨rfl,HJ⟩:=hcut;obtain ⟨V3,hV⟩:∃ W,W=wc:=⟨_,rfl⟩;subst hV
                 cases ib
                 · have HN:Aside (Dy17 w V3 E gA eA cA kA gB eB cB kB gD eD cD kD gw (cntH E (ls.drop (n2-k1))) (cntH E ((ls.take k1).take cut.toNat)) (cntH E ((ls.take k1).drop cut.toNat)) (wtL E (ls.take k) x j1)):=by
                    rw [HJJ.out.1,wt_no HJJ.out.2.1.symm];exact HJ.out
                   clear HJ;go_wp2
                   go_roundg (m-j1)
                   case measure=>have:=HJJ.out.1;omega
                   case rel=>exact ⟨j1,by have:=HJJ.out.1;omega,by first | rfl | simp,HN.out⟩
                 · have hO:=HJ.out.2.2.2.1
                   have q1:=hO.cell j (by rw [wt_len,HJJ.out.2.2];omega)
                   rw [wt_get (by rw [HJJ.out.2.2];omega)] at q1
                   have q2:=hO.frozen j
                   have hle:(ls.take k).countP (inK E j)≤1048576:=by
                    refine Nat.le_trans List.countP_le_length ?_;rw [List.length_take];omega
                   have hset:=hO.set j ((ls.take k).countP (inK E j)+1);rw [wt_yes (by rw [HJJ.out.2.2];omega) HJJ.out.2.1.symm,←HJJ.out.1] at hset
                   obtain ⟨q,hq⟩:∃ q,q=(ls.take k).countP (inK E j):=⟨_,rfl⟩;rw [←hq] at q1 hle hset;obtain ⟨qq,hqq⟩:∃ z,z=q+1:=⟨_,rfl⟩;rw [←hqq] at hset;have wq:IntKind.i64.wrap ((q:Int)+1)=(qq:Int):=wrapY (by omega) (by omega)
                   have HN:Aside (Dy17 w (V3.setCell ⟨gw,j,none⟩ (.int .i64 (qq:Nat))) E gA eA cA kA gB eB cB kB gD eD cD kD gw (cntH E (ls.drop (n2-k1))) (cntH E ((ls.take k1).take cut.toNat)) (cntH E ((ls.take k1).drop cut.toNat)) (wtL E (ls.take k) x j1)):=HJ.out.addW ST.out hset ((But.refl gw V3).set j _);clear HJ hO hset hq hqq hle;go_wp2
                   go_roundg (m-j1)
                   case measure=>have:=HJJ.out.1;omega
                   case rel=>exact ⟨j1,by have:=HJJ.out.1;omega,by first | rfl | simp,HN.out⟩
               · obtain rfl:j=m:=by omega
                 have hdj:decide ((j1:Int)<(n1:Int))=false:=by simp;have:=HMM.out;omega
                 have hdj2:¬ j1<n1:=by have:=HMM.out;omega
                 have hdj3:decide (j1<n1)=false:=by simp;have:=HMM.out;omega
                 have HN:Aside (Dy17 w wr E gA eA cA kA gB eB cB kB gD eD cD kD gw (cntH E (ls.drop (n2-k1))) (cntH E ((ls.take k1).take cut.toNat)) (cntH E ((ls.take k1).drop cut.toNat)) (cntH E (ls.take k1)).C):=by
                  have q:=HJ.out;rw [show j=E.length-1 by rw [←HI.out.1];exact HMM.out,wt_all,HX.out.1,←take_snoc17 HK.out.2.2.2,←HK.out.1] at q
                  exact q
                 clear HJ hj1;go_wp2
                 go_roundg (n2-k1)
                 case measure=>have:=HK.out;omega
                 case rel=>exact ⟨k1,by have:=HK.out;omega,by rw [HV.out.1],by rw [HV.out.2.1],by rw [HV.out.2.2],by first | rfl | simp,HN.out⟩
      · have dct:decide ((k:Int)<cut)=false:=by simp;omega
        have C:=hid (Add17 (x:=x) K1.out.2.2.1 HX.out.2)
        have hal:(cntH E ((ls.take k).drop cut.toNat)).all≤k:=by
         rw [cnt_all HE.out];simp;omega
        rw [if_neg (by omega),if_neg (by omega),cnt_snoc HE.out,HX.out.1,←cut_d17 HK.out.2.2.2 (by omega),←HX.out.1,←HK.out.1] at C
        clear hal
        go_wp2_with fail
        refine C.out.mono ?_;rintro r v2 ⟨rfl,hm,hb⟩
        have K2:Aside (Dy17 w v2 E gA eA cA kA gB eB cB kB gD eD cD kD gw (cntH E (ls.drop (n2-k1))) (cntH E ((ls.take k1).take cut.toNat)) (cntH E ((ls.take k1).drop cut.toNat)) (wtL E (ls.take k) x 0)):=by
         have q:=K1.out.addD ST.out hm hb;rw [wt_zero,←HK.out.2.1,HK.out.1,cut_b17' (l:=ls) (k:=k) (cn:=cut.toNat) (by omega),←HK.out.1]
         exact q
        clear C hm hb K1 x2;have hX:=HX.out;have hbw:=K2.out.2.2.2.2;obtain ⟨t1,t2,t3⟩:=kd_tests HE.out HI.out.2.1 hX.2;have z2:=HI.out.2.2.2.2.2.cell hbw k HK.out.2.2.2;rw [←hX.1] at z2;have z0:=HI.out.2.2.1.cell hbw 0 (by rw [←HI.out.1];omega)
        have z1:=HI.out.2.2.1.cell hbw (E.length-1) (by rw [←HI.out.1];omega)
        rw [Nat.add_zero] at z0;rw [←HI.out.1,←HMM.out] at z1 t2;obtain ⟨E0,hE0⟩:∃ y,y=E.getD 0 0:=⟨_,rfl⟩;obtain ⟨Em,hEm⟩:∃ y,y=E.getD m 0:=⟨_,rfl⟩;rw [←hE0] at z0 t1 t3;rw [←hEm] at z1 t2;have bm:(m:Int)<(n1:Int):=by have:=HMM.out;omega
        have bm0:(0:Int)≤(m:Int):=by omega
        have bn0:(0:Int)<(n1:Int):=by omega
        have hput:(cntH E (ls.take k)).put E x=cntH E (ls.take k1):=by rw [cnt_snoc HE.out,hX.1,←take_snoc17 HK.out.2.2.2,←HK.out.1]
        obtain ⟨kd,hkd⟩:∃ c,c=kdE E x:=⟨_,rfl⟩;have hpb:=put_b17 (E:=E) (s:=cntH E (ls.take k)) hkd.symm;rw [hput,←HS.out.1,←HS.out.2.1,←HS.out.2.2] at hpb;have hkc:=kd_cases (E.getD 0 0) (E.getD (E.length-1) 0) x;have hkc':kd=0∨kd=1∨kd=2∨kd=3:=by rw [hkd];exact hkc
        rw [←hkd] at t1 t2 t3;have HPB:=qsd hpb;have HBV:=qsd hbw;clear hX hbw hE0 hEm hput hkd hpb hkc;have wsb:IntKind.i64.wrap ((sb:Int)+1)=((sb+1:Nat):Int):=wrapY (by omega) (by omega)
        have wsa:IntKind.i64.wrap ((sa:Int)+1)=((sa+1:Nat):Int):=wrapY (by omega) (by omega)
        have wso:IntKind.i64.wrap ((so:Int)+1)=((so+1:Nat):Int):=wrapY (by omega) (by omega)
        obtain ⟨sb1,hsb1⟩:∃ b,b=sb+1:=⟨_,rfl⟩;obtain ⟨sa1,hsa1⟩:∃ b,b=sa+1:=⟨_,rfl⟩;obtain ⟨so1,hso1⟩:∃ b,b=so+1:=⟨_,rfl⟩;rw [←hsb1] at wsb;rw [←hsa1] at wsa;rw [←hso1] at wso;have HS1:=(qsd (ai hsb1 (ai hsa1 hso1)));clear hsb1 hsa1 hso1
        by_cases h1:kd=1
        · rw [decide_eq_true h1] at t1
          have HV:Aside ((cntH E (ls.take k1)).b=sb1∧(cntH E (ls.take k1)).a=sa∧(cntH E (ls.take k1)).o=so):=by
           have q:=HPB.out;rw [h1,if_pos rfl,if_neg (by decide),if_neg (by decide),←HS1.out.1] at q
           exact q
          clear t2 t3 hkc'
          go_wp2_with fail
          go_quiet (fail)
          go_wp2
          go_loopg [20] m (fun gk jv wr=>∃ j:Nat,gk+j=m∧jv=.int .i64 (j:Nat)∧Aside (Dy17 w wr E gA eA cA kA gB eB cB kB gD eD cD kD gw (cntH E (ls.drop (n2-k1))) (cntH E ((ls.take k1).take cut.toNat)) (cntH E ((ls.take k1).drop cut.toNat)) (wtL E (ls.take k) x j)))
          case atStart=>exact ⟨0,by omega,by first | rfl | simp,K2.out.bel (by repeat (first | exact Below.refl _ _ | refine below_drewN17 ?_ _))⟩
          case round =>
           clear K2 z0 z1 z2 t1 dct wsb wsa wso HPB HS1 HBV;obtain ⟨j,hgj,rfl,HJ⟩:=hrel;obtain ⟨j1,hj1⟩:∃ x,x=j+1:=⟨_,rfl⟩;have wj1:IntKind.i64.wrap ((j:Int)+1)=(j1:Int):=wrapY (by omega) (by have:=HMM.out;omega)
           by_cases hj:j<m
           · have hdj:decide ((j1:Int)<(n1:Int))=true:=by simp;have:=HMM.out;omega
             have bj:(j:Int)<(n1:Int):=by have:=HMM.out;omega
             have bj0:(0:Int)≤(j:Int):=by omega
             have bj1:(j1:Int)<(n1:Int):=by have:=HMM.out;omega
             have bjm:(j:Int)<(m:Int):=by omega
             obtain ⟨j3,hj3⟩:∃ x,x=j+2:=⟨_,rfl⟩;have wj3:IntKind.i64.wrap ((j:Int)+2)=(j3:Int):=wrapY (by omega) (by have:=HMM.out;omega)
             have hlen:E.length=m+1:=by rw [←HI.out.1];have:=HMM.out;omega
             have C:=hid (fun u=>lies17 HE.out HI.out.2.1 (k:=j) (x:=x) (by omega) HX.out.2 u)
             have hlb:((j3:Int)==(n1:Int))=decide (j+2=E.length):=by
              rw [Bool.eq_iff_iff,beq_iff_eq,decide_eq_true_eq,←HI.out.1];omega
             have y2:=HI.out.2.2.2.2.2.cell HJ.out.2.2.2.2 k HK.out.2.2.2;rw [←HX.out.1] at y2;have y0:=HI.out.2.2.1.cell HJ.out.2.2.2.2 j (by omega)
             have y1:=HI.out.2.2.1.cell HJ.out.2.2.2.2 (j+1) (by omega)
             obtain ⟨lb,hlb'⟩:∃ b,b=decide (j+2=E.length):=⟨_,rfl⟩;rw [←hlb'] at hlb C;rw [←hj1] at y1 C;obtain ⟨Ea,hEa⟩:∃ y,y=E.getD j 0:=⟨_,rfl⟩;obtain ⟨Eb,hEb⟩:∃ y,y=E.getD j1 0:=⟨_,rfl⟩;rw [←hEa] at y0 C;rw [←hEb] at y1 C;obtain ⟨ib,hib⟩:∃ b,b=inK E j x:=⟨_,rfl⟩;rw [←hib] at C;have HJJ:=(qsd (ai hj1 (ai hib hlen)));clear hlb' hEa hEb hib hlen hj1 hj3
             go_upto_region 30 with fail
             go_cut [21] from 168 to 186 (fun v wx=>v=.bool ib∧Aside (Dy17 w wx E gA eA cA kA gB eB cB kB gD eD cD kD gw (cntH E (ls.drop (n2-k1))) (cntH E ((ls.take k1).take cut.toNat)) (cntH E ((ls.take k1).drop cut.toNat)) (wtL E (ls.take k) x j)))
             case first =>
              go_quiet (first | (go_at_call 25;exact Calls.quiet_of_same (C.out _)))
              go_wp2_with fail
              go_meet
              case rel=>exact ⟨rfl,HJ.out.bel (below_drewN17 (Below.refl _ _) _)⟩
             clear HJ C y0 y1 y2 hlb;obtain ⟨rfl,HJ⟩:=hcut;obtain ⟨V3,hV⟩:∃ W,W=wc:=⟨_,rfl⟩;subst hV
             cases ib
             · have HN:Aside (Dy17 w V3 E gA eA cA kA gB eB cB kB gD eD cD kD gw (cntH E (ls.drop (n2-k1))) (cntH E ((ls.take k1).take cut.toNat)) (cntH E ((ls.take k1).drop cut.toNat)) (wtL E (ls.take k) x j1)):=by
                rw [HJJ.out.1,wt_no HJJ.out.2.1.symm];exact HJ.out
               clear HJ;go_wp2
               go_roundg (m-j1)
               case measure=>have:=HJJ.out.1;omega
               case rel=>exact ⟨j1,by have:=HJJ.out.1;omega,by first | rfl | simp,HN.out⟩
             · have hO:=HJ.out.2.2.2.1
               have q1:=hO.cell j (by rw [wt_len,HJJ.out.2.2];omega)
               rw [wt_get (by rw [HJJ.out.2.2];omega)] at q1
               have q2:=hO.frozen j
               have hle:(ls.take k).countP (inK E j)≤1048576:=by
                refine Nat.le_trans List.countP_le_length ?_;rw [List.length_take];omega
               have hset:=hO.set j ((ls.take k).countP (inK E j)+1);rw [wt_yes (by rw [HJJ.out.2.2];omega) HJJ.out.2.1.symm,←HJJ.out.1] at hset
               obtain ⟨q,hq⟩:∃ q,q=(ls.take k).countP (inK E j):=⟨_,rfl⟩;rw [←hq] at q1 hle hset;obtain ⟨qq,hqq⟩:∃ z,z=q+1:=⟨_,rfl⟩;rw [←hqq] at hset;have wq:IntKind.i64.wrap ((q:Int)+1)=(qq:Int):=wrapY (by omega) (by omega)
               have HN:Aside (Dy17 w (V3.setCell ⟨gw,j,none⟩ (.int .i64 (qq:Nat))) E gA eA cA kA gB eB cB kB gD eD cD kD gw (cntH E (ls.drop (n2-k1))) (cntH E ((ls.take k1).take cut.toNat)) (cntH E ((ls.take k1).drop cut.toNat)) (wtL E (ls.take k) x j1)):=HJ.out.addW ST.out hset ((But.refl gw V3).set j _);clear HJ hO hset hq hqq hle;go_wp2
               go_roundg (m-j1)
               case measure=>have:=HJJ.out.1;omega
               case rel=>exact ⟨j1,by have:=HJJ.out.1;omega,by first | rfl | simp,HN.out⟩
           · obtain rfl:j=m:=by omega
             have hdj:decide ((j1:Int)<(n1:Int))=false:=by simp;have:=HMM.out;omega
             have hdj2:¬ j1<n1:=by have:=HMM.out;omega
             have hdj3:decide (j1<n1)=false:=by simp;have:=HMM.out;omega
             have HN:Aside (Dy17 w wr E gA eA cA kA gB eB cB kB gD eD cD kD gw (cntH E (ls.drop (n2-k1))) (cntH E ((ls.take k1).take cut.toNat)) (cntH E ((ls.take k1).drop cut.toNat)) (cntH E (ls.take k1)).C):=by
              have q:=HJ.out;rw [show j=E.length-1 by rw [←HI.out.1];exact HMM.out,wt_all,HX.out.1,←take_snoc17 HK.out.2.2.2,←HK.out.1] at q
              exact q
             clear HJ hj1;go_wp2
             go_roundg (n2-k1)
             case measure=>have:=HK.out;omega
             case rel=>exact ⟨k1,by have:=HK.out;omega,by rw [HV.out.1],by rw [HV.out.2.1],by rw [HV.out.2.2],by first | rfl | simp,HN.out⟩
        · rw [decide_eq_false h1] at t1
          replace t2:=t2 h1
          by_cases h2:kd=2
          · rw [decide_eq_true h2] at t2
            have HV:Aside ((cntH E (ls.take k1)).b=sb∧(cntH E (ls.take k1)).a=sa1∧(cntH E (ls.take k1)).o=so):=by
             have q:=HPB.out;rw [h2,if_neg (by decide),if_pos rfl,if_neg (by decide),←HS1.out.2.1] at q
             exact q
            clear t3 hkc'
            go_wp2_with fail
            go_quiet (fail)
            go_wp2_with fail
            go_quiet (fail)
            go_wp2
            go_loopg [20] m (fun gk jv wr=>∃ j:Nat,gk+j=m∧jv=.int .i64 (j:Nat)∧Aside (Dy17 w wr E gA eA cA kA gB eB cB kB gD eD cD kD gw (cntH E (ls.drop (n2-k1))) (cntH E ((ls.take k1).take cut.toNat)) (cntH E ((ls.take k1).drop cut.toNat)) (wtL E (ls.take k) x j)))
            case atStart=>exact ⟨0,by omega,by first | rfl | simp,K2.out.bel (by repeat (first | exact Below.refl _ _ | refine below_drewN17 ?_ _))⟩
            case round =>
             clear K2 z0 z1 z2 t1 dct wsb wsa wso HPB HS1 HBV;obtain ⟨j,hgj,rfl,HJ⟩:=hrel;obtain ⟨j1,hj1⟩:∃ x,x=j+1:=⟨_,rfl⟩;have wj1:IntKind.i64.wrap ((j:Int)+1)=(j1:Int):=wrapY (by omega) (by have:=HMM.out;omega)
             by_cases hj:j<m
             · have hdj:decide ((j1:Int)<(n1:Int))=true:=by simp;have:=HMM.out;omega
               have bj:(j:Int)<(n1:Int):=by have:=HMM.out;omega
               have bj0:(0:Int)≤(j:Int):=by omega
               have bj1:(j1:Int)<(n1:Int):=by have:=HMM.out;omega
               have bjm:(j:Int)<(m:Int):=by omega
               obtain ⟨j3,hj3⟩:∃ x,x=j+2:=⟨_,rfl⟩;have wj3:IntKind.i64.wrap ((j:Int)+2)=(j3:Int):=wrapY (by omega) (by have:=HMM.out;omega)
               have hlen:E.length=m+1:=by rw [←HI.out.1];have:=HMM.out;omega
               have C:=hid (fun u=>lies17 HE.out HI.out.2.1 (k:=j) (x:=x) (by omega) HX.out.2 u)
               have hlb:((j3:Int)==(n1:Int))=decide (j+2=E.length):=by
                rw [Bool.eq_iff_iff,beq_iff_eq,decide_eq_true_eq,←HI.out.1];omega
               have y2:=HI.out.2.2.2.2.2.cell HJ.out.2.2.2.2 k HK.out.2.2.2;rw [←HX.out.1] at y2;have y0:=HI.out.2.2.1.cell HJ.out.2.2.2.2 j (by omega)
               have y1:=HI.out.2.2.1.cell HJ.out.2.2.2.2 (j+1) (by omega)
               obtain ⟨lb,hlb'⟩:∃ b,b=decide (j+2=E.length):=⟨_,rfl⟩;rw [←hlb'] at hlb C;rw [←hj1] at y1 C;obtain ⟨Ea,hEa⟩:∃ y,y=E.getD j 0:=⟨_,rfl⟩;obtain ⟨Eb,hEb⟩:∃ y,y=E.getD j1 0:=⟨_,rfl⟩;rw [←hEa] at y0 C;rw [←hEb] at y1 C;obtain ⟨ib,hib⟩:∃ b,b=inK E j x:=⟨_,rfl⟩;rw [←hib] at C;have HJJ:=(qsd (ai hj1 (ai hib hlen)));clear hlb' hEa hEb hib hlen hj1 hj3
               go_upto_region 30 with fail
               go_cut [21] from 168 to 186 (fun v wx=>v=.bool ib∧Aside (Dy17 w wx E gA eA cA kA gB eB cB kB gD eD cD kD gw (cntH E (ls.drop (n2-k1))) (cntH E ((ls.take k1).take cut.toNat)) (cntH E ((ls.take k1).drop cut.toNat)) (wtL E (ls.take k) x j)))
               case first =>
                go_quiet (first | (go_at_call 25;exact Calls.quiet_of_same (C.out _)))
                go_wp2_with fail
                go_meet
                case rel=>exact ⟨rfl,HJ.out.bel (below_drewN17 (Below.refl _ _) _)⟩
               clear HJ C y0 y1 y2 hlb;obtain ⟨rfl,HJ⟩:=hcut;obtain ⟨V3,hV⟩:∃ W,W=wc:=⟨_,rfl⟩;subst hV
               cases ib
               · have HN:Aside (Dy17 w V3 E gA eA cA kA gB eB cB kB gD eD cD kD gw (cntH E (ls.drop (n2-k1))) (cntH E ((ls.take k1).take cut.toNat)) (cntH E ((ls.take k1).drop cut.toNat)) (wtL E (ls.take k) x j1)):=by
                  rw [HJJ.out.1,wt_no HJJ.out.2.1.symm];exact HJ.out
                 clear HJ;go_wp2
                 go_roundg (m-j1)
                 case measure=>have:=HJJ.out.1;omega
                 case rel=>exact ⟨j1,by have:=HJJ.out.1;omega,by first | rfl | simp,HN.out⟩
               · have hO:=HJ.out.2.2.2.1
                 have q1:=hO.cell j (by rw [wt_len,HJJ.out.2.2];omega)
                 rw [wt_get (by rw [HJJ.out.2.2];omega)] at q1
                 have q2:=hO.frozen j
                 have hle:(ls.take k).countP (inK E j)≤1048576:=by
                  refine Nat.le_trans List.countP_le_length ?_;rw [List.length_take];omega
                 have hset:=hO.set j ((ls.take k).countP (inK E j)+1);rw [wt_yes (by rw [HJJ.out.2.2];omega) HJJ.out.2.1.symm,←HJJ.out.1] at hset
                 obtain ⟨q,hq⟩:∃ q,q=(ls.take k).countP (inK E j):=⟨_,rfl⟩;rw [←hq] at q1 hle hset;obtain ⟨qq,hqq⟩:∃ z,z=q+1:=⟨_,rfl⟩;rw [←hqq] at hset;have wq:IntKind.i64.wrap ((q:Int)+1)=(qq:Int):=wrapY (by omega) (by omega)
                 have HN:Aside (Dy17 w (V3.setCell ⟨gw,j,none⟩ (.int .i64 (qq:Nat))) E gA eA cA kA gB eB cB kB gD eD cD kD gw (cntH E (ls.drop (n2-k1))) (cntH E ((ls.take k1).take cut.toNat)) (cntH E ((ls.take k1).drop cut.toNat)) (wtL E (ls.take k) x j1)):=HJ.out.addW ST.out hset ((But.refl gw V3).set j _);clear HJ hO hset hq hqq hle;go_wp2
                 go_roundg (m-j1)
                 case measure=>have:=HJJ.out.1;omega
                 case rel=>exact ⟨j1,by have:=HJJ.out.1;omega,by first | rfl | simp,HN.out⟩
             · obtain rfl:j=m:=by omega
               have hdj:decide ((j1:Int)<(n1:Int))=false:=by simp;have:=HMM.out;omega
               have hdj2:¬ j1<n1:=by have:=HMM.out;omega
               have hdj3:decide (j1<n1)=false:=by simp;have:=HMM.out;omega
               have HN:Aside (Dy17 w wr E gA eA cA kA gB eB cB kB gD eD cD kD gw (cntH E (ls.drop (n2-k1))) (cntH E ((ls.take k1).take cut.toNat)) (cntH E ((ls.take k1).drop cut.toNat)) (cntH E (ls.take k1)).C):=by
                have q:=HJ.out;rw [show j=E.length-1 by rw [←HI.out.1];exact HMM.out,wt_all,HX.out.1,←take_snoc17 HK.out.2.2.2,←HK.out.1] at q
                exact q
               clear HJ hj1;go_wp2
               go_roundg (n2-k1)
               case measure=>have:=HK.out;omega
               case rel=>exact ⟨k1,by have:=HK.out;omega,by rw [HV.out.1],by rw [HV.out.2.1],by rw [HV.out.2.2],by first | rfl | simp,HN.out⟩
          · rw [decide_eq_false h2] at t2
            replace t3:=t3 h1 h2
            by_cases h3:kd=0
            · rw [decide_eq_true h3] at t3
              have HV:Aside ((cntH E (ls.take k1)).b=sb∧(cntH E (ls.take k1)).a=sa∧(cntH E (ls.take k1)).o=so1):=by
               have q:=HPB.out;rw [h3,if_neg (by decide),if_neg (by decide),if_pos rfl,←HS1.out.2.2] at q
               exact q
              clear hkc'
              go_wp2_with fail
              go_quiet (fail)
              go_wp2_with fail
              go_quiet (fail)
              go_wp2_with fail
              go_quiet (fail)
              go_wp2
              go_loopg [20] m (fun gk jv wr=>∃ j:Nat,gk+j=m∧jv=.int .i64 (j:Nat)∧Aside (Dy17 w wr E gA eA cA kA gB eB cB kB gD eD cD kD gw (cntH E (ls.drop (n2-k1))) (cntH E ((ls.take k1).take cut.toNat)) (cntH E ((ls.take k1).drop cut.toNat)) (wtL E (ls.take k) x j)))
              case atStart=>exact ⟨0,by omega,by first | rfl | simp,K2.out.bel (by repeat (first | exact Below.refl _ _ | refine below_drewN17 ?_ _))⟩
              case round =>
               clear K2 z0 z1 z2 t1 dct wsb wsa wso HPB HS1 HBV;obtain ⟨j,hgj,rfl,HJ⟩:=hrel;obtain ⟨j1,hj1⟩:∃ x,x=j+1:=⟨_,rfl⟩;have wj1:IntKind.i64.wrap ((j:Int)+1)=(j1:Int):=wrapY (by omega) (by have:=HMM.out;omega)
               by_cases hj:j<m
               · have hdj:decide ((j1:Int)<(n1:Int))=true:=by simp;have:=HMM.out;omega
                 have bj:(j:Int)<(n1:Int):=by have:=HMM.out;omega
                 have bj0:(0:Int)≤(j:Int):=by omega
                 have bj1:(j1:Int)<(n1:Int):=by have:=HMM.out;omega
                 have bjm:(j:Int)<(m:Int):=by omega
                 obtain ⟨j3,hj3⟩:∃ x,x=j+2:=⟨_,rfl⟩;have wj3:IntKind.i64.wrap ((j:Int)+2)=(j3:Int):=wrapY (by omega) (by have:=HMM.out;omega)
                 have hlen:E.length=m+1:=by rw [←HI.out.1];have:=HMM.out;omega
                 have C:=hid (fun u=>lies17 HE.out HI.out.2.1 (k:=j) (x:=x) (by omega) HX.out.2 u)
                 have hlb:((j3:Int)==(n1:Int))=decide (j+2=E.length):=by
                  rw [Bool.eq_iff_iff,beq_iff_eq,decide_eq_true_eq,←HI.out.1];omega
                 have y2:=HI.out.2.2.2.2.2.cell HJ.out.2.2.2.2 k HK.out.2.2.2;rw [←HX.out.1] at y2;have y0:=HI.out.2.2.1.cell HJ.out.2.2.2.2 j (by omega)
                 have y1:=HI.out.2.2.1.cell HJ.out.2.2.2.2 (j+1) (by omega)
                 obtain ⟨lb,hlb'⟩:∃ b,b=decide (j+2=E.length):=⟨_,rfl⟩;rw [←hlb'] at hlb C;rw [←hj1] at y1 C;obtain ⟨Ea,hEa⟩:∃ y,y=E.getD j 0:=⟨_,rfl⟩;obtain ⟨Eb,hEb⟩:∃ y,y=E.getD j1 0:=⟨_,rfl⟩;rw [←hEa] at y0 C;rw [←hEb] at y1 C;obtain ⟨ib,hib⟩:∃ b,b=inK E j x:=⟨_,rfl⟩;rw [←hib] at C;have HJJ:=(qsd (ai hj1 (ai hib hlen)));clear hlb' hEa hEb hib hlen hj1 hj3
                 go_upto_region 30 with fail
                 go_cut [21] from 168 to 186 (fun v wx=>v=.bool ib∧Aside (Dy17 w wx E gA eA cA kA gB eB cB kB gD eD cD kD gw (cntH E (ls.drop (n2-k1))) (cntH E ((ls.take k1).take cut.toNat)) (cntH E ((ls.take k1).drop cut.toNat)) (wtL E (ls.take k) x j)))
                 case first =>
                  go_quiet (first | (go_at_call 25;exact Calls.quiet_of_same (C.out _)))
                  go_wp2_with fail
                  go_meet
                  case rel=>exact ⟨rfl,HJ.out.bel (below_drewN17 (Below.refl _ _) _)⟩
                 clear HJ C y0 y1 y2 hlb;obtain ⟨rfl,HJ⟩:=hcut;obtain ⟨V3,hV⟩:∃ W,W=wc:=⟨_,rfl⟩;subst hV
                 cases ib
                 · have HN:Aside (Dy17 w V3 E gA eA cA kA gB eB cB kB gD eD cD kD gw (cntH E (ls.drop (n2-k1))) (cntH E ((ls.take k1).take cut.toNat)) (cntH E ((ls.take k1).drop cut.toNat)) (wtL E (ls.take k) x j1)):=by
                    rw [HJJ.out.1,wt_no HJJ.out.2.1.symm];exact HJ.out
                   clear HJ;go_wp2
                   go_roundg (m-j1)
                   case measure=>have:=HJJ.out.1;omega
                   case rel=>exact ⟨j1,by have:=HJJ.out.1;omega,by first | rfl | simp,HN.out⟩
                 · have hO:=HJ.out.2.2.2.1
                   have q1:=hO.cell j (by rw [wt_len,HJJ.out.2.2];omega)
                   rw [wt_get (by rw [HJJ.out.2.2];omega)] at q1
                   have q2:=hO.frozen j
                   have hle:(ls.take k).countP (inK E j)≤1048576:=by
                    refine Nat.le_trans List.countP_le_length ?_;rw [List.length_take];omega
                   have hset:=hO.set j ((ls.take k).countP (inK E j)+1);rw [wt_yes (by rw [HJJ.out.2.2];omega) HJJ.out.2.1.symm,←HJJ.out.1] at hset
                   obtain ⟨q,hq⟩:∃ q,q=(ls.take k).countP (inK E j):=⟨_,rfl⟩;rw [←hq] at q1 hle hset;obtain ⟨qq,hqq⟩:∃ z,z=q+1:=⟨_,rfl⟩;rw [←hqq] at hset;have wq:IntKind.i64.wrap ((q:Int)+1)=(qq:Int):=wrapY (by omega) (by omega)
                   have HN:Aside (Dy17 w (V3.setCell ⟨gw,j,none⟩ (.int .i64 (qq:Nat))) E gA eA cA kA gB eB cB kB gD eD cD kD gw (cntH E (ls.drop (n2-k1))) (cntH E ((ls.take k1).take cut.toNat)) (cntH E ((ls.take k1).drop cut.toNat)) (wtL E (ls.take k) x j1)):=HJ.out.addW ST.out hset ((But.refl gw V3).set j _);clear HJ hO hset hq hqq hle;go_wp2
                   go_roundg (m-j1)
                   case measure=>have:=HJJ.out.1;omega
                   case rel=>exact ⟨j1,by have:=HJJ.out.1;omega,by first | rfl | simp,HN.out⟩
               · obtain rfl:j=m:=by omega
                 have hdj:decide ((j1:Int)<(n1:Int))=false:=by simp;have:=HMM.out;omega
                 have hdj2:¬ j1<n1:=by have:=HMM.out;omega
                 have hdj3:decide (j1<n1)=false:=by simp;have:=HMM.out;omega
                 have HN:Aside (Dy17 w wr E gA eA cA kA gB eB cB kB gD eD cD kD gw (cntH E (ls.drop (n2-k1))) (cntH E ((ls.take k1).take cut.toNat)) (cntH E ((ls.take k1).drop cut.toNat)) (cntH E (ls.take k1)).C):=by
                  have q:=HJ.out;rw [show j=E.length-1 by rw [←HI.out.1];exact HMM.out,wt_all,HX.out.1,←take_snoc17 HK.out.2.2.2,←HK.out.1] at q
                  exact q
                 clear HJ hj1;go_wp2
                 go_roundg (n2-k1)
                 case measure=>have:=HK.out;omega
                 case rel=>exact ⟨k1,by have:=HK.out;omega,by rw [HV.out.1],by rw [HV.out.2.1],by rw [HV.out.2.2],by first | rfl | simp,HN.out⟩
            · rw [decide_eq_false h3] at t3
              have HV:Aside ((cntH E (ls.take k1)).b=sb∧(cntH E (ls.take k1)).a=sa∧(cntH E (ls.take k1)).o=so):=by
               have q:=HPB.out;rw [if_neg h1,if_neg h2,if_neg h3] at q;exact q
              go_wp2_with fail
              go_quiet (fail)
              go_wp2_with fail
              go_quiet (fail)
              go_wp2_with fail
              go_quiet (fail)
              go_wp2
              go_loopg [20] m (fun gk jv wr=>∃ j:Nat,gk+j=m∧jv=.int .i64 (j:Nat)∧Aside (Dy17 w wr E gA eA cA kA gB eB cB kB gD eD cD kD gw (cntH E (ls.drop (n2-k1))) (cntH E ((ls.take k1).take cut.toNat)) (cntH E ((ls.take k1).drop cut.toNat)) (wtL E (ls.take k) x j)))
              case atStart=>exact ⟨0,by omega,by first | rfl | simp,K2.out.bel (by repeat (first | exact Below.refl _ _ | refine below_drewN17 ?_ _))⟩
              case round =>
               clear K2 z0 z1 z2 t1 dct wsb wsa wso HPB HS1 HBV;obtain ⟨j,hgj,rfl,HJ⟩:=hrel;obtain ⟨j1,hj1⟩:∃ x,x=j+1:=⟨_,rfl⟩;have wj1:IntKind.i64.wrap ((j:Int)+1)=(j1:Int):=wrapY (by omega) (by have:=HMM.out;omega)
               by_cases hj:j<m
               · have hdj:decide ((j1:Int)<(n1:Int))=true:=by simp;have:=HMM.out;omega
                 have bj:(j:Int)<(n1:Int):=by have:=HMM.out;omega
                 have bj0:(0:Int)≤(j:Int):=by omega
                 have bj1:(j1:Int)<(n1:Int):=by have:=HMM.out;omega
                 have bjm:(j:Int)<(m:Int):=by omega
                 obtain ⟨j3,hj3⟩:∃ x,x=j+2:=⟨_,rfl⟩;have wj3:IntKind.i64.wrap ((j:Int)+2)=(j3:Int):=wrapY (by omega) (by have:=HMM.out;omega)
                 have hlen:E.length=m+1:=by rw [←HI.out.1];have:=HMM.out;omega
                 have C:=hid (fun u=>lies17 HE.out HI.out.2.1 (k:=j) (x:=x) (by omega) HX.out.2 u)
                 have hlb:((j3:Int)==(n1:Int))=decide (j+2=E.length):=by
                  rw [Bool.eq_iff_iff,beq_iff_eq,decide_eq_true_eq,←HI.out.1];omega
                 have y2:=HI.out.2.2.2.2.2.cell HJ.out.2.2.2.2 k HK.out.2.2.2;rw [←HX.out.1] at y2;have y0:=HI.out.2.2.1.cell HJ.out.2.2.2.2 j (by omega)
                 have y1:=HI.out.2.2.1.cell HJ.out.2.2.2.2 (j+1) (by omega)
                 obtain ⟨lb,hlb'⟩:∃ b,b=decide (j+2=E.length):=⟨_,rfl⟩;rw [←hlb'] at hlb C;rw [←hj1] at y1 C;obtain ⟨Ea,hEa⟩:∃ y,y=E.getD j 0:=⟨_,rfl⟩;obtain ⟨Eb,hEb⟩:∃ y,y=E.getD j1 0:=⟨_,rfl⟩;rw [←hEa] at y0 C;rw [←hEb] at y1 C;obtain ⟨ib,hib⟩:∃ b,b=inK E j x:=⟨_,rfl⟩;rw [←hib] at C;have HJJ:=(qsd (ai hj1 (ai hib hlen)));clear hlb' hEa hEb hib hlen hj1 hj3
                 go_upto_region 30 with fail
                 go_cut [21] from 168 to 186 (fun v wx=>v=.bool ib∧Aside (Dy17 w wx E gA eA cA kA gB eB cB kB gD eD cD kD gw (cntH E (ls.drop (n2-k1))) (cntH E ((ls.take k1).take cut.toNat)) (cntH E ((ls.take k1).drop cut.toNat)) (wtL E (ls.take k) x j)))
                 case first =>
                  go_quiet (first | (go_at_call 25;exact Calls.quiet_of_same (C.out _)))
                  go_wp2_with fail
                  go_meet
                  case rel=>exact ⟨rfl,HJ.out.bel (below_drewN17 (Below.refl _ _) _)⟩
                 clear HJ C y0 y1 y2 hlb;obtain ⟨rfl,HJ⟩:=hcut;obtain ⟨V3,hV⟩:∃ W,W=wc:=⟨_,rfl⟩;subst hV
                 cases ib
                 · have HN:Aside (Dy17 w V3 E gA eA cA kA gB eB cB kB gD eD cD kD gw (cntH E (ls.drop (n2-k1))) (cntH E ((ls.take k1).take cut.toNat)) (cntH E ((ls.take k1).drop cut.toNat)) (wtL E (ls.take k) x j1)):=by
                    rw [HJJ.out.1,wt_no HJJ.out.2.1.symm];exact HJ.out
                   clear HJ;go_wp2
                   go_roundg (m-j1)
                   case measure=>have:=HJJ.out.1;omega
                   case rel=>exact ⟨j1,by have:=HJJ.out.1;omega,by first | rfl | simp,HN.out⟩
                 · have hO:=HJ.out.2.2.2.1
                   have q1:=hO.cell j (by rw [wt_len,HJJ.out.2.2];omega)
                   rw [wt_get (by rw [HJJ.out.2.2];omega)] at q1
                   have q2:=hO.frozen j
                   have hle:(ls.take k).countP (inK E j)≤1048576:=by
                    refine Nat.le_trans List.countP_le_length ?_;rw [List.length_take];omega
                   have hset:=hO.set j ((ls.take k).countP (inK E j)+1);rw [wt_yes (by rw [HJJ.out.2.2];omega) HJJ.out.2.1.symm,←HJJ.out.1] at hset
                   obtain ⟨q,hq⟩:∃ q,q=(ls.take k).countP (inK E j):=⟨_,rfl⟩;rw [←hq] at q1 hle hset;obtain ⟨qq,hqq⟩:∃ z,z=q+1:=⟨_,rfl⟩;rw [←hqq] at hset;have wq:IntKind.i64.wrap ((q:Int)+1)=(qq:Int):=wrapY (by omega) (by omega)
                   have HN:Aside (Dy17 w (V3.setCell ⟨gw,j,none⟩ (.int .i64 (qq:Nat))) E gA eA cA kA gB eB cB kB gD eD cD kD gw (cntH E (ls.drop (n2-k1))) (cntH E ((ls.take k1).take cut.toNat)) (cntH E ((ls.take k1).drop cut.toNat)) (wtL E (ls.take k) x j1)):=HJ.out.addW ST.out hset ((But.refl gw V3).set j _);clear HJ hO hset hq hqq hle;go_wp2
                   go_roundg (m-j1)
                   case measure=>have:=HJJ.out.1;omega
                   case rel=>exact ⟨j1,by have:=HJJ.out.1;omega,by first | rfl | simp,HN.out⟩
               · obtain rfl:j=m:=by omega
                 have hdj:decide ((j1:Int)<(n1:Int))=false:=by simp;have:=HMM.out;omega
                 have hdj2:¬ j1<n1:=by have:=HMM.out;omega
                 have hdj3:decide (j1<n1)=false:=by simp;have:=HMM.out;omega
                 have HN:Aside (Dy17 w wr E gA eA cA kA gB eB cB kB gD eD cD kD gw (cntH E (ls.drop (n2-k1))) (cntH E ((ls.take k1).take cut.toNat)) (cntH E ((ls.take k1).drop cut.toNat)) (cntH E (ls.take k1)).C):=by
                  have q:=HJ.out;rw [show j=E.length-1 by rw [←HI.out.1];exact HMM.out,wt_all,HX.out.1,←take_snoc17 HK.out.2.2.2,←HK.out.1] at q
                  exact q
                 clear HJ hj1;go_wp2
                 go_roundg (n2-k1)
                 case measure=>have:=HK.out;omega
                 case rel=>exact ⟨k1,by have:=HK.out;omega,by rw [HV.out.1],by rw [HV.out.2.1],by rw [HV.out.2.2],by first | rfl | simp,HN.out⟩
    · obtain rfl:k=n2:=by omega
      have hdk:decide ((k:Int)<(k:Int))=false:=by simp
      have eA0:ls.drop (k-k)=ls:=by rw [Nat.sub_self];rfl
      have eB0:ls.take k=ls:=by rw [HI.out.2.2.2.1];exact List.take_length
      have hA0:=HA.out;rw [eA0,eB0] at hA0;rw [eB0] at hbv hav hov;have hallS:(cntH E ls).all=k:=by rw [cnt_all HE.out];exact HI.out.2.2.2.1.symm
      obtain ⟨S,hS⟩:∃ S,S=cntH E ls:=⟨_,rfl⟩;have hmrg:(cntH E (ls.take cut.toNat)).mrg (cntH E (ls.drop cut.toNat))=S:=by rw [cnt_mrg,List.take_append_drop,hS]
      have hal2:(cntH E (ls.take cut.toNat)).all+(cntH E (ls.drop cut.toNat)).all=k:=by
       rw [cnt_all HE.out,cnt_all HE.out,HI.out.2.2.2.1,List.length_take,List.length_drop];omega
      obtain ⟨s1,s2,s3,⟨i1,i2,i3,i4,i5,i6⟩,⟨i7,i8,i9,i10,i11,i12⟩,⟨i13,i14,i15,i16,i17,i18⟩,i19⟩:=ST.out;have C:=hid (Merge17 hA0.2.1 hA0.2.2.1 ⟨by omega,by omega⟩ ⟨by omega,by omega⟩ ⟨by omega,by omega⟩)
      clear i1 i2 i3 i4 i5 i6 i7 i8 i9 i10 i11 i12 i13 i14 i15 i16 i17 i18 i19 s1 s2 s3;rw [if_neg (not_not_intro rfl),if_neg (not_not_intro rfl),hal2,if_neg (by omega),if_neg (by omega),hmrg] at C
      rw [←hS] at hallS hA0 hbv hav hov;have K1:=qsd hA0;have hlC:S.C.length=m:=by rw [hS,cnt_len,←HI.out.1];exact HMM.out.symm
      obtain ⟨sb,hsb⟩:∃ b,b=S.b:=⟨_,rfl⟩;obtain ⟨sa,hsa⟩:∃ b,b=S.a:=⟨_,rfl⟩;obtain ⟨so,hso⟩:∃ b,b=S.o:=⟨_,rfl⟩;rw [←hsb] at hbv;rw [←hsa] at hav;rw [←hso] at hov;subst hbv hav hov;have hsum:sb+sa+so+S.C.sum=k:=by rw [hsb,hsa,hso];exact hallS
      have HS:=(qsd (ai hsb (ai hsa (ai hso (ai hallS (ai hlC hsum))))));clear hmrg hal2 hS hallS hlC hsb hsa hso HA hA0 eA0 eB0
      go_wp2_with fail
      refine C.out.mono ?_;rintro r v1 ⟨rfl,hm,hb⟩;have K2:=qsd (K1.out.addB ST.out hm hb);clear C hm hb K1;obtain ⟨X,hX⟩:∃ W,W=v1.alloc (Obj.cells #[.pointer (some ⟨gA,0,none⟩),.pointer (some ⟨gB,0,none⟩)] 32):=⟨_,rfl⟩;obtain ⟨gp,hgp⟩:∃ g,g=v1.heap.size:=⟨_,rfl⟩
      have K3:Aside (Dy17 w X E gA eA cA kA gB eB cB kB gD eD cD kD gw S S (cntH E (ls.drop cut.toNat)) S.C∧Bl X gp 32 [.pointer (some ⟨gA,0,none⟩),.pointer (some ⟨gB,0,none⟩)]):=by
       have al:=below_alloc v1 (Obj.cells #[.pointer (some ⟨gA,0,none⟩),.pointer (some ⟨gB,0,none⟩)] 32);rw [←hX] at al;exact ⟨K2.out.bel al,by rw [hX,hgp];exact Bl.new _ _ [_,_]⟩
      have HP:Aside (∀ i,i<2→∃ g e c kk,X.cell? ⟨gp,i,none⟩=some (.pointer (some ⟨g,0,none⟩))∧Hm X g e c kk E S):=fun i hi=>by
       have:i=0∨i=1:=by omega
       rcases this with rfl|rfl
       · exact ⟨gA,eA,cA,kA,K3.out.2.cell 0 _ rfl,K3.out.1.1⟩
       · exact ⟨gB,eB,cB,kB,K3.out.2.cell 1 _ rfl,K3.out.1.2.1⟩
      have HWW:=(qsd (ai hX hgp));clear hX hgp K2
      go_upto_region 35 with fail
      rw [←HWW.out.1,←HWW.out.2];clear HWW;go_wp2
      go_loopg [24] 2 (fun gk iv wr=>∃ i:Nat,gk+i=2∧iv=.int .i64 (i:Nat)∧Aside (Below X.heap.size X wr))
      case atStart=>exact ⟨0,by omega,by first | rfl | simp,Below.refl _ _⟩
      case round =>
       obtain ⟨i,hgi,rfl,HB⟩:=hrel
       by_cases hi:i<2
       · have hdi:decide ((i:Int)<2)=true:=by simp;omega
         have bi:(i:Int)<2:=by omega
         have bi0:(0:Int)≤(i:Int):=by omega
         obtain ⟨i1,hi1⟩:∃ x,x=i+1:=⟨_,rfl⟩;have wi:IntKind.i64.wrap ((i:Int)+1)=(i1:Int):=wrapY (by omega) (by omega)
         obtain ⟨g,e,c,kk,hcp,hmI⟩:=HP.out i hi;have hcp':=(HB.out.cell (p:=⟨gp,i,none⟩) K3.out.2.lt).trans hcp;have H0:=qsd (hmI.below HB.out);have HI1:=qsd hi1;have hpb:gp<X.heap.size:=K3.out.2.lt;clear hcp hmI hi1;have C:=hid (Counts17 H0.out)
         go_wp2_with fail
         refine C.out.mono ?_;rintro r v2 ⟨⟨vc,rfl,hO⟩,hb⟩;obtain ⟨gc,cc,rfl,g1',g2',g3'⟩:=ri_of17 (L:=S.C) (by have:=HS.out.2.2.2.2.1;have:=HMM.out;omega) hO
         have Bv2:=qsd (HB.out.trans (hb.mono HB.out.size));have H1:=qsd (H0.out.below hb);have hw2:=(K3.out.1.2.2.2.1.below Bv2.out K3.out.1.2.2.2.1.lt);have C':=hid (ints17 S.C gc gw cc m v2 (by have:=HS.out.2.2.2.2.1;have:=HMM.out;omega) g3' (fun i hi=>hw2.cell i hi))
         rw [HS.out.2.2.2.2.1] at C' ⊢;clear C hO hb g1' g2' g3' hw2 H0 hcp' hpb
         go_wp2_with fail
         refine C'.out.mono ?_;rintro r v3 ⟨rfl,hb⟩;have Bv3:=qsd (Bv2.out.trans (hb.mono Bv2.out.size));have H2:=qsd (H1.out.below hb);clear C' hb H1 Bv2;have C:=hid (Outside17 H2.out);rw [←HS.out.1,←HS.out.2.1,←HS.out.2.2.1] at C
         go_wp2_with fail
         refine C.out.mono ?_;rintro r v4 ⟨rfl,hb⟩;have Bv4:=qsd (Bv3.out.trans (hb.mono Bv3.out.size));have H3:=qsd (H2.out.below hb);clear C hb H2 Bv3;have C:=hid (Running17 H3.out);rw [←HI.out.1,←HS.out.1] at C
         go_wp2_with fail
         refine C.out.mono ?_;rintro r v5 ⟨⟨gr,rfl,hgr,hO⟩,hb⟩;have Bv5:=qsd (Bv4.out.trans (hb.mono Bv4.out.size));have H4:=qsd (H3.out.below hb);have HR:=qsd hO;clear C hb H3 Bv4 hO hgr;have C:=hid (All17 H4.out);rw [HS.out.2.2.2.1] at C;have q0:=HR.out.cell 0 (by rw [runL_len];omega)
         rw [runL_get (by omega),List.take_zero] at q0
         have q1:=HR.out.cell m (by rw [runL_len,HS.out.2.2.2.2.1];omega)
         rw [runL_get (by rw [HS.out.2.2.2.2.1];omega),List.take_of_length_le (by rw [HS.out.2.2.2.2.1];omega)] at q1
         rw [show sb+List.sum ([]:List Nat)=sb from rfl] at q0
         have hsum:=HS.out.2.2.2.2.2;obtain ⟨t1,ht1⟩:∃ z,z=k-sa:=⟨_,rfl⟩;have wt1:IntKind.i64.wrap ((k:Int)-(sa:Int))=(t1:Int):=wrapY (by omega) (by omega)
         obtain ⟨t2,ht2⟩:∃ z,z=sb+S.C.sum:=⟨_,rfl⟩;have wt2:IntKind.i64.wrap ((t1:Int)-(so:Int))=(t2:Int):=wrapY (by omega) (by omega)
         rw [←ht2] at q1;have wm':IntKind.i64.wrap ((n1:Int)-1)=(m:Int):=wrapY (by have:=HMM.out;omega) (by have:=HMM.out;omega)
         have bm:(m:Int)<(n1:Int):=by have:=HMM.out;omega
         have bm0:(0:Int)≤(m:Int):=by omega
         have bn0:(0:Int)<(n1:Int):=by omega
         have dd1:((sb:Int) != (sb:Int))=false:=by simp
         have dd2:((sa:Int) != (sa:Int))=false:=by simp
         have dd3:((so:Int) != (so:Int))=false:=by simp
         have dd4:((k:Int) != (k:Int))=false:=by simp
         have dd5:((n1:Int) != (n1:Int))=false:=by simp
         have dd6:((t2:Int) != (t2:Int))=false:=by simp
         clear hsum ht1 ht2
         go_wp2_with fail
         refine C.out.mono ?_;rintro r v6 ⟨rfl,hu⟩;rw [hu];clear hu C v6;go_wp2;clear q0 q1 wt1 wt2 dd1 dd2 dd3 dd4 dd6 H4
         go_loopg [31] m (fun gk jv wr=>∃ j:Nat,gk+j=n1∧1≤j∧jv=.int .i64 (j:Nat)∧Aside (∃ q,wr=v5.drewN q))
         case atStart=>exact ⟨1,by have:=HMM.out;omega,by omega,by first | rfl | simp,0,rfl⟩
         case round =>
          obtain ⟨j,hgj,hj0,rfl,HQ⟩:=hrel
          by_cases hj:j<n1
          · have hdj:decide ((j:Int)<(n1:Int))=true:=by simp;omega
            obtain ⟨j1,hj1⟩:∃ x,x=j+1:=⟨_,rfl⟩;have wj1:IntKind.i64.wrap ((j:Int)+1)=(j1:Int):=wrapY (by omega) (by omega)
            obtain ⟨j0,hj00⟩:∃ x,j=x+1:=⟨j-1,by omega⟩
            have wj0:IntKind.i64.wrap ((j:Int)-1)=(j0:Int):=wrapY (by omega) (by omega)
            have bj:(j:Int)<(n1:Int):=by omega
            have bj0:(0:Int)≤(j:Int):=by omega
            have bj1:(j0:Int)<(n1:Int):=by omega
            have bj2:(j0:Int)<(m:Int):=by have:=HMM.out;omega
            have bj3:(0:Int)≤(j0:Int):=by omega
            have hC0:j0<S.C.length:=by rw [HS.out.2.2.2.2.1];have:=HMM.out;omega
            have x1:wr.cell? ⟨gr,j,none⟩=some (.int .i64 ((sb+(S.C.take j0).sum+S.C.getD j0 0:Nat):Int)):=by
             obtain ⟨q,rfl⟩:=HQ.out;have:=HR.out.cell j (by rw [runL_len];omega)
             rw [runL_get (by omega),hj00,take_sum17 hC0,←Nat.add_assoc,←hj00] at this
             exact this
            have x2:wr.cell? ⟨gr,j0,none⟩=some (.int .i64 ((sb+(S.C.take j0).sum:Nat):Int)):=by
             obtain ⟨q,rfl⟩:=HQ.out;have:=HR.out.cell j0 (by rw [runL_len];omega)
             rw [runL_get (by omega)] at this
             exact this
            have x3:wr.cell? ⟨gw,j0,none⟩=some (.int .i64 ((S.C.getD j0 0:Nat):Int)):=by
             obtain ⟨q,rfl⟩:=HQ.out;exact (K3.out.1.2.2.2.1.below Bv5.out K3.out.1.2.2.2.1.lt).cell j0 hC0
            have hb1:=get_le_sum17 S.C j0;have hb2:=take_le17 S.C j0;have hsum:=HS.out.2.2.2.2.2;obtain ⟨p,hp⟩:∃ z,z=S.C.getD j0 0:=⟨_,rfl⟩;obtain ⟨q,hq⟩:∃ z,z=sb+(S.C.take j0).sum:=⟨_,rfl⟩;rw [←hp] at x1 x3 hb1;rw [←hq] at x1 x2;obtain ⟨pq,hpq⟩:∃ z,z=q+p:=⟨_,rfl⟩;rw [←hpq] at x1;have wpq:IntKind.i64.wrap ((pq:Int)-(q:Int))=(p:Int):=wrapY (by omega) (by omega)
            have dp:((p:Int) != (p:Int))=false:=by simp
            have HJ1:=qsd hj1
            have HN:Aside (∀ z,∃ q,wr.drewN z=v5.drewN q):=fun z=>by
             obtain ⟨q,e⟩:=HQ.out;exact ⟨q+z,by rw [e];exact drewN_drewN17 v5 q z⟩
            clear hb1 hb2 hsum hp hq hpq hj1 hj00 hC0 HQ
            go_wp2_with fail
            go_quiet (fail)
            go_wp2
            go_roundg (n1-j1)
            case measure=>have:=HJ1.out;omega
            case rel=>exact ⟨j1,by have:=HJ1.out;omega,by have:=HJ1.out;omega,by first | rfl | simp,HN.out _⟩
          · obtain rfl:j=n1:=by omega
            have hdj:decide ((j:Int)<(j:Int))=false:=by simp
            have HN:Aside (Below X.heap.size X wr):=by
             obtain ⟨q,e⟩:=HQ.out;rw [e];exact below_drewN17 Bv5.out _
            clear HQ;go_wp2
            go_roundg (2-i1)
            case measure=>have:=HI1.out;omega
            case rel=>exact ⟨i1,by have:=HI1.out;omega,by first | rfl | simp,HN.out⟩
       · obtain rfl:i=2:=by omega
         have hdi:decide (((2:Nat):Int)<2)=false:=by simp
         have HZ:=qsd (K3.out.1.2.2.2.2.trans (HB.out.mono K3.out.1.2.2.2.2.size));clear HB K3 HP;go_wp2;refine bodyPost_ret (v:=.bool true) (by simp [results,Tryz.results6,go_sem]) rfl ?_
         exact ⟨rfl,HZ.out⟩
 · have CN:=hid (fun (u:World) (hu:Below w.heap.size w u)=>NewNo17 E a1 n1 c1 u (HF.out u hu) HI.out.1 (by omega) HI.out.2.1 hE)
   have C:=hid (CN.out u1 B1.out)
   go_wp2_with fail
   refine C.out.mono ?_;rintro r u2 ⟨rfl,hb⟩;have B2:=qsd (B1.out.trans (hb.mono B1.out.size));clear hb C;have C:=hid (CN.out u2 B2.out)
   go_wp2_with fail
   refine C.out.mono ?_;rintro r u3 ⟨rfl,hb⟩;have B3:=qsd (B2.out.trans (hb.mono B2.out.size));clear hb C;have C:=hid (CN.out u3 B3.out)
   go_wp2_with fail
   refine C.out.mono ?_;rintro r u4 ⟨rfl,hb⟩;have B4:=qsd (B3.out.trans (hb.mono B3.out.size));clear hb C CN;have C:=hid (May17 E a1 n1 c1 u4 (HF.out u4 B4.out) HI.out.1 (by omega) HI.out.2.1)
   go_wp2_with fail
   refine C.out.mono ?_;rintro r u5 ⟨⟨b,rfl,hbe⟩,hb⟩
   obtain rfl:b=false:=by
    cases b
    · rfl
    · exact absurd (hbe.1 rfl) hE
   have B5:=qsd (B4.out.trans (hb.mono B4.out.size));clear hb C hbe hE HI HF;go_wp2;go_ret;exact ⟨rfl,B5.out⟩
end
end Go.Proofs.YtgfemeencgjneaaGreatDoor
