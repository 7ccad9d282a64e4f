import Derived.Test.YtfmfhehbdfhnbaaGreatDoorMO11x
import Derived.Test.YtfmfhehbdfhnbaaGreatDoorMO7ox
import Derived.Test.YtfmfhehbdfhnbaaGreatDoorZ41x
import Derived.Test.YtfmfhehbdfhnbaaGreatDoorW17x
import Derived.Test.YtfmfhehbdfhnbaaGreatDoorW40x
import Derived.BigQuiet
import Derived.Test.YtfmfhehbdfhnbaaGreatDoorMO2x
import Derived.Deep.LoopGhost
import Derived.Deep.RegionHeld3
set_option linter.unusedVariables false
set_option linter.unusedSimpArgs false
set_option maxHeartbeats 16000000
set_option maxRecDepth 20000
namespace Go.Proofs.YtfmfhehbdfhnbaaGreatDoor
namespace J
end J
section
open Go Go.RowKit J
theorem V8 (w:World) (n less mode:Int) (ns np:Bool) (as' ap:Option Addr) (ls cs lp cp:Nat) (es ep:Int) (oI o1 o2 o3 oD:Option (Bool×Nat×Int)) (e1 e2 e3:Int) (X:Nat) (E:Int)
 (HI:Hid (∀ u:World,Below w.heap.size w u->Calls Tryz.prog 22 #[.int .i64 n] u fun r w'=>bC 0 w' r oI/\Below u.heap.size u w'))
 (nO:Hid (∀ (u:World) (a:Option Addr) (c:Nat),Below w.heap.size w u->Nt 0 u (.slice a (ws (dX oI)).length c) (dX oI)->Calls Tryz.prog 31 #[.agg #[.bool (dN oI),.slice a (ws (dX oI)).length c,.int .i64 (dE oI)],.agg #[.bool np,.slice ap lp cp,.int .i64 ep]] u fun r w'=>iA w' r o1 e1/\Below u.heap.size u w'))
 (uD:Hid (∀ u:World,Below w.heap.size w u->Calls Tryz.prog 31 #[.agg #[.bool ns,.slice as' ls cs,.int .i64 es],.agg #[.bool ns,.slice as' ls cs,.int .i64 es]] u fun r w'=>iA w' r o2 e2/\Below u.heap.size u w'))
 (HS:Hid (∀ (u:World) (a b:Option Addr) (c d:Nat),Below w.heap.size w u->Nt 0 u (.slice a (ws (dX o1)).length c) (dX o1)->Nt 0 u (.slice b (ws (dX o2)).length d) (dX o2)->Calls Tryz.prog 32 #[.agg #[.bool (dN o1),.slice a (ws (dX o1)).length c,.int .i64 (dE o1)],.agg #[.bool (dN o2),.slice b (ws (dX o2)).length d,.int .i64 (dE o2)]] u fun r w'=>iA w' r o3 e3/\Below u.heap.size u w')) (hm:pE mode=true) (hs:lsB less=true) (h1:1<=n) (h2:n<=1099511627776) (x1:e1=0) (x2:e2=0) (x3:e3=0) (x4:¬ n<=less)
 (BY:Hid (∀ (u:World) (a:Option Addr) (c:Nat),Below w.heap.size w u->Nt 0 u (.slice a (ws (dX o3)).length c) (dX o3)->Calls Tryz.prog 34 #[.agg #[.bool (dN o3),.slice a (ws (dX o3)).length c,.int .i64 (dE o3)],.int .i64 n,.int .i64 less] u fun r w'=>(∃ (a b:Option Addr) (c d:Nat),r=.returned (.agg #[.bool (dN o3),.slice a (ws (dX o3)).length c,.int .i64 (dE o3),.bool (dN oD),.slice b (ws (dX oD)).length d,.int .i64 (dE oD)])/\Nt 0 w' (.slice a (ws (dX o3)).length c) (dX o3)/\Nt 0 w' (.slice b (ws (dX oD)).length d) (dX oD))/\Below u.heap.size u w'))
 (HQ:Hid (∀ (u:World) (a b:Option Addr) (c d:Nat),Nt 0 u (.slice a (ws (dX o3)).length c) (dX o3)->Nt 0 u (.slice b (ws (dX oD)).length d) (dX oD)->Calls Tryz.prog 33 #[.agg #[.bool (dN o3),.slice a (ws (dX o3)).length c,.int .i64 (dE o3),.bool (dN oD),.slice b (ws (dX oD)).length d,.int .i64 (dE oD)],.int .i64 mode] u fun r w'=>r=.returned (.tuple #[.float .f64 X,.int .i64 E])/\Below u.heap.size u w')) :
 Calls Tryz.prog 9 #[.int .i64 n,.agg #[.bool ns,.slice as' ls cs,.int .i64 es],.agg #[.bool np,.slice ap lp cp,.int .i64 ep],.int .i64 less,.int .i64 mode] w fun r w'=>r=.returned (.tuple #[.float .f64 X,.int .i64 E])/\Below w.heap.size w w':=by
 have H0:=ak (jd.new w ns np as' ap ls cs lp cp es ep);obtain ⟨W,hW⟩:=ah ((w.alloc (Obj.cells #[.bool ns,.slice as' ls cs,.int .i64 es] 25)).alloc (Obj.cells #[.bool np,.slice ap lp cp,.int .i64 ep] 25));rw [<-hW] at H0;have HW:=ak hW;clear hW;have C:=hid (o5 mode W);have D:=hid (tL less W);rw [hm] at C;rw [hs] at D;have d1:decide (n<1)=false:=decide_eq_false af;have d2:decide (1099511627776<n)=false:=decide_eq_false af;clear hm hs h1 h2;subst x1;subst x2;subst x3;have d4:decide (n<=less)=false:=decide_eq_false x4;clear x4;go_enter Tryz.func9,Tryz.ntmps9
 go_upto_region 1 with fail
 rw [<-HW.o];clear HW;go_wp2_with fail;refine C.o.mono ?_;rintro r v ⟨rfl,hv⟩;rw [hv];clear hv v C;go_wp2_with fail;refine D.o.mono ?_;rintro r v ⟨rfl,hv⟩;rw [hv];clear hv v D
 go_upto_region 5 with fail
 clear d1 d2
 go_cut [14,15] from 38 to 44 (fun q e wx=>∃ gq:Nat,q=.pointer (some ⟨gq,0,none⟩)/\e=.int .i64 0/\Aside (Lo wx gq o1/\jd w wx ns np as' ap ls cs lp cp es ep/\w.heap.size+1<gq))
 case first =>
  have hdr:=(aD W.heap.size W).drew;have BB:=ak (H0.o.below hdr);have BZ:=aJ (H0.o.below (jU W)) (jV W);have k0:=BB.o.p.facts;have kS:=aZ k0.1 k0.2.1 k0.2.2.1;have h3l:=H0.o.p.lt;clear hdr k0
  go_region_held3 (fun w'=>w'.cell? ⟨w.heap.size+1,0,none⟩=some (.bool np)/\w'.cell? ⟨w.heap.size+1,1,none⟩=some (.slice ap lp cp)/\w'.cell? ⟨w.heap.size+1,2,none⟩=some (.int .i64 ep)) (first | with_reducible exact kS.o | with_reducible exact ⟨BZ.o.1.p.facts.1,BZ.o.1.p.facts.2.1,BZ.o.1.p.facts.2.2.1⟩ | with_reducible exact ⟨kZ.o.facts.1,kZ.o.facts.2.1,kZ.o.facts.2.2.1⟩ | with_reducible exact kT.o | with_reducible exact ⟨kM.o.facts.1,kM.o.facts.2.1,kM.o.facts.2.2.1⟩ | with_reducible exact ⟨kN.o.facts.1,kN.o.facts.2.1,kN.o.facts.2.2.1⟩) (first
   | (go_at_call 22
      with_reducible refine (HI.o _ BB.o.b).mono ?_
      rintro r u1 ⟨hd,hb⟩;obtain ⟨a3,c3,rfl,dF⟩:=hd.aG;have BC:=aJ (BB.o.below hb) dF;have kS:=aZ BC.o.1.p.facts.1 BC.o.1.p.facts.2.1 BC.o.1.p.facts.2.2.1;have kZ:=ak (BC.o.1.p.below (ae u1 (Obj.cells #[.bool false,.slice none 0 0,.int .i64 0] 25)));have xh:=BC.o.1.p.lt
      clear hb hd dF)
   | (go_at_call 22
      with_reducible refine (HI.o _ BZ.o.1.b).mono ?_
      rintro r u1 ⟨hd,hb⟩;obtain ⟨a3,c3,rfl,dF⟩:=hd.aG;have BC:=aJ (BZ.o.1.below hb) dF;have ZB:=ak (BZ.o.2.below hb);have kS:=aZ BC.o.1.p.facts.1 BC.o.1.p.facts.2.1 BC.o.1.p.facts.2.2.1
      clear hb hd dF)
   | (go_at_call 31
      with_reducible refine (nO.o _ a3 c3 BC.o.1.b BC.o.2).mono ?_
      rintro r u2 ⟨hd,hb⟩;obtain ⟨a4,c4,rfl,fw⟩:=hd.aG;have BE:=aJ (BC.o.1.below hb) fw;have kS:=aZ BE.o.1.p.facts.1 BE.o.1.p.facts.2.1 BE.o.1.p.facts.2.2.1;have kZ:=ak (BE.o.1.p.below (ae u2 (Obj.cells #[.bool false,.slice none 0 0,.int .i64 0] 25)));have kM:=ak (BE.o.1.p.below (ae u2 (Obj.cells #[.bool (dN o1),.slice a4 (ws (dX o1)).length c4,.int .i64 (dE o1)] 25)));have kN:=ak ((BE.o.1.p.below (ae u2 (Obj.cells #[.bool false,.slice none 0 0,.int .i64 0] 25))).other u2.heap.size (by have:=BE.o.1.p.lt;omega) (.bool (dN o1)) (.slice a4 (ws (dX o1)).length c4) (.int .i64 (dE o1)))
      try have ZB:=ak (ZB.o.below hb)
      try have kT:=ak (show _ from (ai (BE.o.1.p.other _ (show w.heap.size+1≠W.heap.size by omega) (.bool (dN o1)) (.slice a4 (ws (dX o1)).length c4) (.int .i64 (dE o1))).facts.1 (ai (BE.o.1.p.other _ (show w.heap.size+1≠W.heap.size by omega) (.bool (dN o1)) (.slice a4 (ws (dX o1)).length c4) (.int .i64 (dE o1))).facts.2.1 (BE.o.1.p.other _ (show w.heap.size+1≠W.heap.size by omega) (.bool (dN o1)) (.slice a4 (ws (dX o1)).length c4) (.int .i64 (dE o1))).facts.2.2.1)))
      try (obtain ⟨zp,zq,DZ,MZ⟩:=ZB.o;obtain ⟨z0,z1,z2,eF,eG,eO⟩:=DZ.facts;clear DZ MZ)
      clear hb hd fw)
   | (go_at_call 31
      with_reducible refine (nO.o _ a3 c3 (BC.o.1.below (ae u1 (Obj.cells #[.bool false,.slice none 0 0,.int .i64 0] 25))).b (BC.o.2.below (ae u1 (Obj.cells #[.bool false,.slice none 0 0,.int .i64 0] 25)))).mono ?_
      rintro r u2 ⟨hd,hb⟩;obtain ⟨a4,c4,rfl,fw⟩:=hd.aG;have BE:=aJ ((BC.o.1.below (ae u1 (Obj.cells #[.bool false,.slice none 0 0,.int .i64 0] 25))).below hb) fw;have ZC:=ak ((Lo.zero u1).below hb);have kS:=aZ BE.o.1.p.facts.1 BE.o.1.p.facts.2.1 BE.o.1.p.facts.2.2.1;have kT:=aZ (BE.o.1.p.other _ (show w.heap.size+1≠u1.heap.size by omega) (.bool (dN o1)) (.slice a4 (ws (dX o1)).length c4) (.int .i64 (dE o1))).facts.1 (BE.o.1.p.other _ (show w.heap.size+1≠u1.heap.size by omega) (.bool (dN o1)) (.slice a4 (ws (dX o1)).length c4) (.int .i64 (dE o1))).facts.2.1 (BE.o.1.p.other _ (show w.heap.size+1≠u1.heap.size by omega) (.bool (dN o1)) (.slice a4 (ws (dX o1)).length c4) (.int .i64 (dE o1))).facts.2.2.1;obtain ⟨zp,zq,DZ,MZ⟩:=ZC.o;obtain ⟨z0,z1,z2,eF,eG,eO⟩:=DZ.facts
      clear hb hd fw DZ MZ))
  all_goals
   go_wp2_with fail
   go_meet
   case rel =>
    first
     | exact ⟨u2.heap.size,rfl,rfl,Lo.new BE.o.2,BE.o.1.below (ae _ _),BE.o.1.p.lt⟩
     | exact ⟨u2.heap.size,rfl,rfl,(Lo.zero u2).set (BE.o.2.below (ae _ _)),(BE.o.1.below (ae _ _)).other (Lo.zero u2) BE.o.1.p.lt _ _ _,BE.o.1.p.lt⟩
     | exact ⟨W.heap.size,rfl,rfl,ZB.o.set BE.o.2,BE.o.1.other ZB.o h3l _ _ _,h3l⟩
     | exact ⟨u1.heap.size,rfl,rfl,ZC.o.set BE.o.2,BE.o.1.other ZC.o xh _ _ _,xh⟩
 obtain ⟨gq,rfl,rfl,K1⟩:=hcut;obtain ⟨U,hU⟩:=ah wc;rw [<-hU] at K1 |-;clear hU H0;obtain ⟨x0,x1,x2,bE,bF,bG⟩:=K1.o.2.1.s.facts;have C:=hid (uD.o U K1.o.2.1.b);go_wp2_with fail;refine C.o.mono ?_;rintro r u3 ⟨hd,hb⟩;obtain ⟨a5,c5,rfl,nM⟩:=hd.aG;obtain ⟨V,hV⟩:=ah (u3.alloc (Obj.cells #[.bool (dN o2),.slice a5 (ws (dX o2)).length c5,.int .i64 (dE o2)] 25));obtain ⟨gr,hgr⟩:=ah (u3.heap.size)
 have K2:Aside (Lo V gq o1/\jd w V ns np as' ap ls cs lp cp es ep/\Lo V gr o2):=by
  rw [hV,hgr];exact ⟨(K1.o.1.below hb).below (ae _ _),(K1.o.2.1.below hb).below (ae _ _),Lo.new nM⟩
 have HV:=(aJ hV hgr);clear hV hgr hb hd nM C x0 x1 x2 bE bF bG K1
 go_upto_region 7 with fail
 rw [<-HV.o.1,<-HV.o.2];clear HV
 go_upto_region 9 with fail
 obtain ⟨p1,q1,D1,M1⟩:=K2.o.1;obtain ⟨p2,q2,D2,M2⟩:=K2.o.r2;obtain ⟨x0,x1,x2,bE,bF,bG⟩:=D1.facts;obtain ⟨y0,y1,y2,bN,bO,bU⟩:=D2.facts;have C:=hid (HS.o V p1 p2 q1 q2 K2.o.2.1.b M1 M2);clear D1 D2 M1 M2;go_wp2_with fail;refine C.o.mono ?_;rintro r u4 ⟨hd,hb⟩;obtain ⟨a6,c6,rfl,qP⟩:=hd.aG;obtain ⟨Y,hV⟩:=ah (u4.alloc (Obj.cells #[.bool (dN o3),.slice a6 (ws (dX o3)).length c6,.int .i64 (dE o3)] 25));obtain ⟨gv,hgr⟩:=ah (u4.heap.size)
 have K3:Aside (Below w.heap.size w Y/\Lo Y gv o3):=by
  rw [hV,hgr];exact ⟨((K2.o.2.1.below hb).below (ae _ _)).b,Lo.new qP⟩
 have HV:=(aJ hV hgr);clear hV hgr hb hd qP C x0 x1 x2 bE bF bG y0 y1 y2 bN bO bU K2
 go_upto_region 10 with fail
 rw [<-HV.o.1,<-HV.o.2];clear HV
 go_upto_region 14 with fail
 obtain ⟨p1,q1,D1,M1⟩:=K3.o.2;obtain ⟨x0,x1,x2,bE,bF,bG⟩:=D1.facts;have C:=hid (BY.o Y p1 q1 K3.o.1 M1);clear D1 M1;go_wp2_with fail;refine C.o.mono ?_;rintro r u5 ⟨⟨ar,br,cr,dr,rfl,n1,n2⟩,hb⟩;have C2:=hid (HQ.o u5 ar br cr dr n1 n2);have K4:=ak (K3.o.1.trans (hb.mono K3.o.1.size));clear hb n1 n2 C x0 x1 x2 bE bF bG K3;go_wp2_with fail;refine C2.o.mono ?_;rintro r u6 ⟨rfl,hb⟩;have K5:=ak (K4.o.trans (hb.mono K4.o.size));clear hb C2 K4;go_wp2;exact aF (v:=.tuple #[.float .f64 X,.int .i64 E]) (by simp [results,Tryz.results9,go_sem]) rfl ⟨rfl,K5.o⟩
theorem Yt {w:World}{as' ap:Option Addr}{ls cs lp cp:Nat}{xs ys:List Nat}(n:Int) (ns np:Bool) (es ep less mode:Int) (h1:Arg w as' ls cs xs) (h2:Arg w ap lp cp ys) (l1:ls<=2000000) (l2:lp<=2000000) (hn:-9223372036854775808<=n/\n<=9223372036854775807) (b1:-9223372036854775808<=es/\es<=9223372036854775807) (b2:-9223372036854775808<=ep/\ep<=9223372036854775807)
 (z:Nat×Int) (hz:rO n (rD (dK (gV 0 n) (mkS np (val ys) ep)) (dK (mkS ns (val xs) es) (mkS ns (val xs) es))) less mode=z) :
 Calls Tryz.prog 9 #[.int .i64 n,.agg #[.bool ns,.slice as' ls cs,.int .i64 es],.agg #[.bool np,.slice ap lp cp,.int .i64 ep],.int .i64 less,.int .i64 mode] w fun r w'=>r=.returned (.tuple #[.float .f64 z.1,.int .i64 z.2])/\Below w.heap.size w w':=by
 subst hz;unfold rO
 cases hb:(pE mode&&lsB less&&(decide (1<=n)&&decide (n<=1099511627776))) with
 | false=>exact Sw w n less mode ns np as' ap ls cs lp cp es ep hb
 | true =>
   have hb':=hb;rw [nT,nT,nT,decide_eq_true_eq,decide_eq_true_eq] at hb';obtain ⟨⟨hm,hs⟩,g1,g2⟩:=hb';rw [if_pos rfl];have Fi:Fm (gV 0 n):=dB (m:=63) au au (show Bd 63 n by unfold Bd;omega);have HI:=hid (fun (u:World) (_:Below w.heap.size w u)=>xe n u hn.1 hn.2)
   have nO:∀ (u:World) (a:Option Addr) (c:Nat),Below w.heap.size w u->Nt 0 u (.slice a (ws (dX (gV 0 n))).length c) (dX (gV 0 n))->Calls Tryz.prog 31 #[.agg #[.bool (dN (gV 0 n)),.slice a (ws (dX (gV 0 n))).length c,.int .i64 (dE (gV 0 n))],.agg #[.bool np,.slice ap lp cp,.int .i64 ep]] u fun r w'=>iA w' r (dK (gV 0 n) (mkS np (val ys) ep)) (l9 (dK (gV 0 n) (mkS np (val ys) ep)))/\Below u.heap.size u w':=fun u a c hu hN=>by
    have:=sV (Fi.a12 hN) (h2.below hu) (by have:=Fi.len;omega) l2 (dN (gV 0 n)) np (dE (gV 0 n)) ep Fi.p9.1 Fi.p9.2 b2.1 b2.2;rw [aj,Fi.re] at this;exact this.mono fun r w' h=>⟨h.1.KA,h.2⟩
   have uD:∀ u:World,Below w.heap.size w u->Calls Tryz.prog 31 #[.agg #[.bool ns,.slice as' ls cs,.int .i64 es],.agg #[.bool ns,.slice as' ls cs,.int .i64 es]] u fun r w'=>iA w' r (dK (mkS ns (val xs) es) (mkS ns (val xs) es)) (l9 (dK (mkS ns (val xs) es) (mkS ns (val xs) es)))/\Below u.heap.size u w':=fun u hu =>
    (sV (h1.below hu) (h1.below hu) l1 l1 ns ns es es b1.1 b1.2 b1.1 b1.2).mono fun r w' h=>⟨h.1.KA,h.2⟩
   have R1:=rF (o:=gV 0 n) (p:=mkS np (val ys) ep);have R2:=rF (o:=mkS ns (val xs) es) (p:=mkS ns (val xs) es);generalize dK (gV 0 n) (mkS np (val ys) ep)=o1 at *;generalize dK (mkS ns (val xs) es) (mkS ns (val xs) es)=o2 at *;unfold rD
   cases q1:o1.isSome with
   | false =>
     rw [mK q1] at nO;exact Sy w n less mode ns np as' ap ls cs lp cp es ep (gV 0 n) o1 o2 2 (l9 o2) HI (hid nO) (hid uD) hm hs g1 g2 au
   | true =>
     rw [mJ q1] at nO
     cases q2:o2.isSome with
     | false =>
       rw [mK q2] at uD;exact Sz w n less mode ns np as' ap ls cs lp cp es ep (gV 0 n) o1 o2 0 2 HI (hid nO) (hid uD) hm hs g1 g2 rfl au
     | true =>
       rw [mJ q2] at uD;rw [yj,if_pos rfl]
       have HS:∀ (u:World) (a b:Option Addr) (c d:Nat),Below w.heap.size w u->Nt 0 u (.slice a (ws (dX o1)).length c) (dX o1)->Nt 0 u (.slice b (ws (dX o2)).length d) (dX o2)->Calls Tryz.prog 32 #[.agg #[.bool (dN o1),.slice a (ws (dX o1)).length c,.int .i64 (dE o1)],.agg #[.bool (dN o2),.slice b (ws (dX o2)).length d,.int .i64 (dE o2)]] u fun r w'=>iA w' r (iF o1 (mkS (!dN o2) (dX o2) (dE o2))) (l9 (iF o1 (mkS (!dN o2) (dX o2) (dE o2))))/\Below u.heap.size u w':=fun u a b c d hu n1 n2=>by
        obtain ⟨k1,r1,r1'⟩:=ky q1 (R1 q1);obtain ⟨k2,r2,r2'⟩:=ky q2 (R2 q2);have:=J4 (n1.aU af).2 (n2.aU af).2 af af (dN o1) (dN o2) (dE o1) (dE o2) r1 r1' r2 r2';rw [aj,aj,R1 q1] at this;exact this.mono fun r w' h=>⟨h.1.KA,h.2⟩
       have R3:=Ib (o1:=o1) (o2:=o2) (R1 q1);generalize iF o1 (mkS (!dN o2) (dX o2) (dE o2))=o3 at *
       cases q3:o3.isSome with
       | false =>
         rw [mK q3] at HS;exact SA w n less mode ns np as' ap ls cs lp cp es ep (gV 0 n) o1 o2 o3 0 0 2 HI (hid nO) (hid uD) (hid HS) hm hs g1 g2 rfl rfl au
       | true =>
         rw [mJ q3] at HS;rw [if_pos rfl]
         by_cases hl:n<=less
         · rw [if_pos hl];exact SC w n less mode ns np as' ap ls cs lp cp es ep (gV 0 n) o1 o2 o3 0 0 0 HI (hid nO) (hid uD) (hid HS) hm hs g1 g2 rfl rfl rfl hl
         · rw [if_neg hl];obtain ⟨k3,r3,r3'⟩:=ky q3 (R3 q3);have hls:0<=less/\less<=1:=by rcases Dh hs with rfl | rfl <;> decide
           obtain ⟨N,rfl⟩:∃ N:Nat,n=N:=⟨n.toNat,af⟩;have qP:N<=1099511627776:=af
           have FD:Fm (gV 0 ((N:Int)*((N:Int)-less))):=dB au au (Ic qP hls.1 hls.2);refine V8 w N less mode ns np as' ap ls cs lp cp es ep (gV 0 (N:Int)) o1 o2 o3 (gV 0 ((N:Int)*((N:Int)-less))) 0 0 0 _ _ HI (hid nO) (hid uD) (hid HS) hm hs g1 g2 rfl rfl rfl hl (hid fun u a c hu hN=>?_) (hid fun u a b c d n1 n2=>?_)
           · exact (Yq o3 a c N less u qP hls.1 hls.2 hN).mono fun r w' h=>by
              obtain ⟨⟨b,d,e1,e2,e3⟩,e4⟩:=h;exact ⟨⟨a,b,c,d,e1,e2,e3⟩,e4⟩
           · have A1:Al u (.slice a (ws (dX o3)).length c) (dX o3):=⟨_,_,_,_,rfl,(n1.aU af).2,aj _,af⟩;exact Sq (w:=u) (n:=dN o3) (m:=dN (gV 0 ((N:Int)*((N:Int)-less)))) (X:=dX o3) (Y:=dX (gV 0 ((N:Int)*((N:Int)-less)))) (e:=dE o3) (f:=dE (gV 0 ((N:Int)*((N:Int)-less)))) mode A1 (n2.al14 FD) ⟨r3,r3'⟩ FD.p9
end
section
open Go.RowKit
theorem FO (xs:List Nat) (n:Nat) (hn:n=xs.length):xs++(List.replicate (n+2) 0).drop n=xs++[0,0]:=by
 rw [AZ,show n+2-n=2 by omega];rfl
theorem FU (xs:List Nat) (n:Nat) (hn:n=xs.length):((xs++[0,0]).set n 71).set (n+1) 72=xs++[71,72]:=by
 subst hn;simp
theorem OZ (xs:List Nat) (ao:Option Addr) (n cap B:Nat) (w:World) (hn:n=xs.length) (hc:n<=cap) (hm:n<=35184372087808) (hR:Rd B w ao xs) (hB:B<=w.heap.size) :
 Calls Tryz.prog 6 #[.slice ao n cap] w fun r w'=>r=.returned (.slice (some ⟨w.heap.size,0,none⟩) n (n+2))/\Own w' w.heap.size (xs++[71,72])/\Below w.heap.size w w':=by
 have hmk:=dw ((n+2:Nat):Int) (n+2) rfl af;have hmk2:=dw ((n:Int)+2) (n+2) af af;have WK:Hid (Own (w.alloc (.cells (madeCells #[.int .u32 0] (n+2)) 51)) w.heap.size (List.replicate (n+2) 0)):=Own.made w (n+2);obtain ⟨w2,hcp,hO2,aH⟩:=iN _ w.heap.size (n+2) (n+2) ao n cap B 3 (List.replicate (n+2) 0) xs WK.o aO hn (hR.below ((aD _ _).alloc hB _)) af;rw [FO xs n hn] at hO2;have hg1:=hO2.frozen n;have hg2:=hO2.frozen (n+1);have hc1:=hO2.cell n (by simp;omega);have hc2:=hO2.cell (n+1) (by simp;omega);have HX:=(aZ hO2 aH hn);clear hO2 aH WK hn hR;go_enter Tryz.func6,Tryz.ntmps6;go_wp2;go_ret;obtain ⟨hO2,aH,hn⟩:=HX.o;refine ⟨rfl,?_,?_⟩
 · have h1:=(hO2.set n 71).set (n+1) 72;rw [FU xs n hn] at h1;exact h1
 · exact But.below ((aD _ _).alloc (aC _) _) ((aH.set _ _).set _ _) aO (aC _)
theorem xy (xs:List Nat) (ao:Option Addr) (n cap B g:Nat) (w:World) (hn:n=xs.length) (hc:n<=cap) (hm:n<=35184372087808) (hx:Wf xs) (hR:Rd B w ao xs) (hB:B<=g) (hO:Own w g (xs++[71,72])) :
 Calls Tryz.prog 8 #[.slice (some ⟨g,0,none⟩) n (n+2),.slice ao n cap] w fun r w'=>r=.returned (.bool true)/\But g w w':=by
 have hgl:=hO.lt;have hc1:=hO.cell n (by simp;omega);have hc2:=hO.cell (n+1) (by simp;omega);have e1:(xs++[71,72]).getD n 0=71:=by subst hn;simp
 have e2:(xs++[71,72]).getD (n+1) 0=72:=by subst hn;simp
 rw [e1] at hc1;rw [e2] at hc2;have HX:=(iI hR hO hn hB hgl hx);clear hR hO hn hB e1 e2 hgl hx;go_enter Tryz.func8,Tryz.ntmps8;go_wp2
 go_loopg [6,7] (n+2) (fun gk gv iv wr=>∃ (k:Nat) (M:List Nat),gk+k=n+2/\gv=.bool true/\iv=.int .i64 (k:Nat)/\Hid (Own wr g M) /\
  Aside (M.length=n+2/\(∀ j,k<=j->M.getD j 0=(xs++[71,72]).getD j 0)/\But g w wr))
 case atStart =>
  obtain ⟨hR,hO,hn,hB,hgl,hx⟩:=HX.o;exact ⟨0,xs++[71,72],af,rfl,rfl,hO,by simp;omega,fun _ _=>rfl,But.refl _ _⟩
 case round =>
  obtain ⟨k,M,hk,rfl,rfl,HM,HA⟩:=hrel
  by_cases hk2:k=n+2
  · obtain rfl:gk=0:=af
    subst hk2;go_wp2;go_ret;exact ⟨rfl,HA.o.r2⟩
  · obtain ⟨hl,hM,aH⟩:=HA.o;have hgc:=HM.o.cell k af;have hgf:=HM.o.frozen k;have hklt:k<n+2:=af
    by_cases hkn:k<n
    · obtain ⟨hR,hO,hn,hB,hgl,hx⟩:=HX.o;obtain ⟨b,off,hlt,rfl,hcell⟩:=(hR.but aH af hB) (by intro e;subst e;simp at hn;omega);have Va:=hcell k af
      have e3:M.getD k 0=xs.getD k 0:=by
       rw [hM k (aC _)];simp [eP,zl (show k<xs.length by omega)]
      rw [e3] at hgc;obtain ⟨x,hx1⟩:∃ x,xs.getD k 0=x:=⟨_,rfl⟩;rw [hx1] at hgc Va;have hd:decide ((n:Int)<=(k:Int))=false:=decide_eq_false af;clear hl hM aH hR hO hn hB hgl hcell e3 hx1 hx;go_wp2
      go_quiet (fail)
      go_wp2;go_roundg (gk-1)
      case measure=>omega
      case rel =>
       obtain ⟨hl,hM,aH⟩:=HA.o;refine ⟨k+1,M.set k 83,af,by first | rfl | simp,by first | go_num | (congr 1;omega),(HM.o.set k 83).drew,by simp [hl],fun j hj=>?_,((But.drewN aH _).set k _)⟩;rw [getD_set_ne _ _ _ _ af];exact hM j af
    · have hd:decide ((n:Int)<=(k:Int))=true:=decide_eq_true af;clear hl hM aH;go_wp2
      go_quiet (fail)
      go_wp2;go_roundg (gk-1)
      case measure=>omega
      case rel =>
       obtain ⟨hl,hM,aH⟩:=HA.o;refine ⟨k+1,M.set k 83,af,by first | rfl | simp,by first | go_num | (congr 1;omega),(HM.o.set k 83).drew,by simp [hl],fun j hj=>?_,((But.drewN aH _).set k _)⟩;rw [getD_set_ne _ _ _ _ af];exact hM j af
end
section
open Go Go.RowKit J
open Go.Proofs.YtfmfhehbdfhnbaaGreatDoor.B (cO aI)
attribute [local go_sem] cO aI
theorem FW (xs:List Nat) (a:Option Addr) (n c:Nat) (less mode pa pb:Int) (w:World) (hn:n=xs.length) (hF:Fs w.heap.size w a xs) (hW:nN xs) (hT:dJ w) (hl:n<=35184372088832) (z:Nat×Int) (hz:pG nA xs less mode pa pb=z) :
 Calls Tryz.prog 43 #[.slice a n c,.int .i64 less,.int .i64 mode,.agg #[.int .i64 pa,.int .i64 pb],.func (.func 44) #[] #[]] w fun r w'=>r=.returned (.tuple #[.float .f64 z.1,.int .i64 z.2])/\Below w.heap.size w w':=by
 obtain ⟨X,E⟩:=z;simp only;obtain ⟨W,mI⟩:=ah (w.alloc (Obj.cells #[.int .i64 pa,.int .i64 pb] 44))
 have B0:Aside (Bl W w.heap.size 44 [.int .i64 pa,.int .i64 pb]/\Below w.heap.size w W):=by
  rw [mI];exact ⟨Bl.new _ 44 [_,_],aK _ _⟩
 have kg:=ak mI;clear mI;unfold pG at hz
 cases hm:pE mode with
 | false =>
   rw [hm,nJ,if_neg au] at hz;obtain ⟨rfl,rfl⟩:=fu hz;clear hz hn hF hW hT;go_enter Tryz.func43,Tryz.ntmps43
   go_upto_region 1 with fail
   rw [<-kg.o];clear kg;have C:=hid (iH mode W);rw [hm] at C;go_wp2_with fail;refine C.o.mono ?_;rintro r v ⟨rfl,hv⟩;rw [hv];clear hv v C;go_wp2;exact aF (v:=.tuple #[.float .f64 0,.int .i64 1]) (by simp [results,Tryz.results43,go_sem]) rfl ⟨rfl,B0.o.2⟩
 | true =>
 cases hs:lsB less with
 | false =>
   rw [hm,hs,qJ,if_neg au] at hz;obtain ⟨rfl,rfl⟩:=fu hz;clear hz hn hF hW hT;go_enter Tryz.func43,Tryz.ntmps43
   go_upto_region 1 with fail
   rw [<-kg.o];clear kg;have C:=hid (iH mode W);rw [hm] at C;go_wp2_with fail;refine C.o.mono ?_;rintro r v ⟨rfl,hv⟩;rw [hv];clear hv v C;have C:=hid (mQ less W);rw [hs] at C;go_wp2_with fail;refine C.o.mono ?_;rintro r v ⟨rfl,hv⟩;rw [hv];clear hv v C;go_wp2;exact aF (v:=.tuple #[.float .f64 0,.int .i64 1]) (by simp [results,Tryz.results43,go_sem]) rfl ⟨rfl,B0.o.2⟩
 | true =>
   rw [hm,hs,qJ,if_pos rfl] at hz;have HS:=hid (OY xs a n c pa pb W hn hl ((hF.below B0.o.2).mono B0.o.2.size) hW);have HX:=iI hn hF hW hT (Hy hm) (Dh hs);have HZ:=ak hz;obtain ⟨es,hes⟩:∃ e,Ps.fG pa pb xs=e:=⟨_,rfl⟩;rw [hes] at HS;have qC:=ak hes;have p0:=B0.o.1.cell 0 _ rfl;have p1:=B0.o.1.cell 1 _ rfl;clear hz hn hF hW hT hl hes;go_enter Tryz.func43,Tryz.ntmps43
   go_upto_region 1 with fail
   rw [<-kg.o];clear kg;have C:=hid (iH mode W);rw [hm] at C;go_wp2_with fail;refine C.o.mono ?_;rintro r v ⟨rfl,hv⟩;rw [hv];clear hv v C;have C:=hid (mQ less W);rw [hs] at C;go_wp2_with fail;refine C.o.mono ?_;rintro r v ⟨rfl,hv⟩;rw [hv];clear hv v C;go_wp2_with fail;refine HS.o.mono ?_;rintro r v ⟨hr,hb⟩;have B1:=(aJ (B0.o.1.below hb B0.o.1.lt) (B0.o.2.trans (hb.mono B0.o.2.size)));clear hb HS p0 p1 B0;rcases hr with ⟨he,a',c',rfl⟩|⟨he,a',c',rfl,hF'⟩
   · have h1:(es==0)=false:=by simp [he]
     have hz:=HZ.o;rw [if_neg (by rw [qC.o];exact he),qC.o] at hz;obtain ⟨rfl,rfl⟩:=fu hz;have BE:Aside (Below w.heap.size w (v.alloc (Obj.cells #[.int .i64 0,.int .i64 0,.int .i64 0,.int .i64 0,.int .i64 0,.int .i64 0] 106))):=B1.o.2.trans ((aK _ _).mono B1.o.2.size);clear hz HZ qC B1 he;go_wp2;exact aF (v:=.tuple #[.float .f64 0,.int .i64 es]) (by simp [results,Tryz.results43,go_sem]) rfl ⟨rfl,BE.o⟩
   · subst he;have HV:=hid (fun u:World=>yV qC.o u);have hz:=HZ.o;rw [if_pos qC.o] at hz;obtain ⟨s5,hs5⟩:∃ s:Int,(Ps.cn 5 xs:Nat)=s:=⟨_,rfl⟩;obtain ⟨s3,hs3⟩:∃ s:Int,(Ps.cn 3 xs:Nat)=s:=⟨_,rfl⟩;obtain ⟨s4,hs4⟩:∃ s:Int,(Ps.cn 4 xs:Nat)=s:=⟨_,rfl⟩;obtain ⟨s1,hs1⟩:∃ s:Int,(Ps.cn 1 xs:Nat)=s:=⟨_,rfl⟩;obtain ⟨s2,hs2⟩:∃ s:Int,(Ps.cn 2 xs:Nat)=s:=⟨_,rfl⟩;obtain ⟨sl,hsl⟩:∃ s:Int,(xs.length:Nat)=s:=⟨_,rfl⟩;rw [hs5,hs3,hs4,hs1,hs2,hsl] at HV |-;clear hs5 hs3 hs4 hs1 hs2 hsl;obtain ⟨fl,hfl⟩:∃ f,Ps.fin xs=f:=⟨_,rfl⟩;rw [hfl] at hF' hz |-
     have PF:Aside (nN fl/\(∀ x ∈ fl,iY x)/\fl.length<=65536/\rA fl=0):=by
      rw [<-hfl];exact ⟨H8 HX.o.r2.1,tN HX.o.r2.1,tO qC.o,Dj HX.o.r2.1 qC.o⟩
     obtain ⟨m,xI⟩:∃ m,fl.length=m:=⟨_,rfl⟩;obtain ⟨U,hU⟩:=ah (v.alloc (Obj.cells #[.int .i64 s5,.int .i64 s3,.int .i64 s4,.int .i64 s1,.int .i64 s2,.int .i64 sl] 106));obtain ⟨gs,hgs⟩:=ah (v.heap.size)
     have B2:Aside (Bl U gs 106 [.int .i64 s5,.int .i64 s3,.int .i64 s4,.int .i64 s1,.int .i64 s2,.int .i64 sl]/\Bl U w.heap.size 44 [.int .i64 pa,.int .i64 pb]/\Below w.heap.size w U/\Fs U.heap.size U a' fl):=by
      rw [hU,hgs];exact ⟨Bl.new _ 106 [_,_,_,_,_,_],B1.o.1.alloc _,B1.o.2.trans ((aK _ _).mono B1.o.2.size),(hF'.below (aK _ _)).mono aO⟩
     rw [xI] at hz |-;have Dl:=ak xI;have HU:=(aJ hU hgs);obtain ⟨cr,hcr⟩:∃ b,PZ pa pb xs=b:=⟨_,rfl⟩;rw [hcr] at HV hz;clear hU hgs hF' B1 hfl qC HZ xI hcr
     go_upto_region 6 with fail
     rw [<-HU.o.1,<-HU.o.2];clear HU;have q0:=B2.o.1.cell 0 _ rfl;have q1:=B2.o.1.cell 1 _ rfl;have q2:=B2.o.1.cell 2 _ rfl;have q3:=B2.o.1.cell 3 _ rfl;have q4:=B2.o.1.cell 4 _ rfl;have q5:=B2.o.1.cell 5 _ rfl;have p0:=B2.o.2.1.cell 0 _ rfl;have p1:=B2.o.2.1.cell 1 _ rfl;go_wp2_with fail;refine (HV.o _).mono ?_;rintro r u ⟨⟨x,rfl⟩,hb⟩;have B3:=(aJ (B2.o.r2.1.trans (hb.mono B2.o.r2.1.size)) ((B2.o.r3.below hb).mono hb.size));clear hb HV q0 q1 q2 q3 q4 q5 p0 p1 B2
     cases cr with
     | true =>
       rw [if_pos rfl] at hz;obtain ⟨rfl,rfl⟩:=fu hz;clear hz PF Dl;go_wp2;exact aF (v:=.tuple #[.float .f64 9221120237041090560,.int .i64 0]) (by simp [results,Tryz.results43,go_sem]) rfl ⟨rfl,B3.o.1⟩
     | false =>
       rw [if_neg au] at hz;have HZ:=ak hz;have HE:=hid (rC fl a' m c' u Dl.o.symm B3.o.2 PF.o.1 (HX.o.r3.1.belows B3.o.1) (by have:=PF.o.r2.1;have:=Dl.o;omega));rw [PF.o.r3] at HE;clear hz;go_wp2_with fail;refine HE.o.mono ?_;rintro r u2 ⟨hr,hb⟩;rcases hr with ⟨hr,_⟩|⟨_,v2,rfl,hR⟩
       · exact absurd rfl hr
       obtain ⟨gA,p1,q1,rfl,hD,hN⟩:=hR;obtain ⟨oS,xx⟩:=ah (gV 1074 (sX fl));rw [<-xx] at hN |-;obtain ⟨V,hV⟩:=ah (u2.alloc (Obj.cells #[.slice (some ⟨gA,0,none⟩) m m,.bool (dN oS),.slice p1 (ws (dX oS)).length q1,.int .i64 (dE oS)] 74));obtain ⟨g7,qz⟩:=ah (u2.heap.size)
       have B4:Aside (Bl V g7 74 [.slice (some ⟨gA,0,none⟩) m m,.bool (dN oS),.slice p1 (ws (dX oS)).length q1,.int .i64 (dE oS)]/\Below w.heap.size w V/\Dr V gA m m (fun i=>gV 1074 (fX fl i))/\Nt 0 V (.slice p1 (ws (dX oS)).length q1) (dX oS)):=by
        rw [hV,qz];have b3:=B3.o.1.trans (hb.mono B3.o.1.size);exact ⟨Bl.new _ 74 [_,_,_,_],b3.trans ((aK _ _).mono b3.size),hD.below (aK _ _),hN.below (aK _ _)⟩
       have HV:=(aJ hV qz);have AV:=ak xx;clear hV qz hb hD hN HE B3 xx
       go_upto_region 10 with fail
       rw [<-HV.o.1,<-HV.o.2];clear HV;have s0:=B4.o.1.cell 0 _ rfl
       by_cases hle:(m:Int)<=less
       · have VZ:decide ((m:Int)<=less)=true:=decide_eq_true hle;have hz:=HZ.o;rw [if_pos hle] at hz;obtain ⟨rfl,rfl⟩:=fu hz;clear hz HZ;go_wp2;exact aF (v:=.tuple #[.float .f64 0,.int .i64 3]) (by simp [results,Tryz.results43,go_sem]) rfl ⟨rfl,B4.o.2.1⟩
       · have VZ:decide ((m:Int)<=less)=false:=decide_eq_false hle;have hz:=HZ.o;rw [if_neg hle] at hz;have m6:m<=65536:=by have:=PF.o.r2.1;have:=Dl.o;omega
         have yX:0<=less/\less<=1:=by have:=HX.o.r5;omega
         obtain ⟨oV,H9⟩:=ah (gV 2148 (cS fl fl));obtain ⟨oD,vH⟩:=ah (gV 0 ((m:Int)*((m:Int)-less)));rw [<-H9,<-vH] at hz;have FV:Fm oV:=by rw [H9];exact dB au au (mR PF.o.1 PF.o.2.1 PF.o.1 PF.o.2.1 PF.o.r2.1 rfl)
         have FD:Fm oD:=by rw [vH];exact dB au au (xw af yX.1 yX.2)
         have Ur:Hid (∀ u:World,Below V.heap.size V u->Calls Tryz.prog 50 #[.agg #[.slice (some ⟨gA,0,none⟩) m m,.bool (dN oS),.slice p1 (ws (dX oS)).length q1,.int .i64 (dE oS)],.agg #[.slice (some ⟨gA,0,none⟩) m m,.bool (dN oS),.slice p1 (ws (dX oS)).length q1,.int .i64 (dE oS)]] u fun r w'=>bC 0 w' r oV/\Below u.heap.size u w'):=fun u hu=>by
          have hR:Rr u (.agg #[.slice (some ⟨gA,0,none⟩) m m,.bool (dN oS),.slice p1 (ws (dX oS)).length q1,.int .i64 (dE oS)]) m (fun i=>gV 1074 (fX fl i)) (gV 1074 (sX fl)):=by
           rw [AV.o];exact ⟨gA,p1,q1,rfl,B4.o.r2.1.below hu,by have:=B4.o.r3.below hu;rw [AV.o] at this;exact this⟩
          have:=mO (f:=fX fl) (g:=fX fl) (S:=sX fl) (T:=sX fl) m6 (HX.o.r3.1.belows (B4.o.2.1.trans (hu.mono B4.o.2.1.size))) (fun i hi=>jo PF.o.1 PF.o.2.1 i (by rw [Dl.o];exact hi)) (fun i hi=>jo PF.o.1 PF.o.2.1 i (by rw [Dl.o];exact hi)) (jq PF.o.1 PF.o.2.1 PF.o.r2.1 _ (aC _)) (jq PF.o.1 PF.o.2.1 PF.o.r2.1 _ (aC _)) hR hR;rw [H9];unfold cS;rw [Dl.o];exact this
         have qj:Hid (∀ u:World,dJ u->Calls Tryz.prog 28 #[.int .i64 (m:Nat),.int .i64 less] u fun r w'=>bC 0 w' r oD/\Below u.heap.size u w'):=fun u hu=>by
          rw [vH];exact rM m less u hu af yX.1 yX.2 af
         have HR:Hid (∀ (u:World) (a b:Option Addr) (ca cb:Nat),dJ u->Nt 0 u (.slice a (ws (dX oV)).length ca) (dX oV)->Nt 0 u (.slice b (ws (dX oD)).length cb) (dX oD)->Calls Tryz.prog 44 #[.agg #[.bool (dN oV),.slice a (ws (dX oV)).length ca,.int .i64 (dE oV),.bool (dN oD),.slice b (ws (dX oD)).length cb,.int .i64 (dE oD)],.int .i64 mode] u fun r w'=>r=.returned (.tuple #[.float .f64 X,.int .i64 E])/\Below u.heap.size u w'):=fun u a b ca cb qi n1 n2=>by
          have:=FM mode FV FD n1 n2 qi;rw [hz] at this;exact this
         have FF:=(aJ FV FD);have HT:=ak HX.o.r3.1;have hdr:=(aD V.heap.size V).drew;have BD:=(aJ (B4.o.1.below hdr B4.o.1.lt) (B4.o.2.1.trans (hdr.mono B4.o.2.1.size)));have C1:=hid (Ur.o V.drew hdr);clear hz HZ H9 vH FV FD hdr Dl m6 yX PF HX Ur;have kS:Aside (V.drew.cell? ⟨g7,0,none⟩=some (.slice (some ⟨gA,0,none⟩) m m)/\V.drew.cell? ⟨g7,1,none⟩=some (.bool (dN oS))/\V.drew.cell? ⟨g7,2,none⟩=some (.slice p1 (ws (dX oS)).length q1)/\V.drew.cell? ⟨g7,3,none⟩=some (.int .i64 (dE oS))):=⟨BD.o.1.cell 0 _ rfl,BD.o.1.cell 1 _ rfl,BD.o.1.cell 2 _ rfl,BD.o.1.cell 3 _ rfl⟩;go_wp2_with fail;clear s0 B4
         go_region_held3 (fun w'=>w'.cell? ⟨g7,0,none⟩=some (.slice (some ⟨gA,0,none⟩) m m)/\w'.cell? ⟨g7,1,none⟩=some (.bool (dN oS))/\w'.cell? ⟨g7,2,none⟩=some (.slice p1 (ws (dX oS)).length q1)/\w'.cell? ⟨g7,3,none⟩=some (.int .i64 (dE oS))) (with_reducible exact kS.o) (first
          | (go_at_call 50
             with_reducible refine C1.o.mono ?_
             rintro r u3 ⟨hd,hb⟩;obtain ⟨a3,c3,rfl,dF⟩:=hd.aG;have BD:=aZ (BD.o.1.below hb BD.o.1.lt) (BD.o.2.trans (hb.mono BD.o.2.size)) dF;have kS:=ak (jr hb kS.o);have C2:=hid (qj.o u3 (HT.o.belows BD.o.2.1))
             clear hb hd dF C1)
          | (go_at_call 28
             with_reducible refine C2.o.mono ?_
             rintro r u4 ⟨hd,hb⟩;obtain ⟨a4,c4,rfl,fw⟩:=hd.aG;have BE:=aZ (BD.o.2.1.trans (hb.mono BD.o.2.1.size)) (BD.o.r2.below hb) fw;have kS:=ak (jr hb kS.o);have C3:=hid (HR.o u4 a3 a4 c3 c4 (HT.o.belows BE.o.1) BE.o.2.1 BE.o.r2)
             clear hb hd fw C2)
          | (go_at_call 44
             with_reducible refine C3.o.mono ?_
             rintro r u5 ⟨rfl,hb⟩;have BF:=ak (BE.o.1.trans (hb.mono BE.o.1.size));have kS:=ak (jr hb kS.o)
             clear hb C3))
         go_wp2;exact aF (v:=.tuple #[.float .f64 X,.int .i64 E]) (by simp [results,Tryz.results43,go_sem]) rfl ⟨rfl,BF.o⟩
theorem Yu (xs:List Nat) (a:Option Addr) (n c:Nat) (less mode pa pb:Int) (w:World) (hn:n=xs.length) (hF:Fs w.heap.size w a xs) (hW:nN xs) (hT:dJ w) (hl:n<=35184372088832) (z:Nat×Int) (hz:pG nA xs less mode pa pb=z) :
 Calls Tryz.prog 18 #[.slice a n c,.int .i64 less,.int .i64 mode,.agg #[.int .i64 pa,.int .i64 pb]] w fun r w'=>r=.returned (.tuple #[.float .f64 z.1,.int .i64 z.2])/\Below w.heap.size w w':=by
 obtain ⟨W,mI⟩:=ah (w.alloc (Obj.cells #[.int .i64 pa,.int .i64 pb] 44))
 have B0:Aside (Bl W w.heap.size 44 [.int .i64 pa,.int .i64 pb]/\Below w.heap.size w W):=by
  rw [mI];exact ⟨Bl.new _ 44 [_,_],aK _ _⟩
 have C:=hid (FW xs a n c less mode pa pb W hn ((hF.below B0.o.2).mono B0.o.2.size) hW (hT.belows B0.o.2) hl z hz);have kg:=ak mI;obtain ⟨X,E⟩:=z;clear mI hn hF hW hT hl hz;simp only at C |-;go_enter Tryz.func18,Tryz.ntmps18
 go_upto_region 1 with fail
 rw [<-kg.o];clear kg;have p0:=B0.o.1.cell 0 _ rfl;have p1:=B0.o.1.cell 1 _ rfl;go_wp2_with fail;refine C.o.mono ?_;rintro r v ⟨rfl,hb⟩;have B1:=ak (B0.o.2.trans (hb.mono B0.o.2.size));clear hb C p0 p1;go_wp2;exact aF (v:=.tuple #[.float .f64 X,.int .i64 E]) (by simp [results,Tryz.results18,go_sem]) rfl ⟨rfl,B1.o⟩
end
section
open Go Go.RowKit J
theorem KO (w:World) (n h0 h1:Nat) (A T:Nat->Option (Bool×Nat×Int)) (hn:n<=65536) (hT:dJ w) (FA:∀ i,i<n->Fm (A i)) (FT:∀ i,i<=n->Fm (T i)) (ET:∀ i,i<n->iF (T i) (A i)=T (i+1)) (E0:iX=T 0)
 (HC:Hid (∀ (i:Nat) (u:World),i<n->Below w.heap.size w u->Calls Tryz.prog 126 #[.int .i64 (i:Nat),.pointer (some ⟨h0,0,none⟩),.pointer (some ⟨h1,0,none⟩)] u fun r w'=>bC 0 w' r (A i)/\Below u.heap.size u w')) :
 Calls Tryz.prog 84 #[.int .i64 (n:Nat),.func (.func 126) #[] #[.pointer (some ⟨h0,0,none⟩),.pointer (some ⟨h1,0,none⟩)]] w fun r w'=>bC 0 w' r (T n)/\Below w.heap.size w w':=by
 obtain ⟨W,hW⟩:=ah ((w.alloc (Obj.cells #[.bool false,.slice none 0 0,.int .i64 0] 25)).alloc (Obj.cells #[.bool false,.slice none 0 0,.int .i64 0] 25))
 have H0:Aside (Lo W (w.heap.size+1) (T 0)/\Lo W w.heap.size iX/\Below w.heap.size w W):=by
  subst hW;rw [<-E0];have z2:=Lo.zero (w.alloc (Obj.cells #[.bool false,.slice none 0 0,.int .i64 0] 25));rw [dL] at z2;exact ⟨z2,(Lo.zero w).below (ae _ _),(ae _ _).trans ((ae _ _).mono aO)⟩
 have HP:Hid (∀ (i:Nat) (u:World) (p q:Option Addr) (cp cq:Nat),i<n->dJ u->Nt 0 u (.slice p (ws (dX (T i))).length cp) (dX (T i))->Nt 0 u (.slice q (ws (dX (A i))).length cq) (dX (A i))->Calls Tryz.prog 124 #[.agg #[.bool (dN (T i)),.slice p (ws (dX (T i))).length cp,.int .i64 (dE (T i))],.agg #[.bool (dN (A i)),.slice q (ws (dX (A i))).length cq,.int .i64 (dE (A i))]] u fun r w'=>bC 0 w' r (T (i+1))/\Below u.heap.size u w') :=
  fun i u p q cp cq hi hT n1 n2=>Am (FT i af) (FA i hi) (FT (i+1) af) n1 n2 hT (ET i hi)
 have HW:=ak hW;have PF:=aJ FT FA;have HT:=ak hT;clear hW FT FA ET E0 hT;go_enter Tryz.func84,Tryz.ntmps84
 go_upto_region 2 with fail
 rw [<-HW.o];clear HW;go_wp2
 go_loopg [8] n (fun gk i wr=>∃ j:Nat,gk+j=n/\i=.int .i64 (j:Nat)/\Aside (Lo wr (w.heap.size+1) (T j)/\Lo wr w.heap.size iX/\Below w.heap.size w wr))
 case atStart=>exact ⟨0,af,aO,H0.o⟩
 case round =>
  obtain ⟨j,hgj,rfl,HA⟩:=hrel
  by_cases hj:j<n
  · obtain ⟨p1,q1,D1,M1⟩:=HA.o.1;have hdr:=(aD wr.heap.size wr).drew;have kS:=aZ (D1.below hdr).facts.1 (D1.below hdr).facts.2.1 (D1.below hdr).facts.2.2.1;have B1:=gK (D1.below hdr) (M1.below hdr) (HA.o.2.1.below hdr) (HA.o.r2.trans (hdr.mono HA.o.r2.size));have C:=hid (HC.o j wr.drew hj B1.o.r3);clear D1 M1 hdr
    go_upto_region 5 with fail
    refine fI (fun u=>u.cell? ⟨w.heap.size+1,0,none⟩=some (.bool (dN (T j)))/\u.cell? ⟨w.heap.size+1,1,none⟩=some (.slice p1 (ws (dX (T j))).length q1)/\u.cell? ⟨w.heap.size+1,2,none⟩=some (.int .i64 (dE (T j)))) 5 dm ?_
    refine tk 0 [4] rfl kS.o ?_;try simp only [Act.put,sa,sb,sc]
    refine tk 1 [3,4] rfl kS.o ?_;try simp only [Act.put,sa,sb,sc]
    refine tk 2 [3,4] rfl kS.o ?_;try simp only [Act.put,sa,sb,sc]
    refine aA (i:=3) dm rfl (fun K' hK=>?_);go_simp;refine C.o.mono ?_;rintro r u3 ⟨hd,hb⟩;obtain ⟨a3,c3,rfl,dF⟩:=hd.jm (PF.o.2 j hj);have B2:=eu (B1.o.1.below hb) (B1.o.2.1.below hb) (B1.o.r2.1.below hb) (B1.o.r3.trans (hb.mono B1.o.r3.size)) dF;have kS:=aZ B2.o.1.facts.1 B2.o.1.facts.2.1 B2.o.1.facts.2.2.1;clear hb hd C B1 dF;dsimp only;refine hK.out _ _ (fun _=>kS.o) ?_;clear hK K'
    try simp only [Act.put,sa,sb,sc]
    have C:=hid (HP.o j u3 p1 a3 q1 c3 hj (HT.o.belows B2.o.r3.1) B2.o.2.1 B2.o.r4);refine aA (i:=4) dm rfl (fun K' hK=>?_);go_simp;refine C.o.mono ?_;rintro r u4 ⟨hd,hb⟩;obtain ⟨a4,c4,rfl,fw⟩:=hd.jm (PF.o.1 (j+1) af);have B3:=eu (B2.o.1.below hb) (B2.o.2.1.below hb) (B2.o.r2.1.below hb) (B2.o.r3.1.trans (hb.mono B2.o.r3.1.size)) fw;have kS:=aZ B3.o.1.facts.1 B3.o.1.facts.2.1 B3.o.1.facts.2.2.1;clear hb hd C B2 fw;dsimp only;refine hK.out _ _ (fun _=>kS.o) ?_;clear hK K'
    try simp only [Act.put,sa,sb,sc]
    obtain ⟨z0,z1,z2,eF,eG,eO⟩:=B3.o.1.facts;refine aA (i:=5) dm rfl (fun K' hK=>?_);go_simp;refine hK.out _ _ (fun h=>absurd h au) ?_;clear hK K' kS z0 z1 z2 eF eG eO;refine aQ dm ?_ _;have LB:Lo u4 (w.heap.size+1) (T j):=⟨_,_,B3.o.1,B3.o.2.1⟩;have b3:=B3.o.r3.1;have H3:=aZ (LB.set B3.o.r4) (B3.o.r2.1.other LB af (.bool (dN (T (j+1)))) (.slice a4 (ws (dX (T (j+1)))).length c4) (.int .i64 (dE (T (j+1))))) (dY b3 b3.size (show w.heap.size<=w.heap.size+1 by omega) (.bool (dN (T (j+1)))) (.slice a4 (ws (dX (T (j+1)))).length c4) (.int .i64 (dE (T (j+1)))));clear LB b3;go_wp2;go_roundg (gk-1)
    case measure=>omega
    case rel=>exact ⟨j+1,af,by first | rfl | simp,H3.o⟩
  · obtain rfl:n=j:=af
    have hd:decide ((n:Int)<n)=false:=by simp
    obtain ⟨p1,q1,D1,M1⟩:=HA.o.1;obtain ⟨p2,q2,D2,M2⟩:=HA.o.2.1;obtain ⟨x0,x1,x2,bE,bF,bG⟩:=D1.facts;obtain ⟨y0,y1,y2,bN,bO,bU⟩:=D2.facts;have Ky:=ak M1;clear D1 D2 M1 M2;go_wp2;exact jX Tryz.results84 rfl HA.o.2.1 HA.o.r2 af Ky.o
theorem KP (w:World) (n h0 h1 h2 h3:Nat) (A T:Nat->Option (Bool×Nat×Int)) (hn:n<=65536) (hT:dJ w) (FA:∀ i,i<n->Fm (A i)) (FT:∀ i,i<=n->Fm (T i)) (ET:∀ i,i<n->iF (T i) (A i)=T (i+1)) (E0:iX=T 0)
 (HC:Hid (∀ (i:Nat) (u:World),i<n->Below w.heap.size w u->Calls Tryz.prog 87 #[.int .i64 (i:Nat),.pointer (some ⟨h0,0,none⟩),.pointer (some ⟨h1,0,none⟩),.pointer (some ⟨h2,0,none⟩),.pointer (some ⟨h3,0,none⟩)] u fun r w'=>bC 0 w' r (A i)/\Below u.heap.size u w')) :
 Calls Tryz.prog 84 #[.int .i64 (n:Nat),.func (.func 87) #[] #[.pointer (some ⟨h0,0,none⟩),.pointer (some ⟨h1,0,none⟩),.pointer (some ⟨h2,0,none⟩),.pointer (some ⟨h3,0,none⟩)]] w fun r w'=>bC 0 w' r (T n)/\Below w.heap.size w w':=by
 obtain ⟨W,hW⟩:=ah ((w.alloc (Obj.cells #[.bool false,.slice none 0 0,.int .i64 0] 25)).alloc (Obj.cells #[.bool false,.slice none 0 0,.int .i64 0] 25))
 have H0:Aside (Lo W (w.heap.size+1) (T 0)/\Lo W w.heap.size iX/\Below w.heap.size w W):=by
  subst hW;rw [<-E0];have z2:=Lo.zero (w.alloc (Obj.cells #[.bool false,.slice none 0 0,.int .i64 0] 25));rw [dL] at z2;exact ⟨z2,(Lo.zero w).below (ae _ _),(ae _ _).trans ((ae _ _).mono aO)⟩
 have HP:Hid (∀ (i:Nat) (u:World) (p q:Option Addr) (cp cq:Nat),i<n->dJ u->Nt 0 u (.slice p (ws (dX (T i))).length cp) (dX (T i))->Nt 0 u (.slice q (ws (dX (A i))).length cq) (dX (A i))->Calls Tryz.prog 124 #[.agg #[.bool (dN (T i)),.slice p (ws (dX (T i))).length cp,.int .i64 (dE (T i))],.agg #[.bool (dN (A i)),.slice q (ws (dX (A i))).length cq,.int .i64 (dE (A i))]] u fun r w'=>bC 0 w' r (T (i+1))/\Below u.heap.size u w') :=
  fun i u p q cp cq hi hT n1 n2=>Am (FT i af) (FA i hi) (FT (i+1) af) n1 n2 hT (ET i hi)
 have HW:=ak hW;have PF:=aJ FT FA;have HT:=ak hT;clear hW FT FA ET E0 hT;go_enter Tryz.func84,Tryz.ntmps84
 go_upto_region 2 with fail
 rw [<-HW.o];clear HW;go_wp2
 go_loopg [8] n (fun gk i wr=>∃ j:Nat,gk+j=n/\i=.int .i64 (j:Nat)/\Aside (Lo wr (w.heap.size+1) (T j)/\Lo wr w.heap.size iX/\Below w.heap.size w wr))
 case atStart=>exact ⟨0,af,aO,H0.o⟩
 case round =>
  obtain ⟨j,hgj,rfl,HA⟩:=hrel
  by_cases hj:j<n
  · obtain ⟨p1,q1,D1,M1⟩:=HA.o.1;have hdr:=(aD wr.heap.size wr).drew;have kS:=aZ (D1.below hdr).facts.1 (D1.below hdr).facts.2.1 (D1.below hdr).facts.2.2.1;have B1:=gK (D1.below hdr) (M1.below hdr) (HA.o.2.1.below hdr) (HA.o.r2.trans (hdr.mono HA.o.r2.size));have C:=hid (HC.o j wr.drew hj B1.o.r3);clear D1 M1 hdr
    go_upto_region 5 with fail
    refine fI (fun u=>u.cell? ⟨w.heap.size+1,0,none⟩=some (.bool (dN (T j)))/\u.cell? ⟨w.heap.size+1,1,none⟩=some (.slice p1 (ws (dX (T j))).length q1)/\u.cell? ⟨w.heap.size+1,2,none⟩=some (.int .i64 (dE (T j)))) 5 dm ?_
    refine tk 0 [4] rfl kS.o ?_;try simp only [Act.put,sa,sb,sc]
    refine tk 1 [3,4] rfl kS.o ?_;try simp only [Act.put,sa,sb,sc]
    refine tk 2 [3,4] rfl kS.o ?_;try simp only [Act.put,sa,sb,sc]
    refine aA (i:=3) dm rfl (fun K' hK=>?_);go_simp;refine C.o.mono ?_;rintro r u3 ⟨hd,hb⟩;obtain ⟨a3,c3,rfl,dF⟩:=hd.jm (PF.o.2 j hj);have B2:=eu (B1.o.1.below hb) (B1.o.2.1.below hb) (B1.o.r2.1.below hb) (B1.o.r3.trans (hb.mono B1.o.r3.size)) dF;have kS:=aZ B2.o.1.facts.1 B2.o.1.facts.2.1 B2.o.1.facts.2.2.1;clear hb hd C B1 dF;dsimp only;refine hK.out _ _ (fun _=>kS.o) ?_;clear hK K'
    try simp only [Act.put,sa,sb,sc]
    have C:=hid (HP.o j u3 p1 a3 q1 c3 hj (HT.o.belows B2.o.r3.1) B2.o.2.1 B2.o.r4);refine aA (i:=4) dm rfl (fun K' hK=>?_);go_simp;refine C.o.mono ?_;rintro r u4 ⟨hd,hb⟩;obtain ⟨a4,c4,rfl,fw⟩:=hd.jm (PF.o.1 (j+1) af);have B3:=eu (B2.o.1.below hb) (B2.o.2.1.below hb) (B2.o.r2.1.below hb) (B2.o.r3.1.trans (hb.mono B2.o.r3.1.size)) fw;have kS:=aZ B3.o.1.facts.1 B3.o.1.facts.2.1 B3.o.1.facts.2.2.1;clear hb hd C B2 fw;dsimp only;refine hK.out _ _ (fun _=>kS.o) ?_;clear hK K'
    try simp only [Act.put,sa,sb,sc]
    obtain ⟨z0,z1,z2,eF,eG,eO⟩:=B3.o.1.facts;refine aA (i:=5) dm rfl (fun K' hK=>?_);go_simp;refine hK.out _ _ (fun h=>absurd h au) ?_;clear hK K' kS z0 z1 z2 eF eG eO;refine aQ dm ?_ _;have LB:Lo u4 (w.heap.size+1) (T j):=⟨_,_,B3.o.1,B3.o.2.1⟩;have b3:=B3.o.r3.1;have H3:=aZ (LB.set B3.o.r4) (B3.o.r2.1.other LB af (.bool (dN (T (j+1)))) (.slice a4 (ws (dX (T (j+1)))).length c4) (.int .i64 (dE (T (j+1))))) (dY b3 b3.size (show w.heap.size<=w.heap.size+1 by omega) (.bool (dN (T (j+1)))) (.slice a4 (ws (dX (T (j+1)))).length c4) (.int .i64 (dE (T (j+1)))));clear LB b3;go_wp2;go_roundg (gk-1)
    case measure=>omega
    case rel=>exact ⟨j+1,af,by first | rfl | simp,H3.o⟩
  · obtain rfl:n=j:=af
    have hd:decide ((n:Int)<n)=false:=by simp
    obtain ⟨p1,q1,D1,M1⟩:=HA.o.1;obtain ⟨p2,q2,D2,M2⟩:=HA.o.2.1;obtain ⟨x0,x1,x2,bE,bF,bG⟩:=D1.facts;obtain ⟨y0,y1,y2,bN,bO,bU⟩:=D2.facts;have Ky:=ak M1;clear D1 D2 M1 M2;go_wp2;exact jX Tryz.results84 rfl HA.o.2.1 HA.o.r2 af Ky.o
def Ld:Nat->Nat->Int
 | _,0=>1
 | 1,1=>1
 | 2,1=>2
 | 2,2=>1
 | 3,1=>3
 | 3,2=>3
 | 3,3=>1
 | 4,1=>4
 | 4,2=>6
 | 4,3=>4
 | 4,4=>1
 | _,_=>0
theorem O0 (w:World):Calls Tryz.prog 89 #[.int .i64 1,.int .i64 0] w fun r w'=>r=.returned (.int .i64 1)/\w'=w:=by
 go_enter Tryz.func89,Tryz.ntmps89;go_wp2
 go_loopg [5,8] 0 (fun gk v i wr=>wr=w/\((gk=0/\i=.int .i64 0/\v=.int .i64 1)))
 case atStart=>exact ⟨rfl,aO⟩
 case round =>
  obtain ⟨rfl,hrel⟩:=hrel;rcases hrel with ⟨rfl,rfl,rfl⟩
  · go_wp2;go_ret;exact ⟨rfl,rfl⟩
theorem O1 (w:World):Calls Tryz.prog 89 #[.int .i64 1,.int .i64 1] w fun r w'=>r=.returned (.int .i64 1)/\w'=w:=by
 go_enter Tryz.func89,Tryz.ntmps89;go_wp2
 go_loopg [5,8] 1 (fun gk v i wr=>wr=w/\((gk=1/\i=.int .i64 0/\v=.int .i64 1)\/(gk=0/\i=.int .i64 1/\v=.int .i64 1)))
 case atStart=>exact ⟨rfl,aO⟩
 case round =>
  obtain ⟨rfl,hrel⟩:=hrel;rcases hrel with ⟨rfl,rfl,rfl⟩|⟨rfl,rfl,rfl⟩
  · go_wp2;go_roundg 0
    case measure=>omega
    case rel=>exact ⟨rfl,aO⟩
  · go_wp2;go_ret;exact ⟨rfl,rfl⟩
theorem O3 (w:World):Calls Tryz.prog 89 #[.int .i64 2,.int .i64 0] w fun r w'=>r=.returned (.int .i64 1)/\w'=w:=by
 go_enter Tryz.func89,Tryz.ntmps89;go_wp2
 go_loopg [5,8] 0 (fun gk v i wr=>wr=w/\((gk=0/\i=.int .i64 0/\v=.int .i64 1)))
 case atStart=>exact ⟨rfl,aO⟩
 case round =>
  obtain ⟨rfl,hrel⟩:=hrel;rcases hrel with ⟨rfl,rfl,rfl⟩
  · go_wp2;go_ret;exact ⟨rfl,rfl⟩
theorem O4 (w:World):Calls Tryz.prog 89 #[.int .i64 2,.int .i64 1] w fun r w'=>r=.returned (.int .i64 2)/\w'=w:=by
 go_enter Tryz.func89,Tryz.ntmps89;go_wp2
 go_loopg [5,8] 1 (fun gk v i wr=>wr=w/\((gk=1/\i=.int .i64 0/\v=.int .i64 1)\/(gk=0/\i=.int .i64 1/\v=.int .i64 2)))
 case atStart=>exact ⟨rfl,aO⟩
 case round =>
  obtain ⟨rfl,hrel⟩:=hrel;rcases hrel with ⟨rfl,rfl,rfl⟩|⟨rfl,rfl,rfl⟩
  · go_wp2;go_roundg 0
    case measure=>omega
    case rel=>exact ⟨rfl,aO⟩
  · go_wp2;go_ret;exact ⟨rfl,rfl⟩
theorem O5 (w:World):Calls Tryz.prog 89 #[.int .i64 2,.int .i64 2] w fun r w'=>r=.returned (.int .i64 1)/\w'=w:=by
 go_enter Tryz.func89,Tryz.ntmps89;go_wp2
 go_loopg [5,8] 2 (fun gk v i wr=>wr=w/\((gk=2/\i=.int .i64 0/\v=.int .i64 1)\/(gk=1/\i=.int .i64 1/\v=.int .i64 2)\/(gk=0/\i=.int .i64 2/\v=.int .i64 1)))
 case atStart=>exact ⟨rfl,aO⟩
 case round =>
  obtain ⟨rfl,hrel⟩:=hrel;rcases hrel with ⟨rfl,rfl,rfl⟩|⟨rfl,rfl,rfl⟩|⟨rfl,rfl,rfl⟩
  · go_wp2;go_roundg 1
    case measure=>omega
    case rel=>exact ⟨rfl,aO⟩
  · go_wp2;go_roundg 0
    case measure=>omega
    case rel=>exact ⟨rfl,aO⟩
  · go_wp2;go_ret;exact ⟨rfl,rfl⟩
theorem O6 (w:World):Calls Tryz.prog 89 #[.int .i64 3,.int .i64 0] w fun r w'=>r=.returned (.int .i64 1)/\w'=w:=by
 go_enter Tryz.func89,Tryz.ntmps89;go_wp2
 go_loopg [5,8] 0 (fun gk v i wr=>wr=w/\((gk=0/\i=.int .i64 0/\v=.int .i64 1)))
 case atStart=>exact ⟨rfl,aO⟩
 case round =>
  obtain ⟨rfl,hrel⟩:=hrel;rcases hrel with ⟨rfl,rfl,rfl⟩
  · go_wp2;go_ret;exact ⟨rfl,rfl⟩
theorem O7 (w:World):Calls Tryz.prog 89 #[.int .i64 3,.int .i64 1] w fun r w'=>r=.returned (.int .i64 3)/\w'=w:=by
 go_enter Tryz.func89,Tryz.ntmps89;go_wp2
 go_loopg [5,8] 1 (fun gk v i wr=>wr=w/\((gk=1/\i=.int .i64 0/\v=.int .i64 1)\/(gk=0/\i=.int .i64 1/\v=.int .i64 3)))
 case atStart=>exact ⟨rfl,aO⟩
 case round =>
  obtain ⟨rfl,hrel⟩:=hrel;rcases hrel with ⟨rfl,rfl,rfl⟩|⟨rfl,rfl,rfl⟩
  · go_wp2;go_roundg 0
    case measure=>omega
    case rel=>exact ⟨rfl,aO⟩
  · go_wp2;go_ret;exact ⟨rfl,rfl⟩
theorem O8 (w:World):Calls Tryz.prog 89 #[.int .i64 3,.int .i64 2] w fun r w'=>r=.returned (.int .i64 3)/\w'=w:=by
 go_enter Tryz.func89,Tryz.ntmps89;go_wp2
 go_loopg [5,8] 2 (fun gk v i wr=>wr=w/\((gk=2/\i=.int .i64 0/\v=.int .i64 1)\/(gk=1/\i=.int .i64 1/\v=.int .i64 3)\/(gk=0/\i=.int .i64 2/\v=.int .i64 3)))
 case atStart=>exact ⟨rfl,aO⟩
 case round =>
  obtain ⟨rfl,hrel⟩:=hrel;rcases hrel with ⟨rfl,rfl,rfl⟩|⟨rfl,rfl,rfl⟩|⟨rfl,rfl,rfl⟩
  · go_wp2;go_roundg 1
    case measure=>omega
    case rel=>exact ⟨rfl,aO⟩
  · go_wp2;go_roundg 0
    case measure=>omega
    case rel=>exact ⟨rfl,aO⟩
  · go_wp2;go_ret;exact ⟨rfl,rfl⟩
theorem O9 (w:World):Calls Tryz.prog 89 #[.int .i64 3,.int .i64 3] w fun r w'=>r=.returned (.int .i64 1)/\w'=w:=by
 go_enter Tryz.func89,Tryz.ntmps89;go_wp2
 go_loopg [5,8] 3 (fun gk v i wr=>wr=w/\((gk=3/\i=.int .i64 0/\v=.int .i64 1)\/(gk=2/\i=.int .i64 1/\v=.int .i64 3)\/(gk=1/\i=.int .i64 2/\v=.int .i64 3)\/(gk=0/\i=.int .i64 3/\v=.int .i64 1)))
 case atStart=>exact ⟨rfl,aO⟩
 case round =>
  obtain ⟨rfl,hrel⟩:=hrel;rcases hrel with ⟨rfl,rfl,rfl⟩|⟨rfl,rfl,rfl⟩|⟨rfl,rfl,rfl⟩|⟨rfl,rfl,rfl⟩
  · go_wp2;go_roundg 2
    case measure=>omega
    case rel=>exact ⟨rfl,aO⟩
  · go_wp2;go_roundg 1
    case measure=>omega
    case rel=>exact ⟨rfl,aO⟩
  · go_wp2;go_roundg 0
    case measure=>omega
    case rel=>exact ⟨rfl,aO⟩
  · go_wp2;go_ret;exact ⟨rfl,rfl⟩
theorem Pb (w:World):Calls Tryz.prog 89 #[.int .i64 4,.int .i64 0] w fun r w'=>r=.returned (.int .i64 1)/\w'=w:=by
 go_enter Tryz.func89,Tryz.ntmps89;go_wp2
 go_loopg [5,8] 0 (fun gk v i wr=>wr=w/\((gk=0/\i=.int .i64 0/\v=.int .i64 1)))
 case atStart=>exact ⟨rfl,aO⟩
 case round =>
  obtain ⟨rfl,hrel⟩:=hrel;rcases hrel with ⟨rfl,rfl,rfl⟩
  · go_wp2;go_ret;exact ⟨rfl,rfl⟩
theorem Pd (w:World):Calls Tryz.prog 89 #[.int .i64 4,.int .i64 1] w fun r w'=>r=.returned (.int .i64 4)/\w'=w:=by
 go_enter Tryz.func89,Tryz.ntmps89;go_wp2
 go_loopg [5,8] 1 (fun gk v i wr=>wr=w/\((gk=1/\i=.int .i64 0/\v=.int .i64 1)\/(gk=0/\i=.int .i64 1/\v=.int .i64 4)))
 case atStart=>exact ⟨rfl,aO⟩
 case round =>
  obtain ⟨rfl,hrel⟩:=hrel;rcases hrel with ⟨rfl,rfl,rfl⟩|⟨rfl,rfl,rfl⟩
  · go_wp2;go_roundg 0
    case measure=>omega
    case rel=>exact ⟨rfl,aO⟩
  · go_wp2;go_ret;exact ⟨rfl,rfl⟩
theorem Pe (w:World):Calls Tryz.prog 89 #[.int .i64 4,.int .i64 2] w fun r w'=>r=.returned (.int .i64 6)/\w'=w:=by
 go_enter Tryz.func89,Tryz.ntmps89;go_wp2
 go_loopg [5,8] 2 (fun gk v i wr=>wr=w/\((gk=2/\i=.int .i64 0/\v=.int .i64 1)\/(gk=1/\i=.int .i64 1/\v=.int .i64 4)\/(gk=0/\i=.int .i64 2/\v=.int .i64 6)))
 case atStart=>exact ⟨rfl,aO⟩
 case round =>
  obtain ⟨rfl,hrel⟩:=hrel;rcases hrel with ⟨rfl,rfl,rfl⟩|⟨rfl,rfl,rfl⟩|⟨rfl,rfl,rfl⟩
  · go_wp2;go_roundg 1
    case measure=>omega
    case rel=>exact ⟨rfl,aO⟩
  · go_wp2;go_roundg 0
    case measure=>omega
    case rel=>exact ⟨rfl,aO⟩
  · go_wp2;go_ret;exact ⟨rfl,rfl⟩
theorem Pf (w:World):Calls Tryz.prog 89 #[.int .i64 4,.int .i64 3] w fun r w'=>r=.returned (.int .i64 4)/\w'=w:=by
 go_enter Tryz.func89,Tryz.ntmps89;go_wp2
 go_loopg [5,8] 3 (fun gk v i wr=>wr=w/\((gk=3/\i=.int .i64 0/\v=.int .i64 1)\/(gk=2/\i=.int .i64 1/\v=.int .i64 4)\/(gk=1/\i=.int .i64 2/\v=.int .i64 6)\/(gk=0/\i=.int .i64 3/\v=.int .i64 4)))
 case atStart=>exact ⟨rfl,aO⟩
 case round =>
  obtain ⟨rfl,hrel⟩:=hrel;rcases hrel with ⟨rfl,rfl,rfl⟩|⟨rfl,rfl,rfl⟩|⟨rfl,rfl,rfl⟩|⟨rfl,rfl,rfl⟩
  · go_wp2;go_roundg 2
    case measure=>omega
    case rel=>exact ⟨rfl,aO⟩
  · go_wp2;go_roundg 1
    case measure=>omega
    case rel=>exact ⟨rfl,aO⟩
  · go_wp2;go_roundg 0
    case measure=>omega
    case rel=>exact ⟨rfl,aO⟩
  · go_wp2;go_ret;exact ⟨rfl,rfl⟩
theorem Pg (w:World):Calls Tryz.prog 89 #[.int .i64 4,.int .i64 4] w fun r w'=>r=.returned (.int .i64 1)/\w'=w:=by
 go_enter Tryz.func89,Tryz.ntmps89;go_wp2
 go_loopg [5,8] 4 (fun gk v i wr=>wr=w/\((gk=4/\i=.int .i64 0/\v=.int .i64 1)\/(gk=3/\i=.int .i64 1/\v=.int .i64 4)\/(gk=2/\i=.int .i64 2/\v=.int .i64 6)\/(gk=1/\i=.int .i64 3/\v=.int .i64 4)\/(gk=0/\i=.int .i64 4/\v=.int .i64 1)))
 case atStart=>exact ⟨rfl,aO⟩
 case round =>
  obtain ⟨rfl,hrel⟩:=hrel;rcases hrel with ⟨rfl,rfl,rfl⟩|⟨rfl,rfl,rfl⟩|⟨rfl,rfl,rfl⟩|⟨rfl,rfl,rfl⟩|⟨rfl,rfl,rfl⟩
  · go_wp2;go_roundg 3
    case measure=>omega
    case rel=>exact ⟨rfl,aO⟩
  · go_wp2;go_roundg 2
    case measure=>omega
    case rel=>exact ⟨rfl,aO⟩
  · go_wp2;go_roundg 1
    case measure=>omega
    case rel=>exact ⟨rfl,aO⟩
  · go_wp2;go_roundg 0
    case measure=>omega
    case rel=>exact ⟨rfl,aO⟩
  · go_wp2;go_ret;exact ⟨rfl,rfl⟩
theorem We (k j:Nat) (hk:1<=k) (hk4:k<=4) (hj:j<=k) (w:World):Calls Tryz.prog 89 #[.int .i64 (k:Nat),.int .i64 (j:Nat)] w fun r w'=>r=.returned (.int .i64 (Ld k j))/\w'=w:=by
 obtain rfl|rfl|rfl|rfl:k=1\/k=2\/k=3\/k=4:=af
 · obtain rfl | rfl:j=0\/j=1:=af
   · exact O0 w
   · exact O1 w
 · obtain rfl | rfl | rfl:j=0\/j=1\/j=2:=af
   · exact O3 w
   · exact O4 w
   · exact O5 w
 · obtain rfl | rfl | rfl | rfl:j=0\/j=1\/j=2\/j=3:=af
   · exact O6 w
   · exact O7 w
   · exact O8 w
   · exact O9 w
 · obtain rfl | rfl | rfl | rfl | rfl:j=0\/j=1\/j=2\/j=3\/j=4:=af
   · exact Pb w
   · exact Pd w
   · exact Pe w
   · exact Pf w
   · exact Pg w
theorem Ie (k j:Nat) (hk:1<=k) (hk4:k<=4) (hj:j<=k):0<=Ld k j/\Ld k j<=6:=by
 obtain rfl|rfl|rfl|rfl:k=1\/k=2\/k=3\/k=4:=af
 · obtain rfl | rfl:j=0\/j=1:=af
   · decide
   · decide
 · obtain rfl | rfl | rfl:j=0\/j=1\/j=2:=af
   · decide
   · decide
   · decide
 · obtain rfl | rfl | rfl | rfl:j=0\/j=1\/j=2\/j=3:=af
   · decide
   · decide
   · decide
   · decide
 · obtain rfl | rfl | rfl | rfl | rfl:j=0\/j=1\/j=2\/j=3\/j=4:=af
   · decide
   · decide
   · decide
   · decide
   · decide
theorem o6 {w:World}{a:Option Addr}{ca k u m:Nat}{V:Int}(hk:k<=5) (hu:u<=1100) (hm:m<=2200) (bV:Bd m V) (hT:dJ w) (N1:Nt 0 w (.slice a (ws (dX (gV u V))).length ca) (dX (gV u V))) :
 Calls Tryz.prog 47 #[.agg #[.bool (dN (gV u V)),.slice a (ws (dX (gV u V))).length ca,.int .i64 (dE (gV u V))],.int .i64 (k:Nat)] w fun r w'=>bC 0 w' r (gV (u*k) (V^k))/\Below w.heap.size w w':=by
 have hq:∀ i,i<=k->u*i<=5500/\m*i<=11000:=fun i hi=>⟨dP (jv hu (by omega:i<=5)) au,dP (jv hm (by omega:i<=5)) au⟩;refine OD w a ca k (gV u V) (fun i=>gV (u*i) (V^i)) af hT (dB af af bV) (fun i hi=>dB (by have:=hq i hi;omega) (by have:=hq i hi;omega) (bV.pow i)) (fun i hi=>?_) ?_ N1
 · have:=hq i af;rw [mH af af af af (bV.pow i) bV,<-Bb,<-Int.pow_succ]
 · show gV 0 1=gV (u*0) (V^0);rw [nG,Int.pow_zero]
theorem KQ (i n k h0 h1 gx:Nat) (A:Nat->Option (Bool×Nat×Int)) (c:Option (Bool×Nat×Int)) (u:World) (hi:i<n) (hn:n<=65536)
 (HR:Hid (∀ (v:World) (a:Option Addr) (d:Nat),Below u.heap.size u v->Nt 0 v (.slice a (ws (dX (A i))).length d) (dX (A i))->Calls Tryz.prog 47 #[.agg #[.bool (dN (A i)),.slice a (ws (dX (A i))).length d,.int .i64 (dE (A i))],.int .i64 (k:Nat)] v fun r w'=>bC 0 w' r c/\Below v.heap.size v w'))
 (k0:u.cell? ⟨h0,0,none⟩=some (.slice (some ⟨gx,0,none⟩) n n)) (k1:u.cell? ⟨h1,0,none⟩=some (.int .i64 (k:Nat))) (hx:Dr u gx n n A) :
 Calls Tryz.prog 126 #[.int .i64 (i:Nat),.pointer (some ⟨h0,0,none⟩),.pointer (some ⟨h1,0,none⟩)] u fun r w'=>bC 0 w' r c/\Below u.heap.size u w':=by
 obtain ⟨W,hW⟩:=ah (u.alloc (Obj.cells #[.bool false,.slice none 0 0,.int .i64 0] 25));have LT:Aside (h0<u.heap.size/\h1<u.heap.size/\gx<u.heap.size):=⟨lh u _ k0,lh u _ k1,hx.lt⟩;have hb:Below u.heap.size u W.drew:=by rw [hW];exact jU u
 have L0:Lo W.drew u.heap.size iX:=by rw [hW];exact jV u
 obtain ⟨p1,q1,x0,x1,x2,M1⟩:=(hx.below hb).facts i hi;have kS:Aside (W.drew.cell? ⟨h0,0,none⟩=some (.slice (some ⟨gx,0,none⟩) n n)/\W.drew.cell? ⟨h1,0,none⟩=some (.int .i64 (k:Nat))/\W.drew.cell? ⟨gx,i*3,none⟩=some (.bool (dN (A i)))/\W.drew.cell? ⟨gx,i*3+1,none⟩=some (.slice p1 (ws (dX (A i))).length q1)/\W.drew.cell? ⟨gx,i*3+2,none⟩=some (.int .i64 (dE (A i)))):=⟨lq k0 hb,lq k1 hb,x0,x1,x2⟩;have C:=hid (HR.o W.drew p1 q1 hb M1);have BD:=(aJ hb L0);have HW:=ak hW;have HI:=ak hi;clear hW hb L0 x0 x1 x2 M1 k0 k1 hx HR;go_enter Tryz.func126,Tryz.ntmps126
 go_upto_region 1 with fail
 rw [<-HW.o];clear HW
 go_region_held3 (fun w'=>w'.cell? ⟨h0,0,none⟩=some (.slice (some ⟨gx,0,none⟩) n n)/\w'.cell? ⟨h1,0,none⟩=some (.int .i64 (k:Nat))/\w'.cell? ⟨gx,i*3,none⟩=some (.bool (dN (A i)))/\w'.cell? ⟨gx,i*3+1,none⟩=some (.slice p1 (ws (dX (A i))).length q1)/\w'.cell? ⟨gx,i*3+2,none⟩=some (.int .i64 (dE (A i)))) (first | with_reducible exact kS.o | with_reducible exact kT.o) (first
  | (go_at_call 47
     with_reducible refine C.o.mono ?_
     rintro r u3 ⟨hd,hb⟩;obtain ⟨a3,c3,rfl,dF⟩:=hd.aG;have BD:=aZ (BD.o.1.trans (hb.mono BD.o.1.size)) (BD.o.2.below hb) dF;have kS:=ak (ck hb kS.o fun h=>ck1 hb h);have kT:=eu (mM (g:=u.heap.size) (x:=.bool (dN c)) (y:=.slice a3 (ws (dX c)).length c3) (z:=.int .i64 (dE c)) kS.o.1 (gZ LT.o.1)) (mM (g:=u.heap.size) (x:=.bool (dN c)) (y:=.slice a3 (ws (dX c)).length c3) (z:=.int .i64 (dE c)) kS.o.2.1 (gZ LT.o.2.1)) (mM (g:=u.heap.size) (x:=.bool (dN c)) (y:=.slice a3 (ws (dX c)).length c3) (z:=.int .i64 (dE c)) kS.o.r2.1 (gZ LT.o.r2)) (mM (g:=u.heap.size) (x:=.bool (dN c)) (y:=.slice a3 (ws (dX c)).length c3) (z:=.int .i64 (dE c)) kS.o.r3.1 (gZ LT.o.r2)) (mM (g:=u.heap.size) (x:=.bool (dN c)) (y:=.slice a3 (ws (dX c)).length c3) (z:=.int .i64 (dE c)) kS.o.r4 (gZ LT.o.r2));obtain ⟨zp,zq,DZ,MZ⟩:=BD.o.2.1;obtain ⟨z0,z1,z2,eF,eG,eO⟩:=DZ.facts
     clear hb hd dF DZ MZ C))
 go_wp2;exact jX Tryz.results126 rfl BD.o.2.1 BD.o.1 (aC _) BD.o.r2
theorem Dm (w:World) (n k gx:Nat) (ax:Option Addr) (cx:Nat) (oS oP:Option (Bool×Nat×Int))
 (HC:Hid (∀ u:World,Below w.heap.size w u->u.cell? ⟨w.heap.size,0,none⟩=some (.slice (some ⟨gx,0,none⟩) n n)->u.cell? ⟨w.heap.size+1,0,none⟩=some (.int .i64 (k:Nat))->Calls Tryz.prog 84 #[.int .i64 (n:Nat),.func (.func 126) #[] #[.pointer (some ⟨w.heap.size,0,none⟩),.pointer (some ⟨w.heap.size+1,0,none⟩)]] u fun r w'=>bC 0 w' r oP/\Below u.heap.size u w')) :
 Calls Tryz.prog 88 #[.agg #[.slice (some ⟨gx,0,none⟩) n n,.bool (dN oS),.slice ax (ws (dX oS)).length cx,.int .i64 (dE oS)],.int .i64 (k:Nat)] w fun r w'=>bC 0 w' r oP/\Below w.heap.size w w':=by
 obtain ⟨W,hW⟩:=ah (((w.alloc (Obj.cells #[.slice (some ⟨gx,0,none⟩) n n,.bool (dN oS),.slice ax (ws (dX oS)).length cx,.int .i64 (dE oS)] 74)).alloc (Obj.cells #[.int .i64 (k:Nat)] 3)).alloc (Obj.cells #[.bool false,.slice none 0 0,.int .i64 0] 25))
 have H0:Aside (Bl W w.heap.size 74 [.slice (some ⟨gx,0,none⟩) n n,.bool (dN oS),.slice ax (ws (dX oS)).length cx,.int .i64 (dE oS)]/\Bl W (w.heap.size+1) 3 [.int .i64 (k:Nat)]/\Lo W (w.heap.size+2) iX/\Below w.heap.size w W):=by
  have hbW:Below w.heap.size w W:=by rw [hW];exact ((ae _ _).trans ((ae _ _).mono aO)).trans ((ae _ _).mono (by simp;omega))
  refine ⟨?_,?_,?_,hbW⟩
  · rw [hW];exact ((Bl.new w 74 [.slice (some ⟨gx,0,none⟩) n n,.bool (dN oS),.slice ax (ws (dX oS)).length cx,.int .i64 (dE oS)]).alloc _).alloc _
  · have z1:=Bl.new (w.alloc (Obj.cells #[.slice (some ⟨gx,0,none⟩) n n,.bool (dN oS),.slice ax (ws (dX oS)).length cx,.int .i64 (dE oS)] 74)) 3 [.int .i64 (k:Nat)];rw [dL] at z1;rw [hW];exact z1.alloc _
  · have z2:=Lo.zero ((w.alloc (Obj.cells #[.slice (some ⟨gx,0,none⟩) n n,.bool (dN oS),.slice ax (ws (dX oS)).length cx,.int .i64 (dE oS)] 74)).alloc (Obj.cells #[.int .i64 (k:Nat)] 3));rw [dL,dL] at z2;rw [hW];exact z2
 have HW:=ak hW;clear hW;go_enter Tryz.func88,Tryz.ntmps88
 go_upto_region 1 with fail
 rw [<-HW.o];clear HW;have s0:=H0.o.1.cell 0 _ rfl;have hmf:∀ (fn:Fn) (first cap:Array Value) (w:World),(Instr.makeFunc fn first cap).run Tryz.prog w=.ok (.func fn first cap) w:=fun _ _ _ _=>rfl;have C:=hid (HC.o W H0.o.r3 (H0.o.1.cell 0 _ rfl) (H0.o.2.1.cell 0 _ rfl));go_wp2_with fail;refine C.o.mono ?_;rintro r u1 ⟨hd,hb⟩;obtain ⟨a1,c1,rfl,hN1⟩:=hd.aG;have H1:=(aZ (H0.o.r2.1.below hb) (H0.o.r3.trans (hb.mono H0.o.r3.size)) hN1);clear hb hd hN1 C s0 H0;obtain ⟨p2,q2,D2,M2⟩:=H1.o.1;obtain ⟨y0,y1,y2,bN,bO,bU⟩:=D2.facts;clear D2 M2;go_wp2;exact jX Tryz.results88 rfl H1.o.1 H1.o.2.1 af H1.o.r2
theorem vI {f:Nat->Int}{n k:Nat}(bf:∀ i,i<n->Bd 2098 (f i)) (hn:n<=65536) (hk:k<=4) (j:Nat) (hj:j<=n):Bd (2098*k+16) (tS (fun i=>f i^k) j) :=
 CS (fun i hi=>(bf i hi).pow k) hn j hj
theorem Ph {w:World}{v:Value}{n k:Nat}{f:Nat->Int}{oS:Option (Bool×Nat×Int)}(hn:n<=65536) (hk:k<=4) (hT:dJ w) (bf:∀ i,i<n->Bd 2098 (f i)) (h1:Rr w v n (fun i=>gV 1074 (f i)) oS) :
 Calls Tryz.prog 88 #[v,.int .i64 (k:Nat)] w fun r w'=>bC 0 w' r (gV (1074*k) (tS (fun i=>f i^k) n))/\Below w.heap.size w w':=by
 obtain ⟨gx,ax,cx,rfl,hx,n1⟩:=h1;have hq:1074*k<=4296/\2098*k<=8392:=af
 refine Dm w n k gx ax cx oS _ (hid fun u hu k0 k1=>?_);refine KO u n w.heap.size (w.heap.size+1) (fun i=>gV (1074*k) (f i^k)) (fun i=>gV (1074*k) (tS (fun i=>f i^k) i)) hn (hT.belows hu) (fun i hi=>dB af af ((bf i hi).pow k)) (fun i hi=>dB af af (vI bf hn hk i hi)) (fun i hi=>CR af af (vI bf hn hk i af) (((bf i hi).pow k).mono af)) (wZ _).symm (hid fun i v hi hv=>?_);have hv2:Below w.heap.size w v:=hu.trans (hv.mono hu.size);exact KQ i n k w.heap.size (w.heap.size+1) gx (fun i=>gV 1074 (f i)) (gV (1074*k) (f i^k)) v hi hn (hid fun y a d hy hN=>o6 af au au (bf i hi) (hT.belows (hv2.trans (hy.mono hv2.size))) hN) (lq k0 hv) (lq k1 hv) (hx.below hv2)
end
end Go.Proofs.YtfmfhehbdfhnbaaGreatDoor
