import Derived.Test.YtjldfhecnaiinaaGreatDoorZ47x
import Derived.Deep.RegionWith
import Derived.Deep.RegionHeld3
import Derived.Test.YtjldfhecnaiinaaGreatDoorZ8x
import Derived.Test.YtjldfhecnaiinaaGreatDoorD20x
import Derived.BigQuiet
import Derived.Test.YtjldfhecnaiinaaGreatDoorF9x
set_option linter.unusedVariables false
set_option linter.unusedSimpArgs false
set_option maxHeartbeats 16000000
set_option maxRecDepth 20000
namespace Go.Proofs.YtjldfhecnaiinaaGreatDoor
namespace J
end J
section
open Go.RowKit J
attribute [local go_sem] st_float
theorem ex_neg {V:Int}(k:Nat) (hk:k≤90000) (hb:V.natAbs<2^k):mkS (!dN (exV V)) (dX (exV V)) (dE (exV V))=exV (-V):=by
 by_cases h0:V=0
 · subst h0
   rw [ex_zero,show (-0:Int)=0 by decide,ex_zero]
   exact mkS_zero _ _
 · obtain ⟨X,e,ho,hX,he0,he1,hv,hbl,F⟩:=ex_parts13 h0 k hk hb
   obtain ⟨Y,f,ho2,hY,hf0,hf1,hv2,hbl2,F2⟩:=ex_parts13 (V:=-V) (by omega) k hk (by rw [Int.natAbs_neg];exact hb)
   have m1:mkS (decide (V<0)) V.natAbs (-2148)=some (decide (V<0),X,e):=ho;have m2:mkS (decide (-V<0)) (-V).natAbs (-2148)=some (decide (-V<0),Y,f):=ho2;rw [Int.natAbs_neg] at m2;have hn:V.natAbs≠0:=by omega
   unfold mkS at m1 m2;rw [if_neg hn] at m1 m2
   split at m1
   · cases m1
   · rename_i hh
     rw [if_neg hh] at m2;simp only [Option.some.injEq,Prod.mk.injEq,true_and] at m1 m2;obtain ⟨rfl,rfl⟩:=m1;obtain ⟨rfl,rfl⟩:=m2;rw [ho,ho2]
     show mkS (!decide (V<0)) _ _=_
     have e1:(!decide (V<0))=decide (-V<0):=by
      by_cases hs:V<0
      · rw [decide_eq_true hs,decide_eq_false (by omega)];rfl
      · rw [decide_eq_false hs,decide_eq_true (by omega)];rfl
     rw [e1];exact mkS_idem F2
theorem Nt.off13 {lo g T:Nat}{w w':World}{v:Value}{X:Nat}{C:List Value}(h:Nt lo w v X) (hB:Bl w g T C) (hT:T≠122) (hb:But g w w'):Nt lo w' v X:=by
 refine h.off hb ?_
 rcases h.2 with ⟨rfl,_⟩|⟨g',cap,cur,rfl,_,hg,_⟩
 · simp [Value.ownBlock]
 · intro e'
   obtain rfl:g'=g:=by simpa [Value.ownBlock] using e'
   rw [show w.heap[g']?=_ from hB] at hg
   simp at hg;exact hT hg.2
noncomputable def wqR (V W mode:Int):Nat×Int:=if W<0 then qvR (-V) (-W) mode else qvR V W mode
noncomputable def wtR (xs ys:List Nat) (mode:Int):Nat×Int :=
 if askE mode=0 then (if prE xs ys=0 then (bsd (wqR (wS xs ys) (vS ys) mode).2 (wqR (wS xs ys) (vS ys) mode).1,(wqR (wS xs ys) (vS ys) mode).2) else (0,prE xs ys)) else (0,askE mode)
theorem prE_ok {xs ys:List Nat}(h:prE xs ys=0):xs.length≤65536∧xs.length=ys.length∧plE xs=0∧plE ys=0∧xs≠[]:=by
 unfold prE at h
 by_cases h1:65536<xs.length∨65536<ys.length
 · rw [if_pos h1] at h;exact absurd h (by decide)
 · rw [if_neg h1] at h
   by_cases h2:xs.length≠ys.length
   · rw [if_pos h2] at h;exact absurd h (by decide)
   · rw [if_neg h2] at h
     by_cases h3:plE xs≠0
     · rw [if_pos h3] at h;exact absurd h h3
     · rw [if_neg h3] at h
       by_cases h4:plE ys≠0
       · rw [if_pos h4] at h;exact absurd h h4
       · rw [if_neg h4] at h
         by_cases h5:xs=[]
         · rw [if_pos h5] at h;exact absurd h (by decide)
         · exact ⟨by omega,by omega,by omega,by omega,h5⟩
theorem Weighted13 (xs ys:List Nat) (a b:Option Addr) (n m c d:Nat) (mode:Int) (w:World) (hn:n=xs.length) (hm:m=ys.length) (hF:Fs w.heap.size w a xs) (hG:Fs w.heap.size w b ys) (hW:W64 xs) (hV:W64 ys) (hT:Tab w) (z:Nat×Int) (hz:wtR xs ys mode=z) :
 Calls Tryz.prog 15 #[.slice a n c,.slice b m d,.int .i64 mode] w fun r w'=>r=.returned (.tuple #[.float .f64 z.1,.int .i64 z.2])∧Below w.heap.size w w':=by
 obtain ⟨X,E⟩:=z;simp only;have hmf:∀ (fn:Fn) (first cap:Array Value) (w:World),(Instr.makeFunc fn first cap).run Tryz.prog w=.ok (.func fn first cap) w:=fun _ _ _ _=>rfl
 have HA:=hid (fun u:World=>asked13 mode u)
 unfold wtR at hz;obtain ⟨ea,hea⟩:∃ e,askE mode=e:=⟨_,rfl⟩;rw [hea] at HA hz;obtain ⟨W,hWW⟩:∃ W,W=(w.alloc (Obj.cells #[.float .f64 0] 24)).alloc (Obj.cells #[.int .i64 0] 25):=⟨_,rfl⟩;obtain ⟨gx,hgx⟩:∃ g,g=w.heap.size:=⟨_,rfl⟩;obtain ⟨ge,hge⟩:∃ g,g=w.heap.size+1:=⟨_,rfl⟩;have HG:Aside (gx=w.heap.size∧ge=w.heap.size+1∧w.heap.size≤gx∧w.heap.size≤ge∧ge≠gx):=⟨hgx,hge,by omega,by omega,by omega⟩
 have B0:=two13 w;rw [←hWW,←hge] at B0;have B1:=qsd (seterr13 ea (show Bl W gx 24 [.float .f64 0] by rw [hgx];exact B0.1) B0.2.1 B0.2.2 HG.out.2.2.2.1 HG.out.2.2.2.2)
 have c1:=B0.2.1.cell 0 _ rfl;have f1:=B0.2.1.frozen 0;have HWW:=qsd hWW;have HX:=(qsd (ai hn (ai hm (ai hF (ai hG (ai hW (ai hV hT)))))));clear hn hm hF hG hW hV hT hWW hea hgx hge B0;go_enter_defers Tryz.func15,Tryz.ntmps15
 go_wp2_with fail
 rw [←HWW.out]
 try rw [show w.heap.size+1=ge by have:=HG.out;omega]
 try rw [show w.heap.size=gx by have:=HG.out;omega]
 clear HWW;refine (HA.out _).mono ?_;rintro r v ⟨rfl,hv⟩;rw [hv];clear hv v
 by_cases h0:ea=0
 · subst h0
   rw [if_pos rfl] at hz;obtain ⟨V,hV⟩:∃ V,V=W.setCell ⟨ge,0,none⟩ (.int .i64 0):=⟨_,rfl⟩;rw [←hV] at B1;have r1:=B1.out.2.1.cell 0 _ rfl;have HV:=qsd hV;obtain ⟨ep,hep⟩:∃ e,prE xs ys=e:=⟨_,rfl⟩;have HP:=hid (paired13 xs ys a b n m c d V HX.out.1 HX.out.2.1 ((HX.out.2.2.1.below B1.out.2.2).mono B1.out.2.2.size) ((HX.out.2.2.2.1.below B1.out.2.2).mono B1.out.2.2.size) HX.out.2.2.2.2.1 HX.out.2.2.2.2.2.1 ep hep);rw [hep] at hz;have HEP:=qsd hep;clear hV HA hep
   go_upto_region 3 with fail
   rw [←HV.out];clear HV c1 f1
   go_wp2_with fail
   refine HP.out.mono ?_;rintro r v ⟨rfl,hb⟩;obtain ⟨V2,hV2⟩:∃ V,V=v.setCell ⟨ge,0,none⟩ (.int .i64 ep):=⟨_,rfl⟩;have b1:=B1.out.1.below hb B1.out.1.lt;have b2:=B1.out.2.1.below hb B1.out.2.1.lt;have b3:=B1.out.2.2.trans (hb.mono B1.out.2.2.size);have B2:=qsd (seterr13 ep b1 b2 b3 HG.out.2.2.2.1 HG.out.2.2.2.2);rw [←hV2] at B2;have q1:=b2.cell 0 _ rfl;have q2:=b2.frozen 0;have HV2:=qsd hV2;clear hb HP B1 b1 b2 b3 hV2 r1
   by_cases he:ep=0
   · subst he
     rw [if_pos rfl] at hz;obtain ⟨hlen,hnm,hpx,hpy,hne0⟩:=prE_ok HEP.out;obtain rfl:n=m:=by rw [HX.out.1,HX.out.2.1];exact hnm
     have hTV:Tab V2:=HX.out.2.2.2.2.2.2.belows B2.out.2.2;have HPr:=hid (products13 xs ys a b n c d V2 HX.out.1 HX.out.2.1 ((HX.out.2.2.1.below B2.out.2.2).mono B2.out.2.2.size) ((HX.out.2.2.2.1.below B2.out.2.2).mono B2.out.2.2.size) HX.out.2.2.2.2.1 HX.out.2.2.2.2.2.1 hTV (by rw [HX.out.1];exact hlen))
     have HEx:=hid (fun (u:World) (hb:Below w.heap.size w u)=>exact13 ys b n d u HX.out.2.1 ((HX.out.2.2.2.1.below hb).mono hb.size) HX.out.2.2.2.2.2.1 (HX.out.2.2.2.2.2.2.belows hb) (by rw [HX.out.1];exact hlen))
     have Fv:=qsd (wS_fm HX.out.2.2.2.2.1 HX.out.2.2.2.2.2.1 hlen);have Fw:=qsd (vS_fm HX.out.2.2.2.2.2.1 (by omega))
     obtain ⟨kw,hkw,hwb⟩:=wS_bd HX.out.2.2.2.2.1 HX.out.2.2.2.2.2.1 hlen;obtain ⟨kv,hkv,hvb⟩:=vS_bd HX.out.2.2.2.2.2.1 (by omega)
     obtain ⟨Vs,hVs⟩:∃ V,wS xs ys=V:=⟨_,rfl⟩;obtain ⟨Ws,hWs⟩:∃ V,vS ys=V:=⟨_,rfl⟩;rw [hVs] at HPr Fv hwb hz;rw [hWs] at HEx Fw hvb hz;obtain ⟨g1,g2,g3⟩:=sgn_ex kv (by omega) hvb
     have n1:=ex_neg kw (by omega) hwb
     have n2:=ex_neg kv (by omega) hvb
     have Fv':=qsd (ex_fm (-Vs) kw (by omega) (by rw [Int.natAbs_neg];exact hwb))
     have Fw':=qsd (ex_fm (-Ws) kv (by omega) (by rw [Int.natAbs_neg];exact hvb))
     obtain ⟨⟨xl,el⟩,hl⟩:∃ z,wqR Vs Ws mode=z:=⟨_,rfl⟩;rw [hl] at hz;have hz1:(bsd el xl,el)=(X,E):=hz;have HXE:=qsd (Prod.mk.inj hz1)
     have HR0:∀ (o1 o2:Option (Bool×Nat×Int)) (z:Nat×Int),Fm o1→Fm o2→quoR rndS ⟨dN o1,.bool false,dX o1,dE o1,dN o2,.bool false,dX o2,dE o2⟩ mode=z→∀ (u:World) (p q:Option Addr) (cp cq:Nat),Tab u→Nt 0 u (.slice p (ws (dX o1)).length cp) (dX o1)→Nt 0 u (.slice q (ws (dX o2)).length cq) (dX o2)→Calls Tryz.prog 46 #[.agg #[.bool (dN o1),.slice p (ws (dX o1)).length cp,.int .i64 (dE o1),.bool (dN o2),.slice q (ws (dX o2)).length cq,.int .i64 (dE o2)],.int .i64 mode] u fun r w'=>r=.returned (.tuple #[.float .f64 z.1,.int .i64 z.2])∧Below u.heap.size u w':=fun o1 o2 z F1 F2 hq u p q cp cq hT n1 n2=>by
      have:=Quot11 (w:=u) (n:=dN o1) (m:=dN o2) (X:=dX o1) (Y:=dX o2) (e:=dE o1) (f:=dE o2) mode ⟨n1.av (Nat.le_trans F1.len (by decide)),n2.av (Nat.le_trans F2.len (by decide)),F1.rng,F2.rng⟩ hT
      rw [show quoR rndS ⟨dN o1,.slice p (ws (dX o1)).length cp,dX o1,dE o1,dN o2,.slice q (ws (dX o2)).length cq,dX o2,dE o2⟩ mode=z from hq] at this
      exact this
     have HNg0:∀ (o o':Option (Bool×Nat×Int)),Fm o→mkS (!dN o) (dX o) (dE o)=o'→∀ (u:World) (p:Option Addr) (cp:Nat),Tab u→Nt 0 u (.slice p (ws (dX o)).length cp) (dX o)→Calls Tryz.prog 45 #[.agg #[.bool (dN o),.slice p (ws (dX o)).length cp,.int .i64 (dE o)]] u fun r u'=>(∃ v,r=.returned (.agg #[.bool (dN o'),v,.int .i64 (dE o')])∧Nt u.heap.size u' v (dX o'))∧Below u.heap.size u u':=fun o o' F hm u p cp hT n1=>by
      have:=Neg_any (F.a12 n1) hT (dN o) (dE o) F.rng.1 F.rng.2;rw [val_ws,hm] at this;exact this
     have HS:Hid (∀ (u:World) (p:Option Addr) (q:Nat),Nt 0 u (.slice p (ws (dX (exV Ws))).length q) (dX (exV Ws))→Calls Tryz.prog 44 #[.agg #[.bool (dN (exV Ws)),.slice p (ws (dX (exV Ws))).length q,.int .i64 (dE (exV Ws))]] u fun r u'=>r=.returned (.int .i64 (sgn (dN (exV Ws)) (val (ws (dX (exV Ws))))))∧Below u.heap.size u u'):=fun u p q hN=>Sign_any3 (Fw.out.a12 hN) _ _
     have HNv:=hid (HNg0 _ _ Fv.out n1);have HNw:=hid (HNg0 _ _ Fw.out n2);have HR1:Hid (Ws<0→_):=fun hs=>HR0 (exV (-Vs)) (exV (-Ws)) (xl,el) Fv'.out Fw'.out (by rw [←hl];unfold wqR;rw [if_pos hs];rfl)
     have HR2:Hid (¬ Ws<0→_):=fun hs=>HR0 (exV Vs) (exV Ws) (xl,el) Fv.out Fw.out (by rw [←hl];unfold wqR;rw [if_neg hs];rfl)
     obtain ⟨ov,hov⟩:∃ o,exV Vs=o:=⟨_,rfl⟩;obtain ⟨ow,how⟩:∃ o,exV Ws=o:=⟨_,rfl⟩;obtain ⟨ov',hov'⟩:∃ o,exV (-Vs)=o:=⟨_,rfl⟩;obtain ⟨ow',how'⟩:∃ o,exV (-Ws)=o:=⟨_,rfl⟩;rw [hov] at HPr Fv HNv HR2;rw [how] at HEx Fw HNw HR2 HS g3;rw [hov'] at Fv' HNv HR1;rw [how'] at Fw' HNw HR1;obtain ⟨sg,hsg⟩:∃ s,sgn (dN ow) (val (ws (dX ow)))=s:=⟨_,rfl⟩;rw [hsg] at HS g3;have HG3:=qsd g3;have HTV:=qsd hTV;simp only at HR1 HR2;clear hlen hnm hpx hpy hne0 hwb hvb hkw hkv g1 g2 g3 n1 n2 hz hz1 hl HR0 HNg0 hov how hov' how' hsg hVs hWs HEP hTV kw kv;have r1:=B2.out.2.1.cell 0 _ rfl
     go_upto_region 5 with fail
     rw [←HV2.out];clear HV2 q1 q2
     go_wp2_with fail
     refine HPr.out.mono ?_;rintro r u1 ⟨v1,rfl,hN1,hb1⟩;obtain ⟨p1,k1,rfl,hN1⟩:=Lo.shape Fv.out hN1;have B3:Aside (Bl u1 gx 24 [.float .f64 0]∧Bl u1 ge 25 [.int .i64 0]∧Below w.heap.size w u1∧Nt 0 u1 (.slice p1 (ws (dX ov)).length k1) (dX ov)):=⟨B2.out.1.below hb1 B2.out.1.lt,B2.out.2.1.below hb1 B2.out.2.1.lt,B2.out.2.2.trans (hb1.mono B2.out.2.2.size),hN1⟩;clear hb1 hN1 HPr B2 r1;have CE:=hid (HEx.out u1 B3.out.2.2.1);clear HEx
     go_wp2_with fail
     refine CE.out.mono ?_;rintro r u2 ⟨v2,rfl,hN2,hb2⟩;obtain ⟨p2,k2,rfl,hN2⟩:=Lo.shape Fw.out hN2;obtain ⟨U,hU⟩:∃ U,U=u2.alloc (Obj.cells #[.bool (dN ov),.slice p1 (ws (dX ov)).length k1,.int .i64 (dE ov),.bool (dN ow),.slice p2 (ws (dX ow)).length k2,.int .i64 (dE ow)] 71):=⟨_,rfl⟩;obtain ⟨gr,hgr⟩:∃ g,u2.heap.size=g:=⟨_,rfl⟩
     have B4:Aside (Bl U gr 71 [.bool (dN ov),.slice p1 (ws (dX ov)).length k1,.int .i64 (dE ov),.bool (dN ow),.slice p2 (ws (dX ow)).length k2,.int .i64 (dE ow)]∧Bl U gx 24 [.float .f64 0]∧Bl U ge 25 [.int .i64 0]∧Below w.heap.size w U∧Tab U∧Nt 0 U (.slice p1 (ws (dX ov)).length k1) (dX ov)∧Nt 0 U (.slice p2 (ws (dX ow)).length k2) (dX ow)):=by
      have hb3:=B3.out.2.2.1.trans (hb2.mono B3.out.2.2.1.size);have hbU:Below u2.heap.size u2 U:=by rw [hU];exact below_alloc _ _
      have hbw:Below w.heap.size w U:=hb3.trans (hbU.mono hb3.size);refine ⟨by rw [hU,←hgr];exact Bl.new _ 71 [_,_,_,_,_,_],?_,?_,hbw,HX.out.2.2.2.2.2.2.belows hbw,(B3.out.2.2.2.below hb2).below hbU,hN2.below hbU⟩
      · exact (B3.out.1.below hb2 B3.out.1.lt).below hbU (by have:=B3.out.1.lt;have:=hb2.size;omega)
      · exact (B3.out.2.1.below hb2 B3.out.2.1.lt).below hbU (by have:=B3.out.2.1.lt;have:=hb2.size;omega)
     have HU:=qsd hU;have HGR:=qsd hgr;have HGR2:Aside (w.heap.size≤gr):=by have h1:=B3.out.2.2.1.size;have h2:=hb2.size;rw [Aside,←hgr];omega
     clear hb2 hN2 CE B3 hU hgr;have s3:=B4.out.1.cell 3 _ rfl;have s4:=B4.out.1.cell 4 _ rfl;have s5:=B4.out.1.cell 5 _ rfl
     go_upto_region 7 with fail
     rw [←HU.out,HGR.out];clear HU HGR;have CS:=hid (HS.out U p2 k2 B4.out.2.2.2.2.2.2);clear HS
     go_wp2_with fail
     refine CS.out.mono ?_;rintro r u3 ⟨rfl,hb3⟩
     have B5:Aside (Bl u3 gr 71 [.bool (dN ov),.slice p1 (ws (dX ov)).length k1,.int .i64 (dE ov),.bool (dN ow),.slice p2 (ws (dX ow)).length k2,.int .i64 (dE ow)]∧Bl u3 gx 24 [.float .f64 0]∧Bl u3 ge 25 [.int .i64 0]∧Below w.heap.size w u3∧Tab u3∧Nt 0 u3 (.slice p1 (ws (dX ov)).length k1) (dX ov)∧Nt 0 u3 (.slice p2 (ws (dX ow)).length k2) (dX ow)) :=
      ⟨B4.out.1.below hb3 B4.out.1.lt,B4.out.2.1.below hb3 B4.out.2.1.lt,B4.out.2.2.1.below hb3 B4.out.2.2.1.lt,B4.out.2.2.2.1.trans (hb3.mono B4.out.2.2.2.1.size),B4.out.2.2.2.2.1.belows hb3,B4.out.2.2.2.2.2.1.below hb3,B4.out.2.2.2.2.2.2.below hb3⟩
     clear hb3 CS B4 s3 s4 s5
     by_cases hs:Ws<0
     · have HR:=hid (HR1.out hs)
       have d5:decide (sg<0)=true:=decide_eq_true (HG3.out.1 hs);clear HR1 HR2
       go_upto_region 8 with fail
       refine calm13 ?_;have hdr:=(Below.refl u3.heap.size u3).drew;have BB:=(qsd (ai B5.out.1.drew (ai B5.out.2.1.drew (ai B5.out.2.2.1.drew (ai (B5.out.2.2.2.1.trans (hdr.mono B5.out.2.2.2.1.size)) (ai (B5.out.2.2.2.2.1.belows hdr) (ai (B5.out.2.2.2.2.2.1.below hdr) (B5.out.2.2.2.2.2.2.below hdr))))))));clear hdr B5;have s0:=BB.out.1.cell 0 _ rfl;have s1:=BB.out.1.cell 1 _ rfl;have s2:=BB.out.1.cell 2 _ rfl;have s3:=BB.out.1.cell 3 _ rfl;have s4:=BB.out.1.cell 4 _ rfl;have s5:=BB.out.1.cell 5 _ rfl;have y0:=BB.out.1.frozen 0;have y1:=BB.out.1.frozen 1;have y2:=BB.out.1.frozen 2;have y3:=BB.out.1.frozen 3;have y4:=BB.out.1.frozen 4;have y5:=BB.out.1.frozen 5
       go_region_with (first
        | (go_at_call 45
           with_reducible refine (HNv.out _ p1 k1 BB.out.2.2.2.2.1 BB.out.2.2.2.2.2.1).mono ?_
           rintro r v ⟨⟨q,rfl,hN⟩,hb⟩;obtain ⟨p3,k3,rfl,hN0⟩:=Lo.shape Fv'.out hN;have BB:=qsd (ai (BB.out.1.below hb BB.out.1.lt) (ai (BB.out.2.1.below hb BB.out.2.1.lt) (ai (BB.out.2.2.1.below hb BB.out.2.2.1.lt) (ai (BB.out.2.2.2.1.trans (hb.mono BB.out.2.2.2.1.size)) (ai (BB.out.2.2.2.2.1.belows hb) (ai (BB.out.2.2.2.2.2.1.below hb) (BB.out.2.2.2.2.2.2.below hb)))))));have Q2:=qsd hN0;have s0:=BB.out.1.cell 0 _ rfl;have s1:=BB.out.1.cell 1 _ rfl;have s2:=BB.out.1.cell 2 _ rfl;have s3:=BB.out.1.cell 3 _ rfl;have s4:=BB.out.1.cell 4 _ rfl;have s5:=BB.out.1.cell 5 _ rfl;clear hb hN hN0)
        | (go_at_call 45
           with_reducible refine (HNw.out _ p2 k2 BB.out.2.2.2.2.1 BB.out.2.2.2.2.2.2).mono ?_
           rintro r v ⟨⟨q,rfl,hN⟩,hb⟩;obtain ⟨p4,k4,rfl,hN0⟩:=Lo.shape Fw'.out hN;have BB:=qsd (ai (BB.out.1.below hb BB.out.1.lt) (ai (BB.out.2.1.below hb BB.out.2.1.lt) (ai (BB.out.2.2.1.below hb BB.out.2.2.1.lt) (ai (BB.out.2.2.2.1.trans (hb.mono BB.out.2.2.2.1.size)) (ai (BB.out.2.2.2.2.1.belows hb) (ai (Q2.out.below hb) hN0))))));have s0:=BB.out.1.cell 0 _ rfl;have s1:=BB.out.1.cell 1 _ rfl;have s2:=BB.out.1.cell 2 _ rfl;have s3:=BB.out.1.cell 3 _ rfl;have s4:=BB.out.1.cell 4 _ rfl;have s5:=BB.out.1.cell 5 _ rfl;have y0:=BB.out.1.frozen 0;have y1:=BB.out.1.frozen 1;have y2:=BB.out.1.frozen 2;have y3:=BB.out.1.frozen 3;have y4:=BB.out.1.frozen 4;have y5:=BB.out.1.frozen 5;clear hb hN hN0))
       all_goals
        clear HNv HNw Q2 s0 s1 s2 s3 s4 s5 y0 y1 y2 y3 y4 y5;obtain ⟨Z,hZ⟩:∃ Z,Z=(((((v.setCell ⟨gr,0,none⟩ (.bool (dN ov'))).setCell ⟨gr,1,none⟩ (.slice p3 (ws (dX ov')).length k3)).setCell ⟨gr,2,none⟩ (.int .i64 (dE ov'))).setCell ⟨gr,3,none⟩ (.bool (dN ow'))).setCell ⟨gr,4,none⟩ (.slice p4 (ws (dX ow')).length k4)).setCell ⟨gr,5,none⟩ (.int .i64 (dE ow')):=⟨_,rfl⟩
        have B7:Aside (Bl Z gr 71 [.bool (dN ov'),.slice p3 (ws (dX ov')).length k3,.int .i64 (dE ov'),.bool (dN ow'),.slice p4 (ws (dX ow')).length k4,.int .i64 (dE ow')]∧Bl Z gx 24 [.float .f64 0]∧Bl Z ge 25 [.int .i64 0]∧Below w.heap.size w Z∧Tab Z∧Nt 0 Z (.slice p3 (ws (dX ov')).length k3) (dX ov')∧Nt 0 Z (.slice p4 (ws (dX ow')).length k4) (dX ow')):=by
         have bz:But gr v Z:=by rw [hZ];exact Ps.But.set6 (But.refl _ _) _ _ _ _ _ _
         have hgx:gx≠gr:=by rintro rfl;have:=BB.out.2.1.symm.trans BB.out.1;simp at this
         have hge:ge≠gr:=by rintro rfl;have:=BB.out.2.2.1.symm.trans BB.out.1;simp at this
         have hgl:w.heap.size≤gr:=HGR2.out;have hbz:=But.below BB.out.2.2.2.1 bz BB.out.2.2.2.1.size hgl;refine ⟨by rw [hZ];exact (((((BB.out.1.set 0 _).set 1 _).set 2 _).set 3 _).set 4 _).set 5 _,BB.out.2.1.but bz hgx,BB.out.2.2.1.but bz hge,hbz,HX.out.2.2.2.2.2.2.belows hbz,BB.out.2.2.2.2.2.1.off13 BB.out.1 (by decide) bz,BB.out.2.2.2.2.2.2.off13 BB.out.1 (by decide) bz⟩
        rw [←hZ];clear hZ BB;have s0:=B7.out.1.cell 0 _ rfl;have s1:=B7.out.1.cell 1 _ rfl;have s2:=B7.out.1.cell 2 _ rfl;have s3:=B7.out.1.cell 3 _ rfl;have s4:=B7.out.1.cell 4 _ rfl;have s5:=B7.out.1.cell 5 _ rfl;have C:=hid (HR.out _ p3 p4 k3 k4 B7.out.2.2.2.2.1 B7.out.2.2.2.2.2.1 B7.out.2.2.2.2.2.2)
        go_wp2_with fail
        refine C.out.mono ?_;rintro r v ⟨rfl,hb⟩
        have B6:Aside (Bl v gx 24 [.float .f64 0]∧Bl v ge 25 [.int .i64 0]∧Below w.heap.size w v) :=
         ⟨B7.out.2.1.below hb B7.out.2.1.lt,B7.out.2.2.1.below hb B7.out.2.2.1.lt,B7.out.2.2.2.1.trans (hb.mono B7.out.2.2.2.1.size)⟩
        have t1:=B6.out.1.cell 0 _ rfl;have t2:=B6.out.1.frozen 0;have t3:=B6.out.2.1.cell 0 _ rfl;have t4:=B6.out.2.1.frozen 0;have hne1:ge≠gx:=HG.out.2.2.2.2;have hne2:gx≠ge:=fun h=>HG.out.2.2.2.2 h.symm
        clear hb B7 C HR s0 s1 s2 s3 s4 s5;go_wp2;refine finish13 Tryz.results15 Weighted1_d B6.out.1 B6.out.2.1 B6.out.2.2 HG.out.2.2.1 HG.out.2.2.2.1 HG.out.2.2.2.2 HXE.out.1 HXE.out.2 (fun _=>by simp [go_sem]) ?_ ?_ <;> rfl
     · have HR:=hid (HR2.out (by omega))
       have d5:decide (sg<0)=false:=decide_eq_false (fun h=>hs (HG3.out.2 h))
       clear HR1 HR2 HNv HNw;have s0:=B5.out.1.cell 0 _ rfl;have s1:=B5.out.1.cell 1 _ rfl;have s2:=B5.out.1.cell 2 _ rfl;have s3:=B5.out.1.cell 3 _ rfl;have s4:=B5.out.1.cell 4 _ rfl;have s5:=B5.out.1.cell 5 _ rfl;have C:=hid (HR.out _ p1 p2 k1 k2 B5.out.2.2.2.2.1 B5.out.2.2.2.2.2.1 B5.out.2.2.2.2.2.2)
       go_wp2_with fail
       refine C.out.mono ?_;rintro r v ⟨rfl,hb⟩
       have B6:Aside (Bl v gx 24 [.float .f64 0]∧Bl v ge 25 [.int .i64 0]∧Below w.heap.size w v) :=
        ⟨B5.out.2.1.below hb B5.out.2.1.lt,B5.out.2.2.1.below hb B5.out.2.2.1.lt,B5.out.2.2.2.1.trans (hb.mono B5.out.2.2.2.1.size)⟩
       have t1:=B6.out.1.cell 0 _ rfl;have t2:=B6.out.1.frozen 0;have t3:=B6.out.2.1.cell 0 _ rfl;have t4:=B6.out.2.1.frozen 0;have hne1:ge≠gx:=HG.out.2.2.2.2;have hne2:gx≠ge:=fun h=>HG.out.2.2.2.2 h.symm
       clear hb B5 C HR s0 s1 s2 s3 s4 s5;go_wp2;refine finish13 Tryz.results15 Weighted1_d B6.out.1 B6.out.2.1 B6.out.2.2 HG.out.2.2.1 HG.out.2.2.2.1 HG.out.2.2.2.2 HXE.out.1 HXE.out.2 (fun _=>by simp [go_sem]) ?_ ?_ <;> rfl
   · rw [if_neg he] at hz
     have HXE:=qsd (Prod.mk.inj hz);have h1:(ep==0)=false:=by simp [he]
     have r1:=B2.out.2.1.cell 0 _ rfl;clear hz HEP
     go_upto_region 5 with fail
     rw [←HV2.out];clear HV2 q1 q2;go_wp2;refine early13 Tryz.results15 Weighted1_d B2.out.1 B2.out.2.1 B2.out.2.2 HG.out.2.2.1 HG.out.2.2.2.2 ((bsd_zero _).trans HXE.out.1) HXE.out.2 (by simp [go_sem]) ?_ ?_ <;> rfl
 · rw [if_neg h0] at hz
   have HXE:=qsd (Prod.mk.inj hz);have h1:(ea==0)=false:=by simp [h0]
   clear hz HA;go_wp2;refine early13 Tryz.results15 Weighted1_d B1.out.1 B1.out.2.1 B1.out.2.2 HG.out.2.2.1 HG.out.2.2.2.2 ((bsd_zero _).trans HXE.out.1) HXE.out.2 (by simp [go_sem]) ?_ ?_ <;> rfl
end
section
open Go.RowKit J
open Go.Proofs.YtjldfhecnaiinaaGreatDoor.B (f64bits f64frombits)
attribute [local go_sem] st_float f64bits f64frombits
theorem own13 {V W:Int}(hV:V≠0) (hW:0<W) (k:Nat) (hk:k≤90000) (hb:V.natAbs<2^k) (hb2:W.natAbs<2^k) (L:Nat) (hL:L<9218868437227405312) (e:∀ j,j=1074→V.natAbs*2^j=vK L*W.natAbs) (mode:Int) (hm0:0≤mode) (hm4:mode≤4) :
 qvR V W mode=(L+(if V<0 then 9223372036854775808 else 0),0):=by
 obtain ⟨K,t,m,hL1,hR⟩:=quot_lies hV hW k hk hb hb2;rw [hR mode hm0 hm4,rK_own mode _ (hL1 1074 rfl) L hL (e 1074 rfl)]
theorem lenW_bd (N:Nat) (h:N≤65536) (k:Nat) (hk:k=2148):∃ j:Nat,j=4238∧((N:Int)*((2^k:Nat):Int)).natAbs<2^j:=by
 obtain ⟨j,hj⟩:∃ j:Nat,j=4238:=⟨_,rfl⟩;refine ⟨j,hj,?_⟩;rw [←Int.natCast_mul,Int.natAbs_natCast];have h1:N*2^k<2^17*2^k:=Nat.mul_lt_mul_of_pos_right (by omega) (Nat.two_pow_pos k)
 rw [←Nat.pow_add] at h1;exact Nat.lt_of_lt_of_le h1 (Nat.pow_le_pow_right (by decide) (by omega))
theorem lev_own {xs:List Nat}{s:Sp}{mode:Int}(hW:W64 xs) (hl:xs.length≤65536) (hne:xs≠[]) (hV:vS xs≠0) (hm0:0≤mode) (hm4:mode≤4) (L:Nat) (hL:L<9218868437227405312) (e:∀ j k,j=1074→k=2148→(vS xs).natAbs*2^j=vK L*(xs.length*2^k)) :
 levR xs s mode=(L+(if vS xs<0 then 9223372036854775808 else 0),0):=by
 unfold levR;obtain ⟨k,hk⟩:∃ k:Nat,k=2148:=⟨_,rfl⟩;obtain ⟨j,hj,hb⟩:=vS_bd hW hl;obtain ⟨j2,hj2,hb2⟩:=lenW_bd xs.length hl k hk;rw [if_neg hne,if_neg hV,qn_qv _ _ _ k hk];have hp:0<xs.length:=List.length_pos_iff.2 hne;have hpk:=Nat.two_pow_pos k;refine own13 hV ?_ j (by omega) hb (by rw [hj,←hj2];exact hb2) L hL ?_ mode hm0 hm4
 · rw [←Int.natCast_mul];have:=Nat.mul_pos hp hpk;omega
 · intro i hi
   rw [←Int.natCast_mul,Int.natAbs_natCast];exact e i k hi hk
theorem mean126:meanR [4607182418800017408,4611686018427387904,4618441417868443648] 0 0 0=(4613937818241073152,0):=by
 have e1:askE 0=0:=by decide
 have e2:sfE 0 0 [4607182418800017408,4611686018427387904,4618441417868443648]=0:=by decide +kernel
 have e3:vd (snd (sS [4607182418800017408,4611686018427387904,4618441417868443648]).n (sS [4607182418800017408,4611686018427387904,4618441417868443648]).u (sS [4607182418800017408,4611686018427387904,4618441417868443648]).d (sS [4607182418800017408,4611686018427387904,4618441417868443648]).m (sS [4607182418800017408,4611686018427387904,4618441417868443648]).p (sS [4607182418800017408,4611686018427387904,4618441417868443648]).a&&may 0 0) (sS [4607182418800017408,4611686018427387904,4618441417868443648]).n (sS [4607182418800017408,4611686018427387904,4618441417868443648]).u (sS [4607182418800017408,4611686018427387904,4618441417868443648]).d 0 0=(0,false):=by decide +kernel
 have e4:Ps.fin [4607182418800017408,4611686018427387904,4618441417868443648]=[4607182418800017408,4611686018427387904,4618441417868443648]:=by decide +kernel
 have hp:decide (0<vS [4607182418800017408,4611686018427387904,4618441417868443648])=true:=by decide +kernel
 have hp:=of_decide_eq_true hp;have e5:=lev_own (xs:=[4607182418800017408,4611686018427387904,4618441417868443648]) (s:=sS [4607182418800017408,4611686018427387904,4618441417868443648]) (mode:=0) (by unfold W64;decide) (by decide) (by decide) (by omega) (by decide) (by decide) 4613937818241073152 (by decide) (fun j k hj hk=>by subst hj hk;decide +kernel)
 unfold meanR;rw [e1,if_pos rfl,e2,if_pos rfl,e3,if_neg (by decide),e4,e5,if_neg (by omega)]
 rfl
theorem mid12:midR 4607182418800017408 4611686018427387904 0=(4609434218613702656,0):=by
 have e1:askE 0=0:=by decide
 have e2:plE [4607182418800017408,4611686018427387904]=0:=by decide +kernel
 have hp:decide (0<vS [4607182418800017408,4611686018427387904])=true:=by decide +kernel
 have hp:=of_decide_eq_true hp;have e5:=lev_own (xs:=[4607182418800017408,4611686018427387904]) (s:=sS [4607182418800017408,4611686018427387904]) (mode:=0) (by unfold W64;decide) (by decide) (by decide) (by omega) (by decide) (by decide) 4609434218613702656 (by decide) (fun j k hj hk=>by subst hj hk;decide +kernel)
 unfold midR plnR;rw [e1,if_pos rfl,e2,if_pos rfl,e5,if_neg (by omega)]
 rfl
theorem wt12:wtR [4607182418800017408,4611686018427387904] [4607182418800017408,4613937818241073152] 0=(4610560118520545280,0):=by
 have e1:askE 0=0:=by decide
 have e2:prE [4607182418800017408,4611686018427387904] [4607182418800017408,4613937818241073152]=0:=by decide +kernel
 have hp:decide (0<wS [4607182418800017408,4611686018427387904] [4607182418800017408,4613937818241073152])=true:=by decide +kernel
 have hp:=of_decide_eq_true hp;have hq:decide (0<vS [4607182418800017408,4613937818241073152])=true:=by decide +kernel
 have hq:=of_decide_eq_true hq;have w1:W64 [4607182418800017408,4611686018427387904]:=by unfold W64;decide
 have w2:W64 [4607182418800017408,4613937818241073152]:=by unfold W64;decide
 obtain ⟨k1,hk1,hb1⟩:=wS_bd w1 w2 (by decide)
 obtain ⟨k2,hk2,hb2⟩:=vS_bd w2 (by decide)
 have e5:=own13 (V:=wS [4607182418800017408,4611686018427387904] [4607182418800017408,4613937818241073152]) (W:=vS [4607182418800017408,4613937818241073152]) (by omega) hq k1 (by omega) hb1 (by rw [hk1,←hk2];exact hb2) 4610560118520545280 (by decide) (fun j hj=>by subst hj;decide +kernel) 0 (by decide) (by decide)
 unfold wtR wqR;rw [e1,if_pos rfl,e2,if_pos rfl,if_neg (by omega),e5,if_neg (by omega)]
 rfl
theorem lit13 (w:World) (xs:List Nat) (g:Nat) (hg:g=w.heap.size):Fs (w.alloc (Obj.cells (xs.map fun x=>Value.float .f64 x).toArray 24)).heap.size (w.alloc (Obj.cells (xs.map fun x=>Value.float .f64 x).toArray 24)) (some ⟨g,0,none⟩) xs:=by
 intro _;refine ⟨g,0,by simp;omega,rfl,fun i hi=>?_⟩
 have hB:=Bl.new w 24 (xs.map fun x=>Value.float .f64 x)
 rw [hg];refine (hB.cell (0+i) (.float .f64 (xs.getD i 0)) ?_);rw [Nat.zero_add,List.getElem?_map,List.getD_eq_getElem?_getD,List.getElem?_eq_getElem hi]
 rfl
theorem live13 (w:World) (hT:Tab w):Calls Tryz.prog 9 #[] w fun r w'=>r=.returned (.bool true)∧Below w.heap.size w w':=by
 have o3:(FloatKind.f64.format.order 4613937818241073152 4613937818241073152==some .eq)=true:=by decide +kernel
 have o175:(FloatKind.f64.format.order 4610560118520545280 4610560118520545280==some .eq)=true:=by decide +kernel
 have o15:(FloatKind.f64.format.order 4609434218613702656 4609434218613702656==some .eq)=true:=by decide +kernel
 obtain ⟨W1,hW1⟩:∃ W,W=w.alloc (Obj.cells #[.float .f64 4607182418800017408,.float .f64 4611686018427387904,.float .f64 4618441417868443648] 24):=⟨_,rfl⟩
 have B1:Aside (Below w.heap.size w W1∧Fs W1.heap.size W1 (some ⟨w.heap.size,0,none⟩) [4607182418800017408,4611686018427387904,4618441417868443648]):=by
  rw [hW1];exact ⟨bel_alloc _ _,lit13 w [_,_,_] _ rfl⟩
 have HT:=qsd hT;have C1:=hid (Mean13 [4607182418800017408,4611686018427387904,4618441417868443648] (some ⟨w.heap.size,0,none⟩) 3 3 0 0 0 W1 rfl B1.out.2 (by unfold W64;decide) (hT.belows B1.out.1) (by decide) _ mean126)
 have HW1:=qsd hW1;clear hW1 hT;go_enter Tryz.func9,Tryz.ntmps9
 go_wp2_with fail
 rw [←HW1.out];clear HW1;refine C1.out.mono ?_;rintro r u1 ⟨rfl,hb1⟩;have B2:=qsd (B1.out.1.trans (hb1.mono B1.out.1.size));clear hb1 C1 B1;obtain ⟨W2,hW2⟩:∃ W,W=(u1.alloc (Obj.cells #[.float .f64 4607182418800017408,.float .f64 4611686018427387904] 24)).alloc (Obj.cells #[.float .f64 4607182418800017408,.float .f64 4613937818241073152] 24):=⟨_,rfl⟩
 have B3:Aside (Below w.heap.size w W2∧Fs W2.heap.size W2 (some ⟨u1.heap.size,0,none⟩) [4607182418800017408,4611686018427387904]∧Fs W2.heap.size W2 (some ⟨u1.heap.size+1,0,none⟩) [4607182418800017408,4613937818241073152]):=by
  rw [hW2];exact ⟨(B2.out.trans ((bel_alloc _ _).mono B2.out.size)).trans ((bel_alloc _ _).mono (Nat.le_trans B2.out.size (by simp))),((lit13 u1 [_,_] _ rfl).below (bel_alloc _ _)).mono (by simp),lit13 _ [_,_] _ (by simp)⟩
 have C2:=hid (Weighted13 [4607182418800017408,4611686018427387904] [4607182418800017408,4613937818241073152] (some ⟨u1.heap.size,0,none⟩) (some ⟨u1.heap.size+1,0,none⟩) 2 2 2 2 0 W2 rfl rfl B3.out.2.1 B3.out.2.2 (by unfold W64;decide) (by unfold W64;decide) (HT.out.belows B3.out.1) _ wt12)
 have HW2:=qsd hW2;clear hW2
 go_wp2_with fail
 rw [←HW2.out];clear HW2;refine C2.out.mono ?_;rintro r u2 ⟨rfl,hb2⟩;have B4:=qsd (B3.out.1.trans (hb2.mono B3.out.1.size));clear hb2 C2 B3 B2;have C3:=hid (Middle13 4607182418800017408 4611686018427387904 (by decide) (by decide) 0 u2 (HT.out.belows B4.out) _ mid12)
 go_wp2_with fail
 refine C3.out.mono ?_;rintro r u3 ⟨rfl,hb3⟩;have B5:=qsd (B4.out.trans (hb3.mono B4.out.size));clear hb3 C3 B4;simp only;go_wp2;go_ret;exact ⟨rfl,B5.out⟩
theorem exact_law13 (x y:Nat) (w:World):Calls Tryz.prog 11 #[.float .f64 x,.float .f64 y] w fun r w'=>r=.returned (.bool (decide (x=y)))∧w'=w:=by
 go_enter Tryz.func11,Tryz.ntmps11;go_wp2;go_ret;refine ⟨congrArg (fun z=>Ending.returned (Value.bool z)) ?_,rfl⟩
 first | rfl | (rw [Bool.eq_iff_iff];simp;done) | (rw [Bool.eq_iff_iff];simp;omega)
end
section
open Go.RowKit J
attribute [local go_sem] st_float
theorem ask_ok {mode:Int}(h:askE mode=0):0≤mode∧mode≤4:=by
 unfold askE at h
 by_cases h1:mode<0∨4<mode
 · rw [if_pos h1] at h;exact absurd h (by decide)
 · omega
theorem sS_small {xs:List Nat}(hW:W64 xs) (hl:xs.length≤65536):(0≤(sS xs).n∧(sS xs).n≤65536)∧(0≤(sS xs).u∧(sS xs).u≤65536)∧(0≤(sS xs).d∧(sS xs).d≤65536)∧(sS xs).a=xs.length∧(sS xs).a-(sS xs).n-(sS xs).u-(sS xs).d=(Ps.fin xs).length:=by
 rw [sS_cn hW];have h:=fun k=>List.countP_le_length (p:=fun x=>kd x==k) (l:=xs)
 have h5:=h 5;have h3:=h 3;have h4:=h 4;have hf:=fin_count (xs:=xs);unfold Ps.cn at *;refine ⟨⟨?_,?_⟩,⟨?_,?_⟩,⟨?_,?_⟩,rfl,?_⟩ <;> (simp only;omega)
end
section
open Go.RowKit J
attribute [local go_sem] st_float
theorem plE_fin {xs:List Nat}(hW:W64 xs) (hl:xs.length≤65536):(plE xs=0↔∀ x ∈ xs,finW x)∧(plE xs=0∨plE xs=30):=by
 obtain ⟨b1,b2,b3,b4,b5⟩:=sS_small hW hl;unfold plE;rw [if_neg (by omega)]
 have key:(0<(sS xs).n∨0<(sS xs).u+(sS xs).d)↔¬ ∀ x ∈ xs,finW x:=by
  have hf:(Ps.fin xs).length=xs.length↔∀ x ∈ xs,finW x:=by
   constructor
   · intro h x hx
     have:Ps.fin xs=xs:=by
      have:=List.filter_sublist (p:=fun x=>decide (kd x≤2)) (l:=xs)
      exact this.eq_of_length h
     exact fin_all hW x (by rw [this];exact hx)
   · intro h;rw [fin_id hW h]
  rw [←hf];omega
 by_cases h:0<(sS xs).n∨0<(sS xs).u+(sS xs).d
 · rw [if_pos h]
   exact ⟨⟨fun q=>absurd q (by decide),fun q=>absurd q (key.1 h)⟩,.inr rfl⟩
 · rw [if_neg h]
   refine ⟨⟨fun _=>?_,fun _=>rfl⟩,.inl rfl⟩
   by_cases q:∀ x ∈ xs,finW x
   · exact q
   · exact absurd (key.2 q) h
theorem ask_no {mode:Int}(h:mode<0∨4<mode):askE mode=1:=if_pos h
theorem ask_yes {mode:Int}(h:¬ (mode<0∨4<mode)):askE mode=0:=if_neg h
end
section
open Go.RowKit J
attribute [local go_sem] st_float
theorem wS_take (xs ys:List Nat) (k:Nat) (h1:k<xs.length) (h2:k<ys.length):wS (xs.take (k+1)) (ys.take (k+1))=wS (xs.take k) (ys.take k)+pT (xs.getD k 0) (ys.getD k 0):=by
 unfold wS;rw [pI13_take xs ys k h1 h2,vI_snoc]
theorem W64.take {xs:List Nat}(h:W64 xs) (k:Nat):W64 (xs.take k):=fun x hx=>h x (List.mem_of_mem_take hx)
theorem oW_ex {x:Nat}(hx:x<18446744073709551616) (fx:finW x):oW x=exV (pT x 4607182418800017408):=by
 obtain ⟨h1,h2,h3⟩:=one7 hx;rw [←h2,oZ_fin fx]
theorem qv_nought (V mode:Int) (hm:askE mode=0) (k:Nat) (hk:k≤90000) (hb:V.natAbs<2^k):qvR V 0 mode=(0,21):=by
 obtain ⟨m0,m4⟩:=ask_ok hm;have F:=ex_fm V k (by omega) hb
 unfold qvR;rw [ex_zero];unfold quoR
 have e:errL (oneI ⟨dN (exV V),.bool false,dX (exV V),dE (exV V),dN o00,.bool false,dX o00,dE o00⟩) 1=21:=by
  rw [errL_one]
  show errN (dX (exV V)) (dN (exV V)) (dE (exV V)) 0 false 0=21
  unfold errN;rw [if_neg (by decide),F.re,mkS_zero]
  have:(exV V).isSome=true:=by
   obtain ⟨B,x,h⟩:=F;obtain ⟨n,X,e,h1,_⟩:=h.ex;rw [h1];rfl
  rw [this];rfl
 rw [if_neg (by omega),if_neg (by rw [e];decide),e]
theorem qv_zero (W mode:Int) (hm:askE mode=0) (hW:0<W) (k:Nat) (hk:k≤90000) (hb:W.natAbs<2^k):qvR 0 W mode=(0,0):=by
 obtain ⟨m0,m4⟩:=ask_ok hm;obtain ⟨Y,f,ho,hY,hf0,hf1,hv,hbl,F⟩:=ex_parts13 (V:=W) (by omega) k hk hb
 rw [decide_eq_false (by omega)] at ho F
 have hm2:mkS false Y f=some (false,Y,f):=mkS_idem F;unfold qvR;rw [ex_zero,ho]
 show quoR rndS ⟨false,.bool false,0,0,false,.bool false,Y,f⟩ mode=_
 unfold quoR;rw [if_neg (by omega),if_pos (by rw [errL_one];show errN 0 false 0 Y false f=0;unfold errN;rw [if_neg (by unfold sgn;simp;split <;> omega),mkS_zero,hm2];simp [dX];omega),mkS_zero,hm2]
 show rndS (quoZ false 0 0 Y f) mode=_
 rw [quoZ_nought false 0 Y f (by omega) hbl,rndS_form mode false 0 0 m0 m4]
 rfl
theorem qv_ok {V W mode:Int}(hm:askE mode=0) (hW:0<W) (k:Nat) (hk:k≤90000) (hb:V.natAbs<2^k) (hb2:W.natAbs<2^k):(qvR V W mode).2=0:=by
 obtain ⟨m0,m4⟩:=ask_ok hm
 by_cases h0:V=0
 · subst h0;rw [qv_zero W mode hm hW k hk hb2]
 · obtain ⟨K,t,m,_,hR⟩:=quot_lies h0 hW k hk hb hb2
   rw [hR mode m0 m4]
theorem rWeighted13 (xs ys:List Nat) (a b:Option Addr) (n m c d:Nat) (mode:Int) (w:World) (hn:n=xs.length) (hm:m=ys.length) (hF:Fs w.heap.size w a xs) (hG:Fs w.heap.size w b ys) (hW:W64 xs) (hV:W64 ys) (z:Nat×Int) (hz:wtR xs ys mode=z) :
 Calls Tryz.prog 16 #[.slice a n c,.slice b m d,.int .i64 mode] w fun r w'=>r=.returned (.tuple #[.float .f64 z.1,.int .i64 z.2])∧Below w.heap.size w w':=by
 obtain ⟨X,E⟩:=z;simp only;unfold wtR at hz
 by_cases h1:mode<0
 · rw [ask_no (.inl h1),if_neg (by decide)] at hz
   clear hn hm hF hG hW hV;go_enter Tryz.func16,Tryz.ntmps16;have HXE:=qsd (Prod.mk.inj hz);have HNo:=hid (fun u:World=>no13 1 u)
   go_wp2_with fail
   refine (HNo.out _).mono ?_;rintro r u9 ⟨rfl,hu⟩;rw [hu];clear hu;go_wp2;exact bodyPost_ret (v:=.tuple #[.float .f64 0,.int .i64 1]) (by simp [results,Tryz.results16,go_sem]) rfl ⟨by rw [HXE.out.1,HXE.out.2],Below.refl _ _⟩
 · have d1:decide (mode<0)=false:=decide_eq_false h1
   by_cases h4:4<mode
   · rw [ask_no (.inr h4),if_neg (by decide)] at hz
     clear hn hm hF hG hW hV;go_enter Tryz.func16,Tryz.ntmps16;have HXE:=qsd (Prod.mk.inj hz);have HNo:=hid (fun u:World=>no13 1 u)
     go_wp2_with fail
     refine (HNo.out _).mono ?_;rintro r u9 ⟨rfl,hu⟩;rw [hu];clear hu;go_wp2;exact bodyPost_ret (v:=.tuple #[.float .f64 0,.int .i64 1]) (by simp [results,Tryz.results16,go_sem]) rfl ⟨by rw [HXE.out.1,HXE.out.2],Below.refl _ _⟩
   · have d4:decide (4<mode)=false:=decide_eq_false h4
     have hask:askE mode=0:=ask_yes (by omega)
     rw [hask,if_pos rfl] at hz
     by_cases l1:65536<n
     · have ep:prE xs ys=2:=by unfold prE;rw [if_pos (.inl (by omega))]
       rw [ep,if_neg (by decide)] at hz
       have d5:decide ((65536:Int)<(n:Nat))=true:=by simp;omega
       clear hn hm hF hG hW hV hask ep;go_enter Tryz.func16,Tryz.ntmps16;have HXE:=qsd (Prod.mk.inj hz);have HNo:=hid (fun u:World=>no13 2 u)
       go_wp2_with fail
       refine (HNo.out _).mono ?_;rintro r u9 ⟨rfl,hu⟩;rw [hu];clear hu;go_wp2;exact bodyPost_ret (v:=.tuple #[.float .f64 0,.int .i64 2]) (by simp [results,Tryz.results16,go_sem]) rfl ⟨by rw [HXE.out.1,HXE.out.2],Below.refl _ _⟩
     · have d5:decide ((65536:Int)<(n:Nat))=false:=by simp;omega
       by_cases l2:65536<m
       · have ep:prE xs ys=2:=by unfold prE;rw [if_pos (.inr (by omega))]
         rw [ep,if_neg (by decide)] at hz
         have d6:decide ((65536:Int)<(m:Nat))=true:=by simp;omega
         clear hn hm hF hG hW hV hask ep;go_enter Tryz.func16,Tryz.ntmps16;have HXE:=qsd (Prod.mk.inj hz);have HNo:=hid (fun u:World=>no13 2 u)
         go_wp2_with fail
         refine (HNo.out _).mono ?_;rintro r u9 ⟨rfl,hu⟩;rw [hu];clear hu;go_wp2;exact bodyPost_ret (v:=.tuple #[.float .f64 0,.int .i64 2]) (by simp [results,Tryz.results16,go_sem]) rfl ⟨by rw [HXE.out.1,HXE.out.2],Below.refl _ _⟩
       · have d6:decide ((65536:Int)<(m:Nat))=false:=by simp;omega
         by_cases l3:n=m
         · subst l3
           have hlx:xs.length≤65536:=by omega
           have hly:ys.length≤65536:=by omega
           obtain ⟨fx1,fx2⟩:=plE_fin hW hlx;obtain ⟨fy1,fy2⟩:=plE_fin hV hly;obtain ⟨t1,ht1⟩:∃ t:Bool,t=true↔∀ q ∈ xs,finW q:=⟨decide (plE xs=0),by rw [decide_eq_true_eq];exact fx1⟩
           obtain ⟨t2,ht2⟩:∃ t:Bool,t=true↔∀ q ∈ ys,finW q:=⟨decide (plE ys=0),by rw [decide_eq_true_eq];exact fy1⟩
           have up:∀ u:World,Below w.heap.size w u→Fs u.heap.size u a xs∧Fs u.heap.size u b ys:=fun u hb=>⟨(hF.below hb).mono hb.size,(hG.below hb).mono hb.size⟩
           have HFx:=hid (rFinite13 xs a n c w hn hF hW (by omega) t1 ht1)
           have HFy:=hid (fun (u:World) (hb:Below w.heap.size w u)=>rFinite13 ys b n d u hm (up u hb).2 hV (by omega) t2 ht2)
           have ep:(t1=false∨t2=false→prE xs ys=30)∧(t1=true→t2=true→(xs=[]→prE xs ys=3)∧(xs≠[]→prE xs ys=0)):=by
            unfold prE;rw [if_neg (by omega),if_neg (by omega)]
            have e1:t1=true↔plE xs=0:=ht1.trans fx1.symm;have e2:t2=true↔plE ys=0:=ht2.trans fy1.symm
            cases t1
            · have:plE xs=30:=by rcases fx2 with q | q;exact absurd (e1.2 q) (by decide);exact q
              rw [this,if_pos (by decide)]
              exact ⟨fun _=>rfl,fun h=>by cases h⟩
            · have:plE xs=0:=e1.1 rfl
              rw [this,if_neg (by decide)]
              cases t2
              · have:plE ys=30:=by rcases fy2 with q | q;exact absurd (e2.2 q) (by decide);exact q
                rw [this,if_pos (by decide)]
                exact ⟨fun _=>rfl,fun _ h=>by cases h⟩
              · have:plE ys=0:=e2.1 rfl
                rw [this,if_neg (by decide)]
                exact ⟨fun h=>by simp at h,fun _ _=>⟨fun h=>if_pos h,fun h=>if_neg h⟩⟩
           have HX:=(qsd (ai hn (ai hm (ai hF (ai hG (ai hW (ai hV (ai ht1 ht2))))))));have HQ:=(qsd (ai hlx (ai hly hask)));obtain ⟨epv,hepv⟩:∃ e,prE xs ys=e:=⟨_,rfl⟩;rw [hepv] at hz ep;have HEP:=qsd ep;clear hepv hn hm hF hG hW hV ht1 ht2 hlx hly hask up fx1 fx2 fy1 fy2 ep l1 l2;go_enter Tryz.func16,Tryz.ntmps16
           go_wp2_with fail
           refine HFx.out.mono ?_;rintro r u1 ⟨rfl,hb⟩;have B1:=qsd hb;clear hb HFx
           go_wp2_with fail
           refine (HFy.out _ B1.out).mono ?_;rintro r u2 ⟨rfl,hb⟩;have B2:=qsd (B1.out.trans (hb.mono B1.out.size));clear hb HFy B1
           cases t1 with
           | false =>
             rw [HEP.out.1 (.inl rfl),if_neg (by decide)] at hz
             have HXE:=qsd (Prod.mk.inj hz);have HNo:=hid (fun u:World=>no13 30 u)
             go_wp2_with fail
             refine (HNo.out _).mono ?_;rintro r u9 ⟨rfl,hu⟩;rw [hu];clear hu;go_wp2;exact bodyPost_ret (v:=.tuple #[.float .f64 0,.int .i64 30]) (by simp [results,Tryz.results16,go_sem]) rfl ⟨by rw [HXE.out.1,HXE.out.2],B2.out⟩
           | true =>
             cases t2 with
             | false =>
               rw [HEP.out.1 (.inr rfl),if_neg (by decide)] at hz
               have HXE:=qsd (Prod.mk.inj hz);have HNo:=hid (fun u:World=>no13 30 u)
               go_wp2_with fail
               refine (HNo.out _).mono ?_;rintro r u9 ⟨rfl,hu⟩;rw [hu];clear hu;go_wp2;exact bodyPost_ret (v:=.tuple #[.float .f64 0,.int .i64 30]) (by simp [results,Tryz.results16,go_sem]) rfl ⟨by rw [HXE.out.1,HXE.out.2],B2.out⟩
             | true =>
               by_cases hx0:xs=[]
               · rw [(HEP.out.2 rfl rfl).1 hx0,if_neg (by decide)] at hz
                 have hn0:n=0:=by have:=HX.out.1;rw [hx0] at this;exact this
                 have d7:((n:Int)==0)=true:=by simp [hn0]
                 clear hx0 hn0;have HXE:=qsd (Prod.mk.inj hz);have HNo:=hid (fun u:World=>no13 3 u)
                 go_wp2_with fail
                 refine (HNo.out _).mono ?_;rintro r u9 ⟨rfl,hu⟩;rw [hu];clear hu;go_wp2;exact bodyPost_ret (v:=.tuple #[.float .f64 0,.int .i64 3]) (by simp [results,Tryz.results16,go_sem]) rfl ⟨by rw [HXE.out.1,HXE.out.2],B2.out⟩
               · rw [(HEP.out.2 rfl rfl).2 hx0,if_pos rfl] at hz
                 have hn0:n≠0:=fun h=>hx0 (List.eq_nil_of_length_eq_zero (by rw [←HX.out.1];exact h))
                 have d7:((n:Int)==0)=false:=by rw [beq_eq_false_iff_ne];omega
                 obtain ⟨gn,hgn⟩:∃ g,u2.heap.size=g:=⟨_,rfl⟩;obtain ⟨gd,hgd⟩:∃ g,u2.heap.size+1=g:=⟨_,rfl⟩;obtain ⟨W,hWW⟩:∃ W,W=(u2.alloc (Obj.cells #[.bool false,.slice none 0 0,.int .i64 0] 41)).alloc (Obj.cells #[.bool false,.slice none 0 0,.int .i64 0] 41):=⟨_,rfl⟩
                 have B3:Aside (Lo W gn (exV (wS (xs.take 0) (ys.take 0)))∧Lo W gd (exV (vS (ys.take 0)))∧Below w.heap.size w W):=by
                  rw [List.take_zero,List.take_zero,show wS [] []=0 from rfl,show vS []=0 from rfl,ex_zero,hWW,←hgn,←hgd]
                  have z2:=Lo.zero (u2.alloc (Obj.cells #[.bool false,.slice none 0 0,.int .i64 0] 41));rw [World.size_alloc] at z2;exact ⟨(Lo.zero u2).below (below_alloc _ _),z2,(B2.out.trans ((below_alloc _ _).mono B2.out.size)).trans ((below_alloc _ _).mono (by have:=B2.out.size;simp;omega))⟩
                 have HG:Aside (w.heap.size≤gn∧w.heap.size≤gd∧gn≠gd):=by have:=B2.out.size;exact ⟨by omega,by omega,by omega⟩
                 have HWW:=(qsd (ai hWW (ai hgn hgd)));clear hgn hgd hWW B2;go_wp2;rw [←HWW.out.1,HWW.out.2.2,HWW.out.2.1];clear HWW
                 go_loopg [12] n (fun gk i wr=>∃ k:Nat,gk+k=n∧i=.int .i64 (k:Nat)∧Aside (Lo wr gn (exV (wS (xs.take k) (ys.take k)))∧Lo wr gd (exV (vS (ys.take k)))∧Below w.heap.size w wr))
                 case atStart=>exact ⟨0,by omega,by simp,B3.out⟩
                 case round =>
                  obtain ⟨k,hgk,rfl,HA⟩:=hrel;clear B3
                  by_cases hk:k<n
                  · obtain ⟨b1,o1,rfl,hc1⟩:=HX.out.2.2.1.at HA.out.2.2 k (by rw [←HX.out.1];exact hk)
                    obtain ⟨b2,o2,rfl,hc2⟩:=HX.out.2.2.2.1.at HA.out.2.2 k (by rw [←HX.out.2.1];exact hk)
                    have kx:k<xs.length:=by rw [←HX.out.1];exact hk
                    have ky:k<ys.length:=by rw [←HX.out.2.1];exact hk
                    obtain ⟨x,hx⟩:∃ x,x=xs.getD k 0:=⟨_,rfl⟩;obtain ⟨y,hy⟩:∃ x,x=ys.getD k 0:=⟨_,rfl⟩;rw [←hx] at hc1;rw [←hy] at hc2;have x64:x<18446744073709551616:=by rw [hx];exact HX.out.2.2.2.2.1.get k
                    have y64:y<18446744073709551616:=by rw [hy];exact HX.out.2.2.2.2.2.1.get k
                    have fx:finW x:=by rw [hx];exact HX.out.2.2.2.2.2.2.1.1 (by first | rfl | trivial) _ (by rw [List.getD_eq_getElem?_getD,List.getElem?_eq_getElem kx];exact List.getElem_mem _)
                    have fy:finW y:=by rw [hy];exact HX.out.2.2.2.2.2.2.2.1 (by first | rfl | trivial) _ (by rw [List.getD_eq_getElem?_getD,List.getElem?_eq_getElem ky];exact List.getElem_mem _)
                    obtain ⟨j,hj⟩:∃ j:Nat,j=4238:=⟨_,rfl⟩
                    have bw:∀ i,(wS (xs.take i) (ys.take i)).natAbs<2^j:=fun i=>by
                     obtain ⟨j',hj',h⟩:=wS_bd (HX.out.2.2.2.2.1.take i) (HX.out.2.2.2.2.2.1.take i) (by have:=HQ.out.1;rw [List.length_take];omega)
                     rw [hj,←hj'];exact h
                    have bv:∀ i,(vS (ys.take i)).natAbs<2^j:=fun i=>by
                     obtain ⟨j',hj',h⟩:=vS_bd (HX.out.2.2.2.2.2.1.take i) (by have:=HQ.out.2.1;rw [List.length_take];omega)
                     rw [hj,←hj'];exact h
                    have bp:∀ p q:Nat,p<18446744073709551616→q<18446744073709551616→(pT p q).natAbs<2^j:=fun p q hp hq=>by
                     rw [←HB_two j hj];have:=pT_bound p q hp hq;omega
                    have eP:mulD (oW x) (oW y)=exV (pT x y):=by rw [mul_ex x64 fx y64 fy,(pT_mul x64 y64 fx fy).1]
                    have eN:addD (exV (wS (xs.take k) (ys.take k))) (exV (pT x y))=exV (wS (xs.take (k+1)) (ys.take (k+1))):=by rw [add_ex j (by omega) (bw k) (bp x y x64 y64),wS_take xs ys k kx ky,hx,hy]
                    have eD:addD (exV (vS (ys.take k))) (oW y)=exV (vS (ys.take (k+1))):=by rw [oW_ex y64 fy,add_ex j (by omega) (bv k) (bp y _ y64 (by decide)),vS_take ys k ky,hy]
                    have FX:=qsd (oW_fm x x64 fx);have FY:=qsd (oW_fm y y64 fy);have FP:=qsd (ex_fm (pT x y) j (by omega) (bp x y x64 y64))
                    have FN0:=qsd (ex_fm _ j (by omega) (bw k))
                    have FN1:=qsd (ex_fm _ j (by omega) (bw (k+1)))
                    have FD0:=qsd (ex_fm _ j (by omega) (bv k))
                    have FD1:=qsd (ex_fm _ j (by omega) (bv (k+1)))
                    have HOx:=hid (rof12 x x64 fx wr);have HOy:=hid (fun u:World=>rof12 y y64 fy u)
                    obtain ⟨ox,hox⟩:∃ o,oW x=o:=⟨_,rfl⟩;obtain ⟨oy,hoy⟩:∃ o,oW y=o:=⟨_,rfl⟩;obtain ⟨op,hop⟩:∃ o,exV (pT x y)=o:=⟨_,rfl⟩;obtain ⟨on0,hon0⟩:∃ o,exV (wS (xs.take k) (ys.take k))=o:=⟨_,rfl⟩;obtain ⟨on1,hon1⟩:∃ o,exV (wS (xs.take (k+1)) (ys.take (k+1)))=o:=⟨_,rfl⟩;obtain ⟨od0,hod0⟩:∃ o,exV (vS (ys.take k))=o:=⟨_,rfl⟩;obtain ⟨od1,hod1⟩:∃ o,exV (vS (ys.take (k+1)))=o:=⟨_,rfl⟩;rw [hox,hoy,hop] at eP;rw [hon0,hop,hon1] at eN;rw [hod0,hoy,hod1] at eD;rw [hox] at FX HOx;rw [hoy] at FY HOy;rw [hop] at FP;rw [hon0] at FN0 HA;rw [hon1] at FN1;rw [hod0] at FD0 HA;rw [hod1] at FD1;have HO1:=(qsd (ai hon1 hod1));have HEq:=(qsd (ai eP (ai eN eD)));have hkb:k<4611686018427387904:=by have:=HQ.out.1;have:=HX.out.1;omega
                    have hd:decide ((k:Int)<n)=true:=by simp;omega
                    clear hx hy x64 y64 fx fy kx ky bw bv bp eP eN eD hox hoy hop hon0 hon1 hod0 hod1 hj
                    go_wp2_with fail
                    refine HOx.out.mono ?_;rintro r u ⟨⟨v,rfl,hN⟩,hb⟩;obtain ⟨px,qx,rfl,hN⟩:=Lo.shape FX.out hN;obtain ⟨U,hU⟩:∃ U,U=u.alloc (Obj.cells #[.bool (dN ox),.slice px (ws (dX ox)).length qx,.int .i64 (dE ox)] 41):=⟨_,rfl⟩;obtain ⟨gx,hgx⟩:∃ g,u.heap.size=g:=⟨_,rfl⟩
                    have K1:Aside (Lo U gn on0∧Lo U gd od0∧Lo U gx ox∧Below w.heap.size w U∧Below wr.heap.size wr U):=by
                     have b3:Below wr.heap.size wr U:=by rw [hU];exact hb.trans ((below_alloc _ _).mono hb.size)
                     exact ⟨HA.out.1.below b3,HA.out.2.1.below b3,by rw [hU,←hgx];exact Lo.new hN,HA.out.2.2.trans (b3.mono HA.out.2.2.size),b3⟩
                    have hc2:=(World.cell?_of_block (a:=⟨b2,o2+k,none⟩) (K1.out.2.2.2.2.block b2 (World.block_lt_of_cell? wr _ hc2))).trans hc2;have HU:=(qsd (ai hU hgx));clear hb hN HOx hU hgx HA hc1
                    go_upto_region 19 with fail
                    rw [←HU.out.1,HU.out.2];clear HU
                    go_wp2_with fail
                    refine (HOy.out _).mono ?_;rintro r u ⟨⟨v,rfl,hN⟩,hb⟩;obtain ⟨py,qy,rfl,hN⟩:=Lo.shape FY.out hN;obtain ⟨V,hV⟩:∃ U,U=u.alloc (Obj.cells #[.bool (dN oy),.slice py (ws (dX oy)).length qy,.int .i64 (dE oy)] 41):=⟨_,rfl⟩;obtain ⟨gy,hgy⟩:∃ g,u.heap.size=g:=⟨_,rfl⟩
                    have K2:Aside (Lo V gn on0∧Lo V gd od0∧Lo V gx ox∧Lo V gy oy∧Below w.heap.size w V):=by
                     have b3:Below U.heap.size U V:=by rw [hV];exact hb.trans ((below_alloc _ _).mono hb.size)
                     exact ⟨K1.out.1.below b3,K1.out.2.1.below b3,K1.out.2.2.1.below b3,by rw [hV,←hgy];exact Lo.new hN,K1.out.2.2.2.1.trans (b3.mono K1.out.2.2.2.1.size)⟩
                    have HNE:Aside (gy≠gn):=by have h1:=K1.out.1.lt;have h2:=hb.size;rw [Aside,←hgy];omega
                    have HU:=(qsd (ai hV hgy));clear hb hN HOy hV hgy K1 hc2
                    go_upto_region 20 with fail
                    rw [←HU.out.1,HU.out.2];clear HU;obtain ⟨pa,qa,Da,Ma⟩:=K2.out.2.2.1;obtain ⟨pb,qb,Db,Mb⟩:=K2.out.2.2.2.1;obtain ⟨x0,x1,x2,xf0,xf1,xf2⟩:=Da.facts;obtain ⟨y0,y1,y2,yf0,yf1,yf2⟩:=Db.facts;have C9:=hid (rmul12 FX.out FY.out Ma Mb HEq.out.1 FP.out);clear Da Db Ma Mb
                    go_wp2_with fail
                    refine C9.out.mono ?_;rintro r u ⟨⟨v,rfl,hN⟩,hb⟩;obtain ⟨pz,qz,rfl,hN⟩:=Lo.shape FP.out hN;obtain ⟨Z,hZ⟩:∃ U,U=u.alloc (Obj.cells #[.bool (dN op),.slice pz (ws (dX op)).length qz,.int .i64 (dE op)] 41):=⟨_,rfl⟩;obtain ⟨gz,hgz⟩:∃ g,u.heap.size=g:=⟨_,rfl⟩
                    have K3:Aside (Lo Z gn on0∧Lo Z gd od0∧Lo Z gy oy∧Lo Z gz op∧Below w.heap.size w Z):=by
                     have b3:Below V.heap.size V Z:=by rw [hZ];exact hb.trans ((below_alloc _ _).mono hb.size)
                     exact ⟨K2.out.1.below b3,K2.out.2.1.below b3,K2.out.2.2.2.1.below b3,by rw [hZ,←hgz];exact Lo.new hN,K2.out.2.2.2.2.trans (b3.mono K2.out.2.2.2.2.size)⟩
                    have HU:=(qsd (ai hZ hgz));clear hb hN hZ hgz K2 C9 x0 x1 x2 xf0 xf1 xf2 y0 y1 y2 yf0 yf1 yf2
                    go_upto_region 21 with fail
                    rw [←HU.out.1,HU.out.2];clear HU;obtain ⟨pa,qa,Da,Ma⟩:=K3.out.1;obtain ⟨pb,qb,Db,Mb⟩:=K3.out.2.2.2.1;obtain ⟨x0,x1,x2,xf0,xf1,xf2⟩:=Da.facts;obtain ⟨y0,y1,y2,yf0,yf1,yf2⟩:=Db.facts;have C9:=hid (radd12 FN0.out FP.out Ma Mb HEq.out.2.1 FN1.out);clear Da Db Ma Mb
                    go_wp2_with fail
                    refine C9.out.mono ?_;rintro r v ⟨⟨z9,rfl,hN⟩,hb⟩;obtain ⟨p8,q8,rfl,hN⟩:=Lo.shape FN1.out hN;obtain ⟨Y,hY⟩:∃ Y,Y=st3 v gn (.bool (dN on1)) (.slice p8 (ws (dX on1)).length q8) (.int .i64 (dE on1)):=⟨_,rfl⟩;have L0:=K3.out.1.below hb
                    have K4:Aside (Lo Y gn on1∧Lo Y gd od0∧Lo Y gy oy∧Below w.heap.size w Y):=by
                     have hbw:=K3.out.2.2.2.2.trans (hb.mono K3.out.2.2.2.2.size);rw [hY];exact ⟨L0.set hN,(K3.out.2.1.below hb).other L0 (fun h=>HG.out.2.2 h.symm) _ _ _,(K3.out.2.2.1.below hb).other L0 HNE.out _ _ _,But.below hbw ((((But.refl gn v).set _ _).set _ _).set _ _) hbw.size HG.out.1⟩
                    have HY:Aside (Y=((v.setCell ⟨gn,0,none⟩ (.bool (dN on1))).setCell ⟨gn,1,none⟩ (.slice p8 (ws (dX on1)).length q8)).setCell ⟨gn,2,none⟩ (.int .i64 (dE on1))):=hY;obtain ⟨p7,q7,D7,_⟩:=L0;obtain ⟨x0,x1,x2,xf0,xf1,xf2⟩:=D7.facts;clear hb hN D7 C9 K3 hY y0 y1 y2 yf0 yf1 yf2
                    go_upto_region 22 with fail
                    rw [←HY.out];clear HY x0 x1 x2 xf0 xf1 xf2;obtain ⟨pa,qa,Da,Ma⟩:=K4.out.2.1;obtain ⟨pb,qb,Db,Mb⟩:=K4.out.2.2.1;obtain ⟨x0,x1,x2,xf0,xf1,xf2⟩:=Da.facts;obtain ⟨y0,y1,y2,yf0,yf1,yf2⟩:=Db.facts;have C9:=hid (radd12 FD0.out FY.out Ma Mb HEq.out.2.2 FD1.out);clear Da Db Ma Mb
                    go_wp2_with fail
                    refine C9.out.mono ?_;rintro r v2 ⟨⟨z9,rfl,hN⟩,hb⟩;obtain ⟨p9,q9,rfl,hN⟩:=Lo.shape FD1.out hN;have L0:=K4.out.2.1.below hb
                    have K5:Aside (Lo (st3 v2 gd (.bool (dN od1)) (.slice p9 (ws (dX od1)).length q9) (.int .i64 (dE od1))) gn (exV (wS (xs.take (k+1)) (ys.take (k+1))))∧Lo (st3 v2 gd (.bool (dN od1)) (.slice p9 (ws (dX od1)).length q9) (.int .i64 (dE od1))) gd (exV (vS (ys.take (k+1))))∧Below w.heap.size w (st3 v2 gd (.bool (dN od1)) (.slice p9 (ws (dX od1)).length q9) (.int .i64 (dE od1)))):=by
                     have hbw:=K4.out.2.2.2.trans (hb.mono K4.out.2.2.2.size);rw [HO1.out.1,HO1.out.2];exact ⟨(K4.out.1.below hb).other L0 HG.out.2.2 _ _ _,L0.set hN,But.below hbw ((((But.refl gd v2).set _ _).set _ _).set _ _) hbw.size HG.out.2.1⟩
                    obtain ⟨p7,q7,D7,_⟩:=L0;obtain ⟨x0,x1,x2,xf0,xf1,xf2⟩:=D7.facts;clear hb hN D7 C9 K4 y0 y1 y2 yf0 yf1 yf2;go_wp2
                    go_roundg (gk-1)
                    case measure=>omega
                    case rel=>exact ⟨k+1,by omega,by first | rfl | simp,K5.out⟩
                  · obtain rfl:n=k:=by omega
                    have hd:decide ((n:Int)<n)=false:=by simp
                    have e1:xs.take n=xs:=List.take_of_length_le (by have:=HX.out.1;omega)
                    have e2:ys.take n=ys:=List.take_of_length_le (by have:=HX.out.2.1;omega)
                    rw [e1,e2] at HA;clear e1 e2;obtain ⟨j,hj,bw⟩:=wS_bd HX.out.2.2.2.2.1 HX.out.2.2.2.2.2.1 HQ.out.1;obtain ⟨j2,hj2,bv⟩:=vS_bd HX.out.2.2.2.2.2.1 HQ.out.2.1;rw [hj2,←hj] at bv;clear hj2;obtain ⟨Vs,hVs⟩:∃ V,wS xs ys=V:=⟨_,rfl⟩;obtain ⟨Ws,hWs⟩:∃ V,vS ys=V:=⟨_,rfl⟩;rw [hVs,hWs] at hz HA;rw [hVs] at bw;rw [hWs] at bv;have hask:=HQ.out.2.2;have Fv:=qsd (ex_fm Vs j (by omega) bw)
                    have Fw:=qsd (ex_fm Ws j (by omega) bv)
                    have Fv':=qsd (ex_fm (-Vs) j (by omega) (by rw [Int.natAbs_neg];exact bw))
                    have Fw':=qsd (ex_fm (-Ws) j (by omega) (by rw [Int.natAbs_neg];exact bv))
                    have n1:=ex_neg j (by omega) bw
                    have n2:=ex_neg j (by omega) bv
                    have HR0:∀ (o1 o2:Option (Bool×Nat×Int)) (z:Nat×Int),Fm o1→Fm o2→quoR rndS ⟨dN o1,.bool false,dX o1,dE o1,dN o2,.bool false,dX o2,dE o2⟩ mode=z→∀ (u:World) (p q:Option Addr) (cp cq:Nat),Nt 0 u (.slice p (ws (dX o1)).length cp) (dX o1)→Nt 0 u (.slice q (ws (dX o2)).length cq) (dX o2)→Calls Tryz.prog 52 #[.agg #[.bool (dN o1),.slice p (ws (dX o1)).length cp,.int .i64 (dE o1),.bool (dN o2),.slice q (ws (dX o2)).length cq,.int .i64 (dE o2)],.int .i64 mode] u fun r w'=>r=.returned (.tuple #[.float .f64 z.1,.int .i64 z.2])∧Below u.heap.size u w':=fun o1 o2 z F1 F2 hq u p q cp cq n1 n2=>by
                     have:=docQuot (w:=u) mode (F1.al13 n1) (F2.al13 n2) F1.rng (n:=dN o1) (m:=dN o2) (f:=dE o2) F2.rng;rw [show quoR rndS ⟨dN o1,.slice p (ws (dX o1)).length cp,dX o1,dE o1,dN o2,.slice q (ws (dX o2)).length cq,dX o2,dE o2⟩ mode=z from hq] at this
                     exact this
                    have HNg0:∀ (o o':Option (Bool×Nat×Int)),Fm o→mkS (!dN o) (dX o) (dE o)=o'→∀ (u:World) (p:Option Addr) (cp:Nat),Nt 0 u (.slice p (ws (dX o)).length cp) (dX o)→Calls Tryz.prog 51 #[.agg #[.bool (dN o),.slice p (ws (dX o)).length cp,.int .i64 (dE o)]] u fun r u'=>(∃ v,r=.returned (.agg #[.bool (dN o'),v,.int .i64 (dE o')])∧Nt u.heap.size u' v (dX o'))∧Below u.heap.size u u':=fun o o' F hm u p cp n1=>by
                     have:=rNeg_any (F.a12 n1) F.two (dN o) (dE o) F.rng.1 F.rng.2;rw [val_ws,hm] at this;exact this
                    by_cases hw0:Ws=0
                    · have hz2:(0,21)=(X,E):=by
                       rw [←hz,hw0];unfold wqR;rw [if_neg (by decide),qv_nought Vs mode hask j (by omega) bw];rfl
                      have HXE:=qsd (Prod.mk.inj hz2);have HNo:=hid (fun u:World=>no13 21 u)
                      rw [hw0,ex_zero] at HA;obtain ⟨pa,qa,Da,_⟩:=HA.out.2.1;rw [len00] at Da;obtain ⟨x0,x1,x2,xf0,xf1,xf2⟩:=Da.facts;clear Da hz hz2 HR0 HNg0 n1 n2 hask bw bv hVs hWs hw0
                      go_wp2_with fail
                      refine (HNo.out _).mono ?_;rintro r u9 ⟨rfl,hu⟩;rw [hu];clear hu;go_wp2;exact bodyPost_ret (v:=.tuple #[.float .f64 0,.int .i64 21]) (by simp [results,Tryz.results16,go_sem]) rfl ⟨by rw [HXE.out.1,HXE.out.2],HA.out.2.2⟩
                    · obtain ⟨Y,f,hoW,hY,_,_,_,_,_⟩:=ex_parts13 hw0 j (by omega) bv
                      have hlen:(ws (dX (exV Ws))).length≠0:=by
                       rw [hoW];intro h2;have h3:=val_ws Y;rw [List.eq_nil_of_length_eq_zero (show (ws Y).length=0 from h2)] at h3
                       simp [val] at h3;omega
                      have hl2:(((ws (dX (exV Ws))).length:Int)==0)=false:=by rw [beq_eq_false_iff_ne];omega
                      have hneg:dN (exV Ws)=decide (Ws<0):=by rw [hoW];rfl
                      by_cases hs:Ws<0
                      · have hzz:qvR (-Vs) (-Ws) mode=(X,E):=by
                         rw [←hz];unfold wqR;rw [if_pos hs,qv_ok hask (by omega) j (by omega) (by rw [Int.natAbs_neg];exact bw) (by rw [Int.natAbs_neg];exact bv)]
                         exact Prod.ext rfl (qv_ok hask (by omega) j (by omega) (by rw [Int.natAbs_neg];exact bw) (by rw [Int.natAbs_neg];exact bv))
                        have HQt:=hid (HR0 (exV (-Vs)) (exV (-Ws)) (X,E) Fv'.out Fw'.out hzz);have HNv:=hid (HNg0 _ _ Fv.out n1);have HNw:=hid (HNg0 _ _ Fw.out n2);have hdn:dN (exV Ws)=true:=by rw [hneg];exact decide_eq_true hs
                        simp only at HQt;obtain ⟨ov,hov⟩:∃ o,exV Vs=o:=⟨_,rfl⟩;obtain ⟨ow,how⟩:∃ o,exV Ws=o:=⟨_,rfl⟩;obtain ⟨ov',hov'⟩:∃ o,exV (-Vs)=o:=⟨_,rfl⟩;obtain ⟨ow',how'⟩:∃ o,exV (-Ws)=o:=⟨_,rfl⟩;rw [hov] at HA Fv HNv;rw [how] at HA Fw HNw hl2 hdn;rw [hov'] at Fv' HNv HQt;rw [how'] at Fw' HNw HQt;have HDN:=qsd hdn;clear hz hzz HR0 HNg0 n1 n2 hask bw bv hVs hWs hw0 hoW hlen hneg hov how hov' how' hY hs hdn;obtain ⟨pa,qa,Da,Ma⟩:=HA.out.1;obtain ⟨pb,qb,Db,Mb⟩:=HA.out.2.1;obtain ⟨x0,x1,x2,xf0,xf1,xf2⟩:=Da.facts;obtain ⟨y0,y1,y2,yf0,yf1,yf2⟩:=Db.facts;have C9:=hid (HNv.out _ pa qa Ma);rw [HDN.out] at y0;clear Da Db Ma Mb HNv
                        go_wp2_with fail
                        refine C9.out.mono ?_;rintro r v ⟨⟨z9,rfl,hN⟩,hb⟩;obtain ⟨p8,q8,rfl,hN⟩:=Lo.shape Fv'.out hN;obtain ⟨Y,hY⟩:∃ Y,Y=st3 v gn (.bool (dN ov')) (.slice p8 (ws (dX ov')).length q8) (.int .i64 (dE ov')):=⟨_,rfl⟩;have L0:=HA.out.1.below hb
                        have K4:Aside (Lo Y gn ov'∧Lo Y gd ow∧Below w.heap.size w Y):=by
                         have hbw:=HA.out.2.2.trans (hb.mono HA.out.2.2.size);rw [hY];exact ⟨L0.set hN,(HA.out.2.1.below hb).other L0 (fun h=>HG.out.2.2 h.symm) _ _ _,But.below hbw ((((But.refl gn v).set _ _).set _ _).set _ _) hbw.size HG.out.1⟩
                        have HY:Aside (Y=((v.setCell ⟨gn,0,none⟩ (.bool (dN ov'))).setCell ⟨gn,1,none⟩ (.slice p8 (ws (dX ov')).length q8)).setCell ⟨gn,2,none⟩ (.int .i64 (dE ov'))):=hY;obtain ⟨p7,q7,D7,_⟩:=L0;obtain ⟨x0,x1,x2,xf0,xf1,xf2⟩:=D7.facts;clear hb hN D7 C9 HA hY y0 y1 y2 yf0 yf1 yf2
                        go_upto_region 27 with fail
                        rw [←HY.out];clear HY x0 x1 x2 xf0 xf1 xf2;obtain ⟨pb,qb,Db,Mb⟩:=K4.out.2.1;obtain ⟨y0,y1,y2,yf0,yf1,yf2⟩:=Db.facts;have C9:=hid (HNw.out _ pb qb Mb);clear Db Mb HNw
                        go_wp2_with fail
                        refine C9.out.mono ?_;rintro r v ⟨⟨z9,rfl,hN⟩,hb⟩;obtain ⟨p8,q8,rfl,hN⟩:=Lo.shape Fw'.out hN;obtain ⟨Z,hZ⟩:∃ Y,Y=st3 v gd (.bool (dN ow')) (.slice p8 (ws (dX ow')).length q8) (.int .i64 (dE ow')):=⟨_,rfl⟩;have L0:=K4.out.2.1.below hb
                        have K5:Aside (Lo Z gn ov'∧Lo Z gd ow'∧Below w.heap.size w Z):=by
                         have hbw:=K4.out.2.2.trans (hb.mono K4.out.2.2.size);rw [hZ];exact ⟨(K4.out.1.below hb).other L0 HG.out.2.2 _ _ _,L0.set hN,But.below hbw ((((But.refl gd v).set _ _).set _ _).set _ _) hbw.size HG.out.2.1⟩
                        have HZ:Aside (Z=((v.setCell ⟨gd,0,none⟩ (.bool (dN ow'))).setCell ⟨gd,1,none⟩ (.slice p8 (ws (dX ow')).length q8)).setCell ⟨gd,2,none⟩ (.int .i64 (dE ow'))):=hZ;obtain ⟨p7,q7,D7,_⟩:=L0;obtain ⟨y0,y1,y2,yf0,yf1,yf2⟩:=D7.facts;clear hb hN D7 C9 K4 hZ
                        go_upto_region 28 with fail
                        rw [←HZ.out];clear HZ y0 y1 y2 yf0 yf1 yf2;obtain ⟨pa,qa,Da,Ma⟩:=K5.out.1;obtain ⟨pb,qb,Db,Mb⟩:=K5.out.2.1;obtain ⟨x0,x1,x2,xf0,xf1,xf2⟩:=Da.facts;obtain ⟨y0,y1,y2,yf0,yf1,yf2⟩:=Db.facts;have C9:=hid (HQt.out _ pa pb qa qb Ma Mb);clear Da Db Ma Mb HQt
                        go_wp2_with fail
                        refine C9.out.mono ?_;rintro r v ⟨rfl,hb⟩;have BE:=qsd (K5.out.2.2.trans (hb.mono K5.out.2.2.size));clear hb C9;go_wp2;exact bodyPost_ret (v:=.tuple #[.float .f64 X,.int .i64 E]) (by simp [results,Tryz.results16,go_sem]) rfl ⟨rfl,BE.out⟩
                      · have hzz:qvR Vs Ws mode=(X,E):=by
                         rw [←hz];unfold wqR;rw [if_neg hs,qv_ok hask (by omega) j (by omega) bw bv]
                         exact Prod.ext rfl (qv_ok hask (by omega) j (by omega) bw bv)
                        have HQt:=hid (HR0 (exV Vs) (exV Ws) (X,E) Fv.out Fw.out hzz);have hdn:dN (exV Ws)=false:=by rw [hneg];exact decide_eq_false hs
                        simp only at HQt;obtain ⟨ov,hov⟩:∃ o,exV Vs=o:=⟨_,rfl⟩;obtain ⟨ow,how⟩:∃ o,exV Ws=o:=⟨_,rfl⟩;rw [hov] at HA Fv HQt;rw [how] at HA Fw hl2 hdn HQt;clear hz hzz HR0 HNg0 n1 n2 hask bw bv hVs hWs hw0 hoW hlen hneg hov how hY hs;obtain ⟨pa,qa,Da,Ma⟩:=HA.out.1;obtain ⟨pb,qb,Db,Mb⟩:=HA.out.2.1;obtain ⟨x0,x1,x2,xf0,xf1,xf2⟩:=Da.facts;obtain ⟨y0,y1,y2,yf0,yf1,yf2⟩:=Db.facts;have C9:=hid (HQt.out _ pa pb qa qb Ma Mb);clear Da Db Ma Mb HQt;rw [hdn] at C9 y0;clear hdn
                        go_wp2_with fail
                        refine C9.out.mono ?_;rintro r v ⟨rfl,hb⟩;have BE:=qsd (HA.out.2.2.trans (hb.mono HA.out.2.2.size));clear hb C9;go_wp2;exact bodyPost_ret (v:=.tuple #[.float .f64 X,.int .i64 E]) (by simp [results,Tryz.results16,go_sem]) rfl ⟨rfl,BE.out⟩
         · have ep:prE xs ys=4:=by unfold prE;rw [if_neg (by omega),if_pos (by omega)]
           rw [ep,if_neg (by decide)] at hz
           have d7:((n:Int)==(m:Int))=false:=by rw [beq_eq_false_iff_ne];omega
           clear hn hm hF hG hW hV hask ep;go_enter Tryz.func16,Tryz.ntmps16;have HXE:=qsd (Prod.mk.inj hz);have HNo:=hid (fun u:World=>no13 4 u)
           go_wp2_with fail
           refine (HNo.out _).mono ?_;rintro r u9 ⟨rfl,hu⟩;rw [hu];clear hu;go_wp2;exact bodyPost_ret (v:=.tuple #[.float .f64 0,.int .i64 4]) (by simp [results,Tryz.results16,go_sem]) rfl ⟨by rw [HXE.out.1,HXE.out.2],Below.refl _ _⟩
end
section
open Go.RowKit J
theorem lent8_fsW {w:World}{g:Nat}{xs:List Nat}(h:OwnF w g (xs++List.replicate 8 mrk10)):Fs w.heap.size w (some ⟨g,0,none⟩) xs:=by
 have:=h.fs h.lt xs.length;rw [show (xs++List.replicate 8 mrk10).take xs.length=xs by simp] at this
 exact this
set_option maxRecDepth 100000 in
theorem walk2_MeanWeighted (a:Option Addr) (n c:Nat) (xs:List Nat) (b:Option Addr) (m d:Nat) (ys:List Nat) (mode:Int) (w:World) (hT:Tab w) (hC:CameF w a n c xs) (hD:CameF w b m d ys) (hm:n≤17592186043904) (hm2:m≤17592186043904) :
 Calls Tryz.prog 5 #[.slice a n c,.slice b m d,.int .i64 mode] w fun r w'=>r=.returned (.bool true)∧Below w.heap.size w w':=by
 obtain ⟨hl1,_,hW1,hF1,_⟩:=hC;obtain ⟨hl2,_,hW2,hF2,_⟩:=hD;have up:∀ u:World,Below w.heap.size w u→Fs u.heap.size u a xs∧Fs u.heap.size u b ys∧Tab u:=fun u hb=>⟨(hF1.below hb).mono hb.size,(hF2.below hb).mono hb.size,hT.belows hb⟩
 obtain ⟨⟨X1,E1⟩,h1⟩:∃ r,wtR xs ys mode=r:=⟨_,rfl⟩;have HA:=hid (live13 w hT);have HL:=hid (fun (u:World) (hb:Below w.heap.size w u)=>rLent10 xs a n c u.heap.size u hl1 hm (up u hb).1 (Nat.le_refl _))
 have HL2:=hid (fun (u:World) (hb:Below w.heap.size w u)=>rLent10 ys b m d u.heap.size u hl2 hm2 (up u hb).2.1 (Nat.le_refl _))
 have HE:Hid (∀ (u:World) (g h:Nat),Below w.heap.size w u→OwnF u g (xs++List.replicate 8 mrk10)→OwnF u h (ys++List.replicate 8 mrk10)→Calls Tryz.prog 15 #[.slice (some ⟨g,0,none⟩) n (n+8),.slice (some ⟨h,0,none⟩) m (m+8),.int .i64 mode] u fun r w'=>r=.returned (.tuple #[.float .f64 X1,.int .i64 E1])∧Below u.heap.size u w'):=fun u g h hb ho ho2 =>
  Weighted13 xs ys (some ⟨g,0,none⟩) (some ⟨h,0,none⟩) n m (n+8) (m+8) mode u hl1 hl2 (lent8_fsW ho) (lent8_fsW ho2) hW1 hW2 (up u hb).2.2 _ h1
 have HK:=hid (fun (u:World) (g:Nat) (hb:Below w.heap.size w u) (ho:OwnF u g (xs++List.replicate 8 mrk10))=>rAsLent10 xs a n c u.heap.size g u hl1 hm (up u hb).1 (Nat.le_refl _) ho)
 have HK2:=hid (fun (u:World) (g:Nat) (hb:Below w.heap.size w u) (ho:OwnF u g (ys++List.replicate 8 mrk10))=>rAsLent10 ys b m d u.heap.size g u hl2 hm2 (up u hb).2.1 (Nat.le_refl _) ho)
 have HQ:Hid (∀ u:World,Below w.heap.size w u→Calls Tryz.prog 16 #[.slice a n c,.slice b m d,.int .i64 mode] u fun r w'=>r=.returned (.tuple #[.float .f64 X1,.int .i64 E1])∧Below u.heap.size u w'):=fun u hb =>
  rWeighted13 xs ys a b n m c d mode u hl1 hl2 (up u hb).1 (up u hb).2.1 hW1 hW2 _ h1
 clear hl1 hW1 hF1 hl2 hW2 hF2 up h1 hT hm hm2;go_enter Tryz.func5,Tryz.ntmps5
 go_wp2_with fail
 refine HA.out.mono ?_;rintro r u1 ⟨rfl,hb⟩;have B1:=qsd hb;clear hb HA
 go_wp2_with fail
 refine (HL.out _ B1.out).mono ?_;rintro r u2 ⟨rfl,ho,hb⟩;obtain ⟨g,hg⟩:∃ g,g=u1.heap.size:=⟨_,rfl⟩;rw [←hg] at ho ⊢;have B2:Aside (Below w.heap.size w u2∧OwnF u2 g (xs++List.replicate 8 mrk10)):=⟨B1.out.trans (hb.mono B1.out.size),ho⟩;clear hb ho hg B1 HL
 go_wp2_with fail
 refine (HL2.out _ B2.out.1).mono ?_;rintro r u3 ⟨rfl,ho,hb⟩;obtain ⟨h,hh⟩:∃ g,g=u2.heap.size:=⟨_,rfl⟩;rw [←hh] at ho ⊢;have B3:Aside (Below w.heap.size w u3∧OwnF u3 g (xs++List.replicate 8 mrk10)∧OwnF u3 h (ys++List.replicate 8 mrk10)):=⟨B2.out.1.trans (hb.mono B2.out.1.size),B2.out.2.below hb B2.out.2.lt,ho⟩;clear hb ho hh B2 HL2
 go_wp2_with fail
 refine (HE.out _ g h B3.out.1 B3.out.2.1 B3.out.2.2).mono ?_;rintro r u4 ⟨rfl,hb⟩;have B4:Aside (Below w.heap.size w u4∧OwnF u4 g (xs++List.replicate 8 mrk10)∧OwnF u4 h (ys++List.replicate 8 mrk10)):=⟨B3.out.1.trans (hb.mono B3.out.1.size),B3.out.2.1.below hb B3.out.2.1.lt,B3.out.2.2.below hb B3.out.2.2.lt⟩;clear hb B3 HE
 go_wp2_with fail
 refine (HK.out _ g B4.out.1 B4.out.2.1).mono ?_;rintro r u5 ⟨rfl,hb⟩;have B5:Aside (Below w.heap.size w u5∧OwnF u5 h (ys++List.replicate 8 mrk10)):=⟨B4.out.1.trans (hb.mono B4.out.1.size),B4.out.2.2.below hb B4.out.2.2.lt⟩;clear hb B4 HK
 go_wp2_with fail
 refine (HK2.out _ h B5.out.1 B5.out.2).mono ?_;rintro r u6 ⟨rfl,hb⟩;have B6:=qsd (B5.out.1.trans (hb.mono B5.out.1.size));clear hb B5 HK2
 go_wp2_with fail
 refine (HQ.out _ B6.out).mono ?_;rintro r u7 ⟨rfl,hb⟩;have B7:=qsd (B6.out.trans (hb.mono B6.out.size));clear hb B6 HQ;have e1:(E1==E1)=true:=by simp
 go_wp2_with fail
 refine (exact_law13 X1 X1 _).mono ?_;rintro r u9 ⟨rfl,hu9⟩;rw [hu9,decide_eq_true rfl];clear hu9;go_wp2;go_ret;exact ⟨rfl,B7.out⟩
end
end Go.Proofs.YtjldfhecnaiinaaGreatDoor
