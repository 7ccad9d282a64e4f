import Derived.Test.YtjldfhecnaiinabGreatDoorF3x
import Derived.Test.YtjldfhecnaiinabGreatDoorZ27x
import Derived.Test.YtjldfhecnaiinabGreatDoorD21x
import Derived.Test.YtjldfhecnaiinabGreatDoorD16x
import Derived.Test.YtjldfhecnaiinabGreatDoorD30x
import Derived.Test.YtjldfhecnaiinabGreatDoorBW6x
import Derived.Deep.CutRange
import Derived.Deep.RegionHeld3
import Derived.Test.YtjldfhecnaiinabGreatDoorN2x
import Derived.BigQuiet
set_option linter.unusedVariables false
set_option linter.unusedSimpArgs false
set_option maxHeartbeats 16000000
set_option maxRecDepth 20000
namespace Go.Proofs.YtjldfhecnaiinabGreatDoor
namespace J
end J
section
open Go.RowKit J
attribute [local go_sem] st_float
theorem ex_neg {V:Int}(k:Nat) (hk:k≤90000) (hb:V.natAbs<2^k):mkS (!dN (exV V)) (dX (exV V)) (dE (exV V))=exV (-V):=by
 by_cases h0:V=0
 · subst h0
   rw [ex_zero,show (-0:Int)=0 by decide,ex_zero]
   exact mkS_zero _ _
 · obtain ⟨X,e,ho,hX,he0,he1,hv,hbl,F⟩:=ex_parts13 h0 k hk hb
   obtain ⟨Y,f,ho2,hY,hf0,hf1,hv2,hbl2,F2⟩:=ex_parts13 (V:=-V) (by omega) k hk (by rw [Int.natAbs_neg];exact hb)
   have m1:mkS (decide (V<0)) V.natAbs (-2148)=some (decide (V<0),X,e):=ho;have m2:mkS (decide (-V<0)) (-V).natAbs (-2148)=some (decide (-V<0),Y,f):=ho2;rw [Int.natAbs_neg] at m2;have hn:V.natAbs≠0:=by omega
   unfold mkS at m1 m2;rw [if_neg hn] at m1 m2
   split at m1
   · cases m1
   · rename_i hh
     rw [if_neg hh] at m2;simp only [Option.some.injEq,Prod.mk.injEq,true_and] at m1 m2;obtain ⟨rfl,rfl⟩:=m1;obtain ⟨rfl,rfl⟩:=m2;rw [ho,ho2]
     show mkS (!decide (V<0)) _ _=_
     have e1:(!decide (V<0))=decide (-V<0):=by
      by_cases hs:V<0
      · rw [decide_eq_true hs,decide_eq_false (by omega)];rfl
      · rw [decide_eq_false hs,decide_eq_true (by omega)];rfl
     rw [e1];exact mkS_idem F2
theorem Nt.off13 {lo g T:Nat}{w w':World}{v:Value}{X:Nat}{C:List Value}(h:Nt lo w v X) (hB:Bl w g T C) (hT:T≠80) (hb:But g w w'):Nt lo w' v X:=by
 refine h.off hb ?_
 rcases h.2 with ⟨rfl,_⟩|⟨g',cap,cur,rfl,_,hg,_⟩
 · simp [Value.ownBlock]
 · intro e'
   obtain rfl:g'=g:=by simpa [Value.ownBlock] using e'
   rw [show w.heap[g']?=_ from hB] at hg
   simp at hg;exact hT hg.2
noncomputable def wqR (V W mode:Int):Nat×Int:=if W<0 then qvR (-V) (-W) mode else qvR V W mode
noncomputable def wtR (xs ys:List Nat) (mode:Int):Nat×Int :=
 if askE mode=0 then (if prE xs ys=0 then (bsd (wqR (wS xs ys) (vS ys) mode).2 (wqR (wS xs ys) (vS ys) mode).1,(wqR (wS xs ys) (vS ys) mode).2) else (0,prE xs ys)) else (0,askE mode)
theorem prE_ok {xs ys:List Nat}(h:prE xs ys=0):xs.length≤65536∧xs.length=ys.length∧plE xs=0∧plE ys=0∧xs≠[]:=by
 unfold prE at h
 by_cases h1:65536<xs.length∨65536<ys.length
 · rw [if_pos h1] at h;exact absurd h (by decide)
 · rw [if_neg h1] at h
   by_cases h2:xs.length≠ys.length
   · rw [if_pos h2] at h;exact absurd h (by decide)
   · rw [if_neg h2] at h
     by_cases h3:plE xs≠0
     · rw [if_pos h3] at h;exact absurd h h3
     · rw [if_neg h3] at h
       by_cases h4:plE ys≠0
       · rw [if_pos h4] at h;exact absurd h h4
       · rw [if_neg h4] at h
         by_cases h5:xs=[]
         · rw [if_pos h5] at h;exact absurd h (by decide)
         · exact ⟨by omega,by omega,by omega,by omega,h5⟩
theorem Weighted13 (xs ys:List Nat) (a b:Option Addr) (n m c d:Nat) (mode:Int) (w:World) (hn:n=xs.length) (hm:m=ys.length) (hF:Fs w.heap.size w a xs) (hG:Fs w.heap.size w b ys) (hW:W64 xs) (hV:W64 ys) (hT:Tab w) (z:Nat×Int) (hz:wtR xs ys mode=z) :
 Calls Tryz.prog 11 #[.slice a n c,.slice b m d,.int .i64 mode] w fun r w'=>r=.returned (.tuple #[.float .f64 z.1,.int .i64 z.2])∧Below w.heap.size w w':=by
 obtain ⟨X,E⟩:=z;simp only;have hmf:∀ (fn:Fn) (first cap:Array Value) (w:World),(Instr.makeFunc fn first cap).run Tryz.prog w=.ok (.func fn first cap) w:=fun _ _ _ _=>rfl
 have HA:=hid (fun u:World=>asked13 mode u)
 unfold wtR at hz;obtain ⟨ea,hea⟩:∃ e,askE mode=e:=⟨_,rfl⟩;rw [hea] at HA hz;obtain ⟨W,hWW⟩:∃ W,W=(w.alloc (Obj.cells #[.float .f64 0] 22)).alloc (Obj.cells #[.int .i64 0] 25):=⟨_,rfl⟩;obtain ⟨gx,hgx⟩:∃ g,g=w.heap.size:=⟨_,rfl⟩;obtain ⟨ge,hge⟩:∃ g,g=w.heap.size+1:=⟨_,rfl⟩;have HG:Aside (gx=w.heap.size∧ge=w.heap.size+1∧w.heap.size≤gx∧w.heap.size≤ge∧ge≠gx):=⟨hgx,hge,by omega,by omega,by omega⟩
 have B0:=two13 w;rw [←hWW,←hge] at B0;have B1:=qsd (seterr13 ea (show Bl W gx 22 [.float .f64 0] by rw [hgx];exact B0.1) B0.2.1 B0.2.2 HG.out.2.2.2.1 HG.out.2.2.2.2)
 have c1:=B0.2.1.cell 0 _ rfl;have f1:=B0.2.1.frozen 0;have HWW:=qsd hWW;have HX:=(qsd (ai hn (ai hm (ai hF (ai hG (ai hW (ai hV hT)))))));clear hn hm hF hG hW hV hT hWW hea hgx hge B0;go_enter_defers Tryz.func11,Tryz.ntmps11
 go_wp2_with fail
 rw [←HWW.out]
 try rw [show w.heap.size+1=ge by have:=HG.out;omega]
 try rw [show w.heap.size=gx by have:=HG.out;omega]
 clear HWW;refine (HA.out _).mono ?_;rintro r v ⟨rfl,hv⟩;rw [hv];clear hv v
 by_cases h0:ea=0
 · subst h0
   rw [if_pos rfl] at hz;obtain ⟨V,hV⟩:∃ V,V=W.setCell ⟨ge,0,none⟩ (.int .i64 0):=⟨_,rfl⟩;rw [←hV] at B1;have r1:=B1.out.2.1.cell 0 _ rfl;have HV:=qsd hV;obtain ⟨ep,hep⟩:∃ e,prE xs ys=e:=⟨_,rfl⟩;have HP:=hid (paired13 xs ys a b n m c d V HX.out.1 HX.out.2.1 ((HX.out.2.2.1.below B1.out.2.2).mono B1.out.2.2.size) ((HX.out.2.2.2.1.below B1.out.2.2).mono B1.out.2.2.size) HX.out.2.2.2.2.1 HX.out.2.2.2.2.2.1 ep hep);rw [hep] at hz;have HEP:=qsd hep;clear hV HA hep
   go_upto_region 3 with fail
   rw [←HV.out];clear HV c1 f1
   go_wp2_with fail
   refine HP.out.mono ?_;rintro r v ⟨rfl,hb⟩;obtain ⟨V2,hV2⟩:∃ V,V=v.setCell ⟨ge,0,none⟩ (.int .i64 ep):=⟨_,rfl⟩;have b1:=B1.out.1.below hb B1.out.1.lt;have b2:=B1.out.2.1.below hb B1.out.2.1.lt;have b3:=B1.out.2.2.trans (hb.mono B1.out.2.2.size);have B2:=qsd (seterr13 ep b1 b2 b3 HG.out.2.2.2.1 HG.out.2.2.2.2);rw [←hV2] at B2;have q1:=b2.cell 0 _ rfl;have q2:=b2.frozen 0;have HV2:=qsd hV2;clear hb HP B1 b1 b2 b3 hV2 r1
   by_cases he:ep=0
   · subst he
     rw [if_pos rfl] at hz;obtain ⟨hlen,hnm,hpx,hpy,hne0⟩:=prE_ok HEP.out;obtain rfl:n=m:=by rw [HX.out.1,HX.out.2.1];exact hnm
     have hTV:Tab V2:=HX.out.2.2.2.2.2.2.belows B2.out.2.2;have HPr:=hid (products13 xs ys a b n c d V2 HX.out.1 HX.out.2.1 ((HX.out.2.2.1.below B2.out.2.2).mono B2.out.2.2.size) ((HX.out.2.2.2.1.below B2.out.2.2).mono B2.out.2.2.size) HX.out.2.2.2.2.1 HX.out.2.2.2.2.2.1 hTV (by rw [HX.out.1];exact hlen))
     have HEx:=hid (fun (u:World) (hb:Below w.heap.size w u)=>exact13 ys b n d u HX.out.2.1 ((HX.out.2.2.2.1.below hb).mono hb.size) HX.out.2.2.2.2.2.1 (HX.out.2.2.2.2.2.2.belows hb) (by rw [HX.out.1];exact hlen))
     have Fv:=qsd (wS_fm HX.out.2.2.2.2.1 HX.out.2.2.2.2.2.1 hlen);have Fw:=qsd (vS_fm HX.out.2.2.2.2.2.1 (by omega))
     obtain ⟨kw,hkw,hwb⟩:=wS_bd HX.out.2.2.2.2.1 HX.out.2.2.2.2.2.1 hlen;obtain ⟨kv,hkv,hvb⟩:=vS_bd HX.out.2.2.2.2.2.1 (by omega)
     obtain ⟨Vs,hVs⟩:∃ V,wS xs ys=V:=⟨_,rfl⟩;obtain ⟨Ws,hWs⟩:∃ V,vS ys=V:=⟨_,rfl⟩;rw [hVs] at HPr Fv hwb hz;rw [hWs] at HEx Fw hvb hz;obtain ⟨g1,g2,g3⟩:=sgn_ex kv (by omega) hvb
     have n1:=ex_neg kw (by omega) hwb
     have n2:=ex_neg kv (by omega) hvb
     have Fv':=qsd (ex_fm (-Vs) kw (by omega) (by rw [Int.natAbs_neg];exact hwb))
     have Fw':=qsd (ex_fm (-Ws) kv (by omega) (by rw [Int.natAbs_neg];exact hvb))
     obtain ⟨⟨xl,el⟩,hl⟩:∃ z,wqR Vs Ws mode=z:=⟨_,rfl⟩;rw [hl] at hz;have hz1:(bsd el xl,el)=(X,E):=hz;have HXE:=qsd (Prod.mk.inj hz1)
     have HR0:∀ (o1 o2:Option (Bool×Nat×Int)) (z:Nat×Int),Fm o1→Fm o2→quoR rndS ⟨dN o1,.bool false,dX o1,dE o1,dN o2,.bool false,dX o2,dE o2⟩ mode=z→∀ (u:World) (p q:Option Addr) (cp cq:Nat),Tab u→Nt 0 u (.slice p (ws (dX o1)).length cp) (dX o1)→Nt 0 u (.slice q (ws (dX o2)).length cq) (dX o2)→Calls Tryz.prog 43 #[.agg #[.bool (dN o1),.slice p (ws (dX o1)).length cp,.int .i64 (dE o1),.bool (dN o2),.slice q (ws (dX o2)).length cq,.int .i64 (dE o2)],.int .i64 mode] u fun r w'=>r=.returned (.tuple #[.float .f64 z.1,.int .i64 z.2])∧Below u.heap.size u w':=fun o1 o2 z F1 F2 hq u p q cp cq hT n1 n2=>by
      have:=Quot11 (w:=u) (n:=dN o1) (m:=dN o2) (X:=dX o1) (Y:=dX o2) (e:=dE o1) (f:=dE o2) mode ⟨n1.av (Nat.le_trans F1.len (by decide)),n2.av (Nat.le_trans F2.len (by decide)),F1.rng,F2.rng⟩ hT
      rw [show quoR rndS ⟨dN o1,.slice p (ws (dX o1)).length cp,dX o1,dE o1,dN o2,.slice q (ws (dX o2)).length cq,dX o2,dE o2⟩ mode=z from hq] at this
      exact this
     have HNg0:∀ (o o':Option (Bool×Nat×Int)),Fm o→mkS (!dN o) (dX o) (dE o)=o'→∀ (u:World) (p:Option Addr) (cp:Nat),Tab u→Nt 0 u (.slice p (ws (dX o)).length cp) (dX o)→Calls Tryz.prog 42 #[.agg #[.bool (dN o),.slice p (ws (dX o)).length cp,.int .i64 (dE o)]] u fun r u'=>(∃ v,r=.returned (.agg #[.bool (dN o'),v,.int .i64 (dE o')])∧Nt u.heap.size u' v (dX o'))∧Below u.heap.size u u':=fun o o' F hm u p cp hT n1=>by
      have:=Neg_any (F.a12 n1) hT (dN o) (dE o) F.rng.1 F.rng.2;rw [val_ws,hm] at this;exact this
     have HS:Hid (∀ (u:World) (p:Option Addr) (q:Nat),Nt 0 u (.slice p (ws (dX (exV Ws))).length q) (dX (exV Ws))→Calls Tryz.prog 41 #[.agg #[.bool (dN (exV Ws)),.slice p (ws (dX (exV Ws))).length q,.int .i64 (dE (exV Ws))]] u fun r u'=>r=.returned (.int .i64 (sgn (dN (exV Ws)) (val (ws (dX (exV Ws))))))∧Below u.heap.size u u'):=fun u p q hN=>Sign_any3 (Fw.out.a12 hN) _ _
     have HNv:=hid (HNg0 _ _ Fv.out n1);have HNw:=hid (HNg0 _ _ Fw.out n2);have HR1:Hid (Ws<0→_):=fun hs=>HR0 (exV (-Vs)) (exV (-Ws)) (xl,el) Fv'.out Fw'.out (by rw [←hl];unfold wqR;rw [if_pos hs];rfl)
     have HR2:Hid (¬ Ws<0→_):=fun hs=>HR0 (exV Vs) (exV Ws) (xl,el) Fv.out Fw.out (by rw [←hl];unfold wqR;rw [if_neg hs];rfl)
     obtain ⟨ov,hov⟩:∃ o,exV Vs=o:=⟨_,rfl⟩;obtain ⟨ow,how⟩:∃ o,exV Ws=o:=⟨_,rfl⟩;obtain ⟨ov',hov'⟩:∃ o,exV (-Vs)=o:=⟨_,rfl⟩;obtain ⟨ow',how'⟩:∃ o,exV (-Ws)=o:=⟨_,rfl⟩;rw [hov] at HPr Fv HNv HR2;rw [how] at HEx Fw HNw HR2 HS g3;rw [hov'] at Fv' HNv HR1;rw [how'] at Fw' HNw HR1;obtain ⟨sg,hsg⟩:∃ s,sgn (dN ow) (val (ws (dX ow)))=s:=⟨_,rfl⟩;rw [hsg] at HS g3;have HG3:=qsd g3;have HTV:=qsd hTV;simp only at HR1 HR2;clear hlen hnm hpx hpy hne0 hwb hvb hkw hkv g1 g2 g3 n1 n2 hz hz1 hl HR0 HNg0 hov how hov' how' hsg hVs hWs HEP hTV kw kv;have r1:=B2.out.2.1.cell 0 _ rfl
     go_upto_region 5 with fail
     rw [←HV2.out];clear HV2 q1 q2
     go_wp2_with fail
     refine HPr.out.mono ?_;rintro r u1 ⟨v1,rfl,hN1,hb1⟩;obtain ⟨p1,k1,rfl,hN1⟩:=Lo.shape Fv.out hN1;have B3:Aside (Bl u1 gx 22 [.float .f64 0]∧Bl u1 ge 25 [.int .i64 0]∧Below w.heap.size w u1∧Nt 0 u1 (.slice p1 (ws (dX ov)).length k1) (dX ov)):=⟨B2.out.1.below hb1 B2.out.1.lt,B2.out.2.1.below hb1 B2.out.2.1.lt,B2.out.2.2.trans (hb1.mono B2.out.2.2.size),hN1⟩;clear hb1 hN1 HPr B2 r1;have CE:=hid (HEx.out u1 B3.out.2.2.1);clear HEx
     go_wp2_with fail
     refine CE.out.mono ?_;rintro r u2 ⟨v2,rfl,hN2,hb2⟩;obtain ⟨p2,k2,rfl,hN2⟩:=Lo.shape Fw.out hN2;obtain ⟨U,hU⟩:∃ U,U=u2.alloc (Obj.cells #[.bool (dN ov),.slice p1 (ws (dX ov)).length k1,.int .i64 (dE ov),.bool (dN ow),.slice p2 (ws (dX ow)).length k2,.int .i64 (dE ow)] 71):=⟨_,rfl⟩;obtain ⟨gr,hgr⟩:∃ g,u2.heap.size=g:=⟨_,rfl⟩
     have B4:Aside (Bl U gr 71 [.bool (dN ov),.slice p1 (ws (dX ov)).length k1,.int .i64 (dE ov),.bool (dN ow),.slice p2 (ws (dX ow)).length k2,.int .i64 (dE ow)]∧Bl U gx 22 [.float .f64 0]∧Bl U ge 25 [.int .i64 0]∧Below w.heap.size w U∧Tab U∧Nt 0 U (.slice p1 (ws (dX ov)).length k1) (dX ov)∧Nt 0 U (.slice p2 (ws (dX ow)).length k2) (dX ow)):=by
      have hb3:=B3.out.2.2.1.trans (hb2.mono B3.out.2.2.1.size);have hbU:Below u2.heap.size u2 U:=by rw [hU];exact below_alloc _ _
      have hbw:Below w.heap.size w U:=hb3.trans (hbU.mono hb3.size);refine ⟨by rw [hU,←hgr];exact Bl.new _ 71 [_,_,_,_,_,_],?_,?_,hbw,HX.out.2.2.2.2.2.2.belows hbw,(B3.out.2.2.2.below hb2).below hbU,hN2.below hbU⟩
      · exact (B3.out.1.below hb2 B3.out.1.lt).below hbU (by have:=B3.out.1.lt;have:=hb2.size;omega)
      · exact (B3.out.2.1.below hb2 B3.out.2.1.lt).below hbU (by have:=B3.out.2.1.lt;have:=hb2.size;omega)
     have HU:=qsd hU;have HGR:=qsd hgr;have HGR2:Aside (w.heap.size≤gr):=by have h1:=B3.out.2.2.1.size;have h2:=hb2.size;rw [Aside,←hgr];omega
     clear hb2 hN2 CE B3 hU hgr;have s3:=B4.out.1.cell 3 _ rfl;have s4:=B4.out.1.cell 4 _ rfl;have s5:=B4.out.1.cell 5 _ rfl
     go_upto_region 7 with fail
     rw [←HU.out,HGR.out];clear HU HGR;have CS:=hid (HS.out U p2 k2 B4.out.2.2.2.2.2.2);clear HS
     go_wp2_with fail
     refine CS.out.mono ?_;rintro r u3 ⟨rfl,hb3⟩
     have B5:Aside (Bl u3 gr 71 [.bool (dN ov),.slice p1 (ws (dX ov)).length k1,.int .i64 (dE ov),.bool (dN ow),.slice p2 (ws (dX ow)).length k2,.int .i64 (dE ow)]∧Bl u3 gx 22 [.float .f64 0]∧Bl u3 ge 25 [.int .i64 0]∧Below w.heap.size w u3∧Tab u3∧Nt 0 u3 (.slice p1 (ws (dX ov)).length k1) (dX ov)∧Nt 0 u3 (.slice p2 (ws (dX ow)).length k2) (dX ow)) :=
      ⟨B4.out.1.below hb3 B4.out.1.lt,B4.out.2.1.below hb3 B4.out.2.1.lt,B4.out.2.2.1.below hb3 B4.out.2.2.1.lt,B4.out.2.2.2.1.trans (hb3.mono B4.out.2.2.2.1.size),B4.out.2.2.2.2.1.belows hb3,B4.out.2.2.2.2.2.1.below hb3,B4.out.2.2.2.2.2.2.below hb3⟩
     clear hb3 CS B4 s3 s4 s5
     by_cases hs:Ws<0
     · have HR:=hid (HR1.out hs)
       have d5:decide (sg<0)=true:=decide_eq_true (HG3.out.1 hs);clear HR1 HR2
       go_upto_region 8 with fail
       refine calm13 ?_;have hdr:=(Below.refl u3.heap.size u3).drew;have BB:=(qsd (ai B5.out.1.drew (ai B5.out.2.1.drew (ai B5.out.2.2.1.drew (ai (B5.out.2.2.2.1.trans (hdr.mono B5.out.2.2.2.1.size)) (ai (B5.out.2.2.2.2.1.belows hdr) (ai (B5.out.2.2.2.2.2.1.below hdr) (B5.out.2.2.2.2.2.2.below hdr))))))));clear hdr B5;have s0:=BB.out.1.cell 0 _ rfl;have s1:=BB.out.1.cell 1 _ rfl;have s2:=BB.out.1.cell 2 _ rfl;have s3:=BB.out.1.cell 3 _ rfl;have s4:=BB.out.1.cell 4 _ rfl;have s5:=BB.out.1.cell 5 _ rfl;have y0:=BB.out.1.frozen 0;have y1:=BB.out.1.frozen 1;have y2:=BB.out.1.frozen 2;have y3:=BB.out.1.frozen 3;have y4:=BB.out.1.frozen 4;have y5:=BB.out.1.frozen 5
       go_region_with (first
        | (go_at_call 42
           with_reducible refine (HNv.out _ p1 k1 BB.out.2.2.2.2.1 BB.out.2.2.2.2.2.1).mono ?_
           rintro r v ⟨⟨q,rfl,hN⟩,hb⟩;obtain ⟨p3,k3,rfl,hN0⟩:=Lo.shape Fv'.out hN;have BB:=qsd (ai (BB.out.1.below hb BB.out.1.lt) (ai (BB.out.2.1.below hb BB.out.2.1.lt) (ai (BB.out.2.2.1.below hb BB.out.2.2.1.lt) (ai (BB.out.2.2.2.1.trans (hb.mono BB.out.2.2.2.1.size)) (ai (BB.out.2.2.2.2.1.belows hb) (ai (BB.out.2.2.2.2.2.1.below hb) (BB.out.2.2.2.2.2.2.below hb)))))));have Q2:=qsd hN0;have s0:=BB.out.1.cell 0 _ rfl;have s1:=BB.out.1.cell 1 _ rfl;have s2:=BB.out.1.cell 2 _ rfl;have s3:=BB.out.1.cell 3 _ rfl;have s4:=BB.out.1.cell 4 _ rfl;have s5:=BB.out.1.cell 5 _ rfl;clear hb hN hN0)
        | (go_at_call 42
           with_reducible refine (HNw.out _ p2 k2 BB.out.2.2.2.2.1 BB.out.2.2.2.2.2.2).mono ?_
           rintro r v ⟨⟨q,rfl,hN⟩,hb⟩;obtain ⟨p4,k4,rfl,hN0⟩:=Lo.shape Fw'.out hN;have BB:=qsd (ai (BB.out.1.below hb BB.out.1.lt) (ai (BB.out.2.1.below hb BB.out.2.1.lt) (ai (BB.out.2.2.1.below hb BB.out.2.2.1.lt) (ai (BB.out.2.2.2.1.trans (hb.mono BB.out.2.2.2.1.size)) (ai (BB.out.2.2.2.2.1.belows hb) (ai (Q2.out.below hb) hN0))))));have s0:=BB.out.1.cell 0 _ rfl;have s1:=BB.out.1.cell 1 _ rfl;have s2:=BB.out.1.cell 2 _ rfl;have s3:=BB.out.1.cell 3 _ rfl;have s4:=BB.out.1.cell 4 _ rfl;have s5:=BB.out.1.cell 5 _ rfl;have y0:=BB.out.1.frozen 0;have y1:=BB.out.1.frozen 1;have y2:=BB.out.1.frozen 2;have y3:=BB.out.1.frozen 3;have y4:=BB.out.1.frozen 4;have y5:=BB.out.1.frozen 5;clear hb hN hN0))
       all_goals
        clear HNv HNw Q2 s0 s1 s2 s3 s4 s5 y0 y1 y2 y3 y4 y5;obtain ⟨Z,hZ⟩:∃ Z,Z=(((((v.setCell ⟨gr,0,none⟩ (.bool (dN ov'))).setCell ⟨gr,1,none⟩ (.slice p3 (ws (dX ov')).length k3)).setCell ⟨gr,2,none⟩ (.int .i64 (dE ov'))).setCell ⟨gr,3,none⟩ (.bool (dN ow'))).setCell ⟨gr,4,none⟩ (.slice p4 (ws (dX ow')).length k4)).setCell ⟨gr,5,none⟩ (.int .i64 (dE ow')):=⟨_,rfl⟩
        have B7:Aside (Bl Z gr 71 [.bool (dN ov'),.slice p3 (ws (dX ov')).length k3,.int .i64 (dE ov'),.bool (dN ow'),.slice p4 (ws (dX ow')).length k4,.int .i64 (dE ow')]∧Bl Z gx 22 [.float .f64 0]∧Bl Z ge 25 [.int .i64 0]∧Below w.heap.size w Z∧Tab Z∧Nt 0 Z (.slice p3 (ws (dX ov')).length k3) (dX ov')∧Nt 0 Z (.slice p4 (ws (dX ow')).length k4) (dX ow')):=by
         have bz:But gr v Z:=by rw [hZ];exact Ps.But.set6 (But.refl _ _) _ _ _ _ _ _
         have hgx:gx≠gr:=by rintro rfl;have:=BB.out.2.1.symm.trans BB.out.1;simp at this
         have hge:ge≠gr:=by rintro rfl;have:=BB.out.2.2.1.symm.trans BB.out.1;simp at this
         have hgl:w.heap.size≤gr:=HGR2.out;have hbz:=But.below BB.out.2.2.2.1 bz BB.out.2.2.2.1.size hgl;refine ⟨by rw [hZ];exact (((((BB.out.1.set 0 _).set 1 _).set 2 _).set 3 _).set 4 _).set 5 _,BB.out.2.1.but bz hgx,BB.out.2.2.1.but bz hge,hbz,HX.out.2.2.2.2.2.2.belows hbz,BB.out.2.2.2.2.2.1.off13 BB.out.1 (by decide) bz,BB.out.2.2.2.2.2.2.off13 BB.out.1 (by decide) bz⟩
        rw [←hZ];clear hZ BB;have s0:=B7.out.1.cell 0 _ rfl;have s1:=B7.out.1.cell 1 _ rfl;have s2:=B7.out.1.cell 2 _ rfl;have s3:=B7.out.1.cell 3 _ rfl;have s4:=B7.out.1.cell 4 _ rfl;have s5:=B7.out.1.cell 5 _ rfl;have C:=hid (HR.out _ p3 p4 k3 k4 B7.out.2.2.2.2.1 B7.out.2.2.2.2.2.1 B7.out.2.2.2.2.2.2)
        go_wp2_with fail
        refine C.out.mono ?_;rintro r v ⟨rfl,hb⟩
        have B6:Aside (Bl v gx 22 [.float .f64 0]∧Bl v ge 25 [.int .i64 0]∧Below w.heap.size w v) :=
         ⟨B7.out.2.1.below hb B7.out.2.1.lt,B7.out.2.2.1.below hb B7.out.2.2.1.lt,B7.out.2.2.2.1.trans (hb.mono B7.out.2.2.2.1.size)⟩
        have t1:=B6.out.1.cell 0 _ rfl;have t2:=B6.out.1.frozen 0;have t3:=B6.out.2.1.cell 0 _ rfl;have t4:=B6.out.2.1.frozen 0;have hne1:ge≠gx:=HG.out.2.2.2.2;have hne2:gx≠ge:=fun h=>HG.out.2.2.2.2 h.symm
        clear hb B7 C HR s0 s1 s2 s3 s4 s5;go_wp2;refine finish13 Tryz.results11 Weighted1_d B6.out.1 B6.out.2.1 B6.out.2.2 HG.out.2.2.1 HG.out.2.2.2.1 HG.out.2.2.2.2 HXE.out.1 HXE.out.2 (fun _=>by simp [go_sem]) ?_ ?_ <;> rfl
     · have HR:=hid (HR2.out (by omega))
       have d5:decide (sg<0)=false:=decide_eq_false (fun h=>hs (HG3.out.2 h))
       clear HR1 HR2 HNv HNw;have s0:=B5.out.1.cell 0 _ rfl;have s1:=B5.out.1.cell 1 _ rfl;have s2:=B5.out.1.cell 2 _ rfl;have s3:=B5.out.1.cell 3 _ rfl;have s4:=B5.out.1.cell 4 _ rfl;have s5:=B5.out.1.cell 5 _ rfl;have C:=hid (HR.out _ p1 p2 k1 k2 B5.out.2.2.2.2.1 B5.out.2.2.2.2.2.1 B5.out.2.2.2.2.2.2)
       go_wp2_with fail
       refine C.out.mono ?_;rintro r v ⟨rfl,hb⟩
       have B6:Aside (Bl v gx 22 [.float .f64 0]∧Bl v ge 25 [.int .i64 0]∧Below w.heap.size w v) :=
        ⟨B5.out.2.1.below hb B5.out.2.1.lt,B5.out.2.2.1.below hb B5.out.2.2.1.lt,B5.out.2.2.2.1.trans (hb.mono B5.out.2.2.2.1.size)⟩
       have t1:=B6.out.1.cell 0 _ rfl;have t2:=B6.out.1.frozen 0;have t3:=B6.out.2.1.cell 0 _ rfl;have t4:=B6.out.2.1.frozen 0;have hne1:ge≠gx:=HG.out.2.2.2.2;have hne2:gx≠ge:=fun h=>HG.out.2.2.2.2 h.symm
       clear hb B5 C HR s0 s1 s2 s3 s4 s5;go_wp2;refine finish13 Tryz.results11 Weighted1_d B6.out.1 B6.out.2.1 B6.out.2.2 HG.out.2.2.1 HG.out.2.2.2.1 HG.out.2.2.2.2 HXE.out.1 HXE.out.2 (fun _=>by simp [go_sem]) ?_ ?_ <;> rfl
   · rw [if_neg he] at hz
     have HXE:=qsd (Prod.mk.inj hz);have h1:(ep==0)=false:=by simp [he]
     have r1:=B2.out.2.1.cell 0 _ rfl;clear hz HEP
     go_upto_region 5 with fail
     rw [←HV2.out];clear HV2 q1 q2;go_wp2;refine early13 Tryz.results11 Weighted1_d B2.out.1 B2.out.2.1 B2.out.2.2 HG.out.2.2.1 HG.out.2.2.2.2 ((bsd_zero _).trans HXE.out.1) HXE.out.2 (by simp [go_sem]) ?_ ?_ <;> rfl
 · rw [if_neg h0] at hz
   have HXE:=qsd (Prod.mk.inj hz);have h1:(ea==0)=false:=by simp [h0]
   clear hz HA;go_wp2;refine early13 Tryz.results11 Weighted1_d B1.out.1 B1.out.2.1 B1.out.2.2 HG.out.2.2.1 HG.out.2.2.2.2 ((bsd_zero _).trans HXE.out.1) HXE.out.2 (by simp [go_sem]) ?_ ?_ <;> rfl
end
section
open Go.RowKit J
open Go.Proofs.YtjldfhecnaiinabGreatDoor.B (f64bits f64frombits)
attribute [local go_sem] st_float f64bits f64frombits
theorem own13 {V W:Int}(hV:V≠0) (hW:0<W) (k:Nat) (hk:k≤90000) (hb:V.natAbs<2^k) (hb2:W.natAbs<2^k) (L:Nat) (hL:L<9218868437227405312) (e:∀ j,j=1074→V.natAbs*2^j=vK L*W.natAbs) (mode:Int) (hm0:0≤mode) (hm4:mode≤4) :
 qvR V W mode=(L+(if V<0 then 9223372036854775808 else 0),0):=by
 obtain ⟨K,t,m,hL1,hR⟩:=quot_lies hV hW k hk hb hb2;rw [hR mode hm0 hm4,rK_own mode _ (hL1 1074 rfl) L hL (e 1074 rfl)]
theorem lenW_bd (N:Nat) (h:N≤65536) (k:Nat) (hk:k=2148):∃ j:Nat,j=4238∧((N:Int)*((2^k:Nat):Int)).natAbs<2^j:=by
 obtain ⟨j,hj⟩:∃ j:Nat,j=4238:=⟨_,rfl⟩;refine ⟨j,hj,?_⟩;rw [←Int.natCast_mul,Int.natAbs_natCast];have h1:N*2^k<2^17*2^k:=Nat.mul_lt_mul_of_pos_right (by omega) (Nat.two_pow_pos k)
 rw [←Nat.pow_add] at h1;exact Nat.lt_of_lt_of_le h1 (Nat.pow_le_pow_right (by decide) (by omega))
theorem lev_own {xs:List Nat}{s:Sp}{mode:Int}(hW:W64 xs) (hl:xs.length≤65536) (hne:xs≠[]) (hV:vS xs≠0) (hm0:0≤mode) (hm4:mode≤4) (L:Nat) (hL:L<9218868437227405312) (e:∀ j k,j=1074→k=2148→(vS xs).natAbs*2^j=vK L*(xs.length*2^k)) :
 levR xs s mode=(L+(if vS xs<0 then 9223372036854775808 else 0),0):=by
 unfold levR;obtain ⟨k,hk⟩:∃ k:Nat,k=2148:=⟨_,rfl⟩;obtain ⟨j,hj,hb⟩:=vS_bd hW hl;obtain ⟨j2,hj2,hb2⟩:=lenW_bd xs.length hl k hk;rw [if_neg hne,if_neg hV,qn_qv _ _ _ k hk];have hp:0<xs.length:=List.length_pos_iff.2 hne;have hpk:=Nat.two_pow_pos k;refine own13 hV ?_ j (by omega) hb (by rw [hj,←hj2];exact hb2) L hL ?_ mode hm0 hm4
 · rw [←Int.natCast_mul];have:=Nat.mul_pos hp hpk;omega
 · intro i hi
   rw [←Int.natCast_mul,Int.natAbs_natCast];exact e i k hi hk
theorem mean126:meanR [4607182418800017408,4611686018427387904,4618441417868443648] 0 0 0=(4613937818241073152,0):=by
 have e1:askE 0=0:=by decide
 have e2:sfE 0 0 [4607182418800017408,4611686018427387904,4618441417868443648]=0:=by decide +kernel
 have e3:vd (snd (sS [4607182418800017408,4611686018427387904,4618441417868443648]).n (sS [4607182418800017408,4611686018427387904,4618441417868443648]).u (sS [4607182418800017408,4611686018427387904,4618441417868443648]).d (sS [4607182418800017408,4611686018427387904,4618441417868443648]).m (sS [4607182418800017408,4611686018427387904,4618441417868443648]).p (sS [4607182418800017408,4611686018427387904,4618441417868443648]).a&&may 0 0) (sS [4607182418800017408,4611686018427387904,4618441417868443648]).n (sS [4607182418800017408,4611686018427387904,4618441417868443648]).u (sS [4607182418800017408,4611686018427387904,4618441417868443648]).d 0 0=(0,false):=by decide +kernel
 have e4:Ps.fin [4607182418800017408,4611686018427387904,4618441417868443648]=[4607182418800017408,4611686018427387904,4618441417868443648]:=by decide +kernel
 have hp:decide (0<vS [4607182418800017408,4611686018427387904,4618441417868443648])=true:=by decide +kernel
 have hp:=of_decide_eq_true hp;have e5:=lev_own (xs:=[4607182418800017408,4611686018427387904,4618441417868443648]) (s:=sS [4607182418800017408,4611686018427387904,4618441417868443648]) (mode:=0) (by unfold W64;decide) (by decide) (by decide) (by omega) (by decide) (by decide) 4613937818241073152 (by decide) (fun j k hj hk=>by subst hj hk;decide +kernel)
 unfold meanR;rw [e1,if_pos rfl,e2,if_pos rfl,e3,if_neg (by decide),e4,e5,if_neg (by omega)]
 rfl
theorem mid12:midR 4607182418800017408 4611686018427387904 0=(4609434218613702656,0):=by
 have e1:askE 0=0:=by decide
 have e2:plE [4607182418800017408,4611686018427387904]=0:=by decide +kernel
 have hp:decide (0<vS [4607182418800017408,4611686018427387904])=true:=by decide +kernel
 have hp:=of_decide_eq_true hp;have e5:=lev_own (xs:=[4607182418800017408,4611686018427387904]) (s:=sS [4607182418800017408,4611686018427387904]) (mode:=0) (by unfold W64;decide) (by decide) (by decide) (by omega) (by decide) (by decide) 4609434218613702656 (by decide) (fun j k hj hk=>by subst hj hk;decide +kernel)
 unfold midR plnR;rw [e1,if_pos rfl,e2,if_pos rfl,e5,if_neg (by omega)]
 rfl
theorem wt12:wtR [4607182418800017408,4611686018427387904] [4607182418800017408,4613937818241073152] 0=(4610560118520545280,0):=by
 have e1:askE 0=0:=by decide
 have e2:prE [4607182418800017408,4611686018427387904] [4607182418800017408,4613937818241073152]=0:=by decide +kernel
 have hp:decide (0<wS [4607182418800017408,4611686018427387904] [4607182418800017408,4613937818241073152])=true:=by decide +kernel
 have hp:=of_decide_eq_true hp;have hq:decide (0<vS [4607182418800017408,4613937818241073152])=true:=by decide +kernel
 have hq:=of_decide_eq_true hq;have w1:W64 [4607182418800017408,4611686018427387904]:=by unfold W64;decide
 have w2:W64 [4607182418800017408,4613937818241073152]:=by unfold W64;decide
 obtain ⟨k1,hk1,hb1⟩:=wS_bd w1 w2 (by decide)
 obtain ⟨k2,hk2,hb2⟩:=vS_bd w2 (by decide)
 have e5:=own13 (V:=wS [4607182418800017408,4611686018427387904] [4607182418800017408,4613937818241073152]) (W:=vS [4607182418800017408,4613937818241073152]) (by omega) hq k1 (by omega) hb1 (by rw [hk1,←hk2];exact hb2) 4610560118520545280 (by decide) (fun j hj=>by subst hj;decide +kernel) 0 (by decide) (by decide)
 unfold wtR wqR;rw [e1,if_pos rfl,e2,if_pos rfl,if_neg (by omega),e5,if_neg (by omega)]
 rfl
theorem lit13 (w:World) (xs:List Nat) (g:Nat) (hg:g=w.heap.size):Fs (w.alloc (Obj.cells (xs.map fun x=>Value.float .f64 x).toArray 22)).heap.size (w.alloc (Obj.cells (xs.map fun x=>Value.float .f64 x).toArray 22)) (some ⟨g,0,none⟩) xs:=by
 intro _;refine ⟨g,0,by simp;omega,rfl,fun i hi=>?_⟩
 have hB:=Bl.new w 22 (xs.map fun x=>Value.float .f64 x)
 rw [hg];refine (hB.cell (0+i) (.float .f64 (xs.getD i 0)) ?_);rw [Nat.zero_add,List.getElem?_map,List.getD_eq_getElem?_getD,List.getElem?_eq_getElem hi]
 rfl
theorem live13 (w:World) (hT:Tab w):Calls Tryz.prog 9 #[] w fun r w'=>r=.returned (.bool true)∧Below w.heap.size w w':=by
 have o3:(FloatKind.f64.format.order 4613937818241073152 4613937818241073152==some .eq)=true:=by decide +kernel
 have o175:(FloatKind.f64.format.order 4610560118520545280 4610560118520545280==some .eq)=true:=by decide +kernel
 have o15:(FloatKind.f64.format.order 4609434218613702656 4609434218613702656==some .eq)=true:=by decide +kernel
 obtain ⟨W1,hW1⟩:∃ W,W=w.alloc (Obj.cells #[.float .f64 4607182418800017408,.float .f64 4611686018427387904,.float .f64 4618441417868443648] 22):=⟨_,rfl⟩
 have B1:Aside (Below w.heap.size w W1∧Fs W1.heap.size W1 (some ⟨w.heap.size,0,none⟩) [4607182418800017408,4611686018427387904,4618441417868443648]):=by
  rw [hW1];exact ⟨bel_alloc _ _,lit13 w [_,_,_] _ rfl⟩
 have HT:=qsd hT;have C1:=hid (Mean13 [4607182418800017408,4611686018427387904,4618441417868443648] (some ⟨w.heap.size,0,none⟩) 3 3 0 0 0 W1 rfl B1.out.2 (by unfold W64;decide) (hT.belows B1.out.1) (by decide) _ mean126)
 have HW1:=qsd hW1;clear hW1 hT;go_enter Tryz.func9,Tryz.ntmps9
 go_wp2_with fail
 rw [←HW1.out];clear HW1;refine C1.out.mono ?_;rintro r u1 ⟨rfl,hb1⟩;have B2:=qsd (B1.out.1.trans (hb1.mono B1.out.1.size));clear hb1 C1 B1;obtain ⟨W2,hW2⟩:∃ W,W=(u1.alloc (Obj.cells #[.float .f64 4607182418800017408,.float .f64 4611686018427387904] 22)).alloc (Obj.cells #[.float .f64 4607182418800017408,.float .f64 4613937818241073152] 22):=⟨_,rfl⟩
 have B3:Aside (Below w.heap.size w W2∧Fs W2.heap.size W2 (some ⟨u1.heap.size,0,none⟩) [4607182418800017408,4611686018427387904]∧Fs W2.heap.size W2 (some ⟨u1.heap.size+1,0,none⟩) [4607182418800017408,4613937818241073152]):=by
  rw [hW2];exact ⟨(B2.out.trans ((bel_alloc _ _).mono B2.out.size)).trans ((bel_alloc _ _).mono (Nat.le_trans B2.out.size (by simp))),((lit13 u1 [_,_] _ rfl).below (bel_alloc _ _)).mono (by simp),lit13 _ [_,_] _ (by simp)⟩
 have C2:=hid (Weighted13 [4607182418800017408,4611686018427387904] [4607182418800017408,4613937818241073152] (some ⟨u1.heap.size,0,none⟩) (some ⟨u1.heap.size+1,0,none⟩) 2 2 2 2 0 W2 rfl rfl B3.out.2.1 B3.out.2.2 (by unfold W64;decide) (by unfold W64;decide) (HT.out.belows B3.out.1) _ wt12)
 have HW2:=qsd hW2;clear hW2
 go_wp2_with fail
 rw [←HW2.out];clear HW2;refine C2.out.mono ?_;rintro r u2 ⟨rfl,hb2⟩;have B4:=qsd (B3.out.1.trans (hb2.mono B3.out.1.size));clear hb2 C2 B3 B2;have C3:=hid (Middle13 4607182418800017408 4611686018427387904 (by decide) (by decide) 0 u2 (HT.out.belows B4.out) _ mid12)
 go_wp2_with fail
 refine C3.out.mono ?_;rintro r u3 ⟨rfl,hb3⟩;have B5:=qsd (B4.out.trans (hb3.mono B4.out.size));clear hb3 C3 B4;simp only;go_wp2;go_ret;exact ⟨rfl,B5.out⟩
end
section
open Go.RowKit J
def fS (xs:List Nat):Int:=xs.foldl (fun v x=>v+fvW x) 0
theorem fS_fold:∀ (xs:List Nat) (v:Int),xs.foldl (fun v x=>v+fvW x) v=v+fS xs
 | [],v=>by simp [fS]
 | x::xs,v=>by
   unfold fS;rw [List.foldl_cons,List.foldl_cons,fS_fold xs (v+_),fS_fold xs (0+_)];omega
theorem fS_cons (x:Nat) (xs:List Nat):fS (x::xs)=fvW x+fS xs:=by
 have:=fS_fold xs (0+fvW x);unfold fS at this ⊢;rw [List.foldl_cons,this];omega
theorem fS_take (l:List Nat) (k:Nat) (h:k<l.length):fS (l.take (k+1))=fS (l.take k)+fvW (l.getD k 0):=by
 rw [take_snoc10 l k h];simp [fS,List.foldl_append]
theorem fv_one (k:Nat) (hk:k=1074):fvW 4607182418800017408=((2^k:Nat):Int):=by subst hk;decide +kernel
theorem vS_fS (k:Nat) (hk:k=1074):∀ {xs:List Nat},W64 xs→(∀ x ∈ xs,finW x)→vS xs=fS xs*((2^k:Nat):Int)
 | [],_,_=>by simp [vS,fS]
 | x::xs,h,hf=>by
   have hx:=h x List.mem_cons_self;have fx:=hf x List.mem_cons_self;have fo:finW 4607182418800017408:=by decide
   rw [vS_cons,fS_cons,(pT_mul hx (by decide) fx fo).1,fv_one k hk,vS_fS k hk (fun z hz=>h z (List.mem_cons_of_mem _ hz)) (fun z hz=>hf z (List.mem_cons_of_mem _ hz)),Int.add_mul]
theorem fv_abs (x:Nat):(fvW x).natAbs=vK (magW x):=by unfold fvW B.sg;cases negW x <;> simp
theorem vK_le {a b:Nat}(h:a≤b):vK a≤vK b:=by
 rcases Nat.lt_or_ge a b with q|q
 · exact Nat.le_of_lt (grid64.mono q)
 · rw [show a=b by omega];exact Nat.le_refl _
theorem fS_bd (T:Nat):∀ {xs:List Nat},(∀ x ∈ xs,magW x≤T)→(fS xs).natAbs≤xs.length*vK T
 | [],_=>by simp [fS]
 | x::xs,h=>by
   have ih:=fS_bd T (xs:=xs) (fun z hz=>h z (List.mem_cons_of_mem _ hz))
   have h1:=vK_le (h x List.mem_cons_self);have h2:=fv_abs x;rw [fS_cons,List.length_cons,Nat.add_mul,Nat.one_mul];have:=Int.natAbs_add_le (fvW x) (fS xs);omega
theorem lies_own (L S:Nat) (hL:L<9218868437227405312) (hS:0<S):Lies L true 0 (vK L*S) S:=⟨hL,hS,fun _=>rfl,fun h=>(by cases h),fun h=>(by cases h),fun h=>(by cases h)⟩
theorem mean_lies {xs:List Nat}(hW:W64 xs) (hf:∀ x ∈ xs,finW x) (hne:xs≠[]) (hl:xs.length≤65536) (hS:fS xs≠0) :
 ∃ K t m,Lies K t m (fS xs).natAbs xs.length∧∀ mode:Int,0≤mode→mode≤4→∀ s:Sp,levR xs s mode=(rK mode (decide (fS xs<0)) K t m+(if fS xs<0 then 9223372036854775808 else 0),0):=by
 obtain ⟨k,hk⟩:∃ k:Nat,k=2148:=⟨_,rfl⟩;obtain ⟨j,hj⟩:∃ k:Nat,k=1074:=⟨_,rfl⟩;have hV:=vS_fS j hj hW hf;have hpj:=Nat.two_pow_pos j;have hpk:=Nat.two_pow_pos k;have hp:0<xs.length:=List.length_pos_iff.2 hne;have hV0:vS xs≠0:=by rw [hV];intro h;rcases Int.mul_eq_zero.1 h with q | q;exact hS q;omega
 have hs:vS xs<0↔fS xs<0:=by
  rw [hV]
  constructor
  · intro h
    rcases Int.lt_or_le (fS xs) 0 with q|q
    · exact q
    · have:=Int.mul_nonneg q (Int.natCast_nonneg (2^j));omega
  · intro h;exact Int.mul_neg_of_neg_of_pos h (by omega)
 obtain ⟨i1,hi1,hb1⟩:=vS_bd hW hl;obtain ⟨i2,hi2,hb2⟩:=lenW_bd xs.length hl k hk;have hWp:0<(xs.length:Int)*((2^k:Nat):Int):=by rw [←Int.natCast_mul];have:=Nat.mul_pos hp hpk;omega
 obtain ⟨K,t,m,hL,hR⟩:=quot_lies hV0 hWp i1 (by omega) hb1 (by rw [hi1,←hi2];exact hb2)
 refine ⟨K,t,m,?_,fun mode hm0 hm4 s=>?_⟩
 · refine (hL j hj).ratio hp ?_
   rw [hV,←Int.natCast_mul,Int.natAbs_natCast,Int.natAbs_mul,Int.natAbs_natCast];have e:2^k=2^j*2^j:=by rw [←Nat.pow_add];congr 1;omega
   rw [e,Nat.mul_assoc (fS xs).natAbs,Nat.mul_assoc (fS xs).natAbs,Nat.mul_comm (2^j*2^j) xs.length]
 · unfold levR
   rw [if_neg hne,if_neg hV0,qn_qv _ _ _ k hk,hR mode hm0 hm4]
   by_cases q:fS xs<0
   · rw [if_pos q,if_pos (hs.2 q),decide_eq_true q,decide_eq_true (hs.2 q)]
   · rw [if_neg q,if_neg (fun h=>q (hs.1 h)),decide_eq_false q,decide_eq_false (fun h=>q (hs.1 h))]
theorem mean_top {xs:List Nat}{K:Nat}{t:Bool}{m:Int}(mode:Int) (n:Bool) (hL:Lies K t m (fS xs).natAbs xs.length) (T:Nat) (hT:T<9218868437227405312) (h:∀ x ∈ xs,magW x≤T):rK mode n K t m≤T:=by
 have h1:=lies_own T xs.length hT hL.pos;have h2:=fS_bd T h;have:=rK_mono mode n hL h1 (by rw [Nat.mul_comm];exact h2)
 have e:rK mode n T true 0=T:=by unfold rK;rw [if_pos rfl]
 omega
theorem fv_sum {r:Nat}{b:Bool}(h:r<9223372036854775808):fvW (r+(if b then 9223372036854775808 else 0))=B.sg b (vK r)∧magW (r+(if b then 9223372036854775808 else 0))=r∧negW (r+(if b then 9223372036854775808 else 0))=b:=by
 have e1:magW (r+(if b then 9223372036854775808 else 0))=r:=by unfold magW;cases b <;> simp <;> omega
 have e2:negW (r+(if b then 9223372036854775808 else 0))=b:=by unfold negW;cases b <;> simp <;> omega
 exact ⟨by unfold fvW;rw [e1,e2],e1,e2⟩
theorem nt_nought (ok:Bool) (n u d m p a mode:Int):nt ok n u d m p a mode=0∨nt ok n u d m p a mode=9223372036854775808:=by
 unfold nt
 (repeat' split) <;> first | exact .inl rfl | exact .inr rfl
theorem near_all {xs:List Nat}(hW:W64 xs) (hf:∀ x ∈ xs,finW x) (hne:xs≠[]) (hl:xs.length≤65536) (s:Sp) :
 (levR xs s 0).2=0∧(levR xs s 0).1<18446744073709551616∧finW (levR xs s 0).1∧∀ y:Nat,(fvW (levR xs s 0).1*xs.length-fS xs).natAbs≤(fvW y*xs.length-fS xs).natAbs:=by
 obtain ⟨j,hj⟩:∃ k:Nat,k=1074:=⟨_,rfl⟩
 by_cases h0:fS xs=0
 · have hV:vS xs=0:=by rw [vS_fS j hj hW hf,h0,Int.zero_mul]
   have e:levR xs s 0=(nt (snd s.n s.u s.d s.m s.p s.a) s.n s.u s.d s.m s.p s.a 0,0):=by unfold levR;rw [if_neg hne,if_pos hV]
   rw [e,h0];simp only;have z0:fvW 0=0:=by decide +kernel
   have z1:fvW 9223372036854775808=0:=by decide +kernel
   rcases nt_nought (snd s.n s.u s.d s.m s.p s.a) s.n s.u s.d s.m s.p s.a 0 with q|q
   · rw [q,z0];exact ⟨trivial,by decide,by decide,fun y=>by simp⟩
   · rw [q,z1];exact ⟨trivial,by decide,by decide,fun y=>by simp⟩
 · obtain ⟨K,t,m,hL,hR⟩:=mean_lies hW hf hne hl h0
   have ht:=mean_top 0 (decide (fS xs<0)) hL 9218868437227405311 (by decide) (fun x hx=>by have:magW x<9218868437227405312:=hf x hx;omega)
   rw [hR 0 (by decide) (by decide) s]
   obtain ⟨r,hr⟩:∃ r,rK 0 (decide (fS xs<0)) K t m=r:=⟨_,rfl⟩;have nr:=rK_near 0 (decide (fS xs<0)) (.inl rfl) hL (by omega)
   rw [hr] at ht nr ⊢;simp only;have eb:(if fS xs<0 then 9223372036854775808 else 0)=(if decide (fS xs<0) then 9223372036854775808 else 0):=by by_cases q:fS xs<0 <;> simp [q]
   rw [eb];obtain ⟨v1,v2,v3⟩:=fv_sum (r:=r) (b:=decide (fS xs<0)) (by omega)
   refine ⟨trivial,by split <;> omega,by show magW _<_;rw [v2];omega,fun y=>?_⟩
   rw [v1];have n1:=nr (magW y);have n0:=nr 0;rw [grid64.zero,Nat.zero_mul] at n0;have hy:fvW y=B.sg (negW y) (vK (magW y)):=rfl;rw [hy];have c1:((vK r*xs.length:Nat):Int)=(vK r:Int)*xs.length:=Int.natCast_mul _ _;have c2:((vK (magW y)*xs.length:Nat):Int)=(vK (magW y):Int)*xs.length:=Int.natCast_mul _ _;have p1:0≤(vK r:Int)*xs.length:=by rw [←c1];exact Int.natCast_nonneg _
   have p2:0≤(vK (magW y):Int)*xs.length:=by rw [←c2];exact Int.natCast_nonneg _
   rw [c1] at n0 n1;rw [c2] at n1;unfold B.sg;generalize (vK r:Int)*xs.length=A at *
   by_cases q:fS xs<0
   · rw [decide_eq_true q]
     cases negW y
     · simp only [if_true,Bool.false_eq_true,if_false,Int.neg_mul]
       generalize (vK (magW y):Int)*xs.length=C at *;omega
     · simp only [if_true,Int.neg_mul]
       generalize (vK (magW y):Int)*xs.length=C at *;omega
   · rw [decide_eq_false q]
     cases negW y
     · simp only [Bool.false_eq_true,if_false]
       generalize (vK (magW y):Int)*xs.length=C at *;omega
     · simp only [if_true,Bool.false_eq_true,if_false,Int.neg_mul]
       generalize (vK (magW y):Int)*xs.length=C at *;omega
end
section
open Go.RowKit J
attribute [local go_sem] st_float
theorem next13 {x:Nat}(hx:x<18446744073709551616):∃ y,y<18446744073709551616∧∀ w:World,Calls Tryz.prog 23 #[.float .f64 x] w fun r w'=>r=.returned (.float .f64 y)∧w'=w:=by
 obtain ⟨h1,h2,h3⟩:=bw_parts x hx;refine ⟨B.nx (sW x) (eW x) (fW x),?_,fun w=>?_⟩
 · unfold B.nx
   rw [←h1];have hs:sW x=decide (9223372036854775808≤x):=rfl
   split
   · decide
   · split
     · exact hx
     · split
       · decide
       · split
         · omega
         · rename_i a b c d
           cases hq:sW x
           · rw [hs] at hq;have:=of_decide_eq_false hq;omega
           · exact absurd hq d
 · have:=B.next_any (sW x) (eW x) (fW x) h2 h3 w
   rw [←h1] at this;exact this
theorem prev13 {x:Nat}(hx:x<18446744073709551616):∃ y,y<18446744073709551616∧∀ w:World,Calls Tryz.prog 22 #[.float .f64 x] w fun r w'=>r=.returned (.float .f64 y)∧w'=w:=by
 obtain ⟨h1,h2,h3⟩:=bw_parts x hx
 cases ho:B.odd (eW x) (fW x) with
 | true =>
   have:=fun w=>B.prev_odd (sW x) (eW x) (fW x) h2 h3 ho w
   rw [←h1] at this;exact ⟨_,by decide,this⟩
 | false =>
   have hlt:B.nx (!sW x) (eW x) (fW x)<18446744073709551616:=by
    have hb:B.bw (!sW x) (eW x) (fW x)<18446744073709551616:=B.bw_lt (!sW x) _ _ h2 h3
    have hb2:(!sW x)=false→B.bw (!sW x) (eW x) (fW x)<9223372036854775808:=by
     intro q;rw [q];unfold B.bw;simp;omega
    unfold B.nx
    split
    · decide
    · split
      · exact hb
      · split
        · decide
        · split
          · omega
          · rename_i a b c d
            have:=hb2 (by cases hq:(!sW x);rfl;exact absurd hq d)
            omega
   obtain ⟨g1,g2,g3⟩:=bw_parts _ hlt;have:=fun w=>B.prev_even (sW x) (eW x) (fW x) h2 h3 ho (sW (B.nx (!sW x) (eW x) (fW x))) (eW (B.nx (!sW x) (eW x) (fW x))) (fW (B.nx (!sW x) (eW x) (fW x))) g2 g3 g1 w
   rw [←h1] at this;exact ⟨_,B.bw_lt _ _ _ g2 g3,this⟩
theorem fo_iv13 (V:Int) (m:Nat) (hm:m≤100000) (hV:V.natAbs<2^m):Iv (fo8 V) (-1074) ((m:Int)-1074):=by
 unfold fo8;refine mkS_iv _ _ _ _ _ (.inr ⟨by omega,?_⟩) (by omega) (by omega) (by omega)
 have:=bl_lt_pow hV;omega
theorem fo_fm13 (V:Int) (m:Nat) (hm:m≤100000) (hV:V.natAbs<2^m):Fm (fo8 V):=(fo_iv13 V m hm hV).fm
theorem int_fo (N:Nat) (k:Nat) (hk:k=1074):fo8 ((N:Int)*((2^k:Nat):Int))=mkS false N 0:=by
 unfold fo8;rw [←Int.natCast_mul,decide_eq_false (by omega),Int.natAbs_natCast,Nat.mul_comm,mkS_pow11]
 congr 1
 omega
theorem ex_fo13 (V:Int) (k:Nat) (hk:k=1074):exV (V*((2^k:Nat):Int))=fo8 V:=by
 unfold exV fo8;have hp:(0:Int)<((2^k:Nat):Int):=by have:=Nat.two_pow_pos k;omega
 have e1:decide (V*((2^k:Nat):Int)<0)=decide (V<0):=by
  by_cases h:V<0
  · rw [decide_eq_true h,decide_eq_true (Int.mul_neg_of_neg_of_pos h hp)]
  · rw [decide_eq_false h,decide_eq_false (by have:=Int.mul_nonneg (show 0≤V by omega) (Int.le_of_lt hp);omega)]
 rw [e1,Int.natAbs_mul,Int.natAbs_natCast,Nat.mul_comm,mkS_pow11]
 congr 1
 omega
theorem fo_mul13 {A C:Int}(m:Nat) (hm:m≤10000) (hA:A.natAbs<2^m) (hC:C.natAbs<2^m):mulD (fo8 A) (fo8 C)=exV (A*C):=by
 have hF:=((fo_iv13 A m (by omega) hA).mul (fo_iv13 C m (by omega) hC) (by omega) (by omega) (by omega)).fm
 have hb:(A*C).natAbs<2^(m+m):=by rw [Int.natAbs_mul,Nat.pow_add];exact Nat.mul_lt_mul'' hA hC
 have hG:=ex_fm (A*C) (m+m) (by omega) hb
 refine valO_inj hF hG ?_;have h:=val_mul (fo_fm13 A m (by omega) hA) (fo_fm13 C m (by omega) hC) hF
 rw [val_fo (fo_fm13 A m (by omega) hA),val_fo (fo_fm13 C m (by omega) hC)] at h
 rw [val_ex hG];have hM:(0:Int)<(MM:Int):=by have:=M_pos;omega
 refine Int.eq_of_mul_eq_mul_right (by omega) (h.trans ?_)
 have e:(YY:Int)*(YY:Int)=(XX:Int)*(MM:Int):=by rw [←Int.natCast_mul,YYXM,Int.natCast_mul]
 rw [Int.mul_assoc A,Int.mul_comm (YY:Int) (C*_),Int.mul_assoc C,e];simp only [Int.mul_assoc]
theorem int_mul13 {A:Int}{N:Nat}(m:Nat) (hm:m≤5000) (h2:1200≤m) (hA:A.natAbs<2^m) (hN:N≤65536):mulD (fo8 A) (mkS false N 0)=fo8 (A*N):=by
 obtain ⟨k,hk⟩:∃ k:Nat,k=1074:=⟨_,rfl⟩
 have hb:((N:Int)*((2^k:Nat):Int)).natAbs<2^m:=by
  rw [←Int.natCast_mul,Int.natAbs_natCast];have h1:N*2^k<2^17*2^k:=Nat.mul_lt_mul_of_pos_right (by omega) (Nat.two_pow_pos k)
  rw [←Nat.pow_add] at h1;exact Nat.lt_of_lt_of_le h1 (Nat.pow_le_pow_right (by decide) (by omega))
 rw [←int_fo N k hk,fo_mul13 m (by omega) hA hb,←Int.mul_assoc,ex_fo13 _ k hk]
theorem mulI13 {U:World}{a b:Option Addr}{c d:Nat}{A:Int}{N:Nat}(m:Nat) (hm:m≤5000) (h2:1200≤m) (hA:A.natAbs<2^m) (hA2:(A*N).natAbs<2^m) (hN:N≤65536) (N1:Nt 0 U (.slice a (ws (dX (fo8 A))).length c) (dX (fo8 A))) (N2:Nt 0 U (.slice b (ws (dX (mkS false N 0))).length d) (dX (mkS false N 0))) (hT:Tab U) :
 Calls Tryz.prog 66 #[.agg #[.bool (dN (fo8 A)),.slice a (ws (dX (fo8 A))).length c,.int .i64 (dE (fo8 A))],.agg #[.bool (dN (mkS false N 0)),.slice b (ws (dX (mkS false N 0))).length d,.int .i64 (dE (mkS false N 0))]] U fun r w'=>(∃ v,r=.returned (.tuple #[.agg #[.bool (dN (fo8 (A*N))),v,.int .i64 (dE (fo8 (A*N)))],.int .i64 0])∧Nt U.heap.size w' v (dX (fo8 (A*N))))∧Below U.heap.size U w' :=
 mulP12 (fo_fm13 A m (by omega) hA) (int_fm N (by omega)) N1 N2 hT (int_mul13 m hm h2 hA hN) (fo_fm13 _ m (by omega) hA2)
theorem subP13 {U:World}{a b:Option Addr}{c d:Nat}{A C:Int}(m:Nat) (hm:m≤5000) (hA:A.natAbs<2^m) (hC:C.natAbs<2^m) (hD:(A-C).natAbs<2^m) (N1:Nt 0 U (.slice a (ws (dX (fo8 A))).length c) (dX (fo8 A))) (N2:Nt 0 U (.slice b (ws (dX (fo8 C))).length d) (dX (fo8 C))) (hT:Tab U) :
 Calls Tryz.prog 67 #[.agg #[.bool (dN (fo8 A)),.slice a (ws (dX (fo8 A))).length c,.int .i64 (dE (fo8 A))],.agg #[.bool (dN (fo8 C)),.slice b (ws (dX (fo8 C))).length d,.int .i64 (dE (fo8 C))]] U fun r w'=>(∃ v,r=.returned (.tuple #[.agg #[.bool (dN (fo8 (A-C))),v,.int .i64 (dE (fo8 (A-C)))],.int .i64 0])∧Nt U.heap.size w' v (dX (fo8 (A-C))))∧Below U.heap.size U w':=by
 have F:=fo_fm13 A m (by omega) hA
 have G:=fo_fm13 C m (by omega) hC
 have H:=fo_fm13 (A-C) m (by omega) hD
 have:=Sub_any3 (F.a12 N1) (G.a12 N2) hT (dN (fo8 A)) (dN (fo8 C)) (dE (fo8 A)) (dE (fo8 C)) F.rng.1 F.rng.2 G.rng.1 G.rng.2;rw [val_ws,val_ws,F.re,fo8_neg C m (by omega) hC,fo8_add A (-C) m (by omega) hA (by rw [Int.natAbs_neg];exact hC),←Int.sub_eq_add_neg] at this
 unfold DAns at this;rw [H.er] at this;exact this
theorem negP13 {U:World}{a:Option Addr}{c:Nat}{A:Int}(m:Nat) (hm:m≤5000) (hA:A.natAbs<2^m) (N1:Nt 0 U (.slice a (ws (dX (fo8 A))).length c) (dX (fo8 A))) (hT:Tab U) :
 Calls Tryz.prog 42 #[.agg #[.bool (dN (fo8 A)),.slice a (ws (dX (fo8 A))).length c,.int .i64 (dE (fo8 A))]] U fun r w'=>(∃ v,r=.returned (.agg #[.bool (dN (fo8 (-A))),v,.int .i64 (dE (fo8 (-A)))])∧Nt U.heap.size w' v (dX (fo8 (-A))))∧Below U.heap.size U w':=by
 have F:=fo_fm13 A m (by omega) hA
 have:=Neg_any (F.a12 N1) hT (dN (fo8 A)) (dE (fo8 A)) F.rng.1 F.rng.2;rw [val_ws,fo8_neg A m (by omega) hA] at this
 exact this
theorem signP13 {U:World}{a:Option Addr}{c:Nat}{A:Int}(m:Nat) (hm:m≤5000) (hA:A.natAbs<2^m) (N1:Nt 0 U (.slice a (ws (dX (fo8 A))).length c) (dX (fo8 A))) :
 Calls Tryz.prog 41 #[.agg #[.bool (dN (fo8 A)),.slice a (ws (dX (fo8 A))).length c,.int .i64 (dE (fo8 A))]] U fun r w'=>(∃ s:Int,r=.returned (.int .i64 s)∧(s<0↔A<0))∧Below U.heap.size U w':=by
 have F:=fo_fm13 A m (by omega) hA
 refine (Sign_any3 (F.a12 N1) (dN (fo8 A)) (dE (fo8 A))).mono ?_;rintro r w' ⟨rfl,hb⟩;refine ⟨⟨_,rfl,?_⟩,hb⟩;rw [val_ws];obtain ⟨n,X,e,h1,F2,h2,h3,h4⟩:=fo8_frm A m (by omega) hA
 rw [h1]
 show sgn n X<0↔A<0
 unfold sgn
 by_cases hX:X=0
 · rw [if_pos hX];have:=h2.1 hX;omega
 · have hA0:A≠0:=fun h=>hX (h2.2 h)
   rw [if_neg hX,h3 hA0]
   by_cases hs:A<0 <;> simp [hs]
theorem cmpP13 {U:World}{a b:Option Addr}{c d:Nat}{A C:Int}(m:Nat) (hm:m≤5000) (hA:A.natAbs<2^m) (hC:C.natAbs<2^m) (N1:Nt 0 U (.slice a (ws (dX (fo8 A))).length c) (dX (fo8 A))) (N2:Nt 0 U (.slice b (ws (dX (fo8 C))).length d) (dX (fo8 C))) :
 Calls Tryz.prog 27 #[.agg #[.bool (dN (fo8 A)),.slice a (ws (dX (fo8 A))).length c,.int .i64 (dE (fo8 A))],.agg #[.bool (dN (fo8 C)),.slice b (ws (dX (fo8 C))).length d,.int .i64 (dE (fo8 C))]] U fun r w'=>(∃ s:Int,r=.returned (.int .i64 s)∧(s≤0↔A≤C))∧Below U.heap.size U w':=by
 have F:=fo_fm13 A m (by omega) hA
 have G:=fo_fm13 C m (by omega) hC
 refine (Cmp_any3 (F.a12 N1) (G.a12 N2) (dN (fo8 A)) (dN (fo8 C)) (dE (fo8 A)) (dE (fo8 C)) F.rng.1 F.rng.2 G.rng.1 G.rng.2).mono ?_;rintro r w' ⟨rfl,hb⟩;refine ⟨⟨_,rfl,?_⟩,hb⟩;rw [val_ws,val_ws];have h1:=fo8_fo A m (by omega) hA
 have h2:=fo8_fo C m (by omega) hC
 obtain ⟨n,X,e,q1,_⟩:=fo8_frm A m (by omega) hA
 obtain ⟨n',X',e',q2,_⟩:=fo8_frm C m (by omega) hC
 rw [q1] at h1;rw [q2] at h2;rw [q1,q2]
 show cmpV n X e n' X' e'≤0↔A≤C
 rw [cmp_fo h1 h2];have hU:(0:Int)<(UU:Int):=by have:=U_pos;omega
 unfold cmpZ;have e1:A*(UU:Int)<C*(UU:Int)↔A<C:=Int.mul_lt_mul_right hU;have e2:C*(UU:Int)<A*(UU:Int)↔C<A:=Int.mul_lt_mul_right hU
 split
 · rename_i h;rw [e1] at h;omega
 · rename_i h
   split
   · rename_i h';rw [e2] at h';omega
   · rename_i h';rw [e1] at h;rw [e2] at h';omega
end
section
open Go.RowKit J
attribute [local go_sem] st_float
theorem of_odd13 {y:Nat}(hy:y<18446744073709551616) (fy:¬ finW y) (w:World) (hT:Tab w) :
 Calls Tryz.prog 20 #[.float .f64 y] w fun r w'=>(∃ v,r=.returned (.tuple #[.agg #[.bool false,v,.int .i64 0],.int .i64 30])∧Nt w.heap.size w' v 0)∧Below w.heap.size w w':=by
 obtain ⟨h1,h2,h3⟩:=bw_parts y hy;have:=Of_any (sW y) (eW y) (fW y) h2 h3 w hT;rw [←h1] at this
 have he:eW y=2047:=by
  have e1:¬ magW y<9218868437227405312:=fy;unfold magW at e1;unfold eW;omega
 unfold OAns ofR ofE at this;rw [if_pos he,if_pos he] at this;exact this
theorem lt_of_cell13 {w:World}{g o:Nat}{v:Value}(h:w.cell? ⟨g,o,none⟩=some v):g<w.heap.size:=by
 rcases Nat.lt_or_ge g w.heap.size with q|q
 · exact q
 · unfold World.cell? at h
   simp [Array.getElem?_eq_none q] at h
structure St (w u:World) (gs ga gb:Nat) (oS oA oB:Option (Bool×Nat×Int)):Prop where
 s:Lo u gs oS
 a:Lo u ga oA
 b:Lo u gb oB
 bel:Below w.heap.size w u
 tab:Tab u
theorem St.below {w u v:World}{gs ga gb:Nat}{oS oA oB:Option (Bool×Nat×Int)}(h:St w u gs ga gb oS oA oB) (hb:Below u.heap.size u v):St w v gs ga gb oS oA oB :=
 ⟨h.s.below hb,h.a.below hb,h.b.below hb,h.bel.trans (hb.mono h.bel.size),h.tab.belows hb⟩
theorem st3_bel13 {B g:Nat}{a w:World}(h:Below B a w) (hB:B≤w.heap.size) (hg:B≤g) (x y z:Value):Below B a (st3 w g x y z):=But.below h ((((But.refl g w).set _ _).set _ _).set _ _) hB hg
theorem St.seta {w u:World}{gs ga gb:Nat}{oS oA oB o:Option (Bool×Nat×Int)}{p:Option Addr}{q:Nat}(h:St w u gs ga gb oS oA oB) (hga:w.heap.size≤ga) (h1:gs≠ga) (h2:gb≠ga) (hN:Nt 0 u (.slice p (ws (dX o)).length q) (dX o)) (hT:Tab w) :
 St w (st3 u ga (.bool (dN o)) (.slice p (ws (dX o)).length q) (.int .i64 (dE o))) gs ga gb oS o oB:=by
 have hb:=st3_bel13 h.bel h.bel.size hga (.bool (dN o)) (.slice p (ws (dX o)).length q) (.int .i64 (dE o));exact ⟨h.s.other h.a h1 _ _ _,h.a.set hN,h.b.other h.a h2 _ _ _,hb,hT.belows hb⟩
theorem St.setb {w u:World}{gs ga gb:Nat}{oS oA oB o:Option (Bool×Nat×Int)}{p:Option Addr}{q:Nat}(h:St w u gs ga gb oS oA oB) (hgb:w.heap.size≤gb) (h1:gs≠gb) (h2:ga≠gb) (hN:Nt 0 u (.slice p (ws (dX o)).length q) (dX o)) (hT:Tab w) :
 St w (st3 u gb (.bool (dN o)) (.slice p (ws (dX o)).length q) (.int .i64 (dE o))) gs ga gb oS oA o:=by
 have hb:=st3_bel13 h.bel h.bel.size hgb (.bool (dN o)) (.slice p (ws (dX o)).length q) (.int .i64 (dE o));exact ⟨h.s.other h.b h1 _ _ _,h.a.other h.b h2 _ _ _,h.b.set hN,hb,hT.belows hb⟩
theorem nearer13 (x y:Nat) (SV:Int) (N:Nat) (p:Option Addr) (q:Nat) (w:World) (hx:x<18446744073709551616) (fx:finW x) (hy:y<18446744073709551616) (m:Nat) (hm:m=3000) (hS:SV.natAbs<2^m) (hN:N≤65536) (hT:Tab w)
 (hNt:Nt 0 w (.slice p (ws (dX (fo8 SV))).length q) (dX (fo8 SV))) (hle:finW y→(fvW x*N-SV).natAbs≤(fvW y*N-SV).natAbs) :
 Calls Tryz.prog 24 #[.float .f64 x,.float .f64 y,.agg #[.bool (dN (fo8 SV)),.slice p (ws (dX (fo8 SV))).length q,.int .i64 (dE (fo8 SV))],.int .i64 (N:Nat)] w fun r w'=>r=.returned (.bool true)∧Below w.heap.size w w':=by
 have bnd:∀ z:Nat,z<18446744073709551616→finW z→(fvW z).natAbs<2^m∧(fvW z*N).natAbs<2^m∧(fvW z*N-SV).natAbs<2^(m+1):=by
  intro z hz fz;obtain ⟨j,hj⟩:∃ j:Nat,j=2098:=⟨_,rfl⟩;have t:=top_fv (x:=z) hz fz j hj
  have t2:(fvW z*N).natAbs<2^m:=by
   rw [Int.natAbs_mul,Int.natAbs_natCast];have a1:(fvW z).natAbs*N≤2^j*65536:=Nat.mul_le_mul (Nat.le_of_lt t) hN
   have a2:2^j*65536<2^m:=by
    rw [show (65536:Nat)=2^16 by decide,←Nat.pow_add]
    exact Nat.pow_lt_pow_right (by decide) (by omega)
   omega
  refine ⟨Nat.lt_of_lt_of_le t (Nat.pow_le_pow_right (by decide) (by omega)),t2,?_⟩
  have:=Int.natAbs_sub_le (fvW z*N) SV;rw [Nat.pow_succ];omega
 obtain ⟨bx1,bx2,bx3⟩:=bnd x hx fx;have up:∀ {z:Int},z.natAbs<2^m→z.natAbs<2^(m+1):=fun {z} h=>by rw [Nat.pow_succ];omega
 have FS:=qsd (fo_fm13 SV m (by omega) hS)
 have FI:=qsd (int_fm N (by omega))
 have FX0:=qsd (fo_fm13 _ m (by omega) bx1)
 have FX1:=qsd (fo_fm13 _ m (by omega) bx2)
 have FX2:=qsd (fo_fm13 _ (m+1) (by omega) bx3)
 obtain ⟨W,hW⟩:∃ W,W=w.alloc (Obj.cells #[.bool (dN (fo8 SV)),.slice p (ws (dX (fo8 SV))).length q,.int .i64 (dE (fo8 SV))] 43):=⟨_,rfl⟩;obtain ⟨gs,hgs⟩:∃ g,w.heap.size=g:=⟨_,rfl⟩
 have B0:Aside (Lo W gs (fo8 SV)∧Below w.heap.size w W∧Tab W∧gs<W.heap.size):=by
  rw [hW,←hgs];exact ⟨Lo.new hNt,below_alloc _ _,hT.belows (below_alloc _ _),by simp⟩
 have HO:=hid (fun (u:World) (hb:Below w.heap.size w u)=>of_any8 x ⟨hx,fx⟩ u (hT.belows hb))
 have HW:=(qsd (ai hW (ai hgs hT)))
 have HII:Hid (∀ u:World,Tab u→Calls Tryz.prog 51 #[.int .i64 (N:Nat)] u fun r w'=>(∃ v,r=.returned (.agg #[.bool (dN (mkS false N 0)),v,.int .i64 (dE (mkS false N 0))])∧Nt u.heap.size w' v (dX (mkS false N 0)))∧Below u.heap.size u w'):=fun u hT=>by
  have:=Int_any (N:Nat) u hT (by omega) (by omega)
  rw [decide_eq_false (by omega),Int.natAbs_natCast] at this
  exact this
 obtain ⟨oS,hoS⟩:∃ o,fo8 SV=o:=⟨_,rfl⟩;obtain ⟨oX0,hoX0⟩:∃ o,fo8 (fvW x)=o:=⟨_,rfl⟩;obtain ⟨oX1,hoX1⟩:∃ o,fo8 (fvW x*N)=o:=⟨_,rfl⟩;obtain ⟨oX2,hoX2⟩:∃ o,fo8 (fvW x*N-SV)=o:=⟨_,rfl⟩;obtain ⟨oI,hoI⟩:∃ o,mkS false N 0=o:=⟨_,rfl⟩
 have HMX:Hid (∀ (U:World) (a b:Option Addr) (c d:Nat),Nt 0 U (.slice a (ws (dX oX0)).length c) (dX oX0)→Nt 0 U (.slice b (ws (dX oI)).length d) (dX oI)→Tab U→Calls Tryz.prog 66 #[.agg #[.bool (dN oX0),.slice a (ws (dX oX0)).length c,.int .i64 (dE oX0)],.agg #[.bool (dN oI),.slice b (ws (dX oI)).length d,.int .i64 (dE oI)]] U fun r w'=>(∃ v,r=.returned (.tuple #[.agg #[.bool (dN oX1),v,.int .i64 (dE oX1)],.int .i64 0])∧Nt U.heap.size w' v (dX oX1))∧Below U.heap.size U w'):=fun U a b c d n1 n2 hT=>by
  subst hoX0 hoX1 hoI;exact mulI13 m (by omega) (by omega) bx1 bx2 hN n1 n2 hT
 have HSX:Hid (∀ (U:World) (a b:Option Addr) (c d:Nat),Nt 0 U (.slice a (ws (dX oX1)).length c) (dX oX1)→Nt 0 U (.slice b (ws (dX oS)).length d) (dX oS)→Tab U→Calls Tryz.prog 67 #[.agg #[.bool (dN oX1),.slice a (ws (dX oX1)).length c,.int .i64 (dE oX1)],.agg #[.bool (dN oS),.slice b (ws (dX oS)).length d,.int .i64 (dE oS)]] U fun r w'=>(∃ v,r=.returned (.tuple #[.agg #[.bool (dN oX2),v,.int .i64 (dE oX2)],.int .i64 0])∧Nt U.heap.size w' v (dX oX2))∧Below U.heap.size U w'):=fun U a b c d n1 n2 hT=>by
  subst hoX1 hoX2 hoS;exact subP13 (m+1) (by omega) (up bx2) (up hS) bx3 n1 n2 hT
 rw [hoS] at FS B0 HW ⊢;rw [hoX0] at FX0 HO;rw [hoX1] at FX1;rw [hoX2] at FX2;rw [hoI] at FI HII
 by_cases fy:finW y
 · obtain ⟨by1,by2,by3⟩:=bnd y hy fy
   have FY0:=qsd (fo_fm13 _ m (by omega) by1)
   have FY1:=qsd (fo_fm13 _ m (by omega) by2)
   have FY2:=qsd (fo_fm13 _ (m+1) (by omega) by3)
   have HOy:=hid (fun (u:World) (hb:Below w.heap.size w u)=>of_any8 y ⟨hy,fy⟩ u (hT.belows hb))
   obtain ⟨oY0,hoY0⟩:∃ o,fo8 (fvW y)=o:=⟨_,rfl⟩;obtain ⟨oY1,hoY1⟩:∃ o,fo8 (fvW y*N)=o:=⟨_,rfl⟩;obtain ⟨oY2,hoY2⟩:∃ o,fo8 (fvW y*N-SV)=o:=⟨_,rfl⟩
   have HMY:Hid (∀ (U:World) (a b:Option Addr) (c d:Nat),Nt 0 U (.slice a (ws (dX oY0)).length c) (dX oY0)→Nt 0 U (.slice b (ws (dX oI)).length d) (dX oI)→Tab U→Calls Tryz.prog 66 #[.agg #[.bool (dN oY0),.slice a (ws (dX oY0)).length c,.int .i64 (dE oY0)],.agg #[.bool (dN oI),.slice b (ws (dX oI)).length d,.int .i64 (dE oI)]] U fun r w'=>(∃ v,r=.returned (.tuple #[.agg #[.bool (dN oY1),v,.int .i64 (dE oY1)],.int .i64 0])∧Nt U.heap.size w' v (dX oY1))∧Below U.heap.size U w'):=fun U a b c d n1 n2 hT=>by
    subst hoY0 hoY1 hoI;exact mulI13 m (by omega) (by omega) by1 by2 hN n1 n2 hT
   have HSY:Hid (∀ (U:World) (a b:Option Addr) (c d:Nat),Nt 0 U (.slice a (ws (dX oY1)).length c) (dX oY1)→Nt 0 U (.slice b (ws (dX oS)).length d) (dX oS)→Tab U→Calls Tryz.prog 67 #[.agg #[.bool (dN oY1),.slice a (ws (dX oY1)).length c,.int .i64 (dE oY1)],.agg #[.bool (dN oS),.slice b (ws (dX oS)).length d,.int .i64 (dE oS)]] U fun r w'=>(∃ v,r=.returned (.tuple #[.agg #[.bool (dN oY2),v,.int .i64 (dE oY2)],.int .i64 0])∧Nt U.heap.size w' v (dX oY2))∧Below U.heap.size U w'):=fun U a b c d n1 n2 hT=>by
    subst hoY1 hoY2 hoS;exact subP13 (m+1) (by omega) (up by2) (up hS) by3 n1 n2 hT
   have hle':=hle fy;obtain ⟨A,hA⟩:∃ A,fvW x*N-SV=A:=⟨_,rfl⟩;obtain ⟨C,hC⟩:∃ C,fvW y*N-SV=C:=⟨_,rfl⟩;rw [hA] at hle' bx3 hoX2;rw [hC] at hle' by3 hoY2
   -- the sizes
   have FXa:=qsd (fo_fm13 (-A) (m+1) (by omega) (by rw [Int.natAbs_neg];exact bx3))
   have FYa:=qsd (fo_fm13 (-C) (m+1) (by omega) (by rw [Int.natAbs_neg];exact by3))
   have SgX:=hid (fun (U:World) (a:Option Addr) (c:Nat) (n1:Nt 0 U (.slice a (ws (dX (fo8 A))).length c) (dX (fo8 A)))=>signP13 (m+1) (by omega) bx3 n1)
   have SgY:=hid (fun (U:World) (a:Option Addr) (c:Nat) (n1:Nt 0 U (.slice a (ws (dX (fo8 C))).length c) (dX (fo8 C)))=>signP13 (m+1) (by omega) by3 n1)
   have NgX:=hid (fun (U:World) (a:Option Addr) (c:Nat) (n1:Nt 0 U (.slice a (ws (dX (fo8 A))).length c) (dX (fo8 A))) (hT:Tab U)=>negP13 (m+1) (by omega) bx3 n1 hT)
   have NgY:=hid (fun (U:World) (a:Option Addr) (c:Nat) (n1:Nt 0 U (.slice a (ws (dX (fo8 C))).length c) (dX (fo8 C))) (hT:Tab U)=>negP13 (m+1) (by omega) by3 n1 hT)
   have Cp:=hid (fun (U:World) (A' C':Int) (h1:A'.natAbs=A.natAbs) (h2:C'.natAbs=C.natAbs) (a b:Option Addr) (c d:Nat) (n1:Nt 0 U (.slice a (ws (dX (fo8 A'))).length c) (dX (fo8 A'))) (n2:Nt 0 U (.slice b (ws (dX (fo8 C'))).length d) (dX (fo8 C')))=>cmpP13 (A:=A') (C:=C') (m+1) (by omega) (by rw [h1];exact bx3) (by rw [h2];exact by3) n1 n2)
   rw [hoX2] at SgX NgX;rw [hoY2] at SgY NgY;rw [hoY0] at FY0 HOy;rw [hoY1] at FY1;have FY2':Aside (Fm oY2):=by rw [Aside,←hoY2,←hC];exact FY2.out
   have HQ:=(qsd (ai hle' (ai hoX2 hoY2)));clear FY2 hle hle' hoX0 hoX1 hoX2 hoS hoI hoY0 hoY1 hoY2 bnd up bx1 bx2 bx3 by1 by2 by3 hS hN hNt hx hy fx fy hA hC hm hW hgs;go_enter Tryz.func24,Tryz.ntmps24
   go_wp2_with fail
   rw [←HW.out.1,HW.out.2.1];refine (HO.out _ B0.out.2.1).mono ?_;rintro r u ⟨⟨v,rfl,hN⟩,hb⟩;obtain ⟨p1,q1,rfl,hN⟩:=Lo.shape FX0.out hN;obtain ⟨U,hU⟩:∃ U,U=u.alloc (Obj.cells #[.bool (dN oX0),.slice p1 (ws (dX oX0)).length q1,.int .i64 (dE oX0)] 43):=⟨_,rfl⟩;obtain ⟨ga,hga⟩:∃ g,u.heap.size=g:=⟨_,rfl⟩
   have B1:Aside (Lo U gs oS∧Lo U ga oX0∧Below w.heap.size w U∧Tab U∧gs<ga∧ga<U.heap.size):=by
    have b1:Below W.heap.size W U:=by rw [hU];exact hb.trans ((below_alloc _ _).mono hb.size)
    refine ⟨B0.out.1.below b1,by rw [hU,←hga];exact Lo.new hN,B0.out.2.1.trans (b1.mono B0.out.2.1.size),B0.out.2.2.1.belows b1,?_,?_⟩
    · have:=B0.out.2.2.2;have:=hb.size;omega
    · rw [hU,←hga];simp
   have HU:=(qsd (ai hU hga));clear hb hN HO B0 hU hga
   go_upto_region 2 with fail
   rw [←HU.out.1,HU.out.2];clear HU
   go_wp2_with fail
   refine (HOy.out _ B1.out.2.2.1).mono ?_;rintro r u2 ⟨⟨v,rfl,hN⟩,hb⟩;obtain ⟨p2,q2,rfl,hN⟩:=Lo.shape FY0.out hN;obtain ⟨V,hV⟩:∃ U,U=u2.alloc (Obj.cells #[.bool (dN oY0),.slice p2 (ws (dX oY0)).length q2,.int .i64 (dE oY0)] 43):=⟨_,rfl⟩;obtain ⟨gb,hgb⟩:∃ g,u2.heap.size=g:=⟨_,rfl⟩
   have HG:Aside (w.heap.size≤gs∧w.heap.size≤ga∧w.heap.size≤gb∧gs≠ga∧gs≠gb∧ga≠gb):=by
    have h1:=B1.out.2.2.2.2;have h2:=hb.size;have h3:=HW.out.2.1;refine ⟨by omega,by omega,by omega,by omega,by omega,by omega⟩
   have B2:Aside (St w V gs ga gb oS oX0 oY0):=by
    have b1:Below U.heap.size U V:=by rw [hV];exact hb.trans ((below_alloc _ _).mono hb.size)
    exact ⟨B1.out.1.below b1,B1.out.2.1.below b1,by rw [hV,←hgb];exact Lo.new hN,B1.out.2.2.1.trans (b1.mono B1.out.2.2.1.size),B1.out.2.2.2.1.belows b1⟩
   have HV:=(qsd (ai hV hgb));clear hb hN HOy B1 hV hgb
   go_upto_region 3 with fail
   rw [←HV.out.1,HV.out.2];clear HV
   go_upto_region 5 with fail
   go_cut [9] from 27 to 33 (fun v wx=>v=.pointer (some ⟨ga,0,none⟩)∧Aside (St w wx gs ga gb oS oX1 oY0))
   case first =>
    have hdr:=(Below.refl V.heap.size V).drew;have BD:=qsd (B2.out.below hdr);clear hdr B2;obtain ⟨p9,q9,D9,M9⟩:=BD.out.a;obtain ⟨x0,x1,x2,xf0,xf1,xf2⟩:=D9.facts;have MM9:=qsd M9;clear D9 M9
    go_region_with (first
     | (go_at_call 66
        with_reducible refine (HMX.out _ p9 a2 q9 c2 MM9.out Q2.out BD.out.tab).mono ?_
        rintro r v ⟨⟨z,rfl,hN⟩,hb⟩;obtain ⟨p8,q8,rfl,hN0⟩:=Lo.shape FX1.out hN;have BD:=qsd (BD.out.below hb);have N8:=qsd hN0;obtain ⟨p7,q7,D7,_⟩:=BD.out.a;obtain ⟨x0,x1,x2,xf0,xf1,xf2⟩:=D7.facts;clear hb hN hN0 D7)
     | (go_at_call 51
        with_reducible refine (HII.out _ BD.out.tab).mono ?_
        rintro r v ⟨⟨z,rfl,hN⟩,hb⟩;obtain ⟨a2,c2,rfl,hN0⟩:=Lo.shape FI.out hN;have BD:=qsd (BD.out.below hb);have MM9:=qsd (MM9.out.below hb);have Q2:=qsd hN0;have x0:=(World.cell?_of_block (a:=⟨ga,0,none⟩) (hb.block ga (lt_of_cell13 x0))).trans x0;have x1:=(World.cell?_of_block (a:=⟨ga,1,none⟩) (hb.block ga (lt_of_cell13 x1))).trans x1;have x2:=(World.cell?_of_block (a:=⟨ga,2,none⟩) (hb.block ga (lt_of_cell13 x2))).trans x2;clear hb hN hN0))
    all_goals
     go_wp2_with fail
     go_meet
     case rel=>exact ⟨rfl,BD.out.seta HG.out.2.1 HG.out.2.2.2.1 (fun h=>HG.out.2.2.2.2.2 h.symm) N8.out HW.out.2.2⟩
   clear B2;obtain ⟨rfl,B3⟩:=hcut
   go_upto_region 6 with fail
   go_cut [11] from 34 to 40 (fun v wx=>v=.pointer (some ⟨gb,0,none⟩)∧Aside (St w wx gs ga gb oS oX1 oY1))
   case first =>
    have hdr:=(Below.refl wc.heap.size wc).drew;have BD:=qsd (B3.out.below hdr);clear hdr B3;obtain ⟨p9,q9,D9,M9⟩:=BD.out.b;obtain ⟨x0,x1,x2,xf0,xf1,xf2⟩:=D9.facts;have MM9:=qsd M9;clear D9 M9
    go_region_with (first
     | (go_at_call 66
        with_reducible refine (HMY.out _ p9 a2 q9 c2 MM9.out Q2.out BD.out.tab).mono ?_
        rintro r v ⟨⟨z,rfl,hN⟩,hb⟩;obtain ⟨p8,q8,rfl,hN0⟩:=Lo.shape FY1.out hN;have BD:=qsd (BD.out.below hb);have N8:=qsd hN0;obtain ⟨p7,q7,D7,_⟩:=BD.out.b;obtain ⟨x0,x1,x2,xf0,xf1,xf2⟩:=D7.facts;clear hb hN hN0 D7)
     | (go_at_call 51
        with_reducible refine (HII.out _ BD.out.tab).mono ?_
        rintro r v ⟨⟨z,rfl,hN⟩,hb⟩;obtain ⟨a2,c2,rfl,hN0⟩:=Lo.shape FI.out hN;have BD:=qsd (BD.out.below hb);have MM9:=qsd (MM9.out.below hb);have Q2:=qsd hN0;have x0:=(World.cell?_of_block (a:=⟨gb,0,none⟩) (hb.block gb (lt_of_cell13 x0))).trans x0;have x1:=(World.cell?_of_block (a:=⟨gb,1,none⟩) (hb.block gb (lt_of_cell13 x1))).trans x1;have x2:=(World.cell?_of_block (a:=⟨gb,2,none⟩) (hb.block gb (lt_of_cell13 x2))).trans x2;clear hb hN hN0))
    all_goals
     go_wp2_with fail
     go_meet
     case rel=>exact ⟨rfl,BD.out.setb HG.out.2.2.1 HG.out.2.2.2.2.1 HG.out.2.2.2.2.2 N8.out HW.out.2.2⟩
   clear B3;obtain ⟨rfl,B4⟩:=hcut;obtain ⟨pa,qa,Da,Ma⟩:=B4.out.a;obtain ⟨ps,qs,Ds,Ms⟩:=B4.out.s;obtain ⟨x0,x1,x2,xf0,xf1,xf2⟩:=Da.facts;obtain ⟨y0,y1,y2,yf0,yf1,yf2⟩:=Ds.facts;have C9:=hid (HSX.out _ pa ps qa qs Ma Ms B4.out.tab);clear Da Ds Ma Ms
   go_wp2_with fail
   refine C9.out.mono ?_;rintro r v ⟨⟨z,rfl,hN⟩,hb⟩;obtain ⟨p8,q8,rfl,hN⟩:=Lo.shape FX2.out hN;have BD:=qsd (B4.out.below hb);obtain ⟨p7,q7,D7,_⟩:=BD.out.a;obtain ⟨x0,x1,x2,xf0,xf1,xf2⟩:=D7.facts;obtain ⟨Z5,hZ⟩:∃ Z,Z=st3 v ga (.bool (dN oX2)) (.slice p8 (ws (dX oX2)).length q8) (.int .i64 (dE oX2)):=⟨_,rfl⟩;have B5:=qsd (BD.out.seta HG.out.2.1 HG.out.2.2.2.1 (fun h=>HG.out.2.2.2.2.2 h.symm) hN HW.out.2.2)
   rw [←hZ] at B5;have HZ:Aside (Z5=((v.setCell ⟨ga,0,none⟩ (.bool (dN oX2))).setCell ⟨ga,1,none⟩ (.slice p8 (ws (dX oX2)).length q8)).setCell ⟨ga,2,none⟩ (.int .i64 (dE oX2))):=hZ;clear hb hN D7 hZ C9 B4 BD y0 y1 y2 yf0 yf1 yf2
   go_upto_region 8 with fail
   rw [←HZ.out];clear HZ x0 x1 x2 xf0 xf1 xf2;obtain ⟨pa,qa,Da,Ma⟩:=B5.out.b;obtain ⟨ps,qs,Ds,Ms⟩:=B5.out.s;obtain ⟨x0,x1,x2,xf0,xf1,xf2⟩:=Da.facts;obtain ⟨y0,y1,y2,yf0,yf1,yf2⟩:=Ds.facts;have C9:=hid (HSY.out _ pa ps qa qs Ma Ms B5.out.tab);clear Da Ds Ma Ms
   go_wp2_with fail
   refine C9.out.mono ?_;rintro r v ⟨⟨z,rfl,hN⟩,hb⟩;obtain ⟨p8,q8,rfl,hN⟩:=Lo.shape FY2'.out hN;have BD:=qsd (B5.out.below hb);obtain ⟨p7,q7,D7,_⟩:=BD.out.b;obtain ⟨x0,x1,x2,xf0,xf1,xf2⟩:=D7.facts;obtain ⟨Z6,hZ⟩:∃ Z,Z=st3 v gb (.bool (dN oY2)) (.slice p8 (ws (dX oY2)).length q8) (.int .i64 (dE oY2)):=⟨_,rfl⟩;have B6:=qsd (BD.out.setb HG.out.2.2.1 HG.out.2.2.2.2.1 HG.out.2.2.2.2.2 hN HW.out.2.2);rw [←hZ] at B6;have HZ:Aside (Z6=((v.setCell ⟨gb,0,none⟩ (.bool (dN oY2))).setCell ⟨gb,1,none⟩ (.slice p8 (ws (dX oY2)).length q8)).setCell ⟨gb,2,none⟩ (.int .i64 (dE oY2))):=hZ;clear hb hN D7 hZ C9 B5 BD y0 y1 y2 yf0 yf1 yf2
   go_upto_region 9 with fail
   rw [←HZ.out];clear HZ x0 x1 x2 xf0 xf1 xf2
   by_cases hA:A<0
   · by_cases hC:C<0
     · skip
       obtain ⟨pa,qa,Da,Ma⟩:=B6.out.a;obtain ⟨x0,x1,x2,xf0,xf1,xf2⟩:=Da.facts;have C9:=hid (SgX.out _ pa qa Ma);clear Da Ma
       go_wp2_with fail
       refine C9.out.mono ?_;rintro r v ⟨⟨s9,rfl,hs9⟩,hb⟩;have BD:=qsd (B6.out.below hb);clear hb C9 B6 x0 x1 x2 xf0 xf1 xf2;have ds:decide (s9<0)=true:=decide_eq_true (hs9.2 hA);clear hs9;obtain ⟨pa,qa,Da,Ma⟩:=BD.out.a;obtain ⟨x0,x1,x2,xf0,xf1,xf2⟩:=Da.facts;have C9:=hid (NgX.out _ pa qa Ma BD.out.tab);clear Da Ma
       go_wp2_with fail
       refine C9.out.mono ?_;rintro r v2 ⟨⟨z,rfl,hN⟩,hb⟩;obtain ⟨p8,q8,rfl,hN⟩:=Lo.shape FXa.out hN;have BE:=qsd (BD.out.below hb);obtain ⟨p7,q7,D7,_⟩:=BE.out.a;obtain ⟨x0,x1,x2,xf0,xf1,xf2⟩:=D7.facts;obtain ⟨Z7,hZ⟩:∃ Z,Z=st3 v2 ga (.bool (dN (fo8 (-A)))) (.slice p8 (ws (dX (fo8 (-A)))).length q8) (.int .i64 (dE (fo8 (-A)))):=⟨_,rfl⟩;have B7:=qsd (BE.out.seta HG.out.2.1 HG.out.2.2.2.1 (fun h=>HG.out.2.2.2.2.2 h.symm) hN HW.out.2.2)
       rw [←hZ] at B7;have HZ:Aside (Z7=((v2.setCell ⟨ga,0,none⟩ (.bool (dN (fo8 (-A))))).setCell ⟨ga,1,none⟩ (.slice p8 (ws (dX (fo8 (-A)))).length q8)).setCell ⟨ga,2,none⟩ (.int .i64 (dE (fo8 (-A))))):=hZ;clear hb hN D7 hZ C9 BD BE
       go_upto_region 11 with fail
       rw [←HZ.out];clear HZ x0 x1 x2 xf0 xf1 xf2;obtain ⟨pa,qa,Da,Ma⟩:=B7.out.b;obtain ⟨x0,x1,x2,xf0,xf1,xf2⟩:=Da.facts;have C9:=hid (SgY.out _ pa qa Ma);clear Da Ma
       go_wp2_with fail
       refine C9.out.mono ?_;rintro r v ⟨⟨s9,rfl,hs9⟩,hb⟩;have BD:=qsd (B7.out.below hb);clear hb C9 B7 x0 x1 x2 xf0 xf1 xf2;have ds:decide (s9<0)=true:=decide_eq_true (hs9.2 hC);clear hs9;obtain ⟨pa,qa,Da,Ma⟩:=BD.out.b;obtain ⟨x0,x1,x2,xf0,xf1,xf2⟩:=Da.facts;have C9:=hid (NgY.out _ pa qa Ma BD.out.tab);clear Da Ma
       go_wp2_with fail
       refine C9.out.mono ?_;rintro r v2 ⟨⟨z,rfl,hN⟩,hb⟩;obtain ⟨p8,q8,rfl,hN⟩:=Lo.shape FYa.out hN;have BE:=qsd (BD.out.below hb);obtain ⟨p7,q7,D7,_⟩:=BE.out.b;obtain ⟨x0,x1,x2,xf0,xf1,xf2⟩:=D7.facts;obtain ⟨Z8,hZ⟩:∃ Z,Z=st3 v2 gb (.bool (dN (fo8 (-C)))) (.slice p8 (ws (dX (fo8 (-C)))).length q8) (.int .i64 (dE (fo8 (-C)))):=⟨_,rfl⟩;have B8:=qsd (BE.out.setb HG.out.2.2.1 HG.out.2.2.2.2.1 HG.out.2.2.2.2.2 hN HW.out.2.2);rw [←hZ] at B8;have HZ:Aside (Z8=((v2.setCell ⟨gb,0,none⟩ (.bool (dN (fo8 (-C))))).setCell ⟨gb,1,none⟩ (.slice p8 (ws (dX (fo8 (-C)))).length q8)).setCell ⟨gb,2,none⟩ (.int .i64 (dE (fo8 (-C))))):=hZ;clear hb hN D7 hZ C9 BD BE
       go_upto_region 13 with fail
       rw [←HZ.out];clear HZ x0 x1 x2 xf0 xf1 xf2;obtain ⟨pa,qa,Da,Ma⟩:=B8.out.a;obtain ⟨pb,qb,Db,Mb⟩:=B8.out.b;obtain ⟨x0,x1,x2,xf0,xf1,xf2⟩:=Da.facts;obtain ⟨y0,y1,y2,yf0,yf1,yf2⟩:=Db.facts;have C9:=hid (Cp.out _ (-A) (-C) (by simp) (by simp) pa pb qa qb Ma Mb)
       have hAC:(-A)≤(-C):=by have:=HQ.out.1;omega
       clear Da Db Ma Mb
       go_wp2_with fail
       refine C9.out.mono ?_;rintro r v ⟨⟨s9,rfl,hs9⟩,hb⟩;have BE:=qsd (B8.out.bel.trans (hb.mono B8.out.bel.size));have ds:decide (s9≤0)=true:=decide_eq_true (hs9.2 hAC);clear hb C9 hs9 hAC;go_wp2;go_ret;exact ⟨rfl,BE.out⟩
     · skip
       obtain ⟨pa,qa,Da,Ma⟩:=B6.out.a;obtain ⟨x0,x1,x2,xf0,xf1,xf2⟩:=Da.facts;have C9:=hid (SgX.out _ pa qa Ma);clear Da Ma
       go_wp2_with fail
       refine C9.out.mono ?_;rintro r v ⟨⟨s9,rfl,hs9⟩,hb⟩;have BD:=qsd (B6.out.below hb);clear hb C9 B6 x0 x1 x2 xf0 xf1 xf2;have ds:decide (s9<0)=true:=decide_eq_true (hs9.2 hA);clear hs9;obtain ⟨pa,qa,Da,Ma⟩:=BD.out.a;obtain ⟨x0,x1,x2,xf0,xf1,xf2⟩:=Da.facts;have C9:=hid (NgX.out _ pa qa Ma BD.out.tab);clear Da Ma
       go_wp2_with fail
       refine C9.out.mono ?_;rintro r v2 ⟨⟨z,rfl,hN⟩,hb⟩;obtain ⟨p8,q8,rfl,hN⟩:=Lo.shape FXa.out hN;have BE:=qsd (BD.out.below hb);obtain ⟨p7,q7,D7,_⟩:=BE.out.a;obtain ⟨x0,x1,x2,xf0,xf1,xf2⟩:=D7.facts;obtain ⟨Z7,hZ⟩:∃ Z,Z=st3 v2 ga (.bool (dN (fo8 (-A)))) (.slice p8 (ws (dX (fo8 (-A)))).length q8) (.int .i64 (dE (fo8 (-A)))):=⟨_,rfl⟩;have B7:=qsd (BE.out.seta HG.out.2.1 HG.out.2.2.2.1 (fun h=>HG.out.2.2.2.2.2 h.symm) hN HW.out.2.2)
       rw [←hZ] at B7;have HZ:Aside (Z7=((v2.setCell ⟨ga,0,none⟩ (.bool (dN (fo8 (-A))))).setCell ⟨ga,1,none⟩ (.slice p8 (ws (dX (fo8 (-A)))).length q8)).setCell ⟨ga,2,none⟩ (.int .i64 (dE (fo8 (-A))))):=hZ;clear hb hN D7 hZ C9 BD BE
       go_upto_region 11 with fail
       rw [←HZ.out];clear HZ x0 x1 x2 xf0 xf1 xf2;obtain ⟨pa,qa,Da,Ma⟩:=B7.out.b;obtain ⟨x0,x1,x2,xf0,xf1,xf2⟩:=Da.facts;have C9:=hid (SgY.out _ pa qa Ma);clear Da Ma
       go_wp2_with fail
       refine C9.out.mono ?_;rintro r v ⟨⟨s9,rfl,hs9⟩,hb⟩;have BD:=qsd (B7.out.below hb);clear hb C9 B7 x0 x1 x2 xf0 xf1 xf2;have ds:decide (s9<0)=false:=decide_eq_false (fun q=>by have:=hs9.1 q;omega)
       clear hs9;have B8:=BD;clear BD
       go_upto_region 13 with fail
       obtain ⟨pa,qa,Da,Ma⟩:=B8.out.a;obtain ⟨pb,qb,Db,Mb⟩:=(show Lo _ gb (fo8 C) by rw [HQ.out.2.2];exact B8.out.b)
       obtain ⟨x0,x1,x2,xf0,xf1,xf2⟩:=Da.facts;obtain ⟨y0,y1,y2,yf0,yf1,yf2⟩:=Db.facts;have C9:=hid (Cp.out _ (-A) C (by simp) (by simp) pa pb qa qb Ma Mb)
       have hAC:(-A)≤C:=by have:=HQ.out.1;omega
       clear Da Db Ma Mb
       go_wp2_with fail
       refine C9.out.mono ?_;rintro r v ⟨⟨s9,rfl,hs9⟩,hb⟩;have BE:=qsd (B8.out.bel.trans (hb.mono B8.out.bel.size));have ds:decide (s9≤0)=true:=decide_eq_true (hs9.2 hAC);clear hb C9 hs9 hAC;go_wp2;go_ret;exact ⟨rfl,BE.out⟩
   · by_cases hC:C<0
     · skip
       obtain ⟨pa,qa,Da,Ma⟩:=B6.out.a;obtain ⟨x0,x1,x2,xf0,xf1,xf2⟩:=Da.facts;have C9:=hid (SgX.out _ pa qa Ma);clear Da Ma
       go_wp2_with fail
       refine C9.out.mono ?_;rintro r v ⟨⟨s9,rfl,hs9⟩,hb⟩;have BD:=qsd (B6.out.below hb);clear hb C9 B6 x0 x1 x2 xf0 xf1 xf2;have ds:decide (s9<0)=false:=decide_eq_false (fun q=>by have:=hs9.1 q;omega)
       clear hs9;have B7:=BD;clear BD
       go_upto_region 11 with fail
       obtain ⟨pa,qa,Da,Ma⟩:=B7.out.b;obtain ⟨x0,x1,x2,xf0,xf1,xf2⟩:=Da.facts;have C9:=hid (SgY.out _ pa qa Ma);clear Da Ma
       go_wp2_with fail
       refine C9.out.mono ?_;rintro r v ⟨⟨s9,rfl,hs9⟩,hb⟩;have BD:=qsd (B7.out.below hb);clear hb C9 B7 x0 x1 x2 xf0 xf1 xf2;have ds:decide (s9<0)=true:=decide_eq_true (hs9.2 hC);clear hs9;obtain ⟨pa,qa,Da,Ma⟩:=BD.out.b;obtain ⟨x0,x1,x2,xf0,xf1,xf2⟩:=Da.facts;have C9:=hid (NgY.out _ pa qa Ma BD.out.tab);clear Da Ma
       go_wp2_with fail
       refine C9.out.mono ?_;rintro r v2 ⟨⟨z,rfl,hN⟩,hb⟩;obtain ⟨p8,q8,rfl,hN⟩:=Lo.shape FYa.out hN;have BE:=qsd (BD.out.below hb);obtain ⟨p7,q7,D7,_⟩:=BE.out.b;obtain ⟨x0,x1,x2,xf0,xf1,xf2⟩:=D7.facts;obtain ⟨Z8,hZ⟩:∃ Z,Z=st3 v2 gb (.bool (dN (fo8 (-C)))) (.slice p8 (ws (dX (fo8 (-C)))).length q8) (.int .i64 (dE (fo8 (-C)))):=⟨_,rfl⟩;have B8:=qsd (BE.out.setb HG.out.2.2.1 HG.out.2.2.2.2.1 HG.out.2.2.2.2.2 hN HW.out.2.2);rw [←hZ] at B8;have HZ:Aside (Z8=((v2.setCell ⟨gb,0,none⟩ (.bool (dN (fo8 (-C))))).setCell ⟨gb,1,none⟩ (.slice p8 (ws (dX (fo8 (-C)))).length q8)).setCell ⟨gb,2,none⟩ (.int .i64 (dE (fo8 (-C))))):=hZ;clear hb hN D7 hZ C9 BD BE
       go_upto_region 13 with fail
       rw [←HZ.out];clear HZ x0 x1 x2 xf0 xf1 xf2;obtain ⟨pa,qa,Da,Ma⟩:=(show Lo _ ga (fo8 A) by rw [HQ.out.2.1];exact B8.out.a)
       obtain ⟨pb,qb,Db,Mb⟩:=B8.out.b;obtain ⟨x0,x1,x2,xf0,xf1,xf2⟩:=Da.facts;obtain ⟨y0,y1,y2,yf0,yf1,yf2⟩:=Db.facts;have C9:=hid (Cp.out _ A (-C) (by simp) (by simp) pa pb qa qb Ma Mb)
       have hAC:A≤(-C):=by have:=HQ.out.1;omega
       clear Da Db Ma Mb
       go_wp2_with fail
       refine C9.out.mono ?_;rintro r v ⟨⟨s9,rfl,hs9⟩,hb⟩;have BE:=qsd (B8.out.bel.trans (hb.mono B8.out.bel.size));have ds:decide (s9≤0)=true:=decide_eq_true (hs9.2 hAC);clear hb C9 hs9 hAC;go_wp2;go_ret;exact ⟨rfl,BE.out⟩
     · skip
       obtain ⟨pa,qa,Da,Ma⟩:=B6.out.a;obtain ⟨x0,x1,x2,xf0,xf1,xf2⟩:=Da.facts;have C9:=hid (SgX.out _ pa qa Ma);clear Da Ma
       go_wp2_with fail
       refine C9.out.mono ?_;rintro r v ⟨⟨s9,rfl,hs9⟩,hb⟩;have BD:=qsd (B6.out.below hb);clear hb C9 B6 x0 x1 x2 xf0 xf1 xf2;have ds:decide (s9<0)=false:=decide_eq_false (fun q=>by have:=hs9.1 q;omega)
       clear hs9;have B7:=BD;clear BD
       go_upto_region 11 with fail
       obtain ⟨pa,qa,Da,Ma⟩:=B7.out.b;obtain ⟨x0,x1,x2,xf0,xf1,xf2⟩:=Da.facts;have C9:=hid (SgY.out _ pa qa Ma);clear Da Ma
       go_wp2_with fail
       refine C9.out.mono ?_;rintro r v ⟨⟨s9,rfl,hs9⟩,hb⟩;have BD:=qsd (B7.out.below hb);clear hb C9 B7 x0 x1 x2 xf0 xf1 xf2;have ds:decide (s9<0)=false:=decide_eq_false (fun q=>by have:=hs9.1 q;omega)
       clear hs9;have B8:=BD;clear BD
       go_upto_region 13 with fail
       obtain ⟨pa,qa,Da,Ma⟩:=(show Lo _ ga (fo8 A) by rw [HQ.out.2.1];exact B8.out.a)
       obtain ⟨pb,qb,Db,Mb⟩:=(show Lo _ gb (fo8 C) by rw [HQ.out.2.2];exact B8.out.b)
       obtain ⟨x0,x1,x2,xf0,xf1,xf2⟩:=Da.facts;obtain ⟨y0,y1,y2,yf0,yf1,yf2⟩:=Db.facts;have C9:=hid (Cp.out _ A C (by simp) (by simp) pa pb qa qb Ma Mb)
       have hAC:A≤C:=by have:=HQ.out.1;omega
       clear Da Db Ma Mb
       go_wp2_with fail
       refine C9.out.mono ?_;rintro r v ⟨⟨s9,rfl,hs9⟩,hb⟩;have BE:=qsd (B8.out.bel.trans (hb.mono B8.out.bel.size));have ds:decide (s9≤0)=true:=decide_eq_true (hs9.2 hAC);clear hb C9 hs9 hAC;go_wp2;go_ret;exact ⟨rfl,BE.out⟩
 · have HOy:=hid (fun (u:World) (hb:Below w.heap.size w u)=>of_odd13 hy fy u (hT.belows hb))
   clear hle hoX0 hoX1 hoX2 hoS hoI bnd up bx1 bx2 bx3 hS hN hNt hx hy fx fy hm hW hgs HMX HSX HII;go_enter Tryz.func24,Tryz.ntmps24
   go_wp2_with fail
   rw [←HW.out.1,HW.out.2.1];refine (HO.out _ B0.out.2.1).mono ?_;rintro r u ⟨⟨v,rfl,hN⟩,hb⟩;obtain ⟨p1,q1,rfl,hN⟩:=Lo.shape FX0.out hN;obtain ⟨U,hU⟩:∃ U,U=u.alloc (Obj.cells #[.bool (dN oX0),.slice p1 (ws (dX oX0)).length q1,.int .i64 (dE oX0)] 43):=⟨_,rfl⟩
   have B1:Aside (Below w.heap.size w U):=by
    have b1:Below W.heap.size W U:=by rw [hU];exact hb.trans ((below_alloc _ _).mono hb.size)
    exact B0.out.2.1.trans (b1.mono B0.out.2.1.size)
   have HU:=qsd hU;clear hb hN HO B0 hU
   go_upto_region 2 with fail
   rw [←HU.out];clear HU
   go_wp2_with fail
   refine (HOy.out _ B1.out).mono ?_;rintro r u2 ⟨⟨v,rfl,hN⟩,hb⟩;obtain ⟨p2,q2,rfl,_⟩:=hN.arg (by rw [ws_zero];decide)
   have B2:=qsd (B1.out.trans (hb.mono B1.out.size));clear hb hN HOy B1;go_wp2;go_ret;exact ⟨rfl,B2.out.trans ((below_alloc _ _).mono B2.out.size)⟩
end
section
open Go.RowKit J
attribute [local go_sem] st_float
theorem sub_odd_self {x:Nat}(hx:x<18446744073709551616) (h:¬ finW x):floatBits .sub .f64 x x=none:=by
 rcases Nat.lt_trichotomy 9218868437227405312 (magW x) with q|q|q
 · obtain ⟨s,t,hr⟩:=read_nanW x q
   show ((Ieee.double.read x).sum (Ieee.double.read x).opposite).map Ieee.double.write=none
   rw [hr];rfl
 · have hr:=read_infW x hx q.symm
   show ((Ieee.double.read x).sum (Ieee.double.read x).opposite).map Ieee.double.write=none
   rw [hr]
   cases negW x <;> rfl
 · exact absurd q h
theorem order_nan13 (z:Nat) (h:9218868437227405312<z%9223372036854775808):(FloatKind.f64.format.order z 0==some .eq)=false:=order_nanL z 0 h _
theorem finite13 (xs:List Nat) (a:Option Addr) (n c:Nat) (w:World) (hn:n=xs.length) (hF:Fs w.heap.size w a xs) (hW:W64 xs) (hl:n≤35184372088832) (t:Bool) (ht:t=true↔∀ x ∈ xs,finW x) :
 Calls Tryz.prog 14 #[.slice a n c] w fun r w'=>r=.returned (.bool t)∧Below w.heap.size w w':=by
 have HX:=(qsd (ai hn (ai hF (ai hW ht))));clear hn hF hW ht;go_enter Tryz.func14,Tryz.ntmps14;go_wp2
 go_loopg [3] n (fun gk i wr=>∃ k:Nat,gk+k=n∧i=.int .i64 (k:Nat)∧Aside (Below w.heap.size w wr∧∀ j,j<k→finW (xs.getD j 0)))
 case atStart=>exact ⟨0,by omega,by simp,Below.refl _ _,fun j hj=>absurd hj (by omega)⟩
 case round =>
  obtain ⟨k,hgk,rfl,HA⟩:=hrel
  by_cases hk:k<n
  · obtain ⟨b,off,rfl,hc⟩:=HX.out.2.1.at HA.out.1 k (by rw [←HX.out.1];exact hk)
    obtain ⟨x,hx⟩:∃ x,x=xs.getD k 0:=⟨_,rfl⟩;rw [←hx] at hc;have hx64:x<18446744073709551616:=by rw [hx];exact HX.out.2.2.1.get k
    have HXX:=qsd hx;clear hx;have hkb:k<4611686018427387904:=by omega
    have hd:decide ((k:Int)<n)=true:=by simp;omega
    have HB:=qsd (HA.out.1.trans ((Below.refl wr.heap.size wr).drew.mono HA.out.1.size))
    by_cases fx:finW x
    · have d:=fun W:World=>run_float_arith (P:=Tryz.prog) W .sub 22 .f64 x x 0 (sub_self_fin x hx64 fx)
      have h0:(FloatKind.f64.format.order 0 0==some .eq)=true:=by decide +kernel
      have h0':FloatKind.f64.format.order 0 0=some .eq:=by decide +kernel
      have Hf:=qsd fx;clear fx hx64
      go_upto_region 4 with fail
      go_region
      all_goals
       go_wp2
       go_roundg (gk-1)
       case measure=>omega
       case rel =>
        refine ⟨k+1,by omega,by first | rfl | simp,HB.out,fun j hj=>?_⟩
        by_cases e:j=k
        · subst e;rw [←HXX.out];exact Hf.out
        · exact HA.out.2 j (by omega)
    · obtain ⟨z,hz,d⟩:=run_float_none (P:=Tryz.prog) wr.drew .sub 22 x x (.inr (.inl rfl)) (sub_odd_self hx64 fx)
      have ho:=order_nan13 z hz.1;have ho2:(FloatKind.f64.format.order z 0 != some .eq)=true:=by simp only [bne,ho];rfl
      have ho':¬ FloatKind.f64.format.order z 0=some .eq:=by simpa using ho
      have HT:Aside (t=false):=by
       cases ht:t with
       | false=>rfl
       | true =>
         exfalso
         have:=HX.out.2.2.2.1 ht (xs.getD k 0) (by rw [List.getD_eq_getElem?_getD,List.getElem?_eq_getElem (show k<xs.length by rw [←HX.out.1];exact hk)];exact List.getElem_mem _)
         rw [←HXX.out] at this;exact fx this
      have HB2:=qsd (HB.out.trans ((Below.refl wr.drew.heap.size wr.drew).drew.mono HB.out.size));clear fx hx64 hz
      go_upto_region 4 with fail
      go_region
      all_goals
       go_wp2;go_ret;exact ⟨by rw [HT.out];rfl,HB2.out⟩
  · obtain rfl:n=k:=by omega
    have hd:decide ((n:Int)<n)=false:=by simp
    have HT:Aside (t=true):=by
     refine HX.out.2.2.2.2 fun x hx=>?_
     obtain ⟨j,hj,rfl⟩:=List.mem_iff_getElem.1 hx;have:=HA.out.2 j (by rw [HX.out.1];exact hj)
     rw [List.getD_eq_getElem?_getD,List.getElem?_eq_getElem hj] at this
     exact this
    go_wp2;go_ret;exact ⟨by rw [HT.out];rfl,HA.out.1⟩
end
section
open Go.RowKit J
theorem ask_ok {mode:Int}(h:askE mode=0):0≤mode∧mode≤4:=by
 unfold askE at h
 by_cases h1:mode<0∨4<mode
 · rw [if_pos h1] at h;exact absurd h (by decide)
 · omega
theorem qn_ok {V:Int}{N:Nat}{mode:Int}(hm:askE mode=0) (hV:V≠0) (k:Nat) (hk:k=4238) (hb:V.natAbs<2^k) (hN:0<N) (hN2:N≤65536):(qnR V N mode).2=0:=by
 obtain ⟨j,hj⟩:∃ k:Nat,k=2148:=⟨_,rfl⟩;obtain ⟨j2,hj2,hb2⟩:=lenW_bd N hN2 j hj;obtain ⟨m0,m4⟩:=ask_ok hm;rw [qn_qv _ _ _ j hj];obtain ⟨K,t,m,_,hR⟩:=quot_lies (V:=V) (W:=(N:Int)*((2^j:Nat):Int)) hV (by rw [←Int.natCast_mul];have:=Nat.mul_pos hN (Nat.two_pow_pos j);omega) k (by omega) hb (by rw [hk,←hj2];exact hb2)
 rw [hR mode m0 m4]
theorem lev_ok {xs:List Nat}{s:Sp}{mode:Int}(hm:askE mode=0) (hW:W64 xs) (hl:xs.length≤65536) (hne:xs≠[]):(levR xs s mode).2=0:=by
 by_cases hV:vS xs=0
 · unfold levR;rw [if_neg hne,if_pos hV]
 · obtain ⟨k,hk,hb⟩:=vS_bd hW hl
   unfold levR;rw [if_neg hne,if_neg hV];exact qn_ok hm hV k hk hb (List.length_pos_iff.2 hne) hl
theorem lev_bsd {xs:List Nat}{s:Sp}{mode:Int}(hm:askE mode=0) (hW:W64 xs) (hl:xs.length≤65536):bsd (levR xs s mode).2 (levR xs s mode).1=(levR xs s mode).1:=by
 by_cases h0:xs=[]
 · subst h0;unfold levR;rw [if_pos rfl];rfl
 · rw [lev_ok hm hW hl h0];rfl
theorem sS_small {xs:List Nat}(hW:W64 xs) (hl:xs.length≤65536):(0≤(sS xs).n∧(sS xs).n≤65536)∧(0≤(sS xs).u∧(sS xs).u≤65536)∧(0≤(sS xs).d∧(sS xs).d≤65536)∧(sS xs).a=xs.length∧(sS xs).a-(sS xs).n-(sS xs).u-(sS xs).d=(Ps.fin xs).length:=by
 rw [sS_cn hW];have h:=fun k=>List.countP_le_length (p:=fun x=>kd x==k) (l:=xs)
 have h5:=h 5;have h3:=h 3;have h4:=h 4;have hf:=fin_count (xs:=xs);unfold Ps.cn at *;refine ⟨⟨?_,?_⟩,⟨?_,?_⟩,⟨?_,?_⟩,rfl,?_⟩ <;> (simp only;omega)
theorem sS_fin {xs:List Nat}(hW:W64 xs) (hf:∀ x ∈ xs,finW x) (hl:xs.length≤65536):(sS xs).n=0∧(sS xs).u=0∧(sS xs).d=0:=by
 obtain ⟨b1,b2,b3,b4,b5⟩:=sS_small hW hl;rw [fin_id hW hf] at b5;omega
theorem sfE_of_fin {xs:List Nat}{pa pb:Int}(hW:W64 xs) (hf:∀ x ∈ xs,finW x) (hl:xs.length≤65536) (hab:may pa pb=true):sfE pa pb xs=0:=by
 obtain ⟨h1,h2,h3⟩:=sS_fin hW hf hl;unfold sfE Ps.rf;rw [hab,if_neg (by decide),if_neg (by omega),h1,h2,h3,if_neg (by omega),if_neg (by omega)]
theorem mean_fin {xs:List Nat}{mode pa pb:Int}(hW:W64 xs) (hf:∀ x ∈ xs,finW x) (hl:xs.length≤65536) (hm:askE mode=0) (hab:may pa pb=true):meanR xs mode pa pb=levR xs (sS xs) mode:=by
 obtain ⟨h1,h2,h3⟩:=sS_fin hW hf hl
 have hv:(vd (snd (sS xs).n (sS xs).u (sS xs).d (sS xs).m (sS xs).p (sS xs).a&&may pa pb) (sS xs).n (sS xs).u (sS xs).d pa pb).2=false:=by
  unfold vd;rw [h1,h2,h3]
  split
  · rfl
  · rw [if_neg (by omega)]
    split
    · rfl
    · rw [if_neg (by omega),if_neg (by omega),if_neg (by omega)]
 unfold meanR;rw [if_pos hm,if_pos (sfE_of_fin hW hf hl hab),hv,if_neg (by decide),fin_id hW hf,lev_bsd hm hW hl]
end
end Go.Proofs.YtjldfhecnaiinabGreatDoor
