import Derived.Test.YteginbngplldaaaGreatDoorMD8x
import Derived.Deep.LoopGhost
import Derived.Deep.RegionHeld3
import Derived.Test.YteginbngplldaaaGreatDoorMA2x
set_option linter.unusedVariables false
set_option linter.unusedSimpArgs false
set_option maxHeartbeats 16000000
set_option maxRecDepth 20000
namespace Go.Proofs.YteginbngplldaaaGreatDoor
namespace J
end J
section
open Go Go.RowKit J
structure nX (w v:World) (gn gs gz gd:Nat) (oN oS oT oD:Option (Bool×Nat×Int)):Prop where
 n:Lo v gn oN
 s:Lo v gs oS
 z:Lo v gz oT
 d:Lo v gd oD
 b:An w v
theorem nX.below{w v u:World}{gn gs gz gd:Nat}{oN oS oT oD:Option (Bool×Nat×Int)}(h:nX w v gn gs gz gd oN oS oT oD)(hb:An v u):nX w u gn gs gz gd oN oS oT oD :=
 ⟨h.n.below hb,h.s.below hb,h.z.below hb,h.d.below hb,h.b.trans (hb.mono h.b.size)⟩
theorem nX.setd{w v:World}{gn gs gz gd:Nat}{oN oS oT oD p:Option (Bool×Nat×Int)}(h:nX w v gn gs gz gd oN oS oT oD)(hg:w.heap.size<=gn/\gn<gs/\gs<gz/\gz<gd){a:Option Addr}{c:Nat}(hN:Nt 0 v (.slice a (ws (dX p)).length c) (dX p)):nX w (dh v gd (.bool (dN p)) (.slice a (ws (dX p)).length c) (.int .i64 (dE p))) gn gs gz gd oN oS oT p :=
 ⟨h.n.other h.d (by omega) _ _ _,h.s.other h.d (by omega) _ _ _,h.z.other h.d (by omega) _ _ _,h.d.set hN,di h.b h.b.size (by omega) _ _ _⟩
theorem nX.setz{w v:World}{gn gs gz gd:Nat}{oN oS oT oD p:Option (Bool×Nat×Int)}(h:nX w v gn gs gz gd oN oS oT oD)(hg:w.heap.size<=gn/\gn<gs/\gs<gz/\gz<gd){a:Option Addr}{c:Nat}(hN:Nt 0 v (.slice a (ws (dX p)).length c) (dX p)):nX w (dh v gz (.bool (dN p)) (.slice a (ws (dX p)).length c) (.int .i64 (dE p))) gn gs gz gd oN oS p oD :=
 ⟨h.n.other h.z (by omega) _ _ _,h.s.other h.z (by omega) _ _ _,h.z.set hN,h.d.other h.z (by omega) _ _ _,di h.b h.b.size (by omega) _ _ _⟩
theorem nX.other{w v:World}{gn gs gz gd g:Nat}{oN oS oT oD p:Option (Bool×Nat×Int)}(h:nX w v gn gs gz gd oN oS oT oD)(hg:w.heap.size<=gn/\gn<gs/\gs<gz/\gz<gd)(hL:Lo v g p)(hgg:gd<g)(x y z:Value):nX w (dh v g x y z) gn gs gz gd oN oS oT oD :=
 ⟨h.n.other hL (by omega) _ _ _,h.s.other hL (by omega) _ _ _,h.z.other hL (by omega) _ _ _,h.d.other hL (by omega) _ _ _,di h.b h.b.size (by omega) _ _ _⟩
theorem MH (a:Option Addr) (n c k:Nat) (mode:Int) (w:World) (xs:List Nat) (oN oS oI:Option (Bool×Nat×Int)) (V M X T D:Nat->Option (Bool×Nat×Int)) (P:Nat->Nat->Option (Bool×Nat×Int)) (z:Nat×Int) (hn:n=xs.length) (hF:Fs w.heap.size w a xs) (h1:1<=k) (h4:k<=4) (hl:n<=65536) (h0:n≠0)
 (ma:Hid (Ax 61 #[.int .i64 mode] w (.bool true)))
 (VQ:Hid (At 62 #[.slice a n c] w (.bool true)))
 (HI:Hid (∀ u:World,As 14 #[.int .i64 (n:Nat)] u fun r w'=>aN 0 w' r oN/\An u w'))
 (HI1:Hid (∀ u:World,As 14 #[.int .i64 1] u fun r w'=>aN 0 w' r oI/\An u w'))
 (HS:Hid (∀ u:World,An w u->As 63 #[.slice a n c] u fun r w'=>aN 0 w' r oS/\An u w'))
 (HV:Hid (∀ (i:Nat) (u:World),i<n->As 66 #[.float .f64 (xs.getD i 0)] u fun r w'=>aN 0 w' r (V i)/\An u w'))
 (HD:Hid (∀ (i:Nat) (u:World) (p q:Option Addr) (cp cq:Nat),i<k->Nt 0 u (.slice p (ws (dX (D i))).length cp) (dX (D i))->Nt 0 u (.slice q (ws (dX oN)).length cq) (dX oN)->As 64 #[.agg #[.bool (dN (D i)),.slice p (ws (dX (D i))).length cp,.int .i64 (dE (D i))],.agg #[.bool (dN oN),.slice q (ws (dX oN)).length cq,.int .i64 (dE oN)]] u fun r w'=>aN 0 w' r (D (i+1))/\An u w'))
 (HM:Hid (∀ (i:Nat) (u:World) (p q:Option Addr) (cp cq:Nat),i<n->Nt 0 u (.slice p (ws (dX oN)).length cp) (dX oN)->Nt 0 u (.slice q (ws (dX (V i))).length cq) (dX (V i))->As 64 #[.agg #[.bool (dN oN),.slice p (ws (dX oN)).length cp,.int .i64 (dE oN)],.agg #[.bool (dN (V i)),.slice q (ws (dX (V i))).length cq,.int .i64 (dE (V i))]] u fun r w'=>aN 0 w' r (M i)/\An u w')) (HL:Hid (∀ (i:Nat) (u:World) (p q:Option Addr) (cp cq:Nat),i<n->Nt 0 u (.slice p (ws (dX (M i))).length cp) (dX (M i))->Nt 0 u (.slice q (ws (dX oS)).length cq) (dX oS)->As 65 #[.agg #[.bool (dN (M i)),.slice p (ws (dX (M i))).length cp,.int .i64 (dE (M i))],.agg #[.bool (dN oS),.slice q (ws (dX oS)).length cq,.int .i64 (dE oS)]] u fun r w'=>aN 0 w' r (X i)/\An u w')) (HP:Hid (∀ (i j:Nat) (u:World) (p q:Option Addr) (cp cq:Nat),i<n->j<k->Nt 0 u (.slice p (ws (dX (P i j))).length cp) (dX (P i j))->Nt 0 u (.slice q (ws (dX (X i))).length cq) (dX (X i))->As 64 #[.agg #[.bool (dN (P i j)),.slice p (ws (dX (P i j))).length cp,.int .i64 (dE (P i j))],.agg #[.bool (dN (X i)),.slice q (ws (dX (X i))).length cq,.int .i64 (dE (X i))]] u fun r w'=>aN 0 w' r (P i (j+1))/\An u w')) (HA:Hid (∀ (i:Nat) (u:World) (p q:Option Addr) (cp cq:Nat),i<n->Nt 0 u (.slice p (ws (dX (T i))).length cp) (dX (T i))->Nt 0 u (.slice q (ws (dX (P i k))).length cq) (dX (P i k))->As 67 #[.agg #[.bool (dN (T i)),.slice p (ws (dX (T i))).length cp,.int .i64 (dE (T i))],.agg #[.bool (dN (P i k)),.slice q (ws (dX (P i k))).length cq,.int .i64 (dE (P i k))]] u fun r w'=>aN 0 w' r (T (i+1))/\An u w'))
 (HQ:Hid (∀ (u:World) (p q:Option Addr) (cp cq:Nat),Nt 0 u (.slice p (ws (dX (T n))).length cp) (dX (T n))->Nt 0 u (.slice q (ws (dX (D k))).length cq) (dX (D k))->At 57 #[.agg #[.bool (dN (T n)),.slice p (ws (dX (T n))).length cp,.int .i64 (dE (T n)),.bool (dN (D k)),.slice q (ws (dX (D k))).length cq,.int .i64 (dE (D k))],.int .i64 mode] u (.tuple #[.float .f64 z.1,.int .i64 z.2])))
 (E0:oN=D 0) (E1:gG=T 0) (E2:∀ i,i<n->oI=P i 0) :
 At 25 #[.slice a n c,.int .i64 (k:Nat),.int .i64 mode] w (.tuple #[.float .f64 z.1,.int .i64 z.2]):=by
 obtain⟨Xr,Er⟩:=z;simp only at HQ |-;have d1:decide ((k:Int)<1)=false:=decide_eq_false (by omega);have d2:decide ((4:Int)<(k:Int))=false:=decide_eq_false (by omega);have d3:decide ((65536:Int)<(n:Int))=false:=decide_eq_false (by omega);have d4:((n:Int)==0)=false:=by simpa using h0
 have HX:=(iC hn hF E0 E1 E2 h4);clear hn hF h1 h0 E0 E1 E2;go_enter Tryz.func25,Tryz.ntmps25;go_wp2_with fail;refine ma.o.mono ?_;rintro r v0 ⟨rfl,hq⟩;rw[hq];clear hq v0 ma;go_wp2_with fail;refine VQ.o.mono ?_;rintro r u0 ⟨rfl,hb⟩;have BD:=ak hb;clear hb VQ;go_wp2_with fail;refine(HI.o u0).mono ?_;rintro r v1 ⟨hd,hb⟩;obtain⟨p1,q1,rfl,hN⟩:=hd.aD;obtain⟨u1,hu⟩:=af (v1.alloc (Obj.cells #[.bool (dN oN),.slice p1 (ws (dX oN)).length q1,.int .i64 (dE oN)] 37));obtain⟨gn,hg⟩:=af (v1.heap.size);have hb2:Below v1.heap.size v1 u1:=by rw[hu];exact ae _ _
 have hL:Lo u1 gn oN:=by rw[hu,hg];exact Lo.new hN
 have BD:Aside (Lo u1 gn oN/\An w u1/\w.heap.size<=gn):=⟨hL,(BD.o.trans (hb.mono BD.o.size)).trans (hb2.mono (cB BD.o.size hb.size)),by rw[hg];exact cB BD.o.size hb.size⟩;have HU:=(aJ hu hg);clear hu hg hb hb2 hL hN hd HI;go_wp2_with fail;rw[<-HU.o.1,<-HU.o.2];clear HU;refine(HS.o u1 BD.o.2.1).mono ?_;rintro r v2 ⟨hd,hb⟩;obtain⟨p2,q2,rfl,hN⟩:=hd.aD;obtain⟨u2,hu⟩:=af (v2.alloc (Obj.cells #[.bool (dN oS),.slice p2 (ws (dX oS)).length q2,.int .i64 (dE oS)] 37));obtain⟨gs,hg⟩:=af (v2.heap.size);have hb2:Below v2.heap.size v2 u2:=by rw[hu];exact ae _ _
 have hL:Lo u2 gs oS:=by rw[hu,hg];exact Lo.new hN
 have lt:gn<gs:=by rw[hg];exact(BD.o.1.below hb).lt
 obtain⟨u3,hu3⟩:=af (u2.alloc (Obj.cells #[.bool false,.slice none 0 0,.int .i64 0] 37));obtain⟨gz,hg3⟩:=af (u2.heap.size);have hb3:Below u2.heap.size u2 u3:=by rw[hu3];exact ae _ _
 have hL3:Lo u3 gz gG:=by rw[hu3,hg3];exact Lo.zero _
 have lt3:gs<gz:=by rw[hg3];exact hL.lt
 have BD:Aside (Lo u3 gn oN/\Lo u3 gs oS/\Lo u3 gz gG/\An w u3/\(w.heap.size<=gn/\gn<gs/\gs<gz)) :=
  ⟨((BD.o.1.below hb).below hb2).below hb3,hL.below hb3,hL3,((BD.o.2.1.trans (hb.mono BD.o.2.1.size)).trans (hb2.mono (cB BD.o.2.1.size hb.size))).trans (hb3.mono (cB (cB BD.o.2.1.size hb.size) hb2.size)),BD.o.r2,lt,lt3⟩
 have hgz:gz=gs+1:=by rw[hg3,hu,dA,hg]
 have HU:=(fE hu hg hu3 hgz);clear hu hg hu3 hg3 hgz hb hb2 hb3 hL hL3 hN hd HS lt lt3
 go_upto_region 14 with fail
 rw[<-HU.o.1,<-HU.o.2.1,<-HU.o.r2.1,<-HU.o.r3];clear HU;obtain⟨pn,qn,DN,MN⟩:=BD.o.1;obtain⟨x0,x1,x2,bE,bF,bG⟩:=DN.facts;obtain⟨u4,hu⟩:=af (u3.alloc (Obj.cells #[.bool (dN oN),.slice pn (ws (dX oN)).length qn,.int .i64 (dE oN)] 37));obtain⟨gd,hg⟩:=af (u3.heap.size);have hb:Below u3.heap.size u3 u4:=by rw[hu];exact ae _ _
 have hL:Lo u4 gd oN:=by rw[hu,hg];exact Lo.new MN
 have BD:Aside (nX w u4 gn gs gz gd oN oS (T 0) (D 0)/\(w.heap.size<=gn/\gn<gs/\gs<gz/\gz<gd)):=by
  rw[<-HX.o.r2.1,<-HX.o.r3.1];exact⟨⟨BD.o.1.below hb,BD.o.2.1.below hb,BD.o.r2.1.below hb,hL,BD.o.r3.1.trans (hb.mono BD.o.r3.1.size)⟩,BD.o.r4.1,BD.o.r5.1,BD.o.r6,by rw[hg];exact BD.o.r2.1.lt⟩
 have HU:=(aJ hu hg);have GG:=ak BD.o.2;clear hu hg hb hL DN MN
 go_upto_region 15 with fail
 rw[<-HU.o.1,<-HU.o.2];clear HU x0 x1 x2 bE bF bG;go_wp2
 go_loopg [14] k (fun gk i wr=>∃ j:Nat,gk+j=k/\i=.int .i64 (j:Nat)/\Aside (nX w wr gn gs gz gd oN oS (T 0) (D j)))
 case atStart=>exact⟨0,by omega,by simp,BD.o.1⟩
 case round =>
  obtain⟨j,hgj,rfl,HB⟩:=hrel
  by_cases hj:j<k
  · obtain⟨p3,q3,D1,M1⟩:=HB.o.d;obtain⟨p4,q4,D2,M2⟩:=HB.o.n;obtain⟨x0,x1,x2,bE,bF,bG⟩:=D1.facts;obtain⟨y0,y1,y2,bI,bJ,bK⟩:=D2.facts;have C:=hid (HD.o j wr p3 p4 q3 q4 hj M1 M2);clear D1 D2 M1 M2;go_wp2_with fail;refine C.o.mono ?_;rintro r u5 ⟨hd,hb⟩;obtain⟨a3,c3,rfl,hN0⟩:=hd.aD;have s1:=(HB.o.below hb);have H3:=ak (s1.setd GG.o hN0);obtain⟨p5,q5,D3,M3⟩:=s1.d;obtain⟨z0,z1,z2,dO,dP,dQ⟩:=D3.facts;clear D3 M3 s1 hb hd C x0 x1 x2 bE bF bG y0 y1 y2 bI bJ bK hN0;go_wp2;go_roundg (gk-1)
    case measure=>omega
    case rel=>exact⟨j+1,by omega,by go_num,H3.o⟩
  · obtain rfl:j=k:=by omega
    clear hj BD HD;go_wp2
    go_loopg [15] n (fun gk i wr=>∃ i':Nat,gk+i'=n/\i=.int .i64 (i':Nat)/\Aside (nX w wr gn gs gz gd oN oS (T i') (D j)))
    case atStart=>exact⟨0,by omega,by simp,HB.o⟩
    case round =>
     obtain⟨i,hgi,rfl,HC⟩:=hrel
     by_cases hi:i<n
     · have hdr:=(aB wr.heap.size wr).drew;obtain⟨b,off,rfl,hc⟩:=HX.o.2.1.at (HC.o.b.trans (hdr.mono HC.o.b.size)) i (by rw[<-HX.o.1];exact hi);have HVi:=hid (fun u=>HV.o i u hi);obtain⟨x,hx⟩:=af (xs.getD i 0);rw[<-hx] at hc HVi;obtain⟨Z7,Z8,DN,MN⟩:=HC.o.n;obtain⟨ps2,aJ,DS,MS⟩:=HC.o.s;have kS:Aside (wr.drew.cell? ⟨gn,0,none⟩=some (.bool (dN oN))/\wr.drew.cell? ⟨gn,1,none⟩=some (.slice Z7 (ws (dX oN)).length Z8)/\wr.drew.cell? ⟨gn,2,none⟩=some (.int .i64 (dE oN))/\wr.drew.cell? ⟨gs,0,none⟩=some (.bool (dN oS))/\wr.drew.cell? ⟨gs,1,none⟩=some (.slice ps2 (ws (dX oS)).length aJ)/\wr.drew.cell? ⟨gs,2,none⟩=some (.int .i64 (dE oS))/\wr.drew.cell? ⟨b,off+i,none⟩=some (.float .f64 x)):=⟨(DN.below hdr).facts.1,(DN.below hdr).facts.2.1,(DN.below hdr).facts.2.2.1,(DS.below hdr).facts.1,(DS.below hdr).facts.2.1,(DS.below hdr).facts.2.2.1,hc⟩;have BD:=(bO (HC.o.below hdr) (MN.below hdr) (MS.below hdr));clear DN MN DS MS hdr hc hx;go_wp2_with fail
       go_cut [16] from 61 to 70 (fun q wx=>∃ gx:Nat,q=.pointer (some ⟨gx,0,none⟩)/\Aside (Lo wx gx (X i)/\nX w wx gn gs gz gd oN oS (T i) (D j)/\gd<gx))
       case first =>
        refine dz (fun w'=>w'.cell? ⟨gn,0,none⟩=some (.bool (dN oN))/\w'.cell? ⟨gn,1,none⟩=some (.slice Z7 (ws (dX oN)).length Z8)/\w'.cell? ⟨gn,2,none⟩=some (.int .i64 (dE oN))/\w'.cell? ⟨gs,0,none⟩=some (.bool (dN oS))/\w'.cell? ⟨gs,1,none⟩=some (.slice ps2 (ws (dX oS)).length aJ)/\w'.cell? ⟨gs,2,none⟩=some (.int .i64 (dE oS))/\w'.cell? ⟨b,off+i,none⟩=some (.float .f64 x)) 10 (by kernel_rfl) ?_;obtain⟨Wd,hWd⟩:=af (wr.drew);rw[<-hWd] at BD kS |-;clear hWd
        refine tk 0 [6,8] rfl kS.o ?_;try simp only[Act.put,sa,sb,sc]
        refine tk 1 [3,4,5,6,8] rfl kS.o ?_;try simp only[Act.put,sa,sb,sc]
        refine tk 2 [3,4,5,6,8] rfl kS.o ?_;try simp only[Act.put,sa,sb,sc]
        refine tk 3 [4,5,6,8] rfl kS.o ?_;try simp only[Act.put,sa,sb,sc]
        refine tk 4 [5,6,8] rfl kS.o ?_;try simp only[Act.put,sa,sb,sc]
        refine tk 7 [8] rfl kS.o ?_;try simp only[Act.put,sa,sb,sc]
        refine aU (i:=5) (j:=9) (by kernel_rfl) rfl rfl (fun K' hK=>?_) (fun K' hK=>?_)
        · skip;have C:=hid (HVi.o Wd);go_simp;refine C.o.mono ?_;rintro r u1 ⟨hd,hb⟩;obtain⟨a1,c1,rfl,hN⟩:=hd.aD;have BD:=fE (BD.o.1.below hb) (BD.o.2.1.below hb) (BD.o.r2.below hb) hN;have kS:=ak (ck hb kS.o fun h=>l9 hb h);clear hb hd hN C;dsimp only;refine hK.out _ _ (fun _=>kS.o) ?_;clear hK K'
          try simp only[Act.put,sa,sb,sc]
          refine aU (i:=6) (j:=9) (by kernel_rfl) rfl rfl (fun K' hK=>?_) (fun K' hK=>?_)
          · skip;have C:=hid (HM.o i u1 Z7 a1 Z8 c1 hi BD.o.2.1 BD.o.r3);go_simp;refine C.o.mono ?_;rintro r u2 ⟨hd,hb⟩;obtain⟨a2,c2,rfl,hN⟩:=hd.aD;have BD:=dJ (BD.o.1.below hb) (BD.o.2.1.below hb) (BD.o.r2.1.below hb) (BD.o.r3.below hb) hN;have kS:=ak (ck hb kS.o fun h=>l9 hb h);clear hb hd hN C;dsimp only;refine hK.out _ _ (fun _=>kS.o) ?_;clear hK K'
            try simp only[Act.put,sa,sb,sc]
            refine aU (i:=8) (j:=9) (by kernel_rfl) rfl rfl (fun K' hK=>?_) (fun K' hK=>?_)
            · skip;have C:=hid (HL.o i u2 a2 ps2 c2 aJ hi BD.o.r4 BD.o.r2.1);go_simp;refine C.o.mono ?_;rintro r u3 ⟨hd,hb⟩;obtain⟨a3,c3,rfl,hN⟩:=hd.aD;have BD:=iC (BD.o.1.below hb) (BD.o.2.1.below hb) (BD.o.r2.1.below hb) (BD.o.r3.1.below hb) (BD.o.r4.below hb) hN;have kS:=ak (ck hb kS.o fun h=>l9 hb h);clear hb hd hN C;dsimp only;refine hK.out _ _ (fun _=>kS.o) ?_;clear hK K'
              try simp only[Act.put,sa,sb,sc]
              refine ah (i:=9) (by kernel_rfl) rfl (fun K' hK=>?_);go_simp;obtain⟨g4,hg4⟩:=af (u3.heap.size);obtain⟨V4,su⟩:=af (u3.alloc (Obj.cells #[.bool false,.slice none 0 0,.int .i64 0] 37));have hb:Below u3.heap.size u3 V4:=by rw[su];exact ae _ _
              have hZ:Lo V4 g4 gG:=by rw[su,hg4];exact Lo.zero _
              have BD:=qb (BD.o.1.below hb) (BD.o.2.1.below hb) (BD.o.r2.1.below hb) (BD.o.r3.1.below hb) (BD.o.r4.1.below hb) (BD.o.r5.below hb) hZ (show gd<g4 by rw[hg4];exact BD.o.1.d.lt);have kS:=ak (ck hb kS.o fun h=>l9 hb h);have HV:=(Go.Proofs.YteginbngplldaaaGreatDoor.aJ su hg4);clear hZ hb su hg4;refine hK.out _ _ (fun _=>by rw[<-HV.o.1];exact kS.o) ?_;clear hK K';rw[<-HV.o.1,<-HV.o.2];clear HV
              try simp only[Act.put,sa,sb,sc]
              obtain⟨zp,zq,DZ,MZ⟩:=BD.o.r6.1;obtain⟨z0,z1,z2,dO,dP,dQ⟩:=DZ.facts;clear DZ MZ;refine ah (i:=10) (by kernel_rfl) rfl (fun K' hK=>?_);go_simp;refine hK.out _ _ (fun h=>absurd h (by decide)) ?_;clear hK K' z0 z1 z2 dO dP dQ kS;refine aH (by kernel_rfl) ?_ _;go_wp2_with fail
              go_meet
              case rel=>exact⟨g4,rfl,BD.o.r6.1.set BD.o.r5.1,BD.o.1.other GG.o BD.o.r6.1 BD.o.r7 _ _ _,BD.o.r7⟩
            · skip;go_simp;obtain⟨g5,hg5⟩:=af (u2.heap.size);obtain⟨V5,vX⟩:=af (u2.alloc (Obj.cells #[.bool false,.slice none 0 0,.int .i64 0] 37));have hb:Below u2.heap.size u2 V5:=by rw[vX];exact ae _ _
              have hZ:Lo V5 g5 gG:=by rw[vX,hg5];exact Lo.zero _
              have BD:=jY (BD.o.1.below hb) (BD.o.2.1.below hb) (BD.o.r2.1.below hb) (BD.o.r3.1.below hb) (BD.o.r4.below hb) hZ (show gd<g5 by rw[hg5];exact BD.o.1.d.lt);have kS:=ak (ck hb kS.o fun h=>l9 hb h);have HV:=(Go.Proofs.YteginbngplldaaaGreatDoor.aJ vX hg5);clear hZ hb vX hg5;refine hK.out _ _ (fun _=>by rw[<-HV.o.1];exact kS.o) ?_;clear hK K';rw[<-HV.o.1,<-HV.o.2];clear HV
              try simp only[Act.put,sa,sb,sc]
              refine ah (i:=8) (by kernel_rfl) rfl (fun K' hK=>?_);have C:=hid (HL.o i V5 a2 ps2 c2 aJ hi BD.o.r4.1 BD.o.r2.1);go_simp;refine C.o.mono ?_;rintro r u6 ⟨hd,hb⟩;obtain⟨a6,c6,rfl,hN⟩:=hd.aD;have BD:=qb (BD.o.1.below hb) (BD.o.2.1.below hb) (BD.o.r2.1.below hb) (BD.o.r3.1.below hb) (BD.o.r4.1.below hb) (BD.o.r5.1.below hb) BD.o.r6 hN;have kS:=ak (ck hb kS.o fun h=>l9 hb h);clear hb hd hN C;dsimp only;refine hK.out _ _ (fun _=>kS.o) ?_;clear hK K'
              try simp only[Act.put,sa,sb,sc]
              obtain⟨zp,zq,DZ,MZ⟩:=BD.o.r5.1;obtain⟨z0,z1,z2,dO,dP,dQ⟩:=DZ.facts;clear DZ MZ;refine ah (i:=10) (by kernel_rfl) rfl (fun K' hK=>?_);go_simp;refine hK.out _ _ (fun h=>absurd h (by decide)) ?_;clear hK K' z0 z1 z2 dO dP dQ kS;refine aH (by kernel_rfl) ?_ _;go_wp2_with fail
              go_meet
              case rel=>exact⟨g5,rfl,BD.o.r5.1.set BD.o.r7,BD.o.1.other GG.o BD.o.r5.1 BD.o.r6.1 _ _ _,BD.o.r6.1⟩
          · skip;go_simp;obtain⟨g7,mo⟩:=af (u1.heap.size);obtain⟨V7,vY⟩:=af (u1.alloc (Obj.cells #[.bool false,.slice none 0 0,.int .i64 0] 37));have hb:Below u1.heap.size u1 V7:=by rw[vY];exact ae _ _
            have hZ:Lo V7 g7 gG:=by rw[vY,mo];exact Lo.zero _
            have BD:=iC (BD.o.1.below hb) (BD.o.2.1.below hb) (BD.o.r2.1.below hb) (BD.o.r3.below hb) hZ (show gd<g7 by rw[mo];exact BD.o.1.d.lt);have kS:=ak (ck hb kS.o fun h=>l9 hb h);have HV:=(Go.Proofs.YteginbngplldaaaGreatDoor.aJ vY mo);clear hZ hb vY mo;refine hK.out _ _ (fun _=>by rw[<-HV.o.1];exact kS.o) ?_;clear hK K';rw[<-HV.o.1,<-HV.o.2];clear HV
            try simp only[Act.put,sa,sb,sc]
            refine ah (i:=6) (by kernel_rfl) rfl (fun K' hK=>?_);have C:=hid (HM.o i V7 Z7 a1 Z8 c1 hi BD.o.2.1 BD.o.r3.1);go_simp;refine C.o.mono ?_;rintro r u8 ⟨hd,hb⟩;obtain⟨a8,c8,rfl,hN⟩:=hd.aD;have BD:=jY (BD.o.1.below hb) (BD.o.2.1.below hb) (BD.o.r2.1.below hb) (BD.o.r3.1.below hb) (BD.o.r4.1.below hb) BD.o.r5 hN;have kS:=ak (ck hb kS.o fun h=>l9 hb h);clear hb hd hN C;dsimp only;refine hK.out _ _ (fun _=>kS.o) ?_;clear hK K'
            try simp only[Act.put,sa,sb,sc]
            refine ah (i:=8) (by kernel_rfl) rfl (fun K' hK=>?_);have C:=hid (HL.o i u8 a8 ps2 c8 aJ hi BD.o.r6 BD.o.r2.1);go_simp;refine C.o.mono ?_;rintro r u9 ⟨hd,hb⟩;obtain⟨a9,c9,rfl,hN⟩:=hd.aD;have BD:=qb (BD.o.1.below hb) (BD.o.2.1.below hb) (BD.o.r2.1.below hb) (BD.o.r3.1.below hb) (BD.o.r4.1.below hb) BD.o.r5.1 (BD.o.r6.below hb) hN;have kS:=ak (ck hb kS.o fun h=>l9 hb h);clear hb hd hN C;dsimp only;refine hK.out _ _ (fun _=>kS.o) ?_;clear hK K'
            try simp only[Act.put,sa,sb,sc]
            obtain⟨zp,zq,DZ,MZ⟩:=BD.o.r4.1;obtain⟨z0,z1,z2,dO,dP,dQ⟩:=DZ.facts;clear DZ MZ;refine ah (i:=10) (by kernel_rfl) rfl (fun K' hK=>?_);go_simp;refine hK.out _ _ (fun h=>absurd h (by decide)) ?_;clear hK K' z0 z1 z2 dO dP dQ kS;refine aH (by kernel_rfl) ?_ _;go_wp2_with fail
            go_meet
            case rel=>exact⟨g7,rfl,BD.o.r4.1.set BD.o.r7,BD.o.1.other GG.o BD.o.r4.1 BD.o.r5.1 _ _ _,BD.o.r5.1⟩
        · skip;go_simp;obtain⟨g10,jX⟩:=af (Wd.heap.size);obtain⟨G9,nL⟩:=af (Wd.alloc (Obj.cells #[.bool false,.slice none 0 0,.int .i64 0] 37));have hb:Below Wd.heap.size Wd G9:=by rw[nL];exact ae _ _
          have hZ:Lo G9 g10 gG:=by rw[nL,jX];exact Lo.zero _
          have BD:=dJ (BD.o.1.below hb) (BD.o.2.1.below hb) (BD.o.r2.below hb) hZ (show gd<g10 by rw[jX];exact BD.o.1.d.lt);have kS:=ak (ck hb kS.o fun h=>l9 hb h);have HV:=(Go.Proofs.YteginbngplldaaaGreatDoor.aJ nL jX);clear hZ hb nL jX;refine hK.out _ _ (fun _=>by rw[<-HV.o.1];exact kS.o) ?_;clear hK K';rw[<-HV.o.1,<-HV.o.2];clear HV
          try simp only[Act.put,sa,sb,sc]
          refine ah (i:=5) (by kernel_rfl) rfl (fun K' hK=>?_);have C:=hid (HVi.o G9);go_simp;refine C.o.mono ?_;rintro r Eo ⟨hd,hb⟩;obtain⟨VS,c11,rfl,hN⟩:=hd.aD;have BD:=iC (BD.o.1.below hb) (BD.o.2.1.below hb) (BD.o.r2.1.below hb) (BD.o.r3.1.below hb) BD.o.r4 hN;have kS:=ak (ck hb kS.o fun h=>l9 hb h);clear hb hd hN C;dsimp only;refine hK.out _ _ (fun _=>kS.o) ?_;clear hK K'
          try simp only[Act.put,sa,sb,sc]
          refine ah (i:=6) (by kernel_rfl) rfl (fun K' hK=>?_);have C:=hid (HM.o i Eo Z7 VS Z8 c11 hi BD.o.2.1 BD.o.r5);go_simp;refine C.o.mono ?_;rintro r ZG ⟨hd,hb⟩;obtain⟨a12,c12,rfl,hN⟩:=hd.aD;have BD:=jY (BD.o.1.below hb) (BD.o.2.1.below hb) (BD.o.r2.1.below hb) (BD.o.r3.1.below hb) BD.o.r4.1 (BD.o.r5.below hb) hN;have kS:=ak (ck hb kS.o fun h=>l9 hb h);clear hb hd hN C;dsimp only;refine hK.out _ _ (fun _=>kS.o) ?_;clear hK K'
          try simp only[Act.put,sa,sb,sc]
          refine ah (i:=8) (by kernel_rfl) rfl (fun K' hK=>?_);have C:=hid (HL.o i ZG a12 ps2 c12 aJ hi BD.o.r6 BD.o.r2.1);go_simp;refine C.o.mono ?_;rintro r Ep ⟨hd,hb⟩;obtain⟨a13,c13,rfl,hN⟩:=hd.aD;have BD:=qb (BD.o.1.below hb) (BD.o.2.1.below hb) (BD.o.r2.1.below hb) (BD.o.r3.1.below hb) BD.o.r4.1 (BD.o.r5.1.below hb) (BD.o.r6.below hb) hN;have kS:=ak (ck hb kS.o fun h=>l9 hb h);clear hb hd hN C;dsimp only;refine hK.out _ _ (fun _=>kS.o) ?_;clear hK K'
          try simp only[Act.put,sa,sb,sc]
          obtain⟨zp,zq,DZ,MZ⟩:=BD.o.r3.1;obtain⟨z0,z1,z2,dO,dP,dQ⟩:=DZ.facts;clear DZ MZ;refine ah (i:=10) (by kernel_rfl) rfl (fun K' hK=>?_);go_simp;refine hK.out _ _ (fun h=>absurd h (by decide)) ?_;clear hK K' z0 z1 z2 dO dP dQ kS;refine aH (by kernel_rfl) ?_ _;go_wp2_with fail
          go_meet
          case rel=>exact⟨g10,rfl,BD.o.r3.1.set BD.o.r7,BD.o.1.other GG.o BD.o.r3.1 BD.o.r4.1 _ _ _,BD.o.r4.1⟩
       obtain⟨gx,rfl,K1⟩:=hcut;obtain⟨U,hU⟩:=af wc;rw[<-hU] at K1 |-;clear hU BD kS HVi;go_wp2_with fail;refine(HI1.o U).mono ?_;rintro r v6 ⟨hd,hb⟩;obtain⟨p6,q6,rfl,hN⟩:=hd.aD;obtain⟨U7,hu⟩:=af (v6.alloc (Obj.cells #[.bool (dN oI),.slice p6 (ws (dX oI)).length q6,.int .i64 (dE oI)] 37));obtain⟨gp,hg⟩:=af (v6.heap.size);have hb2:Below v6.heap.size v6 U7:=by rw[hu];exact ae _ _
       have hL:Lo U7 gp oI:=by rw[hu,hg];exact Lo.new hN
       rw[HX.o.r4.1 i hi] at hL;have K2:Aside (Lo U7 gp (P i 0)/\Lo U7 gx (X i)/\nX w U7 gn gs gz gd oN oS (T i) (D j)):=⟨hL,(K1.o.1.below hb).below hb2,(K1.o.2.1.below hb).below hb2⟩;have GX:Aside (gd<gx/\gx<gp):=⟨K1.o.r2,by rw[hg];exact(K1.o.1.below hb).lt⟩;have HU:=(Go.Proofs.YteginbngplldaaaGreatDoor.aJ hu hg);clear hu hg hb hb2 hL hN hd K1
       go_upto_region 24 with fail
       rw[<-HU.o.1,<-HU.o.2];clear HU;go_wp2
       go_loopg [18] j (fun gk3 q wr3=>∃ m:Nat,gk3+m=j/\q=.int .i64 (m:Nat)/\Aside (Lo wr3 gp (P i m)/\Lo wr3 gx (X i)/\nX w wr3 gn gs gz gd oN oS (T i) (D j)))
       case atStart=>exact⟨0,by omega,by simp,K2.o⟩
       case round =>
        obtain⟨m,hgm,rfl,HE⟩:=hrel
        by_cases hm:m<j
        · obtain⟨p3,q3,D1,M1⟩:=HE.o.1;obtain⟨p4,q4,D2,M2⟩:=HE.o.2.1;obtain⟨x0,x1,x2,bE,bF,bG⟩:=D1.facts;obtain⟨y0,y1,y2,bI,bJ,bK⟩:=D2.facts;have C:=hid (HP.o i m wr p3 p4 q3 q4 hi hm M1 M2);clear D1 D2 M1 M2;go_wp2_with fail;refine C.o.mono ?_;rintro r u5 ⟨hd,hb⟩;obtain⟨a3,c3,rfl,hN0⟩:=hd.aD;have s1:=HE.o.1.below hb;have H3:=bO (s1.set hN0) ((HE.o.2.1.below hb).other s1 (by have:=GX.o;omega) (.bool (dN (P i (m+1)))) (.slice a3 (ws (dX (P i (m+1)))).length c3) (.int .i64 (dE (P i (m+1))))) ((HE.o.r2.below hb).other GG.o s1 (by have:=GX.o;omega) (.bool (dN (P i (m+1)))) (.slice a3 (ws (dX (P i (m+1)))).length c3) (.int .i64 (dE (P i (m+1)))));obtain⟨p5,q5,D3,M3⟩:=s1;obtain⟨z0,z1,z2,dO,dP,dQ⟩:=D3.facts;clear D3 M3 hb hd C x0 x1 x2 bE bF bG y0 y1 y2 bI bJ bK hN0;go_wp2;go_roundg (gk-1)
          case measure=>omega
          case rel=>exact⟨m+1,by omega,by go_num,H3.o⟩
        · obtain rfl:m=j:=by omega
          obtain⟨p3,q3,D1,M1⟩:=HE.o.r2.z;obtain⟨p4,q4,D2,M2⟩:=HE.o.1;obtain⟨x0,x1,x2,bE,bF,bG⟩:=D1.facts;obtain⟨y0,y1,y2,bI,bJ,bK⟩:=D2.facts;have C:=hid (HA.o i wr p3 p4 q3 q4 hi M1 M2);clear D1 D2 M1 M2;go_wp2_with fail;refine C.o.mono ?_;rintro r u5 ⟨hd,hb⟩;obtain⟨a3,c3,rfl,hN0⟩:=hd.aD;have s1:=HE.o.r2.below hb;have H3:=ak (s1.setz GG.o hN0);obtain⟨p5,q5,D3,M3⟩:=s1.z;obtain⟨z0,z1,z2,dO,dP,dQ⟩:=D3.facts;clear D3 M3 s1 hb hd C x0 x1 x2 bE bF bG y0 y1 y2 bI bJ bK hN0;go_wp2;go_roundg (n-i-1)
          case measure=>omega
          case rel=>exact⟨i+1,by omega,by go_num,H3.o⟩
     · obtain rfl:i=n:=by omega
       obtain⟨p3,q3,D1,M1⟩:=HC.o.z;obtain⟨p4,q4,D2,M2⟩:=HC.o.d;obtain⟨x0,x1,x2,bE,bF,bG⟩:=D1.facts;obtain⟨y0,y1,y2,bI,bJ,bK⟩:=D2.facts;have C:=hid (HQ.o wr p3 p4 q3 q4 M1 M2);have K3:=ak HC.o.b;clear D1 D2 M1 M2;go_wp2_with fail;refine C.o.mono ?_;rintro r u5 ⟨rfl,hb⟩;have K4:=ak (K3.o.trans (hb.mono K3.o.size));clear hb C x0 x1 x2 bE bF bG y0 y1 y2 bI bJ bK;go_wp2;exact aC (v:=.tuple #[.float .f64 Xr,.int .i64 Er]) (by simp[results,Tryz.results25,go_sem]) rfl ⟨rfl,K4.o⟩
theorem Hy(xs:List Nat)(a:Option Addr)(n c:Nat)(k mode:Int)(w:World)(hn:n=xs.length)(hF:Fs w.heap.size w a xs)(hW:j4 xs)(hl:n<=35184372088832)(z:Nat×Int)(hz:He xs k mode=z) :
 At 25 #[.slice a n c,.int .i64 k,.int .i64 mode] w (.tuple #[.float .f64 z.1,.int .i64 z.2]):=by
 have ma:=hid (BL mode w);unfold He at hz
 cases hb:(p9 mode&&(decide (1<=k)&&decide (k<=4))) with
 | false =>
   rw[hb,if_neg (by decide)] at hz;subst hz;exact Q0 a n c k mode w _ ma hb
 | true =>
   rw[hb,if_pos rfl] at hz;rw[oo,oo] at hb;obtain⟨hm,k1,k4⟩:=hb;have k1:=of_decide_eq_true k1;have k4:=of_decide_eq_true k4;rw[hm] at ma
   by_cases g1:65536<n
   · have e:nV xs=2:=by unfold nV;rw[if_pos (by omega)]
     rw[e,if_neg (by decide)] at hz;subst hz;exact MF a n c k mode w ma k1 k4 g1
   have g1':¬ 65536<xs.length:=by omega
   have VQ:=hid (uj xs a n c w hn hF hW hl _ rfl)
   by_cases g2:BH xs=true
   · have e:nV xs=0:=by unfold nV;rw[if_neg g1',g2];rfl
     rw[e,if_pos rfl] at hz;rw[g2] at VQ
     by_cases g3:n=0
     · have hx:xs=[]:=uy (by omega);rw[if_pos hx] at hz;subst hz;subst g3;exact MG a c k mode w ma VQ k1 k4
     · rw[if_neg (fun hx=>g3 (by rw[hn,hx];rfl))] at hz;have hf:=(gU xs).1 g2;obtain⟨q,rfl⟩:=E5 (show 0<=k by omega);have hq1:1<=q:=by omega
       have hq4:q<=4:=by omega
       rw[show((q:Int)).toNat=q from rfl] at hz;have bn:Bd 16 (n:Int):=Bd.nat (by omega);have bf:∀ i,i<n->Bd 2098 (fX xs i):=fun i hi=>gP hW hf i (by omega);have bS:Bd 2114 (sX xs):=iA hW hf (by omega) xs.length (aA _);have bM:∀ i,i<n->Bd 2114 ((n:Int)*fX xs i):=fun i hi=>(bn.mul (bf i hi)).mono (by decide);have bX:∀ i,i<n->Bd 2115 ((n:Int)*fX xs i-sX xs):=fun i hi=>(bM i hi).sub bS;have bP:∀ i j,i<n->j<=4->Bd (2115*j) (((n:Int)*fX xs i-sX xs)^j):=fun i j hi _=>(bX i hi).pow j;have bD:∀ i,i<=4->Bd (16*(i+1)) ((n:Int)^(i+1)):=fun i _=>bn.pow (i+1);have bT:∀ i,i<=n->Bd (2115*q+16) (tS (fun i=>((n:Int)*fX xs i-sX xs)^q) i):=fun i hi=>zx (fun i hi=>bP i q hi hq4) (by omega) i hi;have eV:Hd xs q=tS (fun i=>((n:Int)*fX xs i-sX xs)^q) n:=by unfold Hd;rw[hn]
       have FN:Fm (gV 0 (n:Int)):=aZ (by decide) (by decide) bn;have FS:Fm (gV 1074 (sX xs)):=aZ (by decide) (by decide) bS;have FV:∀ i,i<n->Fm (gV 1074 (fX xs i)):=fun i hi=>aZ (by decide) (by decide) (bf i hi);have FM:∀ i,i<n->Fm (gV 1074 ((n:Int)*fX xs i)):=fun i hi=>aZ (by decide) (by decide) (bM i hi);have FX:∀ i,i<n->Fm (gV 1074 ((n:Int)*fX xs i-sX xs)):=fun i hi=>aZ (by decide) (by decide) (bX i hi);have FP:∀ i j,i<n->j<=4->Fm (gV (1074*j) (((n:Int)*fX xs i-sX xs)^j)):=fun i j hi hj=>aZ (by omega) (by omega) (bP i j hi hj);have FD:∀ i,i<=4->Fm (gV 0 ((n:Int)^(i+1))):=fun i hi=>aZ (by omega) (by omega) (bD i hi);have FT:∀ i,i<=n->Fm (gV (1074*q) (tS (fun i=>((n:Int)*fX xs i-sX xs)^q) i)):=fun i hi=>aZ (by omega) (by omega) (bT i hi)
       refine MH a n c q mode w xs (gV 0 (n:Int)) (gV 1074 (sX xs)) (gV 0 1) (fun i=>gV 1074 (fX xs i)) (fun i=>gV 1074 ((n:Int)*fX xs i)) (fun i=>gV 1074 ((n:Int)*fX xs i-sX xs)) (fun i=>gV (1074*q) (tS (fun i=>((n:Int)*fX xs i-sX xs)^q) i)) (fun i=>gV 0 ((n:Int)^(i+1))) (fun i j=>gV (1074*j) (((n:Int)*fX xs i-sX xs)^j)) z hn hF hq1 hq4 (by omega) g3 ma VQ
        (hid fun u=>qK (n:Int) u (by omega) (by omega)) (hid fun u=>qK 1 u (by decide) (by decide)) (hid fun u hb=>Ht xs a n c u hn ((hF.below hb).mono hb.size) hW hf (by omega))
        (hid fun i u hi=>?_) (hid fun i u p q' cp cq hi n1 n2=>?_) (hid fun i u p q' cp cq hi n1 n2=>?_) (hid fun i u p q' cp cq hi n1 n2=>?_) (hid fun i j u p q' cp cq hi hj n1 n2=>?_) (hid fun i u p q' cp cq hi n1 n2=>?_) (hid fun u p q' cp cq n1 n2=>?_) ?_ ?_ ?_
       · exact yv
       · refine jw (FD i (by omega)) FN (FD (i+1) (by omega)) n1 n2 ?_;have:=iR (u:=0) (v:=0) (by decide) (by decide) (by omega) (by decide) (bD i (by omega)) bn;rw[<-Int.pow_succ] at this;exact this
       · refine jw FN (FV i hi) (FM i hi) n1 n2 ?_;have:=iR (u:=0) (v:=1074) (by decide) (by decide) (by decide) (by decide) bn (bf i hi);rw[dK] at this;exact this
       · exact Jf (FM i hi) FS (FX i hi) n1 n2 (Je (by decide) (by decide) (bM i hi) bS)
       · refine jw (FP i j hi (by omega)) (FX i hi) (FP i (j+1) hi (by omega)) n1 n2 ?_;have:=iR (u:=1074*j) (v:=1074) (by omega) (by decide) (by omega) (by decide) (bP i j hi (by omega)) (bX i hi);rw[<-Int.pow_succ,<-yG] at this;exact this
       · exact Bu (FT i (by omega)) (FP i q hi hq4) (FT (i+1) (by omega)) n1 n2 (uN (by omega) (by omega) (bT i (by omega)) ((bP i q hi hq4).mono (by omega)))
       · have:=Jp mode (FT n (aA _)) (FD q hq4) n1 n2;rw[<-hn,eV] at hz;exact js
       · show gV 0 (n:Int)=gV 0 ((n:Int)^(0+1));rw[dK,Int.pow_one]
       · exact(o6 _).symm
       · intro i _;show gV 0 1=gV (1074*0) _;rw[mE,Int.pow_zero]
   · rw[zW] at g2;have e:nV xs=30:=by unfold nV;rw[if_neg g1',g2];rfl
     rw[e,if_neg (by decide)] at hz;subst hz;rw[g2] at VQ;exact Q3 a n c k mode w ma VQ k1 k4 (by omega)
theorem vI(a:Option Addr)(n c:Nat)(xs:List Nat)(a2:Option Addr)(n2 c2:Nat)(ys:List Nat)(k less mode:Int)(w:World)(hT:dH w)(hC:QX w a n c xs)(hC2:QX w a2 n2 c2 ys)(hm:n<=17592186043904)(hm2:n2<=17592186043904) :
 At 5 #[.slice a n c,.slice a2 n2 c2,.int .i64 k,.int .i64 less,.int .i64 mode] w (.bool true):=by
 obtain⟨hl1,hcap,hW1,hF1,_⟩:=hC;obtain⟨hl2,hcap2,hW2,hF2,_⟩:=hC2;have up:∀ u:World,An w u->Fs u.heap.size u a xs/\dH u/\Fs w.heap.size u a xs:=fun u hb=>⟨(hF1.below hb).mono hb.size,hT.belows hb,hF1.below hb⟩;have XW:∀ u:World,An w u->Fs u.heap.size u a2 ys/\Fs w.heap.size u a2 ys:=fun u hb=>⟨(hF2.below hb).mono hb.size,hF2.below hb⟩;obtain⟨⟨X1,E1⟩,h1⟩:∃ r,He xs k mode=r:=⟨_,rfl⟩;obtain⟨⟨X2,E2⟩,h2⟩:∃ r,VI xs ys less mode=r:=⟨_,rfl⟩;obtain⟨⟨X3,E3⟩,h3⟩:∃ r,QM xs ys mode=r:=⟨_,rfl⟩;obtain⟨⟨X4,E4⟩,h4⟩:∃ r,QM ys xs mode=r:=⟨_,rfl⟩;have HA:=hid (fun(u:World) (hb:An w u)=>UO u (up u hb).2.1);have HL1:=hid (fun(u:World) (hb:An w u)=>QV xs a n c u.heap.size u hl1 hm (up u hb).1 (aA _));have HL2:=hid (fun(u:World) (hb:An w u)=>QV ys a2 n2 c2 u.heap.size u hl2 hm2 (XW u hb).1 (aA _));have C1:=hid (fun(u:World) (hb:An w u) (g:Nat) (hO:fK u g (xs++[4634696597773484032,4634766966517661696]))=>zB xs (some ⟨g,0,none⟩) n (n+2) k mode u hl1 (lI hO hl1) hW1 (up u hb).2.1 (by omega) (X1,E1) h1);have C2:=hid (fun(u:World) (hb:An w u) (g h:Nat) (hO:fK u g (xs++[4634696597773484032,4634766966517661696])) (hP:fK u h (ys++[4634696597773484032,4634766966517661696]))=>ZN xs ys (some ⟨g,0,none⟩) (some ⟨h,0,none⟩) n n2 (n+2) (n2+2) less mode u hl1 hl2 (lI hO hl1) (lI hP hl2) hW1 hW2 (up u hb).2.1 (by omega) (by omega) (X2,E2) h2);have C3:=hid (fun(u:World) (hb:An w u) (g h:Nat) (hO:fK u g (xs++[4634696597773484032,4634766966517661696])) (hP:fK u h (ys++[4634696597773484032,4634766966517661696]))=>BQ xs ys (some ⟨g,0,none⟩) (some ⟨h,0,none⟩) n n2 (n+2) (n2+2) mode u hl1 hl2 (lI hO hl1) (lI hP hl2) hW1 hW2 (up u hb).2.1 (by omega) (by omega) (X3,E3) h3);have C4:=hid (fun(u:World) (hb:An w u) (g h:Nat) (hO:fK u g (xs++[4634696597773484032,4634766966517661696])) (hP:fK u h (ys++[4634696597773484032,4634766966517661696]))=>BQ ys xs (some ⟨h,0,none⟩) (some ⟨g,0,none⟩) n2 n (n2+2) (n+2) mode u hl2 hl1 (lI hP hl2) (lI hO hl1) hW2 hW1 (up u hb).2.1 (by omega) (by omega) (X4,E4) h4);have B1:=hid (fun(u:World) (hb:An w u) (g:Nat) (hg:w.heap.size<=g) (hO:fK u g (xs++[4634696597773484032,4634766966517661696]))=>EC xs a n c w.heap.size g u hl1 hm (up u hb).2.2 hg hO);have B2:=hid (fun(u:World) (hb:An w u) (g:Nat) (hg:w.heap.size<=g) (hO:fK u g (ys++[4634696597773484032,4634766966517661696]))=>EC ys a2 n2 c2 w.heap.size g u hl2 hm2 (XW u hb).2 hg hO);have R1:=hid (fun(u:World) (hb:An w u)=>Hy xs a n c k mode u hl1 (up u hb).1 hW1 (by omega) (X1,E1) h1);have R2:=hid (fun(u:World) (hb:An w u)=>Z4 xs ys a a2 n n2 c c2 less mode u hl1 hl2 (up u hb).1 (XW u hb).1 hW1 hW2 (by omega) (by omega) (X2,E2) h2);have R3:=hid (fun(u:World) (hb:An w u)=>JE xs ys a a2 n n2 c c2 mode u hl1 hl2 (up u hb).1 (XW u hb).1 hW1 hW2 (by omega) (by omega) (X3,E3) h3);have R4:=hid (fun(u:World) (hb:An w u)=>JE ys xs a2 a n2 n c2 c mode u hl2 hl1 (XW u hb).1 (up u hb).1 hW2 hW1 (by omega) (by omega) (X4,E4) h4);have HQ:=hid (fun(x:Nat) (u:World)=>I8 x x u);clear hl1 hcap hW1 hF1 hl2 hcap2 hW2 hF2 hT hm hm2 up XW h1 h2 h3 h4;go_enter Tryz.func5,Tryz.ntmps5;go_wp2_with fail;refine(HA.o w (aB _ _)).mono ?_;rintro r u1 ⟨rfl,hb⟩;have BD:=ak hb;clear hb HA;go_wp2_with fail;refine(HL1.o u1 BD.o).mono ?_;rintro r u2 ⟨rfl,hO,hb⟩;obtain⟨g,hg⟩:=af (u1.heap.size);rw[<-hg] at hO |-;have BD:=bO (BD.o.trans (hb.mono BD.o.size)) hO (show w.heap.size<=g by rw[hg];exact BD.o.size);clear hb hO hg HL1;go_wp2_with fail;refine(HL2.o u2 BD.o.1).mono ?_;rintro r u3 ⟨rfl,hO,hb⟩;obtain⟨h,hg⟩:=af (u2.heap.size);rw[<-hg] at hO |-;have GG:Aside (w.heap.size<=g/\g<h):=⟨BD.o.r2,by rw[hg];exact BD.o.2.1.lt⟩;have BD:=bO (BD.o.1.trans (hb.mono BD.o.1.size)) (BD.o.2.1.below hb BD.o.2.1.lt) hO;clear hb hO hg HL2;go_wp2_with fail;refine(C1.o u3 BD.o.1 g BD.o.2.1).mono ?_;rintro r u4 ⟨rfl,hb⟩;have BD:=bO (BD.o.1.trans (hb.mono BD.o.1.size)) (BD.o.2.1.below hb BD.o.2.1.lt) (BD.o.r2.below hb BD.o.r2.lt);clear hb;go_wp2_with fail;refine(C2.o u4 BD.o.1 g h BD.o.2.1 BD.o.r2).mono ?_;rintro r u5 ⟨rfl,hb⟩;have BD:=bO (BD.o.1.trans (hb.mono BD.o.1.size)) (BD.o.2.1.below hb BD.o.2.1.lt) (BD.o.r2.below hb BD.o.r2.lt);clear hb;go_wp2_with fail;refine(C3.o u5 BD.o.1 g h BD.o.2.1 BD.o.r2).mono ?_;rintro r u6 ⟨rfl,hb⟩;have BD:=bO (BD.o.1.trans (hb.mono BD.o.1.size)) (BD.o.2.1.below hb BD.o.2.1.lt) (BD.o.r2.below hb BD.o.r2.lt);clear hb;go_wp2_with fail;refine(C4.o u6 BD.o.1 g h BD.o.2.1 BD.o.r2).mono ?_;rintro r u7 ⟨rfl,hb⟩;have BD:=bO (BD.o.1.trans (hb.mono BD.o.1.size)) (BD.o.2.1.below hb BD.o.2.1.lt) (BD.o.r2.below hb BD.o.r2.lt);clear hb;go_wp2_with fail;refine(B1.o u7 BD.o.1 g GG.o.1 BD.o.2.1).mono ?_;rintro r u8 ⟨rfl,hb⟩;have BD:=aJ (But.below BD.o.1 hb BD.o.1.size GG.o.1) (show fK u8 h (ys++[4634696597773484032,4634766966517661696]) by unfold fK;rw[hb.block _ BD.o.r2.lt (ky GG.o.2)];exact BD.o.r2);clear hb;go_wp2_with fail;refine(B2.o u8 BD.o.1 h (jf (fu GG.o.1 GG.o.2)) BD.o.2).mono ?_;rintro r u9 ⟨rfl,hb⟩;have BD:=ak (But.below BD.o.1 hb BD.o.1.size (jf (fu GG.o.1 GG.o.2)));clear hb;go_wp2_with fail;refine(R1.o u9 BD.o).mono ?_;rintro r u10 ⟨rfl,hb⟩;have BD:=ak (BD.o.trans (hb.mono BD.o.size));clear hb;go_wp2_with fail;refine(R2.o u10 BD.o).mono ?_;rintro r Eo ⟨rfl,hb⟩;have BD:=ak (BD.o.trans (hb.mono BD.o.size));clear hb;go_wp2_with fail;refine(R3.o Eo BD.o).mono ?_;rintro r ZG ⟨rfl,hb⟩;have BD:=ak (BD.o.trans (hb.mono BD.o.size));clear hb;go_wp2_with fail;refine(R4.o ZG BD.o).mono ?_;rintro r Ep ⟨rfl,hb⟩;have BD:=ak (BD.o.trans (hb.mono BD.o.size));clear hb;go_wp2_with fail;refine(HQ.o X1 Ep).mono ?_;rintro r XO ⟨rfl,hq⟩;rw[hq,beq_self_eq_true];clear hq XO;go_wp2_with fail;refine(HQ.o X2 Ep).mono ?_;rintro r XO ⟨rfl,hq⟩;rw[hq,beq_self_eq_true];clear hq XO;go_wp2_with fail;refine(HQ.o X3 Ep).mono ?_;rintro r XO ⟨rfl,hq⟩;rw[hq,beq_self_eq_true];clear hq XO;go_wp2_with fail;refine(HQ.o X4 Ep).mono ?_;rintro r XO ⟨rfl,hq⟩;rw[hq,beq_self_eq_true];clear hq XO;go_wp2;go_ret;exact⟨rfl,BD.o⟩
end
end Go.Proofs.YteginbngplldaaaGreatDoor
