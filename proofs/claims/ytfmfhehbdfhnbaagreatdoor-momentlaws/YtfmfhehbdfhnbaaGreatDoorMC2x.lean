import Derived.Test.YtfmfhehbdfhnbaaGreatDoorMO10x
import Derived.Deep.Cut
set_option linter.unusedVariables false
set_option linter.unusedSimpArgs false
set_option maxHeartbeats 16000000
set_option maxRecDepth 20000
namespace Go.Proofs.YtfmfhehbdfhnbaaGreatDoor
namespace J
end J
section
open Go Go.RowKit J
structure Gv (u v:World) (n k h0 h1 h2 h3 gx:Nat) (ax:Option Addr) (cx:Nat) (A:Nat->Option (Bool×Nat×Int)) (oN oS oL:Option (Bool×Nat×Int)):Prop where
 n0:Lo v h0 oN
 x0:Bl v h1 74 [.slice (some ⟨gx,0,none⟩) n n,.bool (dN oS),.slice ax (ws (dX oS)).length cx,.int .i64 (dE oS)]
 dr:Dr v gx n n A
 nt:Nt 0 v (.slice ax (ws (dX oS)).length cx) (dX oS)
 k0:Bl v h2 3 [.int .i64 (k:Nat)]
 l0:Lo v h3 oL
 z0:Lo v u.heap.size iY
 b:Below u.heap.size u v
theorem Gv.below{u v y:World}{n k h0 h1 h2 h3 gx:Nat}{ax:Option Addr}{cx:Nat}{A:Nat->Option (Bool×Nat×Int)}{oN oS oL:Option (Bool×Nat×Int)}(h:Gv u v n k h0 h1 h2 h3 gx ax cx A oN oS oL)(hb:Below v.heap.size v y):Gv u y n k h0 h1 h2 h3 gx ax cx A oN oS oL :=
 ⟨h.n0.below hb,h.x0.below hb h.x0.lt,h.dr.below hb,h.nt.below hb,h.k0.below hb h.k0.lt,h.l0.below hb,h.z0.below hb,h.b.trans (hb.mono h.b.size)⟩
theorem Gv.other{u v:World}{n k h0 h1 h2 h3 gx g:Nat}{ax:Option Addr}{cx:Nat}{A:Nat->Option (Bool×Nat×Int)}{oN oS oL q:Option (Bool×Nat×Int)}(h:Gv u v n k h0 h1 h2 h3 gx ax cx A oN oS oL)(hL:Lo v g q)(hg:u.heap.size<g)(H:h0<u.heap.size/\h1<u.heap.size/\h2<u.heap.size/\h3<u.heap.size/\gx<u.heap.size)(x y z:Value):Gv u (dM v g x y z) n k h0 h1 h2 h3 gx ax cx A oN oS oL:=by
 have hb:=mG g v x y z;obtain⟨a0,c0,hD,hM⟩:=hL;exact⟨h.n0.other ⟨a0,c0,hD,hM⟩ ae _ _ _,h.x0.but hb ae,h.dr.but (T:=25) (L:=[_,_,_]) hb hD ae aj,h.nt.uj hD _ _ _,h.k0.but hb ae,h.l0.other ⟨a0,c0,hD,hM⟩ ae _ _ _,h.z0.other ⟨a0,c0,hD,hM⟩ ae _ _ _,fB h.b h.b.size ae _ _ _⟩
theorem Gw (u:World) (n k j h0 h1 h2 h3 gx:Nat) (ax:Option Addr) (cx:Nat) (cb:Int) (A:Nat->Option (Bool×Nat×Int)) (oN oS oL oR1 oP oW oC oR2 oX oA:Option (Bool×Nat×Int)) (hT:dU u) (hj:j<=k) (hk:k<=4)
 (FF:Aside (Fm oR1/\Fm oP/\Fm oW/\Fm oC/\Fm oR2/\Fm oX/\Fm oA)) (EE:Aside (fu oR1 oP=oW/\fu oW oR2=oX/\fu oC oX=oA))
 (HR1:Hid (∀ (v:World) (a:Option Addr) (d:Nat),dU v->Nt 0 v (.slice a (ws (dX oN)).length d) (dX oN)->Calls Tryz.prog 47 #[.agg #[.bool (dN oN),.slice a (ws (dX oN)).length d,.int .i64 (dE oN)],.int .i64 (j:Nat)] v fun r w'=>bI 0 w' r oR1/\Below v.heap.size v w'))
 (HPw:Hid (∀ v:World,dU v->Rr v (.agg #[.slice (some ⟨gx,0,none⟩) n n,.bool (dN oS),.slice ax (ws (dX oS)).length cx,.int .i64 (dE oS)]) n A oS->Calls Tryz.prog 88 #[.agg #[.slice (some ⟨gx,0,none⟩) n n,.bool (dN oS),.slice ax (ws (dX oS)).length cx,.int .i64 (dE oS)],.int .i64 (j:Nat)] v fun r w'=>bI 0 w' r oP/\Below v.heap.size v w'))
 (HOv:Hid (∀ v:World,Calls Tryz.prog 89 #[.int .i64 (k:Nat),.int .i64 (j:Nat)] v fun r w'=>r=.returned (.int .i64 cb)/\w'=v))
 (HI:Hid (∀ v:World,dU v->Calls Tryz.prog 48 #[.int .i64 cb] v fun r w'=>bI 0 w' r oC/\Below v.heap.size v w'))
 (HR2:Hid (∀ (v:World) (a:Option Addr) (d:Nat),dU v->Nt 0 v (.slice a (ws (dX oL)).length d) (dX oL)->Calls Tryz.prog 47 #[.agg #[.bool (dN oL),.slice a (ws (dX oL)).length d,.int .i64 (dE oL)],.int .i64 ((k:Int)-(j:Int))] v fun r w'=>bI 0 w' r oR2/\Below v.heap.size v w'))
 (B1:Lo u h0 oN) (B2:Bl u h1 74 [.slice (some ⟨gx,0,none⟩) n n,.bool (dN oS),.slice ax (ws (dX oS)).length cx,.int .i64 (dE oS)]) (B3:Dr u gx n n A) (B4:Nt 0 u (.slice ax (ws (dX oS)).length cx) (dX oS)) (B5:Bl u h2 3 [.int .i64 (k:Nat)]) (B6:Lo u h3 oL) :
 Calls Tryz.prog 87 #[.int .i64 (j:Nat),.pointer (some ⟨h0,0,none⟩),.pointer (some ⟨h1,0,none⟩),.pointer (some ⟨h2,0,none⟩),.pointer (some ⟨h3,0,none⟩)] u fun r w'=>bI 0 w' r oA/\Below u.heap.size u w':=by
 obtain⟨W,hW⟩:=ah (u.alloc (Obj.cells zD3 25));have HL:Aside (h0<u.heap.size/\h1<u.heap.size/\h2<u.heap.size/\h3<u.heap.size/\gx<u.heap.size):=⟨B1.lt,B2.lt,B5.lt,B6.lt,B3.lt⟩
 have H0:Aside (Gv u W n k h0 h1 h2 h3 gx ax cx A oN oS oL):=by
  rw[hW];exact⟨B1.below (af _ _),B2.alloc _,B3.below (af _ _),B4.below (af _ _),B5.alloc _,B6.below (af _ _),Lo.zero _,af _ _⟩
 have HW:=aA hW;have HT:=aA hT;have hwr:IntKind.i64.wrap ((k:Int)-(j:Int))=(k:Int)-(j:Int):=by rw[Em];omega
 clear hW hT B1 B2 B3 B4 B5 B6;go_enter Tryz.func87,Tryz.ntmps87
 go_upto_region 1 with fail
 rw[<-HW.o];clear HW
 go_cut [7] from 8 to 14 (fun q wx=>∃ g7:Nat,q=.pointer (some ⟨g7,0,none⟩)/\Aside (Lo wx g7 oW/\Gv u wx n k h0 h1 h2 h3 gx ax cx A oN oS oL/\u.heap.size<g7))
 case first =>
  have hdr:=(aD W.heap.size W).drew;obtain⟨p1,q1,D1,M1⟩:=(H0.o.below hdr).n0;have kS:Aside (W.drew.cell? ⟨h0,0,none⟩=some (.bool (dN oN))/\W.drew.cell? ⟨h0,1,none⟩=some (.slice p1 (ws (dX oN)).length q1)/\W.drew.cell? ⟨h0,2,none⟩=some (.int .i64 (dE oN))/\W.drew.cell? ⟨h1,0,none⟩=some (.slice (some ⟨gx,0,none⟩) n n)/\W.drew.cell? ⟨h1,1,none⟩=some (.bool (dN oS))/\W.drew.cell? ⟨h1,2,none⟩=some (.slice ax (ws (dX oS)).length cx)/\W.drew.cell? ⟨h1,3,none⟩=some (.int .i64 (dE oS))):=⟨D1.facts.1,D1.facts.2.1,D1.facts.2.2.1,(H0.o.below hdr).x0.cell 0 _ rfl,(H0.o.below hdr).x0.cell 1 _ rfl,(H0.o.below hdr).x0.cell 2 _ rfl,(H0.o.below hdr).x0.cell 3 _ rfl⟩;have BD:=aP (H0.o.below hdr) M1;clear hdr D1 M1 H0;refine fE (fun w'=>w'.cell? ⟨h0,0,none⟩=some (.bool (dN oN))/\w'.cell? ⟨h0,1,none⟩=some (.slice p1 (ws (dX oN)).length q1)/\w'.cell? ⟨h0,2,none⟩=some (.int .i64 (dE oN))/\w'.cell? ⟨h1,0,none⟩=some (.slice (some ⟨gx,0,none⟩) n n)/\w'.cell? ⟨h1,1,none⟩=some (.bool (dN oS))/\w'.cell? ⟨h1,2,none⟩=some (.slice ax (ws (dX oS)).length cx)/\w'.cell? ⟨h1,3,none⟩=some (.int .i64 (dE oS))) 8 df ?_;obtain⟨Wd,hWd⟩:=ah (W.drew);rw[<-hWd] at BD kS |-;clear hWd
  refine tk 0 [2,6] rfl kS.o ?_;try simp only[Act.put,sa,sb,sc]
  refine tk 1 [2,6] rfl kS.o ?_;try simp only[Act.put,sa,sb,sc]
  refine tk 3 [5,6] rfl kS.o ?_;try simp only[Act.put,sa,sb,sc]
  refine tk 4 [5,6] rfl kS.o ?_;try simp only[Act.put,sa,sb,sc]
  refine dK (i:=2) (j:=7) df rfl rfl (fun K' hK=>?_) (fun K' hK=>?_)
  · skip;have C:=hid (HR1.o Wd p1 q1 (HT.o.belows BD.o.1.b) BD.o.2);go_simp;refine C.o.mono ?_;rintro r u1 ⟨hd,hb⟩;obtain⟨a1,c1,rfl,hN⟩:=hd.aL;have BD:=dC (BD.o.1.below hb) (BD.o.2.below hb) hN;have kS:=aA (ck hb kS.o fun h=>Bb hb h);clear hb hd hN C;dsimp only;refine hK.out _ _ (fun _=>kS.o) ?_;clear hK K'
    try simp only[Act.put,sa,sb,sc]
    refine dK (i:=5) (j:=7) df rfl rfl (fun K' hK=>?_) (fun K' hK=>?_)
    · skip;have C:=hid (HPw.o u1 (HT.o.belows BD.o.1.b) ⟨gx,ax,cx,rfl,BD.o.1.dr,BD.o.1.nt⟩);go_simp;refine C.o.mono ?_;rintro r u2 ⟨hd,hb⟩;obtain⟨a2,c2,rfl,hN⟩:=hd.aL;have BD:=ic (BD.o.1.below hb) (BD.o.2.1.below hb) (BD.o.r2.below hb) hN;have kS:=aA (ck hb kS.o fun h=>Bb hb h);clear hb hd hN C;dsimp only;refine hK.out _ _ (fun _=>kS.o) ?_;clear hK K'
      try simp only[Act.put,sa,sb,sc]
      refine dK (i:=6) (j:=7) df rfl rfl (fun K' hK=>?_) (fun K' hK=>?_)
      · skip;have C:=hid (iL FF.o.1 FF.o.2.1 FF.o.r2.1 BD.o.r2.1 BD.o.r3 (HT.o.belows BD.o.1.b) EE.o.1);go_simp;refine C.o.mono ?_;rintro r u3 ⟨hd,hb⟩;obtain⟨a3,c3,rfl,hN⟩:=hd.aL;have BD:=fO (BD.o.1.below hb) (BD.o.2.1.below hb) (BD.o.r2.1.below hb) (BD.o.r3.below hb) hN;have kS:=aA (ck hb kS.o fun h=>Bb hb h);clear hb hd hN C;dsimp only;refine hK.out _ _ (fun _=>kS.o) ?_;clear hK K'
        try simp only[Act.put,sa,sb,sc]
        refine au (i:=7) df rfl (fun K' hK=>?_);go_simp;obtain⟨g4,hg4⟩:=ah (u3.heap.size);obtain⟨V4,Eb⟩:=ah (u3.alloc (Obj.cells zD3 25));have hb:Below u3.heap.size u3 V4:=by rw[Eb];exact af _ _
        have hZ:Lo V4 g4 iY:=by rw[Eb,hg4];exact Lo.zero _
        have BD:=nU (BD.o.1.below hb) (BD.o.2.1.below hb) (BD.o.r2.1.below hb) (BD.o.r3.1.below hb) (BD.o.r4.below hb) hZ (show u.heap.size<g4 by rw[hg4];exact BD.o.1.z0.lt);have kS:=aA (ck hb kS.o fun h=>Bb hb h);have HV:=(aP Eb hg4);clear hZ hb Eb hg4;refine hK.out _ _ (fun _=>by rw[<-HV.o.1];exact kS.o) ?_;clear hK K';rw[<-HV.o.1,<-HV.o.2];clear HV
        try simp only[Act.put,sa,sb,sc]
        obtain⟨zp,zq,DZ,MZ⟩:=BD.o.r5.1;obtain⟨z0,z1,z2,gQ,gT,gU⟩:=DZ.facts;clear DZ MZ;refine au (i:=8) df rfl (fun K' hK=>?_);go_simp;refine hK.out _ _ (fun h=>absurd h aj) ?_;clear hK K' z0 z1 z2 gQ gT gU kS;refine aS df ?_ _;go_wp2_with fail
        go_meet
        case rel=>exact⟨g4,rfl,BD.o.r5.1.set BD.o.r4.1,BD.o.1.other BD.o.r5.1 BD.o.r6 HL.o _ _ _,BD.o.r6⟩
      · skip;go_simp;obtain⟨g5,hg5⟩:=ah (u2.heap.size);obtain⟨V5,K8⟩:=ah (u2.alloc (Obj.cells zD3 25));have hb:Below u2.heap.size u2 V5:=by rw[K8];exact af _ _
        have hZ:Lo V5 g5 iY:=by rw[K8,hg5];exact Lo.zero _
        have BD:=jJ (BD.o.1.below hb) (BD.o.2.1.below hb) (BD.o.r2.1.below hb) (BD.o.r3.below hb) hZ (show u.heap.size<g5 by rw[hg5];exact BD.o.1.z0.lt);have kS:=aA (ck hb kS.o fun h=>Bb hb h);have HV:=(aP K8 hg5);clear hZ hb K8 hg5;refine hK.out _ _ (fun _=>by rw[<-HV.o.1];exact kS.o) ?_;clear hK K';rw[<-HV.o.1,<-HV.o.2];clear HV
        try simp only[Act.put,sa,sb,sc]
        refine au (i:=6) df rfl (fun K' hK=>?_);have C:=hid (iL FF.o.1 FF.o.2.1 FF.o.r2.1 BD.o.r2.1 BD.o.r3.1 (HT.o.belows BD.o.1.b) EE.o.1);go_simp;refine C.o.mono ?_;rintro r u6 ⟨hd,hb⟩;obtain⟨a6,c6,rfl,hN⟩:=hd.aL;have BD:=nU (BD.o.1.below hb) (BD.o.2.1.below hb) (BD.o.r2.1.below hb) (BD.o.r3.1.below hb) (BD.o.r4.1.below hb) BD.o.r5 hN;have kS:=aA (ck hb kS.o fun h=>Bb hb h);clear hb hd hN C;dsimp only;refine hK.out _ _ (fun _=>kS.o) ?_;clear hK K'
        try simp only[Act.put,sa,sb,sc]
        obtain⟨zp,zq,DZ,MZ⟩:=BD.o.r4.1;obtain⟨z0,z1,z2,gQ,gT,gU⟩:=DZ.facts;clear DZ MZ;refine au (i:=8) df rfl (fun K' hK=>?_);go_simp;refine hK.out _ _ (fun h=>absurd h aj) ?_;clear hK K' z0 z1 z2 gQ gT gU kS;refine aS df ?_ _;go_wp2_with fail
        go_meet
        case rel=>exact⟨g5,rfl,BD.o.r4.1.set BD.o.r6,BD.o.1.other BD.o.r4.1 BD.o.r5.1 HL.o _ _ _,BD.o.r5.1⟩
    · skip;go_simp;obtain⟨g7,sN⟩:=ah (u1.heap.size);obtain⟨V7,K9⟩:=ah (u1.alloc (Obj.cells zD3 25));have hb:Below u1.heap.size u1 V7:=by rw[K9];exact af _ _
      have hZ:Lo V7 g7 iY:=by rw[K9,sN];exact Lo.zero _
      have BD:=fO (BD.o.1.below hb) (BD.o.2.1.below hb) (BD.o.r2.below hb) hZ (show u.heap.size<g7 by rw[sN];exact BD.o.1.z0.lt);have kS:=aA (ck hb kS.o fun h=>Bb hb h);have HV:=(aP K9 sN);clear hZ hb K9 sN;refine hK.out _ _ (fun _=>by rw[<-HV.o.1];exact kS.o) ?_;clear hK K';rw[<-HV.o.1,<-HV.o.2];clear HV
      try simp only[Act.put,sa,sb,sc]
      refine au (i:=5) df rfl (fun K' hK=>?_);have C:=hid (HPw.o V7 (HT.o.belows BD.o.1.b) ⟨gx,ax,cx,rfl,BD.o.1.dr,BD.o.1.nt⟩);go_simp;refine C.o.mono ?_;rintro r u8 ⟨hd,hb⟩;obtain⟨a8,c8,rfl,hN⟩:=hd.aL;have BD:=jJ (BD.o.1.below hb) (BD.o.2.1.below hb) (BD.o.r2.1.below hb) (BD.o.r3.1.below hb) BD.o.r4 hN;have kS:=aA (ck hb kS.o fun h=>Bb hb h);clear hb hd hN C;dsimp only;refine hK.out _ _ (fun _=>kS.o) ?_;clear hK K'
      try simp only[Act.put,sa,sb,sc]
      refine au (i:=6) df rfl (fun K' hK=>?_);have C:=hid (iL FF.o.1 FF.o.2.1 FF.o.r2.1 BD.o.r2.1 BD.o.r5 (HT.o.belows BD.o.1.b) EE.o.1);go_simp;refine C.o.mono ?_;rintro r u9 ⟨hd,hb⟩;obtain⟨a9,c9,rfl,hN⟩:=hd.aL;have BD:=nU (BD.o.1.below hb) (BD.o.2.1.below hb) (BD.o.r2.1.below hb) (BD.o.r3.1.below hb) BD.o.r4.1 (BD.o.r5.below hb) hN;have kS:=aA (ck hb kS.o fun h=>Bb hb h);clear hb hd hN C;dsimp only;refine hK.out _ _ (fun _=>kS.o) ?_;clear hK K'
      try simp only[Act.put,sa,sb,sc]
      obtain⟨zp,zq,DZ,MZ⟩:=BD.o.r3.1;obtain⟨z0,z1,z2,gQ,gT,gU⟩:=DZ.facts;clear DZ MZ;refine au (i:=8) df rfl (fun K' hK=>?_);go_simp;refine hK.out _ _ (fun h=>absurd h aj) ?_;clear hK K' z0 z1 z2 gQ gT gU kS;refine aS df ?_ _;go_wp2_with fail
      go_meet
      case rel=>exact⟨g7,rfl,BD.o.r3.1.set BD.o.r6,BD.o.1.other BD.o.r3.1 BD.o.r4.1 HL.o _ _ _,BD.o.r4.1⟩
  · skip;go_simp;obtain⟨g10,nR⟩:=ah (Wd.heap.size);obtain⟨Tp,uC⟩:=ah (Wd.alloc (Obj.cells zD3 25));have hb:Below Wd.heap.size Wd Tp:=by rw[uC];exact af _ _
    have hZ:Lo Tp g10 iY:=by rw[uC,nR];exact Lo.zero _
    have BD:=ic (BD.o.1.below hb) (BD.o.2.below hb) hZ (show u.heap.size<g10 by rw[nR];exact BD.o.1.z0.lt);have kS:=aA (ck hb kS.o fun h=>Bb hb h);have HV:=(aP uC nR);clear hZ hb uC nR;refine hK.out _ _ (fun _=>by rw[<-HV.o.1];exact kS.o) ?_;clear hK K';rw[<-HV.o.1,<-HV.o.2];clear HV
    try simp only[Act.put,sa,sb,sc]
    refine au (i:=2) df rfl (fun K' hK=>?_);have C:=hid (HR1.o Tp p1 q1 (HT.o.belows BD.o.1.b) BD.o.2.1);go_simp;refine C.o.mono ?_;rintro r El ⟨hd,hb⟩;obtain⟨a11,c11,rfl,hN⟩:=hd.aL;have BD:=fO (BD.o.1.below hb) (BD.o.2.1.below hb) (BD.o.r2.1.below hb) BD.o.r3 hN;have kS:=aA (ck hb kS.o fun h=>Bb hb h);clear hb hd hN C;dsimp only;refine hK.out _ _ (fun _=>kS.o) ?_;clear hK K'
    try simp only[Act.put,sa,sb,sc]
    refine au (i:=5) df rfl (fun K' hK=>?_);have C:=hid (HPw.o El (HT.o.belows BD.o.1.b) ⟨gx,ax,cx,rfl,BD.o.1.dr,BD.o.1.nt⟩);go_simp;refine C.o.mono ?_;rintro r u12 ⟨hd,hb⟩;obtain⟨a12,c12,rfl,hN⟩:=hd.aL;have BD:=jJ (BD.o.1.below hb) (BD.o.2.1.below hb) (BD.o.r2.1.below hb) BD.o.r3.1 (BD.o.r4.below hb) hN;have kS:=aA (ck hb kS.o fun h=>Bb hb h);clear hb hd hN C;dsimp only;refine hK.out _ _ (fun _=>kS.o) ?_;clear hK K'
    try simp only[Act.put,sa,sb,sc]
    refine au (i:=6) df rfl (fun K' hK=>?_);have C:=hid (iL FF.o.1 FF.o.2.1 FF.o.r2.1 BD.o.r4.1 BD.o.r5 (HT.o.belows BD.o.1.b) EE.o.1);go_simp;refine C.o.mono ?_;rintro r JC ⟨hd,hb⟩;obtain⟨a13,c13,rfl,hN⟩:=hd.aL;have BD:=nU (BD.o.1.below hb) (BD.o.2.1.below hb) (BD.o.r2.1.below hb) BD.o.r3.1 (BD.o.r4.1.below hb) (BD.o.r5.below hb) hN;have kS:=aA (ck hb kS.o fun h=>Bb hb h);clear hb hd hN C;dsimp only;refine hK.out _ _ (fun _=>kS.o) ?_;clear hK K'
    try simp only[Act.put,sa,sb,sc]
    obtain⟨zp,zq,DZ,MZ⟩:=BD.o.r2.1;obtain⟨z0,z1,z2,gQ,gT,gU⟩:=DZ.facts;clear DZ MZ;refine au (i:=8) df rfl (fun K' hK=>?_);go_simp;refine hK.out _ _ (fun h=>absurd h aj) ?_;clear hK K' z0 z1 z2 gQ gT gU kS;refine aS df ?_ _;go_wp2_with fail
    go_meet
    case rel=>exact⟨g10,rfl,BD.o.r2.1.set BD.o.r6,BD.o.1.other BD.o.r2.1 BD.o.r3.1 HL.o _ _ _,BD.o.r3.1⟩
 obtain⟨g7,rfl,K1⟩:=hcut;obtain⟨U,hU⟩:=ah wc;rw[<-hU] at K1 |-;clear hU H0 HR1 HPw;have hdr:=(aD U.heap.size U).drew;obtain⟨p7,q7,D7,M7⟩:=K1.o.1.below hdr;obtain⟨p3,q3,D3,M3⟩:=(K1.o.2.1.below hdr).l0;have kS:Aside (U.drew.cell? ⟨h2,0,none⟩=some (.int .i64 (k:Nat))/\U.drew.cell? ⟨g7,0,none⟩=some (.bool (dN oW))/\U.drew.cell? ⟨g7,1,none⟩=some (.slice p7 (ws (dX oW)).length q7)/\U.drew.cell? ⟨g7,2,none⟩=some (.int .i64 (dE oW))/\U.drew.cell? ⟨h3,0,none⟩=some (.bool (dN oL))/\U.drew.cell? ⟨h3,1,none⟩=some (.slice p3 (ws (dX oL)).length q3)/\U.drew.cell? ⟨h3,2,none⟩=some (.int .i64 (dE oL))):=⟨(K1.o.2.1.below hdr).k0.cell 0 _ rfl,D7.facts.1,D7.facts.2.1,D7.facts.2.2.1,D3.facts.1,D3.facts.2.1,D3.facts.2.2.1⟩;have BD:=dC (K1.o.2.1.below hdr) M7 M3;have C1:=hid (HOv.o U.drew);clear D7 D3 M7 M3
 go_upto_region 2 with fail
 go_region_held3 (fun w'=>w'.cell? ⟨h2,0,none⟩=some (.int .i64 (k:Nat))/\w'.cell? ⟨g7,0,none⟩=some (.bool (dN oW))/\w'.cell? ⟨g7,1,none⟩=some (.slice p7 (ws (dX oW)).length q7)/\w'.cell? ⟨g7,2,none⟩=some (.int .i64 (dE oW))/\w'.cell? ⟨h3,0,none⟩=some (.bool (dN oL))/\w'.cell? ⟨h3,1,none⟩=some (.slice p3 (ws (dX oL)).length q3)/\w'.cell? ⟨h3,2,none⟩=some (.int .i64 (dE oL))) (first | with_reducible exact kS.o | with_reducible exact kT.o) (first
  | (go_at_call 89
     with_reducible refine C1.o.mono ?_
     rintro r v ⟨rfl,hv⟩;rw[hv];have C2:=hid (HI.o U.drew (HT.o.belows BD.o.1.b))
     clear hv v C1)
  | (go_at_call 48
     with_reducible refine C2.o.mono ?_
     rintro r v1 ⟨hd,hb⟩;obtain⟨a1,c1,rfl,hN⟩:=hd.aL;have BD:=ic (BD.o.1.below hb) (BD.o.2.1.below hb) (BD.o.r2.below hb) hN;have kS:=aA (ck hb kS.o fun h=>Bb hb h);have C3:=hid (HR2.o v1 p3 q3 (HT.o.belows BD.o.1.b) BD.o.r2.1)
     clear hb hd hN C2)
  | (go_at_call 47
     with_reducible refine C3.o.mono ?_
     rintro r v2 ⟨hd,hb⟩;obtain⟨a3,c3,rfl,hN⟩:=hd.aL;have BD:=fO (BD.o.1.below hb) (BD.o.2.1.below hb) (BD.o.r2.1.below hb) (BD.o.r3.below hb) hN;have kS:=aA (ck hb kS.o fun h=>Bb hb h);have C4:=hid (iL FF.o.r2.1 FF.o.r4.1 FF.o.r5.1 BD.o.2.1 BD.o.r4 (HT.o.belows BD.o.1.b) EE.o.2.1)
     clear hb hd hN C3)
  | (go_at_call 51
     with_reducible refine C4.o.mono ?_
     rintro r v3 ⟨hd,hb⟩;obtain⟨a4,c4,rfl,hN⟩:=hd.aL;have BD:=fO (BD.o.1.below hb) (BD.o.2.1.below hb) (BD.o.r2.1.below hb) (BD.o.r3.1.below hb) hN;have kS:=aA (ck hb kS.o fun h=>Bb hb h);have C5:=hid (iL FF.o.r3.1 FF.o.r5.1 FF.o.r6 BD.o.r3.1 BD.o.r4 (HT.o.belows BD.o.1.b) EE.o.r2)
     clear hb hd hN C4)
  | (go_at_call 51
     with_reducible refine C5.o.mono ?_
     rintro r v4 ⟨hd,hb⟩;obtain⟨a5,c5,rfl,hN⟩:=hd.aL;have BD:=ic (BD.o.1.below hb) (BD.o.2.1.below hb) (BD.o.r2.1.below hb) hN;have kS:=aA (ck hb kS.o fun h=>Bb hb h);have kT:=nU (oF (g:=u.heap.size) (x:=.bool (dN oA)) (y:=.slice a5 (ws (dX oA)).length c5) (z:=.int .i64 (dE oA)) kS.o.1 (fo HL.o.r2.1)) (oF (g:=u.heap.size) (x:=.bool (dN oA)) (y:=.slice a5 (ws (dX oA)).length c5) (z:=.int .i64 (dE oA)) kS.o.2.1 (mM K1.o.r2)) (oF (g:=u.heap.size) (x:=.bool (dN oA)) (y:=.slice a5 (ws (dX oA)).length c5) (z:=.int .i64 (dE oA)) kS.o.r2.1 (mM K1.o.r2)) (oF (g:=u.heap.size) (x:=.bool (dN oA)) (y:=.slice a5 (ws (dX oA)).length c5) (z:=.int .i64 (dE oA)) kS.o.r3.1 (mM K1.o.r2)) (oF (g:=u.heap.size) (x:=.bool (dN oA)) (y:=.slice a5 (ws (dX oA)).length c5) (z:=.int .i64 (dE oA)) kS.o.r4.1 (fo HL.o.r3.1)) (oF (g:=u.heap.size) (x:=.bool (dN oA)) (y:=.slice a5 (ws (dX oA)).length c5) (z:=.int .i64 (dE oA)) kS.o.r5.1 (fo HL.o.r3.1)) (oF (g:=u.heap.size) (x:=.bool (dN oA)) (y:=.slice a5 (ws (dX oA)).length c5) (z:=.int .i64 (dE oA)) kS.o.r6 (fo HL.o.r3.1));obtain⟨zp,zq,DZ,MZ⟩:=BD.o.1.z0;obtain⟨z0,z1,z2,gQ,gT,gU⟩:=DZ.facts;clear DZ MZ
     clear hb hd hN C5))
 go_wp2;exact jT Tryz.results87 rfl BD.o.1.z0 BD.o.1.b (aC _) BD.o.r3
structure Ec (w v:World) (n k gx:Nat) (ax:Option Addr) (cx:Nat) (A:Nat->Option (Bool×Nat×Int)) (oS:Option (Bool×Nat×Int)):Prop where
 x0:Bl v w.heap.size 74 [.slice (some ⟨gx,0,none⟩) n n,.bool (dN oS),.slice ax (ws (dX oS)).length cx,.int .i64 (dE oS)]
 k0:Bl v (w.heap.size+1) 3 [.int .i64 (k:Nat)]
 z0:Lo v (w.heap.size+2) iY
 dr:Dr v gx n n A
 nt:Nt 0 v (.slice ax (ws (dX oS)).length cx) (dX oS)
 b:Below w.heap.size w v
theorem Ec.below{w v y:World}{n k gx:Nat}{ax:Option Addr}{cx:Nat}{A:Nat->Option (Bool×Nat×Int)}{oS:Option (Bool×Nat×Int)}(h:Ec w v n k gx ax cx A oS)(hb:Below v.heap.size v y):Ec w y n k gx ax cx A oS :=
 ⟨h.x0.below hb h.x0.lt,h.k0.below hb h.k0.lt,h.z0.below hb,h.dr.below hb,h.nt.below hb,h.b.trans (hb.mono h.b.size)⟩
theorem Ec.other{w v:World}{n k gx g:Nat}{ax:Option Addr}{cx:Nat}{A:Nat->Option (Bool×Nat×Int)}{oS q:Option (Bool×Nat×Int)}(h:Ec w v n k gx ax cx A oS)(hL:Lo v g q)(hg:w.heap.size+2<g)(hx:gx<w.heap.size)(x y z:Value):Ec w (dM v g x y z) n k gx ax cx A oS:=by
 have hb:=mG g v x y z;obtain⟨a0,c0,hD,hM⟩:=hL;exact⟨h.x0.but hb ae,h.k0.but hb ae,h.z0.other ⟨a0,c0,hD,hM⟩ ae _ _ _,h.dr.but (T:=25) (L:=[_,_,_]) hb hD ae aj,h.nt.uj hD _ _ _,fB h.b h.b.size ae _ _ _⟩
theorem Lo.xx{w:World}{g:Nat}{o:Option (Bool×Nat×Int)}{v:Value}{X:Nat}(h:Lo w g o)(hN:Nt 0 w v X)(x y z:Value):Nt 0 (dM w g x y z) v X:=by
 obtain⟨a,c,hD,_⟩:=h;exact hN.uj hD _ _ _
theorem JD (w:World) (n k gx:Nat) (ax:Option Addr) (cx:Nat) (A:Nat->Option (Bool×Nat×Int)) (oS oN oL oR:Option (Bool×Nat×Int)) (hT:dU w) (hk:k<=4) (hn:n<=65536)
 (HI:Hid (∀ v:World,dU v->Calls Tryz.prog 48 #[.int .i64 (n:Nat)] v fun r w'=>bI 0 w' r oN/\Below v.heap.size v w'))
 (Pj:Hid (∀ (v:World) (a:Option Addr) (d:Nat),dU v->Nt 0 v (.slice a (ws (dX oS)).length d) (dX oS)->Calls Tryz.prog 86 #[.agg #[.bool (dN oS),.slice a (ws (dX oS)).length d,.int .i64 (dE oS)]] v fun r w'=>bI 0 w' r oL/\Below v.heap.size v w'))
 (HC:Hid (∀ (u:World) (g5 g6:Nat),dU u->Lo u g5 oN->Lo u g6 oL->Ec w u n k gx ax cx A oS->Calls Tryz.prog 84 #[.int .i64 ((k+1:Nat):Int),.func (.func 87) #[] #[.pointer (some ⟨g5,0,none⟩),.pointer (some ⟨w.heap.size,0,none⟩),.pointer (some ⟨w.heap.size+1,0,none⟩),.pointer (some ⟨g6,0,none⟩)]] u fun r w'=>bI 0 w' r oR/\Below u.heap.size u w'))
 (B3:Dr w gx n n A) (B4:Nt 0 w (.slice ax (ws (dX oS)).length cx) (dX oS)) :
 Calls Tryz.prog 46 #[.agg #[.slice (some ⟨gx,0,none⟩) n n,.bool (dN oS),.slice ax (ws (dX oS)).length cx,.int .i64 (dE oS)],.int .i64 (k:Nat)] w fun r w'=>bI 0 w' r oR/\Below w.heap.size w w':=by
 obtain⟨W,hW⟩:=ah (((w.alloc (Obj.cells #[.slice (some ⟨gx,0,none⟩) n n,.bool (dN oS),.slice ax (ws (dX oS)).length cx,.int .i64 (dE oS)] 74)).alloc (Obj.cells #[.int .i64 (k:Nat)] 3)).alloc (Obj.cells zD3 25));have HL:=aA B3.lt
 have H0:Aside (Ec w W n k gx ax cx A oS):=by
  have hbW:Below w.heap.size w W:=by rw[hW];exact((af _ _).trans ((af _ _).mono aQ)).trans ((af _ _).mono (by simp;omega))
  refine⟨?_,?_,?_,B3.below hbW,B4.below hbW,hbW⟩
  · exact zE
  · exact yi
  · exact ye
 have HW:=aA hW;have HT:=aA hT;have hwr:IntKind.i64.wrap ((k:Int)+1)=((k+1:Nat):Int):=by rw[Em];omega
 have hmf:∀ (fn:Fn) (first cap:Array Value) (w:World),(Instr.makeFunc fn first cap).run Tryz.prog w=.ok (.func fn first cap) w:=fun _ _ _ _=>rfl;clear hW hT B3 B4;go_enter Tryz.func46,Tryz.ntmps46
 go_upto_region 1 with fail
 rw[<-HW.o];clear HW
 go_cut [5,6] from 7 to 13 (fun q q' wx=>∃ g5 g6:Nat,q=.pointer (some ⟨g5,0,none⟩)/\q'=.pointer (some ⟨g6,0,none⟩)/\Aside (Lo wx g5 oN/\Lo wx g6 oL/\Ec w wx n k gx ax cx A oS))
 case first =>
  have hdr:=(aD W.heap.size W).drew;have kS:Aside (W.drew.cell? ⟨w.heap.size,0,none⟩=some (.slice (some ⟨gx,0,none⟩) n n)/\W.drew.cell? ⟨w.heap.size,1,none⟩=some (.bool (dN oS))/\W.drew.cell? ⟨w.heap.size,2,none⟩=some (.slice ax (ws (dX oS)).length cx)/\W.drew.cell? ⟨w.heap.size,3,none⟩=some (.int .i64 (dE oS))):=⟨(H0.o.below hdr).x0.cell 0 _ rfl,(H0.o.below hdr).x0.cell 1 _ rfl,(H0.o.below hdr).x0.cell 2 _ rfl,(H0.o.below hdr).x0.cell 3 _ rfl⟩;have BD:=aA (H0.o.below hdr);clear hdr H0;refine fE (fun w'=>w'.cell? ⟨w.heap.size,0,none⟩=some (.slice (some ⟨gx,0,none⟩) n n)/\w'.cell? ⟨w.heap.size,1,none⟩=some (.bool (dN oS))/\w'.cell? ⟨w.heap.size,2,none⟩=some (.slice ax (ws (dX oS)).length cx)/\w'.cell? ⟨w.heap.size,3,none⟩=some (.int .i64 (dE oS))) 9 df ?_;obtain⟨Wd,hWd⟩:=ah (W.drew);rw[<-hWd] at BD kS |-;clear hWd
  refine tk 0 [1,2,3] rfl kS.o ?_;try simp only[Act.put,sa,sb,sc]
  refine tk 1 [2,3] rfl kS.o ?_;try simp only[Act.put,sa,sb,sc]
  refine tk 2 [3] rfl kS.o ?_;try simp only[Act.put,sa,sb,sc]
  refine tk 4 [5,6] rfl kS.o ?_;try simp only[Act.put,sa,sb,sc]
  refine tk 5 [6] rfl kS.o ?_;try simp only[Act.put,sa,sb,sc]
  refine rT (i:=3) (j:=7) (k:=8) df rfl rfl rfl (fun K' hK=>?_) (fun K' hK=>?_) (fun K' hK=>?_)
  · skip;have C:=hid (HI.o Wd (HT.o.belows BD.o.b));go_simp;refine C.o.mono ?_;rintro r u1 ⟨hd,hb⟩;obtain⟨a1,c1,rfl,hN⟩:=hd.aL;have BD:=aP (BD.o.below hb) hN;have kS:=aA (jX hb kS.o);clear hb hd hN C;dsimp only;refine hK.out _ _ (fun _=>kS.o) ?_;clear hK K'
    try simp only[Act.put,sa,sb,sc]
    refine rT (i:=6) (j:=7) (k:=8) df rfl rfl rfl (fun K' hK=>?_) (fun K' hK=>?_) (fun K' hK=>?_)
    · skip;have C:=hid (Pj.o u1 ax cx (HT.o.belows BD.o.1.b) BD.o.1.nt);go_simp;refine C.o.mono ?_;rintro r u2 ⟨hd,hb⟩;obtain⟨a2,c2,rfl,hN⟩:=hd.aL;have BD:=dC (BD.o.1.below hb) (BD.o.2.below hb) hN;have kS:=aA (jX hb kS.o);clear hb hd hN C;dsimp only;refine hK.out _ _ (fun _=>kS.o) ?_;clear hK K'
      try simp only[Act.put,sa,sb,sc]
      refine dK (i:=7) (j:=8) df rfl rfl (fun K' hK=>?_) (fun K' hK=>?_)
      · skip;go_simp;obtain⟨g3,hg3⟩:=ah (u2.heap.size);obtain⟨V3,WM⟩:=ah (u2.alloc (Obj.cells zD3 25));have hb:Below u2.heap.size u2 V3:=by rw[WM];exact af _ _
        have hZ:Lo V3 g3 iY:=by rw[WM,hg3];exact Lo.zero _
        have BD:=fO (BD.o.1.below hb) (BD.o.2.1.below hb) (BD.o.r2.below hb) hZ (show w.heap.size+2<g3 by rw[hg3];exact BD.o.1.z0.lt);have kS:=aA (jX hb kS.o);have HV:=(aP WM hg3);clear hZ hb WM hg3;refine hK.out _ _ (fun _=>by rw[<-HV.o.1];exact kS.o) ?_;clear hK K';rw[<-HV.o.1,<-HV.o.2];clear HV
        try simp only[Act.put,sa,sb,sc]
        refine au (i:=8) df rfl (fun K' hK=>?_);go_simp;obtain⟨g4,hg4⟩:=ah (V3.heap.size);obtain⟨V4,Eb⟩:=ah (V3.alloc (Obj.cells zD3 25));have hb:Below V3.heap.size V3 V4:=by rw[Eb];exact af _ _
        have hZ:Lo V4 g4 iY:=by rw[Eb,hg4];exact Lo.zero _
        have BD:=uI (BD.o.1.below hb) (BD.o.2.1.below hb) (BD.o.r2.1.below hb) (BD.o.r3.1.below hb) BD.o.r4 hZ (show w.heap.size+2<g4 by rw[hg4];exact BD.o.1.z0.lt) (show g3<g4 by rw[hg4];exact BD.o.r3.1.lt);have kS:=aA (jX hb kS.o);have HV:=(aP Eb hg4);clear hZ hb Eb hg4;refine hK.out _ _ (fun _=>by rw[<-HV.o.1];exact kS.o) ?_;clear hK K';rw[<-HV.o.1,<-HV.o.2];clear HV
        try simp only[Act.put,sa,sb,sc]
        have BE:=nU (BD.o.r3.1.set BD.o.2.1) (BD.o.r5.1.other BD.o.r3.1 (mM BD.o.r7) (.bool (dN oN)) (.slice a1 (ws (dX oN)).length c1) (.int .i64 (dE oN))) (BD.o.1.other BD.o.r3.1 BD.o.r4.1 HL.o (.bool (dN oN)) (.slice a1 (ws (dX oN)).length c1) (.int .i64 (dE oN))) (BD.o.r3.1.xx BD.o.r2.1 (.bool (dN oN)) (.slice a1 (ws (dX oN)).length c1) (.int .i64 (dE oN))) BD.o.r4.1 BD.o.r6.1 (fo BD.o.r7);obtain⟨Y1,jG⟩:=ah (dM V4 g3 (.bool (dN oN)) (.slice a1 (ws (dX oN)).length c1) (.int .i64 (dE oN)));rw[<-jG] at BE;unfold dM at jG;obtain⟨zp,zq,DZ,MZ⟩:=BD.o.r3.1;obtain⟨z0,z1,z2,gQ,gT,gU⟩:=DZ.facts;clear DZ MZ;refine au (i:=9) df rfl (fun K' hK=>?_);go_simp;refine hK.out _ _ (fun h=>absurd h aj) ?_;clear hK K' z0 z1 z2 gQ gT gU kS BD;rw[<-jG];clear jG;obtain⟨zp,zq,DZ,MZ⟩:=BE.o.2.1;obtain⟨z0,z1,z2,gQ,gT,gU⟩:=DZ.facts;clear DZ MZ;refine au (i:=10) df rfl (fun K' hK=>?_);go_simp;refine hK.out _ _ (fun h=>absurd h aj) ?_;clear hK K' z0 z1 z2 gQ gT gU;refine aS df ?_ _;go_wp2_with fail
        go_meet
        case rel=>exact⟨g3,g4,rfl,rfl,BE.o.1.other BE.o.2.1 BE.o.r6 _ _ _,BE.o.2.1.set BE.o.r3.1,BE.o.r2.1.other BE.o.2.1 BE.o.r5.1 HL.o _ _ _⟩
      · skip;go_simp;obtain⟨g5,hg5⟩:=ah (u2.heap.size);obtain⟨V5,K8⟩:=ah (u2.alloc (Obj.cells zD3 25));have hb:Below u2.heap.size u2 V5:=by rw[K8];exact af _ _
        have hZ:Lo V5 g5 iY:=by rw[K8,hg5];exact Lo.zero _
        have BD:=fO (BD.o.1.below hb) (BD.o.2.1.below hb) (BD.o.r2.below hb) hZ (show w.heap.size+2<g5 by rw[hg5];exact BD.o.1.z0.lt);have kS:=aA (jX hb kS.o);have HV:=(aP K8 hg5);clear hZ hb K8 hg5;refine hK.out _ _ (fun _=>by rw[<-HV.o.1];exact kS.o) ?_;clear hK K';rw[<-HV.o.1,<-HV.o.2];clear HV
        try simp only[Act.put,sa,sb,sc]
        refine au (i:=7) df rfl (fun K' hK=>?_);go_simp;obtain⟨g6,WC⟩:=ah (V5.heap.size);obtain⟨V6,hV6⟩:=ah (V5.alloc (Obj.cells zD3 25));have hb:Below V5.heap.size V5 V6:=by rw[hV6];exact af _ _
        have hZ:Lo V6 g6 iY:=by rw[hV6,WC];exact Lo.zero _
        have BD:=uI (BD.o.1.below hb) (BD.o.2.1.below hb) (BD.o.r2.1.below hb) (BD.o.r3.1.below hb) BD.o.r4 hZ (show w.heap.size+2<g6 by rw[WC];exact BD.o.1.z0.lt) (show g5<g6 by rw[WC];exact BD.o.r3.1.lt);have kS:=aA (jX hb kS.o);have HV:=(aP hV6 WC);clear hZ hb hV6 WC;refine hK.out _ _ (fun _=>by rw[<-HV.o.1];exact kS.o) ?_;clear hK K';rw[<-HV.o.1,<-HV.o.2];clear HV
        try simp only[Act.put,sa,sb,sc]
        have BE:=nU (BD.o.r5.1.set BD.o.2.1) (BD.o.r3.1.other BD.o.r5.1 (fo BD.o.r7) (.bool (dN oN)) (.slice a1 (ws (dX oN)).length c1) (.int .i64 (dE oN))) (BD.o.1.other BD.o.r5.1 BD.o.r6.1 HL.o (.bool (dN oN)) (.slice a1 (ws (dX oN)).length c1) (.int .i64 (dE oN))) (BD.o.r5.1.xx BD.o.r2.1 (.bool (dN oN)) (.slice a1 (ws (dX oN)).length c1) (.int .i64 (dE oN))) BD.o.r6.1 BD.o.r4.1 (mM BD.o.r7);obtain⟨Y1,jG⟩:=ah (dM V6 g6 (.bool (dN oN)) (.slice a1 (ws (dX oN)).length c1) (.int .i64 (dE oN)));rw[<-jG] at BE;unfold dM at jG;obtain⟨zp,zq,DZ,MZ⟩:=BD.o.r5.1;obtain⟨z0,z1,z2,gQ,gT,gU⟩:=DZ.facts;clear DZ MZ;refine au (i:=9) df rfl (fun K' hK=>?_);go_simp;refine hK.out _ _ (fun h=>absurd h aj) ?_;clear hK K' z0 z1 z2 gQ gT gU kS BD;rw[<-jG];clear jG;obtain⟨zp,zq,DZ,MZ⟩:=BE.o.2.1;obtain⟨z0,z1,z2,gQ,gT,gU⟩:=DZ.facts;clear DZ MZ;refine au (i:=10) df rfl (fun K' hK=>?_);go_simp;refine hK.out _ _ (fun h=>absurd h aj) ?_;clear hK K' z0 z1 z2 gQ gT gU;refine aS df ?_ _;go_wp2_with fail
        go_meet
        case rel=>exact⟨g6,g5,rfl,rfl,BE.o.1.other BE.o.2.1 BE.o.r6 _ _ _,BE.o.2.1.set BE.o.r3.1,BE.o.r2.1.other BE.o.2.1 BE.o.r5.1 HL.o _ _ _⟩
    · skip;go_simp;obtain⟨g7,sN⟩:=ah (u1.heap.size);obtain⟨V7,K9⟩:=ah (u1.alloc (Obj.cells zD3 25));have hb:Below u1.heap.size u1 V7:=by rw[K9];exact af _ _
      have hZ:Lo V7 g7 iY:=by rw[K9,sN];exact Lo.zero _
      have BD:=ic (BD.o.1.below hb) (BD.o.2.below hb) hZ (show w.heap.size+2<g7 by rw[sN];exact BD.o.1.z0.lt);have kS:=aA (jX hb kS.o);have HV:=(aP K9 sN);clear hZ hb K9 sN;refine hK.out _ _ (fun _=>by rw[<-HV.o.1];exact kS.o) ?_;clear hK K';rw[<-HV.o.1,<-HV.o.2];clear HV
      try simp only[Act.put,sa,sb,sc]
      refine dK (i:=6) (j:=8) df rfl rfl (fun K' hK=>?_) (fun K' hK=>?_)
      · skip;have C:=hid (Pj.o V7 ax cx (HT.o.belows BD.o.1.b) BD.o.1.nt);go_simp;refine C.o.mono ?_;rintro r u8 ⟨hd,hb⟩;obtain⟨a8,c8,rfl,hN⟩:=hd.aL;have BD:=fO (BD.o.1.below hb) (BD.o.2.1.below hb) (BD.o.r2.1.below hb) BD.o.r3 hN;have kS:=aA (jX hb kS.o);clear hb hd hN C;dsimp only;refine hK.out _ _ (fun _=>kS.o) ?_;clear hK K'
        try simp only[Act.put,sa,sb,sc]
        refine au (i:=8) df rfl (fun K' hK=>?_);go_simp;obtain⟨g9,hg9⟩:=ah (u8.heap.size);obtain⟨V9,hV9⟩:=ah (u8.alloc (Obj.cells zD3 25));have hb:Below u8.heap.size u8 V9:=by rw[hV9];exact af _ _
        have hZ:Lo V9 g9 iY:=by rw[hV9,hg9];exact Lo.zero _
        have BD:=uI (BD.o.1.below hb) (BD.o.2.1.below hb) (BD.o.r2.1.below hb) BD.o.r3.1 (BD.o.r4.below hb) hZ (show w.heap.size+2<g9 by rw[hg9];exact BD.o.1.z0.lt) (show g7<g9 by rw[hg9];exact BD.o.r2.1.lt);have kS:=aA (jX hb kS.o);have HV:=(aP hV9 hg9);clear hZ hb hV9 hg9;refine hK.out _ _ (fun _=>by rw[<-HV.o.1];exact kS.o) ?_;clear hK K';rw[<-HV.o.1,<-HV.o.2];clear HV
        try simp only[Act.put,sa,sb,sc]
        have BE:=nU (BD.o.r2.1.set BD.o.2.1) (BD.o.r5.1.other BD.o.r2.1 (mM BD.o.r7) (.bool (dN oN)) (.slice a1 (ws (dX oN)).length c1) (.int .i64 (dE oN))) (BD.o.1.other BD.o.r2.1 BD.o.r3.1 HL.o (.bool (dN oN)) (.slice a1 (ws (dX oN)).length c1) (.int .i64 (dE oN))) (BD.o.r2.1.xx BD.o.r4.1 (.bool (dN oN)) (.slice a1 (ws (dX oN)).length c1) (.int .i64 (dE oN))) BD.o.r3.1 BD.o.r6.1 (fo BD.o.r7);obtain⟨Y1,jG⟩:=ah (dM V9 g7 (.bool (dN oN)) (.slice a1 (ws (dX oN)).length c1) (.int .i64 (dE oN)));rw[<-jG] at BE;unfold dM at jG;obtain⟨zp,zq,DZ,MZ⟩:=BD.o.r2.1;obtain⟨z0,z1,z2,gQ,gT,gU⟩:=DZ.facts;clear DZ MZ;refine au (i:=9) df rfl (fun K' hK=>?_);go_simp;refine hK.out _ _ (fun h=>absurd h aj) ?_;clear hK K' z0 z1 z2 gQ gT gU kS BD;rw[<-jG];clear jG;obtain⟨zp,zq,DZ,MZ⟩:=BE.o.2.1;obtain⟨z0,z1,z2,gQ,gT,gU⟩:=DZ.facts;clear DZ MZ;refine au (i:=10) df rfl (fun K' hK=>?_);go_simp;refine hK.out _ _ (fun h=>absurd h aj) ?_;clear hK K' z0 z1 z2 gQ gT gU;refine aS df ?_ _;go_wp2_with fail
        go_meet
        case rel=>exact⟨g7,g9,rfl,rfl,BE.o.1.other BE.o.2.1 BE.o.r6 _ _ _,BE.o.2.1.set BE.o.r3.1,BE.o.r2.1.other BE.o.2.1 BE.o.r5.1 HL.o _ _ _⟩
      · skip;go_simp;obtain⟨g10,nR⟩:=ah (V7.heap.size);obtain⟨Tp,uC⟩:=ah (V7.alloc (Obj.cells zD3 25));have hb:Below V7.heap.size V7 Tp:=by rw[uC];exact af _ _
        have hZ:Lo Tp g10 iY:=by rw[uC,nR];exact Lo.zero _
        have BD:=nU (BD.o.1.below hb) (BD.o.2.1.below hb) (BD.o.r2.1.below hb) BD.o.r3 hZ (show w.heap.size+2<g10 by rw[nR];exact BD.o.1.z0.lt) (show g7<g10 by rw[nR];exact BD.o.r2.1.lt);have kS:=aA (jX hb kS.o);have HV:=(aP uC nR);clear hZ hb uC nR;refine hK.out _ _ (fun _=>by rw[<-HV.o.1];exact kS.o) ?_;clear hK K';rw[<-HV.o.1,<-HV.o.2];clear HV
        try simp only[Act.put,sa,sb,sc]
        refine au (i:=6) df rfl (fun K' hK=>?_);have C:=hid (Pj.o Tp ax cx (HT.o.belows BD.o.1.b) BD.o.1.nt);go_simp;refine C.o.mono ?_;rintro r El ⟨hd,hb⟩;obtain⟨a11,c11,rfl,hN⟩:=hd.aL;have BD:=uI (BD.o.1.below hb) (BD.o.2.1.below hb) (BD.o.r2.1.below hb) BD.o.r3.1 (BD.o.r4.1.below hb) BD.o.r5.1 BD.o.r6 hN;have kS:=aA (jX hb kS.o);clear hb hd hN C;dsimp only;refine hK.out _ _ (fun _=>kS.o) ?_;clear hK K'
        try simp only[Act.put,sa,sb,sc]
        have BE:=nU (BD.o.r2.1.set BD.o.2.1) (BD.o.r4.1.other BD.o.r2.1 (mM BD.o.r6.1) (.bool (dN oN)) (.slice a1 (ws (dX oN)).length c1) (.int .i64 (dE oN))) (BD.o.1.other BD.o.r2.1 BD.o.r3.1 HL.o (.bool (dN oN)) (.slice a1 (ws (dX oN)).length c1) (.int .i64 (dE oN))) (BD.o.r2.1.xx BD.o.r7 (.bool (dN oN)) (.slice a1 (ws (dX oN)).length c1) (.int .i64 (dE oN))) BD.o.r3.1 BD.o.r5.1 (fo BD.o.r6.1);obtain⟨Y1,jG⟩:=ah (dM El g7 (.bool (dN oN)) (.slice a1 (ws (dX oN)).length c1) (.int .i64 (dE oN)));rw[<-jG] at BE;unfold dM at jG;obtain⟨zp,zq,DZ,MZ⟩:=BD.o.r2.1;obtain⟨z0,z1,z2,gQ,gT,gU⟩:=DZ.facts;clear DZ MZ;refine au (i:=9) df rfl (fun K' hK=>?_);go_simp;refine hK.out _ _ (fun h=>absurd h aj) ?_;clear hK K' z0 z1 z2 gQ gT gU kS BD;rw[<-jG];clear jG;obtain⟨zp,zq,DZ,MZ⟩:=BE.o.2.1;obtain⟨z0,z1,z2,gQ,gT,gU⟩:=DZ.facts;clear DZ MZ;refine au (i:=10) df rfl (fun K' hK=>?_);go_simp;refine hK.out _ _ (fun h=>absurd h aj) ?_;clear hK K' z0 z1 z2 gQ gT gU;refine aS df ?_ _;go_wp2_with fail
        go_meet
        case rel=>exact⟨g7,g10,rfl,rfl,BE.o.1.other BE.o.2.1 BE.o.r6 _ _ _,BE.o.2.1.set BE.o.r3.1,BE.o.r2.1.other BE.o.2.1 BE.o.r5.1 HL.o _ _ _⟩
    · skip;go_simp;obtain⟨g12,pF⟩:=ah (u1.heap.size);obtain⟨ZX,WO⟩:=ah (u1.alloc (Obj.cells zD3 25));have hb:Below u1.heap.size u1 ZX:=by rw[WO];exact af _ _
      have hZ:Lo ZX g12 iY:=by rw[WO,pF];exact Lo.zero _
      have BD:=ic (BD.o.1.below hb) (BD.o.2.below hb) hZ (show w.heap.size+2<g12 by rw[pF];exact BD.o.1.z0.lt);have kS:=aA (jX hb kS.o);have HV:=(aP WO pF);clear hZ hb WO pF;refine hK.out _ _ (fun _=>by rw[<-HV.o.1];exact kS.o) ?_;clear hK K';rw[<-HV.o.1,<-HV.o.2];clear HV
      try simp only[Act.put,sa,sb,sc]
      refine dK (i:=6) (j:=7) df rfl rfl (fun K' hK=>?_) (fun K' hK=>?_)
      · skip;have C:=hid (Pj.o ZX ax cx (HT.o.belows BD.o.1.b) BD.o.1.nt);go_simp;refine C.o.mono ?_;rintro r JC ⟨hd,hb⟩;obtain⟨a13,c13,rfl,hN⟩:=hd.aL;have BD:=fO (BD.o.1.below hb) (BD.o.2.1.below hb) (BD.o.r2.1.below hb) BD.o.r3 hN;have kS:=aA (jX hb kS.o);clear hb hd hN C;dsimp only;refine hK.out _ _ (fun _=>kS.o) ?_;clear hK K'
        try simp only[Act.put,sa,sb,sc]
        refine au (i:=7) df rfl (fun K' hK=>?_);go_simp;obtain⟨g14,Tq⟩:=ah (JC.heap.size);obtain⟨V14,WQ⟩:=ah (JC.alloc (Obj.cells zD3 25));have hb:Below JC.heap.size JC V14:=by rw[WQ];exact af _ _
        have hZ:Lo V14 g14 iY:=by rw[WQ,Tq];exact Lo.zero _
        have BD:=uI (BD.o.1.below hb) (BD.o.2.1.below hb) (BD.o.r2.1.below hb) BD.o.r3.1 (BD.o.r4.below hb) hZ (show w.heap.size+2<g14 by rw[Tq];exact BD.o.1.z0.lt) (show g12<g14 by rw[Tq];exact BD.o.r2.1.lt);have kS:=aA (jX hb kS.o);have HV:=(aP WQ Tq);clear hZ hb WQ Tq;refine hK.out _ _ (fun _=>by rw[<-HV.o.1];exact kS.o) ?_;clear hK K';rw[<-HV.o.1,<-HV.o.2];clear HV
        try simp only[Act.put,sa,sb,sc]
        have BE:=nU (BD.o.r5.1.set BD.o.2.1) (BD.o.r2.1.other BD.o.r5.1 (fo BD.o.r7) (.bool (dN oN)) (.slice a1 (ws (dX oN)).length c1) (.int .i64 (dE oN))) (BD.o.1.other BD.o.r5.1 BD.o.r6.1 HL.o (.bool (dN oN)) (.slice a1 (ws (dX oN)).length c1) (.int .i64 (dE oN))) (BD.o.r5.1.xx BD.o.r4.1 (.bool (dN oN)) (.slice a1 (ws (dX oN)).length c1) (.int .i64 (dE oN))) BD.o.r6.1 BD.o.r3.1 (mM BD.o.r7);obtain⟨Y1,jG⟩:=ah (dM V14 g14 (.bool (dN oN)) (.slice a1 (ws (dX oN)).length c1) (.int .i64 (dE oN)));rw[<-jG] at BE;unfold dM at jG;obtain⟨zp,zq,DZ,MZ⟩:=BD.o.r5.1;obtain⟨z0,z1,z2,gQ,gT,gU⟩:=DZ.facts;clear DZ MZ;refine au (i:=9) df rfl (fun K' hK=>?_);go_simp;refine hK.out _ _ (fun h=>absurd h aj) ?_;clear hK K' z0 z1 z2 gQ gT gU kS BD;rw[<-jG];clear jG;obtain⟨zp,zq,DZ,MZ⟩:=BE.o.2.1;obtain⟨z0,z1,z2,gQ,gT,gU⟩:=DZ.facts;clear DZ MZ;refine au (i:=10) df rfl (fun K' hK=>?_);go_simp;refine hK.out _ _ (fun h=>absurd h aj) ?_;clear hK K' z0 z1 z2 gQ gT gU;refine aS df ?_ _;go_wp2_with fail
        go_meet
        case rel=>exact⟨g14,g12,rfl,rfl,BE.o.1.other BE.o.2.1 BE.o.r6 _ _ _,BE.o.2.1.set BE.o.r3.1,BE.o.r2.1.other BE.o.2.1 BE.o.r5.1 HL.o _ _ _⟩
      · skip;go_simp;obtain⟨g15,Bc⟩:=ah (ZX.heap.size);obtain⟨V15,WR⟩:=ah (ZX.alloc (Obj.cells zD3 25));have hb:Below ZX.heap.size ZX V15:=by rw[WR];exact af _ _
        have hZ:Lo V15 g15 iY:=by rw[WR,Bc];exact Lo.zero _
        have BD:=nU (BD.o.1.below hb) (BD.o.2.1.below hb) (BD.o.r2.1.below hb) BD.o.r3 hZ (show w.heap.size+2<g15 by rw[Bc];exact BD.o.1.z0.lt) (show g12<g15 by rw[Bc];exact BD.o.r2.1.lt);have kS:=aA (jX hb kS.o);have HV:=(aP WR Bc);clear hZ hb WR Bc;refine hK.out _ _ (fun _=>by rw[<-HV.o.1];exact kS.o) ?_;clear hK K';rw[<-HV.o.1,<-HV.o.2];clear HV
        try simp only[Act.put,sa,sb,sc]
        refine au (i:=6) df rfl (fun K' hK=>?_);have C:=hid (Pj.o V15 ax cx (HT.o.belows BD.o.1.b) BD.o.1.nt);go_simp;refine C.o.mono ?_;rintro r u16 ⟨hd,hb⟩;obtain⟨a16,c16,rfl,hN⟩:=hd.aL;have BD:=uI (BD.o.1.below hb) (BD.o.2.1.below hb) (BD.o.r2.1.below hb) BD.o.r3.1 (BD.o.r4.1.below hb) BD.o.r5.1 BD.o.r6 hN;have kS:=aA (jX hb kS.o);clear hb hd hN C;dsimp only;refine hK.out _ _ (fun _=>kS.o) ?_;clear hK K'
        try simp only[Act.put,sa,sb,sc]
        have BE:=nU (BD.o.r4.1.set BD.o.2.1) (BD.o.r2.1.other BD.o.r4.1 (fo BD.o.r6.1) (.bool (dN oN)) (.slice a1 (ws (dX oN)).length c1) (.int .i64 (dE oN))) (BD.o.1.other BD.o.r4.1 BD.o.r5.1 HL.o (.bool (dN oN)) (.slice a1 (ws (dX oN)).length c1) (.int .i64 (dE oN))) (BD.o.r4.1.xx BD.o.r7 (.bool (dN oN)) (.slice a1 (ws (dX oN)).length c1) (.int .i64 (dE oN))) BD.o.r5.1 BD.o.r3.1 (mM BD.o.r6.1);obtain⟨Y1,jG⟩:=ah (dM u16 g15 (.bool (dN oN)) (.slice a1 (ws (dX oN)).length c1) (.int .i64 (dE oN)));rw[<-jG] at BE;unfold dM at jG;obtain⟨zp,zq,DZ,MZ⟩:=BD.o.r4.1;obtain⟨z0,z1,z2,gQ,gT,gU⟩:=DZ.facts;clear DZ MZ;refine au (i:=9) df rfl (fun K' hK=>?_);go_simp;refine hK.out _ _ (fun h=>absurd h aj) ?_;clear hK K' z0 z1 z2 gQ gT gU kS BD;rw[<-jG];clear jG;obtain⟨zp,zq,DZ,MZ⟩:=BE.o.2.1;obtain⟨z0,z1,z2,gQ,gT,gU⟩:=DZ.facts;clear DZ MZ;refine au (i:=10) df rfl (fun K' hK=>?_);go_simp;refine hK.out _ _ (fun h=>absurd h aj) ?_;clear hK K' z0 z1 z2 gQ gT gU;refine aS df ?_ _;go_wp2_with fail
        go_meet
        case rel=>exact⟨g15,g12,rfl,rfl,BE.o.1.other BE.o.2.1 BE.o.r6 _ _ _,BE.o.2.1.set BE.o.r3.1,BE.o.r2.1.other BE.o.2.1 BE.o.r5.1 HL.o _ _ _⟩
  · skip;go_simp;obtain⟨g17,Gx⟩:=ah (Wd.heap.size);obtain⟨ZY,WS⟩:=ah (Wd.alloc (Obj.cells zD3 25));have hb:Below Wd.heap.size Wd ZY:=by rw[WS];exact af _ _
    have hZ:Lo ZY g17 iY:=by rw[WS,Gx];exact Lo.zero _
    have BD:=dC (BD.o.below hb) hZ (show w.heap.size+2<g17 by rw[Gx];exact BD.o.z0.lt);have kS:=aA (jX hb kS.o);have HV:=(aP WS Gx);clear hZ hb WS Gx;refine hK.out _ _ (fun _=>by rw[<-HV.o.1];exact kS.o) ?_;clear hK K';rw[<-HV.o.1,<-HV.o.2];clear HV
    try simp only[Act.put,sa,sb,sc]
    refine dK (i:=3) (j:=8) df rfl rfl (fun K' hK=>?_) (fun K' hK=>?_)
    · skip;have C:=hid (HI.o ZY (HT.o.belows BD.o.1.b));go_simp;refine C.o.mono ?_;rintro r Pm ⟨hd,hb⟩;obtain⟨Yk,c18,rfl,hN⟩:=hd.aL;have BD:=ic (BD.o.1.below hb) (BD.o.2.1.below hb) BD.o.r2 hN;have kS:=aA (jX hb kS.o);clear hb hd hN C;dsimp only;refine hK.out _ _ (fun _=>kS.o) ?_;clear hK K'
      try simp only[Act.put,sa,sb,sc]
      refine dK (i:=6) (j:=8) df rfl rfl (fun K' hK=>?_) (fun K' hK=>?_)
      · skip;have C:=hid (Pj.o Pm ax cx (HT.o.belows BD.o.1.b) BD.o.1.nt);go_simp;refine C.o.mono ?_;rintro r Pn ⟨hd,hb⟩;obtain⟨a19,c19,rfl,hN⟩:=hd.aL;have BD:=fO (BD.o.1.below hb) (BD.o.2.1.below hb) BD.o.r2.1 (BD.o.r3.below hb) hN;have kS:=aA (jX hb kS.o);clear hb hd hN C;dsimp only;refine hK.out _ _ (fun _=>kS.o) ?_;clear hK K'
        try simp only[Act.put,sa,sb,sc]
        refine au (i:=8) df rfl (fun K' hK=>?_);go_simp;obtain⟨g20,Ed⟩:=ah (Pn.heap.size);obtain⟨V20,WT⟩:=ah (Pn.alloc (Obj.cells zD3 25));have hb:Below Pn.heap.size Pn V20:=by rw[WT];exact af _ _
        have hZ:Lo V20 g20 iY:=by rw[WT,Ed];exact Lo.zero _
        have BD:=uI (BD.o.1.below hb) (BD.o.2.1.below hb) BD.o.r2.1 (BD.o.r3.1.below hb) (BD.o.r4.below hb) hZ (show w.heap.size+2<g20 by rw[Ed];exact BD.o.1.z0.lt) (show g17<g20 by rw[Ed];exact BD.o.2.1.lt);have kS:=aA (jX hb kS.o);have HV:=(aP WT Ed);clear hZ hb WT Ed;refine hK.out _ _ (fun _=>by rw[<-HV.o.1];exact kS.o) ?_;clear hK K';rw[<-HV.o.1,<-HV.o.2];clear HV
        try simp only[Act.put,sa,sb,sc]
        have BE:=nU (BD.o.2.1.set BD.o.r3.1) (BD.o.r5.1.other BD.o.2.1 (mM BD.o.r7) (.bool (dN oN)) (.slice Yk (ws (dX oN)).length c18) (.int .i64 (dE oN))) (BD.o.1.other BD.o.2.1 BD.o.r2.1 HL.o (.bool (dN oN)) (.slice Yk (ws (dX oN)).length c18) (.int .i64 (dE oN))) (BD.o.2.1.xx BD.o.r4.1 (.bool (dN oN)) (.slice Yk (ws (dX oN)).length c18) (.int .i64 (dE oN))) BD.o.r2.1 BD.o.r6.1 (fo BD.o.r7);obtain⟨Y1,jG⟩:=ah (dM V20 g17 (.bool (dN oN)) (.slice Yk (ws (dX oN)).length c18) (.int .i64 (dE oN)));rw[<-jG] at BE;unfold dM at jG;obtain⟨zp,zq,DZ,MZ⟩:=BD.o.2.1;obtain⟨z0,z1,z2,gQ,gT,gU⟩:=DZ.facts;clear DZ MZ;refine au (i:=9) df rfl (fun K' hK=>?_);go_simp;refine hK.out _ _ (fun h=>absurd h aj) ?_;clear hK K' z0 z1 z2 gQ gT gU kS BD;rw[<-jG];clear jG;obtain⟨zp,zq,DZ,MZ⟩:=BE.o.2.1;obtain⟨z0,z1,z2,gQ,gT,gU⟩:=DZ.facts;clear DZ MZ;refine au (i:=10) df rfl (fun K' hK=>?_);go_simp;refine hK.out _ _ (fun h=>absurd h aj) ?_;clear hK K' z0 z1 z2 gQ gT gU;refine aS df ?_ _;go_wp2_with fail
        go_meet
        case rel=>exact⟨g17,g20,rfl,rfl,BE.o.1.other BE.o.2.1 BE.o.r6 _ _ _,BE.o.2.1.set BE.o.r3.1,BE.o.r2.1.other BE.o.2.1 BE.o.r5.1 HL.o _ _ _⟩
      · skip;go_simp;obtain⟨g21,Tt⟩:=ah (Pm.heap.size);obtain⟨V21,WU⟩:=ah (Pm.alloc (Obj.cells zD3 25));have hb:Below Pm.heap.size Pm V21:=by rw[WU];exact af _ _
        have hZ:Lo V21 g21 iY:=by rw[WU,Tt];exact Lo.zero _
        have BD:=nU (BD.o.1.below hb) (BD.o.2.1.below hb) BD.o.r2.1 (BD.o.r3.below hb) hZ (show w.heap.size+2<g21 by rw[Tt];exact BD.o.1.z0.lt) (show g17<g21 by rw[Tt];exact BD.o.2.1.lt);have kS:=aA (jX hb kS.o);have HV:=(aP WU Tt);clear hZ hb WU Tt;refine hK.out _ _ (fun _=>by rw[<-HV.o.1];exact kS.o) ?_;clear hK K';rw[<-HV.o.1,<-HV.o.2];clear HV
        try simp only[Act.put,sa,sb,sc]
        refine au (i:=6) df rfl (fun K' hK=>?_);have C:=hid (Pj.o V21 ax cx (HT.o.belows BD.o.1.b) BD.o.1.nt);go_simp;refine C.o.mono ?_;rintro r u22 ⟨hd,hb⟩;obtain⟨a22,c22,rfl,hN⟩:=hd.aL;have BD:=uI (BD.o.1.below hb) (BD.o.2.1.below hb) BD.o.r2.1 (BD.o.r3.1.below hb) (BD.o.r4.1.below hb) BD.o.r5.1 BD.o.r6 hN;have kS:=aA (jX hb kS.o);clear hb hd hN C;dsimp only;refine hK.out _ _ (fun _=>kS.o) ?_;clear hK K'
        try simp only[Act.put,sa,sb,sc]
        have BE:=nU (BD.o.2.1.set BD.o.r3.1) (BD.o.r4.1.other BD.o.2.1 (mM BD.o.r6.1) (.bool (dN oN)) (.slice Yk (ws (dX oN)).length c18) (.int .i64 (dE oN))) (BD.o.1.other BD.o.2.1 BD.o.r2.1 HL.o (.bool (dN oN)) (.slice Yk (ws (dX oN)).length c18) (.int .i64 (dE oN))) (BD.o.2.1.xx BD.o.r7 (.bool (dN oN)) (.slice Yk (ws (dX oN)).length c18) (.int .i64 (dE oN))) BD.o.r2.1 BD.o.r5.1 (fo BD.o.r6.1);obtain⟨Y1,jG⟩:=ah (dM u22 g17 (.bool (dN oN)) (.slice Yk (ws (dX oN)).length c18) (.int .i64 (dE oN)));rw[<-jG] at BE;unfold dM at jG;obtain⟨zp,zq,DZ,MZ⟩:=BD.o.2.1;obtain⟨z0,z1,z2,gQ,gT,gU⟩:=DZ.facts;clear DZ MZ;refine au (i:=9) df rfl (fun K' hK=>?_);go_simp;refine hK.out _ _ (fun h=>absurd h aj) ?_;clear hK K' z0 z1 z2 gQ gT gU kS BD;rw[<-jG];clear jG;obtain⟨zp,zq,DZ,MZ⟩:=BE.o.2.1;obtain⟨z0,z1,z2,gQ,gT,gU⟩:=DZ.facts;clear DZ MZ;refine au (i:=10) df rfl (fun K' hK=>?_);go_simp;refine hK.out _ _ (fun h=>absurd h aj) ?_;clear hK K' z0 z1 z2 gQ gT gU;refine aS df ?_ _;go_wp2_with fail
        go_meet
        case rel=>exact⟨g17,g21,rfl,rfl,BE.o.1.other BE.o.2.1 BE.o.r6 _ _ _,BE.o.2.1.set BE.o.r3.1,BE.o.r2.1.other BE.o.2.1 BE.o.r5.1 HL.o _ _ _⟩
    · skip;go_simp;obtain⟨g23,Tu⟩:=ah (ZY.heap.size);obtain⟨V23,WV⟩:=ah (ZY.alloc (Obj.cells zD3 25));have hb:Below ZY.heap.size ZY V23:=by rw[WV];exact af _ _
      have hZ:Lo V23 g23 iY:=by rw[WV,Tu];exact Lo.zero _
      have BD:=jJ (BD.o.1.below hb) (BD.o.2.1.below hb) BD.o.r2 hZ (show w.heap.size+2<g23 by rw[Tu];exact BD.o.1.z0.lt) (show g17<g23 by rw[Tu];exact BD.o.2.1.lt);have kS:=aA (jX hb kS.o);have HV:=(aP WV Tu);clear hZ hb WV Tu;refine hK.out _ _ (fun _=>by rw[<-HV.o.1];exact kS.o) ?_;clear hK K';rw[<-HV.o.1,<-HV.o.2];clear HV
      try simp only[Act.put,sa,sb,sc]
      refine au (i:=3) df rfl (fun K' hK=>?_);have C:=hid (HI.o V23 (HT.o.belows BD.o.1.b));go_simp;refine C.o.mono ?_;rintro r u24 ⟨hd,hb⟩;obtain⟨a24,c24,rfl,hN⟩:=hd.aL;have BD:=nU (BD.o.1.below hb) (BD.o.2.1.below hb) BD.o.r2.1 (BD.o.r3.1.below hb) BD.o.r4.1 BD.o.r5 hN;have kS:=aA (jX hb kS.o);clear hb hd hN C;dsimp only;refine hK.out _ _ (fun _=>kS.o) ?_;clear hK K'
      try simp only[Act.put,sa,sb,sc]
      refine au (i:=6) df rfl (fun K' hK=>?_);have C:=hid (Pj.o u24 ax cx (HT.o.belows BD.o.1.b) BD.o.1.nt);go_simp;refine C.o.mono ?_;rintro r u25 ⟨hd,hb⟩;obtain⟨a25,c25,rfl,hN⟩:=hd.aL;have BD:=uI (BD.o.1.below hb) (BD.o.2.1.below hb) BD.o.r2.1 (BD.o.r3.1.below hb) BD.o.r4.1 BD.o.r5.1 (BD.o.r6.below hb) hN;have kS:=aA (jX hb kS.o);clear hb hd hN C;dsimp only;refine hK.out _ _ (fun _=>kS.o) ?_;clear hK K'
      try simp only[Act.put,sa,sb,sc]
      have BE:=nU (BD.o.2.1.set BD.o.r6.1) (BD.o.r3.1.other BD.o.2.1 (mM BD.o.r5.1) (.bool (dN oN)) (.slice a24 (ws (dX oN)).length c24) (.int .i64 (dE oN))) (BD.o.1.other BD.o.2.1 BD.o.r2.1 HL.o (.bool (dN oN)) (.slice a24 (ws (dX oN)).length c24) (.int .i64 (dE oN))) (BD.o.2.1.xx BD.o.r7 (.bool (dN oN)) (.slice a24 (ws (dX oN)).length c24) (.int .i64 (dE oN))) BD.o.r2.1 BD.o.r4.1 (fo BD.o.r5.1);obtain⟨Y1,jG⟩:=ah (dM u25 g17 (.bool (dN oN)) (.slice a24 (ws (dX oN)).length c24) (.int .i64 (dE oN)));rw[<-jG] at BE;unfold dM at jG;obtain⟨zp,zq,DZ,MZ⟩:=BD.o.2.1;obtain⟨z0,z1,z2,gQ,gT,gU⟩:=DZ.facts;clear DZ MZ;refine au (i:=9) df rfl (fun K' hK=>?_);go_simp;refine hK.out _ _ (fun h=>absurd h aj) ?_;clear hK K' z0 z1 z2 gQ gT gU kS BD;rw[<-jG];clear jG;obtain⟨zp,zq,DZ,MZ⟩:=BE.o.2.1;obtain⟨z0,z1,z2,gQ,gT,gU⟩:=DZ.facts;clear DZ MZ;refine au (i:=10) df rfl (fun K' hK=>?_);go_simp;refine hK.out _ _ (fun h=>absurd h aj) ?_;clear hK K' z0 z1 z2 gQ gT gU;refine aS df ?_ _;go_wp2_with fail
      go_meet
      case rel=>exact⟨g17,g23,rfl,rfl,BE.o.1.other BE.o.2.1 BE.o.r6 _ _ _,BE.o.2.1.set BE.o.r3.1,BE.o.r2.1.other BE.o.2.1 BE.o.r5.1 HL.o _ _ _⟩
  · skip;go_simp;obtain⟨Yl,WW⟩:=ah (Wd.heap.size);obtain⟨ZZ,WX⟩:=ah (Wd.alloc (Obj.cells zD3 25));have hb:Below Wd.heap.size Wd ZZ:=by rw[WX];exact af _ _
    have hZ:Lo ZZ Yl iY:=by rw[WX,WW];exact Lo.zero _
    have BD:=dC (BD.o.below hb) hZ (show w.heap.size+2<Yl by rw[WW];exact BD.o.z0.lt);have kS:=aA (jX hb kS.o);have HV:=(aP WX WW);clear hZ hb WX WW;refine hK.out _ _ (fun _=>by rw[<-HV.o.1];exact kS.o) ?_;clear hK K';rw[<-HV.o.1,<-HV.o.2];clear HV
    try simp only[Act.put,sa,sb,sc]
    refine dK (i:=3) (j:=7) df rfl rfl (fun K' hK=>?_) (fun K' hK=>?_)
    · skip;have C:=hid (HI.o ZZ (HT.o.belows BD.o.1.b));go_simp;refine C.o.mono ?_;rintro r u27 ⟨hd,hb⟩;obtain⟨a27,Ym,rfl,hN⟩:=hd.aL;have BD:=ic (BD.o.1.below hb) (BD.o.2.1.below hb) BD.o.r2 hN;have kS:=aA (jX hb kS.o);clear hb hd hN C;dsimp only;refine hK.out _ _ (fun _=>kS.o) ?_;clear hK K'
      try simp only[Act.put,sa,sb,sc]
      refine dK (i:=6) (j:=7) df rfl rfl (fun K' hK=>?_) (fun K' hK=>?_)
      · skip;have C:=hid (Pj.o u27 ax cx (HT.o.belows BD.o.1.b) BD.o.1.nt);go_simp;refine C.o.mono ?_;rintro r u28 ⟨hd,hb⟩;obtain⟨a28,c28,rfl,hN⟩:=hd.aL;have BD:=fO (BD.o.1.below hb) (BD.o.2.1.below hb) BD.o.r2.1 (BD.o.r3.below hb) hN;have kS:=aA (jX hb kS.o);clear hb hd hN C;dsimp only;refine hK.out _ _ (fun _=>kS.o) ?_;clear hK K'
        try simp only[Act.put,sa,sb,sc]
        refine au (i:=7) df rfl (fun K' hK=>?_);go_simp;obtain⟨g29,Tv⟩:=ah (u28.heap.size);obtain⟨V29,WY⟩:=ah (u28.alloc (Obj.cells zD3 25));have hb:Below u28.heap.size u28 V29:=by rw[WY];exact af _ _
        have hZ:Lo V29 g29 iY:=by rw[WY,Tv];exact Lo.zero _
        have BD:=uI (BD.o.1.below hb) (BD.o.2.1.below hb) BD.o.r2.1 (BD.o.r3.1.below hb) (BD.o.r4.below hb) hZ (show w.heap.size+2<g29 by rw[Tv];exact BD.o.1.z0.lt) (show Yl<g29 by rw[Tv];exact BD.o.2.1.lt);have kS:=aA (jX hb kS.o);have HV:=(aP WY Tv);clear hZ hb WY Tv;refine hK.out _ _ (fun _=>by rw[<-HV.o.1];exact kS.o) ?_;clear hK K';rw[<-HV.o.1,<-HV.o.2];clear HV
        try simp only[Act.put,sa,sb,sc]
        have BE:=nU (BD.o.r5.1.set BD.o.r3.1) (BD.o.2.1.other BD.o.r5.1 (fo BD.o.r7) (.bool (dN oN)) (.slice a27 (ws (dX oN)).length Ym) (.int .i64 (dE oN))) (BD.o.1.other BD.o.r5.1 BD.o.r6.1 HL.o (.bool (dN oN)) (.slice a27 (ws (dX oN)).length Ym) (.int .i64 (dE oN))) (BD.o.r5.1.xx BD.o.r4.1 (.bool (dN oN)) (.slice a27 (ws (dX oN)).length Ym) (.int .i64 (dE oN))) BD.o.r6.1 BD.o.r2.1 (mM BD.o.r7);obtain⟨Y1,jG⟩:=ah (dM V29 g29 (.bool (dN oN)) (.slice a27 (ws (dX oN)).length Ym) (.int .i64 (dE oN)));rw[<-jG] at BE;unfold dM at jG;obtain⟨zp,zq,DZ,MZ⟩:=BD.o.r5.1;obtain⟨z0,z1,z2,gQ,gT,gU⟩:=DZ.facts;clear DZ MZ;refine au (i:=9) df rfl (fun K' hK=>?_);go_simp;refine hK.out _ _ (fun h=>absurd h aj) ?_;clear hK K' z0 z1 z2 gQ gT gU kS BD;rw[<-jG];clear jG;obtain⟨zp,zq,DZ,MZ⟩:=BE.o.2.1;obtain⟨z0,z1,z2,gQ,gT,gU⟩:=DZ.facts;clear DZ MZ;refine au (i:=10) df rfl (fun K' hK=>?_);go_simp;refine hK.out _ _ (fun h=>absurd h aj) ?_;clear hK K' z0 z1 z2 gQ gT gU;refine aS df ?_ _;go_wp2_with fail
        go_meet
        case rel=>exact⟨g29,Yl,rfl,rfl,BE.o.1.other BE.o.2.1 BE.o.r6 _ _ _,BE.o.2.1.set BE.o.r3.1,BE.o.r2.1.other BE.o.2.1 BE.o.r5.1 HL.o _ _ _⟩
      · skip;go_simp;obtain⟨g30,Tw⟩:=ah (u27.heap.size);obtain⟨V30,WZ⟩:=ah (u27.alloc (Obj.cells zD3 25));have hb:Below u27.heap.size u27 V30:=by rw[WZ];exact af _ _
        have hZ:Lo V30 g30 iY:=by rw[WZ,Tw];exact Lo.zero _
        have BD:=nU (BD.o.1.below hb) (BD.o.2.1.below hb) BD.o.r2.1 (BD.o.r3.below hb) hZ (show w.heap.size+2<g30 by rw[Tw];exact BD.o.1.z0.lt) (show Yl<g30 by rw[Tw];exact BD.o.2.1.lt);have kS:=aA (jX hb kS.o);have HV:=(aP WZ Tw);clear hZ hb WZ Tw;refine hK.out _ _ (fun _=>by rw[<-HV.o.1];exact kS.o) ?_;clear hK K';rw[<-HV.o.1,<-HV.o.2];clear HV
        try simp only[Act.put,sa,sb,sc]
        refine au (i:=6) df rfl (fun K' hK=>?_);have C:=hid (Pj.o V30 ax cx (HT.o.belows BD.o.1.b) BD.o.1.nt);go_simp;refine C.o.mono ?_;rintro r u31 ⟨hd,hb⟩;obtain⟨a31,c31,rfl,hN⟩:=hd.aL;have BD:=uI (BD.o.1.below hb) (BD.o.2.1.below hb) BD.o.r2.1 (BD.o.r3.1.below hb) (BD.o.r4.1.below hb) BD.o.r5.1 BD.o.r6 hN;have kS:=aA (jX hb kS.o);clear hb hd hN C;dsimp only;refine hK.out _ _ (fun _=>kS.o) ?_;clear hK K'
        try simp only[Act.put,sa,sb,sc]
        have BE:=nU (BD.o.r4.1.set BD.o.r3.1) (BD.o.2.1.other BD.o.r4.1 (fo BD.o.r6.1) (.bool (dN oN)) (.slice a27 (ws (dX oN)).length Ym) (.int .i64 (dE oN))) (BD.o.1.other BD.o.r4.1 BD.o.r5.1 HL.o (.bool (dN oN)) (.slice a27 (ws (dX oN)).length Ym) (.int .i64 (dE oN))) (BD.o.r4.1.xx BD.o.r7 (.bool (dN oN)) (.slice a27 (ws (dX oN)).length Ym) (.int .i64 (dE oN))) BD.o.r5.1 BD.o.r2.1 (mM BD.o.r6.1);obtain⟨Y1,jG⟩:=ah (dM u31 g30 (.bool (dN oN)) (.slice a27 (ws (dX oN)).length Ym) (.int .i64 (dE oN)));rw[<-jG] at BE;unfold dM at jG;obtain⟨zp,zq,DZ,MZ⟩:=BD.o.r4.1;obtain⟨z0,z1,z2,gQ,gT,gU⟩:=DZ.facts;clear DZ MZ;refine au (i:=9) df rfl (fun K' hK=>?_);go_simp;refine hK.out _ _ (fun h=>absurd h aj) ?_;clear hK K' z0 z1 z2 gQ gT gU kS BD;rw[<-jG];clear jG;obtain⟨zp,zq,DZ,MZ⟩:=BE.o.2.1;obtain⟨z0,z1,z2,gQ,gT,gU⟩:=DZ.facts;clear DZ MZ;refine au (i:=10) df rfl (fun K' hK=>?_);go_simp;refine hK.out _ _ (fun h=>absurd h aj) ?_;clear hK K' z0 z1 z2 gQ gT gU;refine aS df ?_ _;go_wp2_with fail
        go_meet
        case rel=>exact⟨g30,Yl,rfl,rfl,BE.o.1.other BE.o.2.1 BE.o.r6 _ _ _,BE.o.2.1.set BE.o.r3.1,BE.o.r2.1.other BE.o.2.1 BE.o.r5.1 HL.o _ _ _⟩
    · skip;go_simp;obtain⟨g32,Tx⟩:=ah (ZZ.heap.size);obtain⟨V32,W9⟩:=ah (ZZ.alloc (Obj.cells zD3 25));have hb:Below ZZ.heap.size ZZ V32:=by rw[W9];exact af _ _
      have hZ:Lo V32 g32 iY:=by rw[W9,Tx];exact Lo.zero _
      have BD:=jJ (BD.o.1.below hb) (BD.o.2.1.below hb) BD.o.r2 hZ (show w.heap.size+2<g32 by rw[Tx];exact BD.o.1.z0.lt) (show Yl<g32 by rw[Tx];exact BD.o.2.1.lt);have kS:=aA (jX hb kS.o);have HV:=(aP W9 Tx);clear hZ hb W9 Tx;refine hK.out _ _ (fun _=>by rw[<-HV.o.1];exact kS.o) ?_;clear hK K';rw[<-HV.o.1,<-HV.o.2];clear HV
      try simp only[Act.put,sa,sb,sc]
      refine au (i:=3) df rfl (fun K' hK=>?_);have C:=hid (HI.o V32 (HT.o.belows BD.o.1.b));go_simp;refine C.o.mono ?_;rintro r u33 ⟨hd,hb⟩;obtain⟨a33,c33,rfl,hN⟩:=hd.aL;have BD:=nU (BD.o.1.below hb) (BD.o.2.1.below hb) BD.o.r2.1 (BD.o.r3.1.below hb) BD.o.r4.1 BD.o.r5 hN;have kS:=aA (jX hb kS.o);clear hb hd hN C;dsimp only;refine hK.out _ _ (fun _=>kS.o) ?_;clear hK K'
      try simp only[Act.put,sa,sb,sc]
      refine au (i:=6) df rfl (fun K' hK=>?_);have C:=hid (Pj.o u33 ax cx (HT.o.belows BD.o.1.b) BD.o.1.nt);go_simp;refine C.o.mono ?_;rintro r u34 ⟨hd,hb⟩;obtain⟨a34,c34,rfl,hN⟩:=hd.aL;have BD:=uI (BD.o.1.below hb) (BD.o.2.1.below hb) BD.o.r2.1 (BD.o.r3.1.below hb) BD.o.r4.1 BD.o.r5.1 (BD.o.r6.below hb) hN;have kS:=aA (jX hb kS.o);clear hb hd hN C;dsimp only;refine hK.out _ _ (fun _=>kS.o) ?_;clear hK K'
      try simp only[Act.put,sa,sb,sc]
      have BE:=nU (BD.o.r3.1.set BD.o.r6.1) (BD.o.2.1.other BD.o.r3.1 (fo BD.o.r5.1) (.bool (dN oN)) (.slice a33 (ws (dX oN)).length c33) (.int .i64 (dE oN))) (BD.o.1.other BD.o.r3.1 BD.o.r4.1 HL.o (.bool (dN oN)) (.slice a33 (ws (dX oN)).length c33) (.int .i64 (dE oN))) (BD.o.r3.1.xx BD.o.r7 (.bool (dN oN)) (.slice a33 (ws (dX oN)).length c33) (.int .i64 (dE oN))) BD.o.r4.1 BD.o.r2.1 (mM BD.o.r5.1);obtain⟨Y1,jG⟩:=ah (dM u34 g32 (.bool (dN oN)) (.slice a33 (ws (dX oN)).length c33) (.int .i64 (dE oN)));rw[<-jG] at BE;unfold dM at jG;obtain⟨zp,zq,DZ,MZ⟩:=BD.o.r3.1;obtain⟨z0,z1,z2,gQ,gT,gU⟩:=DZ.facts;clear DZ MZ;refine au (i:=9) df rfl (fun K' hK=>?_);go_simp;refine hK.out _ _ (fun h=>absurd h aj) ?_;clear hK K' z0 z1 z2 gQ gT gU kS BD;rw[<-jG];clear jG;obtain⟨zp,zq,DZ,MZ⟩:=BE.o.2.1;obtain⟨z0,z1,z2,gQ,gT,gU⟩:=DZ.facts;clear DZ MZ;refine au (i:=10) df rfl (fun K' hK=>?_);go_simp;refine hK.out _ _ (fun h=>absurd h aj) ?_;clear hK K' z0 z1 z2 gQ gT gU;refine aS df ?_ _;go_wp2_with fail
      go_meet
      case rel=>exact⟨g32,Yl,rfl,rfl,BE.o.1.other BE.o.2.1 BE.o.r6 _ _ _,BE.o.2.1.set BE.o.r3.1,BE.o.r2.1.other BE.o.2.1 BE.o.r5.1 HL.o _ _ _⟩
 obtain⟨g5,g6,rfl,rfl,K1⟩:=hcut;obtain⟨U,hU⟩:=ah wc;rw[<-hU] at K1 |-;clear hU H0 HI Pj;have s0:=K1.o.r2.k0.cell 0 _ rfl;have C:=hid (HC.o U g5 g6 (HT.o.belows K1.o.r2.b) K1.o.1 K1.o.2.1 K1.o.r2);go_wp2_with fail;refine C.o.mono ?_;rintro r u1 ⟨hd,hb⟩;obtain⟨a1,c1,rfl,hN1⟩:=hd.aL;have H1:=(dC (K1.o.r2.z0.below hb) (K1.o.r2.b.trans (hb.mono K1.o.r2.b.size)) hN1);clear hb hd hN1 C s0 K1;obtain⟨p2,q2,D2,M2⟩:=H1.o.1;obtain⟨y0,y1,y2,dF,dG,dH⟩:=D2.facts;clear D2 M2;go_wp2;exact jT Tryz.results46 rfl H1.o.1 H1.o.2.1 ae H1.o.r2
end
end Go.Proofs.YtfmfhehbdfhnbaaGreatDoor
