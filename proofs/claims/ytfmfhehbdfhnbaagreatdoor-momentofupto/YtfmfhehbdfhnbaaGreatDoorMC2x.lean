import Derived.Test.YtfmfhehbdfhnbaaGreatDoorMDOkx
import Derived.Deep.Cut
set_option linter.unusedVariables false
set_option linter.unusedSimpArgs false
set_option maxHeartbeats 16000000
set_option maxRecDepth 20000
namespace Go.Proofs.YtfmfhehbdfhnbaaGreatDoor
namespace J
end J
section
open Go Go.RowKit J
structure Dn (u v:World) (n k h0 h1 h2 h3 gx:Nat) (ax:Option Addr) (cx:Nat) (A:Nat->Option (Bool×Nat×Int)) (oN oS oL:Option (Bool×Nat×Int)):Prop where
 n0:Lo v h0 oN
 x0:Bl v h1 74 [.slice (some ⟨gx,0,none⟩) n n,.bool (dN oS),.slice ax (ws (dX oS)).length cx,.int .i64 (dE oS)]
 dr:Dr v gx n n A
 nt:Nt 0 v (.slice ax (ws (dX oS)).length cx) (dX oS)
 k0:Bl v h2 3 [.int .i64 (k:Nat)]
 l0:Lo v h3 oL
 z0:Lo v u.heap.size iX
 b:Below u.heap.size u v
theorem Dn.below {u v y:World}{n k h0 h1 h2 h3 gx:Nat}{ax:Option Addr}{cx:Nat}{A:Nat->Option (Bool×Nat×Int)}{oN oS oL:Option (Bool×Nat×Int)}(h:Dn u v n k h0 h1 h2 h3 gx ax cx A oN oS oL) (hb:Below v.heap.size v y):Dn u y n k h0 h1 h2 h3 gx ax cx A oN oS oL :=
 ⟨h.n0.below hb,h.x0.below hb h.x0.lt,h.dr.below hb,h.nt.below hb,h.k0.below hb h.k0.lt,h.l0.below hb,h.z0.below hb,h.b.trans (hb.mono h.b.size)⟩
theorem Dn.other {u v:World}{n k h0 h1 h2 h3 gx g:Nat}{ax:Option Addr}{cx:Nat}{A:Nat->Option (Bool×Nat×Int)}{oN oS oL q:Option (Bool×Nat×Int)}(h:Dn u v n k h0 h1 h2 h3 gx ax cx A oN oS oL) (hL:Lo v g q) (hg:u.heap.size<g) (H:h0<u.heap.size/\h1<u.heap.size/\h2<u.heap.size/\h3<u.heap.size/\gx<u.heap.size) (x y z:Value):Dn u (cZ v g x y z) n k h0 h1 h2 h3 gx ax cx A oN oS oL:=by
 have hb:=ku g v x y z;obtain ⟨a0,c0,hD,hM⟩:=hL;exact ⟨h.n0.other ⟨a0,c0,hD,hM⟩ af _ _ _,h.x0.but hb af,h.dr.but (T:=25) (L:=[_,_,_]) hb hD af au,h.nt.rz hD _ _ _,h.k0.but hb af,h.l0.other ⟨a0,c0,hD,hM⟩ af _ _ _,h.z0.other ⟨a0,c0,hD,hM⟩ af _ _ _,dY h.b h.b.size af _ _ _⟩
theorem Dp (u:World) (n k j h0 h1 h2 h3 gx:Nat) (ax:Option Addr) (cx:Nat) (cb:Int) (A:Nat->Option (Bool×Nat×Int)) (oN oS oL oR1 oP oW oC oR2 oX oA:Option (Bool×Nat×Int)) (hT:dJ u) (hj:j<=k) (hk:k<=4)
 (FF:Aside (Fm oR1/\Fm oP/\Fm oW/\Fm oC/\Fm oR2/\Fm oX/\Fm oA)) (EE:Aside (dK oR1 oP=oW/\dK oW oR2=oX/\dK oC oX=oA))
 (HR1:Hid (∀ (v:World) (a:Option Addr) (d:Nat),dJ v->Nt 0 v (.slice a (ws (dX oN)).length d) (dX oN)->Calls Tryz.prog 47 #[.agg #[.bool (dN oN),.slice a (ws (dX oN)).length d,.int .i64 (dE oN)],.int .i64 (j:Nat)] v fun r w'=>bC 0 w' r oR1/\Below v.heap.size v w'))
 (Zb:Hid (∀ v:World,dJ v->Rr v (.agg #[.slice (some ⟨gx,0,none⟩) n n,.bool (dN oS),.slice ax (ws (dX oS)).length cx,.int .i64 (dE oS)]) n A oS->Calls Tryz.prog 88 #[.agg #[.slice (some ⟨gx,0,none⟩) n n,.bool (dN oS),.slice ax (ws (dX oS)).length cx,.int .i64 (dE oS)],.int .i64 (j:Nat)] v fun r w'=>bC 0 w' r oP/\Below v.heap.size v w'))
 (HOv:Hid (∀ v:World,Calls Tryz.prog 89 #[.int .i64 (k:Nat),.int .i64 (j:Nat)] v fun r w'=>r=.returned (.int .i64 cb)/\w'=v))
 (HI:Hid (∀ v:World,dJ v->Calls Tryz.prog 48 #[.int .i64 cb] v fun r w'=>bC 0 w' r oC/\Below v.heap.size v w'))
 (HR2:Hid (∀ (v:World) (a:Option Addr) (d:Nat),dJ v->Nt 0 v (.slice a (ws (dX oL)).length d) (dX oL)->Calls Tryz.prog 47 #[.agg #[.bool (dN oL),.slice a (ws (dX oL)).length d,.int .i64 (dE oL)],.int .i64 ((k:Int)-(j:Int))] v fun r w'=>bC 0 w' r oR2/\Below v.heap.size v w'))
 (B1:Lo u h0 oN) (B2:Bl u h1 74 [.slice (some ⟨gx,0,none⟩) n n,.bool (dN oS),.slice ax (ws (dX oS)).length cx,.int .i64 (dE oS)]) (B3:Dr u gx n n A) (B4:Nt 0 u (.slice ax (ws (dX oS)).length cx) (dX oS)) (B5:Bl u h2 3 [.int .i64 (k:Nat)]) (B6:Lo u h3 oL) :
 Calls Tryz.prog 87 #[.int .i64 (j:Nat),.pointer (some ⟨h0,0,none⟩),.pointer (some ⟨h1,0,none⟩),.pointer (some ⟨h2,0,none⟩),.pointer (some ⟨h3,0,none⟩)] u fun r w'=>bC 0 w' r oA/\Below u.heap.size u w':=by
 obtain ⟨W,hW⟩:=ah (u.alloc (Obj.cells #[.bool false,.slice none 0 0,.int .i64 0] 25));have HL:Aside (h0<u.heap.size/\h1<u.heap.size/\h2<u.heap.size/\h3<u.heap.size/\gx<u.heap.size):=⟨B1.lt,B2.lt,B5.lt,B6.lt,B3.lt⟩
 have H0:Aside (Dn u W n k h0 h1 h2 h3 gx ax cx A oN oS oL):=by
  rw [hW];exact ⟨B1.below (ae _ _),B2.alloc _,B3.below (ae _ _),B4.below (ae _ _),B5.alloc _,B6.below (ae _ _),Lo.zero _,ae _ _⟩
 have HW:=ak hW;have HT:=ak hT;have hwr:IntKind.i64.wrap ((k:Int)-(j:Int))=(k:Int)-(j:Int):=by rw [zx];omega
 clear hW hT B1 B2 B3 B4 B5 B6;go_enter Tryz.func87,Tryz.ntmps87
 go_upto_region 1 with fail
 rw [<-HW.o];clear HW
 go_cut [7] from 8 to 14 (fun q wx=>∃ g7:Nat,q=.pointer (some ⟨g7,0,none⟩)/\Aside (Lo wx g7 oW/\Dn u wx n k h0 h1 h2 h3 gx ax cx A oN oS oL/\u.heap.size<g7))
 case first =>
  have hdr:=(aD W.heap.size W).drew;obtain ⟨p1,q1,D1,M1⟩:=(H0.o.below hdr).n0;have kS:Aside (W.drew.cell? ⟨h0,0,none⟩=some (.bool (dN oN))/\W.drew.cell? ⟨h0,1,none⟩=some (.slice p1 (ws (dX oN)).length q1)/\W.drew.cell? ⟨h0,2,none⟩=some (.int .i64 (dE oN))/\W.drew.cell? ⟨h1,0,none⟩=some (.slice (some ⟨gx,0,none⟩) n n)/\W.drew.cell? ⟨h1,1,none⟩=some (.bool (dN oS))/\W.drew.cell? ⟨h1,2,none⟩=some (.slice ax (ws (dX oS)).length cx)/\W.drew.cell? ⟨h1,3,none⟩=some (.int .i64 (dE oS))):=⟨D1.facts.1,D1.facts.2.1,D1.facts.2.2.1,(H0.o.below hdr).x0.cell 0 _ rfl,(H0.o.below hdr).x0.cell 1 _ rfl,(H0.o.below hdr).x0.cell 2 _ rfl,(H0.o.below hdr).x0.cell 3 _ rfl⟩;have BD:=aJ (H0.o.below hdr) M1;clear hdr D1 M1 H0;refine fI (fun w'=>w'.cell? ⟨h0,0,none⟩=some (.bool (dN oN))/\w'.cell? ⟨h0,1,none⟩=some (.slice p1 (ws (dX oN)).length q1)/\w'.cell? ⟨h0,2,none⟩=some (.int .i64 (dE oN))/\w'.cell? ⟨h1,0,none⟩=some (.slice (some ⟨gx,0,none⟩) n n)/\w'.cell? ⟨h1,1,none⟩=some (.bool (dN oS))/\w'.cell? ⟨h1,2,none⟩=some (.slice ax (ws (dX oS)).length cx)/\w'.cell? ⟨h1,3,none⟩=some (.int .i64 (dE oS))) 8 dm ?_;obtain ⟨Wd,hWd⟩:=ah (W.drew);rw [<-hWd] at BD kS |-;clear hWd
  refine tk 0 [2,6] rfl kS.o ?_;try simp only [Act.put,sa,sb,sc]
  refine tk 1 [2,6] rfl kS.o ?_;try simp only [Act.put,sa,sb,sc]
  refine tk 3 [5,6] rfl kS.o ?_;try simp only [Act.put,sa,sb,sc]
  refine tk 4 [5,6] rfl kS.o ?_;try simp only [Act.put,sa,sb,sc]
  refine di (i:=2) (j:=7) dm rfl rfl (fun K' hK=>?_) (fun K' hK=>?_)
  · skip;have C:=hid (HR1.o Wd p1 q1 (HT.o.belows BD.o.1.b) BD.o.2);go_simp;refine C.o.mono ?_;rintro r u1 ⟨hd,hb⟩;obtain ⟨a1,c1,rfl,hN⟩:=hd.aG;have BD:=aZ (BD.o.1.below hb) (BD.o.2.below hb) hN;have kS:=ak (ck hb kS.o fun h=>vG hb h);clear hb hd hN C;dsimp only;refine hK.out _ _ (fun _=>kS.o) ?_;clear hK K'
    try simp only [Act.put,sa,sb,sc]
    refine di (i:=5) (j:=7) dm rfl rfl (fun K' hK=>?_) (fun K' hK=>?_)
    · skip;have C:=hid (Zb.o u1 (HT.o.belows BD.o.1.b) ⟨gx,ax,cx,rfl,BD.o.1.dr,BD.o.1.nt⟩);go_simp;refine C.o.mono ?_;rintro r u2 ⟨hd,hb⟩;obtain ⟨a2,c2,rfl,hN⟩:=hd.aG;have BD:=gK (BD.o.1.below hb) (BD.o.2.1.below hb) (BD.o.r2.below hb) hN;have kS:=ak (ck hb kS.o fun h=>vG hb h);clear hb hd hN C;dsimp only;refine hK.out _ _ (fun _=>kS.o) ?_;clear hK K'
      try simp only [Act.put,sa,sb,sc]
      refine di (i:=6) (j:=7) dm rfl rfl (fun K' hK=>?_) (fun K' hK=>?_)
      · skip;have C:=hid (gL FF.o.1 FF.o.2.1 FF.o.r2.1 BD.o.r2.1 BD.o.r3 (HT.o.belows BD.o.1.b) EE.o.1);go_simp;refine C.o.mono ?_;rintro r u3 ⟨hd,hb⟩;obtain ⟨a3,c3,rfl,hN⟩:=hd.aG;have BD:=eu (BD.o.1.below hb) (BD.o.2.1.below hb) (BD.o.r2.1.below hb) (BD.o.r3.below hb) hN;have kS:=ak (ck hb kS.o fun h=>vG hb h);clear hb hd hN C;dsimp only;refine hK.out _ _ (fun _=>kS.o) ?_;clear hK K'
        try simp only [Act.put,sa,sb,sc]
        refine aA (i:=7) dm rfl (fun K' hK=>?_);go_simp;obtain ⟨g4,hg4⟩:=ah (u3.heap.size);obtain ⟨V4,Ay⟩:=ah (u3.alloc (Obj.cells #[.bool false,.slice none 0 0,.int .i64 0] 25));have hb:Below u3.heap.size u3 V4:=by rw [Ay];exact ae _ _
        have hZ:Lo V4 g4 iX:=by rw [Ay,hg4];exact Lo.zero _
        have BD:=l7 (BD.o.1.below hb) (BD.o.2.1.below hb) (BD.o.r2.1.below hb) (BD.o.r3.1.below hb) (BD.o.r4.below hb) hZ (show u.heap.size<g4 by rw [hg4];exact BD.o.1.z0.lt);have kS:=ak (ck hb kS.o fun h=>vG hb h);have HV:=(aJ Ay hg4);clear hZ hb Ay hg4;refine hK.out _ _ (fun _=>by rw [<-HV.o.1];exact kS.o) ?_;clear hK K';rw [<-HV.o.1,<-HV.o.2];clear HV
        try simp only [Act.put,sa,sb,sc]
        obtain ⟨zp,zq,DZ,MZ⟩:=BD.o.r5.1;obtain ⟨z0,z1,z2,eF,eG,eO⟩:=DZ.facts;clear DZ MZ;refine aA (i:=8) dm rfl (fun K' hK=>?_);go_simp;refine hK.out _ _ (fun h=>absurd h au) ?_;clear hK K' z0 z1 z2 eF eG eO kS;refine aQ dm ?_ _;go_wp2_with fail
        go_meet
        case rel=>exact ⟨g4,rfl,BD.o.r5.1.set BD.o.r4.1,BD.o.1.other BD.o.r5.1 BD.o.r6 HL.o _ _ _,BD.o.r6⟩
      · skip;go_simp;obtain ⟨g5,hg5⟩:=ah (u2.heap.size);obtain ⟨V5,Ig⟩:=ah (u2.alloc (Obj.cells #[.bool false,.slice none 0 0,.int .i64 0] 25));have hb:Below u2.heap.size u2 V5:=by rw [Ig];exact ae _ _
        have hZ:Lo V5 g5 iX:=by rw [Ig,hg5];exact Lo.zero _
        have BD:=iI (BD.o.1.below hb) (BD.o.2.1.below hb) (BD.o.r2.1.below hb) (BD.o.r3.below hb) hZ (show u.heap.size<g5 by rw [hg5];exact BD.o.1.z0.lt);have kS:=ak (ck hb kS.o fun h=>vG hb h);have HV:=(aJ Ig hg5);clear hZ hb Ig hg5;refine hK.out _ _ (fun _=>by rw [<-HV.o.1];exact kS.o) ?_;clear hK K';rw [<-HV.o.1,<-HV.o.2];clear HV
        try simp only [Act.put,sa,sb,sc]
        refine aA (i:=6) dm rfl (fun K' hK=>?_);have C:=hid (gL FF.o.1 FF.o.2.1 FF.o.r2.1 BD.o.r2.1 BD.o.r3.1 (HT.o.belows BD.o.1.b) EE.o.1);go_simp;refine C.o.mono ?_;rintro r u6 ⟨hd,hb⟩;obtain ⟨a6,c6,rfl,hN⟩:=hd.aG;have BD:=l7 (BD.o.1.below hb) (BD.o.2.1.below hb) (BD.o.r2.1.below hb) (BD.o.r3.1.below hb) (BD.o.r4.1.below hb) BD.o.r5 hN;have kS:=ak (ck hb kS.o fun h=>vG hb h);clear hb hd hN C;dsimp only;refine hK.out _ _ (fun _=>kS.o) ?_;clear hK K'
        try simp only [Act.put,sa,sb,sc]
        obtain ⟨zp,zq,DZ,MZ⟩:=BD.o.r4.1;obtain ⟨z0,z1,z2,eF,eG,eO⟩:=DZ.facts;clear DZ MZ;refine aA (i:=8) dm rfl (fun K' hK=>?_);go_simp;refine hK.out _ _ (fun h=>absurd h au) ?_;clear hK K' z0 z1 z2 eF eG eO kS;refine aQ dm ?_ _;go_wp2_with fail
        go_meet
        case rel=>exact ⟨g5,rfl,BD.o.r4.1.set BD.o.r6,BD.o.1.other BD.o.r4.1 BD.o.r5.1 HL.o _ _ _,BD.o.r5.1⟩
    · skip;go_simp;obtain ⟨g7,qz⟩:=ah (u1.heap.size);obtain ⟨V7,Ih⟩:=ah (u1.alloc (Obj.cells #[.bool false,.slice none 0 0,.int .i64 0] 25));have hb:Below u1.heap.size u1 V7:=by rw [Ih];exact ae _ _
      have hZ:Lo V7 g7 iX:=by rw [Ih,qz];exact Lo.zero _
      have BD:=eu (BD.o.1.below hb) (BD.o.2.1.below hb) (BD.o.r2.below hb) hZ (show u.heap.size<g7 by rw [qz];exact BD.o.1.z0.lt);have kS:=ak (ck hb kS.o fun h=>vG hb h);have HV:=(aJ Ih qz);clear hZ hb Ih qz;refine hK.out _ _ (fun _=>by rw [<-HV.o.1];exact kS.o) ?_;clear hK K';rw [<-HV.o.1,<-HV.o.2];clear HV
      try simp only [Act.put,sa,sb,sc]
      refine aA (i:=5) dm rfl (fun K' hK=>?_);have C:=hid (Zb.o V7 (HT.o.belows BD.o.1.b) ⟨gx,ax,cx,rfl,BD.o.1.dr,BD.o.1.nt⟩);go_simp;refine C.o.mono ?_;rintro r u8 ⟨hd,hb⟩;obtain ⟨a8,c8,rfl,hN⟩:=hd.aG;have BD:=iI (BD.o.1.below hb) (BD.o.2.1.below hb) (BD.o.r2.1.below hb) (BD.o.r3.1.below hb) BD.o.r4 hN;have kS:=ak (ck hb kS.o fun h=>vG hb h);clear hb hd hN C;dsimp only;refine hK.out _ _ (fun _=>kS.o) ?_;clear hK K'
      try simp only [Act.put,sa,sb,sc]
      refine aA (i:=6) dm rfl (fun K' hK=>?_);have C:=hid (gL FF.o.1 FF.o.2.1 FF.o.r2.1 BD.o.r2.1 BD.o.r5 (HT.o.belows BD.o.1.b) EE.o.1);go_simp;refine C.o.mono ?_;rintro r u9 ⟨hd,hb⟩;obtain ⟨a9,c9,rfl,hN⟩:=hd.aG;have BD:=l7 (BD.o.1.below hb) (BD.o.2.1.below hb) (BD.o.r2.1.below hb) (BD.o.r3.1.below hb) BD.o.r4.1 (BD.o.r5.below hb) hN;have kS:=ak (ck hb kS.o fun h=>vG hb h);clear hb hd hN C;dsimp only;refine hK.out _ _ (fun _=>kS.o) ?_;clear hK K'
      try simp only [Act.put,sa,sb,sc]
      obtain ⟨zp,zq,DZ,MZ⟩:=BD.o.r3.1;obtain ⟨z0,z1,z2,eF,eG,eO⟩:=DZ.facts;clear DZ MZ;refine aA (i:=8) dm rfl (fun K' hK=>?_);go_simp;refine hK.out _ _ (fun h=>absurd h au) ?_;clear hK K' z0 z1 z2 eF eG eO kS;refine aQ dm ?_ _;go_wp2_with fail
      go_meet
      case rel=>exact ⟨g7,rfl,BD.o.r3.1.set BD.o.r6,BD.o.1.other BD.o.r3.1 BD.o.r4.1 HL.o _ _ _,BD.o.r4.1⟩
  · skip;go_simp;obtain ⟨g10,lZ⟩:=ah (Wd.heap.size);obtain ⟨Pj,rP⟩:=ah (Wd.alloc (Obj.cells #[.bool false,.slice none 0 0,.int .i64 0] 25));have hb:Below Wd.heap.size Wd Pj:=by rw [rP];exact ae _ _
    have hZ:Lo Pj g10 iX:=by rw [rP,lZ];exact Lo.zero _
    have BD:=gK (BD.o.1.below hb) (BD.o.2.below hb) hZ (show u.heap.size<g10 by rw [lZ];exact BD.o.1.z0.lt);have kS:=ak (ck hb kS.o fun h=>vG hb h);have HV:=(aJ rP lZ);clear hZ hb rP lZ;refine hK.out _ _ (fun _=>by rw [<-HV.o.1];exact kS.o) ?_;clear hK K';rw [<-HV.o.1,<-HV.o.2];clear HV
    try simp only [Act.put,sa,sb,sc]
    refine aA (i:=2) dm rfl (fun K' hK=>?_);have C:=hid (HR1.o Pj p1 q1 (HT.o.belows BD.o.1.b) BD.o.2.1);go_simp;refine C.o.mono ?_;rintro r KS ⟨hd,hb⟩;obtain ⟨WC,c11,rfl,hN⟩:=hd.aG;have BD:=eu (BD.o.1.below hb) (BD.o.2.1.below hb) (BD.o.r2.1.below hb) BD.o.r3 hN;have kS:=ak (ck hb kS.o fun h=>vG hb h);clear hb hd hN C;dsimp only;refine hK.out _ _ (fun _=>kS.o) ?_;clear hK K'
    try simp only [Act.put,sa,sb,sc]
    refine aA (i:=5) dm rfl (fun K' hK=>?_);have C:=hid (Zb.o KS (HT.o.belows BD.o.1.b) ⟨gx,ax,cx,rfl,BD.o.1.dr,BD.o.1.nt⟩);go_simp;refine C.o.mono ?_;rintro r u12 ⟨hd,hb⟩;obtain ⟨a12,c12,rfl,hN⟩:=hd.aG;have BD:=iI (BD.o.1.below hb) (BD.o.2.1.below hb) (BD.o.r2.1.below hb) BD.o.r3.1 (BD.o.r4.below hb) hN;have kS:=ak (ck hb kS.o fun h=>vG hb h);clear hb hd hN C;dsimp only;refine hK.out _ _ (fun _=>kS.o) ?_;clear hK K'
    try simp only [Act.put,sa,sb,sc]
    refine aA (i:=6) dm rfl (fun K' hK=>?_);have C:=hid (gL FF.o.1 FF.o.2.1 FF.o.r2.1 BD.o.r4.1 BD.o.r5 (HT.o.belows BD.o.1.b) EE.o.1);go_simp;refine C.o.mono ?_;rintro r Pm ⟨hd,hb⟩;obtain ⟨a13,c13,rfl,hN⟩:=hd.aG;have BD:=l7 (BD.o.1.below hb) (BD.o.2.1.below hb) (BD.o.r2.1.below hb) BD.o.r3.1 (BD.o.r4.1.below hb) (BD.o.r5.below hb) hN;have kS:=ak (ck hb kS.o fun h=>vG hb h);clear hb hd hN C;dsimp only;refine hK.out _ _ (fun _=>kS.o) ?_;clear hK K'
    try simp only [Act.put,sa,sb,sc]
    obtain ⟨zp,zq,DZ,MZ⟩:=BD.o.r2.1;obtain ⟨z0,z1,z2,eF,eG,eO⟩:=DZ.facts;clear DZ MZ;refine aA (i:=8) dm rfl (fun K' hK=>?_);go_simp;refine hK.out _ _ (fun h=>absurd h au) ?_;clear hK K' z0 z1 z2 eF eG eO kS;refine aQ dm ?_ _;go_wp2_with fail
    go_meet
    case rel=>exact ⟨g10,rfl,BD.o.r2.1.set BD.o.r6,BD.o.1.other BD.o.r2.1 BD.o.r3.1 HL.o _ _ _,BD.o.r3.1⟩
 obtain ⟨g7,rfl,K1⟩:=hcut;obtain ⟨U,hU⟩:=ah wc;rw [<-hU] at K1 |-;clear hU H0 HR1 Zb;have hdr:=(aD U.heap.size U).drew;obtain ⟨p7,q7,D7,M7⟩:=K1.o.1.below hdr;obtain ⟨p3,q3,D3,M3⟩:=(K1.o.2.1.below hdr).l0;have kS:Aside (U.drew.cell? ⟨h2,0,none⟩=some (.int .i64 (k:Nat))/\U.drew.cell? ⟨g7,0,none⟩=some (.bool (dN oW))/\U.drew.cell? ⟨g7,1,none⟩=some (.slice p7 (ws (dX oW)).length q7)/\U.drew.cell? ⟨g7,2,none⟩=some (.int .i64 (dE oW))/\U.drew.cell? ⟨h3,0,none⟩=some (.bool (dN oL))/\U.drew.cell? ⟨h3,1,none⟩=some (.slice p3 (ws (dX oL)).length q3)/\U.drew.cell? ⟨h3,2,none⟩=some (.int .i64 (dE oL))):=⟨(K1.o.2.1.below hdr).k0.cell 0 _ rfl,D7.facts.1,D7.facts.2.1,D7.facts.2.2.1,D3.facts.1,D3.facts.2.1,D3.facts.2.2.1⟩;have BD:=aZ (K1.o.2.1.below hdr) M7 M3;have C1:=hid (HOv.o U.drew);clear D7 D3 M7 M3
 go_upto_region 2 with fail
 go_region_held3 (fun w'=>w'.cell? ⟨h2,0,none⟩=some (.int .i64 (k:Nat))/\w'.cell? ⟨g7,0,none⟩=some (.bool (dN oW))/\w'.cell? ⟨g7,1,none⟩=some (.slice p7 (ws (dX oW)).length q7)/\w'.cell? ⟨g7,2,none⟩=some (.int .i64 (dE oW))/\w'.cell? ⟨h3,0,none⟩=some (.bool (dN oL))/\w'.cell? ⟨h3,1,none⟩=some (.slice p3 (ws (dX oL)).length q3)/\w'.cell? ⟨h3,2,none⟩=some (.int .i64 (dE oL))) (first | with_reducible exact kS.o | with_reducible exact kT.o) (first
  | (go_at_call 89
     with_reducible refine C1.o.mono ?_
     rintro r v ⟨rfl,hv⟩;rw [hv];have C2:=hid (HI.o U.drew (HT.o.belows BD.o.1.b))
     clear hv v C1)
  | (go_at_call 48
     with_reducible refine C2.o.mono ?_
     rintro r v1 ⟨hd,hb⟩;obtain ⟨a1,c1,rfl,hN⟩:=hd.aG;have BD:=gK (BD.o.1.below hb) (BD.o.2.1.below hb) (BD.o.r2.below hb) hN;have kS:=ak (ck hb kS.o fun h=>vG hb h);have C3:=hid (HR2.o v1 p3 q3 (HT.o.belows BD.o.1.b) BD.o.r2.1)
     clear hb hd hN C2)
  | (go_at_call 47
     with_reducible refine C3.o.mono ?_
     rintro r v2 ⟨hd,hb⟩;obtain ⟨a3,c3,rfl,hN⟩:=hd.aG;have BD:=eu (BD.o.1.below hb) (BD.o.2.1.below hb) (BD.o.r2.1.below hb) (BD.o.r3.below hb) hN;have kS:=ak (ck hb kS.o fun h=>vG hb h);have C4:=hid (gL FF.o.r2.1 FF.o.r4.1 FF.o.r5.1 BD.o.2.1 BD.o.r4 (HT.o.belows BD.o.1.b) EE.o.2.1)
     clear hb hd hN C3)
  | (go_at_call 51
     with_reducible refine C4.o.mono ?_
     rintro r v3 ⟨hd,hb⟩;obtain ⟨a4,c4,rfl,hN⟩:=hd.aG;have BD:=eu (BD.o.1.below hb) (BD.o.2.1.below hb) (BD.o.r2.1.below hb) (BD.o.r3.1.below hb) hN;have kS:=ak (ck hb kS.o fun h=>vG hb h);have C5:=hid (gL FF.o.r3.1 FF.o.r5.1 FF.o.r6 BD.o.r3.1 BD.o.r4 (HT.o.belows BD.o.1.b) EE.o.r2)
     clear hb hd hN C4)
  | (go_at_call 51
     with_reducible refine C5.o.mono ?_
     rintro r v4 ⟨hd,hb⟩;obtain ⟨a5,c5,rfl,hN⟩:=hd.aG;have BD:=gK (BD.o.1.below hb) (BD.o.2.1.below hb) (BD.o.r2.1.below hb) hN;have kS:=ak (ck hb kS.o fun h=>vG hb h);have kT:=l7 (mM (g:=u.heap.size) (x:=.bool (dN oA)) (y:=.slice a5 (ws (dX oA)).length c5) (z:=.int .i64 (dE oA)) kS.o.1 (gZ HL.o.r2.1)) (mM (g:=u.heap.size) (x:=.bool (dN oA)) (y:=.slice a5 (ws (dX oA)).length c5) (z:=.int .i64 (dE oA)) kS.o.2.1 (kJ K1.o.r2)) (mM (g:=u.heap.size) (x:=.bool (dN oA)) (y:=.slice a5 (ws (dX oA)).length c5) (z:=.int .i64 (dE oA)) kS.o.r2.1 (kJ K1.o.r2)) (mM (g:=u.heap.size) (x:=.bool (dN oA)) (y:=.slice a5 (ws (dX oA)).length c5) (z:=.int .i64 (dE oA)) kS.o.r3.1 (kJ K1.o.r2)) (mM (g:=u.heap.size) (x:=.bool (dN oA)) (y:=.slice a5 (ws (dX oA)).length c5) (z:=.int .i64 (dE oA)) kS.o.r4.1 (gZ HL.o.r3.1)) (mM (g:=u.heap.size) (x:=.bool (dN oA)) (y:=.slice a5 (ws (dX oA)).length c5) (z:=.int .i64 (dE oA)) kS.o.r5.1 (gZ HL.o.r3.1)) (mM (g:=u.heap.size) (x:=.bool (dN oA)) (y:=.slice a5 (ws (dX oA)).length c5) (z:=.int .i64 (dE oA)) kS.o.r6 (gZ HL.o.r3.1));obtain ⟨zp,zq,DZ,MZ⟩:=BD.o.1.z0;obtain ⟨z0,z1,z2,eF,eG,eO⟩:=DZ.facts;clear DZ MZ
     clear hb hd hN C5))
 go_wp2;exact jX Tryz.results87 rfl BD.o.1.z0 BD.o.1.b (aC _) BD.o.r3
structure Az (w v:World) (n k gx:Nat) (ax:Option Addr) (cx:Nat) (A:Nat->Option (Bool×Nat×Int)) (oS:Option (Bool×Nat×Int)):Prop where
 x0:Bl v w.heap.size 74 [.slice (some ⟨gx,0,none⟩) n n,.bool (dN oS),.slice ax (ws (dX oS)).length cx,.int .i64 (dE oS)]
 k0:Bl v (w.heap.size+1) 3 [.int .i64 (k:Nat)]
 z0:Lo v (w.heap.size+2) iX
 dr:Dr v gx n n A
 nt:Nt 0 v (.slice ax (ws (dX oS)).length cx) (dX oS)
 b:Below w.heap.size w v
theorem Az.below {w v y:World}{n k gx:Nat}{ax:Option Addr}{cx:Nat}{A:Nat->Option (Bool×Nat×Int)}{oS:Option (Bool×Nat×Int)}(h:Az w v n k gx ax cx A oS) (hb:Below v.heap.size v y):Az w y n k gx ax cx A oS :=
 ⟨h.x0.below hb h.x0.lt,h.k0.below hb h.k0.lt,h.z0.below hb,h.dr.below hb,h.nt.below hb,h.b.trans (hb.mono h.b.size)⟩
theorem Az.other {w v:World}{n k gx g:Nat}{ax:Option Addr}{cx:Nat}{A:Nat->Option (Bool×Nat×Int)}{oS q:Option (Bool×Nat×Int)}(h:Az w v n k gx ax cx A oS) (hL:Lo v g q) (hg:w.heap.size+2<g) (hx:gx<w.heap.size) (x y z:Value):Az w (cZ v g x y z) n k gx ax cx A oS:=by
 have hb:=ku g v x y z;obtain ⟨a0,c0,hD,hM⟩:=hL;exact ⟨h.x0.but hb af,h.k0.but hb af,h.z0.other ⟨a0,c0,hD,hM⟩ af _ _ _,h.dr.but (T:=25) (L:=[_,_,_]) hb hD af au,h.nt.rz hD _ _ _,dY h.b h.b.size af _ _ _⟩
theorem Lo.uP {w:World}{g:Nat}{o:Option (Bool×Nat×Int)}{v:Value}{X:Nat}(h:Lo w g o) (hN:Nt 0 w v X) (x y z:Value):Nt 0 (cZ w g x y z) v X:=by
 obtain ⟨a,c,hD,_⟩:=h;exact hN.rz hD _ _ _
theorem FZ (w:World) (n k gx:Nat) (ax:Option Addr) (cx:Nat) (A:Nat->Option (Bool×Nat×Int)) (oS oN oL oR:Option (Bool×Nat×Int)) (hT:dJ w) (hk:k<=4) (hn:n<=65536)
 (HI:Hid (∀ v:World,dJ v->Calls Tryz.prog 48 #[.int .i64 (n:Nat)] v fun r w'=>bC 0 w' r oN/\Below v.heap.size v w'))
 (Lg:Hid (∀ (v:World) (a:Option Addr) (d:Nat),dJ v->Nt 0 v (.slice a (ws (dX oS)).length d) (dX oS)->Calls Tryz.prog 86 #[.agg #[.bool (dN oS),.slice a (ws (dX oS)).length d,.int .i64 (dE oS)]] v fun r w'=>bC 0 w' r oL/\Below v.heap.size v w'))
 (HC:Hid (∀ (u:World) (g5 g6:Nat),dJ u->Lo u g5 oN->Lo u g6 oL->Az w u n k gx ax cx A oS->Calls Tryz.prog 84 #[.int .i64 ((k+1:Nat):Int),.func (.func 87) #[] #[.pointer (some ⟨g5,0,none⟩),.pointer (some ⟨w.heap.size,0,none⟩),.pointer (some ⟨w.heap.size+1,0,none⟩),.pointer (some ⟨g6,0,none⟩)]] u fun r w'=>bC 0 w' r oR/\Below u.heap.size u w'))
 (B3:Dr w gx n n A) (B4:Nt 0 w (.slice ax (ws (dX oS)).length cx) (dX oS)) :
 Calls Tryz.prog 46 #[.agg #[.slice (some ⟨gx,0,none⟩) n n,.bool (dN oS),.slice ax (ws (dX oS)).length cx,.int .i64 (dE oS)],.int .i64 (k:Nat)] w fun r w'=>bC 0 w' r oR/\Below w.heap.size w w':=by
 obtain ⟨W,hW⟩:=ah (((w.alloc (Obj.cells #[.slice (some ⟨gx,0,none⟩) n n,.bool (dN oS),.slice ax (ws (dX oS)).length cx,.int .i64 (dE oS)] 74)).alloc (Obj.cells #[.int .i64 (k:Nat)] 3)).alloc (Obj.cells #[.bool false,.slice none 0 0,.int .i64 0] 25));have HL:=ak B3.lt
 have H0:Aside (Az w W n k gx ax cx A oS):=by
  have hbW:Below w.heap.size w W:=by rw [hW];exact ((ae _ _).trans ((ae _ _).mono aO)).trans ((ae _ _).mono (by simp;omega))
  refine ⟨?_,?_,?_,B3.below hbW,B4.below hbW,hbW⟩
  · rw [hW];exact ((Bl.new w 74 [.slice (some ⟨gx,0,none⟩) n n,.bool (dN oS),.slice ax (ws (dX oS)).length cx,.int .i64 (dE oS)]).alloc _).alloc _
  · have z1:=Bl.new (w.alloc (Obj.cells #[.slice (some ⟨gx,0,none⟩) n n,.bool (dN oS),.slice ax (ws (dX oS)).length cx,.int .i64 (dE oS)] 74)) 3 [.int .i64 (k:Nat)];rw [dL] at z1;rw [hW];exact z1.alloc _
  · have z2:=Lo.zero ((w.alloc (Obj.cells #[.slice (some ⟨gx,0,none⟩) n n,.bool (dN oS),.slice ax (ws (dX oS)).length cx,.int .i64 (dE oS)] 74)).alloc (Obj.cells #[.int .i64 (k:Nat)] 3));rw [dL,dL] at z2;rw [hW];exact z2
 have HW:=ak hW;have HT:=ak hT;have hwr:IntKind.i64.wrap ((k:Int)+1)=((k+1:Nat):Int):=by rw [zx];omega
 have hmf:∀ (fn:Fn) (first cap:Array Value) (w:World),(Instr.makeFunc fn first cap).run Tryz.prog w=.ok (.func fn first cap) w:=fun _ _ _ _=>rfl;clear hW hT B3 B4;go_enter Tryz.func46,Tryz.ntmps46
 go_upto_region 1 with fail
 rw [<-HW.o];clear HW
 go_cut [5,6] from 7 to 13 (fun q q' wx=>∃ g5 g6:Nat,q=.pointer (some ⟨g5,0,none⟩)/\q'=.pointer (some ⟨g6,0,none⟩)/\Aside (Lo wx g5 oN/\Lo wx g6 oL/\Az w wx n k gx ax cx A oS))
 case first =>
  have hdr:=(aD W.heap.size W).drew;have kS:Aside (W.drew.cell? ⟨w.heap.size,0,none⟩=some (.slice (some ⟨gx,0,none⟩) n n)/\W.drew.cell? ⟨w.heap.size,1,none⟩=some (.bool (dN oS))/\W.drew.cell? ⟨w.heap.size,2,none⟩=some (.slice ax (ws (dX oS)).length cx)/\W.drew.cell? ⟨w.heap.size,3,none⟩=some (.int .i64 (dE oS))):=⟨(H0.o.below hdr).x0.cell 0 _ rfl,(H0.o.below hdr).x0.cell 1 _ rfl,(H0.o.below hdr).x0.cell 2 _ rfl,(H0.o.below hdr).x0.cell 3 _ rfl⟩;have BD:=ak (H0.o.below hdr);clear hdr H0;refine fI (fun w'=>w'.cell? ⟨w.heap.size,0,none⟩=some (.slice (some ⟨gx,0,none⟩) n n)/\w'.cell? ⟨w.heap.size,1,none⟩=some (.bool (dN oS))/\w'.cell? ⟨w.heap.size,2,none⟩=some (.slice ax (ws (dX oS)).length cx)/\w'.cell? ⟨w.heap.size,3,none⟩=some (.int .i64 (dE oS))) 9 dm ?_;obtain ⟨Wd,hWd⟩:=ah (W.drew);rw [<-hWd] at BD kS |-;clear hWd
  refine tk 0 [1,2,3] rfl kS.o ?_;try simp only [Act.put,sa,sb,sc]
  refine tk 1 [2,3] rfl kS.o ?_;try simp only [Act.put,sa,sb,sc]
  refine tk 2 [3] rfl kS.o ?_;try simp only [Act.put,sa,sb,sc]
  refine tk 4 [5,6] rfl kS.o ?_;try simp only [Act.put,sa,sb,sc]
  refine tk 5 [6] rfl kS.o ?_;try simp only [Act.put,sa,sb,sc]
  refine qa (i:=3) (j:=7) (k:=8) dm rfl rfl rfl (fun K' hK=>?_) (fun K' hK=>?_) (fun K' hK=>?_)
  · skip;have C:=hid (HI.o Wd (HT.o.belows BD.o.b));go_simp;refine C.o.mono ?_;rintro r u1 ⟨hd,hb⟩;obtain ⟨a1,c1,rfl,hN⟩:=hd.aG;have BD:=aJ (BD.o.below hb) hN;have kS:=ak (jr hb kS.o);clear hb hd hN C;dsimp only;refine hK.out _ _ (fun _=>kS.o) ?_;clear hK K'
    try simp only [Act.put,sa,sb,sc]
    refine qa (i:=6) (j:=7) (k:=8) dm rfl rfl rfl (fun K' hK=>?_) (fun K' hK=>?_) (fun K' hK=>?_)
    · skip;have C:=hid (Lg.o u1 ax cx (HT.o.belows BD.o.1.b) BD.o.1.nt);go_simp;refine C.o.mono ?_;rintro r u2 ⟨hd,hb⟩;obtain ⟨a2,c2,rfl,hN⟩:=hd.aG;have BD:=aZ (BD.o.1.below hb) (BD.o.2.below hb) hN;have kS:=ak (jr hb kS.o);clear hb hd hN C;dsimp only;refine hK.out _ _ (fun _=>kS.o) ?_;clear hK K'
      try simp only [Act.put,sa,sb,sc]
      refine di (i:=7) (j:=8) dm rfl rfl (fun K' hK=>?_) (fun K' hK=>?_)
      · skip;go_simp;obtain ⟨g3,hg3⟩:=ah (u2.heap.size);obtain ⟨V3,SH⟩:=ah (u2.alloc (Obj.cells #[.bool false,.slice none 0 0,.int .i64 0] 25));have hb:Below u2.heap.size u2 V3:=by rw [SH];exact ae _ _
        have hZ:Lo V3 g3 iX:=by rw [SH,hg3];exact Lo.zero _
        have BD:=eu (BD.o.1.below hb) (BD.o.2.1.below hb) (BD.o.r2.below hb) hZ (show w.heap.size+2<g3 by rw [hg3];exact BD.o.1.z0.lt);have kS:=ak (jr hb kS.o);have HV:=(aJ SH hg3);clear hZ hb SH hg3;refine hK.out _ _ (fun _=>by rw [<-HV.o.1];exact kS.o) ?_;clear hK K';rw [<-HV.o.1,<-HV.o.2];clear HV
        try simp only [Act.put,sa,sb,sc]
        refine aA (i:=8) dm rfl (fun K' hK=>?_);go_simp;obtain ⟨g4,hg4⟩:=ah (V3.heap.size);obtain ⟨V4,Ay⟩:=ah (V3.alloc (Obj.cells #[.bool false,.slice none 0 0,.int .i64 0] 25));have hb:Below V3.heap.size V3 V4:=by rw [Ay];exact ae _ _
        have hZ:Lo V4 g4 iX:=by rw [Ay,hg4];exact Lo.zero _
        have BD:=rT (BD.o.1.below hb) (BD.o.2.1.below hb) (BD.o.r2.1.below hb) (BD.o.r3.1.below hb) BD.o.r4 hZ (show w.heap.size+2<g4 by rw [hg4];exact BD.o.1.z0.lt) (show g3<g4 by rw [hg4];exact BD.o.r3.1.lt);have kS:=ak (jr hb kS.o);have HV:=(aJ Ay hg4);clear hZ hb Ay hg4;refine hK.out _ _ (fun _=>by rw [<-HV.o.1];exact kS.o) ?_;clear hK K';rw [<-HV.o.1,<-HV.o.2];clear HV
        try simp only [Act.put,sa,sb,sc]
        have BE:=l7 (BD.o.r3.1.set BD.o.2.1) (BD.o.r5.1.other BD.o.r3.1 (kJ BD.o.r7) (.bool (dN oN)) (.slice a1 (ws (dX oN)).length c1) (.int .i64 (dE oN))) (BD.o.1.other BD.o.r3.1 BD.o.r4.1 HL.o (.bool (dN oN)) (.slice a1 (ws (dX oN)).length c1) (.int .i64 (dE oN))) (BD.o.r3.1.uP BD.o.r2.1 (.bool (dN oN)) (.slice a1 (ws (dX oN)).length c1) (.int .i64 (dE oN))) BD.o.r4.1 BD.o.r6.1 (gZ BD.o.r7);obtain ⟨Y1,iO⟩:=ah (cZ V4 g3 (.bool (dN oN)) (.slice a1 (ws (dX oN)).length c1) (.int .i64 (dE oN)));rw [<-iO] at BE;unfold cZ at iO;obtain ⟨zp,zq,DZ,MZ⟩:=BD.o.r3.1;obtain ⟨z0,z1,z2,eF,eG,eO⟩:=DZ.facts;clear DZ MZ;refine aA (i:=9) dm rfl (fun K' hK=>?_);go_simp;refine hK.out _ _ (fun h=>absurd h au) ?_;clear hK K' z0 z1 z2 eF eG eO kS BD;rw [<-iO];clear iO;obtain ⟨zp,zq,DZ,MZ⟩:=BE.o.2.1;obtain ⟨z0,z1,z2,eF,eG,eO⟩:=DZ.facts;clear DZ MZ;refine aA (i:=10) dm rfl (fun K' hK=>?_);go_simp;refine hK.out _ _ (fun h=>absurd h au) ?_;clear hK K' z0 z1 z2 eF eG eO;refine aQ dm ?_ _;go_wp2_with fail
        go_meet
        case rel=>exact ⟨g3,g4,rfl,rfl,BE.o.1.other BE.o.2.1 BE.o.r6 _ _ _,BE.o.2.1.set BE.o.r3.1,BE.o.r2.1.other BE.o.2.1 BE.o.r5.1 HL.o _ _ _⟩
      · skip;go_simp;obtain ⟨g5,hg5⟩:=ah (u2.heap.size);obtain ⟨V5,Ig⟩:=ah (u2.alloc (Obj.cells #[.bool false,.slice none 0 0,.int .i64 0] 25));have hb:Below u2.heap.size u2 V5:=by rw [Ig];exact ae _ _
        have hZ:Lo V5 g5 iX:=by rw [Ig,hg5];exact Lo.zero _
        have BD:=eu (BD.o.1.below hb) (BD.o.2.1.below hb) (BD.o.r2.below hb) hZ (show w.heap.size+2<g5 by rw [hg5];exact BD.o.1.z0.lt);have kS:=ak (jr hb kS.o);have HV:=(aJ Ig hg5);clear hZ hb Ig hg5;refine hK.out _ _ (fun _=>by rw [<-HV.o.1];exact kS.o) ?_;clear hK K';rw [<-HV.o.1,<-HV.o.2];clear HV
        try simp only [Act.put,sa,sb,sc]
        refine aA (i:=7) dm rfl (fun K' hK=>?_);go_simp;obtain ⟨g6,R8⟩:=ah (V5.heap.size);obtain ⟨V6,Zc⟩:=ah (V5.alloc (Obj.cells #[.bool false,.slice none 0 0,.int .i64 0] 25));have hb:Below V5.heap.size V5 V6:=by rw [Zc];exact ae _ _
        have hZ:Lo V6 g6 iX:=by rw [Zc,R8];exact Lo.zero _
        have BD:=rT (BD.o.1.below hb) (BD.o.2.1.below hb) (BD.o.r2.1.below hb) (BD.o.r3.1.below hb) BD.o.r4 hZ (show w.heap.size+2<g6 by rw [R8];exact BD.o.1.z0.lt) (show g5<g6 by rw [R8];exact BD.o.r3.1.lt);have kS:=ak (jr hb kS.o);have HV:=(aJ Zc R8);clear hZ hb Zc R8;refine hK.out _ _ (fun _=>by rw [<-HV.o.1];exact kS.o) ?_;clear hK K';rw [<-HV.o.1,<-HV.o.2];clear HV
        try simp only [Act.put,sa,sb,sc]
        have BE:=l7 (BD.o.r5.1.set BD.o.2.1) (BD.o.r3.1.other BD.o.r5.1 (gZ BD.o.r7) (.bool (dN oN)) (.slice a1 (ws (dX oN)).length c1) (.int .i64 (dE oN))) (BD.o.1.other BD.o.r5.1 BD.o.r6.1 HL.o (.bool (dN oN)) (.slice a1 (ws (dX oN)).length c1) (.int .i64 (dE oN))) (BD.o.r5.1.uP BD.o.r2.1 (.bool (dN oN)) (.slice a1 (ws (dX oN)).length c1) (.int .i64 (dE oN))) BD.o.r6.1 BD.o.r4.1 (kJ BD.o.r7);obtain ⟨Y1,iO⟩:=ah (cZ V6 g6 (.bool (dN oN)) (.slice a1 (ws (dX oN)).length c1) (.int .i64 (dE oN)));rw [<-iO] at BE;unfold cZ at iO;obtain ⟨zp,zq,DZ,MZ⟩:=BD.o.r5.1;obtain ⟨z0,z1,z2,eF,eG,eO⟩:=DZ.facts;clear DZ MZ;refine aA (i:=9) dm rfl (fun K' hK=>?_);go_simp;refine hK.out _ _ (fun h=>absurd h au) ?_;clear hK K' z0 z1 z2 eF eG eO kS BD;rw [<-iO];clear iO;obtain ⟨zp,zq,DZ,MZ⟩:=BE.o.2.1;obtain ⟨z0,z1,z2,eF,eG,eO⟩:=DZ.facts;clear DZ MZ;refine aA (i:=10) dm rfl (fun K' hK=>?_);go_simp;refine hK.out _ _ (fun h=>absurd h au) ?_;clear hK K' z0 z1 z2 eF eG eO;refine aQ dm ?_ _;go_wp2_with fail
        go_meet
        case rel=>exact ⟨g6,g5,rfl,rfl,BE.o.1.other BE.o.2.1 BE.o.r6 _ _ _,BE.o.2.1.set BE.o.r3.1,BE.o.r2.1.other BE.o.2.1 BE.o.r5.1 HL.o _ _ _⟩
    · skip;go_simp;obtain ⟨g7,qz⟩:=ah (u1.heap.size);obtain ⟨V7,Ih⟩:=ah (u1.alloc (Obj.cells #[.bool false,.slice none 0 0,.int .i64 0] 25));have hb:Below u1.heap.size u1 V7:=by rw [Ih];exact ae _ _
      have hZ:Lo V7 g7 iX:=by rw [Ih,qz];exact Lo.zero _
      have BD:=gK (BD.o.1.below hb) (BD.o.2.below hb) hZ (show w.heap.size+2<g7 by rw [qz];exact BD.o.1.z0.lt);have kS:=ak (jr hb kS.o);have HV:=(aJ Ih qz);clear hZ hb Ih qz;refine hK.out _ _ (fun _=>by rw [<-HV.o.1];exact kS.o) ?_;clear hK K';rw [<-HV.o.1,<-HV.o.2];clear HV
      try simp only [Act.put,sa,sb,sc]
      refine di (i:=6) (j:=8) dm rfl rfl (fun K' hK=>?_) (fun K' hK=>?_)
      · skip;have C:=hid (Lg.o V7 ax cx (HT.o.belows BD.o.1.b) BD.o.1.nt);go_simp;refine C.o.mono ?_;rintro r u8 ⟨hd,hb⟩;obtain ⟨a8,c8,rfl,hN⟩:=hd.aG;have BD:=eu (BD.o.1.below hb) (BD.o.2.1.below hb) (BD.o.r2.1.below hb) BD.o.r3 hN;have kS:=ak (jr hb kS.o);clear hb hd hN C;dsimp only;refine hK.out _ _ (fun _=>kS.o) ?_;clear hK K'
        try simp only [Act.put,sa,sb,sc]
        refine aA (i:=8) dm rfl (fun K' hK=>?_);go_simp;obtain ⟨g9,Yv⟩:=ah (u8.heap.size);obtain ⟨V9,Zd⟩:=ah (u8.alloc (Obj.cells #[.bool false,.slice none 0 0,.int .i64 0] 25));have hb:Below u8.heap.size u8 V9:=by rw [Zd];exact ae _ _
        have hZ:Lo V9 g9 iX:=by rw [Zd,Yv];exact Lo.zero _
        have BD:=rT (BD.o.1.below hb) (BD.o.2.1.below hb) (BD.o.r2.1.below hb) BD.o.r3.1 (BD.o.r4.below hb) hZ (show w.heap.size+2<g9 by rw [Yv];exact BD.o.1.z0.lt) (show g7<g9 by rw [Yv];exact BD.o.r2.1.lt);have kS:=ak (jr hb kS.o);have HV:=(aJ Zd Yv);clear hZ hb Zd Yv;refine hK.out _ _ (fun _=>by rw [<-HV.o.1];exact kS.o) ?_;clear hK K';rw [<-HV.o.1,<-HV.o.2];clear HV
        try simp only [Act.put,sa,sb,sc]
        have BE:=l7 (BD.o.r2.1.set BD.o.2.1) (BD.o.r5.1.other BD.o.r2.1 (kJ BD.o.r7) (.bool (dN oN)) (.slice a1 (ws (dX oN)).length c1) (.int .i64 (dE oN))) (BD.o.1.other BD.o.r2.1 BD.o.r3.1 HL.o (.bool (dN oN)) (.slice a1 (ws (dX oN)).length c1) (.int .i64 (dE oN))) (BD.o.r2.1.uP BD.o.r4.1 (.bool (dN oN)) (.slice a1 (ws (dX oN)).length c1) (.int .i64 (dE oN))) BD.o.r3.1 BD.o.r6.1 (gZ BD.o.r7);obtain ⟨Y1,iO⟩:=ah (cZ V9 g7 (.bool (dN oN)) (.slice a1 (ws (dX oN)).length c1) (.int .i64 (dE oN)));rw [<-iO] at BE;unfold cZ at iO;obtain ⟨zp,zq,DZ,MZ⟩:=BD.o.r2.1;obtain ⟨z0,z1,z2,eF,eG,eO⟩:=DZ.facts;clear DZ MZ;refine aA (i:=9) dm rfl (fun K' hK=>?_);go_simp;refine hK.out _ _ (fun h=>absurd h au) ?_;clear hK K' z0 z1 z2 eF eG eO kS BD;rw [<-iO];clear iO;obtain ⟨zp,zq,DZ,MZ⟩:=BE.o.2.1;obtain ⟨z0,z1,z2,eF,eG,eO⟩:=DZ.facts;clear DZ MZ;refine aA (i:=10) dm rfl (fun K' hK=>?_);go_simp;refine hK.out _ _ (fun h=>absurd h au) ?_;clear hK K' z0 z1 z2 eF eG eO;refine aQ dm ?_ _;go_wp2_with fail
        go_meet
        case rel=>exact ⟨g7,g9,rfl,rfl,BE.o.1.other BE.o.2.1 BE.o.r6 _ _ _,BE.o.2.1.set BE.o.r3.1,BE.o.r2.1.other BE.o.2.1 BE.o.r5.1 HL.o _ _ _⟩
      · skip;go_simp;obtain ⟨g10,lZ⟩:=ah (V7.heap.size);obtain ⟨Pj,rP⟩:=ah (V7.alloc (Obj.cells #[.bool false,.slice none 0 0,.int .i64 0] 25));have hb:Below V7.heap.size V7 Pj:=by rw [rP];exact ae _ _
        have hZ:Lo Pj g10 iX:=by rw [rP,lZ];exact Lo.zero _
        have BD:=l7 (BD.o.1.below hb) (BD.o.2.1.below hb) (BD.o.r2.1.below hb) BD.o.r3 hZ (show w.heap.size+2<g10 by rw [lZ];exact BD.o.1.z0.lt) (show g7<g10 by rw [lZ];exact BD.o.r2.1.lt);have kS:=ak (jr hb kS.o);have HV:=(aJ rP lZ);clear hZ hb rP lZ;refine hK.out _ _ (fun _=>by rw [<-HV.o.1];exact kS.o) ?_;clear hK K';rw [<-HV.o.1,<-HV.o.2];clear HV
        try simp only [Act.put,sa,sb,sc]
        refine aA (i:=6) dm rfl (fun K' hK=>?_);have C:=hid (Lg.o Pj ax cx (HT.o.belows BD.o.1.b) BD.o.1.nt);go_simp;refine C.o.mono ?_;rintro r KS ⟨hd,hb⟩;obtain ⟨WC,c11,rfl,hN⟩:=hd.aG;have BD:=rT (BD.o.1.below hb) (BD.o.2.1.below hb) (BD.o.r2.1.below hb) BD.o.r3.1 (BD.o.r4.1.below hb) BD.o.r5.1 BD.o.r6 hN;have kS:=ak (jr hb kS.o);clear hb hd hN C;dsimp only;refine hK.out _ _ (fun _=>kS.o) ?_;clear hK K'
        try simp only [Act.put,sa,sb,sc]
        have BE:=l7 (BD.o.r2.1.set BD.o.2.1) (BD.o.r4.1.other BD.o.r2.1 (kJ BD.o.r6.1) (.bool (dN oN)) (.slice a1 (ws (dX oN)).length c1) (.int .i64 (dE oN))) (BD.o.1.other BD.o.r2.1 BD.o.r3.1 HL.o (.bool (dN oN)) (.slice a1 (ws (dX oN)).length c1) (.int .i64 (dE oN))) (BD.o.r2.1.uP BD.o.r7 (.bool (dN oN)) (.slice a1 (ws (dX oN)).length c1) (.int .i64 (dE oN))) BD.o.r3.1 BD.o.r5.1 (gZ BD.o.r6.1);obtain ⟨Y1,iO⟩:=ah (cZ KS g7 (.bool (dN oN)) (.slice a1 (ws (dX oN)).length c1) (.int .i64 (dE oN)));rw [<-iO] at BE;unfold cZ at iO;obtain ⟨zp,zq,DZ,MZ⟩:=BD.o.r2.1;obtain ⟨z0,z1,z2,eF,eG,eO⟩:=DZ.facts;clear DZ MZ;refine aA (i:=9) dm rfl (fun K' hK=>?_);go_simp;refine hK.out _ _ (fun h=>absurd h au) ?_;clear hK K' z0 z1 z2 eF eG eO kS BD;rw [<-iO];clear iO;obtain ⟨zp,zq,DZ,MZ⟩:=BE.o.2.1;obtain ⟨z0,z1,z2,eF,eG,eO⟩:=DZ.facts;clear DZ MZ;refine aA (i:=10) dm rfl (fun K' hK=>?_);go_simp;refine hK.out _ _ (fun h=>absurd h au) ?_;clear hK K' z0 z1 z2 eF eG eO;refine aQ dm ?_ _;go_wp2_with fail
        go_meet
        case rel=>exact ⟨g7,g10,rfl,rfl,BE.o.1.other BE.o.2.1 BE.o.r6 _ _ _,BE.o.2.1.set BE.o.r3.1,BE.o.r2.1.other BE.o.2.1 BE.o.r5.1 HL.o _ _ _⟩
    · skip;go_simp;obtain ⟨g12,nz⟩:=ah (u1.heap.size);obtain ⟨Wh,SL⟩:=ah (u1.alloc (Obj.cells #[.bool false,.slice none 0 0,.int .i64 0] 25));have hb:Below u1.heap.size u1 Wh:=by rw [SL];exact ae _ _
      have hZ:Lo Wh g12 iX:=by rw [SL,nz];exact Lo.zero _
      have BD:=gK (BD.o.1.below hb) (BD.o.2.below hb) hZ (show w.heap.size+2<g12 by rw [nz];exact BD.o.1.z0.lt);have kS:=ak (jr hb kS.o);have HV:=(aJ SL nz);clear hZ hb SL nz;refine hK.out _ _ (fun _=>by rw [<-HV.o.1];exact kS.o) ?_;clear hK K';rw [<-HV.o.1,<-HV.o.2];clear HV
      try simp only [Act.put,sa,sb,sc]
      refine di (i:=6) (j:=7) dm rfl rfl (fun K' hK=>?_) (fun K' hK=>?_)
      · skip;have C:=hid (Lg.o Wh ax cx (HT.o.belows BD.o.1.b) BD.o.1.nt);go_simp;refine C.o.mono ?_;rintro r Pm ⟨hd,hb⟩;obtain ⟨a13,c13,rfl,hN⟩:=hd.aG;have BD:=eu (BD.o.1.below hb) (BD.o.2.1.below hb) (BD.o.r2.1.below hb) BD.o.r3 hN;have kS:=ak (jr hb kS.o);clear hb hd hN C;dsimp only;refine hK.out _ _ (fun _=>kS.o) ?_;clear hK K'
        try simp only [Act.put,sa,sb,sc]
        refine aA (i:=7) dm rfl (fun K' hK=>?_);go_simp;obtain ⟨g14,Pn⟩:=ah (Pm.heap.size);obtain ⟨V14,SN⟩:=ah (Pm.alloc (Obj.cells #[.bool false,.slice none 0 0,.int .i64 0] 25));have hb:Below Pm.heap.size Pm V14:=by rw [SN];exact ae _ _
        have hZ:Lo V14 g14 iX:=by rw [SN,Pn];exact Lo.zero _
        have BD:=rT (BD.o.1.below hb) (BD.o.2.1.below hb) (BD.o.r2.1.below hb) BD.o.r3.1 (BD.o.r4.below hb) hZ (show w.heap.size+2<g14 by rw [Pn];exact BD.o.1.z0.lt) (show g12<g14 by rw [Pn];exact BD.o.r2.1.lt);have kS:=ak (jr hb kS.o);have HV:=(aJ SN Pn);clear hZ hb SN Pn;refine hK.out _ _ (fun _=>by rw [<-HV.o.1];exact kS.o) ?_;clear hK K';rw [<-HV.o.1,<-HV.o.2];clear HV
        try simp only [Act.put,sa,sb,sc]
        have BE:=l7 (BD.o.r5.1.set BD.o.2.1) (BD.o.r2.1.other BD.o.r5.1 (gZ BD.o.r7) (.bool (dN oN)) (.slice a1 (ws (dX oN)).length c1) (.int .i64 (dE oN))) (BD.o.1.other BD.o.r5.1 BD.o.r6.1 HL.o (.bool (dN oN)) (.slice a1 (ws (dX oN)).length c1) (.int .i64 (dE oN))) (BD.o.r5.1.uP BD.o.r4.1 (.bool (dN oN)) (.slice a1 (ws (dX oN)).length c1) (.int .i64 (dE oN))) BD.o.r6.1 BD.o.r3.1 (kJ BD.o.r7);obtain ⟨Y1,iO⟩:=ah (cZ V14 g14 (.bool (dN oN)) (.slice a1 (ws (dX oN)).length c1) (.int .i64 (dE oN)));rw [<-iO] at BE;unfold cZ at iO;obtain ⟨zp,zq,DZ,MZ⟩:=BD.o.r5.1;obtain ⟨z0,z1,z2,eF,eG,eO⟩:=DZ.facts;clear DZ MZ;refine aA (i:=9) dm rfl (fun K' hK=>?_);go_simp;refine hK.out _ _ (fun h=>absurd h au) ?_;clear hK K' z0 z1 z2 eF eG eO kS BD;rw [<-iO];clear iO;obtain ⟨zp,zq,DZ,MZ⟩:=BE.o.2.1;obtain ⟨z0,z1,z2,eF,eG,eO⟩:=DZ.facts;clear DZ MZ;refine aA (i:=10) dm rfl (fun K' hK=>?_);go_simp;refine hK.out _ _ (fun h=>absurd h au) ?_;clear hK K' z0 z1 z2 eF eG eO;refine aQ dm ?_ _;go_wp2_with fail
        go_meet
        case rel=>exact ⟨g14,g12,rfl,rfl,BE.o.1.other BE.o.2.1 BE.o.r6 _ _ _,BE.o.2.1.set BE.o.r3.1,BE.o.r2.1.other BE.o.2.1 BE.o.r5.1 HL.o _ _ _⟩
      · skip;go_simp;obtain ⟨g15,xU⟩:=ah (Wh.heap.size);obtain ⟨V15,SQ⟩:=ah (Wh.alloc (Obj.cells #[.bool false,.slice none 0 0,.int .i64 0] 25));have hb:Below Wh.heap.size Wh V15:=by rw [SQ];exact ae _ _
        have hZ:Lo V15 g15 iX:=by rw [SQ,xU];exact Lo.zero _
        have BD:=l7 (BD.o.1.below hb) (BD.o.2.1.below hb) (BD.o.r2.1.below hb) BD.o.r3 hZ (show w.heap.size+2<g15 by rw [xU];exact BD.o.1.z0.lt) (show g12<g15 by rw [xU];exact BD.o.r2.1.lt);have kS:=ak (jr hb kS.o);have HV:=(aJ SQ xU);clear hZ hb SQ xU;refine hK.out _ _ (fun _=>by rw [<-HV.o.1];exact kS.o) ?_;clear hK K';rw [<-HV.o.1,<-HV.o.2];clear HV
        try simp only [Act.put,sa,sb,sc]
        refine aA (i:=6) dm rfl (fun K' hK=>?_);have C:=hid (Lg.o V15 ax cx (HT.o.belows BD.o.1.b) BD.o.1.nt);go_simp;refine C.o.mono ?_;rintro r u16 ⟨hd,hb⟩;obtain ⟨a16,c16,rfl,hN⟩:=hd.aG;have BD:=rT (BD.o.1.below hb) (BD.o.2.1.below hb) (BD.o.r2.1.below hb) BD.o.r3.1 (BD.o.r4.1.below hb) BD.o.r5.1 BD.o.r6 hN;have kS:=ak (jr hb kS.o);clear hb hd hN C;dsimp only;refine hK.out _ _ (fun _=>kS.o) ?_;clear hK K'
        try simp only [Act.put,sa,sb,sc]
        have BE:=l7 (BD.o.r4.1.set BD.o.2.1) (BD.o.r2.1.other BD.o.r4.1 (gZ BD.o.r6.1) (.bool (dN oN)) (.slice a1 (ws (dX oN)).length c1) (.int .i64 (dE oN))) (BD.o.1.other BD.o.r4.1 BD.o.r5.1 HL.o (.bool (dN oN)) (.slice a1 (ws (dX oN)).length c1) (.int .i64 (dE oN))) (BD.o.r4.1.uP BD.o.r7 (.bool (dN oN)) (.slice a1 (ws (dX oN)).length c1) (.int .i64 (dE oN))) BD.o.r5.1 BD.o.r3.1 (kJ BD.o.r6.1);obtain ⟨Y1,iO⟩:=ah (cZ u16 g15 (.bool (dN oN)) (.slice a1 (ws (dX oN)).length c1) (.int .i64 (dE oN)));rw [<-iO] at BE;unfold cZ at iO;obtain ⟨zp,zq,DZ,MZ⟩:=BD.o.r4.1;obtain ⟨z0,z1,z2,eF,eG,eO⟩:=DZ.facts;clear DZ MZ;refine aA (i:=9) dm rfl (fun K' hK=>?_);go_simp;refine hK.out _ _ (fun h=>absurd h au) ?_;clear hK K' z0 z1 z2 eF eG eO kS BD;rw [<-iO];clear iO;obtain ⟨zp,zq,DZ,MZ⟩:=BE.o.2.1;obtain ⟨z0,z1,z2,eF,eG,eO⟩:=DZ.facts;clear DZ MZ;refine aA (i:=10) dm rfl (fun K' hK=>?_);go_simp;refine hK.out _ _ (fun h=>absurd h au) ?_;clear hK K' z0 z1 z2 eF eG eO;refine aQ dm ?_ _;go_wp2_with fail
        go_meet
        case rel=>exact ⟨g15,g12,rfl,rfl,BE.o.1.other BE.o.2.1 BE.o.r6 _ _ _,BE.o.2.1.set BE.o.r3.1,BE.o.r2.1.other BE.o.2.1 BE.o.r5.1 HL.o _ _ _⟩
  · skip;go_simp;obtain ⟨g17,Dq⟩:=ah (Wd.heap.size);obtain ⟨Wi,SV⟩:=ah (Wd.alloc (Obj.cells #[.bool false,.slice none 0 0,.int .i64 0] 25));have hb:Below Wd.heap.size Wd Wi:=by rw [SV];exact ae _ _
    have hZ:Lo Wi g17 iX:=by rw [SV,Dq];exact Lo.zero _
    have BD:=aZ (BD.o.below hb) hZ (show w.heap.size+2<g17 by rw [Dq];exact BD.o.z0.lt);have kS:=ak (jr hb kS.o);have HV:=(aJ SV Dq);clear hZ hb SV Dq;refine hK.out _ _ (fun _=>by rw [<-HV.o.1];exact kS.o) ?_;clear hK K';rw [<-HV.o.1,<-HV.o.2];clear HV
    try simp only [Act.put,sa,sb,sc]
    refine di (i:=3) (j:=8) dm rfl rfl (fun K' hK=>?_) (fun K' hK=>?_)
    · skip;have C:=hid (HI.o Wi (HT.o.belows BD.o.1.b));go_simp;refine C.o.mono ?_;rintro r P5 ⟨hd,hb⟩;obtain ⟨Us,c18,rfl,hN⟩:=hd.aG;have BD:=gK (BD.o.1.below hb) (BD.o.2.1.below hb) BD.o.r2 hN;have kS:=ak (jr hb kS.o);clear hb hd hN C;dsimp only;refine hK.out _ _ (fun _=>kS.o) ?_;clear hK K'
      try simp only [Act.put,sa,sb,sc]
      refine di (i:=6) (j:=8) dm rfl rfl (fun K' hK=>?_) (fun K' hK=>?_)
      · skip;have C:=hid (Lg.o P5 ax cx (HT.o.belows BD.o.1.b) BD.o.1.nt);go_simp;refine C.o.mono ?_;rintro r P6 ⟨hd,hb⟩;obtain ⟨a19,c19,rfl,hN⟩:=hd.aG;have BD:=eu (BD.o.1.below hb) (BD.o.2.1.below hb) BD.o.r2.1 (BD.o.r3.below hb) hN;have kS:=ak (jr hb kS.o);clear hb hd hN C;dsimp only;refine hK.out _ _ (fun _=>kS.o) ?_;clear hK K'
        try simp only [Act.put,sa,sb,sc]
        refine aA (i:=8) dm rfl (fun K' hK=>?_);go_simp;obtain ⟨g20,AB⟩:=ah (P6.heap.size);obtain ⟨V20,SX⟩:=ah (P6.alloc (Obj.cells #[.bool false,.slice none 0 0,.int .i64 0] 25));have hb:Below P6.heap.size P6 V20:=by rw [SX];exact ae _ _
        have hZ:Lo V20 g20 iX:=by rw [SX,AB];exact Lo.zero _
        have BD:=rT (BD.o.1.below hb) (BD.o.2.1.below hb) BD.o.r2.1 (BD.o.r3.1.below hb) (BD.o.r4.below hb) hZ (show w.heap.size+2<g20 by rw [AB];exact BD.o.1.z0.lt) (show g17<g20 by rw [AB];exact BD.o.2.1.lt);have kS:=ak (jr hb kS.o);have HV:=(aJ SX AB);clear hZ hb SX AB;refine hK.out _ _ (fun _=>by rw [<-HV.o.1];exact kS.o) ?_;clear hK K';rw [<-HV.o.1,<-HV.o.2];clear HV
        try simp only [Act.put,sa,sb,sc]
        have BE:=l7 (BD.o.2.1.set BD.o.r3.1) (BD.o.r5.1.other BD.o.2.1 (kJ BD.o.r7) (.bool (dN oN)) (.slice Us (ws (dX oN)).length c18) (.int .i64 (dE oN))) (BD.o.1.other BD.o.2.1 BD.o.r2.1 HL.o (.bool (dN oN)) (.slice Us (ws (dX oN)).length c18) (.int .i64 (dE oN))) (BD.o.2.1.uP BD.o.r4.1 (.bool (dN oN)) (.slice Us (ws (dX oN)).length c18) (.int .i64 (dE oN))) BD.o.r2.1 BD.o.r6.1 (gZ BD.o.r7);obtain ⟨Y1,iO⟩:=ah (cZ V20 g17 (.bool (dN oN)) (.slice Us (ws (dX oN)).length c18) (.int .i64 (dE oN)));rw [<-iO] at BE;unfold cZ at iO;obtain ⟨zp,zq,DZ,MZ⟩:=BD.o.2.1;obtain ⟨z0,z1,z2,eF,eG,eO⟩:=DZ.facts;clear DZ MZ;refine aA (i:=9) dm rfl (fun K' hK=>?_);go_simp;refine hK.out _ _ (fun h=>absurd h au) ?_;clear hK K' z0 z1 z2 eF eG eO kS BD;rw [<-iO];clear iO;obtain ⟨zp,zq,DZ,MZ⟩:=BE.o.2.1;obtain ⟨z0,z1,z2,eF,eG,eO⟩:=DZ.facts;clear DZ MZ;refine aA (i:=10) dm rfl (fun K' hK=>?_);go_simp;refine hK.out _ _ (fun h=>absurd h au) ?_;clear hK K' z0 z1 z2 eF eG eO;refine aQ dm ?_ _;go_wp2_with fail
        go_meet
        case rel=>exact ⟨g17,g20,rfl,rfl,BE.o.1.other BE.o.2.1 BE.o.r6 _ _ _,BE.o.2.1.set BE.o.r3.1,BE.o.r2.1.other BE.o.2.1 BE.o.r5.1 HL.o _ _ _⟩
      · skip;go_simp;obtain ⟨g21,Po⟩:=ah (P5.heap.size);obtain ⟨V21,SY⟩:=ah (P5.alloc (Obj.cells #[.bool false,.slice none 0 0,.int .i64 0] 25));have hb:Below P5.heap.size P5 V21:=by rw [SY];exact ae _ _
        have hZ:Lo V21 g21 iX:=by rw [SY,Po];exact Lo.zero _
        have BD:=l7 (BD.o.1.below hb) (BD.o.2.1.below hb) BD.o.r2.1 (BD.o.r3.below hb) hZ (show w.heap.size+2<g21 by rw [Po];exact BD.o.1.z0.lt) (show g17<g21 by rw [Po];exact BD.o.2.1.lt);have kS:=ak (jr hb kS.o);have HV:=(aJ SY Po);clear hZ hb SY Po;refine hK.out _ _ (fun _=>by rw [<-HV.o.1];exact kS.o) ?_;clear hK K';rw [<-HV.o.1,<-HV.o.2];clear HV
        try simp only [Act.put,sa,sb,sc]
        refine aA (i:=6) dm rfl (fun K' hK=>?_);have C:=hid (Lg.o V21 ax cx (HT.o.belows BD.o.1.b) BD.o.1.nt);go_simp;refine C.o.mono ?_;rintro r u22 ⟨hd,hb⟩;obtain ⟨a22,c22,rfl,hN⟩:=hd.aG;have BD:=rT (BD.o.1.below hb) (BD.o.2.1.below hb) BD.o.r2.1 (BD.o.r3.1.below hb) (BD.o.r4.1.below hb) BD.o.r5.1 BD.o.r6 hN;have kS:=ak (jr hb kS.o);clear hb hd hN C;dsimp only;refine hK.out _ _ (fun _=>kS.o) ?_;clear hK K'
        try simp only [Act.put,sa,sb,sc]
        have BE:=l7 (BD.o.2.1.set BD.o.r3.1) (BD.o.r4.1.other BD.o.2.1 (kJ BD.o.r6.1) (.bool (dN oN)) (.slice Us (ws (dX oN)).length c18) (.int .i64 (dE oN))) (BD.o.1.other BD.o.2.1 BD.o.r2.1 HL.o (.bool (dN oN)) (.slice Us (ws (dX oN)).length c18) (.int .i64 (dE oN))) (BD.o.2.1.uP BD.o.r7 (.bool (dN oN)) (.slice Us (ws (dX oN)).length c18) (.int .i64 (dE oN))) BD.o.r2.1 BD.o.r5.1 (gZ BD.o.r6.1);obtain ⟨Y1,iO⟩:=ah (cZ u22 g17 (.bool (dN oN)) (.slice Us (ws (dX oN)).length c18) (.int .i64 (dE oN)));rw [<-iO] at BE;unfold cZ at iO;obtain ⟨zp,zq,DZ,MZ⟩:=BD.o.2.1;obtain ⟨z0,z1,z2,eF,eG,eO⟩:=DZ.facts;clear DZ MZ;refine aA (i:=9) dm rfl (fun K' hK=>?_);go_simp;refine hK.out _ _ (fun h=>absurd h au) ?_;clear hK K' z0 z1 z2 eF eG eO kS BD;rw [<-iO];clear iO;obtain ⟨zp,zq,DZ,MZ⟩:=BE.o.2.1;obtain ⟨z0,z1,z2,eF,eG,eO⟩:=DZ.facts;clear DZ MZ;refine aA (i:=10) dm rfl (fun K' hK=>?_);go_simp;refine hK.out _ _ (fun h=>absurd h au) ?_;clear hK K' z0 z1 z2 eF eG eO;refine aQ dm ?_ _;go_wp2_with fail
        go_meet
        case rel=>exact ⟨g17,g21,rfl,rfl,BE.o.1.other BE.o.2.1 BE.o.r6 _ _ _,BE.o.2.1.set BE.o.r3.1,BE.o.r2.1.other BE.o.2.1 BE.o.r5.1 HL.o _ _ _⟩
    · skip;go_simp;obtain ⟨g23,Pp⟩:=ah (Wi.heap.size);obtain ⟨V23,Ta⟩:=ah (Wi.alloc (Obj.cells #[.bool false,.slice none 0 0,.int .i64 0] 25));have hb:Below Wi.heap.size Wi V23:=by rw [Ta];exact ae _ _
      have hZ:Lo V23 g23 iX:=by rw [Ta,Pp];exact Lo.zero _
      have BD:=iI (BD.o.1.below hb) (BD.o.2.1.below hb) BD.o.r2 hZ (show w.heap.size+2<g23 by rw [Pp];exact BD.o.1.z0.lt) (show g17<g23 by rw [Pp];exact BD.o.2.1.lt);have kS:=ak (jr hb kS.o);have HV:=(aJ Ta Pp);clear hZ hb Ta Pp;refine hK.out _ _ (fun _=>by rw [<-HV.o.1];exact kS.o) ?_;clear hK K';rw [<-HV.o.1,<-HV.o.2];clear HV
      try simp only [Act.put,sa,sb,sc]
      refine aA (i:=3) dm rfl (fun K' hK=>?_);have C:=hid (HI.o V23 (HT.o.belows BD.o.1.b));go_simp;refine C.o.mono ?_;rintro r u24 ⟨hd,hb⟩;obtain ⟨a24,c24,rfl,hN⟩:=hd.aG;have BD:=l7 (BD.o.1.below hb) (BD.o.2.1.below hb) BD.o.r2.1 (BD.o.r3.1.below hb) BD.o.r4.1 BD.o.r5 hN;have kS:=ak (jr hb kS.o);clear hb hd hN C;dsimp only;refine hK.out _ _ (fun _=>kS.o) ?_;clear hK K'
      try simp only [Act.put,sa,sb,sc]
      refine aA (i:=6) dm rfl (fun K' hK=>?_);have C:=hid (Lg.o u24 ax cx (HT.o.belows BD.o.1.b) BD.o.1.nt);go_simp;refine C.o.mono ?_;rintro r u25 ⟨hd,hb⟩;obtain ⟨a25,c25,rfl,hN⟩:=hd.aG;have BD:=rT (BD.o.1.below hb) (BD.o.2.1.below hb) BD.o.r2.1 (BD.o.r3.1.below hb) BD.o.r4.1 BD.o.r5.1 (BD.o.r6.below hb) hN;have kS:=ak (jr hb kS.o);clear hb hd hN C;dsimp only;refine hK.out _ _ (fun _=>kS.o) ?_;clear hK K'
      try simp only [Act.put,sa,sb,sc]
      have BE:=l7 (BD.o.2.1.set BD.o.r6.1) (BD.o.r3.1.other BD.o.2.1 (kJ BD.o.r5.1) (.bool (dN oN)) (.slice a24 (ws (dX oN)).length c24) (.int .i64 (dE oN))) (BD.o.1.other BD.o.2.1 BD.o.r2.1 HL.o (.bool (dN oN)) (.slice a24 (ws (dX oN)).length c24) (.int .i64 (dE oN))) (BD.o.2.1.uP BD.o.r7 (.bool (dN oN)) (.slice a24 (ws (dX oN)).length c24) (.int .i64 (dE oN))) BD.o.r2.1 BD.o.r4.1 (gZ BD.o.r5.1);obtain ⟨Y1,iO⟩:=ah (cZ u25 g17 (.bool (dN oN)) (.slice a24 (ws (dX oN)).length c24) (.int .i64 (dE oN)));rw [<-iO] at BE;unfold cZ at iO;obtain ⟨zp,zq,DZ,MZ⟩:=BD.o.2.1;obtain ⟨z0,z1,z2,eF,eG,eO⟩:=DZ.facts;clear DZ MZ;refine aA (i:=9) dm rfl (fun K' hK=>?_);go_simp;refine hK.out _ _ (fun h=>absurd h au) ?_;clear hK K' z0 z1 z2 eF eG eO kS BD;rw [<-iO];clear iO;obtain ⟨zp,zq,DZ,MZ⟩:=BE.o.2.1;obtain ⟨z0,z1,z2,eF,eG,eO⟩:=DZ.facts;clear DZ MZ;refine aA (i:=10) dm rfl (fun K' hK=>?_);go_simp;refine hK.out _ _ (fun h=>absurd h au) ?_;clear hK K' z0 z1 z2 eF eG eO;refine aQ dm ?_ _;go_wp2_with fail
      go_meet
      case rel=>exact ⟨g17,g23,rfl,rfl,BE.o.1.other BE.o.2.1 BE.o.r6 _ _ _,BE.o.2.1.set BE.o.r3.1,BE.o.r2.1.other BE.o.2.1 BE.o.r5.1 HL.o _ _ _⟩
  · skip;go_simp;obtain ⟨Ut,Tc⟩:=ah (Wd.heap.size);obtain ⟨Wj,Td⟩:=ah (Wd.alloc (Obj.cells #[.bool false,.slice none 0 0,.int .i64 0] 25));have hb:Below Wd.heap.size Wd Wj:=by rw [Td];exact ae _ _
    have hZ:Lo Wj Ut iX:=by rw [Td,Tc];exact Lo.zero _
    have BD:=aZ (BD.o.below hb) hZ (show w.heap.size+2<Ut by rw [Tc];exact BD.o.z0.lt);have kS:=ak (jr hb kS.o);have HV:=(aJ Td Tc);clear hZ hb Td Tc;refine hK.out _ _ (fun _=>by rw [<-HV.o.1];exact kS.o) ?_;clear hK K';rw [<-HV.o.1,<-HV.o.2];clear HV
    try simp only [Act.put,sa,sb,sc]
    refine di (i:=3) (j:=7) dm rfl rfl (fun K' hK=>?_) (fun K' hK=>?_)
    · skip;have C:=hid (HI.o Wj (HT.o.belows BD.o.1.b));go_simp;refine C.o.mono ?_;rintro r u27 ⟨hd,hb⟩;obtain ⟨a27,Uu,rfl,hN⟩:=hd.aG;have BD:=gK (BD.o.1.below hb) (BD.o.2.1.below hb) BD.o.r2 hN;have kS:=ak (jr hb kS.o);clear hb hd hN C;dsimp only;refine hK.out _ _ (fun _=>kS.o) ?_;clear hK K'
      try simp only [Act.put,sa,sb,sc]
      refine di (i:=6) (j:=7) dm rfl rfl (fun K' hK=>?_) (fun K' hK=>?_)
      · skip;have C:=hid (Lg.o u27 ax cx (HT.o.belows BD.o.1.b) BD.o.1.nt);go_simp;refine C.o.mono ?_;rintro r u28 ⟨hd,hb⟩;obtain ⟨a28,c28,rfl,hN⟩:=hd.aG;have BD:=eu (BD.o.1.below hb) (BD.o.2.1.below hb) BD.o.r2.1 (BD.o.r3.below hb) hN;have kS:=ak (jr hb kS.o);clear hb hd hN C;dsimp only;refine hK.out _ _ (fun _=>kS.o) ?_;clear hK K'
        try simp only [Act.put,sa,sb,sc]
        refine aA (i:=7) dm rfl (fun K' hK=>?_);go_simp;obtain ⟨Yw,Pq⟩:=ah (u28.heap.size);obtain ⟨V29,Te⟩:=ah (u28.alloc (Obj.cells #[.bool false,.slice none 0 0,.int .i64 0] 25));have hb:Below u28.heap.size u28 V29:=by rw [Te];exact ae _ _
        have hZ:Lo V29 Yw iX:=by rw [Te,Pq];exact Lo.zero _
        have BD:=rT (BD.o.1.below hb) (BD.o.2.1.below hb) BD.o.r2.1 (BD.o.r3.1.below hb) (BD.o.r4.below hb) hZ (show w.heap.size+2<Yw by rw [Pq];exact BD.o.1.z0.lt) (show Ut<Yw by rw [Pq];exact BD.o.2.1.lt);have kS:=ak (jr hb kS.o);have HV:=(aJ Te Pq);clear hZ hb Te Pq;refine hK.out _ _ (fun _=>by rw [<-HV.o.1];exact kS.o) ?_;clear hK K';rw [<-HV.o.1,<-HV.o.2];clear HV
        try simp only [Act.put,sa,sb,sc]
        have BE:=l7 (BD.o.r5.1.set BD.o.r3.1) (BD.o.2.1.other BD.o.r5.1 (gZ BD.o.r7) (.bool (dN oN)) (.slice a27 (ws (dX oN)).length Uu) (.int .i64 (dE oN))) (BD.o.1.other BD.o.r5.1 BD.o.r6.1 HL.o (.bool (dN oN)) (.slice a27 (ws (dX oN)).length Uu) (.int .i64 (dE oN))) (BD.o.r5.1.uP BD.o.r4.1 (.bool (dN oN)) (.slice a27 (ws (dX oN)).length Uu) (.int .i64 (dE oN))) BD.o.r6.1 BD.o.r2.1 (kJ BD.o.r7);obtain ⟨Y1,iO⟩:=ah (cZ V29 Yw (.bool (dN oN)) (.slice a27 (ws (dX oN)).length Uu) (.int .i64 (dE oN)));rw [<-iO] at BE;unfold cZ at iO;obtain ⟨zp,zq,DZ,MZ⟩:=BD.o.r5.1;obtain ⟨z0,z1,z2,eF,eG,eO⟩:=DZ.facts;clear DZ MZ;refine aA (i:=9) dm rfl (fun K' hK=>?_);go_simp;refine hK.out _ _ (fun h=>absurd h au) ?_;clear hK K' z0 z1 z2 eF eG eO kS BD;rw [<-iO];clear iO;obtain ⟨zp,zq,DZ,MZ⟩:=BE.o.2.1;obtain ⟨z0,z1,z2,eF,eG,eO⟩:=DZ.facts;clear DZ MZ;refine aA (i:=10) dm rfl (fun K' hK=>?_);go_simp;refine hK.out _ _ (fun h=>absurd h au) ?_;clear hK K' z0 z1 z2 eF eG eO;refine aQ dm ?_ _;go_wp2_with fail
        go_meet
        case rel=>exact ⟨Yw,Ut,rfl,rfl,BE.o.1.other BE.o.2.1 BE.o.r6 _ _ _,BE.o.2.1.set BE.o.r3.1,BE.o.r2.1.other BE.o.2.1 BE.o.r5.1 HL.o _ _ _⟩
      · skip;go_simp;obtain ⟨Yx,Pt⟩:=ah (u27.heap.size);obtain ⟨V30,Tf⟩:=ah (u27.alloc (Obj.cells #[.bool false,.slice none 0 0,.int .i64 0] 25));have hb:Below u27.heap.size u27 V30:=by rw [Tf];exact ae _ _
        have hZ:Lo V30 Yx iX:=by rw [Tf,Pt];exact Lo.zero _
        have BD:=l7 (BD.o.1.below hb) (BD.o.2.1.below hb) BD.o.r2.1 (BD.o.r3.below hb) hZ (show w.heap.size+2<Yx by rw [Pt];exact BD.o.1.z0.lt) (show Ut<Yx by rw [Pt];exact BD.o.2.1.lt);have kS:=ak (jr hb kS.o);have HV:=(aJ Tf Pt);clear hZ hb Tf Pt;refine hK.out _ _ (fun _=>by rw [<-HV.o.1];exact kS.o) ?_;clear hK K';rw [<-HV.o.1,<-HV.o.2];clear HV
        try simp only [Act.put,sa,sb,sc]
        refine aA (i:=6) dm rfl (fun K' hK=>?_);have C:=hid (Lg.o V30 ax cx (HT.o.belows BD.o.1.b) BD.o.1.nt);go_simp;refine C.o.mono ?_;rintro r u31 ⟨hd,hb⟩;obtain ⟨a31,c31,rfl,hN⟩:=hd.aG;have BD:=rT (BD.o.1.below hb) (BD.o.2.1.below hb) BD.o.r2.1 (BD.o.r3.1.below hb) (BD.o.r4.1.below hb) BD.o.r5.1 BD.o.r6 hN;have kS:=ak (jr hb kS.o);clear hb hd hN C;dsimp only;refine hK.out _ _ (fun _=>kS.o) ?_;clear hK K'
        try simp only [Act.put,sa,sb,sc]
        have BE:=l7 (BD.o.r4.1.set BD.o.r3.1) (BD.o.2.1.other BD.o.r4.1 (gZ BD.o.r6.1) (.bool (dN oN)) (.slice a27 (ws (dX oN)).length Uu) (.int .i64 (dE oN))) (BD.o.1.other BD.o.r4.1 BD.o.r5.1 HL.o (.bool (dN oN)) (.slice a27 (ws (dX oN)).length Uu) (.int .i64 (dE oN))) (BD.o.r4.1.uP BD.o.r7 (.bool (dN oN)) (.slice a27 (ws (dX oN)).length Uu) (.int .i64 (dE oN))) BD.o.r5.1 BD.o.r2.1 (kJ BD.o.r6.1);obtain ⟨Y1,iO⟩:=ah (cZ u31 Yx (.bool (dN oN)) (.slice a27 (ws (dX oN)).length Uu) (.int .i64 (dE oN)));rw [<-iO] at BE;unfold cZ at iO;obtain ⟨zp,zq,DZ,MZ⟩:=BD.o.r4.1;obtain ⟨z0,z1,z2,eF,eG,eO⟩:=DZ.facts;clear DZ MZ;refine aA (i:=9) dm rfl (fun K' hK=>?_);go_simp;refine hK.out _ _ (fun h=>absurd h au) ?_;clear hK K' z0 z1 z2 eF eG eO kS BD;rw [<-iO];clear iO;obtain ⟨zp,zq,DZ,MZ⟩:=BE.o.2.1;obtain ⟨z0,z1,z2,eF,eG,eO⟩:=DZ.facts;clear DZ MZ;refine aA (i:=10) dm rfl (fun K' hK=>?_);go_simp;refine hK.out _ _ (fun h=>absurd h au) ?_;clear hK K' z0 z1 z2 eF eG eO;refine aQ dm ?_ _;go_wp2_with fail
        go_meet
        case rel=>exact ⟨Yx,Ut,rfl,rfl,BE.o.1.other BE.o.2.1 BE.o.r6 _ _ _,BE.o.2.1.set BE.o.r3.1,BE.o.r2.1.other BE.o.2.1 BE.o.r5.1 HL.o _ _ _⟩
    · skip;go_simp;obtain ⟨Yy,Pv⟩:=ah (Wj.heap.size);obtain ⟨V32,Tg⟩:=ah (Wj.alloc (Obj.cells #[.bool false,.slice none 0 0,.int .i64 0] 25));have hb:Below Wj.heap.size Wj V32:=by rw [Tg];exact ae _ _
      have hZ:Lo V32 Yy iX:=by rw [Tg,Pv];exact Lo.zero _
      have BD:=iI (BD.o.1.below hb) (BD.o.2.1.below hb) BD.o.r2 hZ (show w.heap.size+2<Yy by rw [Pv];exact BD.o.1.z0.lt) (show Ut<Yy by rw [Pv];exact BD.o.2.1.lt);have kS:=ak (jr hb kS.o);have HV:=(aJ Tg Pv);clear hZ hb Tg Pv;refine hK.out _ _ (fun _=>by rw [<-HV.o.1];exact kS.o) ?_;clear hK K';rw [<-HV.o.1,<-HV.o.2];clear HV
      try simp only [Act.put,sa,sb,sc]
      refine aA (i:=3) dm rfl (fun K' hK=>?_);have C:=hid (HI.o V32 (HT.o.belows BD.o.1.b));go_simp;refine C.o.mono ?_;rintro r u33 ⟨hd,hb⟩;obtain ⟨a33,Ze,rfl,hN⟩:=hd.aG;have BD:=l7 (BD.o.1.below hb) (BD.o.2.1.below hb) BD.o.r2.1 (BD.o.r3.1.below hb) BD.o.r4.1 BD.o.r5 hN;have kS:=ak (jr hb kS.o);clear hb hd hN C;dsimp only;refine hK.out _ _ (fun _=>kS.o) ?_;clear hK K'
      try simp only [Act.put,sa,sb,sc]
      refine aA (i:=6) dm rfl (fun K' hK=>?_);have C:=hid (Lg.o u33 ax cx (HT.o.belows BD.o.1.b) BD.o.1.nt);go_simp;refine C.o.mono ?_;rintro r u34 ⟨hd,hb⟩;obtain ⟨a34,c34,rfl,hN⟩:=hd.aG;have BD:=rT (BD.o.1.below hb) (BD.o.2.1.below hb) BD.o.r2.1 (BD.o.r3.1.below hb) BD.o.r4.1 BD.o.r5.1 (BD.o.r6.below hb) hN;have kS:=ak (jr hb kS.o);clear hb hd hN C;dsimp only;refine hK.out _ _ (fun _=>kS.o) ?_;clear hK K'
      try simp only [Act.put,sa,sb,sc]
      have BE:=l7 (BD.o.r3.1.set BD.o.r6.1) (BD.o.2.1.other BD.o.r3.1 (gZ BD.o.r5.1) (.bool (dN oN)) (.slice a33 (ws (dX oN)).length Ze) (.int .i64 (dE oN))) (BD.o.1.other BD.o.r3.1 BD.o.r4.1 HL.o (.bool (dN oN)) (.slice a33 (ws (dX oN)).length Ze) (.int .i64 (dE oN))) (BD.o.r3.1.uP BD.o.r7 (.bool (dN oN)) (.slice a33 (ws (dX oN)).length Ze) (.int .i64 (dE oN))) BD.o.r4.1 BD.o.r2.1 (kJ BD.o.r5.1);obtain ⟨Y1,iO⟩:=ah (cZ u34 Yy (.bool (dN oN)) (.slice a33 (ws (dX oN)).length Ze) (.int .i64 (dE oN)));rw [<-iO] at BE;unfold cZ at iO;obtain ⟨zp,zq,DZ,MZ⟩:=BD.o.r3.1;obtain ⟨z0,z1,z2,eF,eG,eO⟩:=DZ.facts;clear DZ MZ;refine aA (i:=9) dm rfl (fun K' hK=>?_);go_simp;refine hK.out _ _ (fun h=>absurd h au) ?_;clear hK K' z0 z1 z2 eF eG eO kS BD;rw [<-iO];clear iO;obtain ⟨zp,zq,DZ,MZ⟩:=BE.o.2.1;obtain ⟨z0,z1,z2,eF,eG,eO⟩:=DZ.facts;clear DZ MZ;refine aA (i:=10) dm rfl (fun K' hK=>?_);go_simp;refine hK.out _ _ (fun h=>absurd h au) ?_;clear hK K' z0 z1 z2 eF eG eO;refine aQ dm ?_ _;go_wp2_with fail
      go_meet
      case rel=>exact ⟨Yy,Ut,rfl,rfl,BE.o.1.other BE.o.2.1 BE.o.r6 _ _ _,BE.o.2.1.set BE.o.r3.1,BE.o.r2.1.other BE.o.2.1 BE.o.r5.1 HL.o _ _ _⟩
 obtain ⟨g5,g6,rfl,rfl,K1⟩:=hcut;obtain ⟨U,hU⟩:=ah wc;rw [<-hU] at K1 |-;clear hU H0 HI Lg;have s0:=K1.o.r2.k0.cell 0 _ rfl;have C:=hid (HC.o U g5 g6 (HT.o.belows K1.o.r2.b) K1.o.1 K1.o.2.1 K1.o.r2);go_wp2_with fail;refine C.o.mono ?_;rintro r u1 ⟨hd,hb⟩;obtain ⟨a1,c1,rfl,hN1⟩:=hd.aG;have H1:=(aZ (K1.o.r2.z0.below hb) (K1.o.r2.b.trans (hb.mono K1.o.r2.b.size)) hN1);clear hb hd hN1 C s0 K1;obtain ⟨p2,q2,D2,M2⟩:=H1.o.1;obtain ⟨y0,y1,y2,bN,bO,bU⟩:=D2.facts;clear D2 M2;go_wp2;exact jX Tryz.results46 rfl H1.o.1 H1.o.2.1 af H1.o.r2
end
end Go.Proofs.YtfmfhehbdfhnbaaGreatDoor
