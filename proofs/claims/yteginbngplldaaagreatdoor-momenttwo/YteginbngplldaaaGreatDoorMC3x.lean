import Derived.Test.YteginbngplldaaaGreatDoorMTpx
import Derived.Test.YteginbngplldaaaGreatDoorZ47x
set_option linter.unusedVariables false
set_option linter.unusedSimpArgs false
set_option maxHeartbeats 16000000
set_option maxRecDepth 20000
namespace Go.Proofs.YteginbngplldaaaGreatDoor
namespace J
end J
section
open Go Go.RowKit J
structure BN (w v:World) (n k gx:Nat) (ax:Option Addr) (cx:Nat) (A:Nat->Option (Bool×Nat×Int)) (oS:Option (Bool×Nat×Int)):Prop where
 x0:Bl v w.heap.size 62 [.slice (some ⟨gx,0,none⟩) n n,.bool (dN oS),.slice ax (ws (dX oS)).length cx,.int .i64 (dE oS)]
 k0:Bl v (w.heap.size+1) 3 [.int .i64 (k:Nat)]
 z0:Lo v (w.heap.size+2) gG
 dr:Dr v gx n n A
 nt:Nt 0 v (.slice ax (ws (dX oS)).length cx) (dX oS)
 b:An w v
theorem BN.below{w v y:World}{n k gx:Nat}{ax:Option Addr}{cx:Nat}{A:Nat->Option (Bool×Nat×Int)}{oS:Option (Bool×Nat×Int)}(h:BN w v n k gx ax cx A oS)(hb:An v y):BN w y n k gx ax cx A oS :=
 ⟨h.x0.below hb h.x0.lt,h.k0.below hb h.k0.lt,h.z0.below hb,h.dr.below hb,h.nt.below hb,h.b.trans (hb.mono h.b.size)⟩
theorem BN.other{w v:World}{n k gx g:Nat}{ax:Option Addr}{cx:Nat}{A:Nat->Option (Bool×Nat×Int)}{oS q:Option (Bool×Nat×Int)}(h:BN w v n k gx ax cx A oS)(hL:Lo v g q)(hg:w.heap.size+2<g)(hx:gx<w.heap.size)(x y z:Value):BN w (dh v g x y z) n k gx ax cx A oS:=by
 have hb:=kI g v x y z;obtain⟨a0,c0,hD,hM⟩:=hL;exact⟨h.x0.but hb (by omega),h.k0.but hb (by omega),h.z0.other ⟨a0,c0,hD,hM⟩ (by omega) _ _ _,h.dr.but (T:=37) (L:=[_,_,_]) hb hD (by omega) (by decide),h.nt.rR hD _ _ _,di h.b h.b.size (by omega) _ _ _⟩
theorem Lo.vo{w:World}{g:Nat}{o:Option (Bool×Nat×Int)}{v:Value}{X:Nat}(h:Lo w g o)(hN:Nt 0 w v X)(x y z:Value):Nt 0 (dh w g x y z) v X:=by
 obtain⟨a,c,hD,_⟩:=h;exact hN.rR hD _ _ _
theorem Ha (w:World) (n k gx:Nat) (ax:Option Addr) (cx:Nat) (A:Nat->Option (Bool×Nat×Int)) (oS oN oL oR:Option (Bool×Nat×Int)) (hT:dH w) (hk:k<=4) (hn:n<=65536)
 (HI:Hid (∀ v:World,dH v->As 52 #[.int .i64 (n:Nat)] v fun r w'=>aN 0 w' r oN/\An v w'))
 (MW:Hid (∀ (v:World) (a:Option Addr) (d:Nat),dH v->Nt 0 v (.slice a (ws (dX oS)).length d) (dX oS)->As 94 #[.agg #[.bool (dN oS),.slice a (ws (dX oS)).length d,.int .i64 (dE oS)]] v fun r w'=>aN 0 w' r oL/\An v w'))
 (HC:Hid (∀ (u:World) (g5 g6:Nat),dH u->Lo u g5 oN->Lo u g6 oL->BN w u n k gx ax cx A oS->As 84 #[.int .i64 ((k+1:Nat):Int),.func (.func 95) #[] #[.pointer (some ⟨g5,0,none⟩),.pointer (some ⟨w.heap.size,0,none⟩),.pointer (some ⟨w.heap.size+1,0,none⟩),.pointer (some ⟨g6,0,none⟩)]] u fun r w'=>aN 0 w' r oR/\An u w'))
 (B3:Dr w gx n n A) (B4:Nt 0 w (.slice ax (ws (dX oS)).length cx) (dX oS)) :
 As 50 #[.agg #[.slice (some ⟨gx,0,none⟩) n n,.bool (dN oS),.slice ax (ws (dX oS)).length cx,.int .i64 (dE oS)],.int .i64 (k:Nat)] w fun r w'=>aN 0 w' r oR/\An w w':=by
 obtain⟨W,hW⟩:=af (((w.alloc (Obj.cells #[.slice (some ⟨gx,0,none⟩) n n,.bool (dN oS),.slice ax (ws (dX oS)).length cx,.int .i64 (dE oS)] 62)).alloc (Obj.cells #[.int .i64 (k:Nat)] 3)).alloc (Obj.cells #[.bool false,.slice none 0 0,.int .i64 0] 37));have HL:=ak B3.lt
 have H0:Aside (BN w W n k gx ax cx A oS):=by
  have hbW:An w W:=by rw[hW];exact((ae _ _).trans ((ae _ _).mono (by simp))).trans ((ae _ _).mono (by simp;omega))
  refine⟨?_,?_,?_,B3.below hbW,B4.below hbW,hbW⟩
  · exact zj
  · exact yi
  · exact yb
 have HW:=ak hW;have HT:=ak hT;have hwr:IntKind.i64.wrap ((k:Int)+1)=((k+1:Nat):Int):=by rw[zY];omega
 have hmf:∀ (fn:Fn) (first cap:Array Value) (w:World),(Instr.makeFunc fn first cap).run Tryz.prog w=.ok (.func fn first cap) w:=fun _ _ _ _=>rfl;clear hW hT B3 B4;go_enter Tryz.func50,Tryz.ntmps50
 go_upto_region 1 with fail
 rw[<-HW.o];clear HW
 go_cut [5,6] from 7 to 13 (fun q q' wx=>∃ g5 g6:Nat,q=.pointer (some ⟨g5,0,none⟩)/\q'=.pointer (some ⟨g6,0,none⟩)/\Aside (Lo wx g5 oN/\Lo wx g6 oL/\BN w wx n k gx ax cx A oS))
 case first =>
  have hdr:=(aB W.heap.size W).drew;have kS:Aside (W.drew.cell? ⟨w.heap.size,0,none⟩=some (.slice (some ⟨gx,0,none⟩) n n)/\W.drew.cell? ⟨w.heap.size,1,none⟩=some (.bool (dN oS))/\W.drew.cell? ⟨w.heap.size,2,none⟩=some (.slice ax (ws (dX oS)).length cx)/\W.drew.cell? ⟨w.heap.size,3,none⟩=some (.int .i64 (dE oS))):=⟨(H0.o.below hdr).x0.cell 0 _ rfl,(H0.o.below hdr).x0.cell 1 _ rfl,(H0.o.below hdr).x0.cell 2 _ rfl,(H0.o.below hdr).x0.cell 3 _ rfl⟩;have BD:=ak (H0.o.below hdr);clear hdr H0;refine dz (fun w'=>w'.cell? ⟨w.heap.size,0,none⟩=some (.slice (some ⟨gx,0,none⟩) n n)/\w'.cell? ⟨w.heap.size,1,none⟩=some (.bool (dN oS))/\w'.cell? ⟨w.heap.size,2,none⟩=some (.slice ax (ws (dX oS)).length cx)/\w'.cell? ⟨w.heap.size,3,none⟩=some (.int .i64 (dE oS))) 9 (by kernel_rfl) ?_;obtain⟨Wd,hWd⟩:=af (W.drew);rw[<-hWd] at BD kS |-;clear hWd
  refine tk 0 [1,2,3] rfl kS.o ?_;try simp only[Act.put,sa,sb,sc]
  refine tk 1 [2,3] rfl kS.o ?_;try simp only[Act.put,sa,sb,sc]
  refine tk 2 [3] rfl kS.o ?_;try simp only[Act.put,sa,sb,sc]
  refine tk 4 [5,6] rfl kS.o ?_;try simp only[Act.put,sa,sb,sc]
  refine tk 5 [6] rfl kS.o ?_;try simp only[Act.put,sa,sb,sc]
  refine qo (i:=3) (j:=7) (k:=8) (by kernel_rfl) rfl rfl rfl (fun K' hK=>?_) (fun K' hK=>?_) (fun K' hK=>?_)
  · skip;have C:=hid (HI.o Wd (HT.o.belows BD.o.b));go_simp;refine C.o.mono ?_;rintro r u1 ⟨hd,hb⟩;obtain⟨a1,c1,rfl,hN⟩:=hd.aD;have BD:=aJ (BD.o.below hb) hN;have kS:=ak (jm hb kS.o);clear hb hd hN C;dsimp only;refine hK.out _ _ (fun _=>kS.o) ?_;clear hK K'
    try simp only[Act.put,sa,sb,sc]
    refine qo (i:=6) (j:=7) (k:=8) (by kernel_rfl) rfl rfl rfl (fun K' hK=>?_) (fun K' hK=>?_) (fun K' hK=>?_)
    · skip;have C:=hid (MW.o u1 ax cx (HT.o.belows BD.o.1.b) BD.o.1.nt);go_simp;refine C.o.mono ?_;rintro r u2 ⟨hd,hb⟩;obtain⟨a2,c2,rfl,hN⟩:=hd.aD;have BD:=bO (BD.o.1.below hb) (BD.o.2.below hb) hN;have kS:=ak (jm hb kS.o);clear hb hd hN C;dsimp only;refine hK.out _ _ (fun _=>kS.o) ?_;clear hK K'
      try simp only[Act.put,sa,sb,sc]
      refine aU (i:=7) (j:=8) (by kernel_rfl) rfl rfl (fun K' hK=>?_) (fun K' hK=>?_)
      · skip;go_simp;obtain⟨g3,hg3⟩:=af (u2.heap.size);obtain⟨V3,Ju⟩:=af (u2.alloc (Obj.cells #[.bool false,.slice none 0 0,.int .i64 0] 37));have hb:Below u2.heap.size u2 V3:=by rw[Ju];exact ae _ _
        have hZ:Lo V3 g3 gG:=by rw[Ju,hg3];exact Lo.zero _
        have BD:=dJ (BD.o.1.below hb) (BD.o.2.1.below hb) (BD.o.r2.below hb) hZ (show w.heap.size+2<g3 by rw[hg3];exact BD.o.1.z0.lt);have kS:=ak (jm hb kS.o);have HV:=(aJ Ju hg3);clear hZ hb Ju hg3;refine hK.out _ _ (fun _=>by rw[<-HV.o.1];exact kS.o) ?_;clear hK K';rw[<-HV.o.1,<-HV.o.2];clear HV
        try simp only[Act.put,sa,sb,sc]
        refine ah (i:=8) (by kernel_rfl) rfl (fun K' hK=>?_);go_simp;obtain⟨g4,hg4⟩:=af (V3.heap.size);obtain⟨V4,su⟩:=af (V3.alloc (Obj.cells #[.bool false,.slice none 0 0,.int .i64 0] 37));have hb:Below V3.heap.size V3 V4:=by rw[su];exact ae _ _
        have hZ:Lo V4 g4 gG:=by rw[su,hg4];exact Lo.zero _
        have BD:=qb (BD.o.1.below hb) (BD.o.2.1.below hb) (BD.o.r2.1.below hb) (BD.o.r3.1.below hb) BD.o.r4 hZ (show w.heap.size+2<g4 by rw[hg4];exact BD.o.1.z0.lt) (show g3<g4 by rw[hg4];exact BD.o.r3.1.lt);have kS:=ak (jm hb kS.o);have HV:=(aJ su hg4);clear hZ hb su hg4;refine hK.out _ _ (fun _=>by rw[<-HV.o.1];exact kS.o) ?_;clear hK K';rw[<-HV.o.1,<-HV.o.2];clear HV
        try simp only[Act.put,sa,sb,sc]
        have BE:=jY (BD.o.r3.1.set BD.o.2.1) (BD.o.r5.1.other BD.o.r3.1 (ky BD.o.r7) (.bool (dN oN)) (.slice a1 (ws (dX oN)).length c1) (.int .i64 (dE oN))) (BD.o.1.other BD.o.r3.1 BD.o.r4.1 HL.o (.bool (dN oN)) (.slice a1 (ws (dX oN)).length c1) (.int .i64 (dE oN))) (BD.o.r3.1.vo BD.o.r2.1 (.bool (dN oN)) (.slice a1 (ws (dX oN)).length c1) (.int .i64 (dE oN))) BD.o.r4.1 BD.o.r6.1 (dR BD.o.r7);obtain⟨Y1,iX⟩:=af (dh V4 g3 (.bool (dN oN)) (.slice a1 (ws (dX oN)).length c1) (.int .i64 (dE oN)));rw[<-iX] at BE;unfold dh at iX;obtain⟨zp,zq,DZ,MZ⟩:=BD.o.r3.1;obtain⟨z0,z1,z2,dO,dP,dQ⟩:=DZ.facts;clear DZ MZ;refine ah (i:=9) (by kernel_rfl) rfl (fun K' hK=>?_);go_simp;refine hK.out _ _ (fun h=>absurd h (by decide)) ?_;clear hK K' z0 z1 z2 dO dP dQ kS BD;rw[<-iX];clear iX;obtain⟨zp,zq,DZ,MZ⟩:=BE.o.2.1;obtain⟨z0,z1,z2,dO,dP,dQ⟩:=DZ.facts;clear DZ MZ;refine ah (i:=10) (by kernel_rfl) rfl (fun K' hK=>?_);go_simp;refine hK.out _ _ (fun h=>absurd h (by decide)) ?_;clear hK K' z0 z1 z2 dO dP dQ;refine aH (by kernel_rfl) ?_ _;go_wp2_with fail
        go_meet
        case rel=>exact⟨g3,g4,rfl,rfl,BE.o.1.other BE.o.2.1 BE.o.r6 _ _ _,BE.o.2.1.set BE.o.r3.1,BE.o.r2.1.other BE.o.2.1 BE.o.r5.1 HL.o _ _ _⟩
      · skip;go_simp;obtain⟨g5,hg5⟩:=af (u2.heap.size);obtain⟨V5,vX⟩:=af (u2.alloc (Obj.cells #[.bool false,.slice none 0 0,.int .i64 0] 37));have hb:Below u2.heap.size u2 V5:=by rw[vX];exact ae _ _
        have hZ:Lo V5 g5 gG:=by rw[vX,hg5];exact Lo.zero _
        have BD:=dJ (BD.o.1.below hb) (BD.o.2.1.below hb) (BD.o.r2.below hb) hZ (show w.heap.size+2<g5 by rw[hg5];exact BD.o.1.z0.lt);have kS:=ak (jm hb kS.o);have HV:=(aJ vX hg5);clear hZ hb vX hg5;refine hK.out _ _ (fun _=>by rw[<-HV.o.1];exact kS.o) ?_;clear hK K';rw[<-HV.o.1,<-HV.o.2];clear HV
        try simp only[Act.put,sa,sb,sc]
        refine ah (i:=7) (by kernel_rfl) rfl (fun K' hK=>?_);go_simp;obtain⟨g6,TU⟩:=af (V5.heap.size);obtain⟨V6,hV6⟩:=af (V5.alloc (Obj.cells #[.bool false,.slice none 0 0,.int .i64 0] 37));have hb:Below V5.heap.size V5 V6:=by rw[hV6];exact ae _ _
        have hZ:Lo V6 g6 gG:=by rw[hV6,TU];exact Lo.zero _
        have BD:=qb (BD.o.1.below hb) (BD.o.2.1.below hb) (BD.o.r2.1.below hb) (BD.o.r3.1.below hb) BD.o.r4 hZ (show w.heap.size+2<g6 by rw[TU];exact BD.o.1.z0.lt) (show g5<g6 by rw[TU];exact BD.o.r3.1.lt);have kS:=ak (jm hb kS.o);have HV:=(aJ hV6 TU);clear hZ hb hV6 TU;refine hK.out _ _ (fun _=>by rw[<-HV.o.1];exact kS.o) ?_;clear hK K';rw[<-HV.o.1,<-HV.o.2];clear HV
        try simp only[Act.put,sa,sb,sc]
        have BE:=jY (BD.o.r5.1.set BD.o.2.1) (BD.o.r3.1.other BD.o.r5.1 (dR BD.o.r7) (.bool (dN oN)) (.slice a1 (ws (dX oN)).length c1) (.int .i64 (dE oN))) (BD.o.1.other BD.o.r5.1 BD.o.r6.1 HL.o (.bool (dN oN)) (.slice a1 (ws (dX oN)).length c1) (.int .i64 (dE oN))) (BD.o.r5.1.vo BD.o.r2.1 (.bool (dN oN)) (.slice a1 (ws (dX oN)).length c1) (.int .i64 (dE oN))) BD.o.r6.1 BD.o.r4.1 (ky BD.o.r7);obtain⟨Y1,iX⟩:=af (dh V6 g6 (.bool (dN oN)) (.slice a1 (ws (dX oN)).length c1) (.int .i64 (dE oN)));rw[<-iX] at BE;unfold dh at iX;obtain⟨zp,zq,DZ,MZ⟩:=BD.o.r5.1;obtain⟨z0,z1,z2,dO,dP,dQ⟩:=DZ.facts;clear DZ MZ;refine ah (i:=9) (by kernel_rfl) rfl (fun K' hK=>?_);go_simp;refine hK.out _ _ (fun h=>absurd h (by decide)) ?_;clear hK K' z0 z1 z2 dO dP dQ kS BD;rw[<-iX];clear iX;obtain⟨zp,zq,DZ,MZ⟩:=BE.o.2.1;obtain⟨z0,z1,z2,dO,dP,dQ⟩:=DZ.facts;clear DZ MZ;refine ah (i:=10) (by kernel_rfl) rfl (fun K' hK=>?_);go_simp;refine hK.out _ _ (fun h=>absurd h (by decide)) ?_;clear hK K' z0 z1 z2 dO dP dQ;refine aH (by kernel_rfl) ?_ _;go_wp2_with fail
        go_meet
        case rel=>exact⟨g6,g5,rfl,rfl,BE.o.1.other BE.o.2.1 BE.o.r6 _ _ _,BE.o.2.1.set BE.o.r3.1,BE.o.r2.1.other BE.o.2.1 BE.o.r5.1 HL.o _ _ _⟩
    · skip;go_simp;obtain⟨g7,mo⟩:=af (u1.heap.size);obtain⟨V7,vY⟩:=af (u1.alloc (Obj.cells #[.bool false,.slice none 0 0,.int .i64 0] 37));have hb:Below u1.heap.size u1 V7:=by rw[vY];exact ae _ _
      have hZ:Lo V7 g7 gG:=by rw[vY,mo];exact Lo.zero _
      have BD:=fE (BD.o.1.below hb) (BD.o.2.below hb) hZ (show w.heap.size+2<g7 by rw[mo];exact BD.o.1.z0.lt);have kS:=ak (jm hb kS.o);have HV:=(aJ vY mo);clear hZ hb vY mo;refine hK.out _ _ (fun _=>by rw[<-HV.o.1];exact kS.o) ?_;clear hK K';rw[<-HV.o.1,<-HV.o.2];clear HV
      try simp only[Act.put,sa,sb,sc]
      refine aU (i:=6) (j:=8) (by kernel_rfl) rfl rfl (fun K' hK=>?_) (fun K' hK=>?_)
      · skip;have C:=hid (MW.o V7 ax cx (HT.o.belows BD.o.1.b) BD.o.1.nt);go_simp;refine C.o.mono ?_;rintro r u8 ⟨hd,hb⟩;obtain⟨a8,c8,rfl,hN⟩:=hd.aD;have BD:=dJ (BD.o.1.below hb) (BD.o.2.1.below hb) (BD.o.r2.1.below hb) BD.o.r3 hN;have kS:=ak (jm hb kS.o);clear hb hd hN C;dsimp only;refine hK.out _ _ (fun _=>kS.o) ?_;clear hK K'
        try simp only[Act.put,sa,sb,sc]
        refine ah (i:=8) (by kernel_rfl) rfl (fun K' hK=>?_);go_simp;obtain⟨g9,ZH⟩:=af (u8.heap.size);obtain⟨V9,hV9⟩:=af (u8.alloc (Obj.cells #[.bool false,.slice none 0 0,.int .i64 0] 37));have hb:Below u8.heap.size u8 V9:=by rw[hV9];exact ae _ _
        have hZ:Lo V9 g9 gG:=by rw[hV9,ZH];exact Lo.zero _
        have BD:=qb (BD.o.1.below hb) (BD.o.2.1.below hb) (BD.o.r2.1.below hb) BD.o.r3.1 (BD.o.r4.below hb) hZ (show w.heap.size+2<g9 by rw[ZH];exact BD.o.1.z0.lt) (show g7<g9 by rw[ZH];exact BD.o.r2.1.lt);have kS:=ak (jm hb kS.o);have HV:=(aJ hV9 ZH);clear hZ hb hV9 ZH;refine hK.out _ _ (fun _=>by rw[<-HV.o.1];exact kS.o) ?_;clear hK K';rw[<-HV.o.1,<-HV.o.2];clear HV
        try simp only[Act.put,sa,sb,sc]
        have BE:=jY (BD.o.r2.1.set BD.o.2.1) (BD.o.r5.1.other BD.o.r2.1 (ky BD.o.r7) (.bool (dN oN)) (.slice a1 (ws (dX oN)).length c1) (.int .i64 (dE oN))) (BD.o.1.other BD.o.r2.1 BD.o.r3.1 HL.o (.bool (dN oN)) (.slice a1 (ws (dX oN)).length c1) (.int .i64 (dE oN))) (BD.o.r2.1.vo BD.o.r4.1 (.bool (dN oN)) (.slice a1 (ws (dX oN)).length c1) (.int .i64 (dE oN))) BD.o.r3.1 BD.o.r6.1 (dR BD.o.r7);obtain⟨Y1,iX⟩:=af (dh V9 g7 (.bool (dN oN)) (.slice a1 (ws (dX oN)).length c1) (.int .i64 (dE oN)));rw[<-iX] at BE;unfold dh at iX;obtain⟨zp,zq,DZ,MZ⟩:=BD.o.r2.1;obtain⟨z0,z1,z2,dO,dP,dQ⟩:=DZ.facts;clear DZ MZ;refine ah (i:=9) (by kernel_rfl) rfl (fun K' hK=>?_);go_simp;refine hK.out _ _ (fun h=>absurd h (by decide)) ?_;clear hK K' z0 z1 z2 dO dP dQ kS BD;rw[<-iX];clear iX;obtain⟨zp,zq,DZ,MZ⟩:=BE.o.2.1;obtain⟨z0,z1,z2,dO,dP,dQ⟩:=DZ.facts;clear DZ MZ;refine ah (i:=10) (by kernel_rfl) rfl (fun K' hK=>?_);go_simp;refine hK.out _ _ (fun h=>absurd h (by decide)) ?_;clear hK K' z0 z1 z2 dO dP dQ;refine aH (by kernel_rfl) ?_ _;go_wp2_with fail
        go_meet
        case rel=>exact⟨g7,g9,rfl,rfl,BE.o.1.other BE.o.2.1 BE.o.r6 _ _ _,BE.o.2.1.set BE.o.r3.1,BE.o.r2.1.other BE.o.2.1 BE.o.r5.1 HL.o _ _ _⟩
      · skip;go_simp;obtain⟨g10,jX⟩:=af (V7.heap.size);obtain⟨G9,nL⟩:=af (V7.alloc (Obj.cells #[.bool false,.slice none 0 0,.int .i64 0] 37));have hb:Below V7.heap.size V7 G9:=by rw[nL];exact ae _ _
        have hZ:Lo G9 g10 gG:=by rw[nL,jX];exact Lo.zero _
        have BD:=jY (BD.o.1.below hb) (BD.o.2.1.below hb) (BD.o.r2.1.below hb) BD.o.r3 hZ (show w.heap.size+2<g10 by rw[jX];exact BD.o.1.z0.lt) (show g7<g10 by rw[jX];exact BD.o.r2.1.lt);have kS:=ak (jm hb kS.o);have HV:=(aJ nL jX);clear hZ hb nL jX;refine hK.out _ _ (fun _=>by rw[<-HV.o.1];exact kS.o) ?_;clear hK K';rw[<-HV.o.1,<-HV.o.2];clear HV
        try simp only[Act.put,sa,sb,sc]
        refine ah (i:=6) (by kernel_rfl) rfl (fun K' hK=>?_);have C:=hid (MW.o G9 ax cx (HT.o.belows BD.o.1.b) BD.o.1.nt);go_simp;refine C.o.mono ?_;rintro r Eo ⟨hd,hb⟩;obtain⟨VS,c11,rfl,hN⟩:=hd.aD;have BD:=qb (BD.o.1.below hb) (BD.o.2.1.below hb) (BD.o.r2.1.below hb) BD.o.r3.1 (BD.o.r4.1.below hb) BD.o.r5.1 BD.o.r6 hN;have kS:=ak (jm hb kS.o);clear hb hd hN C;dsimp only;refine hK.out _ _ (fun _=>kS.o) ?_;clear hK K'
        try simp only[Act.put,sa,sb,sc]
        have BE:=jY (BD.o.r2.1.set BD.o.2.1) (BD.o.r4.1.other BD.o.r2.1 (ky BD.o.r6.1) (.bool (dN oN)) (.slice a1 (ws (dX oN)).length c1) (.int .i64 (dE oN))) (BD.o.1.other BD.o.r2.1 BD.o.r3.1 HL.o (.bool (dN oN)) (.slice a1 (ws (dX oN)).length c1) (.int .i64 (dE oN))) (BD.o.r2.1.vo BD.o.r7 (.bool (dN oN)) (.slice a1 (ws (dX oN)).length c1) (.int .i64 (dE oN))) BD.o.r3.1 BD.o.r5.1 (dR BD.o.r6.1);obtain⟨Y1,iX⟩:=af (dh Eo g7 (.bool (dN oN)) (.slice a1 (ws (dX oN)).length c1) (.int .i64 (dE oN)));rw[<-iX] at BE;unfold dh at iX;obtain⟨zp,zq,DZ,MZ⟩:=BD.o.r2.1;obtain⟨z0,z1,z2,dO,dP,dQ⟩:=DZ.facts;clear DZ MZ;refine ah (i:=9) (by kernel_rfl) rfl (fun K' hK=>?_);go_simp;refine hK.out _ _ (fun h=>absurd h (by decide)) ?_;clear hK K' z0 z1 z2 dO dP dQ kS BD;rw[<-iX];clear iX;obtain⟨zp,zq,DZ,MZ⟩:=BE.o.2.1;obtain⟨z0,z1,z2,dO,dP,dQ⟩:=DZ.facts;clear DZ MZ;refine ah (i:=10) (by kernel_rfl) rfl (fun K' hK=>?_);go_simp;refine hK.out _ _ (fun h=>absurd h (by decide)) ?_;clear hK K' z0 z1 z2 dO dP dQ;refine aH (by kernel_rfl) ?_ _;go_wp2_with fail
        go_meet
        case rel=>exact⟨g7,g10,rfl,rfl,BE.o.1.other BE.o.2.1 BE.o.r6 _ _ _,BE.o.2.1.set BE.o.r3.1,BE.o.r2.1.other BE.o.2.1 BE.o.r5.1 HL.o _ _ _⟩
    · skip;go_simp;obtain⟨g12,nI⟩:=af (u1.heap.size);obtain⟨XC,Ui⟩:=af (u1.alloc (Obj.cells #[.bool false,.slice none 0 0,.int .i64 0] 37));have hb:Below u1.heap.size u1 XC:=by rw[Ui];exact ae _ _
      have hZ:Lo XC g12 gG:=by rw[Ui,nI];exact Lo.zero _
      have BD:=fE (BD.o.1.below hb) (BD.o.2.below hb) hZ (show w.heap.size+2<g12 by rw[nI];exact BD.o.1.z0.lt);have kS:=ak (jm hb kS.o);have HV:=(aJ Ui nI);clear hZ hb Ui nI;refine hK.out _ _ (fun _=>by rw[<-HV.o.1];exact kS.o) ?_;clear hK K';rw[<-HV.o.1,<-HV.o.2];clear HV
      try simp only[Act.put,sa,sb,sc]
      refine aU (i:=6) (j:=7) (by kernel_rfl) rfl rfl (fun K' hK=>?_) (fun K' hK=>?_)
      · skip;have C:=hid (MW.o XC ax cx (HT.o.belows BD.o.1.b) BD.o.1.nt);go_simp;refine C.o.mono ?_;rintro r Ep ⟨hd,hb⟩;obtain⟨a13,c13,rfl,hN⟩:=hd.aD;have BD:=dJ (BD.o.1.below hb) (BD.o.2.1.below hb) (BD.o.r2.1.below hb) BD.o.r3 hN;have kS:=ak (jm hb kS.o);clear hb hd hN C;dsimp only;refine hK.out _ _ (fun _=>kS.o) ?_;clear hK K'
        try simp only[Act.put,sa,sb,sc]
        refine ah (i:=7) (by kernel_rfl) rfl (fun K' hK=>?_);go_simp;obtain⟨g14,QA⟩:=af (Ep.heap.size);obtain⟨V14,Uj⟩:=af (Ep.alloc (Obj.cells #[.bool false,.slice none 0 0,.int .i64 0] 37));have hb:Below Ep.heap.size Ep V14:=by rw[Uj];exact ae _ _
        have hZ:Lo V14 g14 gG:=by rw[Uj,QA];exact Lo.zero _
        have BD:=qb (BD.o.1.below hb) (BD.o.2.1.below hb) (BD.o.r2.1.below hb) BD.o.r3.1 (BD.o.r4.below hb) hZ (show w.heap.size+2<g14 by rw[QA];exact BD.o.1.z0.lt) (show g12<g14 by rw[QA];exact BD.o.r2.1.lt);have kS:=ak (jm hb kS.o);have HV:=(aJ Uj QA);clear hZ hb Uj QA;refine hK.out _ _ (fun _=>by rw[<-HV.o.1];exact kS.o) ?_;clear hK K';rw[<-HV.o.1,<-HV.o.2];clear HV
        try simp only[Act.put,sa,sb,sc]
        have BE:=jY (BD.o.r5.1.set BD.o.2.1) (BD.o.r2.1.other BD.o.r5.1 (dR BD.o.r7) (.bool (dN oN)) (.slice a1 (ws (dX oN)).length c1) (.int .i64 (dE oN))) (BD.o.1.other BD.o.r5.1 BD.o.r6.1 HL.o (.bool (dN oN)) (.slice a1 (ws (dX oN)).length c1) (.int .i64 (dE oN))) (BD.o.r5.1.vo BD.o.r4.1 (.bool (dN oN)) (.slice a1 (ws (dX oN)).length c1) (.int .i64 (dE oN))) BD.o.r6.1 BD.o.r3.1 (ky BD.o.r7);obtain⟨Y1,iX⟩:=af (dh V14 g14 (.bool (dN oN)) (.slice a1 (ws (dX oN)).length c1) (.int .i64 (dE oN)));rw[<-iX] at BE;unfold dh at iX;obtain⟨zp,zq,DZ,MZ⟩:=BD.o.r5.1;obtain⟨z0,z1,z2,dO,dP,dQ⟩:=DZ.facts;clear DZ MZ;refine ah (i:=9) (by kernel_rfl) rfl (fun K' hK=>?_);go_simp;refine hK.out _ _ (fun h=>absurd h (by decide)) ?_;clear hK K' z0 z1 z2 dO dP dQ kS BD;rw[<-iX];clear iX;obtain⟨zp,zq,DZ,MZ⟩:=BE.o.2.1;obtain⟨z0,z1,z2,dO,dP,dQ⟩:=DZ.facts;clear DZ MZ;refine ah (i:=10) (by kernel_rfl) rfl (fun K' hK=>?_);go_simp;refine hK.out _ _ (fun h=>absurd h (by decide)) ?_;clear hK K' z0 z1 z2 dO dP dQ;refine aH (by kernel_rfl) ?_ _;go_wp2_with fail
        go_meet
        case rel=>exact⟨g14,g12,rfl,rfl,BE.o.1.other BE.o.2.1 BE.o.r6 _ _ _,BE.o.2.1.set BE.o.r3.1,BE.o.r2.1.other BE.o.2.1 BE.o.r5.1 HL.o _ _ _⟩
      · skip;go_simp;obtain⟨g15,yA⟩:=af (XC.heap.size);obtain⟨V15,Uk⟩:=af (XC.alloc (Obj.cells #[.bool false,.slice none 0 0,.int .i64 0] 37));have hb:Below XC.heap.size XC V15:=by rw[Uk];exact ae _ _
        have hZ:Lo V15 g15 gG:=by rw[Uk,yA];exact Lo.zero _
        have BD:=jY (BD.o.1.below hb) (BD.o.2.1.below hb) (BD.o.r2.1.below hb) BD.o.r3 hZ (show w.heap.size+2<g15 by rw[yA];exact BD.o.1.z0.lt) (show g12<g15 by rw[yA];exact BD.o.r2.1.lt);have kS:=ak (jm hb kS.o);have HV:=(aJ Uk yA);clear hZ hb Uk yA;refine hK.out _ _ (fun _=>by rw[<-HV.o.1];exact kS.o) ?_;clear hK K';rw[<-HV.o.1,<-HV.o.2];clear HV
        try simp only[Act.put,sa,sb,sc]
        refine ah (i:=6) (by kernel_rfl) rfl (fun K' hK=>?_);have C:=hid (MW.o V15 ax cx (HT.o.belows BD.o.1.b) BD.o.1.nt);go_simp;refine C.o.mono ?_;rintro r u16 ⟨hd,hb⟩;obtain⟨a16,c16,rfl,hN⟩:=hd.aD;have BD:=qb (BD.o.1.below hb) (BD.o.2.1.below hb) (BD.o.r2.1.below hb) BD.o.r3.1 (BD.o.r4.1.below hb) BD.o.r5.1 BD.o.r6 hN;have kS:=ak (jm hb kS.o);clear hb hd hN C;dsimp only;refine hK.out _ _ (fun _=>kS.o) ?_;clear hK K'
        try simp only[Act.put,sa,sb,sc]
        have BE:=jY (BD.o.r4.1.set BD.o.2.1) (BD.o.r2.1.other BD.o.r4.1 (dR BD.o.r6.1) (.bool (dN oN)) (.slice a1 (ws (dX oN)).length c1) (.int .i64 (dE oN))) (BD.o.1.other BD.o.r4.1 BD.o.r5.1 HL.o (.bool (dN oN)) (.slice a1 (ws (dX oN)).length c1) (.int .i64 (dE oN))) (BD.o.r4.1.vo BD.o.r7 (.bool (dN oN)) (.slice a1 (ws (dX oN)).length c1) (.int .i64 (dE oN))) BD.o.r5.1 BD.o.r3.1 (ky BD.o.r6.1);obtain⟨Y1,iX⟩:=af (dh u16 g15 (.bool (dN oN)) (.slice a1 (ws (dX oN)).length c1) (.int .i64 (dE oN)));rw[<-iX] at BE;unfold dh at iX;obtain⟨zp,zq,DZ,MZ⟩:=BD.o.r4.1;obtain⟨z0,z1,z2,dO,dP,dQ⟩:=DZ.facts;clear DZ MZ;refine ah (i:=9) (by kernel_rfl) rfl (fun K' hK=>?_);go_simp;refine hK.out _ _ (fun h=>absurd h (by decide)) ?_;clear hK K' z0 z1 z2 dO dP dQ kS BD;rw[<-iX];clear iX;obtain⟨zp,zq,DZ,MZ⟩:=BE.o.2.1;obtain⟨z0,z1,z2,dO,dP,dQ⟩:=DZ.facts;clear DZ MZ;refine ah (i:=10) (by kernel_rfl) rfl (fun K' hK=>?_);go_simp;refine hK.out _ _ (fun h=>absurd h (by decide)) ?_;clear hK K' z0 z1 z2 dO dP dQ;refine aH (by kernel_rfl) ?_ _;go_wp2_with fail
        go_meet
        case rel=>exact⟨g15,g12,rfl,rfl,BE.o.1.other BE.o.2.1 BE.o.r6 _ _ _,BE.o.2.1.set BE.o.r3.1,BE.o.r2.1.other BE.o.2.1 BE.o.r5.1 HL.o _ _ _⟩
  · skip;go_simp;obtain⟨g17,Es⟩:=af (Wd.heap.size);obtain⟨XD,Ul⟩:=af (Wd.alloc (Obj.cells #[.bool false,.slice none 0 0,.int .i64 0] 37));have hb:Below Wd.heap.size Wd XD:=by rw[Ul];exact ae _ _
    have hZ:Lo XD g17 gG:=by rw[Ul,Es];exact Lo.zero _
    have BD:=bO (BD.o.below hb) hZ (show w.heap.size+2<g17 by rw[Es];exact BD.o.z0.lt);have kS:=ak (jm hb kS.o);have HV:=(aJ Ul Es);clear hZ hb Ul Es;refine hK.out _ _ (fun _=>by rw[<-HV.o.1];exact kS.o) ?_;clear hK K';rw[<-HV.o.1,<-HV.o.2];clear HV
    try simp only[Act.put,sa,sb,sc]
    refine aU (i:=3) (j:=8) (by kernel_rfl) rfl rfl (fun K' hK=>?_) (fun K' hK=>?_)
    · skip;have C:=hid (HI.o XD (HT.o.belows BD.o.1.b));go_simp;refine C.o.mono ?_;rintro r Rf ⟨hd,hb⟩;obtain⟨Vz,c18,rfl,hN⟩:=hd.aD;have BD:=fE (BD.o.1.below hb) (BD.o.2.1.below hb) BD.o.r2 hN;have kS:=ak (jm hb kS.o);clear hb hd hN C;dsimp only;refine hK.out _ _ (fun _=>kS.o) ?_;clear hK K'
      try simp only[Act.put,sa,sb,sc]
      refine aU (i:=6) (j:=8) (by kernel_rfl) rfl rfl (fun K' hK=>?_) (fun K' hK=>?_)
      · skip;have C:=hid (MW.o Rf ax cx (HT.o.belows BD.o.1.b) BD.o.1.nt);go_simp;refine C.o.mono ?_;rintro r Rh ⟨hd,hb⟩;obtain⟨a19,c19,rfl,hN⟩:=hd.aD;have BD:=dJ (BD.o.1.below hb) (BD.o.2.1.below hb) BD.o.r2.1 (BD.o.r3.below hb) hN;have kS:=ak (jm hb kS.o);clear hb hd hN C;dsimp only;refine hK.out _ _ (fun _=>kS.o) ?_;clear hK K'
        try simp only[Act.put,sa,sb,sc]
        refine ah (i:=8) (by kernel_rfl) rfl (fun K' hK=>?_);go_simp;obtain⟨g20,BO⟩:=af (Rh.heap.size);obtain⟨V20,Um⟩:=af (Rh.alloc (Obj.cells #[.bool false,.slice none 0 0,.int .i64 0] 37));have hb:Below Rh.heap.size Rh V20:=by rw[Um];exact ae _ _
        have hZ:Lo V20 g20 gG:=by rw[Um,BO];exact Lo.zero _
        have BD:=qb (BD.o.1.below hb) (BD.o.2.1.below hb) BD.o.r2.1 (BD.o.r3.1.below hb) (BD.o.r4.below hb) hZ (show w.heap.size+2<g20 by rw[BO];exact BD.o.1.z0.lt) (show g17<g20 by rw[BO];exact BD.o.2.1.lt);have kS:=ak (jm hb kS.o);have HV:=(aJ Um BO);clear hZ hb Um BO;refine hK.out _ _ (fun _=>by rw[<-HV.o.1];exact kS.o) ?_;clear hK K';rw[<-HV.o.1,<-HV.o.2];clear HV
        try simp only[Act.put,sa,sb,sc]
        have BE:=jY (BD.o.2.1.set BD.o.r3.1) (BD.o.r5.1.other BD.o.2.1 (ky BD.o.r7) (.bool (dN oN)) (.slice Vz (ws (dX oN)).length c18) (.int .i64 (dE oN))) (BD.o.1.other BD.o.2.1 BD.o.r2.1 HL.o (.bool (dN oN)) (.slice Vz (ws (dX oN)).length c18) (.int .i64 (dE oN))) (BD.o.2.1.vo BD.o.r4.1 (.bool (dN oN)) (.slice Vz (ws (dX oN)).length c18) (.int .i64 (dE oN))) BD.o.r2.1 BD.o.r6.1 (dR BD.o.r7);obtain⟨Y1,iX⟩:=af (dh V20 g17 (.bool (dN oN)) (.slice Vz (ws (dX oN)).length c18) (.int .i64 (dE oN)));rw[<-iX] at BE;unfold dh at iX;obtain⟨zp,zq,DZ,MZ⟩:=BD.o.2.1;obtain⟨z0,z1,z2,dO,dP,dQ⟩:=DZ.facts;clear DZ MZ;refine ah (i:=9) (by kernel_rfl) rfl (fun K' hK=>?_);go_simp;refine hK.out _ _ (fun h=>absurd h (by decide)) ?_;clear hK K' z0 z1 z2 dO dP dQ kS BD;rw[<-iX];clear iX;obtain⟨zp,zq,DZ,MZ⟩:=BE.o.2.1;obtain⟨z0,z1,z2,dO,dP,dQ⟩:=DZ.facts;clear DZ MZ;refine ah (i:=10) (by kernel_rfl) rfl (fun K' hK=>?_);go_simp;refine hK.out _ _ (fun h=>absurd h (by decide)) ?_;clear hK K' z0 z1 z2 dO dP dQ;refine aH (by kernel_rfl) ?_ _;go_wp2_with fail
        go_meet
        case rel=>exact⟨g17,g20,rfl,rfl,BE.o.1.other BE.o.2.1 BE.o.r6 _ _ _,BE.o.2.1.set BE.o.r3.1,BE.o.r2.1.other BE.o.2.1 BE.o.r5.1 HL.o _ _ _⟩
      · skip;go_simp;obtain⟨g21,QB⟩:=af (Rf.heap.size);obtain⟨V21,Un⟩:=af (Rf.alloc (Obj.cells #[.bool false,.slice none 0 0,.int .i64 0] 37));have hb:Below Rf.heap.size Rf V21:=by rw[Un];exact ae _ _
        have hZ:Lo V21 g21 gG:=by rw[Un,QB];exact Lo.zero _
        have BD:=jY (BD.o.1.below hb) (BD.o.2.1.below hb) BD.o.r2.1 (BD.o.r3.below hb) hZ (show w.heap.size+2<g21 by rw[QB];exact BD.o.1.z0.lt) (show g17<g21 by rw[QB];exact BD.o.2.1.lt);have kS:=ak (jm hb kS.o);have HV:=(aJ Un QB);clear hZ hb Un QB;refine hK.out _ _ (fun _=>by rw[<-HV.o.1];exact kS.o) ?_;clear hK K';rw[<-HV.o.1,<-HV.o.2];clear HV
        try simp only[Act.put,sa,sb,sc]
        refine ah (i:=6) (by kernel_rfl) rfl (fun K' hK=>?_);have C:=hid (MW.o V21 ax cx (HT.o.belows BD.o.1.b) BD.o.1.nt);go_simp;refine C.o.mono ?_;rintro r u22 ⟨hd,hb⟩;obtain⟨a22,c22,rfl,hN⟩:=hd.aD;have BD:=qb (BD.o.1.below hb) (BD.o.2.1.below hb) BD.o.r2.1 (BD.o.r3.1.below hb) (BD.o.r4.1.below hb) BD.o.r5.1 BD.o.r6 hN;have kS:=ak (jm hb kS.o);clear hb hd hN C;dsimp only;refine hK.out _ _ (fun _=>kS.o) ?_;clear hK K'
        try simp only[Act.put,sa,sb,sc]
        have BE:=jY (BD.o.2.1.set BD.o.r3.1) (BD.o.r4.1.other BD.o.2.1 (ky BD.o.r6.1) (.bool (dN oN)) (.slice Vz (ws (dX oN)).length c18) (.int .i64 (dE oN))) (BD.o.1.other BD.o.2.1 BD.o.r2.1 HL.o (.bool (dN oN)) (.slice Vz (ws (dX oN)).length c18) (.int .i64 (dE oN))) (BD.o.2.1.vo BD.o.r7 (.bool (dN oN)) (.slice Vz (ws (dX oN)).length c18) (.int .i64 (dE oN))) BD.o.r2.1 BD.o.r5.1 (dR BD.o.r6.1);obtain⟨Y1,iX⟩:=af (dh u22 g17 (.bool (dN oN)) (.slice Vz (ws (dX oN)).length c18) (.int .i64 (dE oN)));rw[<-iX] at BE;unfold dh at iX;obtain⟨zp,zq,DZ,MZ⟩:=BD.o.2.1;obtain⟨z0,z1,z2,dO,dP,dQ⟩:=DZ.facts;clear DZ MZ;refine ah (i:=9) (by kernel_rfl) rfl (fun K' hK=>?_);go_simp;refine hK.out _ _ (fun h=>absurd h (by decide)) ?_;clear hK K' z0 z1 z2 dO dP dQ kS BD;rw[<-iX];clear iX;obtain⟨zp,zq,DZ,MZ⟩:=BE.o.2.1;obtain⟨z0,z1,z2,dO,dP,dQ⟩:=DZ.facts;clear DZ MZ;refine ah (i:=10) (by kernel_rfl) rfl (fun K' hK=>?_);go_simp;refine hK.out _ _ (fun h=>absurd h (by decide)) ?_;clear hK K' z0 z1 z2 dO dP dQ;refine aH (by kernel_rfl) ?_ _;go_wp2_with fail
        go_meet
        case rel=>exact⟨g17,g21,rfl,rfl,BE.o.1.other BE.o.2.1 BE.o.r6 _ _ _,BE.o.2.1.set BE.o.r3.1,BE.o.r2.1.other BE.o.2.1 BE.o.r5.1 HL.o _ _ _⟩
    · skip;go_simp;obtain⟨g23,QC⟩:=af (XD.heap.size);obtain⟨V23,Uo⟩:=af (XD.alloc (Obj.cells #[.bool false,.slice none 0 0,.int .i64 0] 37));have hb:Below XD.heap.size XD V23:=by rw[Uo];exact ae _ _
      have hZ:Lo V23 g23 gG:=by rw[Uo,QC];exact Lo.zero _
      have BD:=iC (BD.o.1.below hb) (BD.o.2.1.below hb) BD.o.r2 hZ (show w.heap.size+2<g23 by rw[QC];exact BD.o.1.z0.lt) (show g17<g23 by rw[QC];exact BD.o.2.1.lt);have kS:=ak (jm hb kS.o);have HV:=(aJ Uo QC);clear hZ hb Uo QC;refine hK.out _ _ (fun _=>by rw[<-HV.o.1];exact kS.o) ?_;clear hK K';rw[<-HV.o.1,<-HV.o.2];clear HV
      try simp only[Act.put,sa,sb,sc]
      refine ah (i:=3) (by kernel_rfl) rfl (fun K' hK=>?_);have C:=hid (HI.o V23 (HT.o.belows BD.o.1.b));go_simp;refine C.o.mono ?_;rintro r u24 ⟨hd,hb⟩;obtain⟨a24,c24,rfl,hN⟩:=hd.aD;have BD:=jY (BD.o.1.below hb) (BD.o.2.1.below hb) BD.o.r2.1 (BD.o.r3.1.below hb) BD.o.r4.1 BD.o.r5 hN;have kS:=ak (jm hb kS.o);clear hb hd hN C;dsimp only;refine hK.out _ _ (fun _=>kS.o) ?_;clear hK K'
      try simp only[Act.put,sa,sb,sc]
      refine ah (i:=6) (by kernel_rfl) rfl (fun K' hK=>?_);have C:=hid (MW.o u24 ax cx (HT.o.belows BD.o.1.b) BD.o.1.nt);go_simp;refine C.o.mono ?_;rintro r u25 ⟨hd,hb⟩;obtain⟨a25,c25,rfl,hN⟩:=hd.aD;have BD:=qb (BD.o.1.below hb) (BD.o.2.1.below hb) BD.o.r2.1 (BD.o.r3.1.below hb) BD.o.r4.1 BD.o.r5.1 (BD.o.r6.below hb) hN;have kS:=ak (jm hb kS.o);clear hb hd hN C;dsimp only;refine hK.out _ _ (fun _=>kS.o) ?_;clear hK K'
      try simp only[Act.put,sa,sb,sc]
      have BE:=jY (BD.o.2.1.set BD.o.r6.1) (BD.o.r3.1.other BD.o.2.1 (ky BD.o.r5.1) (.bool (dN oN)) (.slice a24 (ws (dX oN)).length c24) (.int .i64 (dE oN))) (BD.o.1.other BD.o.2.1 BD.o.r2.1 HL.o (.bool (dN oN)) (.slice a24 (ws (dX oN)).length c24) (.int .i64 (dE oN))) (BD.o.2.1.vo BD.o.r7 (.bool (dN oN)) (.slice a24 (ws (dX oN)).length c24) (.int .i64 (dE oN))) BD.o.r2.1 BD.o.r4.1 (dR BD.o.r5.1);obtain⟨Y1,iX⟩:=af (dh u25 g17 (.bool (dN oN)) (.slice a24 (ws (dX oN)).length c24) (.int .i64 (dE oN)));rw[<-iX] at BE;unfold dh at iX;obtain⟨zp,zq,DZ,MZ⟩:=BD.o.2.1;obtain⟨z0,z1,z2,dO,dP,dQ⟩:=DZ.facts;clear DZ MZ;refine ah (i:=9) (by kernel_rfl) rfl (fun K' hK=>?_);go_simp;refine hK.out _ _ (fun h=>absurd h (by decide)) ?_;clear hK K' z0 z1 z2 dO dP dQ kS BD;rw[<-iX];clear iX;obtain⟨zp,zq,DZ,MZ⟩:=BE.o.2.1;obtain⟨z0,z1,z2,dO,dP,dQ⟩:=DZ.facts;clear DZ MZ;refine ah (i:=10) (by kernel_rfl) rfl (fun K' hK=>?_);go_simp;refine hK.out _ _ (fun h=>absurd h (by decide)) ?_;clear hK K' z0 z1 z2 dO dP dQ;refine aH (by kernel_rfl) ?_ _;go_wp2_with fail
      go_meet
      case rel=>exact⟨g17,g23,rfl,rfl,BE.o.1.other BE.o.2.1 BE.o.r6 _ _ _,BE.o.2.1.set BE.o.r3.1,BE.o.r2.1.other BE.o.2.1 BE.o.r5.1 HL.o _ _ _⟩
  · skip;go_simp;obtain⟨VA,Uq⟩:=af (Wd.heap.size);obtain⟨XE,Ur⟩:=af (Wd.alloc (Obj.cells #[.bool false,.slice none 0 0,.int .i64 0] 37));have hb:Below Wd.heap.size Wd XE:=by rw[Ur];exact ae _ _
    have hZ:Lo XE VA gG:=by rw[Ur,Uq];exact Lo.zero _
    have BD:=bO (BD.o.below hb) hZ (show w.heap.size+2<VA by rw[Uq];exact BD.o.z0.lt);have kS:=ak (jm hb kS.o);have HV:=(aJ Ur Uq);clear hZ hb Ur Uq;refine hK.out _ _ (fun _=>by rw[<-HV.o.1];exact kS.o) ?_;clear hK K';rw[<-HV.o.1,<-HV.o.2];clear HV
    try simp only[Act.put,sa,sb,sc]
    refine aU (i:=3) (j:=7) (by kernel_rfl) rfl rfl (fun K' hK=>?_) (fun K' hK=>?_)
    · skip;have C:=hid (HI.o XE (HT.o.belows BD.o.1.b));go_simp;refine C.o.mono ?_;rintro r u27 ⟨hd,hb⟩;obtain⟨a27,VB,rfl,hN⟩:=hd.aD;have BD:=fE (BD.o.1.below hb) (BD.o.2.1.below hb) BD.o.r2 hN;have kS:=ak (jm hb kS.o);clear hb hd hN C;dsimp only;refine hK.out _ _ (fun _=>kS.o) ?_;clear hK K'
      try simp only[Act.put,sa,sb,sc]
      refine aU (i:=6) (j:=7) (by kernel_rfl) rfl rfl (fun K' hK=>?_) (fun K' hK=>?_)
      · skip;have C:=hid (MW.o u27 ax cx (HT.o.belows BD.o.1.b) BD.o.1.nt);go_simp;refine C.o.mono ?_;rintro r u28 ⟨hd,hb⟩;obtain⟨a28,c28,rfl,hN⟩:=hd.aD;have BD:=dJ (BD.o.1.below hb) (BD.o.2.1.below hb) BD.o.r2.1 (BD.o.r3.below hb) hN;have kS:=ak (jm hb kS.o);clear hb hd hN C;dsimp only;refine hK.out _ _ (fun _=>kS.o) ?_;clear hK K'
        try simp only[Act.put,sa,sb,sc]
        refine ah (i:=7) (by kernel_rfl) rfl (fun K' hK=>?_);go_simp;obtain⟨ZI,QD⟩:=af (u28.heap.size);obtain⟨V29,Us⟩:=af (u28.alloc (Obj.cells #[.bool false,.slice none 0 0,.int .i64 0] 37));have hb:Below u28.heap.size u28 V29:=by rw[Us];exact ae _ _
        have hZ:Lo V29 ZI gG:=by rw[Us,QD];exact Lo.zero _
        have BD:=qb (BD.o.1.below hb) (BD.o.2.1.below hb) BD.o.r2.1 (BD.o.r3.1.below hb) (BD.o.r4.below hb) hZ (show w.heap.size+2<ZI by rw[QD];exact BD.o.1.z0.lt) (show VA<ZI by rw[QD];exact BD.o.2.1.lt);have kS:=ak (jm hb kS.o);have HV:=(aJ Us QD);clear hZ hb Us QD;refine hK.out _ _ (fun _=>by rw[<-HV.o.1];exact kS.o) ?_;clear hK K';rw[<-HV.o.1,<-HV.o.2];clear HV
        try simp only[Act.put,sa,sb,sc]
        have BE:=jY (BD.o.r5.1.set BD.o.r3.1) (BD.o.2.1.other BD.o.r5.1 (dR BD.o.r7) (.bool (dN oN)) (.slice a27 (ws (dX oN)).length VB) (.int .i64 (dE oN))) (BD.o.1.other BD.o.r5.1 BD.o.r6.1 HL.o (.bool (dN oN)) (.slice a27 (ws (dX oN)).length VB) (.int .i64 (dE oN))) (BD.o.r5.1.vo BD.o.r4.1 (.bool (dN oN)) (.slice a27 (ws (dX oN)).length VB) (.int .i64 (dE oN))) BD.o.r6.1 BD.o.r2.1 (ky BD.o.r7);obtain⟨Y1,iX⟩:=af (dh V29 ZI (.bool (dN oN)) (.slice a27 (ws (dX oN)).length VB) (.int .i64 (dE oN)));rw[<-iX] at BE;unfold dh at iX;obtain⟨zp,zq,DZ,MZ⟩:=BD.o.r5.1;obtain⟨z0,z1,z2,dO,dP,dQ⟩:=DZ.facts;clear DZ MZ;refine ah (i:=9) (by kernel_rfl) rfl (fun K' hK=>?_);go_simp;refine hK.out _ _ (fun h=>absurd h (by decide)) ?_;clear hK K' z0 z1 z2 dO dP dQ kS BD;rw[<-iX];clear iX;obtain⟨zp,zq,DZ,MZ⟩:=BE.o.2.1;obtain⟨z0,z1,z2,dO,dP,dQ⟩:=DZ.facts;clear DZ MZ;refine ah (i:=10) (by kernel_rfl) rfl (fun K' hK=>?_);go_simp;refine hK.out _ _ (fun h=>absurd h (by decide)) ?_;clear hK K' z0 z1 z2 dO dP dQ;refine aH (by kernel_rfl) ?_ _;go_wp2_with fail
        go_meet
        case rel=>exact⟨ZI,VA,rfl,rfl,BE.o.1.other BE.o.2.1 BE.o.r6 _ _ _,BE.o.2.1.set BE.o.r3.1,BE.o.r2.1.other BE.o.2.1 BE.o.r5.1 HL.o _ _ _⟩
      · skip;go_simp;obtain⟨ZJ,QE⟩:=af (u27.heap.size);obtain⟨V30,Ut⟩:=af (u27.alloc (Obj.cells #[.bool false,.slice none 0 0,.int .i64 0] 37));have hb:Below u27.heap.size u27 V30:=by rw[Ut];exact ae _ _
        have hZ:Lo V30 ZJ gG:=by rw[Ut,QE];exact Lo.zero _
        have BD:=jY (BD.o.1.below hb) (BD.o.2.1.below hb) BD.o.r2.1 (BD.o.r3.below hb) hZ (show w.heap.size+2<ZJ by rw[QE];exact BD.o.1.z0.lt) (show VA<ZJ by rw[QE];exact BD.o.2.1.lt);have kS:=ak (jm hb kS.o);have HV:=(aJ Ut QE);clear hZ hb Ut QE;refine hK.out _ _ (fun _=>by rw[<-HV.o.1];exact kS.o) ?_;clear hK K';rw[<-HV.o.1,<-HV.o.2];clear HV
        try simp only[Act.put,sa,sb,sc]
        refine ah (i:=6) (by kernel_rfl) rfl (fun K' hK=>?_);have C:=hid (MW.o V30 ax cx (HT.o.belows BD.o.1.b) BD.o.1.nt);go_simp;refine C.o.mono ?_;rintro r u31 ⟨hd,hb⟩;obtain⟨a31,c31,rfl,hN⟩:=hd.aD;have BD:=qb (BD.o.1.below hb) (BD.o.2.1.below hb) BD.o.r2.1 (BD.o.r3.1.below hb) (BD.o.r4.1.below hb) BD.o.r5.1 BD.o.r6 hN;have kS:=ak (jm hb kS.o);clear hb hd hN C;dsimp only;refine hK.out _ _ (fun _=>kS.o) ?_;clear hK K'
        try simp only[Act.put,sa,sb,sc]
        have BE:=jY (BD.o.r4.1.set BD.o.r3.1) (BD.o.2.1.other BD.o.r4.1 (dR BD.o.r6.1) (.bool (dN oN)) (.slice a27 (ws (dX oN)).length VB) (.int .i64 (dE oN))) (BD.o.1.other BD.o.r4.1 BD.o.r5.1 HL.o (.bool (dN oN)) (.slice a27 (ws (dX oN)).length VB) (.int .i64 (dE oN))) (BD.o.r4.1.vo BD.o.r7 (.bool (dN oN)) (.slice a27 (ws (dX oN)).length VB) (.int .i64 (dE oN))) BD.o.r5.1 BD.o.r2.1 (ky BD.o.r6.1);obtain⟨Y1,iX⟩:=af (dh u31 ZJ (.bool (dN oN)) (.slice a27 (ws (dX oN)).length VB) (.int .i64 (dE oN)));rw[<-iX] at BE;unfold dh at iX;obtain⟨zp,zq,DZ,MZ⟩:=BD.o.r4.1;obtain⟨z0,z1,z2,dO,dP,dQ⟩:=DZ.facts;clear DZ MZ;refine ah (i:=9) (by kernel_rfl) rfl (fun K' hK=>?_);go_simp;refine hK.out _ _ (fun h=>absurd h (by decide)) ?_;clear hK K' z0 z1 z2 dO dP dQ kS BD;rw[<-iX];clear iX;obtain⟨zp,zq,DZ,MZ⟩:=BE.o.2.1;obtain⟨z0,z1,z2,dO,dP,dQ⟩:=DZ.facts;clear DZ MZ;refine ah (i:=10) (by kernel_rfl) rfl (fun K' hK=>?_);go_simp;refine hK.out _ _ (fun h=>absurd h (by decide)) ?_;clear hK K' z0 z1 z2 dO dP dQ;refine aH (by kernel_rfl) ?_ _;go_wp2_with fail
        go_meet
        case rel=>exact⟨ZJ,VA,rfl,rfl,BE.o.1.other BE.o.2.1 BE.o.r6 _ _ _,BE.o.2.1.set BE.o.r3.1,BE.o.r2.1.other BE.o.2.1 BE.o.r5.1 HL.o _ _ _⟩
    · skip;go_simp;obtain⟨ZK,QF⟩:=af (XE.heap.size);obtain⟨V32,Uu⟩:=af (XE.alloc (Obj.cells #[.bool false,.slice none 0 0,.int .i64 0] 37));have hb:Below XE.heap.size XE V32:=by rw[Uu];exact ae _ _
      have hZ:Lo V32 ZK gG:=by rw[Uu,QF];exact Lo.zero _
      have BD:=iC (BD.o.1.below hb) (BD.o.2.1.below hb) BD.o.r2 hZ (show w.heap.size+2<ZK by rw[QF];exact BD.o.1.z0.lt) (show VA<ZK by rw[QF];exact BD.o.2.1.lt);have kS:=ak (jm hb kS.o);have HV:=(aJ Uu QF);clear hZ hb Uu QF;refine hK.out _ _ (fun _=>by rw[<-HV.o.1];exact kS.o) ?_;clear hK K';rw[<-HV.o.1,<-HV.o.2];clear HV
      try simp only[Act.put,sa,sb,sc]
      refine ah (i:=3) (by kernel_rfl) rfl (fun K' hK=>?_);have C:=hid (HI.o V32 (HT.o.belows BD.o.1.b));go_simp;refine C.o.mono ?_;rintro r u33 ⟨hd,hb⟩;obtain⟨a33,c33,rfl,hN⟩:=hd.aD;have BD:=jY (BD.o.1.below hb) (BD.o.2.1.below hb) BD.o.r2.1 (BD.o.r3.1.below hb) BD.o.r4.1 BD.o.r5 hN;have kS:=ak (jm hb kS.o);clear hb hd hN C;dsimp only;refine hK.out _ _ (fun _=>kS.o) ?_;clear hK K'
      try simp only[Act.put,sa,sb,sc]
      refine ah (i:=6) (by kernel_rfl) rfl (fun K' hK=>?_);have C:=hid (MW.o u33 ax cx (HT.o.belows BD.o.1.b) BD.o.1.nt);go_simp;refine C.o.mono ?_;rintro r u34 ⟨hd,hb⟩;obtain⟨a34,c34,rfl,hN⟩:=hd.aD;have BD:=qb (BD.o.1.below hb) (BD.o.2.1.below hb) BD.o.r2.1 (BD.o.r3.1.below hb) BD.o.r4.1 BD.o.r5.1 (BD.o.r6.below hb) hN;have kS:=ak (jm hb kS.o);clear hb hd hN C;dsimp only;refine hK.out _ _ (fun _=>kS.o) ?_;clear hK K'
      try simp only[Act.put,sa,sb,sc]
      have BE:=jY (BD.o.r3.1.set BD.o.r6.1) (BD.o.2.1.other BD.o.r3.1 (dR BD.o.r5.1) (.bool (dN oN)) (.slice a33 (ws (dX oN)).length c33) (.int .i64 (dE oN))) (BD.o.1.other BD.o.r3.1 BD.o.r4.1 HL.o (.bool (dN oN)) (.slice a33 (ws (dX oN)).length c33) (.int .i64 (dE oN))) (BD.o.r3.1.vo BD.o.r7 (.bool (dN oN)) (.slice a33 (ws (dX oN)).length c33) (.int .i64 (dE oN))) BD.o.r4.1 BD.o.r2.1 (ky BD.o.r5.1);obtain⟨Y1,iX⟩:=af (dh u34 ZK (.bool (dN oN)) (.slice a33 (ws (dX oN)).length c33) (.int .i64 (dE oN)));rw[<-iX] at BE;unfold dh at iX;obtain⟨zp,zq,DZ,MZ⟩:=BD.o.r3.1;obtain⟨z0,z1,z2,dO,dP,dQ⟩:=DZ.facts;clear DZ MZ;refine ah (i:=9) (by kernel_rfl) rfl (fun K' hK=>?_);go_simp;refine hK.out _ _ (fun h=>absurd h (by decide)) ?_;clear hK K' z0 z1 z2 dO dP dQ kS BD;rw[<-iX];clear iX;obtain⟨zp,zq,DZ,MZ⟩:=BE.o.2.1;obtain⟨z0,z1,z2,dO,dP,dQ⟩:=DZ.facts;clear DZ MZ;refine ah (i:=10) (by kernel_rfl) rfl (fun K' hK=>?_);go_simp;refine hK.out _ _ (fun h=>absurd h (by decide)) ?_;clear hK K' z0 z1 z2 dO dP dQ;refine aH (by kernel_rfl) ?_ _;go_wp2_with fail
      go_meet
      case rel=>exact⟨ZK,VA,rfl,rfl,BE.o.1.other BE.o.2.1 BE.o.r6 _ _ _,BE.o.2.1.set BE.o.r3.1,BE.o.r2.1.other BE.o.2.1 BE.o.r5.1 HL.o _ _ _⟩
 obtain⟨g5,g6,rfl,rfl,K1⟩:=hcut;obtain⟨U,hU⟩:=af wc;rw[<-hU] at K1 |-;clear hU H0 HI MW;have s0:=K1.o.r2.k0.cell 0 _ rfl;have C:=hid (HC.o U g5 g6 (HT.o.belows K1.o.r2.b) K1.o.1 K1.o.2.1 K1.o.r2);go_wp2_with fail;refine C.o.mono ?_;rintro r u1 ⟨hd,hb⟩;obtain⟨a1,c1,rfl,hN1⟩:=hd.aD;have H1:=(bO (K1.o.r2.z0.below hb) (K1.o.r2.b.trans (hb.mono K1.o.r2.b.size)) hN1);clear hb hd hN1 C s0 K1;obtain⟨p2,q2,D2,M2⟩:=H1.o.1;obtain⟨y0,y1,y2,bI,bJ,bK⟩:=D2.facts;clear D2 M2;go_wp2;exact iL Tryz.results50 rfl H1.o.1 H1.o.2.1 (by omega) H1.o.r2
def aT(c S:Int)(f:Nat->Int)(m k j:Nat):Int:=MV k j*((c^j*tS (fun i=>f i^j) m)*(-S)^(k-j))
theorem kL(f:Nat->Int)(n:Nat):tS f (n+1)=tS f n+f n:=rfl
theorem VC(c S:Int)(f:Nat->Int):∀ m,tS (fun i=>(c*f i-S)^1) m=1*((c^0*tS (fun i=>f i^0) m)*(-S)^(1-0))+1*((c^1*tS (fun i=>f i^1) m)*(-S)^(1-1))
 | 0=>by simp[tS]
 | m+1=>by
   have ih:=VC c S f m;simp only[kL,ih]
   grind
theorem VD(c S:Int)(f:Nat->Int):∀ m,tS (fun i=>(c*f i-S)^2) m=1*((c^0*tS (fun i=>f i^0) m)*(-S)^(2-0))+2*((c^1*tS (fun i=>f i^1) m)*(-S)^(2-1))+1*((c^2*tS (fun i=>f i^2) m)*(-S)^(2-2))
 | 0=>by simp[tS]
 | m+1=>by
   have ih:=VD c S f m;simp only[kL,ih]
   grind
theorem VE(c S:Int)(f:Nat->Int):∀ m,tS (fun i=>(c*f i-S)^3) m=1*((c^0*tS (fun i=>f i^0) m)*(-S)^(3-0))+3*((c^1*tS (fun i=>f i^1) m)*(-S)^(3-1))+3*((c^2*tS (fun i=>f i^2) m)*(-S)^(3-2))+1*((c^3*tS (fun i=>f i^3) m)*(-S)^(3-3))
 | 0=>by simp[tS]
 | m+1=>by
   have ih:=VE c S f m;simp only[kL,ih]
   grind
theorem VF(c S:Int)(f:Nat->Int):∀ m,tS (fun i=>(c*f i-S)^4) m=1*((c^0*tS (fun i=>f i^0) m)*(-S)^(4-0))+4*((c^1*tS (fun i=>f i^1) m)*(-S)^(4-1))+6*((c^2*tS (fun i=>f i^2) m)*(-S)^(4-2))+4*((c^3*tS (fun i=>f i^3) m)*(-S)^(4-3))+1*((c^4*tS (fun i=>f i^4) m)*(-S)^(4-4))
 | 0=>by simp[tS]
 | m+1=>by
   have ih:=VF c S f m;simp only[kL,ih]
   grind
theorem QG(c S:Int)(f:Nat->Int)(m k:Nat)(h1:1<=k)(h4:k<=4):tS (aT c S f m k) (k+1)=tS (fun i=>(c*f i-S)^k) m:=by
 obtain rfl|rfl|rfl|rfl:k=1\/k=2\/k=3\/k=4:=by omega
 · rw[VC];simp only[tS,aT,MV,Cj]
 · rw[VD];simp only[tS,aT,MV,Cj]
 · rw[VE];simp only[tS,aT,MV,Cj]
 · rw[VF];simp only[tS,aT,MV,Cj]
theorem VG{c S:Int}{f:Nat->Int}{m k j:Nat}(bc:Bd 16 c)(bS:Bd 2114 S)(bf:∀ i,i<m->Bd 2098 (f i))(hm:m<=65536)(h1:1<=k)(h4:k<=4)(hj:j<=k):Bd 20000 (aT c S f m k j):=by
 have bcb:Bd 3 (MV k j):=by have:=Jt k j h1 h4 hj;unfold Bd;omega
 exact(bcb.mul (((bc.pow j).mul (vW bf hm (by omega) m (aA _))).mul (bS.neg.pow (k-j)))).mono (by
  have:2114*(k-j)<=8456:=by omega
  omega)
theorem ZL{w:World}{a:Option Addr}{d:Nat}{S:Int}(bS:Bd 2114 S)(hT:dH w)(hN:Nt 0 w (.slice a (ws (dX (gV 1074 S))).length d) (dX (gV 1074 S))) :
 As 94 #[.agg #[.bool (dN (gV 1074 S)),.slice a (ws (dX (gV 1074 S))).length d,.int .i64 (dE (gV 1074 S))]] w fun r w'=>aN 0 w' r (gV 1074 (-S))/\An w w':=by
 have F:Fm (gV 1074 S):=aZ (by decide) (by decide) bS;have:=Si (F.a12 hN) hT (dN (gV 1074 S)) (dE (gV 1074 S)) F.mV.1 F.mV.2;rw[aj,uM F.sm,Vs] at this;exact this.mono fun r w' h=>⟨h.1.Bw,h.2⟩
theorem Uv{w:World}{v:Value}{n k:Nat}{f:Nat->Int}{S:Int}(hn:n<=65536)(h1:1<=k)(h4:k<=4)(hT:dH w)(bf:∀ i,i<n->Bd 2098 (f i))(bS:Bd 2114 S)(hR:Rr w v n (fun i=>gV 1074 (f i)) (gV 1074 S)) :
 As 50 #[v,.int .i64 (k:Nat)] w fun r w'=>aN 0 w' r (gV (1074*k) (tS (fun i=>((n:Int)*f i-S)^k) n))/\An w w':=by
 obtain⟨gx,ax,cx,rfl,hx,n1⟩:=hR;have bn:Bd 16 (n:Int):=Bd.nat (by omega);have hq:1074*k<=4296:=by omega
 have bA:∀ j,j<k+1->Bd 20000 (aT n S f n k j):=fun j hj=>VG bn bS bf hn h1 h4 (by omega);have bT:∀ j,j<=k+1->Bd 20016 (tS (aT n S f n k) j):=fun j hj=>zx bA (by omega) j hj;rw[<-QG (n:Int) S f n k h1 h4];refine Ha w n k gx ax cx (fun i=>gV 1074 (f i)) (gV 1074 S) (gV 0 (n:Int)) (gV 1074 (-S)) _ hT h4 hn (hid fun v hv=>xC n v hv (by omega) (by omega)) (hid fun v a d hv hN=>ZL bS hv hN) (hid fun u g5 g6 qD l5 l6 hA=>?_) hx n1;refine Mr u (k+1) g5 w.heap.size (w.heap.size+1) g6 (fun j=>gV (1074*k) (aT n S f n k j)) (fun j=>gV (1074*k) (tS (aT n S f n k) j)) (by omega) qD (fun j hj=>aZ (by omega) (by omega) (bA j hj)) (fun j hj=>aZ (by omega) (by omega) (bT j hj)) (fun j hj=>uN (by omega) (by omega) (bT j (by omega)) ((bA j hj).mono (by omega))) (o6 _).symm (hid fun j v hj hv=>?_);have hj':j<=k:=by omega
 have q1:16*j<=64/\2098*j<=8392/\1074*j<=4296/\2114*(k-j)<=8456/\1074*(k-j)<=4296/\1074*j+1074*(k-j)=1074*k:=by omega
 have bcb:Bd 3 (MV k j):=by have:=Jt k j h1 h4 hj';unfold Bd;omega
 have bR1:Bd (16*j) ((n:Int)^j):=bn.pow j;have bP:Bd (2098*j+16) (tS (fun i=>f i^j) n):=vW bf hn (by omega) n (aA _);have bR2:Bd (2114*(k-j)) ((-S)^(k-j)):=bS.neg.pow (k-j);have bW:=bR1.mul bP;have bX:=bW.mul bR2
 refine Em v n k j g5 w.heap.size (w.heap.size+1) g6 gx ax cx (MV k j) (fun i=>gV 1074 (f i)) (gV 0 (n:Int)) (gV 1074 S) (gV 1074 (-S)) (gV 0 ((n:Int)^j)) (gV (1074*j) (tS (fun i=>f i^j) n)) (gV (1074*j) ((n:Int)^j*tS (fun i=>f i^j) n)) (gV 0 (MV k j)) (gV (1074*(k-j)) ((-S)^(k-j))) (gV (1074*k) (((n:Int)^j*tS (fun i=>f i^j) n)*(-S)^(k-j))) _ (qD.belows hv) hj' h4
  ⟨aZ (by omega) (by omega) bR1,aZ (by omega) (by omega) bP,aZ (by omega) (by omega) bW,aZ (by omega) (by omega) bcb,aZ (by omega) (by omega) bR2,aZ (by omega) (by omega) bX,aZ (by omega) (by omega) (bA j hj)⟩
  ⟨?_,?_,?_⟩ (hid fun y a d hy hN=>?_) (hid fun y hy hR=>Qz hn (by omega) hy bf hR) (hid fun y=>XB k j h1 h4 hj' y) (hid fun y hy=>xC _ y hy (by have:=Jt k j h1 h4 hj';omega) (by have:=Jt k j h1 h4 hj';omega)) (hid fun y a d hy hN=>?_)
  (l5.below hv) (hA.x0.below hv hA.x0.lt) (hA.dr.below hv) (hA.nt.below hv) (hA.k0.below hv hA.k0.lt) (l6.below hv)
 · have:=iR (u:=0) (v:=1074*j) (by omega) (by omega) (by omega) (by omega) bR1 bP;rw[dK] at this;exact this
 · have:=iR (u:=1074*j) (v:=1074*(k-j)) (by omega) (by omega) (by omega) (by omega) bW bR2;rw[q1.2.2.2.2.2] at this;exact this
 · have:=iR (u:=0) (v:=1074*k) (by omega) (by omega) (by omega) (by omega) bcb bX;rw[dK] at this;exact this
 · have:=pQ (k:=j) (u:=0) (m:=16) (V:=(n:Int)) (by omega) (by decide) (by decide) bn hy hN;rw[eG] at this;exact this
 · have e:(k:Int)-(j:Int)=((k-j:Nat):Int):=by omega
   rw[e];exact pQ (k:=k-j) (u:=1074) (m:=2114) (V:=-S) (by omega) (by decide) (by decide) bS.neg hy hN
def Hd(xs:List Nat)(k:Nat):Int:=tS (fun i=>((xs.length:Int)*fX xs i-sX xs)^k) xs.length
noncomputable def He (xs:List Nat) (k mode:Int):Nat×Int :=
 if p9 mode&&(decide (1<=k)&&decide (k<=4)) then
  if nV xs=0 then
   if xs=[] then(0,3) else nK (gV (1074*k.toNat) (Hd xs k.toNat)) (gV 0 ((xs.length:Int)^(k.toNat+1))) mode
  else(0,nV xs)
 else(0,1)
theorem Jv{xs:List Nat}(h:nV xs=0):xs.length<=65536/\∀ x ∈ xs,fD x:=by
 unfold nV at h
 by_cases hl:65536<xs.length
 · rw[if_pos hl] at h;exact absurd h (by decide)
 · rw[if_neg hl] at h
   cases hf:BH xs with
   | false=>rw[hf] at h;exact absurd h (by decide)
   | true=>exact⟨by omega,(gU xs).1 hf⟩
theorem Jw{xs:List Nat}(hW:j4 xs)(hf:∀ x ∈ xs,fD x)(hl:xs.length<=65536)(k:Nat)(h1:1<=k)(h4:k<=4):Bd 20016 (Hd xs k):=by
 unfold Hd;rw[<-QG _ _ _ _ k h1 h4];exact zx (fun j hj=>VG (Bd.nat (by omega)) (iA hW hf hl _ (aA _)) (fun i hi=>gP hW hf i hi) hl h1 h4 (by omega)) (by omega) (k+1) (aA _)
theorem z6{P:Prop}(h:P:=by
 clear hz hn hF hW hT;go_enter Tryz.func15,Tryz.ntmps15;go_wp2_with fail;refine C.o.mono ?_;rintro r v ⟨rfl,hv⟩;rw[hv];clear hv v C;go_wp2;exact aC (v:=.tuple #[.float .f64 0,.int .i64 1]) (by simp[results,Tryz.results15,go_sem]) rfl ⟨rfl,aB _ _⟩):P:=h
theorem zB(xs:List Nat)(a:Option Addr)(n c:Nat)(k mode:Int)(w:World)(hn:n=xs.length)(hF:Fs w.heap.size w a xs)(hW:j4 xs)(hT:dH w)(hl:n<=35184372088832)(z:Nat×Int)(hz:He xs k mode=z) :
 At 15 #[.slice a n c,.int .i64 k,.int .i64 mode] w (.tuple #[.float .f64 z.1,.int .i64 z.2]):=by
 obtain⟨X,E⟩:=z;simp only;have C:=hid (iT mode w);unfold He at hz
 cases hm:p9 mode with
 | false =>
   rw[hm,nR,if_neg (by decide)] at hz;rw[hm] at C;obtain⟨rfl,rfl⟩:=eP hz;clear hz hn hF hW hT;go_enter Tryz.func15,Tryz.ntmps15;go_wp2_with fail;refine C.o.mono ?_;rintro r v ⟨rfl,hv⟩;rw[hv];clear hv v C;go_wp2;exact aC (v:=.tuple #[.float .f64 0,.int .i64 1]) (by simp[results,Tryz.results15,go_sem]) rfl ⟨rfl,aB _ _⟩
 | true =>
 rw[hm] at C hz
 by_cases h1:1<=k
 case neg =>
  rw[decide_eq_false h1,nR,Ck,if_neg (by decide)] at hz;obtain⟨rfl,rfl⟩:=eP hz;have d1:decide (k<1)=true:=decide_eq_true (by omega);exact z6
 case pos =>
 have d1:decide (k<1)=false:=decide_eq_false (by omega)
 by_cases h4:k<=4
 case neg =>
  rw[decide_eq_true h1,decide_eq_false h4,Ck,Ck,if_neg (by decide)] at hz;obtain⟨rfl,rfl⟩:=eP hz;have d4:decide (4<k)=true:=decide_eq_true (by omega);exact z6
 case pos =>
  have d4:decide (4<k)=false:=decide_eq_false (by omega);rw[decide_eq_true h1,decide_eq_true h4,Cm,Cm,if_pos rfl] at hz;obtain⟨kn,rfl⟩:∃ kn:Nat,k=(kn:Int):=⟨k.toNat,by omega⟩;rw[mF] at hz;have HK:Aside (1<=kn/\kn<=4):=⟨by omega,by omega⟩;have HE:=hid (rT xs a n c w hn hF hW hT hl);have HX:=bO hn hW hT;have HZ:=ak hz;obtain⟨es,hes⟩:∃ e,nV xs=e:=⟨_,rfl⟩;rw[hes] at HE;have qP:=ak hes;clear hz hn hF hW hT hl hes h1 h4;go_enter Tryz.func15,Tryz.ntmps15;go_wp2_with fail;refine C.o.mono ?_;rintro r v ⟨rfl,hv⟩;rw[hv];clear hv v C;go_wp2_with fail;refine HE.o.mono ?_;rintro r u2 ⟨hr,hb⟩;rcases hr with ⟨he,rfl⟩|⟨he,v2,rfl,hR⟩
  · have h1:(es==0)=false:=by simp[he]
    have hz:=HZ.o;rw[if_neg (by rw[qP.o];exact he),qP.o] at hz;obtain⟨rfl,rfl⟩:=eP hz;have BE:Aside (An w (u2.alloc (Obj.cells #[.slice none 0 0,.bool false,.slice none 0 0,.int .i64 0] 62))):=hb.trans ((aK _ _).mono hb.size);clear hz HZ qP hb HE;go_wp2;exact aC (v:=.tuple #[.float .f64 0,.int .i64 es]) (by simp[results,Tryz.results15,go_sem]) rfl ⟨rfl,BE.o⟩
  · subst he;obtain⟨gA,p1,q1,rfl,hD,hN⟩:=hR;obtain⟨oS,xS⟩:=af (gV 1074 (sX xs));rw[<-xS] at hN |-;obtain⟨VH,hall⟩:=Jv qP.o;have PF:=(aJ VH hall);obtain⟨V,hV⟩:=af (u2.alloc (Obj.cells #[.slice (some ⟨gA,0,none⟩) n n,.bool (dN oS),.slice p1 (ws (dX oS)).length q1,.int .i64 (dE oS)] 62));obtain⟨g7,mo⟩:=af (u2.heap.size)
    have B4:Aside (Bl V g7 62 [.slice (some ⟨gA,0,none⟩) n n,.bool (dN oS),.slice p1 (ws (dX oS)).length q1,.int .i64 (dE oS)]/\An w V/\Dr V gA n n (fun i=>gV 1074 (fX xs i))/\Nt 0 V (.slice p1 (ws (dX oS)).length q1) (dX oS)):=by
     rw[hV,mo];exact⟨Bl.new _ 62 [_,_,_,_],hb.trans ((aK _ _).mono hb.size),hD.below (aK _ _),hN.below (aK _ _)⟩
    have HV:=(aJ hV mo);have Ca:=ak xS;clear hV mo hb hD hN HE xS VH hall
    go_upto_region 4 with fail
    rw[<-HV.o.1,<-HV.o.2];clear HV;have s0:=B4.o.1.cell 0 _ rfl;have hz:=HZ.o;rw[if_pos qP.o] at hz
    by_cases h0:n=0
    · have hx0:xs=[]:=uy (by have:=HX.o.1;omega);rw[if_pos hx0] at hz;obtain⟨rfl,rfl⟩:=eP hz;have hn0:((n:Int)==0)=true:=by simp[h0]
      clear hz HZ h0 hx0;go_wp2;exact aC (v:=.tuple #[.float .f64 0,.int .i64 3]) (by simp[results,Tryz.results15,go_sem]) rfl ⟨rfl,B4.o.2.1⟩
    · have hx0:xs≠[]:=fun e=>h0 (by rw[HX.o.1,e];rfl);rw[if_neg hx0] at hz;have hn0:((n:Int)==0)=false:=by simp[h0]
      have hn0':(n:Int)≠0:=by omega
      have n6:n<=65536:=by have:=PF.o.1;have:=HX.o.1;omega
      obtain⟨oV,BM⟩:=af (gV (1074*kn) (Hd xs kn));obtain⟨oN,hoN⟩:=af (gV 0 (n:Int));obtain⟨oD,sj⟩:=af (gV 0 ((n:Int)^(kn+1)));rw[<-BM,<-HX.o.1,<-sj] at hz;have hk4:=HK.o;have hq:1074*kn<=4296:=by omega
      have bn:Bd 16 (n:Int):=Bd.nat (by omega);have FV:Fm oV:=by rw[BM];exact aZ (by omega) (by decide) (Jw HX.o.2.1 PF.o.2 PF.o.1 kn hk4.1 hk4.2)
      have FD:Fm oD:=by rw[sj];exact aZ (by decide) (by omega) (bn.pow (kn+1))
      have HAb:Hid (∀ u:World,An V u->As 50 #[.agg #[.slice (some ⟨gA,0,none⟩) n n,.bool (dN oS),.slice p1 (ws (dX oS)).length q1,.int .i64 (dE oS)],.int .i64 (kn:Nat)] u fun r w'=>aN 0 w' r oV/\An u w'):=fun u hu=>by
       have hR:Rr u (.agg #[.slice (some ⟨gA,0,none⟩) n n,.bool (dN oS),.slice p1 (ws (dX oS)).length q1,.int .i64 (dE oS)]) n (fun i=>gV 1074 (fX xs i)) (gV 1074 (sX xs)):=by
        rw[Ca.o];exact⟨gA,p1,q1,rfl,B4.o.r2.1.below hu,by have:=B4.o.r3.below hu;rw[Ca.o] at this;exact this⟩
       have:=Uv (f:=fX xs) (S:=sX xs) n6 hk4.1 hk4.2 (HX.o.r2.belows (B4.o.2.1.trans (hu.mono B4.o.2.1.size))) (fun i hi=>gP HX.o.2.1 PF.o.2 i (by rw[<-HX.o.1];exact hi)) (iA HX.o.2.1 PF.o.2 PF.o.1 _ (aA _)) hR;rw[BM];unfold Hd;rw[<-HX.o.1];exact this
      have HIn:Hid (∀ u:World,dH u->As 52 #[.int .i64 (n:Nat)] u fun r w'=>aN 0 w' r oN/\An u w'):=fun u hu=>by rw[hoN];exact xC n u hu (by omega) (by omega)
      have HRa:Hid (∀ (u:World) (a:Option Addr) (d:Nat),dH u->Nt 0 u (.slice a (ws (dX oN)).length d) (dX oN)->As 51 #[.agg #[.bool (dN oN),.slice a (ws (dX oN)).length d,.int .i64 (dE oN)],.int .i64 ((kn:Int)+1)] u fun r w'=>aN 0 w' r oD/\An u w'):=fun u a d hu hN=>by
       rw[show(kn:Int)+1=((kn+1:Nat):Int) by omega];rw[hoN] at hN;have:=pQ (k:=kn+1) (u:=0) (m:=16) (V:=(n:Int)) (by omega) (by decide) (by decide) bn hu hN;rw[eG] at this;rw[hoN,sj];exact this
      have HR:Hid (∀ (u:World) (a b:Option Addr) (ca cb:Nat),dH u->Nt 0 u (.slice a (ws (dX oV)).length ca) (dX oV)->Nt 0 u (.slice b (ws (dX oD)).length cb) (dX oD)->At 37 #[.agg #[.bool (dN oV),.slice a (ws (dX oV)).length ca,.int .i64 (dE oV),.bool (dN oD),.slice b (ws (dX oD)).length cb,.int .i64 (dE oD)],.int .i64 mode] u (.tuple #[.float .f64 X,.int .i64 E])):=fun u a b ca cb qD n1 n2=>by
       have:=G5 mode FV FD n1 n2 qD;exact js
      have hwr:IntKind.i64.wrap ((kn:Int)+1)=(kn:Int)+1:=by rw[zY];omega
      have HT:=ak HX.o.r2;have hdr:=(aB V.heap.size V).drew;have BD:=(aJ (B4.o.1.below hdr B4.o.1.lt) (B4.o.2.1.trans (hdr.mono B4.o.2.1.size)));have C1:=hid (HAb.o V.drew hdr);clear hz HZ BM sj hoN FV FD hdr n6 PF HX HAb hk4 hq bn h0 hx0;have kS:Aside (V.drew.cell? ⟨g7,0,none⟩=some (.slice (some ⟨gA,0,none⟩) n n)/\V.drew.cell? ⟨g7,1,none⟩=some (.bool (dN oS))/\V.drew.cell? ⟨g7,2,none⟩=some (.slice p1 (ws (dX oS)).length q1)/\V.drew.cell? ⟨g7,3,none⟩=some (.int .i64 (dE oS))):=⟨BD.o.1.cell 0 _ rfl,BD.o.1.cell 1 _ rfl,BD.o.1.cell 2 _ rfl,BD.o.1.cell 3 _ rfl⟩;go_wp2_with fail;clear s0 B4
      go_region_held3 (fun w'=>w'.cell? ⟨g7,0,none⟩=some (.slice (some ⟨gA,0,none⟩) n n)/\w'.cell? ⟨g7,1,none⟩=some (.bool (dN oS))/\w'.cell? ⟨g7,2,none⟩=some (.slice p1 (ws (dX oS)).length q1)/\w'.cell? ⟨g7,3,none⟩=some (.int .i64 (dE oS))) (with_reducible exact kS.o) (first
       | (go_at_call 50
          with_reducible refine C1.o.mono ?_
          rintro r u3 ⟨hd,hb⟩;obtain⟨a3,c3,rfl,eu⟩:=hd.aD;have BD:=bO (BD.o.1.below hb BD.o.1.lt) (BD.o.2.trans (hb.mono BD.o.2.size)) eu;have kS:=ak (jm hb kS.o);have C2:=hid (HIn.o u3 (HT.o.belows BD.o.2.1))
          clear hb hd eu C1)
       | (go_at_call 52
          with_reducible refine C2.o.mono ?_
          rintro r u4 ⟨hd,hb⟩;obtain⟨a4,c4,rfl,iD⟩:=hd.aD;have BE:=bO (BD.o.2.1.trans (hb.mono BD.o.2.1.size)) (BD.o.r2.below hb) iD;have kS:=ak (jm hb kS.o);have C3:=hid (HRa.o u4 a4 c4 (HT.o.belows BE.o.1) BE.o.r2)
          clear hb hd iD C2)
       | (go_at_call 51
          with_reducible refine C3.o.mono ?_
          rintro r u5 ⟨hd,hb⟩;obtain⟨a5,c5,rfl,uW⟩:=hd.aD;have BG:=bO (BE.o.1.trans (hb.mono BE.o.1.size)) (BE.o.2.1.below hb) uW;have kS:=ak (jm hb kS.o);have C4:=hid (HR.o u5 a3 a5 c3 c5 (HT.o.belows BG.o.1) BG.o.2.1 BG.o.r2)
          clear hb hd uW C3)
       | (go_at_call 37
          with_reducible refine C4.o.mono ?_
          rintro r u6 ⟨rfl,hb⟩;have BF:=ak (BG.o.1.trans (hb.mono BG.o.1.size));have kS:=ak (jm hb kS.o)
          clear hb C4))
      go_wp2;exact aC (v:=.tuple #[.float .f64 X,.int .i64 E]) (by simp[results,Tryz.results15,go_sem]) rfl ⟨rfl,BF.o⟩
end
end Go.Proofs.YteginbngplldaaaGreatDoor
