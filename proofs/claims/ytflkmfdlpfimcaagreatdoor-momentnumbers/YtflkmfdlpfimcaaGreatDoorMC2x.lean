import Derived.Test.YtflkmfdlpfimcaaGreatDoorMO10x
import Derived.Deep.Cut
set_option linter.unusedVariables false
set_option linter.unusedSimpArgs false
set_option maxHeartbeats 16000000
set_option maxRecDepth 20000
namespace Go.Proofs.YtflkmfdlpfimcaaGreatDoor
namespace J
end J
section
open Go Go.RowKit J
structure Ab14 (u v:World) (n k h0 h1 h2 h3 gx:Nat) (ax:Option Addr) (cx:Nat) (A:Nat→Option (Bool×Nat×Int)) (oN oS oL:Option (Bool×Nat×Int)):Prop where
 n0:Lo v h0 oN
 x0:Bl v h1 62 [.slice (some ⟨gx,0,none⟩) n n,.bool (dN oS),.slice ax (ws (dX oS)).length cx,.int .i64 (dE oS)]
 dr:Dr v gx n n A
 nt:Nt 0 v (.slice ax (ws (dX oS)).length cx) (dX oS)
 k0:Bl v h2 3 [.int .i64 (k:Nat)]
 l0:Lo v h3 oL
 z0:Lo v u.heap.size o00
 b:Below u.heap.size u v
theorem Ab14.below {u v y:World}{n k h0 h1 h2 h3 gx:Nat}{ax:Option Addr}{cx:Nat}{A:Nat→Option (Bool×Nat×Int)}{oN oS oL:Option (Bool×Nat×Int)}(h:Ab14 u v n k h0 h1 h2 h3 gx ax cx A oN oS oL) (hb:Below v.heap.size v y):Ab14 u y n k h0 h1 h2 h3 gx ax cx A oN oS oL :=
 ⟨h.n0.below hb,h.x0.below hb h.x0.lt,h.dr.below hb,h.nt.below hb,h.k0.below hb h.k0.lt,h.l0.below hb,h.z0.below hb,h.b.trans (hb.mono h.b.size)⟩
theorem Ab14.other {u v:World}{n k h0 h1 h2 h3 gx g:Nat}{ax:Option Addr}{cx:Nat}{A:Nat→Option (Bool×Nat×Int)}{oN oS oL q:Option (Bool×Nat×Int)}(h:Ab14 u v n k h0 h1 h2 h3 gx ax cx A oN oS oL) (hL:Lo v g q) (hg:u.heap.size<g) (H:h0<u.heap.size∧h1<u.heap.size∧h2<u.heap.size∧h3<u.heap.size∧gx<u.heap.size) (x y z:Value):Ab14 u (st3 v g x y z) n k h0 h1 h2 h3 gx ax cx A oN oS oL:=by
 have hb:=st3_but12 g v x y z;obtain ⟨a0,c0,hD,hM⟩:=hL;exact ⟨h.n0.other ⟨a0,c0,hD,hM⟩ (by omega) _ _ _,h.x0.but hb (by omega),h.dr.but (T:=37) (L:=[_,_,_]) hb hD (by omega) (by decide),h.nt.off12 hD _ _ _,h.k0.but hb (by omega),h.l0.other ⟨a0,c0,hD,hM⟩ (by omega) _ _ _,h.z0.other ⟨a0,c0,hD,hM⟩ (by omega) _ _ _,st3_bel12 h.b h.b.size (by omega) _ _ _⟩
theorem aboutC_core (u:World) (n k j h0 h1 h2 h3 gx:Nat) (ax:Option Addr) (cx:Nat) (cb:Int) (A:Nat→Option (Bool×Nat×Int)) (oN oS oL oR1 oP oW oC oR2 oX oA:Option (Bool×Nat×Int)) (hT:Tab u) (hj:j≤k) (hk:k≤4)
 (FF:Aside (Fm oR1∧Fm oP∧Fm oW∧Fm oC∧Fm oR2∧Fm oX∧Fm oA)) (EE:Aside (mulD oR1 oP=oW∧mulD oW oR2=oX∧mulD oC oX=oA))
 (HR1:Hid (∀ (v:World) (a:Option Addr) (d:Nat),Tab v→Nt 0 v (.slice a (ws (dX oN)).length d) (dX oN)→Calls Tryz.prog 51 #[.agg #[.bool (dN oN),.slice a (ws (dX oN)).length d,.int .i64 (dE oN)],.int .i64 (j:Nat)] v fun r w'=>DVal 0 w' r oR1∧Below v.heap.size v w'))
 (HPw:Hid (∀ v:World,Tab v→Rr v (.agg #[.slice (some ⟨gx,0,none⟩) n n,.bool (dN oS),.slice ax (ws (dX oS)).length cx,.int .i64 (dE oS)]) n A oS→Calls Tryz.prog 96 #[.agg #[.slice (some ⟨gx,0,none⟩) n n,.bool (dN oS),.slice ax (ws (dX oS)).length cx,.int .i64 (dE oS)],.int .i64 (j:Nat)] v fun r w'=>DVal 0 w' r oP∧Below v.heap.size v w'))
 (HOv:Hid (∀ v:World,Calls Tryz.prog 97 #[.int .i64 (k:Nat),.int .i64 (j:Nat)] v fun r w'=>r=.returned (.int .i64 cb)∧w'=v))
 (HI:Hid (∀ v:World,Tab v→Calls Tryz.prog 52 #[.int .i64 cb] v fun r w'=>DVal 0 w' r oC∧Below v.heap.size v w'))
 (HR2:Hid (∀ (v:World) (a:Option Addr) (d:Nat),Tab v→Nt 0 v (.slice a (ws (dX oL)).length d) (dX oL)→Calls Tryz.prog 51 #[.agg #[.bool (dN oL),.slice a (ws (dX oL)).length d,.int .i64 (dE oL)],.int .i64 ((k:Int)-(j:Int))] v fun r w'=>DVal 0 w' r oR2∧Below v.heap.size v w'))
 (B1:Lo u h0 oN) (B2:Bl u h1 62 [.slice (some ⟨gx,0,none⟩) n n,.bool (dN oS),.slice ax (ws (dX oS)).length cx,.int .i64 (dE oS)]) (B3:Dr u gx n n A) (B4:Nt 0 u (.slice ax (ws (dX oS)).length cx) (dX oS)) (B5:Bl u h2 3 [.int .i64 (k:Nat)]) (B6:Lo u h3 oL) :
 Calls Tryz.prog 95 #[.int .i64 (j:Nat),.pointer (some ⟨h0,0,none⟩),.pointer (some ⟨h1,0,none⟩),.pointer (some ⟨h2,0,none⟩),.pointer (some ⟨h3,0,none⟩)] u fun r w'=>DVal 0 w' r oA∧Below u.heap.size u w':=by
 obtain ⟨W,hW⟩:∃ W,W=u.alloc (Obj.cells #[.bool false,.slice none 0 0,.int .i64 0] 37):=⟨_,rfl⟩;have HL:Aside (h0<u.heap.size∧h1<u.heap.size∧h2<u.heap.size∧h3<u.heap.size∧gx<u.heap.size):=⟨B1.lt,B2.lt,B5.lt,B6.lt,B3.lt⟩
 have H0:Aside (Ab14 u W n k h0 h1 h2 h3 gx ax cx A oN oS oL):=by
  rw [hW];exact ⟨B1.below (below_alloc _ _),B2.alloc _,B3.below (below_alloc _ _),B4.below (below_alloc _ _),B5.alloc _,B6.below (below_alloc _ _),Lo.zero _,below_alloc _ _⟩
 have HW:=qsd hW;have HT:=qsd hT;have hwr:IntKind.i64.wrap ((k:Int)-(j:Int))=(k:Int)-(j:Int):=by rw [IntKind.wrap_i64];omega
 clear hW hT B1 B2 B3 B4 B5 B6;go_enter Tryz.func95,Tryz.ntmps95
 go_upto_region 1 with fail
 rw [←HW.out];clear HW
 go_cut [7] from 8 to 14 (fun q wx=>∃ g7:Nat,q=.pointer (some ⟨g7,0,none⟩)∧Aside (Lo wx g7 oW∧Ab14 u wx n k h0 h1 h2 h3 gx ax cx A oN oS oL∧u.heap.size<g7))
 case first =>
  have hdr:=(Below.refl W.heap.size W).drew;obtain ⟨p1,q1,D1,M1⟩:=(H0.out.below hdr).n0;have kS:Aside (W.drew.cell? ⟨h0,0,none⟩=some (.bool (dN oN))∧W.drew.cell? ⟨h0,1,none⟩=some (.slice p1 (ws (dX oN)).length q1)∧W.drew.cell? ⟨h0,2,none⟩=some (.int .i64 (dE oN))∧W.drew.cell? ⟨h1,0,none⟩=some (.slice (some ⟨gx,0,none⟩) n n)∧W.drew.cell? ⟨h1,1,none⟩=some (.bool (dN oS))∧W.drew.cell? ⟨h1,2,none⟩=some (.slice ax (ws (dX oS)).length cx)∧W.drew.cell? ⟨h1,3,none⟩=some (.int .i64 (dE oS))):=⟨D1.facts.1,D1.facts.2.1,D1.facts.2.2.1,(H0.out.below hdr).x0.cell 0 _ rfl,(H0.out.below hdr).x0.cell 1 _ rfl,(H0.out.below hdr).x0.cell 2 _ rfl,(H0.out.below hdr).x0.cell 3 _ rfl⟩;have BD:=qsd (ai (H0.out.below hdr) M1);clear hdr D1 M1 H0;refine until_region (fun w'=>w'.cell? ⟨h0,0,none⟩=some (.bool (dN oN))∧w'.cell? ⟨h0,1,none⟩=some (.slice p1 (ws (dX oN)).length q1)∧w'.cell? ⟨h0,2,none⟩=some (.int .i64 (dE oN))∧w'.cell? ⟨h1,0,none⟩=some (.slice (some ⟨gx,0,none⟩) n n)∧w'.cell? ⟨h1,1,none⟩=some (.bool (dN oS))∧w'.cell? ⟨h1,2,none⟩=some (.slice ax (ws (dX oS)).length cx)∧w'.cell? ⟨h1,3,none⟩=some (.int .i64 (dE oS))) 8 (by kernel_rfl) ?_
  obtain ⟨Wd,hWd⟩:∃ V,V=W.drew:=⟨_,rfl⟩;rw [←hWd] at BD kS ⊢;clear hWd;refine until_take (i:=0) [2,6] (v:=?_) rfl (by kernel_rfl) (by kernel_rfl) (by kernel_rfl) (by kernel_rfl) (by kernel_rfl) (fun _ _ _ h=>h) (Or.inl ⟨by rfl,?_⟩) kS.out ?_
  rotate_left
  · intro u hSu
    try dsimp only at hSu
    first | (go_simp;done) | (go_simp;with_reducible rfl)
  try simp only [Act.put,List.setIfInBounds_toArray,List.set_cons_zero,List.set_cons_succ]
  refine until_take (i:=1) [2,6] (v:=?_) rfl (by kernel_rfl) (by kernel_rfl) (by kernel_rfl) (by kernel_rfl) (by kernel_rfl) (fun _ _ _ h=>h) (Or.inl ⟨by rfl,?_⟩) kS.out ?_
  rotate_left
  · intro u hSu
    try dsimp only at hSu
    first | (go_simp;done) | (go_simp;with_reducible rfl)
  try simp only [Act.put,List.setIfInBounds_toArray,List.set_cons_zero,List.set_cons_succ]
  refine until_take (i:=3) [5,6] (v:=?_) rfl (by kernel_rfl) (by kernel_rfl) (by kernel_rfl) (by kernel_rfl) (by kernel_rfl) (fun _ _ _ h=>h) (Or.inl ⟨by rfl,?_⟩) kS.out ?_
  rotate_left
  · intro u hSu
    try dsimp only at hSu
    first | (go_simp;done) | (go_simp;with_reducible rfl)
  try simp only [Act.put,List.setIfInBounds_toArray,List.set_cons_zero,List.set_cons_succ]
  refine until_take (i:=4) [5,6] (v:=?_) rfl (by kernel_rfl) (by kernel_rfl) (by kernel_rfl) (by kernel_rfl) (by kernel_rfl) (fun _ _ _ h=>h) (Or.inl ⟨by rfl,?_⟩) kS.out ?_
  rotate_left
  · intro u hSu
    try dsimp only at hSu
    first | (go_simp;done) | (go_simp;with_reducible rfl)
  try simp only [Act.put,List.setIfInBounds_toArray,List.set_cons_zero,List.set_cons_succ]
  refine until_two14 (i:=2) (j:=7) (by kernel_rfl) rfl rfl (fun K' hK=>?_) (fun K' hK=>?_)
  · skip
    have C:=hid (HR1.out Wd p1 q1 (HT.out.belows BD.out.1.b) BD.out.2)
    go_simp
    refine C.out.mono ?_;rintro r u1 ⟨hd,hb⟩;obtain ⟨a1,c1,rfl,hN⟩:=hd.shp14;have BD:=qsd (ai (BD.out.1.below hb) (ai (BD.out.2.below hb) hN));have kS:=qsd (ai (cb14 kS.out.1 hb) (ai (cb14 kS.out.2.1 hb) (ai (cb14 kS.out.2.2.1 hb) (ai (cb14 kS.out.2.2.2.1 hb) (ai (cb14 kS.out.2.2.2.2.1 hb) (ai (cb14 kS.out.2.2.2.2.2.1 hb) (cb14 kS.out.2.2.2.2.2.2 hb)))))));clear hb hd hN C
    dsimp only
    refine hK.out _ _ (fun _=>kS.out) ?_
    clear hK K'
    try simp only [Act.put,List.setIfInBounds_toArray,List.set_cons_zero,List.set_cons_succ]
    refine until_two14 (i:=5) (j:=7) (by kernel_rfl) rfl rfl (fun K' hK=>?_) (fun K' hK=>?_)
    · skip
      have C:=hid (HPw.out u1 (HT.out.belows BD.out.1.b) ⟨gx,ax,cx,rfl,BD.out.1.dr,BD.out.1.nt⟩)
      go_simp
      refine C.out.mono ?_;rintro r u2 ⟨hd,hb⟩;obtain ⟨a2,c2,rfl,hN⟩:=hd.shp14;have BD:=qsd (ai (BD.out.1.below hb) (ai (BD.out.2.1.below hb) (ai (BD.out.2.2.below hb) hN)));have kS:=qsd (ai (cb14 kS.out.1 hb) (ai (cb14 kS.out.2.1 hb) (ai (cb14 kS.out.2.2.1 hb) (ai (cb14 kS.out.2.2.2.1 hb) (ai (cb14 kS.out.2.2.2.2.1 hb) (ai (cb14 kS.out.2.2.2.2.2.1 hb) (cb14 kS.out.2.2.2.2.2.2 hb)))))));clear hb hd hN C
      dsimp only
      refine hK.out _ _ (fun _=>kS.out) ?_
      clear hK K'
      try simp only [Act.put,List.setIfInBounds_toArray,List.set_cons_zero,List.set_cons_succ]
      refine until_two14 (i:=6) (j:=7) (by kernel_rfl) rfl rfl (fun K' hK=>?_) (fun K' hK=>?_)
      · skip
        have C:=hid (times14 FF.out.1 FF.out.2.1 FF.out.2.2.1 BD.out.2.2.1 BD.out.2.2.2 (HT.out.belows BD.out.1.b) EE.out.1)
        go_simp
        refine C.out.mono ?_;rintro r u3 ⟨hd,hb⟩;obtain ⟨a3,c3,rfl,hN⟩:=hd.shp14;have BD:=qsd (ai (BD.out.1.below hb) (ai (BD.out.2.1.below hb) (ai (BD.out.2.2.1.below hb) (ai (BD.out.2.2.2.below hb) hN))));have kS:=qsd (ai (cb14 kS.out.1 hb) (ai (cb14 kS.out.2.1 hb) (ai (cb14 kS.out.2.2.1 hb) (ai (cb14 kS.out.2.2.2.1 hb) (ai (cb14 kS.out.2.2.2.2.1 hb) (ai (cb14 kS.out.2.2.2.2.2.1 hb) (cb14 kS.out.2.2.2.2.2.2 hb)))))));clear hb hd hN C
        dsimp only
        refine hK.out _ _ (fun _=>kS.out) ?_
        clear hK K'
        try simp only [Act.put,List.setIfInBounds_toArray,List.set_cons_zero,List.set_cons_succ]
        refine until_one (i:=7) (by kernel_rfl) rfl (fun K' hK=>?_)
        go_simp
        obtain ⟨g4,hg4⟩:∃ g,g=u3.heap.size:=⟨_,rfl⟩;obtain ⟨V4,hV4⟩:∃ V,V=u3.alloc (Obj.cells #[.bool false,.slice none 0 0,.int .i64 0] 37):=⟨_,rfl⟩;have hb:Below u3.heap.size u3 V4:=by rw [hV4];exact below_alloc _ _
        have hZ:Lo V4 g4 o00:=by rw [hV4,hg4];exact Lo.zero _
        have BD:=qsd (ai (BD.out.1.below hb) (ai (BD.out.2.1.below hb) (ai (BD.out.2.2.1.below hb) (ai (BD.out.2.2.2.1.below hb) (ai (BD.out.2.2.2.2.below hb) (ai hZ (show u.heap.size<g4 by rw [hg4];exact BD.out.1.z0.lt)))))))
        have kS:=qsd (ai (cb14 kS.out.1 hb) (ai (cb14 kS.out.2.1 hb) (ai (cb14 kS.out.2.2.1 hb) (ai (cb14 kS.out.2.2.2.1 hb) (ai (cb14 kS.out.2.2.2.2.1 hb) (ai (cb14 kS.out.2.2.2.2.2.1 hb) (cb14 kS.out.2.2.2.2.2.2 hb)))))));have HV:=(qsd (ai hV4 hg4));clear hZ hb hV4 hg4;refine hK.out _ _ (fun _=>by rw [←HV.out.1];exact kS.out) ?_
        clear hK K';rw [←HV.out.1,←HV.out.2];clear HV
        try simp only [Act.put,List.setIfInBounds_toArray,List.set_cons_zero,List.set_cons_succ]
        obtain ⟨zp,zq,DZ,MZ⟩:=BD.out.2.2.2.2.2.1;obtain ⟨z0,z1,z2,zf0,zf1,zf2⟩:=DZ.facts;clear DZ MZ;refine until_one (i:=8) (by kernel_rfl) rfl (fun K' hK=>?_)
        go_simp
        refine hK.out _ _ (fun h=>absurd h (by decide)) ?_
        clear hK K' z0 z1 z2 zf0 zf1 zf2 kS;refine until_done (by kernel_rfl) ?_ _
        go_wp2_with fail
        go_meet
        case rel=>exact ⟨g4,rfl,BD.out.2.2.2.2.2.1.set BD.out.2.2.2.2.1,BD.out.1.other BD.out.2.2.2.2.2.1 BD.out.2.2.2.2.2.2 HL.out _ _ _,BD.out.2.2.2.2.2.2⟩
      · skip
        go_simp
        obtain ⟨g5,hg5⟩:∃ g,g=u2.heap.size:=⟨_,rfl⟩;obtain ⟨V5,hV5⟩:∃ V,V=u2.alloc (Obj.cells #[.bool false,.slice none 0 0,.int .i64 0] 37):=⟨_,rfl⟩;have hb:Below u2.heap.size u2 V5:=by rw [hV5];exact below_alloc _ _
        have hZ:Lo V5 g5 o00:=by rw [hV5,hg5];exact Lo.zero _
        have BD:=qsd (ai (BD.out.1.below hb) (ai (BD.out.2.1.below hb) (ai (BD.out.2.2.1.below hb) (ai (BD.out.2.2.2.below hb) (ai hZ (show u.heap.size<g5 by rw [hg5];exact BD.out.1.z0.lt))))))
        have kS:=qsd (ai (cb14 kS.out.1 hb) (ai (cb14 kS.out.2.1 hb) (ai (cb14 kS.out.2.2.1 hb) (ai (cb14 kS.out.2.2.2.1 hb) (ai (cb14 kS.out.2.2.2.2.1 hb) (ai (cb14 kS.out.2.2.2.2.2.1 hb) (cb14 kS.out.2.2.2.2.2.2 hb)))))));have HV:=(qsd (ai hV5 hg5));clear hZ hb hV5 hg5;refine hK.out _ _ (fun _=>by rw [←HV.out.1];exact kS.out) ?_
        clear hK K';rw [←HV.out.1,←HV.out.2];clear HV
        try simp only [Act.put,List.setIfInBounds_toArray,List.set_cons_zero,List.set_cons_succ]
        refine until_one (i:=6) (by kernel_rfl) rfl (fun K' hK=>?_)
        have C:=hid (times14 FF.out.1 FF.out.2.1 FF.out.2.2.1 BD.out.2.2.1 BD.out.2.2.2.1 (HT.out.belows BD.out.1.b) EE.out.1)
        go_simp
        refine C.out.mono ?_;rintro r u6 ⟨hd,hb⟩;obtain ⟨a6,c6,rfl,hN⟩:=hd.shp14;have BD:=qsd (ai (BD.out.1.below hb) (ai (BD.out.2.1.below hb) (ai (BD.out.2.2.1.below hb) (ai (BD.out.2.2.2.1.below hb) (ai (BD.out.2.2.2.2.1.below hb) (ai BD.out.2.2.2.2.2 hN))))));have kS:=qsd (ai (cb14 kS.out.1 hb) (ai (cb14 kS.out.2.1 hb) (ai (cb14 kS.out.2.2.1 hb) (ai (cb14 kS.out.2.2.2.1 hb) (ai (cb14 kS.out.2.2.2.2.1 hb) (ai (cb14 kS.out.2.2.2.2.2.1 hb) (cb14 kS.out.2.2.2.2.2.2 hb)))))));clear hb hd hN C
        dsimp only
        refine hK.out _ _ (fun _=>kS.out) ?_
        clear hK K'
        try simp only [Act.put,List.setIfInBounds_toArray,List.set_cons_zero,List.set_cons_succ]
        obtain ⟨zp,zq,DZ,MZ⟩:=BD.out.2.2.2.2.1;obtain ⟨z0,z1,z2,zf0,zf1,zf2⟩:=DZ.facts;clear DZ MZ;refine until_one (i:=8) (by kernel_rfl) rfl (fun K' hK=>?_)
        go_simp
        refine hK.out _ _ (fun h=>absurd h (by decide)) ?_
        clear hK K' z0 z1 z2 zf0 zf1 zf2 kS;refine until_done (by kernel_rfl) ?_ _
        go_wp2_with fail
        go_meet
        case rel=>exact ⟨g5,rfl,BD.out.2.2.2.2.1.set BD.out.2.2.2.2.2.2,BD.out.1.other BD.out.2.2.2.2.1 BD.out.2.2.2.2.2.1 HL.out _ _ _,BD.out.2.2.2.2.2.1⟩
    · skip
      go_simp
      obtain ⟨g7,hg7⟩:∃ g,g=u1.heap.size:=⟨_,rfl⟩;obtain ⟨V7,hV7⟩:∃ V,V=u1.alloc (Obj.cells #[.bool false,.slice none 0 0,.int .i64 0] 37):=⟨_,rfl⟩;have hb:Below u1.heap.size u1 V7:=by rw [hV7];exact below_alloc _ _
      have hZ:Lo V7 g7 o00:=by rw [hV7,hg7];exact Lo.zero _
      have BD:=qsd (ai (BD.out.1.below hb) (ai (BD.out.2.1.below hb) (ai (BD.out.2.2.below hb) (ai hZ (show u.heap.size<g7 by rw [hg7];exact BD.out.1.z0.lt)))))
      have kS:=qsd (ai (cb14 kS.out.1 hb) (ai (cb14 kS.out.2.1 hb) (ai (cb14 kS.out.2.2.1 hb) (ai (cb14 kS.out.2.2.2.1 hb) (ai (cb14 kS.out.2.2.2.2.1 hb) (ai (cb14 kS.out.2.2.2.2.2.1 hb) (cb14 kS.out.2.2.2.2.2.2 hb)))))));have HV:=(qsd (ai hV7 hg7));clear hZ hb hV7 hg7;refine hK.out _ _ (fun _=>by rw [←HV.out.1];exact kS.out) ?_
      clear hK K';rw [←HV.out.1,←HV.out.2];clear HV
      try simp only [Act.put,List.setIfInBounds_toArray,List.set_cons_zero,List.set_cons_succ]
      refine until_one (i:=5) (by kernel_rfl) rfl (fun K' hK=>?_)
      have C:=hid (HPw.out V7 (HT.out.belows BD.out.1.b) ⟨gx,ax,cx,rfl,BD.out.1.dr,BD.out.1.nt⟩)
      go_simp
      refine C.out.mono ?_;rintro r u8 ⟨hd,hb⟩;obtain ⟨a8,c8,rfl,hN⟩:=hd.shp14;have BD:=qsd (ai (BD.out.1.below hb) (ai (BD.out.2.1.below hb) (ai (BD.out.2.2.1.below hb) (ai (BD.out.2.2.2.1.below hb) (ai BD.out.2.2.2.2 hN)))));have kS:=qsd (ai (cb14 kS.out.1 hb) (ai (cb14 kS.out.2.1 hb) (ai (cb14 kS.out.2.2.1 hb) (ai (cb14 kS.out.2.2.2.1 hb) (ai (cb14 kS.out.2.2.2.2.1 hb) (ai (cb14 kS.out.2.2.2.2.2.1 hb) (cb14 kS.out.2.2.2.2.2.2 hb)))))));clear hb hd hN C
      dsimp only
      refine hK.out _ _ (fun _=>kS.out) ?_
      clear hK K'
      try simp only [Act.put,List.setIfInBounds_toArray,List.set_cons_zero,List.set_cons_succ]
      refine until_one (i:=6) (by kernel_rfl) rfl (fun K' hK=>?_)
      have C:=hid (times14 FF.out.1 FF.out.2.1 FF.out.2.2.1 BD.out.2.2.1 BD.out.2.2.2.2.2 (HT.out.belows BD.out.1.b) EE.out.1)
      go_simp
      refine C.out.mono ?_;rintro r u9 ⟨hd,hb⟩;obtain ⟨a9,c9,rfl,hN⟩:=hd.shp14;have BD:=qsd (ai (BD.out.1.below hb) (ai (BD.out.2.1.below hb) (ai (BD.out.2.2.1.below hb) (ai (BD.out.2.2.2.1.below hb) (ai BD.out.2.2.2.2.1 (ai (BD.out.2.2.2.2.2.below hb) hN))))));have kS:=qsd (ai (cb14 kS.out.1 hb) (ai (cb14 kS.out.2.1 hb) (ai (cb14 kS.out.2.2.1 hb) (ai (cb14 kS.out.2.2.2.1 hb) (ai (cb14 kS.out.2.2.2.2.1 hb) (ai (cb14 kS.out.2.2.2.2.2.1 hb) (cb14 kS.out.2.2.2.2.2.2 hb)))))));clear hb hd hN C
      dsimp only
      refine hK.out _ _ (fun _=>kS.out) ?_
      clear hK K'
      try simp only [Act.put,List.setIfInBounds_toArray,List.set_cons_zero,List.set_cons_succ]
      obtain ⟨zp,zq,DZ,MZ⟩:=BD.out.2.2.2.1;obtain ⟨z0,z1,z2,zf0,zf1,zf2⟩:=DZ.facts;clear DZ MZ;refine until_one (i:=8) (by kernel_rfl) rfl (fun K' hK=>?_)
      go_simp
      refine hK.out _ _ (fun h=>absurd h (by decide)) ?_
      clear hK K' z0 z1 z2 zf0 zf1 zf2 kS;refine until_done (by kernel_rfl) ?_ _
      go_wp2_with fail
      go_meet
      case rel=>exact ⟨g7,rfl,BD.out.2.2.2.1.set BD.out.2.2.2.2.2.2,BD.out.1.other BD.out.2.2.2.1 BD.out.2.2.2.2.1 HL.out _ _ _,BD.out.2.2.2.2.1⟩
  · skip
    go_simp
    obtain ⟨g10,hg10⟩:∃ g,g=Wd.heap.size:=⟨_,rfl⟩;obtain ⟨V10,hV10⟩:∃ V,V=Wd.alloc (Obj.cells #[.bool false,.slice none 0 0,.int .i64 0] 37):=⟨_,rfl⟩;have hb:Below Wd.heap.size Wd V10:=by rw [hV10];exact below_alloc _ _
    have hZ:Lo V10 g10 o00:=by rw [hV10,hg10];exact Lo.zero _
    have BD:=qsd (ai (BD.out.1.below hb) (ai (BD.out.2.below hb) (ai hZ (show u.heap.size<g10 by rw [hg10];exact BD.out.1.z0.lt))))
    have kS:=qsd (ai (cb14 kS.out.1 hb) (ai (cb14 kS.out.2.1 hb) (ai (cb14 kS.out.2.2.1 hb) (ai (cb14 kS.out.2.2.2.1 hb) (ai (cb14 kS.out.2.2.2.2.1 hb) (ai (cb14 kS.out.2.2.2.2.2.1 hb) (cb14 kS.out.2.2.2.2.2.2 hb)))))));have HV:=(qsd (ai hV10 hg10));clear hZ hb hV10 hg10;refine hK.out _ _ (fun _=>by rw [←HV.out.1];exact kS.out) ?_
    clear hK K';rw [←HV.out.1,←HV.out.2];clear HV
    try simp only [Act.put,List.setIfInBounds_toArray,List.set_cons_zero,List.set_cons_succ]
    refine until_one (i:=2) (by kernel_rfl) rfl (fun K' hK=>?_)
    have C:=hid (HR1.out V10 p1 q1 (HT.out.belows BD.out.1.b) BD.out.2.1)
    go_simp
    refine C.out.mono ?_;rintro r u11 ⟨hd,hb⟩;obtain ⟨a11,c11,rfl,hN⟩:=hd.shp14;have BD:=qsd (ai (BD.out.1.below hb) (ai (BD.out.2.1.below hb) (ai (BD.out.2.2.1.below hb) (ai BD.out.2.2.2 hN))));have kS:=qsd (ai (cb14 kS.out.1 hb) (ai (cb14 kS.out.2.1 hb) (ai (cb14 kS.out.2.2.1 hb) (ai (cb14 kS.out.2.2.2.1 hb) (ai (cb14 kS.out.2.2.2.2.1 hb) (ai (cb14 kS.out.2.2.2.2.2.1 hb) (cb14 kS.out.2.2.2.2.2.2 hb)))))));clear hb hd hN C
    dsimp only
    refine hK.out _ _ (fun _=>kS.out) ?_
    clear hK K'
    try simp only [Act.put,List.setIfInBounds_toArray,List.set_cons_zero,List.set_cons_succ]
    refine until_one (i:=5) (by kernel_rfl) rfl (fun K' hK=>?_)
    have C:=hid (HPw.out u11 (HT.out.belows BD.out.1.b) ⟨gx,ax,cx,rfl,BD.out.1.dr,BD.out.1.nt⟩)
    go_simp
    refine C.out.mono ?_;rintro r u12 ⟨hd,hb⟩;obtain ⟨a12,c12,rfl,hN⟩:=hd.shp14;have BD:=qsd (ai (BD.out.1.below hb) (ai (BD.out.2.1.below hb) (ai (BD.out.2.2.1.below hb) (ai BD.out.2.2.2.1 (ai (BD.out.2.2.2.2.below hb) hN)))));have kS:=qsd (ai (cb14 kS.out.1 hb) (ai (cb14 kS.out.2.1 hb) (ai (cb14 kS.out.2.2.1 hb) (ai (cb14 kS.out.2.2.2.1 hb) (ai (cb14 kS.out.2.2.2.2.1 hb) (ai (cb14 kS.out.2.2.2.2.2.1 hb) (cb14 kS.out.2.2.2.2.2.2 hb)))))));clear hb hd hN C
    dsimp only
    refine hK.out _ _ (fun _=>kS.out) ?_
    clear hK K'
    try simp only [Act.put,List.setIfInBounds_toArray,List.set_cons_zero,List.set_cons_succ]
    refine until_one (i:=6) (by kernel_rfl) rfl (fun K' hK=>?_)
    have C:=hid (times14 FF.out.1 FF.out.2.1 FF.out.2.2.1 BD.out.2.2.2.2.1 BD.out.2.2.2.2.2 (HT.out.belows BD.out.1.b) EE.out.1)
    go_simp
    refine C.out.mono ?_;rintro r u13 ⟨hd,hb⟩;obtain ⟨a13,c13,rfl,hN⟩:=hd.shp14;have BD:=qsd (ai (BD.out.1.below hb) (ai (BD.out.2.1.below hb) (ai (BD.out.2.2.1.below hb) (ai BD.out.2.2.2.1 (ai (BD.out.2.2.2.2.1.below hb) (ai (BD.out.2.2.2.2.2.below hb) hN))))));have kS:=qsd (ai (cb14 kS.out.1 hb) (ai (cb14 kS.out.2.1 hb) (ai (cb14 kS.out.2.2.1 hb) (ai (cb14 kS.out.2.2.2.1 hb) (ai (cb14 kS.out.2.2.2.2.1 hb) (ai (cb14 kS.out.2.2.2.2.2.1 hb) (cb14 kS.out.2.2.2.2.2.2 hb)))))));clear hb hd hN C
    dsimp only
    refine hK.out _ _ (fun _=>kS.out) ?_
    clear hK K'
    try simp only [Act.put,List.setIfInBounds_toArray,List.set_cons_zero,List.set_cons_succ]
    obtain ⟨zp,zq,DZ,MZ⟩:=BD.out.2.2.1;obtain ⟨z0,z1,z2,zf0,zf1,zf2⟩:=DZ.facts;clear DZ MZ;refine until_one (i:=8) (by kernel_rfl) rfl (fun K' hK=>?_)
    go_simp
    refine hK.out _ _ (fun h=>absurd h (by decide)) ?_
    clear hK K' z0 z1 z2 zf0 zf1 zf2 kS;refine until_done (by kernel_rfl) ?_ _
    go_wp2_with fail
    go_meet
    case rel=>exact ⟨g10,rfl,BD.out.2.2.1.set BD.out.2.2.2.2.2.2,BD.out.1.other BD.out.2.2.1 BD.out.2.2.2.1 HL.out _ _ _,BD.out.2.2.2.1⟩
 obtain ⟨g7,rfl,K1⟩:=hcut;obtain ⟨U,hU⟩:∃ U,U=wc:=⟨_,rfl⟩;rw [←hU] at K1 ⊢;clear hU H0 HR1 HPw;have hdr:=(Below.refl U.heap.size U).drew;obtain ⟨p7,q7,D7,M7⟩:=K1.out.1.below hdr;obtain ⟨p3,q3,D3,M3⟩:=(K1.out.2.1.below hdr).l0;have kS:Aside (U.drew.cell? ⟨h2,0,none⟩=some (.int .i64 (k:Nat))∧U.drew.cell? ⟨g7,0,none⟩=some (.bool (dN oW))∧U.drew.cell? ⟨g7,1,none⟩=some (.slice p7 (ws (dX oW)).length q7)∧U.drew.cell? ⟨g7,2,none⟩=some (.int .i64 (dE oW))∧U.drew.cell? ⟨h3,0,none⟩=some (.bool (dN oL))∧U.drew.cell? ⟨h3,1,none⟩=some (.slice p3 (ws (dX oL)).length q3)∧U.drew.cell? ⟨h3,2,none⟩=some (.int .i64 (dE oL))):=⟨(K1.out.2.1.below hdr).k0.cell 0 _ rfl,D7.facts.1,D7.facts.2.1,D7.facts.2.2.1,D3.facts.1,D3.facts.2.1,D3.facts.2.2.1⟩;have BD:=qsd (ai (K1.out.2.1.below hdr) (ai M7 M3));have C1:=hid (HOv.out U.drew);clear D7 D3 M7 M3
 go_upto_region 2 with fail
 go_region_held3 (fun w'=>w'.cell? ⟨h2,0,none⟩=some (.int .i64 (k:Nat))∧w'.cell? ⟨g7,0,none⟩=some (.bool (dN oW))∧w'.cell? ⟨g7,1,none⟩=some (.slice p7 (ws (dX oW)).length q7)∧w'.cell? ⟨g7,2,none⟩=some (.int .i64 (dE oW))∧w'.cell? ⟨h3,0,none⟩=some (.bool (dN oL))∧w'.cell? ⟨h3,1,none⟩=some (.slice p3 (ws (dX oL)).length q3)∧w'.cell? ⟨h3,2,none⟩=some (.int .i64 (dE oL))) (first | with_reducible exact kS.out | with_reducible exact kT.out) (first
  | (go_at_call 97
     with_reducible refine C1.out.mono ?_
     rintro r v ⟨rfl,hv⟩;rw [hv];have C2:=hid (HI.out U.drew (HT.out.belows BD.out.1.b));clear hv v C1)
  | (go_at_call 52
     with_reducible refine C2.out.mono ?_
     rintro r v1 ⟨hd,hb⟩;obtain ⟨a1,c1,rfl,hN⟩:=hd.shp14;have BD:=qsd (ai (BD.out.1.below hb) (ai (BD.out.2.1.below hb) (ai (BD.out.2.2.below hb) hN)));have kS:=qsd (ai (cb14 kS.out.1 hb) (ai (cb14 kS.out.2.1 hb) (ai (cb14 kS.out.2.2.1 hb) (ai (cb14 kS.out.2.2.2.1 hb) (ai (cb14 kS.out.2.2.2.2.1 hb) (ai (cb14 kS.out.2.2.2.2.2.1 hb) (cb14 kS.out.2.2.2.2.2.2 hb)))))));have C3:=hid (HR2.out v1 p3 q3 (HT.out.belows BD.out.1.b) BD.out.2.2.1);clear hb hd hN C2)
  | (go_at_call 51
     with_reducible refine C3.out.mono ?_
     rintro r v2 ⟨hd,hb⟩;obtain ⟨a3,c3,rfl,hN⟩:=hd.shp14;have BD:=qsd (ai (BD.out.1.below hb) (ai (BD.out.2.1.below hb) (ai (BD.out.2.2.1.below hb) (ai (BD.out.2.2.2.below hb) hN))));have kS:=qsd (ai (cb14 kS.out.1 hb) (ai (cb14 kS.out.2.1 hb) (ai (cb14 kS.out.2.2.1 hb) (ai (cb14 kS.out.2.2.2.1 hb) (ai (cb14 kS.out.2.2.2.2.1 hb) (ai (cb14 kS.out.2.2.2.2.2.1 hb) (cb14 kS.out.2.2.2.2.2.2 hb)))))));have C4:=hid (times14 FF.out.2.2.1 FF.out.2.2.2.2.1 FF.out.2.2.2.2.2.1 BD.out.2.1 BD.out.2.2.2.2 (HT.out.belows BD.out.1.b) EE.out.2.1);clear hb hd hN C3)
  | (go_at_call 40
     with_reducible refine C4.out.mono ?_
     rintro r v3 ⟨hd,hb⟩;obtain ⟨a4,c4,rfl,hN⟩:=hd.shp14;have BD:=qsd (ai (BD.out.1.below hb) (ai (BD.out.2.1.below hb) (ai (BD.out.2.2.1.below hb) (ai (BD.out.2.2.2.1.below hb) hN))));have kS:=qsd (ai (cb14 kS.out.1 hb) (ai (cb14 kS.out.2.1 hb) (ai (cb14 kS.out.2.2.1 hb) (ai (cb14 kS.out.2.2.2.1 hb) (ai (cb14 kS.out.2.2.2.2.1 hb) (ai (cb14 kS.out.2.2.2.2.2.1 hb) (cb14 kS.out.2.2.2.2.2.2 hb)))))));have C5:=hid (times14 FF.out.2.2.2.1 FF.out.2.2.2.2.2.1 FF.out.2.2.2.2.2.2 BD.out.2.2.2.1 BD.out.2.2.2.2 (HT.out.belows BD.out.1.b) EE.out.2.2);clear hb hd hN C4)
  | (go_at_call 40
     with_reducible refine C5.out.mono ?_
     rintro r v4 ⟨hd,hb⟩;obtain ⟨a5,c5,rfl,hN⟩:=hd.shp14;have BD:=qsd (ai (BD.out.1.below hb) (ai (BD.out.2.1.below hb) (ai (BD.out.2.2.1.below hb) hN)));have kS:=qsd (ai (cb14 kS.out.1 hb) (ai (cb14 kS.out.2.1 hb) (ai (cb14 kS.out.2.2.1 hb) (ai (cb14 kS.out.2.2.2.1 hb) (ai (cb14 kS.out.2.2.2.2.1 hb) (ai (cb14 kS.out.2.2.2.2.2.1 hb) (cb14 kS.out.2.2.2.2.2.2 hb)))))));have kT:=qsd (ai (cs14 (g:=u.heap.size) (x:=.bool (dN oA)) (y:=.slice a5 (ws (dX oA)).length c5) (z:=.int .i64 (dE oA)) kS.out.1 (Nat.ne_of_lt HL.out.2.2.1)) (ai (cs14 (g:=u.heap.size) (x:=.bool (dN oA)) (y:=.slice a5 (ws (dX oA)).length c5) (z:=.int .i64 (dE oA)) kS.out.2.1 (Nat.ne_of_gt K1.out.2.2)) (ai (cs14 (g:=u.heap.size) (x:=.bool (dN oA)) (y:=.slice a5 (ws (dX oA)).length c5) (z:=.int .i64 (dE oA)) kS.out.2.2.1 (Nat.ne_of_gt K1.out.2.2)) (ai (cs14 (g:=u.heap.size) (x:=.bool (dN oA)) (y:=.slice a5 (ws (dX oA)).length c5) (z:=.int .i64 (dE oA)) kS.out.2.2.2.1 (Nat.ne_of_gt K1.out.2.2)) (ai (cs14 (g:=u.heap.size) (x:=.bool (dN oA)) (y:=.slice a5 (ws (dX oA)).length c5) (z:=.int .i64 (dE oA)) kS.out.2.2.2.2.1 (Nat.ne_of_lt HL.out.2.2.2.1)) (ai (cs14 (g:=u.heap.size) (x:=.bool (dN oA)) (y:=.slice a5 (ws (dX oA)).length c5) (z:=.int .i64 (dE oA)) kS.out.2.2.2.2.2.1 (Nat.ne_of_lt HL.out.2.2.2.1)) (cs14 (g:=u.heap.size) (x:=.bool (dN oA)) (y:=.slice a5 (ws (dX oA)).length c5) (z:=.int .i64 (dE oA)) kS.out.2.2.2.2.2.2 (Nat.ne_of_lt HL.out.2.2.2.1))))))));obtain ⟨zp,zq,DZ,MZ⟩:=BD.out.1.z0;obtain ⟨z0,z1,z2,zf0,zf1,zf2⟩:=DZ.facts;clear DZ MZ;clear hb hd hN C5))
 go_wp2;exact end14 Tryz.results95 rfl BD.out.1.z0 BD.out.1.b (Nat.le_refl _) BD.out.2.2.2
end
end Go.Proofs.YtflkmfdlpfimcaaGreatDoor
