import Derived.Test.YtflkmfdlpfimcaaGreatDoorMC2x
import Derived.Test.YtflkmfdlpfimcaaGreatDoorMO10x
set_option linter.unusedVariables false
set_option linter.unusedSimpArgs false
set_option maxHeartbeats 16000000
set_option maxRecDepth 20000
namespace Go.Proofs.YtflkmfdlpfimcaaGreatDoor
namespace J
end J
section
open Go Go.RowKit J
structure At14 (w v:World) (n k gx:Nat) (ax:Option Addr) (cx:Nat) (A:Nat→Option (Bool×Nat×Int)) (oS:Option (Bool×Nat×Int)):Prop where
 x0:Bl v w.heap.size 62 [.slice (some ⟨gx,0,none⟩) n n,.bool (dN oS),.slice ax (ws (dX oS)).length cx,.int .i64 (dE oS)]
 k0:Bl v (w.heap.size+1) 3 [.int .i64 (k:Nat)]
 z0:Lo v (w.heap.size+2) o00
 dr:Dr v gx n n A
 nt:Nt 0 v (.slice ax (ws (dX oS)).length cx) (dX oS)
 b:Below w.heap.size w v
theorem At14.below {w v y:World}{n k gx:Nat}{ax:Option Addr}{cx:Nat}{A:Nat→Option (Bool×Nat×Int)}{oS:Option (Bool×Nat×Int)}(h:At14 w v n k gx ax cx A oS) (hb:Below v.heap.size v y):At14 w y n k gx ax cx A oS :=
 ⟨h.x0.below hb h.x0.lt,h.k0.below hb h.k0.lt,h.z0.below hb,h.dr.below hb,h.nt.below hb,h.b.trans (hb.mono h.b.size)⟩
theorem At14.other {w v:World}{n k gx g:Nat}{ax:Option Addr}{cx:Nat}{A:Nat→Option (Bool×Nat×Int)}{oS q:Option (Bool×Nat×Int)}(h:At14 w v n k gx ax cx A oS) (hL:Lo v g q) (hg:w.heap.size+2<g) (hx:gx<w.heap.size) (x y z:Value):At14 w (st3 v g x y z) n k gx ax cx A oS:=by
 have hb:=st3_but12 g v x y z;obtain ⟨a0,c0,hD,hM⟩:=hL;exact ⟨h.x0.but hb (by omega),h.k0.but hb (by omega),h.z0.other ⟨a0,c0,hD,hM⟩ (by omega) _ _ _,h.dr.but (T:=37) (L:=[_,_,_]) hb hD (by omega) (by decide),h.nt.off12 hD _ _ _,st3_bel12 h.b h.b.size (by omega) _ _ _⟩
theorem Lo.nt14 {w:World}{g:Nat}{o:Option (Bool×Nat×Int)}{v:Value}{X:Nat}(h:Lo w g o) (hN:Nt 0 w v X) (x y z:Value):Nt 0 (st3 w g x y z) v X:=by
 obtain ⟨a,c,hD,_⟩:=h;exact hN.off12 hD _ _ _
theorem about_core (w:World) (n k gx:Nat) (ax:Option Addr) (cx:Nat) (A:Nat→Option (Bool×Nat×Int)) (oS oN oL oR:Option (Bool×Nat×Int)) (hT:Tab w) (hk:k≤4) (hn:n≤65536)
 (HI:Hid (∀ v:World,Tab v→Calls Tryz.prog 52 #[.int .i64 (n:Nat)] v fun r w'=>DVal 0 w' r oN∧Below v.heap.size v w'))
 (HNg:Hid (∀ (v:World) (a:Option Addr) (d:Nat),Tab v→Nt 0 v (.slice a (ws (dX oS)).length d) (dX oS)→Calls Tryz.prog 94 #[.agg #[.bool (dN oS),.slice a (ws (dX oS)).length d,.int .i64 (dE oS)]] v fun r w'=>DVal 0 w' r oL∧Below v.heap.size v w'))
 (HC:Hid (∀ (u:World) (g5 g6:Nat),Tab u→Lo u g5 oN→Lo u g6 oL→At14 w u n k gx ax cx A oS→Calls Tryz.prog 84 #[.int .i64 ((k+1:Nat):Int),.func (.func 95) #[] #[.pointer (some ⟨g5,0,none⟩),.pointer (some ⟨w.heap.size,0,none⟩),.pointer (some ⟨w.heap.size+1,0,none⟩),.pointer (some ⟨g6,0,none⟩)]] u fun r w'=>DVal 0 w' r oR∧Below u.heap.size u w'))
 (B3:Dr w gx n n A) (B4:Nt 0 w (.slice ax (ws (dX oS)).length cx) (dX oS)) :
 Calls Tryz.prog 50 #[.agg #[.slice (some ⟨gx,0,none⟩) n n,.bool (dN oS),.slice ax (ws (dX oS)).length cx,.int .i64 (dE oS)],.int .i64 (k:Nat)] w fun r w'=>DVal 0 w' r oR∧Below w.heap.size w w':=by
 obtain ⟨W,hW⟩:∃ W,W=((w.alloc (Obj.cells #[.slice (some ⟨gx,0,none⟩) n n,.bool (dN oS),.slice ax (ws (dX oS)).length cx,.int .i64 (dE oS)] 62)).alloc (Obj.cells #[.int .i64 (k:Nat)] 3)).alloc (Obj.cells #[.bool false,.slice none 0 0,.int .i64 0] 37):=⟨_,rfl⟩;have HL:=qsd B3.lt
 have H0:Aside (At14 w W n k gx ax cx A oS):=by
  have hbW:Below w.heap.size w W:=by rw [hW];exact ((below_alloc _ _).trans ((below_alloc _ _).mono (by simp))).trans ((below_alloc _ _).mono (by simp;omega))
  refine ⟨?_,?_,?_,B3.below hbW,B4.below hbW,hbW⟩
  · rw [hW];exact ((Bl.new w 62 [.slice (some ⟨gx,0,none⟩) n n,.bool (dN oS),.slice ax (ws (dX oS)).length cx,.int .i64 (dE oS)]).alloc _).alloc _
  · have z1:=Bl.new (w.alloc (Obj.cells #[.slice (some ⟨gx,0,none⟩) n n,.bool (dN oS),.slice ax (ws (dX oS)).length cx,.int .i64 (dE oS)] 62)) 3 [.int .i64 (k:Nat)]
    rw [World.size_alloc] at z1;rw [hW];exact z1.alloc _
  · have z2:=Lo.zero ((w.alloc (Obj.cells #[.slice (some ⟨gx,0,none⟩) n n,.bool (dN oS),.slice ax (ws (dX oS)).length cx,.int .i64 (dE oS)] 62)).alloc (Obj.cells #[.int .i64 (k:Nat)] 3))
    rw [World.size_alloc,World.size_alloc] at z2;rw [hW];exact z2
 have HW:=qsd hW;have HT:=qsd hT;have hwr:IntKind.i64.wrap ((k:Int)+1)=((k+1:Nat):Int):=by rw [IntKind.wrap_i64];omega
 have hmf:∀ (fn:Fn) (first cap:Array Value) (w:World),(Instr.makeFunc fn first cap).run Tryz.prog w=.ok (.func fn first cap) w:=fun _ _ _ _=>rfl
 clear hW hT B3 B4;go_enter Tryz.func50,Tryz.ntmps50
 go_upto_region 1 with fail
 rw [←HW.out];clear HW
 go_cut [5,6] from 7 to 13 (fun q q' wx=>∃ g5 g6:Nat,q=.pointer (some ⟨g5,0,none⟩)∧q'=.pointer (some ⟨g6,0,none⟩)∧Aside (Lo wx g5 oN∧Lo wx g6 oL∧At14 w wx n k gx ax cx A oS))
 case first =>
  have hdr:=(Below.refl W.heap.size W).drew;have kS:Aside (W.drew.cell? ⟨w.heap.size,0,none⟩=some (.slice (some ⟨gx,0,none⟩) n n)∧W.drew.cell? ⟨w.heap.size,1,none⟩=some (.bool (dN oS))∧W.drew.cell? ⟨w.heap.size,2,none⟩=some (.slice ax (ws (dX oS)).length cx)∧W.drew.cell? ⟨w.heap.size,3,none⟩=some (.int .i64 (dE oS))):=⟨(H0.out.below hdr).x0.cell 0 _ rfl,(H0.out.below hdr).x0.cell 1 _ rfl,(H0.out.below hdr).x0.cell 2 _ rfl,(H0.out.below hdr).x0.cell 3 _ rfl⟩;have BD:=qsd (H0.out.below hdr);clear hdr H0;refine until_region (fun w'=>w'.cell? ⟨w.heap.size,0,none⟩=some (.slice (some ⟨gx,0,none⟩) n n)∧w'.cell? ⟨w.heap.size,1,none⟩=some (.bool (dN oS))∧w'.cell? ⟨w.heap.size,2,none⟩=some (.slice ax (ws (dX oS)).length cx)∧w'.cell? ⟨w.heap.size,3,none⟩=some (.int .i64 (dE oS))) 9 (by kernel_rfl) ?_
  obtain ⟨Wd,hWd⟩:∃ V,V=W.drew:=⟨_,rfl⟩;rw [←hWd] at BD kS ⊢;clear hWd;refine until_take (i:=0) [1,2,3] (v:=?_) rfl (by kernel_rfl) (by kernel_rfl) (by kernel_rfl) (by kernel_rfl) (by kernel_rfl) (fun _ _ _ h=>h) (Or.inl ⟨by rfl,?_⟩) kS.out ?_
  rotate_left
  · intro u hSu
    try dsimp only at hSu
    first | (go_simp;done) | (go_simp;with_reducible rfl)
  try simp only [Act.put,List.setIfInBounds_toArray,List.set_cons_zero,List.set_cons_succ]
  refine until_take (i:=1) [2,3] (v:=?_) rfl (by kernel_rfl) (by kernel_rfl) (by kernel_rfl) (by kernel_rfl) (by kernel_rfl) (fun _ _ _ h=>h) (Or.inl ⟨by rfl,?_⟩) kS.out ?_
  rotate_left
  · intro u hSu
    try dsimp only at hSu
    first | (go_simp;done) | (go_simp;with_reducible rfl)
  try simp only [Act.put,List.setIfInBounds_toArray,List.set_cons_zero,List.set_cons_succ]
  refine until_take (i:=2) [3] (v:=?_) rfl (by kernel_rfl) (by kernel_rfl) (by kernel_rfl) (by kernel_rfl) (by kernel_rfl) (fun _ _ _ h=>h) (Or.inl ⟨by rfl,?_⟩) kS.out ?_
  rotate_left
  · intro u hSu
    try dsimp only at hSu
    first | (go_simp;done) | (go_simp;with_reducible rfl)
  try simp only [Act.put,List.setIfInBounds_toArray,List.set_cons_zero,List.set_cons_succ]
  refine until_take (i:=4) [5,6] (v:=?_) rfl (by kernel_rfl) (by kernel_rfl) (by kernel_rfl) (by kernel_rfl) (by kernel_rfl) (fun _ _ _ h=>h) (Or.inl ⟨by rfl,?_⟩) kS.out ?_
  rotate_left
  · intro u hSu
    try dsimp only at hSu
    first | (go_simp;done) | (go_simp;with_reducible rfl)
  try simp only [Act.put,List.setIfInBounds_toArray,List.set_cons_zero,List.set_cons_succ]
  refine until_take (i:=5) [6] (v:=?_) rfl (by kernel_rfl) (by kernel_rfl) (by kernel_rfl) (by kernel_rfl) (by kernel_rfl) (fun _ _ _ h=>h) (Or.inl ⟨by rfl,?_⟩) kS.out ?_
  rotate_left
  · intro u hSu
    try dsimp only at hSu
    first | (go_simp;done) | (go_simp;with_reducible rfl)
  try simp only [Act.put,List.setIfInBounds_toArray,List.set_cons_zero,List.set_cons_succ]
  refine until_three14 (i:=3) (j:=7) (k:=8) (by kernel_rfl) rfl rfl rfl (fun K' hK=>?_) (fun K' hK=>?_) (fun K' hK=>?_)
  · skip
    have C:=hid (HI.out Wd (HT.out.belows BD.out.b))
    go_simp
    refine C.out.mono ?_;rintro r u1 ⟨hd,hb⟩;obtain ⟨a1,c1,rfl,hN⟩:=hd.shp14;have BD:=qsd (ai (BD.out.below hb) hN);have kS:=qsd (ai (cb14 kS.out.1 hb) (ai (cb14 kS.out.2.1 hb) (ai (cb14 kS.out.2.2.1 hb) (cb14 kS.out.2.2.2 hb))));clear hb hd hN C
    dsimp only
    refine hK.out _ _ (fun _=>kS.out) ?_
    clear hK K'
    try simp only [Act.put,List.setIfInBounds_toArray,List.set_cons_zero,List.set_cons_succ]
    refine until_three14 (i:=6) (j:=7) (k:=8) (by kernel_rfl) rfl rfl rfl (fun K' hK=>?_) (fun K' hK=>?_) (fun K' hK=>?_)
    · skip
      have C:=hid (HNg.out u1 ax cx (HT.out.belows BD.out.1.b) BD.out.1.nt)
      go_simp
      refine C.out.mono ?_;rintro r u2 ⟨hd,hb⟩;obtain ⟨a2,c2,rfl,hN⟩:=hd.shp14;have BD:=qsd (ai (BD.out.1.below hb) (ai (BD.out.2.below hb) hN));have kS:=qsd (ai (cb14 kS.out.1 hb) (ai (cb14 kS.out.2.1 hb) (ai (cb14 kS.out.2.2.1 hb) (cb14 kS.out.2.2.2 hb))));clear hb hd hN C
      dsimp only
      refine hK.out _ _ (fun _=>kS.out) ?_
      clear hK K'
      try simp only [Act.put,List.setIfInBounds_toArray,List.set_cons_zero,List.set_cons_succ]
      refine until_two14 (i:=7) (j:=8) (by kernel_rfl) rfl rfl (fun K' hK=>?_) (fun K' hK=>?_)
      · skip
        go_simp
        obtain ⟨g3,hg3⟩:∃ g,g=u2.heap.size:=⟨_,rfl⟩;obtain ⟨V3,hV3⟩:∃ V,V=u2.alloc (Obj.cells #[.bool false,.slice none 0 0,.int .i64 0] 37):=⟨_,rfl⟩;have hb:Below u2.heap.size u2 V3:=by rw [hV3];exact below_alloc _ _
        have hZ:Lo V3 g3 o00:=by rw [hV3,hg3];exact Lo.zero _
        have BD:=qsd (ai (BD.out.1.below hb) (ai (BD.out.2.1.below hb) (ai (BD.out.2.2.below hb) (ai hZ (show w.heap.size+2<g3 by rw [hg3];exact BD.out.1.z0.lt)))))
        have kS:=qsd (ai (cb14 kS.out.1 hb) (ai (cb14 kS.out.2.1 hb) (ai (cb14 kS.out.2.2.1 hb) (cb14 kS.out.2.2.2 hb))));have HV:=(qsd (ai hV3 hg3));clear hZ hb hV3 hg3;refine hK.out _ _ (fun _=>by rw [←HV.out.1];exact kS.out) ?_
        clear hK K';rw [←HV.out.1,←HV.out.2];clear HV
        try simp only [Act.put,List.setIfInBounds_toArray,List.set_cons_zero,List.set_cons_succ]
        refine until_one (i:=8) (by kernel_rfl) rfl (fun K' hK=>?_)
        go_simp
        obtain ⟨g4,hg4⟩:∃ g,g=V3.heap.size:=⟨_,rfl⟩;obtain ⟨V4,hV4⟩:∃ V,V=V3.alloc (Obj.cells #[.bool false,.slice none 0 0,.int .i64 0] 37):=⟨_,rfl⟩;have hb:Below V3.heap.size V3 V4:=by rw [hV4];exact below_alloc _ _
        have hZ:Lo V4 g4 o00:=by rw [hV4,hg4];exact Lo.zero _
        have BD:=qsd (ai (BD.out.1.below hb) (ai (BD.out.2.1.below hb) (ai (BD.out.2.2.1.below hb) (ai (BD.out.2.2.2.1.below hb) (ai BD.out.2.2.2.2 (ai hZ (ai (show w.heap.size+2<g4 by rw [hg4];exact BD.out.1.z0.lt) (show g3<g4 by rw [hg4];exact BD.out.2.2.2.1.lt))))))))
        have kS:=qsd (ai (cb14 kS.out.1 hb) (ai (cb14 kS.out.2.1 hb) (ai (cb14 kS.out.2.2.1 hb) (cb14 kS.out.2.2.2 hb))));have HV:=(qsd (ai hV4 hg4));clear hZ hb hV4 hg4;refine hK.out _ _ (fun _=>by rw [←HV.out.1];exact kS.out) ?_
        clear hK K';rw [←HV.out.1,←HV.out.2];clear HV
        try simp only [Act.put,List.setIfInBounds_toArray,List.set_cons_zero,List.set_cons_succ]
        have BE:=qsd (ai (BD.out.2.2.2.1.set BD.out.2.1) (ai (BD.out.2.2.2.2.2.1.other BD.out.2.2.2.1 (Nat.ne_of_gt BD.out.2.2.2.2.2.2.2) (.bool (dN oN)) (.slice a1 (ws (dX oN)).length c1) (.int .i64 (dE oN))) (ai (BD.out.1.other BD.out.2.2.2.1 BD.out.2.2.2.2.1 HL.out (.bool (dN oN)) (.slice a1 (ws (dX oN)).length c1) (.int .i64 (dE oN))) (ai (BD.out.2.2.2.1.nt14 BD.out.2.2.1 (.bool (dN oN)) (.slice a1 (ws (dX oN)).length c1) (.int .i64 (dE oN))) (ai BD.out.2.2.2.2.1 (ai BD.out.2.2.2.2.2.2.1 (Nat.ne_of_lt BD.out.2.2.2.2.2.2.2)))))));obtain ⟨Y1,hY1⟩:∃ V,V=st3 V4 g3 (.bool (dN oN)) (.slice a1 (ws (dX oN)).length c1) (.int .i64 (dE oN)):=⟨_,rfl⟩;rw [←hY1] at BE;unfold st3 at hY1;obtain ⟨zp,zq,DZ,MZ⟩:=BD.out.2.2.2.1;obtain ⟨z0,z1,z2,zf0,zf1,zf2⟩:=DZ.facts;clear DZ MZ;refine until_one (i:=9) (by kernel_rfl) rfl (fun K' hK=>?_)
        go_simp
        refine hK.out _ _ (fun h=>absurd h (by decide)) ?_
        clear hK K' z0 z1 z2 zf0 zf1 zf2 kS BD;rw [←hY1];clear hY1;obtain ⟨zp,zq,DZ,MZ⟩:=BE.out.2.1;obtain ⟨z0,z1,z2,zf0,zf1,zf2⟩:=DZ.facts;clear DZ MZ;refine until_one (i:=10) (by kernel_rfl) rfl (fun K' hK=>?_)
        go_simp
        refine hK.out _ _ (fun h=>absurd h (by decide)) ?_
        clear hK K' z0 z1 z2 zf0 zf1 zf2;refine until_done (by kernel_rfl) ?_ _
        go_wp2_with fail
        go_meet
        case rel=>exact ⟨g3,g4,rfl,rfl,BE.out.1.other BE.out.2.1 BE.out.2.2.2.2.2.2 _ _ _,BE.out.2.1.set BE.out.2.2.2.1,BE.out.2.2.1.other BE.out.2.1 BE.out.2.2.2.2.2.1 HL.out _ _ _⟩
      · skip
        go_simp
        obtain ⟨g5,hg5⟩:∃ g,g=u2.heap.size:=⟨_,rfl⟩;obtain ⟨V5,hV5⟩:∃ V,V=u2.alloc (Obj.cells #[.bool false,.slice none 0 0,.int .i64 0] 37):=⟨_,rfl⟩;have hb:Below u2.heap.size u2 V5:=by rw [hV5];exact below_alloc _ _
        have hZ:Lo V5 g5 o00:=by rw [hV5,hg5];exact Lo.zero _
        have BD:=qsd (ai (BD.out.1.below hb) (ai (BD.out.2.1.below hb) (ai (BD.out.2.2.below hb) (ai hZ (show w.heap.size+2<g5 by rw [hg5];exact BD.out.1.z0.lt)))))
        have kS:=qsd (ai (cb14 kS.out.1 hb) (ai (cb14 kS.out.2.1 hb) (ai (cb14 kS.out.2.2.1 hb) (cb14 kS.out.2.2.2 hb))));have HV:=(qsd (ai hV5 hg5));clear hZ hb hV5 hg5;refine hK.out _ _ (fun _=>by rw [←HV.out.1];exact kS.out) ?_
        clear hK K';rw [←HV.out.1,←HV.out.2];clear HV
        try simp only [Act.put,List.setIfInBounds_toArray,List.set_cons_zero,List.set_cons_succ]
        refine until_one (i:=7) (by kernel_rfl) rfl (fun K' hK=>?_)
        go_simp
        obtain ⟨g6,hg6⟩:∃ g,g=V5.heap.size:=⟨_,rfl⟩;obtain ⟨V6,hV6⟩:∃ V,V=V5.alloc (Obj.cells #[.bool false,.slice none 0 0,.int .i64 0] 37):=⟨_,rfl⟩;have hb:Below V5.heap.size V5 V6:=by rw [hV6];exact below_alloc _ _
        have hZ:Lo V6 g6 o00:=by rw [hV6,hg6];exact Lo.zero _
        have BD:=qsd (ai (BD.out.1.below hb) (ai (BD.out.2.1.below hb) (ai (BD.out.2.2.1.below hb) (ai (BD.out.2.2.2.1.below hb) (ai BD.out.2.2.2.2 (ai hZ (ai (show w.heap.size+2<g6 by rw [hg6];exact BD.out.1.z0.lt) (show g5<g6 by rw [hg6];exact BD.out.2.2.2.1.lt))))))))
        have kS:=qsd (ai (cb14 kS.out.1 hb) (ai (cb14 kS.out.2.1 hb) (ai (cb14 kS.out.2.2.1 hb) (cb14 kS.out.2.2.2 hb))));have HV:=(qsd (ai hV6 hg6));clear hZ hb hV6 hg6;refine hK.out _ _ (fun _=>by rw [←HV.out.1];exact kS.out) ?_
        clear hK K';rw [←HV.out.1,←HV.out.2];clear HV
        try simp only [Act.put,List.setIfInBounds_toArray,List.set_cons_zero,List.set_cons_succ]
        have BE:=qsd (ai (BD.out.2.2.2.2.2.1.set BD.out.2.1) (ai (BD.out.2.2.2.1.other BD.out.2.2.2.2.2.1 (Nat.ne_of_lt BD.out.2.2.2.2.2.2.2) (.bool (dN oN)) (.slice a1 (ws (dX oN)).length c1) (.int .i64 (dE oN))) (ai (BD.out.1.other BD.out.2.2.2.2.2.1 BD.out.2.2.2.2.2.2.1 HL.out (.bool (dN oN)) (.slice a1 (ws (dX oN)).length c1) (.int .i64 (dE oN))) (ai (BD.out.2.2.2.2.2.1.nt14 BD.out.2.2.1 (.bool (dN oN)) (.slice a1 (ws (dX oN)).length c1) (.int .i64 (dE oN))) (ai BD.out.2.2.2.2.2.2.1 (ai BD.out.2.2.2.2.1 (Nat.ne_of_gt BD.out.2.2.2.2.2.2.2)))))));obtain ⟨Y1,hY1⟩:∃ V,V=st3 V6 g6 (.bool (dN oN)) (.slice a1 (ws (dX oN)).length c1) (.int .i64 (dE oN)):=⟨_,rfl⟩;rw [←hY1] at BE;unfold st3 at hY1;obtain ⟨zp,zq,DZ,MZ⟩:=BD.out.2.2.2.2.2.1;obtain ⟨z0,z1,z2,zf0,zf1,zf2⟩:=DZ.facts;clear DZ MZ;refine until_one (i:=9) (by kernel_rfl) rfl (fun K' hK=>?_)
        go_simp
        refine hK.out _ _ (fun h=>absurd h (by decide)) ?_
        clear hK K' z0 z1 z2 zf0 zf1 zf2 kS BD;rw [←hY1];clear hY1;obtain ⟨zp,zq,DZ,MZ⟩:=BE.out.2.1;obtain ⟨z0,z1,z2,zf0,zf1,zf2⟩:=DZ.facts;clear DZ MZ;refine until_one (i:=10) (by kernel_rfl) rfl (fun K' hK=>?_)
        go_simp
        refine hK.out _ _ (fun h=>absurd h (by decide)) ?_
        clear hK K' z0 z1 z2 zf0 zf1 zf2;refine until_done (by kernel_rfl) ?_ _
        go_wp2_with fail
        go_meet
        case rel=>exact ⟨g6,g5,rfl,rfl,BE.out.1.other BE.out.2.1 BE.out.2.2.2.2.2.2 _ _ _,BE.out.2.1.set BE.out.2.2.2.1,BE.out.2.2.1.other BE.out.2.1 BE.out.2.2.2.2.2.1 HL.out _ _ _⟩
    · skip
      go_simp
      obtain ⟨g7,hg7⟩:∃ g,g=u1.heap.size:=⟨_,rfl⟩;obtain ⟨V7,hV7⟩:∃ V,V=u1.alloc (Obj.cells #[.bool false,.slice none 0 0,.int .i64 0] 37):=⟨_,rfl⟩;have hb:Below u1.heap.size u1 V7:=by rw [hV7];exact below_alloc _ _
      have hZ:Lo V7 g7 o00:=by rw [hV7,hg7];exact Lo.zero _
      have BD:=qsd (ai (BD.out.1.below hb) (ai (BD.out.2.below hb) (ai hZ (show w.heap.size+2<g7 by rw [hg7];exact BD.out.1.z0.lt))))
      have kS:=qsd (ai (cb14 kS.out.1 hb) (ai (cb14 kS.out.2.1 hb) (ai (cb14 kS.out.2.2.1 hb) (cb14 kS.out.2.2.2 hb))));have HV:=(qsd (ai hV7 hg7));clear hZ hb hV7 hg7;refine hK.out _ _ (fun _=>by rw [←HV.out.1];exact kS.out) ?_
      clear hK K';rw [←HV.out.1,←HV.out.2];clear HV
      try simp only [Act.put,List.setIfInBounds_toArray,List.set_cons_zero,List.set_cons_succ]
      refine until_two14 (i:=6) (j:=8) (by kernel_rfl) rfl rfl (fun K' hK=>?_) (fun K' hK=>?_)
      · skip
        have C:=hid (HNg.out V7 ax cx (HT.out.belows BD.out.1.b) BD.out.1.nt)
        go_simp
        refine C.out.mono ?_;rintro r u8 ⟨hd,hb⟩;obtain ⟨a8,c8,rfl,hN⟩:=hd.shp14;have BD:=qsd (ai (BD.out.1.below hb) (ai (BD.out.2.1.below hb) (ai (BD.out.2.2.1.below hb) (ai BD.out.2.2.2 hN))));have kS:=qsd (ai (cb14 kS.out.1 hb) (ai (cb14 kS.out.2.1 hb) (ai (cb14 kS.out.2.2.1 hb) (cb14 kS.out.2.2.2 hb))));clear hb hd hN C
        dsimp only
        refine hK.out _ _ (fun _=>kS.out) ?_
        clear hK K'
        try simp only [Act.put,List.setIfInBounds_toArray,List.set_cons_zero,List.set_cons_succ]
        refine until_one (i:=8) (by kernel_rfl) rfl (fun K' hK=>?_)
        go_simp
        obtain ⟨g9,hg9⟩:∃ g,g=u8.heap.size:=⟨_,rfl⟩;obtain ⟨V9,hV9⟩:∃ V,V=u8.alloc (Obj.cells #[.bool false,.slice none 0 0,.int .i64 0] 37):=⟨_,rfl⟩;have hb:Below u8.heap.size u8 V9:=by rw [hV9];exact below_alloc _ _
        have hZ:Lo V9 g9 o00:=by rw [hV9,hg9];exact Lo.zero _
        have BD:=qsd (ai (BD.out.1.below hb) (ai (BD.out.2.1.below hb) (ai (BD.out.2.2.1.below hb) (ai BD.out.2.2.2.1 (ai (BD.out.2.2.2.2.below hb) (ai hZ (ai (show w.heap.size+2<g9 by rw [hg9];exact BD.out.1.z0.lt) (show g7<g9 by rw [hg9];exact BD.out.2.2.1.lt))))))))
        have kS:=qsd (ai (cb14 kS.out.1 hb) (ai (cb14 kS.out.2.1 hb) (ai (cb14 kS.out.2.2.1 hb) (cb14 kS.out.2.2.2 hb))));have HV:=(qsd (ai hV9 hg9));clear hZ hb hV9 hg9;refine hK.out _ _ (fun _=>by rw [←HV.out.1];exact kS.out) ?_
        clear hK K';rw [←HV.out.1,←HV.out.2];clear HV
        try simp only [Act.put,List.setIfInBounds_toArray,List.set_cons_zero,List.set_cons_succ]
        have BE:=qsd (ai (BD.out.2.2.1.set BD.out.2.1) (ai (BD.out.2.2.2.2.2.1.other BD.out.2.2.1 (Nat.ne_of_gt BD.out.2.2.2.2.2.2.2) (.bool (dN oN)) (.slice a1 (ws (dX oN)).length c1) (.int .i64 (dE oN))) (ai (BD.out.1.other BD.out.2.2.1 BD.out.2.2.2.1 HL.out (.bool (dN oN)) (.slice a1 (ws (dX oN)).length c1) (.int .i64 (dE oN))) (ai (BD.out.2.2.1.nt14 BD.out.2.2.2.2.1 (.bool (dN oN)) (.slice a1 (ws (dX oN)).length c1) (.int .i64 (dE oN))) (ai BD.out.2.2.2.1 (ai BD.out.2.2.2.2.2.2.1 (Nat.ne_of_lt BD.out.2.2.2.2.2.2.2)))))));obtain ⟨Y1,hY1⟩:∃ V,V=st3 V9 g7 (.bool (dN oN)) (.slice a1 (ws (dX oN)).length c1) (.int .i64 (dE oN)):=⟨_,rfl⟩;rw [←hY1] at BE;unfold st3 at hY1;obtain ⟨zp,zq,DZ,MZ⟩:=BD.out.2.2.1;obtain ⟨z0,z1,z2,zf0,zf1,zf2⟩:=DZ.facts;clear DZ MZ;refine until_one (i:=9) (by kernel_rfl) rfl (fun K' hK=>?_)
        go_simp
        refine hK.out _ _ (fun h=>absurd h (by decide)) ?_
        clear hK K' z0 z1 z2 zf0 zf1 zf2 kS BD;rw [←hY1];clear hY1;obtain ⟨zp,zq,DZ,MZ⟩:=BE.out.2.1;obtain ⟨z0,z1,z2,zf0,zf1,zf2⟩:=DZ.facts;clear DZ MZ;refine until_one (i:=10) (by kernel_rfl) rfl (fun K' hK=>?_)
        go_simp
        refine hK.out _ _ (fun h=>absurd h (by decide)) ?_
        clear hK K' z0 z1 z2 zf0 zf1 zf2;refine until_done (by kernel_rfl) ?_ _
        go_wp2_with fail
        go_meet
        case rel=>exact ⟨g7,g9,rfl,rfl,BE.out.1.other BE.out.2.1 BE.out.2.2.2.2.2.2 _ _ _,BE.out.2.1.set BE.out.2.2.2.1,BE.out.2.2.1.other BE.out.2.1 BE.out.2.2.2.2.2.1 HL.out _ _ _⟩
      · skip
        go_simp
        obtain ⟨g10,hg10⟩:∃ g,g=V7.heap.size:=⟨_,rfl⟩;obtain ⟨V10,hV10⟩:∃ V,V=V7.alloc (Obj.cells #[.bool false,.slice none 0 0,.int .i64 0] 37):=⟨_,rfl⟩;have hb:Below V7.heap.size V7 V10:=by rw [hV10];exact below_alloc _ _
        have hZ:Lo V10 g10 o00:=by rw [hV10,hg10];exact Lo.zero _
        have BD:=qsd (ai (BD.out.1.below hb) (ai (BD.out.2.1.below hb) (ai (BD.out.2.2.1.below hb) (ai BD.out.2.2.2 (ai hZ (ai (show w.heap.size+2<g10 by rw [hg10];exact BD.out.1.z0.lt) (show g7<g10 by rw [hg10];exact BD.out.2.2.1.lt)))))))
        have kS:=qsd (ai (cb14 kS.out.1 hb) (ai (cb14 kS.out.2.1 hb) (ai (cb14 kS.out.2.2.1 hb) (cb14 kS.out.2.2.2 hb))));have HV:=(qsd (ai hV10 hg10));clear hZ hb hV10 hg10;refine hK.out _ _ (fun _=>by rw [←HV.out.1];exact kS.out) ?_
        clear hK K';rw [←HV.out.1,←HV.out.2];clear HV
        try simp only [Act.put,List.setIfInBounds_toArray,List.set_cons_zero,List.set_cons_succ]
        refine until_one (i:=6) (by kernel_rfl) rfl (fun K' hK=>?_)
        have C:=hid (HNg.out V10 ax cx (HT.out.belows BD.out.1.b) BD.out.1.nt)
        go_simp
        refine C.out.mono ?_;rintro r u11 ⟨hd,hb⟩;obtain ⟨a11,c11,rfl,hN⟩:=hd.shp14;have BD:=qsd (ai (BD.out.1.below hb) (ai (BD.out.2.1.below hb) (ai (BD.out.2.2.1.below hb) (ai BD.out.2.2.2.1 (ai (BD.out.2.2.2.2.1.below hb) (ai BD.out.2.2.2.2.2.1 (ai BD.out.2.2.2.2.2.2 hN)))))));have kS:=qsd (ai (cb14 kS.out.1 hb) (ai (cb14 kS.out.2.1 hb) (ai (cb14 kS.out.2.2.1 hb) (cb14 kS.out.2.2.2 hb))));clear hb hd hN C
        dsimp only
        refine hK.out _ _ (fun _=>kS.out) ?_
        clear hK K'
        try simp only [Act.put,List.setIfInBounds_toArray,List.set_cons_zero,List.set_cons_succ]
        have BE:=qsd (ai (BD.out.2.2.1.set BD.out.2.1) (ai (BD.out.2.2.2.2.1.other BD.out.2.2.1 (Nat.ne_of_gt BD.out.2.2.2.2.2.2.1) (.bool (dN oN)) (.slice a1 (ws (dX oN)).length c1) (.int .i64 (dE oN))) (ai (BD.out.1.other BD.out.2.2.1 BD.out.2.2.2.1 HL.out (.bool (dN oN)) (.slice a1 (ws (dX oN)).length c1) (.int .i64 (dE oN))) (ai (BD.out.2.2.1.nt14 BD.out.2.2.2.2.2.2.2 (.bool (dN oN)) (.slice a1 (ws (dX oN)).length c1) (.int .i64 (dE oN))) (ai BD.out.2.2.2.1 (ai BD.out.2.2.2.2.2.1 (Nat.ne_of_lt BD.out.2.2.2.2.2.2.1)))))));obtain ⟨Y1,hY1⟩:∃ V,V=st3 u11 g7 (.bool (dN oN)) (.slice a1 (ws (dX oN)).length c1) (.int .i64 (dE oN)):=⟨_,rfl⟩;rw [←hY1] at BE;unfold st3 at hY1;obtain ⟨zp,zq,DZ,MZ⟩:=BD.out.2.2.1;obtain ⟨z0,z1,z2,zf0,zf1,zf2⟩:=DZ.facts;clear DZ MZ;refine until_one (i:=9) (by kernel_rfl) rfl (fun K' hK=>?_)
        go_simp
        refine hK.out _ _ (fun h=>absurd h (by decide)) ?_
        clear hK K' z0 z1 z2 zf0 zf1 zf2 kS BD;rw [←hY1];clear hY1;obtain ⟨zp,zq,DZ,MZ⟩:=BE.out.2.1;obtain ⟨z0,z1,z2,zf0,zf1,zf2⟩:=DZ.facts;clear DZ MZ;refine until_one (i:=10) (by kernel_rfl) rfl (fun K' hK=>?_)
        go_simp
        refine hK.out _ _ (fun h=>absurd h (by decide)) ?_
        clear hK K' z0 z1 z2 zf0 zf1 zf2;refine until_done (by kernel_rfl) ?_ _
        go_wp2_with fail
        go_meet
        case rel=>exact ⟨g7,g10,rfl,rfl,BE.out.1.other BE.out.2.1 BE.out.2.2.2.2.2.2 _ _ _,BE.out.2.1.set BE.out.2.2.2.1,BE.out.2.2.1.other BE.out.2.1 BE.out.2.2.2.2.2.1 HL.out _ _ _⟩
    · skip
      go_simp
      obtain ⟨g12,hg12⟩:∃ g,g=u1.heap.size:=⟨_,rfl⟩;obtain ⟨V12,hV12⟩:∃ V,V=u1.alloc (Obj.cells #[.bool false,.slice none 0 0,.int .i64 0] 37):=⟨_,rfl⟩;have hb:Below u1.heap.size u1 V12:=by rw [hV12];exact below_alloc _ _
      have hZ:Lo V12 g12 o00:=by rw [hV12,hg12];exact Lo.zero _
      have BD:=qsd (ai (BD.out.1.below hb) (ai (BD.out.2.below hb) (ai hZ (show w.heap.size+2<g12 by rw [hg12];exact BD.out.1.z0.lt))))
      have kS:=qsd (ai (cb14 kS.out.1 hb) (ai (cb14 kS.out.2.1 hb) (ai (cb14 kS.out.2.2.1 hb) (cb14 kS.out.2.2.2 hb))));have HV:=(qsd (ai hV12 hg12));clear hZ hb hV12 hg12;refine hK.out _ _ (fun _=>by rw [←HV.out.1];exact kS.out) ?_
      clear hK K';rw [←HV.out.1,←HV.out.2];clear HV
      try simp only [Act.put,List.setIfInBounds_toArray,List.set_cons_zero,List.set_cons_succ]
      refine until_two14 (i:=6) (j:=7) (by kernel_rfl) rfl rfl (fun K' hK=>?_) (fun K' hK=>?_)
      · skip
        have C:=hid (HNg.out V12 ax cx (HT.out.belows BD.out.1.b) BD.out.1.nt)
        go_simp
        refine C.out.mono ?_;rintro r u13 ⟨hd,hb⟩;obtain ⟨a13,c13,rfl,hN⟩:=hd.shp14;have BD:=qsd (ai (BD.out.1.below hb) (ai (BD.out.2.1.below hb) (ai (BD.out.2.2.1.below hb) (ai BD.out.2.2.2 hN))));have kS:=qsd (ai (cb14 kS.out.1 hb) (ai (cb14 kS.out.2.1 hb) (ai (cb14 kS.out.2.2.1 hb) (cb14 kS.out.2.2.2 hb))));clear hb hd hN C
        dsimp only
        refine hK.out _ _ (fun _=>kS.out) ?_
        clear hK K'
        try simp only [Act.put,List.setIfInBounds_toArray,List.set_cons_zero,List.set_cons_succ]
        refine until_one (i:=7) (by kernel_rfl) rfl (fun K' hK=>?_)
        go_simp
        obtain ⟨g14,hg14⟩:∃ g,g=u13.heap.size:=⟨_,rfl⟩;obtain ⟨V14,hV14⟩:∃ V,V=u13.alloc (Obj.cells #[.bool false,.slice none 0 0,.int .i64 0] 37):=⟨_,rfl⟩;have hb:Below u13.heap.size u13 V14:=by rw [hV14];exact below_alloc _ _
        have hZ:Lo V14 g14 o00:=by rw [hV14,hg14];exact Lo.zero _
        have BD:=qsd (ai (BD.out.1.below hb) (ai (BD.out.2.1.below hb) (ai (BD.out.2.2.1.below hb) (ai BD.out.2.2.2.1 (ai (BD.out.2.2.2.2.below hb) (ai hZ (ai (show w.heap.size+2<g14 by rw [hg14];exact BD.out.1.z0.lt) (show g12<g14 by rw [hg14];exact BD.out.2.2.1.lt))))))))
        have kS:=qsd (ai (cb14 kS.out.1 hb) (ai (cb14 kS.out.2.1 hb) (ai (cb14 kS.out.2.2.1 hb) (cb14 kS.out.2.2.2 hb))));have HV:=(qsd (ai hV14 hg14));clear hZ hb hV14 hg14;refine hK.out _ _ (fun _=>by rw [←HV.out.1];exact kS.out) ?_
        clear hK K';rw [←HV.out.1,←HV.out.2];clear HV
        try simp only [Act.put,List.setIfInBounds_toArray,List.set_cons_zero,List.set_cons_succ]
        have BE:=qsd (ai (BD.out.2.2.2.2.2.1.set BD.out.2.1) (ai (BD.out.2.2.1.other BD.out.2.2.2.2.2.1 (Nat.ne_of_lt BD.out.2.2.2.2.2.2.2) (.bool (dN oN)) (.slice a1 (ws (dX oN)).length c1) (.int .i64 (dE oN))) (ai (BD.out.1.other BD.out.2.2.2.2.2.1 BD.out.2.2.2.2.2.2.1 HL.out (.bool (dN oN)) (.slice a1 (ws (dX oN)).length c1) (.int .i64 (dE oN))) (ai (BD.out.2.2.2.2.2.1.nt14 BD.out.2.2.2.2.1 (.bool (dN oN)) (.slice a1 (ws (dX oN)).length c1) (.int .i64 (dE oN))) (ai BD.out.2.2.2.2.2.2.1 (ai BD.out.2.2.2.1 (Nat.ne_of_gt BD.out.2.2.2.2.2.2.2)))))));obtain ⟨Y1,hY1⟩:∃ V,V=st3 V14 g14 (.bool (dN oN)) (.slice a1 (ws (dX oN)).length c1) (.int .i64 (dE oN)):=⟨_,rfl⟩;rw [←hY1] at BE;unfold st3 at hY1;obtain ⟨zp,zq,DZ,MZ⟩:=BD.out.2.2.2.2.2.1;obtain ⟨z0,z1,z2,zf0,zf1,zf2⟩:=DZ.facts;clear DZ MZ;refine until_one (i:=9) (by kernel_rfl) rfl (fun K' hK=>?_)
        go_simp
        refine hK.out _ _ (fun h=>absurd h (by decide)) ?_
        clear hK K' z0 z1 z2 zf0 zf1 zf2 kS BD;rw [←hY1];clear hY1;obtain ⟨zp,zq,DZ,MZ⟩:=BE.out.2.1;obtain ⟨z0,z1,z2,zf0,zf1,zf2⟩:=DZ.facts;clear DZ MZ;refine until_one (i:=10) (by kernel_rfl) rfl (fun K' hK=>?_)
        go_simp
        refine hK.out _ _ (fun h=>absurd h (by decide)) ?_
        clear hK K' z0 z1 z2 zf0 zf1 zf2;refine until_done (by kernel_rfl) ?_ _
        go_wp2_with fail
        go_meet
        case rel=>exact ⟨g14,g12,rfl,rfl,BE.out.1.other BE.out.2.1 BE.out.2.2.2.2.2.2 _ _ _,BE.out.2.1.set BE.out.2.2.2.1,BE.out.2.2.1.other BE.out.2.1 BE.out.2.2.2.2.2.1 HL.out _ _ _⟩
      · skip
        go_simp
        obtain ⟨g15,hg15⟩:∃ g,g=V12.heap.size:=⟨_,rfl⟩;obtain ⟨V15,hV15⟩:∃ V,V=V12.alloc (Obj.cells #[.bool false,.slice none 0 0,.int .i64 0] 37):=⟨_,rfl⟩;have hb:Below V12.heap.size V12 V15:=by rw [hV15];exact below_alloc _ _
        have hZ:Lo V15 g15 o00:=by rw [hV15,hg15];exact Lo.zero _
        have BD:=qsd (ai (BD.out.1.below hb) (ai (BD.out.2.1.below hb) (ai (BD.out.2.2.1.below hb) (ai BD.out.2.2.2 (ai hZ (ai (show w.heap.size+2<g15 by rw [hg15];exact BD.out.1.z0.lt) (show g12<g15 by rw [hg15];exact BD.out.2.2.1.lt)))))))
        have kS:=qsd (ai (cb14 kS.out.1 hb) (ai (cb14 kS.out.2.1 hb) (ai (cb14 kS.out.2.2.1 hb) (cb14 kS.out.2.2.2 hb))));have HV:=(qsd (ai hV15 hg15));clear hZ hb hV15 hg15;refine hK.out _ _ (fun _=>by rw [←HV.out.1];exact kS.out) ?_
        clear hK K';rw [←HV.out.1,←HV.out.2];clear HV
        try simp only [Act.put,List.setIfInBounds_toArray,List.set_cons_zero,List.set_cons_succ]
        refine until_one (i:=6) (by kernel_rfl) rfl (fun K' hK=>?_)
        have C:=hid (HNg.out V15 ax cx (HT.out.belows BD.out.1.b) BD.out.1.nt)
        go_simp
        refine C.out.mono ?_;rintro r u16 ⟨hd,hb⟩;obtain ⟨a16,c16,rfl,hN⟩:=hd.shp14;have BD:=qsd (ai (BD.out.1.below hb) (ai (BD.out.2.1.below hb) (ai (BD.out.2.2.1.below hb) (ai BD.out.2.2.2.1 (ai (BD.out.2.2.2.2.1.below hb) (ai BD.out.2.2.2.2.2.1 (ai BD.out.2.2.2.2.2.2 hN)))))));have kS:=qsd (ai (cb14 kS.out.1 hb) (ai (cb14 kS.out.2.1 hb) (ai (cb14 kS.out.2.2.1 hb) (cb14 kS.out.2.2.2 hb))));clear hb hd hN C
        dsimp only
        refine hK.out _ _ (fun _=>kS.out) ?_
        clear hK K'
        try simp only [Act.put,List.setIfInBounds_toArray,List.set_cons_zero,List.set_cons_succ]
        have BE:=qsd (ai (BD.out.2.2.2.2.1.set BD.out.2.1) (ai (BD.out.2.2.1.other BD.out.2.2.2.2.1 (Nat.ne_of_lt BD.out.2.2.2.2.2.2.1) (.bool (dN oN)) (.slice a1 (ws (dX oN)).length c1) (.int .i64 (dE oN))) (ai (BD.out.1.other BD.out.2.2.2.2.1 BD.out.2.2.2.2.2.1 HL.out (.bool (dN oN)) (.slice a1 (ws (dX oN)).length c1) (.int .i64 (dE oN))) (ai (BD.out.2.2.2.2.1.nt14 BD.out.2.2.2.2.2.2.2 (.bool (dN oN)) (.slice a1 (ws (dX oN)).length c1) (.int .i64 (dE oN))) (ai BD.out.2.2.2.2.2.1 (ai BD.out.2.2.2.1 (Nat.ne_of_gt BD.out.2.2.2.2.2.2.1)))))));obtain ⟨Y1,hY1⟩:∃ V,V=st3 u16 g15 (.bool (dN oN)) (.slice a1 (ws (dX oN)).length c1) (.int .i64 (dE oN)):=⟨_,rfl⟩;rw [←hY1] at BE;unfold st3 at hY1;obtain ⟨zp,zq,DZ,MZ⟩:=BD.out.2.2.2.2.1;obtain ⟨z0,z1,z2,zf0,zf1,zf2⟩:=DZ.facts;clear DZ MZ;refine until_one (i:=9) (by kernel_rfl) rfl (fun K' hK=>?_)
        go_simp
        refine hK.out _ _ (fun h=>absurd h (by decide)) ?_
        clear hK K' z0 z1 z2 zf0 zf1 zf2 kS BD;rw [←hY1];clear hY1;obtain ⟨zp,zq,DZ,MZ⟩:=BE.out.2.1;obtain ⟨z0,z1,z2,zf0,zf1,zf2⟩:=DZ.facts;clear DZ MZ;refine until_one (i:=10) (by kernel_rfl) rfl (fun K' hK=>?_)
        go_simp
        refine hK.out _ _ (fun h=>absurd h (by decide)) ?_
        clear hK K' z0 z1 z2 zf0 zf1 zf2;refine until_done (by kernel_rfl) ?_ _
        go_wp2_with fail
        go_meet
        case rel=>exact ⟨g15,g12,rfl,rfl,BE.out.1.other BE.out.2.1 BE.out.2.2.2.2.2.2 _ _ _,BE.out.2.1.set BE.out.2.2.2.1,BE.out.2.2.1.other BE.out.2.1 BE.out.2.2.2.2.2.1 HL.out _ _ _⟩
  · skip
    go_simp
    obtain ⟨g17,hg17⟩:∃ g,g=Wd.heap.size:=⟨_,rfl⟩;obtain ⟨V17,hV17⟩:∃ V,V=Wd.alloc (Obj.cells #[.bool false,.slice none 0 0,.int .i64 0] 37):=⟨_,rfl⟩;have hb:Below Wd.heap.size Wd V17:=by rw [hV17];exact below_alloc _ _
    have hZ:Lo V17 g17 o00:=by rw [hV17,hg17];exact Lo.zero _
    have BD:=qsd (ai (BD.out.below hb) (ai hZ (show w.heap.size+2<g17 by rw [hg17];exact BD.out.z0.lt)))
    have kS:=qsd (ai (cb14 kS.out.1 hb) (ai (cb14 kS.out.2.1 hb) (ai (cb14 kS.out.2.2.1 hb) (cb14 kS.out.2.2.2 hb))));have HV:=(qsd (ai hV17 hg17));clear hZ hb hV17 hg17;refine hK.out _ _ (fun _=>by rw [←HV.out.1];exact kS.out) ?_
    clear hK K';rw [←HV.out.1,←HV.out.2];clear HV
    try simp only [Act.put,List.setIfInBounds_toArray,List.set_cons_zero,List.set_cons_succ]
    refine until_two14 (i:=3) (j:=8) (by kernel_rfl) rfl rfl (fun K' hK=>?_) (fun K' hK=>?_)
    · skip
      have C:=hid (HI.out V17 (HT.out.belows BD.out.1.b))
      go_simp
      refine C.out.mono ?_;rintro r u18 ⟨hd,hb⟩;obtain ⟨a18,c18,rfl,hN⟩:=hd.shp14;have BD:=qsd (ai (BD.out.1.below hb) (ai (BD.out.2.1.below hb) (ai BD.out.2.2 hN)));have kS:=qsd (ai (cb14 kS.out.1 hb) (ai (cb14 kS.out.2.1 hb) (ai (cb14 kS.out.2.2.1 hb) (cb14 kS.out.2.2.2 hb))));clear hb hd hN C
      dsimp only
      refine hK.out _ _ (fun _=>kS.out) ?_
      clear hK K'
      try simp only [Act.put,List.setIfInBounds_toArray,List.set_cons_zero,List.set_cons_succ]
      refine until_two14 (i:=6) (j:=8) (by kernel_rfl) rfl rfl (fun K' hK=>?_) (fun K' hK=>?_)
      · skip
        have C:=hid (HNg.out u18 ax cx (HT.out.belows BD.out.1.b) BD.out.1.nt)
        go_simp
        refine C.out.mono ?_;rintro r u19 ⟨hd,hb⟩;obtain ⟨a19,c19,rfl,hN⟩:=hd.shp14;have BD:=qsd (ai (BD.out.1.below hb) (ai (BD.out.2.1.below hb) (ai BD.out.2.2.1 (ai (BD.out.2.2.2.below hb) hN))));have kS:=qsd (ai (cb14 kS.out.1 hb) (ai (cb14 kS.out.2.1 hb) (ai (cb14 kS.out.2.2.1 hb) (cb14 kS.out.2.2.2 hb))));clear hb hd hN C
        dsimp only
        refine hK.out _ _ (fun _=>kS.out) ?_
        clear hK K'
        try simp only [Act.put,List.setIfInBounds_toArray,List.set_cons_zero,List.set_cons_succ]
        refine until_one (i:=8) (by kernel_rfl) rfl (fun K' hK=>?_)
        go_simp
        obtain ⟨g20,hg20⟩:∃ g,g=u19.heap.size:=⟨_,rfl⟩;obtain ⟨V20,hV20⟩:∃ V,V=u19.alloc (Obj.cells #[.bool false,.slice none 0 0,.int .i64 0] 37):=⟨_,rfl⟩;have hb:Below u19.heap.size u19 V20:=by rw [hV20];exact below_alloc _ _
        have hZ:Lo V20 g20 o00:=by rw [hV20,hg20];exact Lo.zero _
        have BD:=qsd (ai (BD.out.1.below hb) (ai (BD.out.2.1.below hb) (ai BD.out.2.2.1 (ai (BD.out.2.2.2.1.below hb) (ai (BD.out.2.2.2.2.below hb) (ai hZ (ai (show w.heap.size+2<g20 by rw [hg20];exact BD.out.1.z0.lt) (show g17<g20 by rw [hg20];exact BD.out.2.1.lt))))))))
        have kS:=qsd (ai (cb14 kS.out.1 hb) (ai (cb14 kS.out.2.1 hb) (ai (cb14 kS.out.2.2.1 hb) (cb14 kS.out.2.2.2 hb))));have HV:=(qsd (ai hV20 hg20));clear hZ hb hV20 hg20;refine hK.out _ _ (fun _=>by rw [←HV.out.1];exact kS.out) ?_
        clear hK K';rw [←HV.out.1,←HV.out.2];clear HV
        try simp only [Act.put,List.setIfInBounds_toArray,List.set_cons_zero,List.set_cons_succ]
        have BE:=qsd (ai (BD.out.2.1.set BD.out.2.2.2.1) (ai (BD.out.2.2.2.2.2.1.other BD.out.2.1 (Nat.ne_of_gt BD.out.2.2.2.2.2.2.2) (.bool (dN oN)) (.slice a18 (ws (dX oN)).length c18) (.int .i64 (dE oN))) (ai (BD.out.1.other BD.out.2.1 BD.out.2.2.1 HL.out (.bool (dN oN)) (.slice a18 (ws (dX oN)).length c18) (.int .i64 (dE oN))) (ai (BD.out.2.1.nt14 BD.out.2.2.2.2.1 (.bool (dN oN)) (.slice a18 (ws (dX oN)).length c18) (.int .i64 (dE oN))) (ai BD.out.2.2.1 (ai BD.out.2.2.2.2.2.2.1 (Nat.ne_of_lt BD.out.2.2.2.2.2.2.2)))))));obtain ⟨Y1,hY1⟩:∃ V,V=st3 V20 g17 (.bool (dN oN)) (.slice a18 (ws (dX oN)).length c18) (.int .i64 (dE oN)):=⟨_,rfl⟩;rw [←hY1] at BE;unfold st3 at hY1;obtain ⟨zp,zq,DZ,MZ⟩:=BD.out.2.1;obtain ⟨z0,z1,z2,zf0,zf1,zf2⟩:=DZ.facts;clear DZ MZ;refine until_one (i:=9) (by kernel_rfl) rfl (fun K' hK=>?_)
        go_simp
        refine hK.out _ _ (fun h=>absurd h (by decide)) ?_
        clear hK K' z0 z1 z2 zf0 zf1 zf2 kS BD;rw [←hY1];clear hY1;obtain ⟨zp,zq,DZ,MZ⟩:=BE.out.2.1;obtain ⟨z0,z1,z2,zf0,zf1,zf2⟩:=DZ.facts;clear DZ MZ;refine until_one (i:=10) (by kernel_rfl) rfl (fun K' hK=>?_)
        go_simp
        refine hK.out _ _ (fun h=>absurd h (by decide)) ?_
        clear hK K' z0 z1 z2 zf0 zf1 zf2;refine until_done (by kernel_rfl) ?_ _
        go_wp2_with fail
        go_meet
        case rel=>exact ⟨g17,g20,rfl,rfl,BE.out.1.other BE.out.2.1 BE.out.2.2.2.2.2.2 _ _ _,BE.out.2.1.set BE.out.2.2.2.1,BE.out.2.2.1.other BE.out.2.1 BE.out.2.2.2.2.2.1 HL.out _ _ _⟩
      · skip
        go_simp
        obtain ⟨g21,hg21⟩:∃ g,g=u18.heap.size:=⟨_,rfl⟩;obtain ⟨V21,hV21⟩:∃ V,V=u18.alloc (Obj.cells #[.bool false,.slice none 0 0,.int .i64 0] 37):=⟨_,rfl⟩;have hb:Below u18.heap.size u18 V21:=by rw [hV21];exact below_alloc _ _
        have hZ:Lo V21 g21 o00:=by rw [hV21,hg21];exact Lo.zero _
        have BD:=qsd (ai (BD.out.1.below hb) (ai (BD.out.2.1.below hb) (ai BD.out.2.2.1 (ai (BD.out.2.2.2.below hb) (ai hZ (ai (show w.heap.size+2<g21 by rw [hg21];exact BD.out.1.z0.lt) (show g17<g21 by rw [hg21];exact BD.out.2.1.lt)))))))
        have kS:=qsd (ai (cb14 kS.out.1 hb) (ai (cb14 kS.out.2.1 hb) (ai (cb14 kS.out.2.2.1 hb) (cb14 kS.out.2.2.2 hb))));have HV:=(qsd (ai hV21 hg21));clear hZ hb hV21 hg21;refine hK.out _ _ (fun _=>by rw [←HV.out.1];exact kS.out) ?_
        clear hK K';rw [←HV.out.1,←HV.out.2];clear HV
        try simp only [Act.put,List.setIfInBounds_toArray,List.set_cons_zero,List.set_cons_succ]
        refine until_one (i:=6) (by kernel_rfl) rfl (fun K' hK=>?_)
        have C:=hid (HNg.out V21 ax cx (HT.out.belows BD.out.1.b) BD.out.1.nt)
        go_simp
        refine C.out.mono ?_;rintro r u22 ⟨hd,hb⟩;obtain ⟨a22,c22,rfl,hN⟩:=hd.shp14;have BD:=qsd (ai (BD.out.1.below hb) (ai (BD.out.2.1.below hb) (ai BD.out.2.2.1 (ai (BD.out.2.2.2.1.below hb) (ai (BD.out.2.2.2.2.1.below hb) (ai BD.out.2.2.2.2.2.1 (ai BD.out.2.2.2.2.2.2 hN)))))));have kS:=qsd (ai (cb14 kS.out.1 hb) (ai (cb14 kS.out.2.1 hb) (ai (cb14 kS.out.2.2.1 hb) (cb14 kS.out.2.2.2 hb))));clear hb hd hN C
        dsimp only
        refine hK.out _ _ (fun _=>kS.out) ?_
        clear hK K'
        try simp only [Act.put,List.setIfInBounds_toArray,List.set_cons_zero,List.set_cons_succ]
        have BE:=qsd (ai (BD.out.2.1.set BD.out.2.2.2.1) (ai (BD.out.2.2.2.2.1.other BD.out.2.1 (Nat.ne_of_gt BD.out.2.2.2.2.2.2.1) (.bool (dN oN)) (.slice a18 (ws (dX oN)).length c18) (.int .i64 (dE oN))) (ai (BD.out.1.other BD.out.2.1 BD.out.2.2.1 HL.out (.bool (dN oN)) (.slice a18 (ws (dX oN)).length c18) (.int .i64 (dE oN))) (ai (BD.out.2.1.nt14 BD.out.2.2.2.2.2.2.2 (.bool (dN oN)) (.slice a18 (ws (dX oN)).length c18) (.int .i64 (dE oN))) (ai BD.out.2.2.1 (ai BD.out.2.2.2.2.2.1 (Nat.ne_of_lt BD.out.2.2.2.2.2.2.1)))))));obtain ⟨Y1,hY1⟩:∃ V,V=st3 u22 g17 (.bool (dN oN)) (.slice a18 (ws (dX oN)).length c18) (.int .i64 (dE oN)):=⟨_,rfl⟩;rw [←hY1] at BE;unfold st3 at hY1;obtain ⟨zp,zq,DZ,MZ⟩:=BD.out.2.1;obtain ⟨z0,z1,z2,zf0,zf1,zf2⟩:=DZ.facts;clear DZ MZ;refine until_one (i:=9) (by kernel_rfl) rfl (fun K' hK=>?_)
        go_simp
        refine hK.out _ _ (fun h=>absurd h (by decide)) ?_
        clear hK K' z0 z1 z2 zf0 zf1 zf2 kS BD;rw [←hY1];clear hY1;obtain ⟨zp,zq,DZ,MZ⟩:=BE.out.2.1;obtain ⟨z0,z1,z2,zf0,zf1,zf2⟩:=DZ.facts;clear DZ MZ;refine until_one (i:=10) (by kernel_rfl) rfl (fun K' hK=>?_)
        go_simp
        refine hK.out _ _ (fun h=>absurd h (by decide)) ?_
        clear hK K' z0 z1 z2 zf0 zf1 zf2;refine until_done (by kernel_rfl) ?_ _
        go_wp2_with fail
        go_meet
        case rel=>exact ⟨g17,g21,rfl,rfl,BE.out.1.other BE.out.2.1 BE.out.2.2.2.2.2.2 _ _ _,BE.out.2.1.set BE.out.2.2.2.1,BE.out.2.2.1.other BE.out.2.1 BE.out.2.2.2.2.2.1 HL.out _ _ _⟩
    · skip
      go_simp
      obtain ⟨g23,hg23⟩:∃ g,g=V17.heap.size:=⟨_,rfl⟩;obtain ⟨V23,hV23⟩:∃ V,V=V17.alloc (Obj.cells #[.bool false,.slice none 0 0,.int .i64 0] 37):=⟨_,rfl⟩;have hb:Below V17.heap.size V17 V23:=by rw [hV23];exact below_alloc _ _
      have hZ:Lo V23 g23 o00:=by rw [hV23,hg23];exact Lo.zero _
      have BD:=qsd (ai (BD.out.1.below hb) (ai (BD.out.2.1.below hb) (ai BD.out.2.2 (ai hZ (ai (show w.heap.size+2<g23 by rw [hg23];exact BD.out.1.z0.lt) (show g17<g23 by rw [hg23];exact BD.out.2.1.lt))))))
      have kS:=qsd (ai (cb14 kS.out.1 hb) (ai (cb14 kS.out.2.1 hb) (ai (cb14 kS.out.2.2.1 hb) (cb14 kS.out.2.2.2 hb))));have HV:=(qsd (ai hV23 hg23));clear hZ hb hV23 hg23;refine hK.out _ _ (fun _=>by rw [←HV.out.1];exact kS.out) ?_
      clear hK K';rw [←HV.out.1,←HV.out.2];clear HV
      try simp only [Act.put,List.setIfInBounds_toArray,List.set_cons_zero,List.set_cons_succ]
      refine until_one (i:=3) (by kernel_rfl) rfl (fun K' hK=>?_)
      have C:=hid (HI.out V23 (HT.out.belows BD.out.1.b))
      go_simp
      refine C.out.mono ?_;rintro r u24 ⟨hd,hb⟩;obtain ⟨a24,c24,rfl,hN⟩:=hd.shp14;have BD:=qsd (ai (BD.out.1.below hb) (ai (BD.out.2.1.below hb) (ai BD.out.2.2.1 (ai (BD.out.2.2.2.1.below hb) (ai BD.out.2.2.2.2.1 (ai BD.out.2.2.2.2.2 hN))))));have kS:=qsd (ai (cb14 kS.out.1 hb) (ai (cb14 kS.out.2.1 hb) (ai (cb14 kS.out.2.2.1 hb) (cb14 kS.out.2.2.2 hb))));clear hb hd hN C
      dsimp only
      refine hK.out _ _ (fun _=>kS.out) ?_
      clear hK K'
      try simp only [Act.put,List.setIfInBounds_toArray,List.set_cons_zero,List.set_cons_succ]
      refine until_one (i:=6) (by kernel_rfl) rfl (fun K' hK=>?_)
      have C:=hid (HNg.out u24 ax cx (HT.out.belows BD.out.1.b) BD.out.1.nt)
      go_simp
      refine C.out.mono ?_;rintro r u25 ⟨hd,hb⟩;obtain ⟨a25,c25,rfl,hN⟩:=hd.shp14;have BD:=qsd (ai (BD.out.1.below hb) (ai (BD.out.2.1.below hb) (ai BD.out.2.2.1 (ai (BD.out.2.2.2.1.below hb) (ai BD.out.2.2.2.2.1 (ai BD.out.2.2.2.2.2.1 (ai (BD.out.2.2.2.2.2.2.below hb) hN)))))));have kS:=qsd (ai (cb14 kS.out.1 hb) (ai (cb14 kS.out.2.1 hb) (ai (cb14 kS.out.2.2.1 hb) (cb14 kS.out.2.2.2 hb))));clear hb hd hN C
      dsimp only
      refine hK.out _ _ (fun _=>kS.out) ?_
      clear hK K'
      try simp only [Act.put,List.setIfInBounds_toArray,List.set_cons_zero,List.set_cons_succ]
      have BE:=qsd (ai (BD.out.2.1.set BD.out.2.2.2.2.2.2.1) (ai (BD.out.2.2.2.1.other BD.out.2.1 (Nat.ne_of_gt BD.out.2.2.2.2.2.1) (.bool (dN oN)) (.slice a24 (ws (dX oN)).length c24) (.int .i64 (dE oN))) (ai (BD.out.1.other BD.out.2.1 BD.out.2.2.1 HL.out (.bool (dN oN)) (.slice a24 (ws (dX oN)).length c24) (.int .i64 (dE oN))) (ai (BD.out.2.1.nt14 BD.out.2.2.2.2.2.2.2 (.bool (dN oN)) (.slice a24 (ws (dX oN)).length c24) (.int .i64 (dE oN))) (ai BD.out.2.2.1 (ai BD.out.2.2.2.2.1 (Nat.ne_of_lt BD.out.2.2.2.2.2.1)))))));obtain ⟨Y1,hY1⟩:∃ V,V=st3 u25 g17 (.bool (dN oN)) (.slice a24 (ws (dX oN)).length c24) (.int .i64 (dE oN)):=⟨_,rfl⟩;rw [←hY1] at BE;unfold st3 at hY1;obtain ⟨zp,zq,DZ,MZ⟩:=BD.out.2.1;obtain ⟨z0,z1,z2,zf0,zf1,zf2⟩:=DZ.facts;clear DZ MZ;refine until_one (i:=9) (by kernel_rfl) rfl (fun K' hK=>?_)
      go_simp
      refine hK.out _ _ (fun h=>absurd h (by decide)) ?_
      clear hK K' z0 z1 z2 zf0 zf1 zf2 kS BD;rw [←hY1];clear hY1;obtain ⟨zp,zq,DZ,MZ⟩:=BE.out.2.1;obtain ⟨z0,z1,z2,zf0,zf1,zf2⟩:=DZ.facts;clear DZ MZ;refine until_one (i:=10) (by kernel_rfl) rfl (fun K' hK=>?_)
      go_simp
      refine hK.out _ _ (fun h=>absurd h (by decide)) ?_
      clear hK K' z0 z1 z2 zf0 zf1 zf2;refine until_done (by kernel_rfl) ?_ _
      go_wp2_with fail
      go_meet
      case rel=>exact ⟨g17,g23,rfl,rfl,BE.out.1.other BE.out.2.1 BE.out.2.2.2.2.2.2 _ _ _,BE.out.2.1.set BE.out.2.2.2.1,BE.out.2.2.1.other BE.out.2.1 BE.out.2.2.2.2.2.1 HL.out _ _ _⟩
  · skip
    go_simp
    obtain ⟨g26,hg26⟩:∃ g,g=Wd.heap.size:=⟨_,rfl⟩;obtain ⟨V26,hV26⟩:∃ V,V=Wd.alloc (Obj.cells #[.bool false,.slice none 0 0,.int .i64 0] 37):=⟨_,rfl⟩;have hb:Below Wd.heap.size Wd V26:=by rw [hV26];exact below_alloc _ _
    have hZ:Lo V26 g26 o00:=by rw [hV26,hg26];exact Lo.zero _
    have BD:=qsd (ai (BD.out.below hb) (ai hZ (show w.heap.size+2<g26 by rw [hg26];exact BD.out.z0.lt)))
    have kS:=qsd (ai (cb14 kS.out.1 hb) (ai (cb14 kS.out.2.1 hb) (ai (cb14 kS.out.2.2.1 hb) (cb14 kS.out.2.2.2 hb))));have HV:=(qsd (ai hV26 hg26));clear hZ hb hV26 hg26;refine hK.out _ _ (fun _=>by rw [←HV.out.1];exact kS.out) ?_
    clear hK K';rw [←HV.out.1,←HV.out.2];clear HV
    try simp only [Act.put,List.setIfInBounds_toArray,List.set_cons_zero,List.set_cons_succ]
    refine until_two14 (i:=3) (j:=7) (by kernel_rfl) rfl rfl (fun K' hK=>?_) (fun K' hK=>?_)
    · skip
      have C:=hid (HI.out V26 (HT.out.belows BD.out.1.b))
      go_simp
      refine C.out.mono ?_;rintro r u27 ⟨hd,hb⟩;obtain ⟨a27,c27,rfl,hN⟩:=hd.shp14;have BD:=qsd (ai (BD.out.1.below hb) (ai (BD.out.2.1.below hb) (ai BD.out.2.2 hN)));have kS:=qsd (ai (cb14 kS.out.1 hb) (ai (cb14 kS.out.2.1 hb) (ai (cb14 kS.out.2.2.1 hb) (cb14 kS.out.2.2.2 hb))));clear hb hd hN C
      dsimp only
      refine hK.out _ _ (fun _=>kS.out) ?_
      clear hK K'
      try simp only [Act.put,List.setIfInBounds_toArray,List.set_cons_zero,List.set_cons_succ]
      refine until_two14 (i:=6) (j:=7) (by kernel_rfl) rfl rfl (fun K' hK=>?_) (fun K' hK=>?_)
      · skip
        have C:=hid (HNg.out u27 ax cx (HT.out.belows BD.out.1.b) BD.out.1.nt)
        go_simp
        refine C.out.mono ?_;rintro r u28 ⟨hd,hb⟩;obtain ⟨a28,c28,rfl,hN⟩:=hd.shp14;have BD:=qsd (ai (BD.out.1.below hb) (ai (BD.out.2.1.below hb) (ai BD.out.2.2.1 (ai (BD.out.2.2.2.below hb) hN))));have kS:=qsd (ai (cb14 kS.out.1 hb) (ai (cb14 kS.out.2.1 hb) (ai (cb14 kS.out.2.2.1 hb) (cb14 kS.out.2.2.2 hb))));clear hb hd hN C
        dsimp only
        refine hK.out _ _ (fun _=>kS.out) ?_
        clear hK K'
        try simp only [Act.put,List.setIfInBounds_toArray,List.set_cons_zero,List.set_cons_succ]
        refine until_one (i:=7) (by kernel_rfl) rfl (fun K' hK=>?_)
        go_simp
        obtain ⟨g29,hg29⟩:∃ g,g=u28.heap.size:=⟨_,rfl⟩;obtain ⟨V29,hV29⟩:∃ V,V=u28.alloc (Obj.cells #[.bool false,.slice none 0 0,.int .i64 0] 37):=⟨_,rfl⟩;have hb:Below u28.heap.size u28 V29:=by rw [hV29];exact below_alloc _ _
        have hZ:Lo V29 g29 o00:=by rw [hV29,hg29];exact Lo.zero _
        have BD:=qsd (ai (BD.out.1.below hb) (ai (BD.out.2.1.below hb) (ai BD.out.2.2.1 (ai (BD.out.2.2.2.1.below hb) (ai (BD.out.2.2.2.2.below hb) (ai hZ (ai (show w.heap.size+2<g29 by rw [hg29];exact BD.out.1.z0.lt) (show g26<g29 by rw [hg29];exact BD.out.2.1.lt))))))))
        have kS:=qsd (ai (cb14 kS.out.1 hb) (ai (cb14 kS.out.2.1 hb) (ai (cb14 kS.out.2.2.1 hb) (cb14 kS.out.2.2.2 hb))));have HV:=(qsd (ai hV29 hg29));clear hZ hb hV29 hg29;refine hK.out _ _ (fun _=>by rw [←HV.out.1];exact kS.out) ?_
        clear hK K';rw [←HV.out.1,←HV.out.2];clear HV
        try simp only [Act.put,List.setIfInBounds_toArray,List.set_cons_zero,List.set_cons_succ]
        have BE:=qsd (ai (BD.out.2.2.2.2.2.1.set BD.out.2.2.2.1) (ai (BD.out.2.1.other BD.out.2.2.2.2.2.1 (Nat.ne_of_lt BD.out.2.2.2.2.2.2.2) (.bool (dN oN)) (.slice a27 (ws (dX oN)).length c27) (.int .i64 (dE oN))) (ai (BD.out.1.other BD.out.2.2.2.2.2.1 BD.out.2.2.2.2.2.2.1 HL.out (.bool (dN oN)) (.slice a27 (ws (dX oN)).length c27) (.int .i64 (dE oN))) (ai (BD.out.2.2.2.2.2.1.nt14 BD.out.2.2.2.2.1 (.bool (dN oN)) (.slice a27 (ws (dX oN)).length c27) (.int .i64 (dE oN))) (ai BD.out.2.2.2.2.2.2.1 (ai BD.out.2.2.1 (Nat.ne_of_gt BD.out.2.2.2.2.2.2.2)))))));obtain ⟨Y1,hY1⟩:∃ V,V=st3 V29 g29 (.bool (dN oN)) (.slice a27 (ws (dX oN)).length c27) (.int .i64 (dE oN)):=⟨_,rfl⟩;rw [←hY1] at BE;unfold st3 at hY1;obtain ⟨zp,zq,DZ,MZ⟩:=BD.out.2.2.2.2.2.1;obtain ⟨z0,z1,z2,zf0,zf1,zf2⟩:=DZ.facts;clear DZ MZ;refine until_one (i:=9) (by kernel_rfl) rfl (fun K' hK=>?_)
        go_simp
        refine hK.out _ _ (fun h=>absurd h (by decide)) ?_
        clear hK K' z0 z1 z2 zf0 zf1 zf2 kS BD;rw [←hY1];clear hY1;obtain ⟨zp,zq,DZ,MZ⟩:=BE.out.2.1;obtain ⟨z0,z1,z2,zf0,zf1,zf2⟩:=DZ.facts;clear DZ MZ;refine until_one (i:=10) (by kernel_rfl) rfl (fun K' hK=>?_)
        go_simp
        refine hK.out _ _ (fun h=>absurd h (by decide)) ?_
        clear hK K' z0 z1 z2 zf0 zf1 zf2;refine until_done (by kernel_rfl) ?_ _
        go_wp2_with fail
        go_meet
        case rel=>exact ⟨g29,g26,rfl,rfl,BE.out.1.other BE.out.2.1 BE.out.2.2.2.2.2.2 _ _ _,BE.out.2.1.set BE.out.2.2.2.1,BE.out.2.2.1.other BE.out.2.1 BE.out.2.2.2.2.2.1 HL.out _ _ _⟩
      · skip
        go_simp
        obtain ⟨g30,hg30⟩:∃ g,g=u27.heap.size:=⟨_,rfl⟩;obtain ⟨V30,hV30⟩:∃ V,V=u27.alloc (Obj.cells #[.bool false,.slice none 0 0,.int .i64 0] 37):=⟨_,rfl⟩;have hb:Below u27.heap.size u27 V30:=by rw [hV30];exact below_alloc _ _
        have hZ:Lo V30 g30 o00:=by rw [hV30,hg30];exact Lo.zero _
        have BD:=qsd (ai (BD.out.1.below hb) (ai (BD.out.2.1.below hb) (ai BD.out.2.2.1 (ai (BD.out.2.2.2.below hb) (ai hZ (ai (show w.heap.size+2<g30 by rw [hg30];exact BD.out.1.z0.lt) (show g26<g30 by rw [hg30];exact BD.out.2.1.lt)))))))
        have kS:=qsd (ai (cb14 kS.out.1 hb) (ai (cb14 kS.out.2.1 hb) (ai (cb14 kS.out.2.2.1 hb) (cb14 kS.out.2.2.2 hb))));have HV:=(qsd (ai hV30 hg30));clear hZ hb hV30 hg30;refine hK.out _ _ (fun _=>by rw [←HV.out.1];exact kS.out) ?_
        clear hK K';rw [←HV.out.1,←HV.out.2];clear HV
        try simp only [Act.put,List.setIfInBounds_toArray,List.set_cons_zero,List.set_cons_succ]
        refine until_one (i:=6) (by kernel_rfl) rfl (fun K' hK=>?_)
        have C:=hid (HNg.out V30 ax cx (HT.out.belows BD.out.1.b) BD.out.1.nt)
        go_simp
        refine C.out.mono ?_;rintro r u31 ⟨hd,hb⟩;obtain ⟨a31,c31,rfl,hN⟩:=hd.shp14;have BD:=qsd (ai (BD.out.1.below hb) (ai (BD.out.2.1.below hb) (ai BD.out.2.2.1 (ai (BD.out.2.2.2.1.below hb) (ai (BD.out.2.2.2.2.1.below hb) (ai BD.out.2.2.2.2.2.1 (ai BD.out.2.2.2.2.2.2 hN)))))));have kS:=qsd (ai (cb14 kS.out.1 hb) (ai (cb14 kS.out.2.1 hb) (ai (cb14 kS.out.2.2.1 hb) (cb14 kS.out.2.2.2 hb))));clear hb hd hN C
        dsimp only
        refine hK.out _ _ (fun _=>kS.out) ?_
        clear hK K'
        try simp only [Act.put,List.setIfInBounds_toArray,List.set_cons_zero,List.set_cons_succ]
        have BE:=qsd (ai (BD.out.2.2.2.2.1.set BD.out.2.2.2.1) (ai (BD.out.2.1.other BD.out.2.2.2.2.1 (Nat.ne_of_lt BD.out.2.2.2.2.2.2.1) (.bool (dN oN)) (.slice a27 (ws (dX oN)).length c27) (.int .i64 (dE oN))) (ai (BD.out.1.other BD.out.2.2.2.2.1 BD.out.2.2.2.2.2.1 HL.out (.bool (dN oN)) (.slice a27 (ws (dX oN)).length c27) (.int .i64 (dE oN))) (ai (BD.out.2.2.2.2.1.nt14 BD.out.2.2.2.2.2.2.2 (.bool (dN oN)) (.slice a27 (ws (dX oN)).length c27) (.int .i64 (dE oN))) (ai BD.out.2.2.2.2.2.1 (ai BD.out.2.2.1 (Nat.ne_of_gt BD.out.2.2.2.2.2.2.1)))))));obtain ⟨Y1,hY1⟩:∃ V,V=st3 u31 g30 (.bool (dN oN)) (.slice a27 (ws (dX oN)).length c27) (.int .i64 (dE oN)):=⟨_,rfl⟩;rw [←hY1] at BE;unfold st3 at hY1;obtain ⟨zp,zq,DZ,MZ⟩:=BD.out.2.2.2.2.1;obtain ⟨z0,z1,z2,zf0,zf1,zf2⟩:=DZ.facts;clear DZ MZ;refine until_one (i:=9) (by kernel_rfl) rfl (fun K' hK=>?_)
        go_simp
        refine hK.out _ _ (fun h=>absurd h (by decide)) ?_
        clear hK K' z0 z1 z2 zf0 zf1 zf2 kS BD;rw [←hY1];clear hY1;obtain ⟨zp,zq,DZ,MZ⟩:=BE.out.2.1;obtain ⟨z0,z1,z2,zf0,zf1,zf2⟩:=DZ.facts;clear DZ MZ;refine until_one (i:=10) (by kernel_rfl) rfl (fun K' hK=>?_)
        go_simp
        refine hK.out _ _ (fun h=>absurd h (by decide)) ?_
        clear hK K' z0 z1 z2 zf0 zf1 zf2;refine until_done (by kernel_rfl) ?_ _
        go_wp2_with fail
        go_meet
        case rel=>exact ⟨g30,g26,rfl,rfl,BE.out.1.other BE.out.2.1 BE.out.2.2.2.2.2.2 _ _ _,BE.out.2.1.set BE.out.2.2.2.1,BE.out.2.2.1.other BE.out.2.1 BE.out.2.2.2.2.2.1 HL.out _ _ _⟩
    · skip
      go_simp
      obtain ⟨g32,hg32⟩:∃ g,g=V26.heap.size:=⟨_,rfl⟩;obtain ⟨V32,hV32⟩:∃ V,V=V26.alloc (Obj.cells #[.bool false,.slice none 0 0,.int .i64 0] 37):=⟨_,rfl⟩;have hb:Below V26.heap.size V26 V32:=by rw [hV32];exact below_alloc _ _
      have hZ:Lo V32 g32 o00:=by rw [hV32,hg32];exact Lo.zero _
      have BD:=qsd (ai (BD.out.1.below hb) (ai (BD.out.2.1.below hb) (ai BD.out.2.2 (ai hZ (ai (show w.heap.size+2<g32 by rw [hg32];exact BD.out.1.z0.lt) (show g26<g32 by rw [hg32];exact BD.out.2.1.lt))))))
      have kS:=qsd (ai (cb14 kS.out.1 hb) (ai (cb14 kS.out.2.1 hb) (ai (cb14 kS.out.2.2.1 hb) (cb14 kS.out.2.2.2 hb))));have HV:=(qsd (ai hV32 hg32));clear hZ hb hV32 hg32;refine hK.out _ _ (fun _=>by rw [←HV.out.1];exact kS.out) ?_
      clear hK K';rw [←HV.out.1,←HV.out.2];clear HV
      try simp only [Act.put,List.setIfInBounds_toArray,List.set_cons_zero,List.set_cons_succ]
      refine until_one (i:=3) (by kernel_rfl) rfl (fun K' hK=>?_)
      have C:=hid (HI.out V32 (HT.out.belows BD.out.1.b))
      go_simp
      refine C.out.mono ?_;rintro r u33 ⟨hd,hb⟩;obtain ⟨a33,c33,rfl,hN⟩:=hd.shp14;have BD:=qsd (ai (BD.out.1.below hb) (ai (BD.out.2.1.below hb) (ai BD.out.2.2.1 (ai (BD.out.2.2.2.1.below hb) (ai BD.out.2.2.2.2.1 (ai BD.out.2.2.2.2.2 hN))))));have kS:=qsd (ai (cb14 kS.out.1 hb) (ai (cb14 kS.out.2.1 hb) (ai (cb14 kS.out.2.2.1 hb) (cb14 kS.out.2.2.2 hb))));clear hb hd hN C
      dsimp only
      refine hK.out _ _ (fun _=>kS.out) ?_
      clear hK K'
      try simp only [Act.put,List.setIfInBounds_toArray,List.set_cons_zero,List.set_cons_succ]
      refine until_one (i:=6) (by kernel_rfl) rfl (fun K' hK=>?_)
      have C:=hid (HNg.out u33 ax cx (HT.out.belows BD.out.1.b) BD.out.1.nt)
      go_simp
      refine C.out.mono ?_;rintro r u34 ⟨hd,hb⟩;obtain ⟨a34,c34,rfl,hN⟩:=hd.shp14;have BD:=qsd (ai (BD.out.1.below hb) (ai (BD.out.2.1.below hb) (ai BD.out.2.2.1 (ai (BD.out.2.2.2.1.below hb) (ai BD.out.2.2.2.2.1 (ai BD.out.2.2.2.2.2.1 (ai (BD.out.2.2.2.2.2.2.below hb) hN)))))));have kS:=qsd (ai (cb14 kS.out.1 hb) (ai (cb14 kS.out.2.1 hb) (ai (cb14 kS.out.2.2.1 hb) (cb14 kS.out.2.2.2 hb))));clear hb hd hN C
      dsimp only
      refine hK.out _ _ (fun _=>kS.out) ?_
      clear hK K'
      try simp only [Act.put,List.setIfInBounds_toArray,List.set_cons_zero,List.set_cons_succ]
      have BE:=qsd (ai (BD.out.2.2.2.1.set BD.out.2.2.2.2.2.2.1) (ai (BD.out.2.1.other BD.out.2.2.2.1 (Nat.ne_of_lt BD.out.2.2.2.2.2.1) (.bool (dN oN)) (.slice a33 (ws (dX oN)).length c33) (.int .i64 (dE oN))) (ai (BD.out.1.other BD.out.2.2.2.1 BD.out.2.2.2.2.1 HL.out (.bool (dN oN)) (.slice a33 (ws (dX oN)).length c33) (.int .i64 (dE oN))) (ai (BD.out.2.2.2.1.nt14 BD.out.2.2.2.2.2.2.2 (.bool (dN oN)) (.slice a33 (ws (dX oN)).length c33) (.int .i64 (dE oN))) (ai BD.out.2.2.2.2.1 (ai BD.out.2.2.1 (Nat.ne_of_gt BD.out.2.2.2.2.2.1)))))));obtain ⟨Y1,hY1⟩:∃ V,V=st3 u34 g32 (.bool (dN oN)) (.slice a33 (ws (dX oN)).length c33) (.int .i64 (dE oN)):=⟨_,rfl⟩;rw [←hY1] at BE;unfold st3 at hY1;obtain ⟨zp,zq,DZ,MZ⟩:=BD.out.2.2.2.1;obtain ⟨z0,z1,z2,zf0,zf1,zf2⟩:=DZ.facts;clear DZ MZ;refine until_one (i:=9) (by kernel_rfl) rfl (fun K' hK=>?_)
      go_simp
      refine hK.out _ _ (fun h=>absurd h (by decide)) ?_
      clear hK K' z0 z1 z2 zf0 zf1 zf2 kS BD;rw [←hY1];clear hY1;obtain ⟨zp,zq,DZ,MZ⟩:=BE.out.2.1;obtain ⟨z0,z1,z2,zf0,zf1,zf2⟩:=DZ.facts;clear DZ MZ;refine until_one (i:=10) (by kernel_rfl) rfl (fun K' hK=>?_)
      go_simp
      refine hK.out _ _ (fun h=>absurd h (by decide)) ?_
      clear hK K' z0 z1 z2 zf0 zf1 zf2;refine until_done (by kernel_rfl) ?_ _
      go_wp2_with fail
      go_meet
      case rel=>exact ⟨g32,g26,rfl,rfl,BE.out.1.other BE.out.2.1 BE.out.2.2.2.2.2.2 _ _ _,BE.out.2.1.set BE.out.2.2.2.1,BE.out.2.2.1.other BE.out.2.1 BE.out.2.2.2.2.2.1 HL.out _ _ _⟩
 obtain ⟨g5,g6,rfl,rfl,K1⟩:=hcut;obtain ⟨U,hU⟩:∃ U,U=wc:=⟨_,rfl⟩;rw [←hU] at K1 ⊢;clear hU H0 HI HNg;have s0:=K1.out.2.2.k0.cell 0 _ rfl;have C:=hid (HC.out U g5 g6 (HT.out.belows K1.out.2.2.b) K1.out.1 K1.out.2.1 K1.out.2.2)
 go_wp2_with fail
 refine C.out.mono ?_;rintro r u1 ⟨hd,hb⟩;obtain ⟨a1,c1,rfl,hN1⟩:=hd.shp14;have H1:=(qsd (ai (K1.out.2.2.z0.below hb) (ai (K1.out.2.2.b.trans (hb.mono K1.out.2.2.b.size)) hN1)));clear hb hd hN1 C s0 K1;obtain ⟨p2,q2,D2,M2⟩:=H1.out.1;obtain ⟨y0,y1,y2,yf0,yf1,yf2⟩:=D2.facts;clear D2 M2;go_wp2;exact end14 Tryz.results50 rfl H1.out.1 H1.out.2.1 (by omega) H1.out.2.2
end
section
open Go Go.RowKit J
def aT (c S:Int) (f:Nat→Int) (m k j:Nat):Int:=cbN k j*((c^j*tS (fun i=>f i^j) m)*(-S)^(k-j))
theorem tS_succ14 (f:Nat→Int) (n:Nat):tS f (n+1)=tS f n+f n:=rfl
theorem cen_1 (c S:Int) (f:Nat→Int):∀ m,tS (fun i=>(c*f i-S)^1) m=1*((c^0*tS (fun i=>f i^0) m)*(-S)^(1-0))+1*((c^1*tS (fun i=>f i^1) m)*(-S)^(1-1))
 | 0=>by simp [tS]
 | m+1=>by
   have ih:=cen_1 c S f m;simp only [tS_succ14,ih]
   grind
theorem cen_2 (c S:Int) (f:Nat→Int):∀ m,tS (fun i=>(c*f i-S)^2) m=1*((c^0*tS (fun i=>f i^0) m)*(-S)^(2-0))+2*((c^1*tS (fun i=>f i^1) m)*(-S)^(2-1))+1*((c^2*tS (fun i=>f i^2) m)*(-S)^(2-2))
 | 0=>by simp [tS]
 | m+1=>by
   have ih:=cen_2 c S f m;simp only [tS_succ14,ih]
   grind
theorem cen_3 (c S:Int) (f:Nat→Int):∀ m,tS (fun i=>(c*f i-S)^3) m=1*((c^0*tS (fun i=>f i^0) m)*(-S)^(3-0))+3*((c^1*tS (fun i=>f i^1) m)*(-S)^(3-1))+3*((c^2*tS (fun i=>f i^2) m)*(-S)^(3-2))+1*((c^3*tS (fun i=>f i^3) m)*(-S)^(3-3))
 | 0=>by simp [tS]
 | m+1=>by
   have ih:=cen_3 c S f m;simp only [tS_succ14,ih]
   grind
theorem cen_4 (c S:Int) (f:Nat→Int):∀ m,tS (fun i=>(c*f i-S)^4) m=1*((c^0*tS (fun i=>f i^0) m)*(-S)^(4-0))+4*((c^1*tS (fun i=>f i^1) m)*(-S)^(4-1))+6*((c^2*tS (fun i=>f i^2) m)*(-S)^(4-2))+4*((c^3*tS (fun i=>f i^3) m)*(-S)^(4-3))+1*((c^4*tS (fun i=>f i^4) m)*(-S)^(4-4))
 | 0=>by simp [tS]
 | m+1=>by
   have ih:=cen_4 c S f m;simp only [tS_succ14,ih]
   grind
theorem cen_eq (c S:Int) (f:Nat→Int) (m k:Nat) (h1:1≤k) (h4:k≤4):tS (aT c S f m k) (k+1)=tS (fun i=>(c*f i-S)^k) m:=by
 obtain rfl|rfl|rfl|rfl:k=1∨k=2∨k=3∨k=4:=by omega
 · rw [cen_1];simp only [tS,aT,cbN,Int.zero_add]
 · rw [cen_2];simp only [tS,aT,cbN,Int.zero_add]
 · rw [cen_3];simp only [tS,aT,cbN,Int.zero_add]
 · rw [cen_4];simp only [tS,aT,cbN,Int.zero_add]
theorem aT_bd {c S:Int}{f:Nat→Int}{m k j:Nat}(bc:Bd 16 c) (bS:Bd 2114 S) (bf:∀ i,i<m→Bd 2098 (f i)) (hm:m≤65536) (h1:1≤k) (h4:k≤4) (hj:j≤k):Bd 20000 (aT c S f m k j):=by
 have bcb:Bd 3 (cbN k j):=by have:=cb_bd k j h1 h4 hj;unfold Bd;omega
 exact (bcb.mul (((bc.pow j).mul (pw_bd14 bf hm (by omega) m (Nat.le_refl _))).mul (bS.neg.pow (k-j)))).mono (by
  have:2114*(k-j)≤8456:=by omega
  omega)
theorem Neg14 {w:World}{a:Option Addr}{d:Nat}{S:Int}(bS:Bd 2114 S) (hT:Tab w) (hN:Nt 0 w (.slice a (ws (dX (gV 1074 S))).length d) (dX (gV 1074 S))) :
 Calls Tryz.prog 94 #[.agg #[.bool (dN (gV 1074 S)),.slice a (ws (dX (gV 1074 S))).length d,.int .i64 (dE (gV 1074 S))]] w fun r w'=>DVal 0 w' r (gV 1074 (-S))∧Below w.heap.size w w':=by
 have F:Fm (gV 1074 S):=g_fm (by decide) (by decide) bS
 have:=Neg_any (F.a12 hN) hT (dN (gV 1074 S)) (dE (gV 1074 S)) F.rng.1 F.rng.2;rw [val_ws,negO_reform F.sm,g_neg] at this;exact this.mono fun r w' h=>⟨h.1.mono14,h.2⟩
theorem about14 {w:World}{v:Value}{n k:Nat}{f:Nat→Int}{S:Int}(hn:n≤65536) (h1:1≤k) (h4:k≤4) (hT:Tab w) (bf:∀ i,i<n→Bd 2098 (f i)) (bS:Bd 2114 S) (hR:Rr w v n (fun i=>gV 1074 (f i)) (gV 1074 S)) :
 Calls Tryz.prog 50 #[v,.int .i64 (k:Nat)] w fun r w'=>DVal 0 w' r (gV (1074*k) (tS (fun i=>((n:Int)*f i-S)^k) n))∧Below w.heap.size w w':=by
 obtain ⟨gx,ax,cx,rfl,hx,n1⟩:=hR;have bn:Bd 16 (n:Int):=Bd.nat (by omega)
 have hq:1074*k≤4296:=by omega
 have bA:∀ j,j<k+1→Bd 20000 (aT n S f n k j):=fun j hj=>aT_bd bn bS bf hn h1 h4 (by omega)
 have bT:∀ j,j≤k+1→Bd 20016 (tS (aT n S f n k) j):=fun j hj=>tS_bd bA (by omega) j hj
 rw [←cen_eq (n:Int) S f n k h1 h4];refine about_core w n k gx ax cx (fun i=>gV 1074 (f i)) (gV 1074 S) (gV 0 (n:Int)) (gV 1074 (-S)) _ hT h4 hn (hid fun v hv=>Int14 n v hv (by omega) (by omega)) (hid fun v a d hv hN=>Neg14 bS hv hN) (hid fun u g5 g6 hTu l5 l6 hA=>?_) hx n1
 refine total14_a u (k+1) g5 w.heap.size (w.heap.size+1) g6 (fun j=>gV (1074*k) (aT n S f n k j)) (fun j=>gV (1074*k) (tS (aT n S f n k) j)) (by omega) hTu (fun j hj=>g_fm (by omega) (by omega) (bA j hj)) (fun j hj=>g_fm (by omega) (by omega) (bT j hj)) (fun j hj=>g_add (by omega) (by omega) (bT j (by omega)) ((bA j hj).mono (by omega))) (g_zero _).symm (hid fun j v hj hv=>?_)
 have hj':j≤k:=by omega
 have q1:16*j≤64∧2098*j≤8392∧1074*j≤4296∧2114*(k-j)≤8456∧1074*(k-j)≤4296∧1074*j+1074*(k-j)=1074*k:=by omega
 have bcb:Bd 3 (cbN k j):=by have:=cb_bd k j h1 h4 hj';unfold Bd;omega
 have bR1:Bd (16*j) ((n:Int)^j):=bn.pow j;have bP:Bd (2098*j+16) (tS (fun i=>f i^j) n):=pw_bd14 bf hn (by omega) n (Nat.le_refl _)
 have bR2:Bd (2114*(k-j)) ((-S)^(k-j)):=bS.neg.pow (k-j);have bW:=bR1.mul bP;have bX:=bW.mul bR2
 refine aboutC_core v n k j g5 w.heap.size (w.heap.size+1) g6 gx ax cx (cbN k j) (fun i=>gV 1074 (f i)) (gV 0 (n:Int)) (gV 1074 S) (gV 1074 (-S)) (gV 0 ((n:Int)^j)) (gV (1074*j) (tS (fun i=>f i^j) n)) (gV (1074*j) ((n:Int)^j*tS (fun i=>f i^j) n)) (gV 0 (cbN k j)) (gV (1074*(k-j)) ((-S)^(k-j))) (gV (1074*k) (((n:Int)^j*tS (fun i=>f i^j) n)*(-S)^(k-j))) _ (hTu.belows hv) hj' h4
  ⟨g_fm (by omega) (by omega) bR1,g_fm (by omega) (by omega) bP,g_fm (by omega) (by omega) bW,g_fm (by omega) (by omega) bcb,g_fm (by omega) (by omega) bR2,g_fm (by omega) (by omega) bX,g_fm (by omega) (by omega) (bA j hj)⟩
  ⟨?_,?_,?_⟩ (hid fun y a d hy hN=>?_) (hid fun y hy hR=>powers14 hn (by omega) hy bf hR) (hid fun y=>over14 k j h1 h4 hj' y) (hid fun y hy=>Int14 _ y hy (by have:=cb_bd k j h1 h4 hj';omega) (by have:=cb_bd k j h1 h4 hj';omega)) (hid fun y a d hy hN=>?_)
  (l5.below hv) (hA.x0.below hv hA.x0.lt) (hA.dr.below hv) (hA.nt.below hv) (hA.k0.below hv hA.k0.lt) (l6.below hv)
 · have:=g_mul (u:=0) (v:=1074*j) (by omega) (by omega) (by omega) (by omega) bR1 bP
   rw [Nat.zero_add] at this;exact this
 · have:=g_mul (u:=1074*j) (v:=1074*(k-j)) (by omega) (by omega) (by omega) (by omega) bW bR2
   rw [q1.2.2.2.2.2] at this;exact this
 · have:=g_mul (u:=0) (v:=1074*k) (by omega) (by omega) (by omega) (by omega) bcb bX
   rw [Nat.zero_add] at this;exact this
 · have:=raisedg14 (k:=j) (u:=0) (m:=16) (V:=(n:Int)) (by omega) (by decide) (by decide) bn hy hN
   rw [Nat.zero_mul] at this;exact this
 · have e:(k:Int)-(j:Int)=((k-j:Nat):Int):=by omega
   rw [e];exact raisedg14 (k:=k-j) (u:=1074) (m:=2114) (V:=-S) (by omega) (by decide) (by decide) bS.neg hy hN
def cenV (xs:List Nat) (k:Nat):Int:=tS (fun i=>((xs.length:Int)*fX xs i-sX xs)^k) xs.length
noncomputable def cenR (xs:List Nat) (k mode:Int):Nat×Int :=
 if mdB mode&&(decide (1≤k)&&decide (k≤4)) then
  if exE xs=0 then
   if xs=[] then (0,3) else qR14 (gV (1074*k.toNat) (cenV xs k.toNat)) (gV 0 ((xs.length:Int)^(k.toNat+1))) mode
  else (0,exE xs)
 else (0,1)
theorem ex_ok {xs:List Nat}(h:exE xs=0):xs.length≤65536∧∀ x ∈ xs,finW x:=by
 unfold exE at h
 by_cases hl:65536<xs.length
 · rw [if_pos hl] at h;exact absurd h (by decide)
 · rw [if_neg hl] at h
   cases hf:fiB xs with
   | false=>rw [hf] at h;exact absurd h (by decide)
   | true=>exact ⟨by omega,(fiB_iff xs).1 hf⟩
theorem cenV_bd {xs:List Nat}(hW:W64 xs) (hf:∀ x ∈ xs,finW x) (hl:xs.length≤65536) (k:Nat) (h1:1≤k) (h4:k≤4):Bd 20016 (cenV xs k):=by
 unfold cenV;rw [←cen_eq _ _ _ _ k h1 h4];exact tS_bd (fun j hj=>aT_bd (Bd.nat (by omega)) (sX_bd hW hf hl _ (Nat.le_refl _)) (fun i hi=>fX_bd hW hf i hi) hl h1 h4 (by omega)) (by omega) (k+1) (Nat.le_refl _)
theorem Central14 (xs:List Nat) (a:Option Addr) (n c:Nat) (k mode:Int) (w:World) (hn:n=xs.length) (hF:Fs w.heap.size w a xs) (hW:W64 xs) (hT:Tab w) (hl:n≤35184372088832) (z:Nat×Int) (hz:cenR xs k mode=z) :
 Calls Tryz.prog 15 #[.slice a n c,.int .i64 k,.int .i64 mode] w fun r w'=>r=.returned (.tuple #[.float .f64 z.1,.int .i64 z.2])∧Below w.heap.size w w':=by
 obtain ⟨X,E⟩:=z;simp only;have C:=hid (isMode14 mode w);unfold cenR at hz
 cases hm:mdB mode with
 | false =>
   rw [hm,Bool.false_and,if_neg (by decide)] at hz
   rw [hm] at C;obtain ⟨rfl,rfl⟩:=Prod.mk.inj hz;clear hz hn hF hW hT;go_enter Tryz.func15,Tryz.ntmps15
   go_wp2_with fail
   refine C.out.mono ?_;rintro r v ⟨rfl,hv⟩;rw [hv];clear hv v C;go_wp2;exact bodyPost_ret (v:=.tuple #[.float .f64 0,.int .i64 1]) (by simp [results,Tryz.results15,go_sem]) rfl ⟨rfl,Below.refl _ _⟩
 | true =>
 rw [hm] at C hz
 by_cases h1:1≤k
 case neg =>
  rw [decide_eq_false h1,Bool.false_and,Bool.and_false,if_neg (by decide)] at hz
  obtain ⟨rfl,rfl⟩:=Prod.mk.inj hz;have d1:decide (k<1)=true:=decide_eq_true (by omega)
  clear hz hn hF hW hT;go_enter Tryz.func15,Tryz.ntmps15
  go_wp2_with fail
  refine C.out.mono ?_;rintro r v ⟨rfl,hv⟩;rw [hv];clear hv v C;go_wp2;exact bodyPost_ret (v:=.tuple #[.float .f64 0,.int .i64 1]) (by simp [results,Tryz.results15,go_sem]) rfl ⟨rfl,Below.refl _ _⟩
 case pos =>
 have d1:decide (k<1)=false:=decide_eq_false (by omega)
 by_cases h4:k≤4
 case neg =>
  rw [decide_eq_true h1,decide_eq_false h4,Bool.and_false,Bool.and_false,if_neg (by decide)] at hz
  obtain ⟨rfl,rfl⟩:=Prod.mk.inj hz;have d4:decide (4<k)=true:=decide_eq_true (by omega)
  clear hz hn hF hW hT;go_enter Tryz.func15,Tryz.ntmps15
  go_wp2_with fail
  refine C.out.mono ?_;rintro r v ⟨rfl,hv⟩;rw [hv];clear hv v C;go_wp2;exact bodyPost_ret (v:=.tuple #[.float .f64 0,.int .i64 1]) (by simp [results,Tryz.results15,go_sem]) rfl ⟨rfl,Below.refl _ _⟩
 case pos =>
  have d4:decide (4<k)=false:=decide_eq_false (by omega)
  rw [decide_eq_true h1,decide_eq_true h4,Bool.and_self,Bool.and_self,if_pos rfl] at hz;obtain ⟨kn,rfl⟩:∃ kn:Nat,k=(kn:Int):=⟨k.toNat,by omega⟩
  rw [Int.toNat_natCast] at hz;have HK:Aside (1≤kn∧kn≤4):=⟨by omega,by omega⟩
  have HE:=hid (exact14 xs a n c w hn hF hW hT hl);have HX:=qsd (ai hn (ai hW hT));have HZ:=qsd hz;obtain ⟨es,hes⟩:∃ e,exE xs=e:=⟨_,rfl⟩;rw [hes] at HE;have HES:=qsd hes;clear hz hn hF hW hT hl hes h1 h4;go_enter Tryz.func15,Tryz.ntmps15
  go_wp2_with fail
  refine C.out.mono ?_;rintro r v ⟨rfl,hv⟩;rw [hv];clear hv v C
  go_wp2_with fail
  refine HE.out.mono ?_;rintro r u2 ⟨hr,hb⟩
  rcases hr with ⟨he,rfl⟩|⟨he,v2,rfl,hR⟩
  · have h1:(es==0)=false:=by simp [he]
    have hz:=HZ.out;rw [if_neg (by rw [HES.out];exact he),HES.out] at hz
    obtain ⟨rfl,rfl⟩:=Prod.mk.inj hz;have BE:Aside (Below w.heap.size w (u2.alloc (Obj.cells #[.slice none 0 0,.bool false,.slice none 0 0,.int .i64 0] 62))):=hb.trans ((bel_alloc _ _).mono hb.size);clear hz HZ HES hb HE;go_wp2;exact bodyPost_ret (v:=.tuple #[.float .f64 0,.int .i64 es]) (by simp [results,Tryz.results15,go_sem]) rfl ⟨rfl,BE.out⟩
  · subst he
    obtain ⟨gA,p1,q1,rfl,hD,hN⟩:=hR;obtain ⟨oS,hoS⟩:∃ o,o=gV 1074 (sX xs):=⟨_,rfl⟩;rw [←hoS] at hN ⊢;obtain ⟨hl6,hall⟩:=ex_ok HES.out;have PF:=(qsd (ai hl6 hall));obtain ⟨V,hV⟩:∃ V,V=u2.alloc (Obj.cells #[.slice (some ⟨gA,0,none⟩) n n,.bool (dN oS),.slice p1 (ws (dX oS)).length q1,.int .i64 (dE oS)] 62):=⟨_,rfl⟩;obtain ⟨g7,hg7⟩:∃ g,g=u2.heap.size:=⟨_,rfl⟩
    have B4:Aside (Bl V g7 62 [.slice (some ⟨gA,0,none⟩) n n,.bool (dN oS),.slice p1 (ws (dX oS)).length q1,.int .i64 (dE oS)]∧Below w.heap.size w V∧Dr V gA n n (fun i=>gV 1074 (fX xs i))∧Nt 0 V (.slice p1 (ws (dX oS)).length q1) (dX oS)):=by
     rw [hV,hg7];exact ⟨Bl.new _ 62 [_,_,_,_],hb.trans ((bel_alloc _ _).mono hb.size),hD.below (bel_alloc _ _),hN.below (bel_alloc _ _)⟩
    have HV:=(qsd (ai hV hg7));have HOS:=qsd hoS;clear hV hg7 hb hD hN HE hoS hl6 hall
    go_upto_region 4 with fail
    rw [←HV.out.1,←HV.out.2];clear HV;have s0:=B4.out.1.cell 0 _ rfl;have hz:=HZ.out;rw [if_pos HES.out] at hz
    by_cases h0:n=0
    · have hx0:xs=[]:=List.eq_nil_of_length_eq_zero (by have:=HX.out.1;omega)
      rw [if_pos hx0] at hz;obtain ⟨rfl,rfl⟩:=Prod.mk.inj hz;have hn0:((n:Int)==0)=true:=by simp [h0]
      clear hz HZ h0 hx0;go_wp2;exact bodyPost_ret (v:=.tuple #[.float .f64 0,.int .i64 3]) (by simp [results,Tryz.results15,go_sem]) rfl ⟨rfl,B4.out.2.1⟩
    · have hx0:xs≠[]:=fun e=>h0 (by rw [HX.out.1,e];rfl)
      rw [if_neg hx0] at hz;have hn0:((n:Int)==0)=false:=by simp [h0]
      have hn0':(n:Int)≠0:=by omega
      have n6:n≤65536:=by have:=PF.out.1;have:=HX.out.1;omega
      obtain ⟨oV,hoV⟩:∃ o,o=gV (1074*kn) (cenV xs kn):=⟨_,rfl⟩;obtain ⟨oN,hoN⟩:∃ o,o=gV 0 (n:Int):=⟨_,rfl⟩;obtain ⟨oD,hoD⟩:∃ o,o=gV 0 ((n:Int)^(kn+1)):=⟨_,rfl⟩;rw [←hoV,←HX.out.1,←hoD] at hz;have hk4:=HK.out;have hq:1074*kn≤4296:=by omega
      have bn:Bd 16 (n:Int):=Bd.nat (by omega)
      have FV:Fm oV:=by rw [hoV];exact g_fm (by omega) (by decide) (cenV_bd HX.out.2.1 PF.out.2 PF.out.1 kn hk4.1 hk4.2)
      have FD:Fm oD:=by rw [hoD];exact g_fm (by decide) (by omega) (bn.pow (kn+1))
      have HAb:Hid (∀ u:World,Below V.heap.size V u→Calls Tryz.prog 50 #[.agg #[.slice (some ⟨gA,0,none⟩) n n,.bool (dN oS),.slice p1 (ws (dX oS)).length q1,.int .i64 (dE oS)],.int .i64 (kn:Nat)] u fun r w'=>DVal 0 w' r oV∧Below u.heap.size u w'):=fun u hu=>by
       have hR:Rr u (.agg #[.slice (some ⟨gA,0,none⟩) n n,.bool (dN oS),.slice p1 (ws (dX oS)).length q1,.int .i64 (dE oS)]) n (fun i=>gV 1074 (fX xs i)) (gV 1074 (sX xs)):=by
        rw [HOS.out];exact ⟨gA,p1,q1,rfl,B4.out.2.2.1.below hu,by have:=B4.out.2.2.2.below hu;rw [HOS.out] at this;exact this⟩
       have:=about14 (f:=fX xs) (S:=sX xs) n6 hk4.1 hk4.2 (HX.out.2.2.belows (B4.out.2.1.trans (hu.mono B4.out.2.1.size))) (fun i hi=>fX_bd HX.out.2.1 PF.out.2 i (by rw [←HX.out.1];exact hi)) (sX_bd HX.out.2.1 PF.out.2 PF.out.1 _ (Nat.le_refl _)) hR
       rw [hoV];unfold cenV;rw [←HX.out.1];exact this
      have HIn:Hid (∀ u:World,Tab u→Calls Tryz.prog 52 #[.int .i64 (n:Nat)] u fun r w'=>DVal 0 w' r oN∧Below u.heap.size u w'):=fun u hu=>by rw [hoN];exact Int14 n u hu (by omega) (by omega)
      have HRa:Hid (∀ (u:World) (a:Option Addr) (d:Nat),Tab u→Nt 0 u (.slice a (ws (dX oN)).length d) (dX oN)→Calls Tryz.prog 51 #[.agg #[.bool (dN oN),.slice a (ws (dX oN)).length d,.int .i64 (dE oN)],.int .i64 ((kn:Int)+1)] u fun r w'=>DVal 0 w' r oD∧Below u.heap.size u w'):=fun u a d hu hN=>by
       rw [show (kn:Int)+1=((kn+1:Nat):Int) by omega]
       rw [hoN] at hN;have:=raisedg14 (k:=kn+1) (u:=0) (m:=16) (V:=(n:Int)) (by omega) (by decide) (by decide) bn hu hN
       rw [Nat.zero_mul] at this;rw [hoN,hoD];exact this
      have HR:Hid (∀ (u:World) (a b:Option Addr) (ca cb:Nat),Tab u→Nt 0 u (.slice a (ws (dX oV)).length ca) (dX oV)→Nt 0 u (.slice b (ws (dX oD)).length cb) (dX oD)→Calls Tryz.prog 37 #[.agg #[.bool (dN oV),.slice a (ws (dX oV)).length ca,.int .i64 (dE oV),.bool (dN oD),.slice b (ws (dX oD)).length cb,.int .i64 (dE oD)],.int .i64 mode] u fun r w'=>r=.returned (.tuple #[.float .f64 X,.int .i64 E])∧Below u.heap.size u w'):=fun u a b ca cb hTu n1 n2=>by
       have:=Quot14 mode FV FD n1 n2 hTu;rw [hz] at this;exact this
      have hwr:IntKind.i64.wrap ((kn:Int)+1)=(kn:Int)+1:=by rw [IntKind.wrap_i64];omega
      have HT:=qsd HX.out.2.2;have hdr:=(Below.refl V.heap.size V).drew;have BD:=(qsd (ai (B4.out.1.below hdr B4.out.1.lt) (B4.out.2.1.trans (hdr.mono B4.out.2.1.size))));have C1:=hid (HAb.out V.drew hdr);clear hz HZ hoV hoD hoN FV FD hdr n6 PF HX HAb hk4 hq bn h0 hx0;have kS:Aside (V.drew.cell? ⟨g7,0,none⟩=some (.slice (some ⟨gA,0,none⟩) n n)∧V.drew.cell? ⟨g7,1,none⟩=some (.bool (dN oS))∧V.drew.cell? ⟨g7,2,none⟩=some (.slice p1 (ws (dX oS)).length q1)∧V.drew.cell? ⟨g7,3,none⟩=some (.int .i64 (dE oS))):=⟨BD.out.1.cell 0 _ rfl,BD.out.1.cell 1 _ rfl,BD.out.1.cell 2 _ rfl,BD.out.1.cell 3 _ rfl⟩
      go_wp2_with fail
      clear s0 B4
      go_region_held3 (fun w'=>w'.cell? ⟨g7,0,none⟩=some (.slice (some ⟨gA,0,none⟩) n n)∧w'.cell? ⟨g7,1,none⟩=some (.bool (dN oS))∧w'.cell? ⟨g7,2,none⟩=some (.slice p1 (ws (dX oS)).length q1)∧w'.cell? ⟨g7,3,none⟩=some (.int .i64 (dE oS))) (with_reducible exact kS.out) (first
       | (go_at_call 50
          with_reducible refine C1.out.mono ?_
          rintro r u3 ⟨hd,hb⟩;obtain ⟨a3,c3,rfl,hN3⟩:=hd.shp14;have BD:=qsd (ai (BD.out.1.below hb BD.out.1.lt) (ai (BD.out.2.trans (hb.mono BD.out.2.size)) hN3));have kS:=qsd (ai (cb14 kS.out.1 hb) (ai (cb14 kS.out.2.1 hb) (ai (cb14 kS.out.2.2.1 hb) (cb14 kS.out.2.2.2 hb))));have C2:=hid (HIn.out u3 (HT.out.belows BD.out.2.1));clear hb hd hN3 C1)
       | (go_at_call 52
          with_reducible refine C2.out.mono ?_
          rintro r u4 ⟨hd,hb⟩;obtain ⟨a4,c4,rfl,hN4⟩:=hd.shp14;have BE:=qsd (ai (BD.out.2.1.trans (hb.mono BD.out.2.1.size)) (ai (BD.out.2.2.below hb) hN4));have kS:=qsd (ai (cb14 kS.out.1 hb) (ai (cb14 kS.out.2.1 hb) (ai (cb14 kS.out.2.2.1 hb) (cb14 kS.out.2.2.2 hb))));have C3:=hid (HRa.out u4 a4 c4 (HT.out.belows BE.out.1) BE.out.2.2);clear hb hd hN4 C2)
       | (go_at_call 51
          with_reducible refine C3.out.mono ?_
          rintro r u5 ⟨hd,hb⟩;obtain ⟨a5,c5,rfl,hN5⟩:=hd.shp14;have BG:=qsd (ai (BE.out.1.trans (hb.mono BE.out.1.size)) (ai (BE.out.2.1.below hb) hN5));have kS:=qsd (ai (cb14 kS.out.1 hb) (ai (cb14 kS.out.2.1 hb) (ai (cb14 kS.out.2.2.1 hb) (cb14 kS.out.2.2.2 hb))));have C4:=hid (HR.out u5 a3 a5 c3 c5 (HT.out.belows BG.out.1) BG.out.2.1 BG.out.2.2);clear hb hd hN5 C3)
       | (go_at_call 37
          with_reducible refine C4.out.mono ?_
          rintro r u6 ⟨rfl,hb⟩;have BF:=qsd (BG.out.1.trans (hb.mono BG.out.1.size));have kS:=qsd (ai (cb14 kS.out.1 hb) (ai (cb14 kS.out.2.1 hb) (ai (cb14 kS.out.2.2.1 hb) (cb14 kS.out.2.2.2 hb))));clear hb C4))
      go_wp2;exact bodyPost_ret (v:=.tuple #[.float .f64 X,.int .i64 E]) (by simp [results,Tryz.results15,go_sem]) rfl ⟨rfl,BF.out⟩
end
end Go.Proofs.YtflkmfdlpfimcaaGreatDoor
