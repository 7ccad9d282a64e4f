import Derived.Test.YtopgffjnejaijaaGreatDoorFI8x
set_option linter.unusedVariables false
set_option linter.unusedSimpArgs false
set_option maxHeartbeats 16000000
set_option maxRecDepth 20000
namespace Go.Proofs.YtopgffjnejaijaaGreatDoor
namespace J
end J
section
open Go.RowKit J
attribute [local go_sem] Ps.st_floatP
structure L5 (w v:World) (gF gA gB gS gP gQ:Nat) (oA oB oS oP oQ:Option (Bool×Nat×Int)) (C:List Value):Prop where
 a:Lo v gA oA
 b:Lo v gB oB
 s:Lo v gS oS
 p:Lo v gP oP
 q:Lo v gQ oQ
 f:Bl v gF 26 C
 bel:Below w.heap.size w v
 ord:w.heap.size≤gF∧gF<gA∧gA<gB∧gB<gS∧gS<gP∧gP<gQ
section
variable {w v u : World} {gF gA gB gS gP gQ : Nat} {oA oB oS oP oQ : Option (Bool × Nat × Int)} {C : List Value}
theorem L5.below (h:L5 w v gF gA gB gS gP gQ oA oB oS oP oQ C) (hb:Below v.heap.size v u):L5 w u gF gA gB gS gP gQ oA oB oS oP oQ C :=
 ⟨h.a.below hb,h.b.below hb,h.s.below hb,h.p.below hb,h.q.below hb,h.f.below hb h.f.lt,h.bel.trans (hb.mono h.bel.size),h.ord⟩
theorem L5.setP (h:L5 w v gF gA gB gS gP gQ oA oB oS oP oQ C) {o:Option (Bool×Nat×Int)}{a:Option Addr}{c:Nat}(hN:Nt 0 v (.slice a (ws (dX o)).length c) (dX o)):L5 w (st3 v gP (.bool (dN o)) (.slice a (ws (dX o)).length c) (.int .i64 (dE o))) gF gA gB gS gP gQ oA oB oS o oQ C:=by
 obtain ⟨o0,o1,o2,o3,o4,o5⟩:=h.ord;exact ⟨h.a.other h.p (by omega) _ _ _,h.b.other h.p (by omega) _ _ _,h.s.other h.p (by omega) _ _ _,h.p.set hN,h.q.other h.p (by omega) _ _ _,h.f.but (st3_but12 gP v _ _ _) (by omega),st3_bel12 h.bel h.bel.size (by omega) _ _ _,h.ord⟩
theorem L5.setQ (h:L5 w v gF gA gB gS gP gQ oA oB oS oP oQ C) {o:Option (Bool×Nat×Int)}{a:Option Addr}{c:Nat}(hN:Nt 0 v (.slice a (ws (dX o)).length c) (dX o)):L5 w (st3 v gQ (.bool (dN o)) (.slice a (ws (dX o)).length c) (.int .i64 (dE o))) gF gA gB gS gP gQ oA oB oS oP o C:=by
 obtain ⟨o0,o1,o2,o3,o4,o5⟩:=h.ord;exact ⟨h.a.other h.q (by omega) _ _ _,h.b.other h.q (by omega) _ _ _,h.s.other h.q (by omega) _ _ _,h.p.other h.q (by omega) _ _ _,h.q.set hN,h.f.but (st3_but12 gQ v _ _ _) (by omega),st3_bel12 h.bel h.bel.size (by omega) _ _ _,h.ord⟩
theorem L5.setS (h:L5 w v gF gA gB gS gP gQ oA oB oS oP oQ C) {o:Option (Bool×Nat×Int)}{a:Option Addr}{c:Nat}(hN:Nt 0 v (.slice a (ws (dX o)).length c) (dX o)):L5 w (st3 v gS (.bool (dN o)) (.slice a (ws (dX o)).length c) (.int .i64 (dE o))) gF gA gB gS gP gQ oA oB o oP oQ C:=by
 obtain ⟨o0,o1,o2,o3,o4,o5⟩:=h.ord;exact ⟨h.a.other h.s (by omega) _ _ _,h.b.other h.s (by omega) _ _ _,h.s.set hN,h.p.other h.s (by omega) _ _ _,h.q.other h.s (by omega) _ _ _,h.f.but (st3_but12 gS v _ _ _) (by omega),st3_bel12 h.bel h.bel.size (by omega) _ _ _,h.ord⟩
end
structure L3 (w v:World) (gF gA gB gS:Nat) (oA oB oS:Option (Bool×Nat×Int)) (C:List Value):Prop where
 a:Lo v gA oA
 b:Lo v gB oB
 s:Lo v gS oS
 f:Bl v gF 26 C
 bel:Below w.heap.size w v
 ord:w.heap.size≤gF∧gF<gA∧gA<gB∧gB<gS
theorem L3.below {w v u:World}{gF gA gB gS:Nat}{oA oB oS:Option (Bool×Nat×Int)}{C:List Value}(h:L3 w v gF gA gB gS oA oB oS C) (hb:Below v.heap.size v u):L3 w u gF gA gB gS oA oB oS C :=
 ⟨h.a.below hb,h.b.below hb,h.s.below hb,h.f.below hb h.f.lt,h.bel.trans (hb.mono h.bel.size),h.ord⟩
theorem L5.l3 {w v:World}{gF gA gB gS gP gQ:Nat}{oA oB oS oP oQ:Option (Bool×Nat×Int)}{C:List Value}(h:L5 w v gF gA gB gS gP gQ oA oB oS oP oQ C):L3 w v gF gA gB gS oA oB oS C:=⟨h.a,h.b,h.s,h.f,h.bel,h.ord.1,h.ord.2.1,h.ord.2.2.1,h.ord.2.2.2.1⟩
theorem zS_take19 {P:List (Nat×Nat)}(f:Nat×Nat→Int) (k:Nat) (hk:k<P.length):zS f (P.take (k+1))=zS f (P.take k)+f P[k]:=by
 rw [List.take_succ_eq_append_getElem hk];generalize P.take k=L
 induction L with
 | nil=>show f P[k]+0=0+f P[k];omega
 | cons x L ih=>show f x+zS f (L++[P[k]])=f x+zS f L+f P[k];rw [ih];omega
theorem zip_at {xs ys:List Nat}(hl:xs.length=ys.length) (k:Nat) (hk:k<xs.length):(xs.zip ys)[k]'(by rw [List.length_zip];omega)=(xs.getD k 0,ys.getD k 0):=by
 rw [List.getElem_zip];simp [List.getD_eq_getElem?_getD,List.getElem?_eq_getElem hk,List.getElem?_eq_getElem (show k<ys.length by omega)]
theorem sqL_take {xs ys:List Nat}(hl:xs.length=ys.length) (j:Nat) (A B:Int) (k:Nat) (hk:k<xs.length):sqL j A B ((xs.zip ys).take (k+1))=sqL j A B ((xs.zip ys).take k)+rL j A B (xs.getD k 0,ys.getD k 0)*rL j A B (xs.getD k 0,ys.getD k 0):=by
 unfold sqL;rw [zS_take19 _ k (by rw [List.length_zip];omega),zip_at hl k hk]
theorem round_eqs {x y:Nat}{A B S:Int}(bx:Bd 2098 (fvW x)) (bby:Bd 2098 (fvW y)) (ba:Bd 2098 A) (bb:Bd 2098 B) (bS:Bd 8412 S) (j:Nat) (hj:j=1074) :
 (mulD (gV 1074 (fvW x)) (gV 1074 B)=gV 2148 (fvW x*B)∧Fm (gV 2148 (fvW x*B))) ∧
 (addD (gV 1074 (fvW y)) (mkS (!dN (gV 1074 A)) (dX (gV 1074 A)) (dE (gV 1074 A)))=gV 1074 (fvW y-A)∧Fm (gV 1074 (fvW y-A))) ∧
 (addD (gV 1074 (fvW y-A)) (mkS (!dN (gV 2148 (fvW x*B))) (dX (gV 2148 (fvW x*B))) (dE (gV 2148 (fvW x*B))))=gV 2148 (rL j A B (x,y))∧Fm (gV 2148 (rL j A B (x,y)))) ∧
 (mulD (gV 2148 (rL j A B (x,y))) (gV 2148 (rL j A B (x,y)))=gV 4296 (rL j A B (x,y)*rL j A B (x,y))∧Fm (gV 4296 (rL j A B (x,y)*rL j A B (x,y)))) ∧
 (addD (gV 4296 S) (gV 4296 (rL j A B (x,y)*rL j A B (x,y)))=gV 4296 (S+rL j A B (x,y)*rL j A B (x,y))∧Fm (gV 4296 (S+rL j A B (x,y)*rL j A B (x,y))))∧Bd 4198 (rL j A B (x,y)):=by
 have b1:=bx.mul bb;have b2:=bby.sub ba
 have b3:Bd 3173 ((fvW y-A)*((2^j:Nat):Int)):=by
  have:=b2.mul (Bd.nat (Nat.le_refl (2^j)));exact this.mono (by omega)
 have b4:Bd 4198 (rL j A B (x,y)):=(Bd.sub (m:=4196) (b3.mono (by omega)) b1).mono (by omega)
 have b5:=b4.mul b4;refine ⟨⟨gm bx bb,gf b1⟩,⟨gs bby ba,gf b2⟩,⟨?_,gf b4⟩,⟨gm b4 b4,gf b5⟩,⟨?_,?_⟩,b4⟩
 · have e:=g_scale (u:=1074) (k:=j) (m:=2099) (by omega) (by omega) b2
   rw [show 1074+j=2148 by omega] at e
   rw [←e];exact gs (m:=4196) (b3.mono (by omega)) b1
 · exact ga (m:=8412) bS (b5.mono (by omega))
 · exact gf (bS.add (b5.mono (by omega)))
theorem sqL_bd {xs ys:List Nat}(G:Gd xs ys) {A B:Int}(ba:Bd 2098 A) (bb:Bd 2098 B) (j:Nat) (hj:j=1074) (k:Nat):Bd 8412 (sqL j A B ((xs.zip ys).take k)):=by
 unfold sqL;refine zS_bd (m:=8396) (fun p hp=>?_) (by rw [List.length_take,List.length_zip];have:=G.le;omega)
 have hp:=List.of_mem_zip (List.mem_of_mem_take hp);have:=(round_eqs (x:=p.1) (y:=p.2) (fv_bd (G.x64 _ hp.1) (G.xf _ hp.1)) (fv_bd (G.y64 _ hp.2) (G.yf _ hp.2)) ba bb (Bd.zero 8412) j hj).2.2.2.2.2;exact this.mul this
theorem fit_inv {xs ys:List Nat}{mode N:Int}{s k t l:Nat}(h:fitR xs ys mode=(N,s,k,t,l,0)):amE xs ys [] mode 2=0∧fD xs ys≠0∧l=(qR19 (gV 4296 (fD xs ys*fT xs ys-fC xs ys*fC xs ys)) (gV 2148 ((xs.length:Int)*fD xs ys)) mode).1:=by
 have hE:amE xs ys [] mode 2=0:=by
  by_cases q:amE xs ys [] mode 2=0
  · exact q
  · unfold fitR at h
    rw [if_pos q] at h;exact congrArg (fun z=>z.2.2.2.2.2) h
 have hD:fD xs ys≠0:=by
  intro q;unfold fitR at h;rw [if_neg (by simpa using hE),if_pos q] at h
  have:(190:Int)=0:=congrArg (fun z=>z.2.2.2.2.2) h
  omega
 rw [fit_ok hE hD] at h;exact ⟨hE,hD,(congrArg (fun z=>z.2.2.2.2.1) h).symm⟩
theorem walk_FitLeast (a b:Option Addr) (n m c d:Nat) (xs ys:List Nat) (x y:Nat) (w:World) (hT:Tab w) (hC:CameF w a n c xs) (hm:n≤17592186043904) (hC2:CameF w b m d ys) (hm2:m≤17592186043904) (hx:x<18446744073709551616) (hy:y<18446744073709551616) :
 Calls Tryz.prog 6 #[.slice a n c,.slice b m d,.float .f64 x,.float .f64 y] w fun r w'=>r=.returned (.bool true)∧Below w.heap.size w w':=by
 obtain ⟨hl1,hcap,hW1,hF1,_⟩:=hC;obtain ⟨hl2,hcap2,hW2,hF2,_⟩:=hC2;have HL:=hid (live19 w hT);obtain ⟨⟨N,s,k,t,l,E⟩,hR⟩:∃ z,fitR xs ys 3=z:=⟨_,rfl⟩;have HM:=hid (fun (u:World) (hb:Below w.heap.size w u)=>Line19z xs ys a b n m c d 3 u hl1 hl2 ((hF1.below hb).mono hb.size) ((hF2.below hb).mono hb.size) hW1 hW2 (hT.belows hb) hR)
 have HX:=(qsd (ai hl1 (ai hl2 (ai hF1 (ai hF2 (ai hW1 (ai hW2 (ai hT (ai hR (ai hx hy))))))))));clear hl1 hl2 hF1 hF2 hW1 hW2 hT hR hm hm2 hcap hcap2;go_enter Tryz.func6,Tryz.ntmps6
 go_wp2_with fail
 refine HL.out.mono ?_;rintro r u ⟨rfl,hb⟩;have B1:=qsd hb;have C:=hid (HM.out u hb);clear hb HL HM
 go_wp2_with fail
 refine C.out.mono ?_;clear C;rintro r u1 ⟨rfl,hb⟩;obtain ⟨U1,hU1⟩:∃ U,U=u1.alloc (Obj.cells #[.int .i64 N,.float .f64 s,.float .f64 k,.float .f64 t,.float .f64 l] 26):=⟨_,rfl⟩;obtain ⟨gF,hgF⟩:∃ g,g=u1.heap.size:=⟨_,rfl⟩
 have B2:Aside (Below w.heap.size w U1∧Bl U1 gF 26 [.int .i64 N,.float .f64 s,.float .f64 k,.float .f64 t,.float .f64 l]∧w.heap.size≤gF):=by
  have hb2:=B1.out.trans (hb.mono B1.out.size);rw [hU1,hgF];exact ⟨hb2.trans ((bel_alloc _ _).mono hb2.size),Bl.new _ 26 [.int .i64 N,.float .f64 s,.float .f64 k,.float .f64 t,.float .f64 l],hb2.size⟩
 have HU1:=(qsd (ai hU1 hgF));clear hU1 hgF hb B1
 by_cases fx:finW x
 · have C:=hid (of14 x HX.out.2.2.2.2.2.2.2.2.1 fx U1 (HX.out.2.2.2.2.2.2.1.belows B2.out.1))
   go_upto_region 3 with fail
   rw [←HU1.out.1,←HU1.out.2];clear HU1
   go_wp2_with fail
   refine C.out.mono ?_;clear C;rintro r u2 ⟨⟨v,rfl,hv⟩,hb⟩;have FA:=qsd (gf (u:=1074) (fv_bd HX.out.2.2.2.2.2.2.2.2.1 fx));obtain ⟨aA,cA,rfl,hN⟩:=Lo.shape FA.out hv;obtain ⟨oA,hoA⟩:∃ o,o=gV 1074 (fvW x):=⟨_,rfl⟩;have HoA:=qsd hoA;have FX:=qsd fx;rw [←hoA] at hN FA ⊢;obtain ⟨U2,hU2⟩:∃ U,U=u2.alloc (Obj.cells #[.bool (dN oA),.slice aA (ws (dX oA)).length cA,.int .i64 (dE oA)] 42):=⟨_,rfl⟩;obtain ⟨gA,hgA⟩:∃ g,g=u2.heap.size:=⟨_,rfl⟩
   have B3:Aside (Below w.heap.size w U2∧Bl U2 gF 26 [.int .i64 N,.float .f64 s,.float .f64 k,.float .f64 t,.float .f64 l]∧w.heap.size≤gF∧gF<gA∧Lo U2 gA oA):=by
    have hb2:Below U1.heap.size U1 U2:=by rw [hU2];exact hb.trans ((bel_alloc _ _).mono hb.size)
    refine ⟨B2.out.1.trans (hb2.mono B2.out.1.size),B2.out.2.1.below hb2 B2.out.2.1.lt,B2.out.2.2,by rw [hgA];have:=B2.out.2.1.lt;have:=hb.size;omega,?_⟩
    rw [hU2,hgA];exact Lo.new hN
   have HU2:=(qsd (ai hU2 hgA));clear hU2 hgA hb hN hv hoA B2 fx
   by_cases fy:finW y
   · have C:=hid (of14 y HX.out.2.2.2.2.2.2.2.2.2 fy U2 (HX.out.2.2.2.2.2.2.1.belows B3.out.1))
     go_upto_region 4 with fail
     rw [←HU2.out.1,←HU2.out.2];clear HU2
     go_wp2_with fail
     refine C.out.mono ?_;clear C;rintro r u3 ⟨⟨v,rfl,hv⟩,hb⟩;have FB:=qsd (gf (u:=1074) (fv_bd HX.out.2.2.2.2.2.2.2.2.2 fy));obtain ⟨aB,cB,rfl,hN⟩:=Lo.shape FB.out hv;obtain ⟨oB,hoB⟩:∃ o,o=gV 1074 (fvW y):=⟨_,rfl⟩;have HoB:=qsd hoB;have FY:=qsd fy;rw [←hoB] at hN FB ⊢;obtain ⟨U3,hU3⟩:∃ U,U=u3.alloc (Obj.cells #[.bool (dN oB),.slice aB (ws (dX oB)).length cB,.int .i64 (dE oB)] 42):=⟨_,rfl⟩;obtain ⟨gB,hgB⟩:∃ g,g=u3.heap.size:=⟨_,rfl⟩
     have B4:Aside (Below w.heap.size w U3∧Bl U3 gF 26 [.int .i64 N,.float .f64 s,.float .f64 k,.float .f64 t,.float .f64 l]∧w.heap.size≤gF∧gF<gA∧Lo U3 gA oA∧gA<gB∧Lo U3 gB oB):=by
      have hb2:Below U2.heap.size U2 U3:=by rw [hU3];exact hb.trans ((bel_alloc _ _).mono hb.size)
      refine ⟨B3.out.1.trans (hb2.mono B3.out.1.size),B3.out.2.1.below hb2 B3.out.2.1.lt,B3.out.2.2.1,B3.out.2.2.2.1,B3.out.2.2.2.2.below hb2,by rw [hgB];have:=B3.out.2.2.2.2.lt;have:=hb.size;omega,?_⟩
      rw [hU3,hgB];exact Lo.new hN
     have HU3:=(qsd (ai hU3 hgB));clear hU3 hgB hb hN hv hoB B3 fy
     go_upto_region 5 with fail
     rw [←HU3.out.1,←HU3.out.2];clear HU3
     by_cases hE:E=0
     · subst hE
       rcases Nat.lt_or_ge 300 n with hq|hq
       · have d3:decide ((300:Int)<(n:Nat))=true:=by simp;omega
         have d4:300<n:=hq;go_wp2;exact bodyPost_ret (v:=.bool true) (by simp [results,Tryz.results6,go_sem]) rfl ⟨rfl,B4.out.1⟩
       · have d3:decide ((300:Int)<(n:Nat))=false:=by simp;omega
         have hinv:=fit_inv HX.out.2.2.2.2.2.2.2.1;obtain ⟨G,_,_,h2,_⟩:=am_ok HX.out.2.2.2.2.1 HX.out.2.2.2.2.2.1 hinv.1;have hnm:n=m:=by have:=HX.out.1;have:=HX.out.2.1;have:=G.len;omega
         have hn2:2≤n:=by have:=HX.out.1;omega
         have hn9:n≤300:=hq;obtain ⟨j,hj⟩:∃ j:Nat,j=1074:=⟨_,rfl⟩;have HG:=(qsd (ai G (ai hinv.2.1 (ai hinv.2.2 (ai hj hnm)))));clear hinv h2 hj hq hnm;obtain ⟨U4,hU4⟩:∃ U,U=U3.alloc (Obj.cells #[.bool false,.slice none 0 0,.int .i64 0] 42):=⟨_,rfl⟩;obtain ⟨gS,hgS⟩:∃ g,g=U3.heap.size:=⟨_,rfl⟩
         have B5:Aside (L3 w U4 gF gA gB gS oA oB (gV 4296 (sqL j (fvW x) (fvW y) ((xs.zip ys).take 0))) [.int .i64 N,.float .f64 s,.float .f64 k,.float .f64 t,.float .f64 l]):=by
          have hb2:Below U3.heap.size U3 U4:=by rw [hU4];exact bel_alloc _ _
          have e0:sqL j (fvW x) (fvW y) ((xs.zip ys).take 0)=0:=rfl;rw [e0,g_zero];refine ⟨B4.out.2.2.2.2.1.below hb2,B4.out.2.2.2.2.2.2.below hb2,?_,B4.out.2.1.below hb2 B4.out.2.1.lt,B4.out.1.trans (hb2.mono B4.out.1.size),B4.out.2.2.1,B4.out.2.2.2.1,B4.out.2.2.2.2.2.1,by rw [hgS];exact B4.out.2.2.2.2.2.2.lt⟩
          rw [hU4,hgS];exact Lo.zero _
         have HU4:=(qsd (ai hU4 hgS));clear hU4 hgS B4
         go_upto_region 8 with fail
         rw [←HU4.out.1,←HU4.out.2];clear HU4;go_wp2
         go_loopg [17] n (fun gk iv wr=>∃ q:Nat,gk+q=n∧iv=.int .i64 (q:Nat)∧Aside (L3 w wr gF gA gB gS oA oB (gV 4296 (sqL j (fvW x) (fvW y) ((xs.zip ys).take q))) [.int .i64 N,.float .f64 s,.float .f64 k,.float .f64 t,.float .f64 l]))
         case atStart=>exact ⟨0,by omega,by simp,B5.out⟩
         case round =>
          clear B5;obtain ⟨q,hgk,rfl,HA⟩:=hrel;have ba:Bd 2098 (fvW x):=fv_bd HX.out.2.2.2.2.2.2.2.2.1 FX.out;have bb:Bd 2098 (fvW y):=fv_bd HX.out.2.2.2.2.2.2.2.2.2 FY.out;have bS:=sqL_bd HG.out.1 ba bb j HG.out.2.2.2.1 q
          by_cases hk:q<n
          · have hkx:q<xs.length:=by have:=HX.out.1;omega
            have hky:q<ys.length:=by have:=HX.out.2.1;have:=HG.out.2.2.2.2;omega
            have hkm:q<m:=by have:=HG.out.2.2.2.2;omega
            obtain ⟨z1,hz1⟩:∃ z,z=xs.getD q 0:=⟨_,rfl⟩;obtain ⟨z2,hz2⟩:∃ z,z=ys.getD q 0:=⟨_,rfl⟩;have m1:z1 ∈ xs:=by rw [hz1,List.getD_eq_getElem?_getD,List.getElem?_eq_getElem hkx];exact List.getElem_mem hkx
            have m2:z2 ∈ ys:=by rw [hz2,List.getD_eq_getElem?_getD,List.getElem?_eq_getElem hky];exact List.getElem_mem hky
            have w1:=HG.out.1.x64 _ m1;have w2:=HG.out.1.y64 _ m2;have f1:=HG.out.1.xf _ m1;have f2:=HG.out.1.yf _ m2;have ht:=sqL_take HG.out.1.len j (fvW x) (fvW y) q hkx;rw [←hz1,←hz2] at ht;obtain ⟨⟨e3,F3⟩,⟨e4,F4⟩,⟨e5,F5⟩,⟨e6,F6⟩,⟨e7,F7⟩,_⟩:=round_eqs (fv_bd w1 f1) (fv_bd w2 f2) ba bb bS j HG.out.2.2.2.1;rw [←ht] at e7 F7;have F1:=gf (u:=1074) (fv_bd w1 f1);have F2:=gf (u:=1074) (fv_bd w2 f2);have FS:=gf (u:=4296) bS;obtain ⟨oS,hoS⟩:∃ o,o=gV 4296 (sqL j (fvW x) (fvW y) ((xs.zip ys).take q)):=⟨_,rfl⟩;obtain ⟨o1,ho1⟩:∃ o,o=gV 1074 (fvW z1):=⟨_,rfl⟩;obtain ⟨o2,ho2⟩:∃ o,o=gV 1074 (fvW z2):=⟨_,rfl⟩;obtain ⟨o3,ho3⟩:∃ o,o=gV 2148 (fvW z1*fvW y):=⟨_,rfl⟩;obtain ⟨o4,ho4⟩:∃ o,o=gV 1074 (fvW z2-fvW x):=⟨_,rfl⟩;obtain ⟨o5,ho5⟩:∃ o,o=gV 2148 (rL j (fvW x) (fvW y) (z1,z2)):=⟨_,rfl⟩;obtain ⟨o6,ho6⟩:∃ o,o=gV 4296 (rL j (fvW x) (fvW y) (z1,z2)*rL j (fvW x) (fvW y) (z1,z2)):=⟨_,rfl⟩;obtain ⟨o7,ho7⟩:∃ o,o=gV 4296 (sqL j (fvW x) (fvW y) ((xs.zip ys).take (q+1))):=⟨_,rfl⟩
            have C1:Hid (∀ u:World,Below w.heap.size w u→Calls Tryz.prog 16 #[.float .f64 z1] u fun r w'=>(∃ v,r=.returned (.tuple #[.agg #[.bool (dN o1),v,.int .i64 (dE o1)],.int .i64 0])∧Nt u.heap.size w' v (dX o1))∧Below u.heap.size u w'):=by
             rw [ho1];exact fun u hu=>of14 z1 w1 f1 u (HX.out.2.2.2.2.2.2.1.belows hu)
            have C2:Hid (∀ u:World,Below w.heap.size w u→Calls Tryz.prog 16 #[.float .f64 z2] u fun r w'=>(∃ v,r=.returned (.tuple #[.agg #[.bool (dN o2),v,.int .i64 (dE o2)],.int .i64 0])∧Nt u.heap.size w' v (dX o2))∧Below u.heap.size u w'):=by
             rw [ho2];exact fun u hu=>of14 z2 w2 f2 u (HX.out.2.2.2.2.2.2.1.belows hu)
            rw [←HoB.out,←ho1,←ho3] at e3;rw [←HoA.out,←ho2,←ho4] at e4;rw [←ho3,←ho4,←ho5] at e5;rw [←ho5,←ho6] at e6;rw [←hoS,←ho6,←ho7] at e7;rw [←ho1] at F1;rw [←ho2] at F2;rw [←ho3] at F3;rw [←ho4] at F4;rw [←ho5] at F5;rw [←ho6] at F6;rw [←ho7] at F7;rw [←hoS] at FS;have EQ:=(qsd (ai e3 (ai e4 (ai e5 (ai e6 e7)))));have FF:=(qsd (ai F1 (ai F2 (ai F3 (ai F4 (ai F5 (ai F6 (ai F7 FS))))))));have HB:=HA;rw [←hoS] at HB;have HT:Aside (∀ u:World,Below w.heap.size w u→Tab u):=fun u hu=>HX.out.2.2.2.2.2.2.1.belows hu
            have HO7:=qsd ho7;obtain ⟨b1,off1,rfl,hc1⟩:=HX.out.2.2.1.at HB.out.bel q hkx;rw [←hz1] at hc1;have HZ2:=(qsd (ai hz2 (ai hky HX.out.2.2.2.1)));clear e3 e4 e5 e6 e7 F1 F2 F3 F4 F5 F6 F7 FS HA ho1 ho2 ho3 ho4 ho5 ho6 ho7 hoS ht w1 w2 f1 f2 m1 m2 ba bb bS hz1 hz2 hkx hky;have C:=hid (C1.out wr HB.out.bel);clear C1
            go_wp2_with fail
            refine C.out.mono ?_;clear C hc1;rintro r u4 ⟨⟨v,rfl,hv⟩,hb⟩;obtain ⟨aP,cP,rfl,hN⟩:=Lo.shape FF.out.1 hv;obtain ⟨V1,hV1⟩:∃ U,U=u4.alloc (Obj.cells #[.bool (dN o1),.slice aP (ws (dX o1)).length cP,.int .i64 (dE o1)] 42):=⟨_,rfl⟩;obtain ⟨gP,hgP⟩:∃ g,g=u4.heap.size:=⟨_,rfl⟩
            have D1:Aside (L3 w V1 gF gA gB gS oA oB oS [.int .i64 N,.float .f64 s,.float .f64 k,.float .f64 t,.float .f64 l]∧Lo V1 gP o1∧gS<gP):=by
             have hb2:Below wr.heap.size wr V1:=by rw [hV1];exact hb.trans ((bel_alloc _ _).mono hb.size)
             refine ⟨HB.out.below hb2,?_,by rw [hgP];have:=HB.out.s.lt;have:=hb.size;omega⟩
             rw [hV1,hgP];exact Lo.new hN
            have HV1:=(qsd (ai hV1 hgP));clear hV1 hgP hb hN hv HB;obtain ⟨b2,off2,rfl,hc2⟩:=HZ2.out.2.2.at D1.out.1.bel q HZ2.out.2.1;rw [←HZ2.out.1] at hc2;have C:=hid (C2.out V1 D1.out.1.bel);clear C2
            go_upto_region 12 with fail
            rw [←HV1.out.1,←HV1.out.2];clear HV1
            go_wp2_with fail
            refine C.out.mono ?_;clear C hc2;rintro r u5 ⟨⟨v,rfl,hv⟩,hb⟩;obtain ⟨aQ,cQ,rfl,hN⟩:=Lo.shape FF.out.2.1 hv;obtain ⟨V2,hV2⟩:∃ U,U=u5.alloc (Obj.cells #[.bool (dN o2),.slice aQ (ws (dX o2)).length cQ,.int .i64 (dE o2)] 42):=⟨_,rfl⟩;obtain ⟨gQ,hgQ⟩:∃ g,g=u5.heap.size:=⟨_,rfl⟩
            have S0:Aside (L5 w V2 gF gA gB gS gP gQ oA oB oS o1 o2 [.int .i64 N,.float .f64 s,.float .f64 k,.float .f64 t,.float .f64 l]):=by
             have hb2:Below V1.heap.size V1 V2:=by rw [hV2];exact hb.trans ((bel_alloc _ _).mono hb.size)
             have h3:=D1.out.1.below hb2;refine ⟨h3.a,h3.b,h3.s,D1.out.2.1.below hb2,?_,h3.f,h3.bel,h3.ord.1,h3.ord.2.1,h3.ord.2.2.1,h3.ord.2.2.2,D1.out.2.2,by rw [hgQ];have:=D1.out.2.1.lt;have:=hb.size;omega⟩
             rw [hV2,hgQ];exact Lo.new hN
            have HV2:=(qsd (ai hV2 hgQ));clear hV2 hgQ hb hN hv D1
            go_upto_region 13 with fail
            rw [←HV2.out.1,←HV2.out.2];clear HV2;obtain ⟨a1,c1,DX,NX⟩:=S0.out.p;obtain ⟨a2,c2,DY,NY⟩:=S0.out.b;obtain ⟨x0,x1,x2,xf0,xf1,xf2⟩:=DX.facts;obtain ⟨y0,y1,y2,yf0,yf1,yf2⟩:=DY.facts;have C:=hid (mulP12 FF.out.1 FB.out NX NY (HT.out _ S0.out.bel) EQ.out.1 FF.out.2.2.1);clear DX DY NX NY
            go_wp2_with fail
            refine C.out.mono ?_;clear C x0 x1 x2 xf0 xf1 xf2 y0 y1 y2 yf0 yf1 yf2;rintro r t0 ⟨⟨v,rfl,hv⟩,hb⟩;obtain ⟨a3,c3,rfl,hN⟩:=Lo.shape FF.out.2.2.1 hv;have T0:=qsd (S0.out.below hb);obtain ⟨a4,c4,DD,_⟩:=T0.out.p;obtain ⟨x0,x1,x2,xf0,xf1,xf2⟩:=DD.facts;obtain ⟨Y0,hY⟩:∃ U,U=((t0.setCell ⟨gP,0,none⟩ (.bool (dN o3))).setCell ⟨gP,1,none⟩ (.slice a3 (ws (dX o3)).length c3)).setCell ⟨gP,2,none⟩ (.int .i64 (dE o3)):=⟨_,rfl⟩;have S1:Aside (L5 w Y0 gF gA gB gS gP gQ oA oB oS o3 o2 [.int .i64 N,.float .f64 s,.float .f64 k,.float .f64 t,.float .f64 l]):=by rw [hY];exact T0.out.setP hN
            have HY:=qsd hY;clear hv hN hb DD S0 T0 hY
            go_upto_region 14 with fail
            rw [←HY.out];clear HY x0 x1 x2 xf0 xf1 xf2;obtain ⟨a1,c1,DX,NX⟩:=S1.out.q;obtain ⟨a2,c2,DY,NY⟩:=S1.out.a;obtain ⟨x0,x1,x2,xf0,xf1,xf2⟩:=DX.facts;obtain ⟨y0,y1,y2,yf0,yf1,yf2⟩:=DY.facts;have C:=hid (sub19 FF.out.2.1 FA.out NX NY (HT.out _ S1.out.bel) EQ.out.2.1 FF.out.2.2.2.1);clear DX DY NX NY
            go_wp2_with fail
            refine C.out.mono ?_;clear C x0 x1 x2 xf0 xf1 xf2 y0 y1 y2 yf0 yf1 yf2;rintro r t1 ⟨⟨v,rfl,hv⟩,hb⟩;obtain ⟨a3,c3,rfl,hN⟩:=Lo.shape FF.out.2.2.2.1 hv;have T1:=qsd (S1.out.below hb);obtain ⟨a4,c4,DD,_⟩:=T1.out.q;obtain ⟨x0,x1,x2,xf0,xf1,xf2⟩:=DD.facts;obtain ⟨Y1,hY⟩:∃ U,U=((t1.setCell ⟨gQ,0,none⟩ (.bool (dN o4))).setCell ⟨gQ,1,none⟩ (.slice a3 (ws (dX o4)).length c3)).setCell ⟨gQ,2,none⟩ (.int .i64 (dE o4)):=⟨_,rfl⟩;have S2:Aside (L5 w Y1 gF gA gB gS gP gQ oA oB oS o3 o4 [.int .i64 N,.float .f64 s,.float .f64 k,.float .f64 t,.float .f64 l]):=by rw [hY];exact T1.out.setQ hN
            have HY:=qsd hY;clear hv hN hb DD S1 T1 hY
            go_upto_region 15 with fail
            rw [←HY.out];clear HY x0 x1 x2 xf0 xf1 xf2;obtain ⟨a1,c1,DX,NX⟩:=S2.out.q;obtain ⟨a2,c2,DY,NY⟩:=S2.out.p;obtain ⟨x0,x1,x2,xf0,xf1,xf2⟩:=DX.facts;obtain ⟨y0,y1,y2,yf0,yf1,yf2⟩:=DY.facts;have C:=hid (sub19 FF.out.2.2.2.1 FF.out.2.2.1 NX NY (HT.out _ S2.out.bel) EQ.out.2.2.1 FF.out.2.2.2.2.1);clear DX DY NX NY
            go_wp2_with fail
            refine C.out.mono ?_;clear C x0 x1 x2 xf0 xf1 xf2 y0 y1 y2 yf0 yf1 yf2;rintro r t2 ⟨⟨v,rfl,hv⟩,hb⟩;obtain ⟨a3,c3,rfl,hN⟩:=Lo.shape FF.out.2.2.2.2.1 hv;have T2:=qsd (S2.out.below hb);obtain ⟨a4,c4,DD,_⟩:=T2.out.q;obtain ⟨x0,x1,x2,xf0,xf1,xf2⟩:=DD.facts;obtain ⟨Y2,hY⟩:∃ U,U=((t2.setCell ⟨gQ,0,none⟩ (.bool (dN o5))).setCell ⟨gQ,1,none⟩ (.slice a3 (ws (dX o5)).length c3)).setCell ⟨gQ,2,none⟩ (.int .i64 (dE o5)):=⟨_,rfl⟩;have S3:Aside (L5 w Y2 gF gA gB gS gP gQ oA oB oS o3 o5 [.int .i64 N,.float .f64 s,.float .f64 k,.float .f64 t,.float .f64 l]):=by rw [hY];exact T2.out.setQ hN
            have HY:=qsd hY;clear hv hN hb DD S2 T2 hY
            go_upto_region 16 with fail
            rw [←HY.out];clear HY x0 x1 x2 xf0 xf1 xf2;obtain ⟨a1,c1,DX,NX⟩:=S3.out.q;obtain ⟨x0,x1,x2,xf0,xf1,xf2⟩:=DX.facts;have C:=hid (mulP12 FF.out.2.2.2.2.1 FF.out.2.2.2.2.1 NX NX (HT.out _ S3.out.bel) EQ.out.2.2.2.1 FF.out.2.2.2.2.2.1);clear DX NX
            go_wp2_with fail
            refine C.out.mono ?_;clear C x0 x1 x2 xf0 xf1 xf2;rintro r t3 ⟨⟨v,rfl,hv⟩,hb⟩;obtain ⟨a3,c3,rfl,hN⟩:=Lo.shape FF.out.2.2.2.2.2.1 hv;have T3:=qsd (S3.out.below hb);obtain ⟨a4,c4,DD,_⟩:=T3.out.q;obtain ⟨x0,x1,x2,xf0,xf1,xf2⟩:=DD.facts;obtain ⟨Y3,hY⟩:∃ U,U=((t3.setCell ⟨gQ,0,none⟩ (.bool (dN o6))).setCell ⟨gQ,1,none⟩ (.slice a3 (ws (dX o6)).length c3)).setCell ⟨gQ,2,none⟩ (.int .i64 (dE o6)):=⟨_,rfl⟩;have S4:Aside (L5 w Y3 gF gA gB gS gP gQ oA oB oS o3 o6 [.int .i64 N,.float .f64 s,.float .f64 k,.float .f64 t,.float .f64 l]):=by rw [hY];exact T3.out.setQ hN
            have HY:=qsd hY;clear hv hN hb DD S3 T3 hY
            go_upto_region 17 with fail
            rw [←HY.out];clear HY x0 x1 x2 xf0 xf1 xf2;obtain ⟨a1,c1,DX,NX⟩:=S4.out.s;obtain ⟨a2,c2,DY,NY⟩:=S4.out.q;obtain ⟨x0,x1,x2,xf0,xf1,xf2⟩:=DX.facts;obtain ⟨y0,y1,y2,yf0,yf1,yf2⟩:=DY.facts;have C:=hid (addP12' FF.out.2.2.2.2.2.2.2 FF.out.2.2.2.2.2.1 NX NY (HT.out _ S4.out.bel) EQ.out.2.2.2.2 FF.out.2.2.2.2.2.2.1);clear DX DY NX NY
            go_wp2_with fail
            refine C.out.mono ?_;clear C x0 x1 x2 xf0 xf1 xf2 y0 y1 y2 yf0 yf1 yf2;rintro r t4 ⟨⟨v,rfl,hv⟩,hb⟩;obtain ⟨a3,c3,rfl,hN⟩:=Lo.shape FF.out.2.2.2.2.2.2.1 hv;have T4:=qsd (S4.out.below hb);obtain ⟨a4,c4,DD,_⟩:=T4.out.s;obtain ⟨x0,x1,x2,xf0,xf1,xf2⟩:=DD.facts;obtain ⟨Y4,hY⟩:∃ U,U=((t4.setCell ⟨gS,0,none⟩ (.bool (dN o7))).setCell ⟨gS,1,none⟩ (.slice a3 (ws (dX o7)).length c3)).setCell ⟨gS,2,none⟩ (.int .i64 (dE o7)):=⟨_,rfl⟩;have S5:Aside (L5 w Y4 gF gA gB gS gP gQ oA oB o7 o3 o6 [.int .i64 N,.float .f64 s,.float .f64 k,.float .f64 t,.float .f64 l]):=by rw [hY];exact T4.out.setS hN
            have HY:=qsd hY;clear hv hN hb DD S4 T4 hY
            go_upto_region 10 with fail
            rw [←HY.out];clear HY x0 x1 x2 xf0 xf1 xf2;have hkb:q<4611686018427387904:=by omega
            go_wp2
            go_roundg (gk-1)
            case measure=>omega
            case rel=>exact ⟨q+1,by omega,by first | rfl | simp,by rw [←HO7.out];exact S5.out.l3⟩
          · obtain rfl:q=n:=by omega
            have hd:¬ q<q:=by omega
            have hD0:0<fD xs ys:=by have:=fD_nn HG.out.1.len;have:=HG.out.2.1;omega
            have hqx:xs.length=q:=HX.out.1.symm;have hle:=least19 HG.out.1 hD0 (by omega) (fvW x) (fvW y) j 3222 HG.out.2.2.2.1 rfl
            rw [←HG.out.2.2.1] at hle;obtain ⟨l1,l2,_⟩:=q_down (u:=4296) (v:=2148) (by omega) (by omega) (k:=8459) (by omega) (show 0≤fD xs ys*fT xs ys-fC xs ys*fC xs ys by have:=cs_nn HG.out.1.len (show fD xs ys≠0 by omega);omega) (Int.mul_pos (show (0:Int)<(xs.length:Int) by omega) hD0) ((HG.out.1.d.mul HG.out.1.t).sub (HG.out.1.c.mul HG.out.1.c)) ((HG.out.1.n16.mul HG.out.1.d).mono (by omega))
            rw [←HG.out.2.2.1] at l1 l2;have et:(xs.zip ys).take q=xs.zip ys:=List.take_of_length_le (by rw [List.length_zip];omega)
            rw [et] at HA bS;obtain ⟨mm,hmm⟩:∃ m:Nat,m=3222:=⟨_,rfl⟩;have bl:=fv_bd l1 l2;have eL:=g_scale (u:=1074) (k:=mm) (m:=2098) (by omega) (by omega) bl
            rw [show 1074+mm=4296 by omega] at eL
            have bL:Bd 8412 (fvW l*((2^mm:Nat):Int)):=(bl.mul (Bd.nat (Nat.le_refl (2^mm)))).mono (by omega)
            rw [←hmm] at hle;have FL:=gf (u:=1074) bl;have CO:Hid (∀ u:World,Below w.heap.size w u→Calls Tryz.prog 16 #[.float .f64 l] u fun r w'=>(∃ v,r=.returned (.tuple #[.agg #[.bool (dN (gV 1074 (fvW l))),v,.int .i64 (dE (gV 1074 (fvW l)))],.int .i64 0])∧Nt u.heap.size w' v (dX (gV 1074 (fvW l))))∧Below u.heap.size u w'):=fun u hu=>of14 l l1 l2 u (HX.out.2.2.2.2.2.2.1.belows hu)
            obtain ⟨cz,hcz⟩:∃ z,z=cmpZ (fvW l*((2^mm:Nat):Int)) (sqL j (fvW x) (fvW y) (xs.zip ys)):=⟨_,rfl⟩;have hc0:cz≤0:=by rw [hcz];unfold cmpZ;split;omega;split <;> omega
            have CC:Hid (∀ (u:World) (p1 p2:Option Addr) (q1 q2:Nat),Nt 0 u (.slice p1 (ws (dX (gV 1074 (fvW l)))).length q1) (dX (gV 1074 (fvW l)))→Nt 0 u (.slice p2 (ws (dX (gV 4296 (sqL j (fvW x) (fvW y) (xs.zip ys))))).length q2) (dX (gV 4296 (sqL j (fvW x) (fvW y) (xs.zip ys))))→Calls Tryz.prog 20 #[.agg #[.bool (dN (gV 1074 (fvW l))),.slice p1 (ws (dX (gV 1074 (fvW l)))).length q1,.int .i64 (dE (gV 1074 (fvW l)))],.agg #[.bool (dN (gV 4296 (sqL j (fvW x) (fvW y) (xs.zip ys)))),.slice p2 (ws (dX (gV 4296 (sqL j (fvW x) (fvW y) (xs.zip ys))))).length q2,.int .i64 (dE (gV 4296 (sqL j (fvW x) (fvW y) (xs.zip ys))))]] u fun r w'=>r=.returned (.int .i64 cz)∧Below u.heap.size u w'):=by
             rw [hcz,←eL];exact fun u p1 p2 q1 q2 h1 h2=>Cmp19 (by omega) (by omega) bL bS h1 h2
            obtain ⟨oL,hoL⟩:∃ o,o=gV 1074 (fvW l):=⟨_,rfl⟩;obtain ⟨oS,hoS⟩:∃ o,o=gV 4296 (sqL j (fvW x) (fvW y) (xs.zip ys)):=⟨_,rfl⟩;rw [←hoL] at CO CC FL;rw [←hoS] at CC HA;have FFL:=qsd FL;have hcd:decide (cz≤0)=true:=decide_eq_true hc0;clear hcz hle l1 l2 et hmm bl eL bL hoL hoS FL ba bb bS hD0 hqx;have z4:=HA.out.f.cell 4 _ rfl;have C:=hid (CO.out wr HA.out.bel);clear CO
            go_wp2_with fail
            refine C.out.mono ?_;clear C z4;rintro r u4 ⟨⟨v,rfl,hv⟩,hb⟩;obtain ⟨aL,cL,rfl,hN⟩:=Lo.shape FFL.out hv;obtain ⟨V1,hV1⟩:∃ U,U=u4.alloc (Obj.cells #[.bool (dN oL),.slice aL (ws (dX oL)).length cL,.int .i64 (dE oL)] 42):=⟨_,rfl⟩;obtain ⟨gL,hgL⟩:∃ g,g=u4.heap.size:=⟨_,rfl⟩
            have D1:Aside (L3 w V1 gF gA gB gS oA oB oS [.int .i64 N,.float .f64 s,.float .f64 k,.float .f64 t,.float .f64 l]∧Lo V1 gL oL):=by
             have hb2:Below wr.heap.size wr V1:=by rw [hV1];exact hb.trans ((bel_alloc _ _).mono hb.size)
             refine ⟨HA.out.below hb2,?_⟩;rw [hV1,hgL];exact Lo.new hN
            have HV1:=(qsd (ai hV1 hgL));clear hV1 hgL hb hN hv HA;obtain ⟨a1,c1,DX,NX⟩:=D1.out.2;obtain ⟨a2,c2,DY,NY⟩:=D1.out.1.s;obtain ⟨x0,x1,x2,xf0,xf1,xf2⟩:=DX.facts;obtain ⟨y0,y1,y2,yf0,yf1,yf2⟩:=DY.facts;have C:=hid (CC.out V1 a1 a2 c1 c2 NX NY);clear DX DY NX NY CC
            go_upto_region 19 with fail
            rw [←HV1.out.1,←HV1.out.2];clear HV1
            go_wp2_with fail
            refine C.out.mono ?_;clear C x0 x1 x2 xf0 xf1 xf2 y0 y1 y2 yf0 yf1 yf2;rintro r u5 ⟨rfl,hb⟩;have BE:=qsd (D1.out.1.bel.trans (hb.mono D1.out.1.bel.size));clear hb D1;go_wp2;exact bodyPost_ret (v:=.bool true) (by simp [results,Tryz.results6,go_sem]) rfl ⟨rfl,BE.out⟩
     · have hE2:(E==0)=false:=by simp [hE]
       go_wp2;exact bodyPost_ret (v:=.bool true) (by simp [results,Tryz.results6,go_sem]) rfl ⟨rfl,B4.out.1⟩
   · have C:=hid (of_odd14 y HX.out.2.2.2.2.2.2.2.2.2 fy U2 (HX.out.2.2.2.2.2.2.1.belows B3.out.1))
     go_upto_region 4 with fail
     rw [←HU2.out.1,←HU2.out.2];clear HU2
     go_wp2_with fail
     refine C.out.mono ?_;clear C;rintro r u3 ⟨⟨aB,cB,rfl,hv⟩,hb⟩;have BE:Aside (Below w.heap.size w (u3.alloc (Obj.cells #[.bool false,.slice aB 0 cB,.int .i64 0] 42))):=B3.out.1.trans ((hb.trans ((bel_alloc _ _).mono hb.size)).mono B3.out.1.size);clear hb hv B3 fy
     by_cases hE:E=0
     · subst hE
       go_wp2;exact bodyPost_ret (v:=.bool true) (by simp [results,Tryz.results6,go_sem]) rfl ⟨rfl,BE.out⟩
     · have hE2:(E==0)=false:=by simp [hE]
       go_wp2;exact bodyPost_ret (v:=.bool true) (by simp [results,Tryz.results6,go_sem]) rfl ⟨rfl,BE.out⟩
 · have C:=hid (of_odd14 x HX.out.2.2.2.2.2.2.2.2.1 fx U1 (HX.out.2.2.2.2.2.2.1.belows B2.out.1))
   go_upto_region 3 with fail
   rw [←HU1.out.1,←HU1.out.2];clear HU1
   go_wp2_with fail
   refine C.out.mono ?_;clear C;rintro r u2 ⟨⟨aA,cA,rfl,hv⟩,hb⟩;obtain ⟨U2,hU2⟩:∃ U,U=u2.alloc (Obj.cells #[.bool false,.slice aA 0 cA,.int .i64 0] 42):=⟨_,rfl⟩;have B3:Aside (Below w.heap.size w U2):=by rw [hU2];exact B2.out.1.trans ((hb.trans ((bel_alloc _ _).mono hb.size)).mono B2.out.1.size)
   have HU2:=qsd hU2;clear hU2 hb hv B2 fx
   have CY:Hid (∃ (ov:Value) (e:Int) (oo:Value),Calls Tryz.prog 16 #[.float .f64 y] U2 fun r w'=>(∃ p q a' n' c',r=.returned (.tuple #[.agg #[.bool p,.slice a' n' c',.int .i64 q],.int .i64 e]))∧Below U2.heap.size U2 w'):=by
    by_cases fy:finW y
    · exact ⟨.bool true,0,.bool true,(of14 y HX.out.2.2.2.2.2.2.2.2.2 fy U2 (HX.out.2.2.2.2.2.2.1.belows B3.out)).mono fun r w' h=>by
       obtain ⟨⟨v,rfl,hv⟩,hb⟩:=h;obtain ⟨a',c',rfl,_⟩:=Lo.shape (gf (u:=1074) (fv_bd HX.out.2.2.2.2.2.2.2.2.2 fy)) hv;exact ⟨⟨_,_,_,_,_,rfl⟩,hb⟩⟩
    · exact ⟨.bool true,30,.bool true,(of_odd14 y HX.out.2.2.2.2.2.2.2.2.2 fy U2 (HX.out.2.2.2.2.2.2.1.belows B3.out)).mono fun r w' h=>by
       obtain ⟨⟨a,c,rfl,_⟩,hb⟩:=h;exact ⟨⟨_,_,_,_,_,rfl⟩,hb⟩⟩
   obtain ⟨_,e3,_,C⟩:=CY.out;have C:=hid C;clear CY
   go_upto_region 4 with fail
   rw [←HU2.out];clear HU2
   go_wp2_with fail
   refine C.out.mono ?_;clear C;rintro r u3 ⟨⟨p3,q3,a3,n3,c3,rfl⟩,hb⟩;have BE:Aside (Below w.heap.size w (u3.alloc (Obj.cells #[.bool p3,.slice a3 n3 c3,.int .i64 q3] 42))):=B3.out.trans ((hb.trans ((bel_alloc _ _).mono hb.size)).mono B3.out.size);clear hb B3
   by_cases hE:E=0
   · subst hE
     go_wp2;exact bodyPost_ret (v:=.bool true) (by simp [results,Tryz.results6,go_sem]) rfl ⟨rfl,BE.out⟩
   · have hE2:(E==0)=false:=by simp [hE]
     go_wp2;exact bodyPost_ret (v:=.bool true) (by simp [results,Tryz.results6,go_sem]) rfl ⟨rfl,BE.out⟩
theorem wf19 {a:Nat}(h:(Lit.float .f64 a).wf=true):a<18446744073709551616:=by
 simpa [Lit.wf] using h

end
end Go.Proofs.YtopgffjnejaijaaGreatDoor
