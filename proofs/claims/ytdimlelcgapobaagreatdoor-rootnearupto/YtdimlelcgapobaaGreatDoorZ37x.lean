import Derived.Test.YtdimlelcgapobaaGreatDoorZ32x
import Derived.Test.YtdimlelcgapobaaGreatDoorZ14x
import Derived.Test.YtdimlelcgapobaaGreatDoorZ20x
import Derived.Test.YtdimlelcgapobaaGreatDoorZ23x
set_option linter.unusedVariables false
set_option linter.unusedSimpArgs false
set_option maxHeartbeats 16000000
set_option maxRecDepth 20000
namespace Go.Proofs.YtdimlelcgapobaaGreatDoor
section
open Go.RowKit
theorem ord_eq {s t:Bool}{K L:Nat}(hK:K≤9218868437227405312) (hL:L≤9218868437227405312) (h:sK s K=sK t L):FloatKind.f64.format.order (wd64 s K) (wd64 t L)=some .eq:=by
 have:=eq64 s t K L hK hL;rw [decide_eq_true h] at this;exact eq_of_beq this
theorem ord_lt {s t:Bool}{K L:Nat}(hK:K≤9218868437227405312) (hL:L≤9218868437227405312) (h:sK s K<sK t L):FloatKind.f64.format.order (wd64 s K) (wd64 t L)=some .lt:=by
 have:=lt64 s t K L hK hL;rw [decide_eq_true h] at this;exact eq_of_beq this
theorem rK_true (mode:Int) (s:Bool) (K:Nat) (m:Int):rK mode s K true m=K:=by unfold rK;rw [if_pos rfl]
theorem rK_false (mode:Int) (s:Bool) (K:Nat) (m:Int):rK mode s K false m=if outS mode K m s then K+1 else K:=by unfold rK;rw [if_neg (by decide)]
theorem rK_two (mode:Int) (s:Bool) (K:Nat) (m:Int):rK mode s K false m=K∨rK mode s K false m=K+1:=by rw [rK_false];split;exact .inr rfl;exact .inl rfl
theorem rK_up (s:Bool) (K:Nat) (m:Int):rK 2 s K false m=if s then K else K+1:=by rw [rK_false];cases s <;> simp [outS]
theorem rK_down (s:Bool) (K:Nat) (m:Int):rK 3 s K false m=if s then K+1 else K:=by rw [rK_false];cases s <;> simp [outS]
theorem rK_zero (s:Bool) (K:Nat) (m:Int):rK 1 s K false m=K:=by rw [rK_false];simp [outS]
structure Five (n:Nat) (s:Bool) (K:Nat) (t:Bool) (m:Int) (V S:Nat):Prop where
 fin:K<9218868437227405312
 ex:t=true→V=vK K^n*S
 lie:t=false→LiesG vK 9218868437227405312 n K false m V S
theorem Five.of {n K:Nat}{s t:Bool}{m:Int}{V S:Nat}(L:LiesG vK 9218868437227405312 n K t m V S):Five n s K t m V S:=⟨L.fin,L.one,fun h=>by subst h;exact L⟩
theorem five_ord {n K:Nat}{s t:Bool}{m:Int}{V S:Nat}(H:Five n s K t m V S) :
 (∀ j:Nat,j<5→FloatKind.f64.format.order (wd64 s (rK (j:Int) s K t m)) (wd64 s (rK ((3:Nat):Int) s K t m))=some .eq∨FloatKind.f64.format.order (wd64 s (rK (j:Int) s K t m)) (wd64 s (rK ((2:Nat):Int) s K t m))=some .eq) ∧
 (t=true→FloatKind.f64.format.order (wd64 s (rK ((3:Nat):Int) s K t m)) (wd64 s (rK ((2:Nat):Int) s K t m))=some .eq) ∧
 (t=false→FloatKind.f64.format.order (wd64 s (rK ((3:Nat):Int) s K t m)) (wd64 s (rK ((2:Nat):Int) s K t m))=some .lt∧FloatKind.f64.format.order (wd64 s (rK ((1:Nat):Int) s K t m)) (if s then wd64 s (rK ((2:Nat):Int) s K t m) else wd64 s (rK ((3:Nat):Int) s K t m))=some .eq):=by
 have hf:=H.fin
 cases t with
 | true =>
   simp only [rK_true];have:=ord_eq (s:=s) (t:=s) (K:=K) (L:=K) (by omega) (by omega) rfl
   exact ⟨fun _ _=>.inl this,fun _=>this,fun h=>by cases h⟩
 | false =>
   have e3:rK ((3:Nat):Int) s K false m=if s then K+1 else K:=rK_down s K m
   have e2:rK ((2:Nat):Int) s K false m=if s then K else K+1:=rK_up s K m
   have e1:rK ((1:Nat):Int) s K false m=K:=rK_zero s K m;rw [e1,e2,e3];refine ⟨fun j _=>?_,fun h=>(by cases h),fun _=>?_⟩
   · cases s
     · rcases rK_two (j:Int) false K m with h | h
       · left;rw [h];exact ord_eq (by omega) (by simp;omega) rfl
       · right;rw [h];exact ord_eq (by omega) (by simp;omega) rfl
     · rcases rK_two (j:Int) true K m with h | h
       · right;rw [h];exact ord_eq (by omega) (by simp;omega) rfl
       · left;rw [h];exact ord_eq (by omega) (by simp;omega) rfl
   · cases s
     · exact ⟨ord_lt (by simp;omega) (by simp;omega) (by simp [sK] <;> omega),ord_eq (by omega) (by simp;omega) rfl⟩
     · exact ⟨ord_lt (by simp;omega) (by simp;omega) (by simp [sK] <;> omega),ord_eq (by omega) (by simp;omega) rfl⟩
theorem al_of {w:World}{a:Option Addr}{l c X:Nat}(h:Av w (.slice a l c) X) (hl:l≤2000000):Al w (.slice a l c) X:=by
 obtain ⟨a',l',c',xs,e,hA,hv⟩:=h
 cases e
 exact ⟨a,l,c,xs,rfl,hA,hv,hl⟩
theorem dN_of {n:Bool}{X:Nat}{e:Int}(h:dX (mkS n X e)≠0):dN (mkS n X e)=n:=by
 unfold mkS at h ⊢
 by_cases h0:X=0
 · rw [if_pos h0] at h;exact absurd rfl h
 · rw [if_neg h0] at h ⊢
   split
   · rename_i hc;rw [if_pos hc] at h;exact absurd rfl h
   · rfl
theorem low_ne {n K:Nat}{m:Int}{X Y:Nat}{e f:Int}{k:Nat}(L:LiesG vK 9218868437227405312 n K false m (rV11 X e f 1074 k) (rS11 Y e f 1074 k)):X≠0:=by
 intro h;have:=L.low rfl;subst h;unfold rV11 at this;rw [Nat.zero_mul] at this;omega
theorem quo_five {s:Bool}{X:Nat}{e:Int}{Y:Nat}{f:Int}(F:Frm s X e) (G:Frm false Y f) (hY:Y≠0):∃ K t m,Five 1 s K t m (rV11 X e f 1074 1) (rS11 Y e f 1074 1)∧∀ mode:Int,0≤mode→mode≤4→rndS (quoZ s X e Y f) mode=(wd64 s (rK mode s K t m),0):=by
 rcases F.odd with h|⟨h1,h2,h3⟩
 · obtain ⟨K,t,m,L,hq⟩:=quo64 s X e Y f h hY F.size G.size
   exact ⟨K,t,m,Five.of L,hq⟩
 · subst h1 h2
   refine ⟨0,true,0,⟨by omega,fun _=>?_,fun h=>by cases h⟩,fun mode m0 m1=>?_⟩
   · rw [grid64.zero];unfold rV11;simp
   · rw [quoZ_nought false e Y f hY G.size,rK_true]
     unfold rndS;rw [if_neg (by omega)]
     rfl
theorem sqr_five {X:Nat}{e:Int}{Y:Nat}{f:Int}(F:Frm false X e) (G:Frm false Y f) (hY:Y≠0):∃ K t m,Five 2 false K t m (rV11 X e f 1074 2) (rS11 Y e f 1074 2)∧∀ mode:Int,0≤mode→mode≤4→rndS (sqZ X e Y f) mode=(wd64 false (rK mode false K t m),0):=by
 rcases F.odd with h|⟨h1,h2,h3⟩
 · obtain ⟨K,t,m,L,hq⟩:=sqr64 X e Y f h hY F.size G.size
   exact ⟨K,t,m,Five.of L,hq⟩
 · subst h1
   refine ⟨0,true,0,⟨by omega,fun _=>?_,fun h=>by cases h⟩,fun mode m0 m1=>?_⟩
   · rw [grid64.zero];unfold rV11;simp
   · rw [sqZ_nought e Y f hY G.size,rK_true]
     unfold rndS;rw [if_neg (by omega)]
     rfl
theorem withinQ {w:World}{n m:Bool}{a b:Option Addr}{la ca lb cb X0 Y0:Nat}{e0 f0:Int}(hr:Rv w ⟨n,.slice a la ca,X0,e0,m,.slice b lb cb,Y0,f0⟩) (hT:Tab w) (hl:la≤2000000) (hk:lb≤2000000) (M:MayR (mkS n X0 e0) (mkS m Y0 f0)) :
 Calls Tryz.prog 38 #[.agg #[.bool n,.slice a la ca,.int .i64 e0,.bool m,.slice b lb cb,.int .i64 f0],.bool false] w fun r w'=>r=.returned (.bool true)∧Below w.heap.size w w':=by
 have A:=Asked.of M;obtain ⟨K,t,mm,H,hq⟩:=quo_five A.F A.G A.no;have hN:=al_of hr.num hl;have hD:=al_of hr.den hk;have hz:errL (oneI ⟨n,.slice a la ca,X0,e0,m,.slice b lb cb,Y0,f0⟩) 1=0:=(errL_one _).trans M.err
 have HQ:Hid (∀ (u:World) (k:Nat),k<5→Below w.heap.size w u→Calls Tryz.prog 10 #[.agg #[.bool n,.slice a la ca,.int .i64 e0,.bool m,.slice b lb cb,.int .i64 f0],.int .i64 (k:Nat)] u fun r w'=>r=.returned (.tuple #[.float .f64 ((fun k:Nat=>wd64 (dN (mkS n X0 e0)) (rK (k:Int) (dN (mkS n X0 e0)) K t mm)) k),.int .i64 0])∧Below u.heap.size u w'):=by
  refine hid fun u k hk5 hu=>?_
  have h:=Quot11 (k:Int) (hr.below hu) (hT.belows hu)
  have e:quoR rndS ⟨n,.slice a la ca,X0,e0,m,.slice b lb cb,Y0,f0⟩ (k:Int)=(wd64 (dN (mkS n X0 e0)) (rK (k:Int) (dN (mkS n X0 e0)) K t mm),0):=by
   unfold quoR;rw [if_neg (by omega),if_pos hz]
   exact hq k (by omega) (by omega)
  rw [e] at h;exact h
 obtain ⟨p1,p2,p3⟩:=five_ord (s:=dN (mkS n X0 e0)) H
 cases t with
 | true =>
   obtain ⟨FF,hc⟩:=exactQ A H.fin (H.ex rfl);rw [←cmp_raw A.ho] at hc;refine within_q_same _ (fun _=>0) (fun _=>0) (ofK (dN (mkS n X0 e0)) K) _ HQ (hid p1) (hid (p2 rfl)) (hid fun u=>?_) (sd hN) (sd hD) (sd ⟨hr.be,hr.bf⟩) (sd FF) (sd ⟨rfl,hc⟩)
   exact rofW H.fin _ (by simp only [rK_true];exact wd64_of _ _) _ rfl
 | false =>
   have L:=H.lie rfl;have hns:=dN_of (low_ne L);obtain ⟨u1,u2⟩:=p3 rfl;refine within_q_apart _ (fun _=>0) (fun _=>0) HQ (hid p1) (hid ⟨u1,?_⟩) (hid fun u hu=>?_)
   · rw [hns] at u2 ⊢;exact u2
   · exact nearestQ (hN.below hu) (hD.below hu) hr.be hr.bf A hns.symm L _ (rK_false 0 _ K mm).symm
theorem withinS {w:World}{n m:Bool}{a b:Option Addr}{la ca lb cb X0 Y0:Nat}{e0 f0:Int}(hr:Rv w ⟨n,.slice a la ca,X0,e0,m,.slice b lb cb,Y0,f0⟩) (hT:Tab w) (hl:la≤2000000) (hk:lb≤2000000) (M:MayR (mkS n X0 e0) (mkS m Y0 f0)) (hs:dN (mkS n X0 e0)=false) :
 Calls Tryz.prog 38 #[.agg #[.bool n,.slice a la ca,.int .i64 e0,.bool m,.slice b lb cb,.int .i64 f0],.bool true] w fun r w'=>r=.returned (.bool true)∧Below w.heap.size w w':=by
 have A:=Asked.of M;rw [hs] at A;obtain ⟨K,t,mm,H,hq⟩:=sqr_five A.F A.G A.no;have hN:=al_of hr.num hl;have hD:=al_of hr.den hk;have hz:errL (oneI ⟨n,.slice a la ca,X0,e0,m,.slice b lb cb,Y0,f0⟩) 1=0:=(errL_one _).trans M.err
 have HQ:Hid (∀ (u:World) (k:Nat),k<5→Below w.heap.size w u→Calls Tryz.prog 10 #[.agg #[.bool n,.slice a la ca,.int .i64 e0,.bool m,.slice b lb cb,.int .i64 f0],.int .i64 (k:Nat)] u fun r w'=>r=.returned (.tuple #[.float .f64 ((fun k:Nat=>(quoR rndS ⟨n,.slice a la ca,X0,e0,m,.slice b lb cb,Y0,f0⟩ (k:Int)).1) k),.int .i64 ((fun k:Nat=>(quoR rndS ⟨n,.slice a la ca,X0,e0,m,.slice b lb cb,Y0,f0⟩ (k:Int)).2) k)])∧Below u.heap.size u w') :=
  hid fun u k hk5 hu=>Quot11 (k:Int) (hr.below hu) (hT.belows hu)
 have HR:Hid (∀ (u:World) (k:Nat),k<5→Below w.heap.size w u→Calls Tryz.prog 14 #[.agg #[.bool n,.slice a la ca,.int .i64 e0,.bool m,.slice b lb cb,.int .i64 f0],.int .i64 (k:Nat)] u fun r w'=>r=.returned (.tuple #[.float .f64 ((fun k:Nat=>wd64 false (rK (k:Int) false K t mm)) k),.int .i64 0])∧Below u.heap.size u w'):=by
  refine hid fun u k hk5 hu=>?_
  have h:=Root11 (k:Int) (hr.below hu) (hT.belows hu)
  have e:sqrR rndS ⟨n,.slice a la ca,X0,e0,m,.slice b lb cb,Y0,f0⟩ (k:Int)=(wd64 false (rK (k:Int) false K t mm),0):=by
   unfold sqrR;simp only;rw [if_neg (by omega),if_pos hz,hs,if_neg (by decide)]
   exact hq k (by omega) (by omega)
  rw [e] at h;exact h
 obtain ⟨p1,p2,p3⟩:=five_ord (s:=false) H
 cases t with
 | true =>
   obtain ⟨FF,hc⟩:=exactS A H.fin (H.ex rfl);rw [←cmp_raw A.ho] at hc;refine within_s_same _ _ _ (ofK false K) _ _ HQ HR (hid p1) (hid (p2 rfl)) (hid fun u=>?_) (sd hN) (sd hD) (sd ⟨hr.be,hr.bf⟩) (sd FF) (sd ⟨rfl,rfl,hc⟩)
   exact rofW H.fin _ (by simp only [rK_true];exact wd64_of _ _) _ rfl
 | false =>
   have L:=H.lie rfl;have hns:=dN_of (low_ne L);rw [hs] at hns;obtain ⟨u1,u2⟩:=p3 rfl;refine within_s_apart _ _ _ HQ HR (hid p1) (hid ⟨u1,?_⟩) (hid fun u hu=>?_)
   · subst hns;exact u2
   · exact nearestS (hN.below hu) (hD.below hu) hr.be hr.bf A hns.symm L _ (rK_false 0 _ K mm).symm
end
section
open Go.RowKit
theorem dN_plus {X:Nat}{e:Int}(h:(mkS false X e).isSome=true):dN (mkS false X e)=false:=by
 by_cases h0:dX (mkS false X e)=0
 · rcases (frm_of h).odd with q | q
   · omega
   · exact q.2.1
 · exact dN_of h0
theorem dX_zero {n:Bool}{X:Nat}{e:Int}(h:(mkS n X e).isSome=true):dX (mkS n X e)=0↔X=0:=by
 constructor
 · intro h0
   rcases Nat.eq_zero_or_pos X with q|q
   · exact q
   · exfalso
     have hX:X≠0:=by omega
     cases ho:mkS n X e with
     | none=>rw [ho] at h;cases h
     | some d =>
       unfold mkS at ho;rw [if_neg hX] at ho
       split at ho
       · cases ho
       · cases ho
         obtain ⟨k,h1,h2,h3⟩:=odd_part X hX
         rename_i hc
         have:dX (mkS n X e)=X/2^lo X:=by unfold mkS;rw [if_neg hX,if_neg hc];rfl
         omega
 · intro h0;subst h0;rw [mkS_zero];rfl
theorem root_below {n m:Bool}{X Y:Nat}{e f:Int}{v u:Value}(M:MayR (mkS n X e) (mkS m Y f)) (hs:dN (mkS n X e)=true):sqrR rndS ⟨n,v,X,e,m,u,Y,f⟩ 0=(0,110):=by
 have hz:errL (oneI ⟨n,v,X,e,m,u,Y,f⟩) 1=0:=(errL_one _).trans M.err;unfold sqrR;simp only;rw [if_neg (by omega),if_pos hz,hs,if_pos rfl]
theorem near_law {w:World}{n m:Bool}{a b:Option Addr}{la ca lb cb X Y:Nat}{e f:Int}(hr:Rv w ⟨n,.slice a la ca,X,e,m,.slice b lb cb,Y,f⟩) (hT:Tab w) (z1:la≤2000000) (z2:lb≤2000000) :
 Calls Tryz.prog 6 #[.agg #[.bool n,.slice a la ca,.int .i64 e,.bool m,.slice b lb cb,.int .i64 f]] w fun r w'=>r=.returned (.bool true)∧Below w.heap.size w w':=by
 obtain ⟨W1,hW1⟩:∃ W,W=w.alloc (.cells #[.bool n,.slice a la ca,.int .i64 e,.bool m,.slice b lb cb,.int .i64 f] 30):=⟨_,rfl⟩;have hB:Below w.heap.size w W1:=by rw [hW1];exact below_alloc _ _
 have QA0:Rq W1 w.heap.size n (.slice a la ca) e m (.slice b lb cb) f:=by rw [hW1];exact Rq.new _ _ _ _ _ _ _
 have HT:=sd hT;have BD:=(sd (ai z1 (ai z2 (ai hr.be hr.bf))));clear hT z1 z2;have hbel:=hB;have S0:=(sd (ai hbel (ai QA0 (hr.below hB))));clear hbel;clear hB QA0 hr;go_enter Tryz.func6,Tryz.ntmps6;obtain ⟨bel,QA,RA⟩:=S0.out;have HC:=hid (awake11 W1 (HT.out.belows bel));clear bel QA RA
 go_upto_region 1 with fail
 rw [←hW1];clear hW1
 go_wp2_with fail
 refine HC.out.mono ?_;rintro r u1 ⟨rfl,hb⟩;clear HC;obtain ⟨bel,QA,RA⟩:=S0.out;have hbn:=bel.trans (hb.mono bel.size);have S1:=sd (ai hbn (ai (QA.below hb) (RA.below hb)));clear bel QA RA;clear hb hbn S0;obtain ⟨x0,x1,x2,x3,x4,x5⟩:=S1.out.2.1.facts;obtain ⟨bel,QA,RA⟩:=S1.out;have HC:=hid (may_any (n:=n) (m:=m) (e:=e) (f:=f) RA.num RA.den (fun _ _ _ h=>by cases h;exact BD.out.1) (fun _ _ _ h=>by cases h;exact BD.out.2.1) BD.out.2.2.1 BD.out.2.2.2)
 clear bel QA RA
 go_wp2_with fail
 clear x0 x1 x2 x3 x4 x5;refine HC.out.mono ?_;rintro r u2 ⟨h1,hb⟩;clear HC;obtain ⟨bel,QA,RA⟩:=S1.out;have hbn:=bel.trans (hb.mono bel.size);have S2:=sd (ai hbn (ai (QA.below hb) (RA.below hb)));clear bel QA RA;clear hb hbn S1;have HM1:=h1;clear h1
 rcases HM1 with rfl|⟨rfl,M1⟩
 · have S99:=sd S2.out.1
   clear S2 BD HT;go_wp2;go_ret;exact ⟨rfl,S99.out⟩
 · have MA:=sd M1
   clear M1;obtain ⟨x0,x1,x2,x3,x4,x5⟩:=S2.out.2.1.facts;obtain ⟨bel,QA,RA⟩:=S2.out;have HC:=hid (withinQ RA (HT.out.belows bel) BD.out.1 BD.out.2.1 MA.out);clear bel QA RA
   go_wp2_with fail
   clear x0 x1 x2 x3 x4 x5;refine HC.out.mono ?_;rintro r u3 ⟨rfl,hb⟩;clear HC;obtain ⟨bel,QA,RA⟩:=S2.out;have hbn:=bel.trans (hb.mono bel.size);have S3:=sd (ai hbn (ai (QA.below hb) (RA.below hb)));clear bel QA RA;clear hb hbn S2
   cases n with
   | false =>
     obtain ⟨x0,x1,x2,x3,x4,x5⟩:=S3.out.2.1.facts;obtain ⟨bel,QA,RA⟩:=S3.out;have HC:=hid (withinS RA (HT.out.belows bel) BD.out.1 BD.out.2.1 MA.out (dN_plus MA.out.so));clear bel QA RA
     go_wp2_with fail
     clear x0 x1 x2 x3 x4 x5;refine HC.out.mono ?_;rintro r u4 ⟨rfl,hb⟩;clear HC;obtain ⟨bel,QA,RA⟩:=S3.out;have hbn:=bel.trans (hb.mono bel.size);have S4:=sd (ai hbn (ai (QA.below hb) (RA.below hb)));clear bel QA RA;clear hb hbn S3;have S99:=sd S4.out.1;clear S4 BD HT MA;go_wp2;go_ret;exact ⟨rfl,S99.out⟩
   | true =>
     by_cases hX:X=0
     · have hkx:bl X=0:=by rw [hX];exact bl_zero
       obtain ⟨x0,x1,x2,x3,x4,x5⟩:=S3.out.2.1.facts;obtain ⟨bel,QA,RA⟩:=S3.out;have HC:=hid ((show Calls Tryz.prog 39 #[.slice a la ca] u3 fun r w'=>r=.returned (.int .i64 (0:Nat))∧Below u3.heap.size u3 w' from by obtain ⟨ya,yl,yc,ys,hsl,hyA,hyv⟩:=RA.num;cases hsl;exact rLen_arg hyA (by rw [hyv];exact hkx)))
       clear bel QA RA
       go_wp2_with fail
       clear x0 x1 x2 x3 x4 x5;refine HC.out.mono ?_;rintro r u4 ⟨rfl,hb⟩;clear HC;obtain ⟨bel,QA,RA⟩:=S3.out;have hbn:=bel.trans (hb.mono bel.size);have S4:=sd (ai hbn (ai (QA.below hb) (RA.below hb)));clear bel QA RA;clear hb hbn S3;obtain ⟨x0,x1,x2,x3,x4,x5⟩:=S4.out.2.1.facts;obtain ⟨bel,QA,RA⟩:=S4.out;have HC:=hid (withinS RA (HT.out.belows bel) BD.out.1 BD.out.2.1 MA.out (by subst hX;rw [mkS_zero];rfl))
       clear bel QA RA
       go_wp2_with fail
       clear x0 x1 x2 x3 x4 x5;refine HC.out.mono ?_;rintro r u5 ⟨rfl,hb⟩;clear HC;obtain ⟨bel,QA,RA⟩:=S4.out;have hbn:=bel.trans (hb.mono bel.size);have S5:=sd (ai hbn (ai (QA.below hb) (RA.below hb)));clear bel QA RA;clear hb hbn S4;have S99:=sd S5.out.1;clear S5 BD HT MA;go_wp2;go_ret;exact ⟨rfl,S99.out⟩
     · obtain ⟨kx,hkx,hkx0⟩:∃ kx:Nat,bl X=kx∧0<kx:=⟨_,rfl,bl_pos X hX⟩
       have hk1:decide ((0:Int)<(kx:Int))=true:=by simp;omega
       have hs:Aside (dN (mkS true X e)=true):=sd (dN_of (fun h=>hX ((dX_zero MA.out.so).1 h)))
       obtain ⟨x0,x1,x2,x3,x4,x5⟩:=S3.out.2.1.facts;obtain ⟨bel,QA,RA⟩:=S3.out;have HC:=hid ((show Calls Tryz.prog 39 #[.slice a la ca] u3 fun r w'=>r=.returned (.int .i64 (kx:Nat))∧Below u3.heap.size u3 w' from by obtain ⟨ya,yl,yc,ys,hsl,hyA,hyv⟩:=RA.num;cases hsl;exact rLen_arg hyA (by rw [hyv];exact hkx)))
       clear bel QA RA
       go_wp2_with fail
       clear x0 x1 x2 x3 x4 x5;refine HC.out.mono ?_;rintro r u4 ⟨rfl,hb⟩;clear HC;obtain ⟨bel,QA,RA⟩:=S3.out;have hbn:=bel.trans (hb.mono bel.size);have S4:=sd (ai hbn (ai (QA.below hb) (RA.below hb)));clear bel QA RA;clear hb hbn S3;obtain ⟨x0,x1,x2,x3,x4,x5⟩:=S4.out.2.1.facts;obtain ⟨bel,QA,RA⟩:=S4.out;have HC:=hid ((by have h:=Root11 0 RA (HT.out.belows bel);rw [root_below MA.out hs.out] at h;exact h:Calls Tryz.prog 14 #[.agg #[.bool true,.slice a la ca,.int .i64 e,.bool m,.slice b lb cb,.int .i64 f],.int .i64 0] u4 fun r w'=>r=.returned (.tuple #[.float .f64 0,.int .i64 110])∧Below u4.heap.size u4 w'))
       clear bel QA RA
       go_wp2_with fail
       clear x0 x1 x2 x3 x4 x5;refine HC.out.mono ?_;rintro r u5 ⟨rfl,hb⟩;clear HC;obtain ⟨bel,QA,RA⟩:=S4.out;have hbn:=bel.trans (hb.mono bel.size);have S5:=sd (ai hbn (ai (QA.below hb) (RA.below hb)));clear bel QA RA;clear hb hbn S4;have S99:=sd S5.out.1;clear S5 BD HT MA hs;go_wp2;go_ret;exact ⟨rfl,S99.out⟩
theorem walk_RootNear (n:Bool) (a:Option Addr) (la ca:Nat) (e:Int) (xs:List Nat) (m:Bool) (b:Option Addr) (lb cb:Nat) (f:Int) (ys:List Nat) (w:World) (hT:Tab w) (h:CameR w a la ca e xs b lb cb f ys) (z:la≤1048576∧lb≤1048576) :
 Calls Tryz.prog 6 #[.agg #[.bool n,.slice a la ca,.int .i64 e,.bool m,.slice b lb cb,.int .i64 f]] w fun r w'=>r=.returned (.bool true)∧Below w.heap.size w w' :=
 near_law (h.rv (by omega) (by omega)) hT (by omega) (by omega)
end
end Go.Proofs.YtdimlelcgapobaaGreatDoor
