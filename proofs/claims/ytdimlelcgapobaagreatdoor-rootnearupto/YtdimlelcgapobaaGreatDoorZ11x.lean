import Derived.Test.YtdimlelcgapobaaGreatDoorZ10x
import Derived.Deep.RegionHeld3
import Derived.Test.YtdimlelcgapobaaGreatDoorD1x
import Derived.Test.YtdimlelcgapobaaGreatDoorZ9x
import Derived.Test.YtdimlelcgapobaaGreatDoorW34x
set_option linter.unusedVariables false
set_option linter.unusedSimpArgs false
set_option maxHeartbeats 16000000
set_option maxRecDepth 20000
namespace Go.Proofs.YtdimlelcgapobaaGreatDoor
section
open Go.RowKit
theorem crossed_res (W:World) (g:Nat) (n:Bool) (v:Value) (e:Int) (m:Bool) (u:Value) (f k:Int) (tmps:Array Value) (ht:tmps[6]?.getD undef=.pointer (some ⟨g,0,none⟩)) (hk:tmps[7]?.getD undef=.int .i64 k) (D:Rq W g n v e m u f) :
 (results Tryz.f54 tmps).run Tryz.prog W=.ok (.tuple #[.agg #[.bool n,v,.int .i64 e,.bool m,u,.int .i64 f],.int .i64 k]) W:=by
 obtain ⟨x0,x1,x2,x3,x4,x5⟩:=D.facts;simp [results,Tryz.results54,ht,hk,go_sem,x0,x1,x2,x3,x4,x5]
theorem mulD_some11 {o p:Option (Bool×Nat×Int)}(h:(mulD o p).isSome=true):∃ x y z,o=some x∧p=some y∧mulF x y=some z∧mulD o p=some z:=by
 cases o with
 | none=>cases h
 | some x =>
   cases p with
   | none=>cases h
   | some y =>
     have h':(mulF x y).isSome=true:=h
     cases hz:mulF x y with
     | none=>rw [hz] at h';cases h'
     | some z=>exact ⟨x,y,z,rfl,rfl,hz,hz⟩
theorem mulD_reform {a b:Option (Bool×Nat×Int)}{o:Option (Bool×Nat×Int)}(h:mulD a b=o) (hs:o.isSome=true):mkS (dN o) (dX o) (dE o)=o:=by
 obtain ⟨x,y,z,_,_,h3,h4⟩:=mulD_some11 (by rw [h];exact hs)
 rw [←h,h4];obtain ⟨n1,X1,e1⟩:=z;exact (mkS_frm h3).self
theorem mulD_rng {a b:Option (Bool×Nat×Int)}{o:Option (Bool×Nat×Int)}(h:mulD a b=o):-1048576≤dE o∧dE o≤1048576:=by
 cases o with
 | none=>exact ⟨by decide,by decide⟩
 | some d =>
   obtain ⟨x,y,z,_,_,h3,h4⟩:=mulD_some11 (by rw [h];rfl)
   rw [h] at h4
   cases h4
   obtain ⟨n1,X1,e1⟩:=d;have:=mkS_frm h3;exact ⟨this.down,this.up⟩
theorem crossedAdd {w:World}{n m n' m':Bool}{a b a' b':Option Addr}{la ca lb cb la' ca' lb' cb':Nat}{X Y X' Y':Nat}{e f e' f':Int}
 (hr:Rv w ⟨n,.slice a la ca,X,e,m,.slice b lb cb,Y,f⟩) (hs:Rv w ⟨n',.slice a' la' ca',X',e',m',.slice b' lb' cb',Y',f'⟩) (hT:Tab w)
 (tg:Option (Bool×Nat×Int)→Option (Bool×Nat×Int)→Option (Bool×Nat×Int)) (tg0:∀ x y,(tg x y).isSome=true→x.isSome=true∧y.isSome=true) (tgl:∀ a b c d,(ws (dX (tg (mulD a b) (mulD c d)))).length≤8192) (fnv:Value) (hfnv:fnv=.func (.func 55) #[] #[])
 (HTG:Hid (∀ (u:World) (v p:Value) (n m:Bool) (X Y:Nat) (e f:Int),Av u v X→Av u p Y→Tab u→(-1048576≤e∧e≤1048576)→(-1048576≤f∧f≤1048576)→Calls Tryz.prog 55 #[.agg #[.bool n,v,.int .i64 e],.agg #[.bool m,p,.int .i64 f]] u fun r w'=>DAns u.heap.size w' r (tg (mkS n X e) (mkS m Y f))∧Below u.heap.size u w'))
 (I:Nat→Ri) (hI:I=twoI ⟨n,.slice a la ca,X,e,m,.slice b lb cb,Y,f⟩ ⟨n',.slice a' la' ca',X',e',m',.slice b' lb' cb',Y',f'⟩) :
 Calls Tryz.prog 54 #[.agg #[.bool n,.slice a la ca,.int .i64 e,.bool m,.slice b lb cb,.int .i64 f],.agg #[.bool n',.slice a' la' ca',.int .i64 e',.bool m',.slice b' lb' cb',.int .i64 f'],fnv] w fun r w' =>
  RA w.heap.size w' r (if errL I 2=0 then bothR (tg (mulD (mkS n X e) (mkS m' Y' f')) (mulD (mkS n' X' e') (mkS m Y f))) (mulD (mkS m Y f) (mkS m' Y' f')) else (errL I 2,none,none))∧Below w.heap.size w w':=by
 obtain ⟨W1,hW1⟩:∃ W,W=((w.alloc (.cells #[.bool n,.slice a la ca,.int .i64 e,.bool m,.slice b lb cb,.int .i64 f] 30)).alloc (.cells #[.bool n',.slice a' la' ca',.int .i64 e',.bool m',.slice b' lb' cb',.int .i64 f'] 30)).alloc (.cells #[.bool false,.slice none 0 0,.int .i64 0,.bool false,.slice none 0 0,.int .i64 0] 30):=⟨_,rfl⟩;obtain ⟨hB,hz1,Q1,Q2,RR⟩:=two_begin w ⟨n,.slice a la ca,X,e,m,.slice b lb cb,Y,f⟩ ⟨n',.slice a' la' ca',X',e',m',.slice b' lb' cb',Y',f'⟩ W1 hW1;obtain ⟨R,hR⟩:∃ R,R=W1.alloc (.cells #[.bool n,.slice a la ca,.int .i64 e,.bool m,.slice b lb cb,.int .i64 f,.bool n',.slice a' la' ca',.int .i64 e',.bool m',.slice b' lb' cb',.int .i64 f'] 30):=⟨_,rfl⟩;have hin:=rin2 W1 _ _ (hr.below hB) (hs.below hB) (hT.belows hB) R hR;have hbR:Below W1.heap.size W1 R:=by rw [hR];exact below_alloc _ _
 have HF:=hid (forms2 R W1.heap.size _ hin);rw [←hI] at HF;simp only at Q1 Q2;obtain ⟨x0,x1,x2,x3,x4,x5⟩:=Q1.facts;obtain ⟨y0,y1,y2,y3,y4,y5⟩:=Q2.facts;obtain ⟨ANS,hANS⟩:∃ A,(if errL I 2=0 then bothR (tg (mulD (mkS n X e) (mkS m' Y' f')) (mulD (mkS n' X' e') (mkS m Y f))) (mulD (mkS m Y f) (mkS m' Y' f')) else (errL I 2,none,none))=A:=⟨_,rfl⟩
 rw [hANS];have HA:=sd hANS;clear hANS;have S0:=(sd (ai (hB.trans (hbR.mono hB.size)) (ai (Q1.below hbR) (ai (Q2.below hbR) (ai (RR.below hbR) hT)))));have hs3:w.heap.size+3≤W1.heap.size:=by omega
 obtain ⟨g12,hg12⟩:∃ g,W1.heap.size=g:=⟨_,rfl⟩;rw [hg12] at HF;clear hB hz1 Q1 Q2 RR hin hbR hr hs hT;subst hfnv;go_enter Tryz.func54,Tryz.ntmps54
 go_upto_region 1 with fail
 rw [←hW1];clear hW1
 go_wp2_with fail
 rw [←hR];clear hR hg12 x0 x1 x2 x3 x4 x5 y0 y1 y2 y3 y4 y5;refine HF.out.mono ?_;rintro r u1 ⟨hor,hb⟩;clear HF;obtain ⟨bel,Q1,Q2,RR,hT⟩:=S0.out;have S1:=(sd (ai (bel.trans (hb.mono bel.size)) (ai (Q1.below hb) (ai (Q2.below hb) (RR.below hb)))))
 rcases hor with ⟨hne,rfl⟩|⟨h0,g',V,rfl,hO⟩
 · have HA2:=HA.out
   rw [if_neg hne] at HA2;obtain ⟨er,her⟩:∃ er,errL I 2=er:=⟨_,rfl⟩;rw [her] at hne HA2 ⊢;have HA3:=sd HA2;clear HA HA2 her;obtain ⟨r0,r1,r2,r3,r4,r5⟩:=(RR.below hb).facts;obtain ⟨rf0,rf1,rf2,rf3,rf4,rf5⟩:=(RR.below hb).frz;have hnb:(er==0)=false:=by simp [hne]
   have hnn:(er != 0)=true:=by simp [hne]
   clear hne bel Q1 Q2 RR hb hT S0;go_wp2;obtain ⟨bel,Q1,Q2,RR⟩:=S1.out;exact bodyPost_ret (crossed_res _ (w.heap.size+1+1) false (.slice none 0 0) 0 false (.slice none 0 0) 0 er _ rfl rfl (RR.set _ _ _ _ _ _)) rfl ⟨HA3.out ▸ RA.zero _ _ _,below_st6 bel bel.size (by omega) _ _ _ _ _ _⟩
 · have HA2:=HA.out
   rw [if_pos h0] at HA2;clear HA;obtain ⟨q0,q1,q2,q3,q4,q5⟩:=hO.row.facts 0 (by omega)
   obtain ⟨p0,p1,p2,p3,p4,p5⟩:=hO.row.facts 1 (by omega)
   simp only [Nat.zero_mul,Nat.zero_add,Nat.one_mul,Nat.reduceAdd] at q0 q1 q2 q3 q4 q5 p0 p1 p2 p3 p4 p5;unfold frmI at q0 q1 q2 q3 q4 q5 p0 p1 p2 p3 p4 p5;simp only at q0 q1 q2 q3 q4 q5 p0 p1 p2 p3 p4 p5;obtain ⟨k1,k2,k3,k4⟩:=errL0 h0 0 (by omega)
   obtain ⟨j1,j2,j3,j4⟩:=errL0 h0 1 (by omega)
   obtain ⟨N1,N2⟩:=hO.nts 0 (by omega)
   obtain ⟨N3,N4⟩:=hO.nts 1 (by omega)
   have e0:I 0=⟨n,.slice a la ca,X,e,m,.slice b lb cb,Y,f⟩:=by rw [hI];rfl
   have e1:I 1=⟨n',.slice a' la' ca',X',e',m',.slice b' lb' cb',Y',f'⟩:=by rw [hI];rfl
   rw [e0] at q0 q2 q3 q5 k1 k2 k3 k4 N1 N2;rw [e1] at p0 p2 p3 p5 j1 j2 j3 j4 N3 N4;simp only at q0 q1 q2 q3 q4 q5 k1 k2 k3 k4 N1 N2 p0 p1 p2 p3 p4 p5 j1 j2 j3 j4 N3 N4;have m1:=mkS_len n X e;have m2:=mkS_len m Y f;have m3:=mkS_len n' X' e';have m4:=mkS_len m' Y' f';obtain ⟨o1,ho1⟩:∃ o,mkS n X e=o:=⟨_,rfl⟩;obtain ⟨o2,ho2⟩:∃ o,mkS m Y f=o:=⟨_,rfl⟩;obtain ⟨o3,ho3⟩:∃ o,mkS n' X' e'=o:=⟨_,rfl⟩;obtain ⟨o4,ho4⟩:∃ o,mkS m' Y' f'=o:=⟨_,rfl⟩;have t1:=frm_rng ho1;have t2:=frm_rng ho2;have t3:=frm_rng ho3;have t4:=frm_rng ho4;have R1:=reform ho1 (by rw [←ho1];exact k2)
   have R2:=reform ho2 (by rw [←ho2];exact k3)
   have R3:=reform ho3 (by rw [←ho3];exact j2)
   have R4:=reform ho4 (by rw [←ho4];exact j3)
   rw [ho1] at q0 q2 N1 m1;rw [ho2] at q3 q5 N2 m2;rw [ho3] at p0 p2 N3 m3;rw [ho4] at p3 p5 N4 m4;rw [ho1,ho2,ho3,ho4] at HA2;have HA:=sd HA2;clear HA2;obtain ⟨v1,hv1⟩:∃ v1,(V 0).1=v1:=⟨_,rfl⟩;obtain ⟨v2,hv2⟩:∃ v1,(V 0).2=v1:=⟨_,rfl⟩;obtain ⟨v3,hv3⟩:∃ v1,(V 1).1=v1:=⟨_,rfl⟩;obtain ⟨v4,hv4⟩:∃ v1,(V 1).2=v1:=⟨_,rfl⟩;rw [hv1] at q1 N1;rw [hv2] at q4 N2;rw [hv3] at p1 N3;rw [hv4] at p4 N4;obtain ⟨a1,c1,rfl,_⟩:=N1.arg (by omega)
   obtain ⟨a2,c2,rfl,_⟩:=N2.arg (by omega)
   obtain ⟨a3,c3,rfl,_⟩:=N3.arg (by omega)
   obtain ⟨a4,c4,rfl,_⟩:=N4.arg (by omega)
   have hg':w.heap.size+3≤g':=by have:=hO.own;have:=(S0.out.2.2.2.1).lt;omega
   obtain ⟨r0,r1,r2,r3,r4,r5⟩:=(Q1.below hb).facts;obtain ⟨rf0,rf1,rf2,rf3,rf4,rf5⟩:=(Q1.below hb).frz;obtain ⟨s0,s1,s2,s3,s4,s5⟩:=(Q2.below hb).facts;obtain ⟨sf0,sf1,sf2,sf3,sf4,sf5⟩:=(Q2.below hb).frz;have ne1:w.heap.size≠w.heap.size+1:=by omega
   have ne2:w.heap.size+1≠w.heap.size:=by omega
   have ne3:g'≠w.heap.size:=by omega
   have ne4:g'≠w.heap.size+1:=by omega
   have ne5:w.heap.size≠g':=by omega
   have ne6:w.heap.size+1≠g':=by omega
   obtain ⟨U2,hU2⟩:∃ U,U=(st6 (st6 u1 w.heap.size (.bool (dN o1)) (.slice a1 (ws (dX o1)).length c1) (.int .i64 (dE o1)) (.bool (dN o2)) (.slice a2 (ws (dX o2)).length c2) (.int .i64 (dE o2))) (w.heap.size+1) (.bool (dN o3)) (.slice a3 (ws (dX o3)).length c3) (.int .i64 (dE o3)) (.bool (dN o4)) (.slice a4 (ws (dX o4)).length c4) (.int .i64 (dE o4))).drew:=⟨_,rfl⟩;have AS2:=assign2 (Q1.below hb) (Q2.below hb) (RR.below hb) ne1 (by omega) (by omega) (Nat.le_refl _) (by omega) S1.out.1 S1.out.1.size (dN o1) (dN o2) (dN o3) (dN o4) _ _ _ _ (dE o1) (dE o2) (dE o3) (dE o4) _ _ _ _ N1 N2 N3 N4 U2 hU2
   have S2:=sd AS2;have S3:=(sd (ai R1 (ai R2 (ai R3 (ai R4 (ai t1 (ai t2 (ai t3 (ai t4 hT)))))))));clear AS2 N1 N2 N3 N4 R1 R2 R3 R4 t1 t2 t3 t4 hO bel Q1 Q2 RR hb hT k1 k2 k3 k4 j1 j2 j3 j4 e0 e1 h0 ho1 ho2 ho3 ho4 hv1 hv2 hv3 hv4 S0 S1
   go_wp2_with fail
   go_region
   unfold st6 at hU2;rw [←hU2];clear hU2 q0 q1 q2 q3 q4 q5 p0 p1 p2 p3 p4 p5 r0 r1 r2 r3 r4 r5 rf0 rf1 rf2 rf3 rf4 rf5 s0 s1 s2 s3 s4 s5 sf0 sf1 sf2 sf3 sf4 sf5;obtain ⟨bel,Q1,Q2,RR,N1,N2,N3,N4⟩:=S2.out;obtain ⟨R1,R2,R3,R4,t1,t2,t3,t4,hT⟩:=S3.out;have HC0:=products_any (dN o1) (dN o4) (dN o3) (dN o2) (dE o1) (dE o4) (dE o3) (dE o2) (N1.av (by omega)) (N4.av (by omega)) (N3.av (by omega)) (N2.av (by omega)) (hT.belows bel) (by omega) (by omega) (by omega) (by omega)
   rw [R1,R2,R3,R4] at HC0;obtain ⟨sx,hsx⟩:∃ o,mulD o1 o4=o:=⟨_,rfl⟩;obtain ⟨sy,hsy⟩:∃ o,mulD o3 o2=o:=⟨_,rfl⟩;have HA2:=HA.out;rw [hsx,hsy] at HA2 HC0;have HC:=hid HC0;obtain ⟨x0,x1,x2,x3,x4,x5⟩:=Q1.facts;obtain ⟨y0,y1,y2,y3,y4,y5⟩:=Q2.facts;have rx1:=mulD_rng hsx;have rx2:=mulD_rng hsy;have S5:=(sd (ai HA2 (ai rx1 (ai rx2 (ai hsx hsy)))));clear HA HA2 HC0 R1 R2 R3 R4 t1 t2 t3 t4 hT N1 N2 N3 N4 Q1 Q2 RR bel rx1 rx2 hsx hsy
   go_wp2_with fail
   refine HC.out.mono ?_;rintro r u2 ⟨hRA,hb⟩;clear HC x0 x1 x2 x3 x4 x5 y0 y1 y2 y3 y4 y5
   cases hok:(sx.isSome&&sy.isSome) with
   | false =>
     unfold bothR at hRA;rw [hok] at hRA;simp only [Bool.false_eq_true,if_false] at hRA;obtain ⟨v,u,hr,NV,NU,hap⟩:=hRA;obtain ⟨av,cv,rfl,-⟩:=NV.shape;obtain ⟨au,cu,rfl,-⟩:=NU.shape
     have hr':r=.returned (.tuple #[.agg #[.bool false,.slice av 0 cv,.int .i64 0,.bool false,.slice au 0 cu,.int .i64 0],.int .i64 2]):=by
      rw [hr];simp [dN,dX,dE,ws0]
     subst hr';clear hr;obtain ⟨U3,hU3⟩:∃ U,U=u2.alloc (.cells #[.bool false,.slice av 0 cv,.int .i64 0,.bool false,.slice au 0 cu,.int .i64 0] 30):=⟨_,rfl⟩;have hbA:Below u2.heap.size u2 U3:=by rw [hU3];exact below_alloc _ _
     obtain ⟨bel,Q1,Q2,RR,N1,N2,N3,N4⟩:=S2.out
     have hA:ANS=(2,none,none):=by
      rw [←S5.out.1];unfold bothR;rw [if_neg];intro hh;simp only [Bool.and_eq_true] at hh;have:=tg0 _ _ hh.1;rw [this.1,this.2] at hok
      cases hok
     have bb:=bel.trans (hb.mono bel.size);have S4:=(sd (ai (bb.trans (hbA.mono bb.size)) (ai ((RR.below hb).below hbA) hA)));obtain ⟨r0,r1,r2,r3,r4,r5⟩:=((RR.below hb).below hbA).facts;obtain ⟨rf0,rf1,rf2,rf3,rf4,rf5⟩:=((RR.below hb).below hbA).frz;clear bel bb Q1 Q2 RR N1 N2 N3 N4 hb NV NU hap S2 S3 S5 hA hbA
     go_upto_region 6 with fail
     rw [←hU3];clear hU3;go_wp2;obtain ⟨bel,RR,hA⟩:=S4.out;exact bodyPost_ret (crossed_res _ (w.heap.size+1+1) false (.slice none 0 0) 0 false (.slice none 0 0) 0 2 _ rfl rfl (RR.set _ _ _ _ _ _)) rfl ⟨hA ▸ RA.zero _ _ _,below_st6 bel bel.size (by omega) _ _ _ _ _ _⟩
   | true =>
     unfold bothR at hRA;rw [hok] at hRA;simp only [if_true] at hRA;obtain ⟨v,u,rfl,NV,NU,hap⟩:=hRA;obtain ⟨av,cv,rfl,_⟩:=NV.shape;obtain ⟨au,cu,rfl,_⟩:=NU.shape;simp only at NV NU hap ⊢;obtain ⟨U3,hU3⟩:∃ U,U=u2.alloc (.cells #[.bool (dN sx),.slice av (ws (dX sx)).length cv,.int .i64 (dE sx),.bool (dN sy),.slice au (ws (dX sy)).length cu,.int .i64 (dE sy)] 30):=⟨_,rfl⟩;have hbA:Below u2.heap.size u2 U3:=by rw [hU3];exact below_alloc _ _
     have RS:Rq U3 u2.heap.size (dN sx) (.slice av (ws (dX sx)).length cv) (dE sx) (dN sy) (.slice au (ws (dX sy)).length cu) (dE sy):=by rw [hU3];exact Rq.new _ _ _ _ _ _ _
     obtain ⟨bel,Q1,Q2,RR,N1,N2,N3,N4⟩:=S2.out;have bb:=bel.trans (hb.mono bel.size);have bc:=bb.trans (hbA.mono bb.size);have lx:(ws (dX sx)).length≤8192:=by rw [←S5.out.2.2.2.1];obtain ⟨R1,R2,R3,R4,_⟩:=S3.out;rw [←R1,←R4];exact mulD_len _ _ _ _ _ _
     have ly:(ws (dX sy)).length≤8192:=by rw [←S5.out.2.2.2.2];obtain ⟨R1,R2,R3,R4,_⟩:=S3.out;rw [←R3,←R2];exact mulD_len _ _ _ _ _ _
     have hss:sx.isSome=true∧sy.isSome=true:=by simpa using hok
     have HC0:=HTG.out U3 (.slice av (ws (dX sx)).length cv) (.slice au (ws (dX sy)).length cu) (dN sx) (dN sy) (dX sx) (dX sy) (dE sx) (dE sy) ((NV.below hbA).av (by omega)) ((NU.below hbA).av (by omega)) (S3.out.2.2.2.2.2.2.2.2.belows bc) S5.out.2.1 S5.out.2.2.1
     rw [mulD_reform S5.out.2.2.2.1 hss.1,mulD_reform S5.out.2.2.2.2 hss.2] at HC0;have lt:=tgl o1 o4 o3 o2;rw [S5.out.2.2.2.1,S5.out.2.2.2.2] at lt;obtain ⟨z,hz⟩:∃ z,tg sx sy=z:=⟨_,rfl⟩;have HA2:=S5.out.1;rw [hz] at HC0 lt HA2;unfold DAns at HC0;have HC:=hid HC0;obtain ⟨x0,x1,x2,x3,x4,x5⟩:=RS.facts;have S6:=(sd (ai bc (ai ((Q1.below hb).below hbA) (ai ((Q2.below hb).below hbA) (ai ((RR.below hb).below hbA) (ai ((N2.below hb).below hbA) (ai ((N4.below hb).below hbA) HA2)))))));clear bel bb bc Q1 Q2 RR N1 N2 N3 N4 hb NV NU hap S2 S5 HC0 HA2 hbA RS hss lx ly hok hz
     go_upto_region 6 with fail
     rw [←hU3];clear hU3
     go_wp2_with fail
     refine HC.out.mono ?_;rintro r u3 ⟨⟨v,rfl,NZ⟩,hb⟩;obtain ⟨az,cz,rfl,_⟩:=NZ.arg (by omega)
     clear HC x0 x1 x2 x3 x4 x5;obtain ⟨U4,hU4⟩:∃ U,U=u3.alloc (.cells #[.bool (dN z),.slice az (ws (dX z)).length cz,.int .i64 (dE z)] 27):=⟨_,rfl⟩;have hbA:Below u3.heap.size u3 U4:=by rw [hU4];exact below_alloc _ _
     have TZ:Tk U4 u3.heap.size 27 (.bool (dN z)) (.slice az (ws (dX z)).length cz) (.int .i64 (dE z)):=by rw [hU4];exact Tk.new _ _ _ _ _
     obtain ⟨bel,Q1,Q2,RR,N2,N4,HA2⟩:=S6.out;have bb:=bel.trans (hb.mono bel.size);have bc:=bb.trans (hbA.mono bb.size)
     cases hzs:z.isSome with
     | false =>
       have hA:ANS=(2,none,none):=by rw [←HA2];unfold bothR;rw [hzs];rfl
       have her:erS z=2:=by unfold erS;rw [hzs];rfl
       have S4:=(sd (ai bc (ai ((RR.below hb).below hbA) hA)));obtain ⟨r0,r1,r2,r3,r4,r5⟩:=((RR.below hb).below hbA).facts;obtain ⟨rf0,rf1,rf2,rf3,rf4,rf5⟩:=((RR.below hb).below hbA).frz;clear bel bb bc Q1 Q2 RR N2 N4 hb NZ S6 S3 hA hbA HA2 TZ hzs
       go_upto_region 9 with fail
       rw [←hU4];clear hU4;go_wp2;obtain ⟨bel,RR,hA⟩:=S4.out;exact bodyPost_ret (crossed_res _ (w.heap.size+1+1) false (.slice none 0 0) 0 false (.slice none 0 0) 0 2 _ rfl rfl (RR.set _ _ _ _ _ _)) rfl ⟨hA ▸ RA.zero _ _ _,below_st6 bel bel.size (by omega) _ _ _ _ _ _⟩
     | true =>
       have her:erS z=0:=by unfold erS;rw [hzs];rfl
       obtain ⟨R1,R2,R3,R4,t1,t2,t3,t4,hT⟩:=S3.out;obtain ⟨p2a,p2b,q2v,p2c⟩:=(((N2.below hb).below hbA).arg' (by omega)).2
       have HD0:=Mul_any3 (((N2.below hb).below hbA).arg' (by omega)).2 (((N4.below hb).below hbA).arg' (by omega)).2 (hT.belows bc) (dN o2) (dN o4) (dE o2) (dE o4) (by omega) (by omega) (by omega) (by omega)
       rw [val_ws,val_ws,R2,R4] at HD0;have ld:=mulD_len (dN o2) (dX o2) (dE o2) (dN o4) (dX o4) (dE o4);rw [R2,R4] at ld;obtain ⟨d,hd⟩:∃ d,mulD o2 o4=d:=⟨_,rfl⟩;rw [hd] at HD0 ld HA2;unfold DAns at HD0;have HD:=hid HD0;have NZ2:=(NZ.below hbA).mono bel.size;obtain ⟨x0,x1,x2,x3,x4,x5⟩:=((Q1.below hb).below hbA).facts;obtain ⟨y0,y1,y2,y3,y4,y5⟩:=((Q2.below hb).below hbA).facts;have S7:=(sd (ai bc (ai ((RR.below hb).below hbA) (ai NZ2 (ai TZ HA2)))));clear bel bb bc Q1 Q2 RR N2 N4 hb NZ NZ2 S6 S3 hbA HA2 TZ R1 R2 R3 R4 t1 t2 t3 t4 hT HD0 hd p2a p2b q2v p2c
       go_upto_region 9 with fail
       rw [←hU4];clear hU4
       go_wp2_with fail
       refine HD.out.mono ?_;rintro r u4 ⟨⟨v,rfl,ND⟩,hb⟩;obtain ⟨ad,cd,rfl,_⟩:=ND.arg (by omega)
       clear HD x0 x1 x2 x3 x4 x5 y0 y1 y2 y3 y4 y5;obtain ⟨U5,hU5⟩:∃ U,U=u4.alloc (.cells #[.bool (dN d),.slice ad (ws (dX d)).length cd,.int .i64 (dE d)] 27):=⟨_,rfl⟩;have hbA:Below u4.heap.size u4 U5:=by rw [hU5];exact below_alloc _ _
       have TD:Tk U5 u4.heap.size 27 (.bool (dN d)) (.slice ad (ws (dX d)).length cd) (.int .i64 (dE d)):=by rw [hU5];exact Tk.new _ _ _ _ _
       obtain ⟨bel,RR,NZ,TZ,HA2⟩:=S7.out;have bb:=bel.trans (hb.mono bel.size);have bc:=bb.trans (hbA.mono bb.size);obtain ⟨r0,r1,r2,r3,r4,r5⟩:=((RR.below hb).below hbA).facts;obtain ⟨rf0,rf1,rf2,rf3,rf4,rf5⟩:=((RR.below hb).below hbA).frz
       cases hds:d.isSome with
       | false =>
         have hA:ANS=(2,none,none):=by rw [←HA2];unfold bothR;rw [hds];simp
         have her2:erS d=2:=by unfold erS;rw [hds];rfl
         have S4:=(sd (ai bc (ai ((RR.below hb).below hbA) hA)));clear bel bb bc RR hb NZ ND S7 hA hbA HA2 TZ TD hds
         go_upto_region 12 with fail
         rw [←hU5];clear hU5;go_wp2;obtain ⟨bel,RR,hA⟩:=S4.out;exact bodyPost_ret (crossed_res _ (w.heap.size+1+1) false (.slice none 0 0) 0 false (.slice none 0 0) 0 2 _ rfl rfl (RR.set _ _ _ _ _ _)) rfl ⟨hA ▸ RA.zero _ _ _,below_st6 bel bel.size (by omega) _ _ _ _ _ _⟩
       | true =>
         have hA:ANS=(0,z,d):=by rw [←HA2];unfold bothR;rw [hzs,hds];rfl
         have her2:erS d=0:=by unfold erS;rw [hds];rfl
         have S4:=(sd (ai bc (ai ((RR.below hb).below hbA) (ai hA (ai ((NZ.below hb).below hbA) (ai ((ND.below hbA).mono bel.size) (NZ.ap ND)))))));obtain ⟨x0,x1,x2,_,_,_⟩:=((TZ.below hb).below hbA).facts;obtain ⟨y0,y1,y2,_,_,_⟩:=TD.facts;clear bel bb bc RR hb NZ ND S7 hA hbA HA2 TZ TD hds
         go_upto_region 12 with fail
         rw [←hU5];clear hU5;go_wp2;obtain ⟨bel,RR,hA,NZ,ND,hap⟩:=S4.out;rw [hA];exact bodyPost_ret (crossed_res _ (w.heap.size+1+1) (dN z) _ (dE z) (dN d) _ (dE d) 0 _ rfl rfl (RR.set _ _ _ _ _ _)) rfl ⟨⟨_,_,rfl,NZ.st6k RR _ _ _ _ _ _,ND.st6k RR _ _ _ _ _ _,hap⟩,below_st6 bel bel.size (by omega) _ _ _ _ _ _⟩
theorem crossedSub {w:World}{n m n' m':Bool}{a b a' b':Option Addr}{la ca lb cb la' ca' lb' cb':Nat}{X Y X' Y':Nat}{e f e' f':Int}
 (hr:Rv w ⟨n,.slice a la ca,X,e,m,.slice b lb cb,Y,f⟩) (hs:Rv w ⟨n',.slice a' la' ca',X',e',m',.slice b' lb' cb',Y',f'⟩) (hT:Tab w)
 (tg:Option (Bool×Nat×Int)→Option (Bool×Nat×Int)→Option (Bool×Nat×Int)) (tg0:∀ x y,(tg x y).isSome=true→x.isSome=true∧y.isSome=true) (tgl:∀ a b c d,(ws (dX (tg (mulD a b) (mulD c d)))).length≤8192) (fnv:Value) (hfnv:fnv=.func (.func 56) #[] #[])
 (HTG:Hid (∀ (u:World) (v p:Value) (n m:Bool) (X Y:Nat) (e f:Int),Av u v X→Av u p Y→Tab u→(-1048576≤e∧e≤1048576)→(-1048576≤f∧f≤1048576)→Calls Tryz.prog 56 #[.agg #[.bool n,v,.int .i64 e],.agg #[.bool m,p,.int .i64 f]] u fun r w'=>DAns u.heap.size w' r (tg (mkS n X e) (mkS m Y f))∧Below u.heap.size u w'))
 (I:Nat→Ri) (hI:I=twoI ⟨n,.slice a la ca,X,e,m,.slice b lb cb,Y,f⟩ ⟨n',.slice a' la' ca',X',e',m',.slice b' lb' cb',Y',f'⟩) :
 Calls Tryz.prog 54 #[.agg #[.bool n,.slice a la ca,.int .i64 e,.bool m,.slice b lb cb,.int .i64 f],.agg #[.bool n',.slice a' la' ca',.int .i64 e',.bool m',.slice b' lb' cb',.int .i64 f'],fnv] w fun r w' =>
  RA w.heap.size w' r (if errL I 2=0 then bothR (tg (mulD (mkS n X e) (mkS m' Y' f')) (mulD (mkS n' X' e') (mkS m Y f))) (mulD (mkS m Y f) (mkS m' Y' f')) else (errL I 2,none,none))∧Below w.heap.size w w':=by
 obtain ⟨W1,hW1⟩:∃ W,W=((w.alloc (.cells #[.bool n,.slice a la ca,.int .i64 e,.bool m,.slice b lb cb,.int .i64 f] 30)).alloc (.cells #[.bool n',.slice a' la' ca',.int .i64 e',.bool m',.slice b' lb' cb',.int .i64 f'] 30)).alloc (.cells #[.bool false,.slice none 0 0,.int .i64 0,.bool false,.slice none 0 0,.int .i64 0] 30):=⟨_,rfl⟩;obtain ⟨hB,hz1,Q1,Q2,RR⟩:=two_begin w ⟨n,.slice a la ca,X,e,m,.slice b lb cb,Y,f⟩ ⟨n',.slice a' la' ca',X',e',m',.slice b' lb' cb',Y',f'⟩ W1 hW1;obtain ⟨R,hR⟩:∃ R,R=W1.alloc (.cells #[.bool n,.slice a la ca,.int .i64 e,.bool m,.slice b lb cb,.int .i64 f,.bool n',.slice a' la' ca',.int .i64 e',.bool m',.slice b' lb' cb',.int .i64 f'] 30):=⟨_,rfl⟩;have hin:=rin2 W1 _ _ (hr.below hB) (hs.below hB) (hT.belows hB) R hR;have hbR:Below W1.heap.size W1 R:=by rw [hR];exact below_alloc _ _
 have HF:=hid (forms2 R W1.heap.size _ hin);rw [←hI] at HF;simp only at Q1 Q2;obtain ⟨x0,x1,x2,x3,x4,x5⟩:=Q1.facts;obtain ⟨y0,y1,y2,y3,y4,y5⟩:=Q2.facts;obtain ⟨ANS,hANS⟩:∃ A,(if errL I 2=0 then bothR (tg (mulD (mkS n X e) (mkS m' Y' f')) (mulD (mkS n' X' e') (mkS m Y f))) (mulD (mkS m Y f) (mkS m' Y' f')) else (errL I 2,none,none))=A:=⟨_,rfl⟩
 rw [hANS];have HA:=sd hANS;clear hANS;have S0:=(sd (ai (hB.trans (hbR.mono hB.size)) (ai (Q1.below hbR) (ai (Q2.below hbR) (ai (RR.below hbR) hT)))));have hs3:w.heap.size+3≤W1.heap.size:=by omega
 obtain ⟨g12,hg12⟩:∃ g,W1.heap.size=g:=⟨_,rfl⟩;rw [hg12] at HF;clear hB hz1 Q1 Q2 RR hin hbR hr hs hT;subst hfnv;go_enter Tryz.func54,Tryz.ntmps54
 go_upto_region 1 with fail
 rw [←hW1];clear hW1
 go_wp2_with fail
 rw [←hR];clear hR hg12 x0 x1 x2 x3 x4 x5 y0 y1 y2 y3 y4 y5;refine HF.out.mono ?_;rintro r u1 ⟨hor,hb⟩;clear HF;obtain ⟨bel,Q1,Q2,RR,hT⟩:=S0.out;have S1:=(sd (ai (bel.trans (hb.mono bel.size)) (ai (Q1.below hb) (ai (Q2.below hb) (RR.below hb)))))
 rcases hor with ⟨hne,rfl⟩|⟨h0,g',V,rfl,hO⟩
 · have HA2:=HA.out
   rw [if_neg hne] at HA2;obtain ⟨er,her⟩:∃ er,errL I 2=er:=⟨_,rfl⟩;rw [her] at hne HA2 ⊢;have HA3:=sd HA2;clear HA HA2 her;obtain ⟨r0,r1,r2,r3,r4,r5⟩:=(RR.below hb).facts;obtain ⟨rf0,rf1,rf2,rf3,rf4,rf5⟩:=(RR.below hb).frz;have hnb:(er==0)=false:=by simp [hne]
   have hnn:(er != 0)=true:=by simp [hne]
   clear hne bel Q1 Q2 RR hb hT S0;go_wp2;obtain ⟨bel,Q1,Q2,RR⟩:=S1.out;exact bodyPost_ret (crossed_res _ (w.heap.size+1+1) false (.slice none 0 0) 0 false (.slice none 0 0) 0 er _ rfl rfl (RR.set _ _ _ _ _ _)) rfl ⟨HA3.out ▸ RA.zero _ _ _,below_st6 bel bel.size (by omega) _ _ _ _ _ _⟩
 · have HA2:=HA.out
   rw [if_pos h0] at HA2;clear HA;obtain ⟨q0,q1,q2,q3,q4,q5⟩:=hO.row.facts 0 (by omega)
   obtain ⟨p0,p1,p2,p3,p4,p5⟩:=hO.row.facts 1 (by omega)
   simp only [Nat.zero_mul,Nat.zero_add,Nat.one_mul,Nat.reduceAdd] at q0 q1 q2 q3 q4 q5 p0 p1 p2 p3 p4 p5;unfold frmI at q0 q1 q2 q3 q4 q5 p0 p1 p2 p3 p4 p5;simp only at q0 q1 q2 q3 q4 q5 p0 p1 p2 p3 p4 p5;obtain ⟨k1,k2,k3,k4⟩:=errL0 h0 0 (by omega)
   obtain ⟨j1,j2,j3,j4⟩:=errL0 h0 1 (by omega)
   obtain ⟨N1,N2⟩:=hO.nts 0 (by omega)
   obtain ⟨N3,N4⟩:=hO.nts 1 (by omega)
   have e0:I 0=⟨n,.slice a la ca,X,e,m,.slice b lb cb,Y,f⟩:=by rw [hI];rfl
   have e1:I 1=⟨n',.slice a' la' ca',X',e',m',.slice b' lb' cb',Y',f'⟩:=by rw [hI];rfl
   rw [e0] at q0 q2 q3 q5 k1 k2 k3 k4 N1 N2;rw [e1] at p0 p2 p3 p5 j1 j2 j3 j4 N3 N4;simp only at q0 q1 q2 q3 q4 q5 k1 k2 k3 k4 N1 N2 p0 p1 p2 p3 p4 p5 j1 j2 j3 j4 N3 N4;have m1:=mkS_len n X e;have m2:=mkS_len m Y f;have m3:=mkS_len n' X' e';have m4:=mkS_len m' Y' f';obtain ⟨o1,ho1⟩:∃ o,mkS n X e=o:=⟨_,rfl⟩;obtain ⟨o2,ho2⟩:∃ o,mkS m Y f=o:=⟨_,rfl⟩;obtain ⟨o3,ho3⟩:∃ o,mkS n' X' e'=o:=⟨_,rfl⟩;obtain ⟨o4,ho4⟩:∃ o,mkS m' Y' f'=o:=⟨_,rfl⟩;have t1:=frm_rng ho1;have t2:=frm_rng ho2;have t3:=frm_rng ho3;have t4:=frm_rng ho4;have R1:=reform ho1 (by rw [←ho1];exact k2)
   have R2:=reform ho2 (by rw [←ho2];exact k3)
   have R3:=reform ho3 (by rw [←ho3];exact j2)
   have R4:=reform ho4 (by rw [←ho4];exact j3)
   rw [ho1] at q0 q2 N1 m1;rw [ho2] at q3 q5 N2 m2;rw [ho3] at p0 p2 N3 m3;rw [ho4] at p3 p5 N4 m4;rw [ho1,ho2,ho3,ho4] at HA2;have HA:=sd HA2;clear HA2;obtain ⟨v1,hv1⟩:∃ v1,(V 0).1=v1:=⟨_,rfl⟩;obtain ⟨v2,hv2⟩:∃ v1,(V 0).2=v1:=⟨_,rfl⟩;obtain ⟨v3,hv3⟩:∃ v1,(V 1).1=v1:=⟨_,rfl⟩;obtain ⟨v4,hv4⟩:∃ v1,(V 1).2=v1:=⟨_,rfl⟩;rw [hv1] at q1 N1;rw [hv2] at q4 N2;rw [hv3] at p1 N3;rw [hv4] at p4 N4;obtain ⟨a1,c1,rfl,_⟩:=N1.arg (by omega)
   obtain ⟨a2,c2,rfl,_⟩:=N2.arg (by omega)
   obtain ⟨a3,c3,rfl,_⟩:=N3.arg (by omega)
   obtain ⟨a4,c4,rfl,_⟩:=N4.arg (by omega)
   have hg':w.heap.size+3≤g':=by have:=hO.own;have:=(S0.out.2.2.2.1).lt;omega
   obtain ⟨r0,r1,r2,r3,r4,r5⟩:=(Q1.below hb).facts;obtain ⟨rf0,rf1,rf2,rf3,rf4,rf5⟩:=(Q1.below hb).frz;obtain ⟨s0,s1,s2,s3,s4,s5⟩:=(Q2.below hb).facts;obtain ⟨sf0,sf1,sf2,sf3,sf4,sf5⟩:=(Q2.below hb).frz;have ne1:w.heap.size≠w.heap.size+1:=by omega
   have ne2:w.heap.size+1≠w.heap.size:=by omega
   have ne3:g'≠w.heap.size:=by omega
   have ne4:g'≠w.heap.size+1:=by omega
   have ne5:w.heap.size≠g':=by omega
   have ne6:w.heap.size+1≠g':=by omega
   obtain ⟨U2,hU2⟩:∃ U,U=(st6 (st6 u1 w.heap.size (.bool (dN o1)) (.slice a1 (ws (dX o1)).length c1) (.int .i64 (dE o1)) (.bool (dN o2)) (.slice a2 (ws (dX o2)).length c2) (.int .i64 (dE o2))) (w.heap.size+1) (.bool (dN o3)) (.slice a3 (ws (dX o3)).length c3) (.int .i64 (dE o3)) (.bool (dN o4)) (.slice a4 (ws (dX o4)).length c4) (.int .i64 (dE o4))).drew:=⟨_,rfl⟩;have AS2:=assign2 (Q1.below hb) (Q2.below hb) (RR.below hb) ne1 (by omega) (by omega) (Nat.le_refl _) (by omega) S1.out.1 S1.out.1.size (dN o1) (dN o2) (dN o3) (dN o4) _ _ _ _ (dE o1) (dE o2) (dE o3) (dE o4) _ _ _ _ N1 N2 N3 N4 U2 hU2
   have S2:=sd AS2;have S3:=(sd (ai R1 (ai R2 (ai R3 (ai R4 (ai t1 (ai t2 (ai t3 (ai t4 hT)))))))));clear AS2 N1 N2 N3 N4 R1 R2 R3 R4 t1 t2 t3 t4 hO bel Q1 Q2 RR hb hT k1 k2 k3 k4 j1 j2 j3 j4 e0 e1 h0 ho1 ho2 ho3 ho4 hv1 hv2 hv3 hv4 S0 S1
   go_wp2_with fail
   go_region
   unfold st6 at hU2;rw [←hU2];clear hU2 q0 q1 q2 q3 q4 q5 p0 p1 p2 p3 p4 p5 r0 r1 r2 r3 r4 r5 rf0 rf1 rf2 rf3 rf4 rf5 s0 s1 s2 s3 s4 s5 sf0 sf1 sf2 sf3 sf4 sf5;obtain ⟨bel,Q1,Q2,RR,N1,N2,N3,N4⟩:=S2.out;obtain ⟨R1,R2,R3,R4,t1,t2,t3,t4,hT⟩:=S3.out;have HC0:=products_any (dN o1) (dN o4) (dN o3) (dN o2) (dE o1) (dE o4) (dE o3) (dE o2) (N1.av (by omega)) (N4.av (by omega)) (N3.av (by omega)) (N2.av (by omega)) (hT.belows bel) (by omega) (by omega) (by omega) (by omega)
   rw [R1,R2,R3,R4] at HC0;obtain ⟨sx,hsx⟩:∃ o,mulD o1 o4=o:=⟨_,rfl⟩;obtain ⟨sy,hsy⟩:∃ o,mulD o3 o2=o:=⟨_,rfl⟩;have HA2:=HA.out;rw [hsx,hsy] at HA2 HC0;have HC:=hid HC0;obtain ⟨x0,x1,x2,x3,x4,x5⟩:=Q1.facts;obtain ⟨y0,y1,y2,y3,y4,y5⟩:=Q2.facts;have rx1:=mulD_rng hsx;have rx2:=mulD_rng hsy;have S5:=(sd (ai HA2 (ai rx1 (ai rx2 (ai hsx hsy)))));clear HA HA2 HC0 R1 R2 R3 R4 t1 t2 t3 t4 hT N1 N2 N3 N4 Q1 Q2 RR bel rx1 rx2 hsx hsy
   go_wp2_with fail
   refine HC.out.mono ?_;rintro r u2 ⟨hRA,hb⟩;clear HC x0 x1 x2 x3 x4 x5 y0 y1 y2 y3 y4 y5
   cases hok:(sx.isSome&&sy.isSome) with
   | false =>
     unfold bothR at hRA;rw [hok] at hRA;simp only [Bool.false_eq_true,if_false] at hRA;obtain ⟨v,u,hr,NV,NU,hap⟩:=hRA;obtain ⟨av,cv,rfl,-⟩:=NV.shape;obtain ⟨au,cu,rfl,-⟩:=NU.shape
     have hr':r=.returned (.tuple #[.agg #[.bool false,.slice av 0 cv,.int .i64 0,.bool false,.slice au 0 cu,.int .i64 0],.int .i64 2]):=by
      rw [hr];simp [dN,dX,dE,ws0]
     subst hr';clear hr;obtain ⟨U3,hU3⟩:∃ U,U=u2.alloc (.cells #[.bool false,.slice av 0 cv,.int .i64 0,.bool false,.slice au 0 cu,.int .i64 0] 30):=⟨_,rfl⟩;have hbA:Below u2.heap.size u2 U3:=by rw [hU3];exact below_alloc _ _
     obtain ⟨bel,Q1,Q2,RR,N1,N2,N3,N4⟩:=S2.out
     have hA:ANS=(2,none,none):=by
      rw [←S5.out.1];unfold bothR;rw [if_neg];intro hh;simp only [Bool.and_eq_true] at hh;have:=tg0 _ _ hh.1;rw [this.1,this.2] at hok
      cases hok
     have bb:=bel.trans (hb.mono bel.size);have S4:=(sd (ai (bb.trans (hbA.mono bb.size)) (ai ((RR.below hb).below hbA) hA)));obtain ⟨r0,r1,r2,r3,r4,r5⟩:=((RR.below hb).below hbA).facts;obtain ⟨rf0,rf1,rf2,rf3,rf4,rf5⟩:=((RR.below hb).below hbA).frz;clear bel bb Q1 Q2 RR N1 N2 N3 N4 hb NV NU hap S2 S3 S5 hA hbA
     go_upto_region 6 with fail
     rw [←hU3];clear hU3;go_wp2;obtain ⟨bel,RR,hA⟩:=S4.out;exact bodyPost_ret (crossed_res _ (w.heap.size+1+1) false (.slice none 0 0) 0 false (.slice none 0 0) 0 2 _ rfl rfl (RR.set _ _ _ _ _ _)) rfl ⟨hA ▸ RA.zero _ _ _,below_st6 bel bel.size (by omega) _ _ _ _ _ _⟩
   | true =>
     unfold bothR at hRA;rw [hok] at hRA;simp only [if_true] at hRA;obtain ⟨v,u,rfl,NV,NU,hap⟩:=hRA;obtain ⟨av,cv,rfl,_⟩:=NV.shape;obtain ⟨au,cu,rfl,_⟩:=NU.shape;simp only at NV NU hap ⊢;obtain ⟨U3,hU3⟩:∃ U,U=u2.alloc (.cells #[.bool (dN sx),.slice av (ws (dX sx)).length cv,.int .i64 (dE sx),.bool (dN sy),.slice au (ws (dX sy)).length cu,.int .i64 (dE sy)] 30):=⟨_,rfl⟩;have hbA:Below u2.heap.size u2 U3:=by rw [hU3];exact below_alloc _ _
     have RS:Rq U3 u2.heap.size (dN sx) (.slice av (ws (dX sx)).length cv) (dE sx) (dN sy) (.slice au (ws (dX sy)).length cu) (dE sy):=by rw [hU3];exact Rq.new _ _ _ _ _ _ _
     obtain ⟨bel,Q1,Q2,RR,N1,N2,N3,N4⟩:=S2.out;have bb:=bel.trans (hb.mono bel.size);have bc:=bb.trans (hbA.mono bb.size);have lx:(ws (dX sx)).length≤8192:=by rw [←S5.out.2.2.2.1];obtain ⟨R1,R2,R3,R4,_⟩:=S3.out;rw [←R1,←R4];exact mulD_len _ _ _ _ _ _
     have ly:(ws (dX sy)).length≤8192:=by rw [←S5.out.2.2.2.2];obtain ⟨R1,R2,R3,R4,_⟩:=S3.out;rw [←R3,←R2];exact mulD_len _ _ _ _ _ _
     have hss:sx.isSome=true∧sy.isSome=true:=by simpa using hok
     have HC0:=HTG.out U3 (.slice av (ws (dX sx)).length cv) (.slice au (ws (dX sy)).length cu) (dN sx) (dN sy) (dX sx) (dX sy) (dE sx) (dE sy) ((NV.below hbA).av (by omega)) ((NU.below hbA).av (by omega)) (S3.out.2.2.2.2.2.2.2.2.belows bc) S5.out.2.1 S5.out.2.2.1
     rw [mulD_reform S5.out.2.2.2.1 hss.1,mulD_reform S5.out.2.2.2.2 hss.2] at HC0;have lt:=tgl o1 o4 o3 o2;rw [S5.out.2.2.2.1,S5.out.2.2.2.2] at lt;obtain ⟨z,hz⟩:∃ z,tg sx sy=z:=⟨_,rfl⟩;have HA2:=S5.out.1;rw [hz] at HC0 lt HA2;unfold DAns at HC0;have HC:=hid HC0;obtain ⟨x0,x1,x2,x3,x4,x5⟩:=RS.facts;have S6:=(sd (ai bc (ai ((Q1.below hb).below hbA) (ai ((Q2.below hb).below hbA) (ai ((RR.below hb).below hbA) (ai ((N2.below hb).below hbA) (ai ((N4.below hb).below hbA) HA2)))))));clear bel bb bc Q1 Q2 RR N1 N2 N3 N4 hb NV NU hap S2 S5 HC0 HA2 hbA RS hss lx ly hok hz
     go_upto_region 6 with fail
     rw [←hU3];clear hU3
     go_wp2_with fail
     refine HC.out.mono ?_;rintro r u3 ⟨⟨v,rfl,NZ⟩,hb⟩;obtain ⟨az,cz,rfl,_⟩:=NZ.arg (by omega)
     clear HC x0 x1 x2 x3 x4 x5;obtain ⟨U4,hU4⟩:∃ U,U=u3.alloc (.cells #[.bool (dN z),.slice az (ws (dX z)).length cz,.int .i64 (dE z)] 27):=⟨_,rfl⟩;have hbA:Below u3.heap.size u3 U4:=by rw [hU4];exact below_alloc _ _
     have TZ:Tk U4 u3.heap.size 27 (.bool (dN z)) (.slice az (ws (dX z)).length cz) (.int .i64 (dE z)):=by rw [hU4];exact Tk.new _ _ _ _ _
     obtain ⟨bel,Q1,Q2,RR,N2,N4,HA2⟩:=S6.out;have bb:=bel.trans (hb.mono bel.size);have bc:=bb.trans (hbA.mono bb.size)
     cases hzs:z.isSome with
     | false =>
       have hA:ANS=(2,none,none):=by rw [←HA2];unfold bothR;rw [hzs];rfl
       have her:erS z=2:=by unfold erS;rw [hzs];rfl
       have S4:=(sd (ai bc (ai ((RR.below hb).below hbA) hA)));obtain ⟨r0,r1,r2,r3,r4,r5⟩:=((RR.below hb).below hbA).facts;obtain ⟨rf0,rf1,rf2,rf3,rf4,rf5⟩:=((RR.below hb).below hbA).frz;clear bel bb bc Q1 Q2 RR N2 N4 hb NZ S6 S3 hA hbA HA2 TZ hzs
       go_upto_region 9 with fail
       rw [←hU4];clear hU4;go_wp2;obtain ⟨bel,RR,hA⟩:=S4.out;exact bodyPost_ret (crossed_res _ (w.heap.size+1+1) false (.slice none 0 0) 0 false (.slice none 0 0) 0 2 _ rfl rfl (RR.set _ _ _ _ _ _)) rfl ⟨hA ▸ RA.zero _ _ _,below_st6 bel bel.size (by omega) _ _ _ _ _ _⟩
     | true =>
       have her:erS z=0:=by unfold erS;rw [hzs];rfl
       obtain ⟨R1,R2,R3,R4,t1,t2,t3,t4,hT⟩:=S3.out;obtain ⟨p2a,p2b,q2v,p2c⟩:=(((N2.below hb).below hbA).arg' (by omega)).2
       have HD0:=Mul_any3 (((N2.below hb).below hbA).arg' (by omega)).2 (((N4.below hb).below hbA).arg' (by omega)).2 (hT.belows bc) (dN o2) (dN o4) (dE o2) (dE o4) (by omega) (by omega) (by omega) (by omega)
       rw [val_ws,val_ws,R2,R4] at HD0;have ld:=mulD_len (dN o2) (dX o2) (dE o2) (dN o4) (dX o4) (dE o4);rw [R2,R4] at ld;obtain ⟨d,hd⟩:∃ d,mulD o2 o4=d:=⟨_,rfl⟩;rw [hd] at HD0 ld HA2;unfold DAns at HD0;have HD:=hid HD0;have NZ2:=(NZ.below hbA).mono bel.size;obtain ⟨x0,x1,x2,x3,x4,x5⟩:=((Q1.below hb).below hbA).facts;obtain ⟨y0,y1,y2,y3,y4,y5⟩:=((Q2.below hb).below hbA).facts;have S7:=(sd (ai bc (ai ((RR.below hb).below hbA) (ai NZ2 (ai TZ HA2)))));clear bel bb bc Q1 Q2 RR N2 N4 hb NZ NZ2 S6 S3 hbA HA2 TZ R1 R2 R3 R4 t1 t2 t3 t4 hT HD0 hd p2a p2b q2v p2c
       go_upto_region 9 with fail
       rw [←hU4];clear hU4
       go_wp2_with fail
       refine HD.out.mono ?_;rintro r u4 ⟨⟨v,rfl,ND⟩,hb⟩;obtain ⟨ad,cd,rfl,_⟩:=ND.arg (by omega)
       clear HD x0 x1 x2 x3 x4 x5 y0 y1 y2 y3 y4 y5;obtain ⟨U5,hU5⟩:∃ U,U=u4.alloc (.cells #[.bool (dN d),.slice ad (ws (dX d)).length cd,.int .i64 (dE d)] 27):=⟨_,rfl⟩;have hbA:Below u4.heap.size u4 U5:=by rw [hU5];exact below_alloc _ _
       have TD:Tk U5 u4.heap.size 27 (.bool (dN d)) (.slice ad (ws (dX d)).length cd) (.int .i64 (dE d)):=by rw [hU5];exact Tk.new _ _ _ _ _
       obtain ⟨bel,RR,NZ,TZ,HA2⟩:=S7.out;have bb:=bel.trans (hb.mono bel.size);have bc:=bb.trans (hbA.mono bb.size);obtain ⟨r0,r1,r2,r3,r4,r5⟩:=((RR.below hb).below hbA).facts;obtain ⟨rf0,rf1,rf2,rf3,rf4,rf5⟩:=((RR.below hb).below hbA).frz
       cases hds:d.isSome with
       | false =>
         have hA:ANS=(2,none,none):=by rw [←HA2];unfold bothR;rw [hds];simp
         have her2:erS d=2:=by unfold erS;rw [hds];rfl
         have S4:=(sd (ai bc (ai ((RR.below hb).below hbA) hA)));clear bel bb bc RR hb NZ ND S7 hA hbA HA2 TZ TD hds
         go_upto_region 12 with fail
         rw [←hU5];clear hU5;go_wp2;obtain ⟨bel,RR,hA⟩:=S4.out;exact bodyPost_ret (crossed_res _ (w.heap.size+1+1) false (.slice none 0 0) 0 false (.slice none 0 0) 0 2 _ rfl rfl (RR.set _ _ _ _ _ _)) rfl ⟨hA ▸ RA.zero _ _ _,below_st6 bel bel.size (by omega) _ _ _ _ _ _⟩
       | true =>
         have hA:ANS=(0,z,d):=by rw [←HA2];unfold bothR;rw [hzs,hds];rfl
         have her2:erS d=0:=by unfold erS;rw [hds];rfl
         have S4:=(sd (ai bc (ai ((RR.below hb).below hbA) (ai hA (ai ((NZ.below hb).below hbA) (ai ((ND.below hbA).mono bel.size) (NZ.ap ND)))))));obtain ⟨x0,x1,x2,_,_,_⟩:=((TZ.below hb).below hbA).facts;obtain ⟨y0,y1,y2,_,_,_⟩:=TD.facts;clear bel bb bc RR hb NZ ND S7 hA hbA HA2 TZ TD hds
         go_upto_region 12 with fail
         rw [←hU5];clear hU5;go_wp2;obtain ⟨bel,RR,hA,NZ,ND,hap⟩:=S4.out;rw [hA];exact bodyPost_ret (crossed_res _ (w.heap.size+1+1) (dN z) _ (dE z) (dN d) _ (dE d) 0 _ rfl rfl (RR.set _ _ _ _ _ _)) rfl ⟨⟨_,_,rfl,NZ.st6k RR _ _ _ _ _ _,ND.st6k RR _ _ _ _ _ _,hap⟩,below_st6 bel bel.size (by omega) _ _ _ _ _ _⟩
end
section
open Go.RowKit
def negO (o:Option (Bool×Nat×Int)):Option (Bool×Nat×Int):=match o with
 | none=>none
 | some (n,X,e)=>mkS (!n) X e
theorem negO_mkS (n:Bool) (X:Nat) (e:Int):negO (mkS n X e)=mkS (!n) X e:=by
 by_cases h0:X=0
 · subst h0;rw [mkS_zero,mkS_zero];rfl
 · cases ho:mkS n X e with
   | none =>
     unfold mkS at ho ⊢;rw [if_neg h0] at ho ⊢
     split at ho
     · rename_i h;rw [if_pos h];rfl
     · cases ho
   | some d =>
     unfold mkS at ho ⊢;rw [if_neg h0] at ho ⊢
     split at ho
     · cases ho
     · rename_i h
       cases ho
       rw [if_neg h]
       show mkS (!n) (X/2^lo X) (e+lo X)=_
       have hF:Frm n (X/2^lo X) (e+lo X):=mkS_frm (n:=n) (X:=X) (e:=e) (by unfold mkS;rw [if_neg h0,if_neg h])
       have hF2:Frm (!n) (X/2^lo X) (e+lo X):=⟨by
        rcases hF.odd with q|⟨q,_,_⟩
        · exact .inl q
        · exfalso
          obtain ⟨k,h2,h3,h4⟩:=odd_part X h0
          omega,hF.size,hF.up,hF.down⟩
       exact hF2.self
def subD11 (x y:Option (Bool×Nat×Int)):Option (Bool×Nat×Int):=addD x (negO y)
theorem addD_both {x y:Option (Bool×Nat×Int)}(h:(addD x y).isSome=true):x.isSome=true∧y.isSome=true:=by
 cases x with
 | none=>cases h
 | some a =>
   cases y with
   | none=>cases h
   | some b=>exact ⟨rfl,rfl⟩
theorem negO_some {y:Option (Bool×Nat×Int)}(h:(negO y).isSome=true):y.isSome=true:=by
 cases y with
 | none=>cases h
 | some b=>rfl
theorem mulD_form (a b:Option (Bool×Nat×Int)):∃ n X e,mulD a b=mkS n X e:=by
 cases a with
 | none=>exact ⟨false,1,1048577,by rw [mkS_odd _ _ _ (by decide),if_pos (by omega)];rfl⟩
 | some x =>
   cases b with
   | none=>exact ⟨false,1,1048577,by rw [mkS_odd _ _ _ (by decide),if_pos (by omega)];rfl⟩
   | some y=>exact ⟨_,_,_,rfl⟩
theorem add_len11 (a b c d:Option (Bool×Nat×Int)):(ws (dX (addD (mulD a b) (mulD c d)))).length≤8192:=by
 obtain ⟨n,X,e,h1⟩:=mulD_form a b;obtain ⟨m,Y,f,h2⟩:=mulD_form c d;rw [h1,h2];exact addD_len _ _ _ _ _ _
theorem sub_len11 (a b c d:Option (Bool×Nat×Int)):(ws (dX (subD11 (mulD a b) (mulD c d)))).length≤8192:=by
 obtain ⟨n,X,e,h1⟩:=mulD_form a b;obtain ⟨m,Y,f,h2⟩:=mulD_form c d;rw [h1,h2];unfold subD11;rw [negO_mkS];exact addD_len _ _ _ _ _ _
theorem Add_res11 (W:World) (g:Nat) (n:Bool) (v:Value) (e:Int) (m:Bool) (u:Value) (f k:Int) (tmps:Array Value) (ht:tmps[4]?.getD undef=.pointer (some ⟨g,0,none⟩)) (hk:tmps[5]?.getD undef=.int .i64 k) (D:Rq W g n v e m u f) :
 (results Tryz.f24 tmps).run Tryz.prog W=.ok (.tuple #[.agg #[.bool n,v,.int .i64 e,.bool m,u,.int .i64 f],.int .i64 k]) W:=by
 obtain ⟨x0,x1,x2,x3,x4,x5⟩:=D.facts;simp [results,Tryz.results24,ht,hk,go_sem,x0,x1,x2,x3,x4,x5]
theorem Add11 {w:World}{n m n' m':Bool}{a b a' b':Option Addr}{la ca lb cb la' ca' lb' cb':Nat}{X Y X' Y':Nat}{e f e' f':Int}
 (hr:Rv w ⟨n,.slice a la ca,X,e,m,.slice b lb cb,Y,f⟩) (hs:Rv w ⟨n',.slice a' la' ca',X',e',m',.slice b' lb' cb',Y',f'⟩) (hT:Tab w)
 (I:Nat→Ri) (hI:I=twoI ⟨n,.slice a la ca,X,e,m,.slice b lb cb,Y,f⟩ ⟨n',.slice a' la' ca',X',e',m',.slice b' lb' cb',Y',f'⟩) :
 Calls Tryz.prog 24 #[.agg #[.bool n,.slice a la ca,.int .i64 e,.bool m,.slice b lb cb,.int .i64 f],.agg #[.bool n',.slice a' la' ca',.int .i64 e',.bool m',.slice b' lb' cb',.int .i64 f']] w fun r w' =>
  RA w.heap.size w' r (if errL I 2=0 then bothR (addD (mulD (mkS n X e) (mkS m' Y' f')) (mulD (mkS n' X' e') (mkS m Y f))) (mulD (mkS m Y f) (mkS m' Y' f')) else (errL I 2,none,none))∧Below w.heap.size w w':=by
 obtain ⟨W1,hW1⟩:∃ W,W=((w.alloc (.cells #[.bool n,.slice a la ca,.int .i64 e,.bool m,.slice b lb cb,.int .i64 f] 30)).alloc (.cells #[.bool n',.slice a' la' ca',.int .i64 e',.bool m',.slice b' lb' cb',.int .i64 f'] 30)).alloc (.cells #[.bool false,.slice none 0 0,.int .i64 0,.bool false,.slice none 0 0,.int .i64 0] 30):=⟨_,rfl⟩;obtain ⟨hB,hz1,Q1,Q2,RR⟩:=two_begin w ⟨n,.slice a la ca,X,e,m,.slice b lb cb,Y,f⟩ ⟨n',.slice a' la' ca',X',e',m',.slice b' lb' cb',Y',f'⟩ W1 hW1
 have HC0:=crossedAdd (hr.below hB) (hs.below hB) (hT.belows hB) addD (fun x y h=>addD_both h) add_len11 (.func (.func 55) #[] #[]) rfl (by
  intro u v p n m X Y e f hv hp hT he hf;obtain ⟨a,l,c,xs,rfl,hA,rfl⟩:=hv;obtain ⟨b,k,d,ys,rfl,hB,rfl⟩:=hp;exact Add_any3 hA hB hT n m e f (by omega) (by omega) (by omega) (by omega)) I hI
 obtain ⟨ANS,hANS⟩:∃ A,(if errL I 2=0 then bothR (addD (mulD (mkS n X e) (mkS m' Y' f')) (mulD (mkS n' X' e') (mkS m Y f))) (mulD (mkS m Y f) (mkS m' Y' f')) else (errL I 2,none,none))=A:=⟨_,rfl⟩
 rw [hANS] at HC0 ⊢;have HC:=hid HC0;simp only at Q1 Q2;obtain ⟨x0,x1,x2,x3,x4,x5⟩:=Q1.facts;obtain ⟨y0,y1,y2,y3,y4,y5⟩:=Q2.facts;have S0:=(sd (ai hB RR));have hs3:w.heap.size+3≤W1.heap.size:=by omega
 clear hB hz1 Q1 Q2 RR hr hs hT HC0 hANS hI;go_enter Tryz.func24,Tryz.ntmps24
 go_upto_region 1 with fail
 rw [←hW1];clear hW1
 go_wp2_with fail
 clear x0 x1 x2 x3 x4 x5 y0 y1 y2 y3 y4 y5;refine HC.out.mono ?_;rintro r u1 ⟨⟨v,u,rfl,NV,NU,hap⟩,hb⟩;obtain ⟨av,cv,rfl,_⟩:=NV.shape;obtain ⟨au,cu,rfl,_⟩:=NU.shape;obtain ⟨bel,RR⟩:=S0.out;obtain ⟨r0,r1,r2,r3,r4,r5⟩:=(RR.below hb).facts;obtain ⟨rf0,rf1,rf2,rf3,rf4,rf5⟩:=(RR.below hb).frz;have S4:=(sd (ai (bel.trans (hb.mono bel.size)) (ai (RR.below hb) (ai (NV.mono bel.size) (ai (NU.mono bel.size) hap)))));clear bel RR hb NV NU hap S0 HC;go_wp2;obtain ⟨bel,RR,NV,NU,hap⟩:=S4.out;exact bodyPost_ret (Add_res11 _ (w.heap.size+1+1) (dN ANS.2.1) _ (dE ANS.2.1) (dN ANS.2.2) _ (dE ANS.2.2) ANS.1 _ rfl rfl (RR.set _ _ _ _ _ _)) rfl ⟨⟨_,_,rfl,NV.st6k RR _ _ _ _ _ _,NU.st6k RR _ _ _ _ _ _,hap⟩,below_st6 bel bel.size (by omega) _ _ _ _ _ _⟩
theorem Sub_res11 (W:World) (g:Nat) (n:Bool) (v:Value) (e:Int) (m:Bool) (u:Value) (f k:Int) (tmps:Array Value) (ht:tmps[4]?.getD undef=.pointer (some ⟨g,0,none⟩)) (hk:tmps[5]?.getD undef=.int .i64 k) (D:Rq W g n v e m u f) :
 (results Tryz.f25 tmps).run Tryz.prog W=.ok (.tuple #[.agg #[.bool n,v,.int .i64 e,.bool m,u,.int .i64 f],.int .i64 k]) W:=by
 obtain ⟨x0,x1,x2,x3,x4,x5⟩:=D.facts;simp [results,Tryz.results25,ht,hk,go_sem,x0,x1,x2,x3,x4,x5]
theorem Sub11 {w:World}{n m n' m':Bool}{a b a' b':Option Addr}{la ca lb cb la' ca' lb' cb':Nat}{X Y X' Y':Nat}{e f e' f':Int}
 (hr:Rv w ⟨n,.slice a la ca,X,e,m,.slice b lb cb,Y,f⟩) (hs:Rv w ⟨n',.slice a' la' ca',X',e',m',.slice b' lb' cb',Y',f'⟩) (hT:Tab w)
 (I:Nat→Ri) (hI:I=twoI ⟨n,.slice a la ca,X,e,m,.slice b lb cb,Y,f⟩ ⟨n',.slice a' la' ca',X',e',m',.slice b' lb' cb',Y',f'⟩) :
 Calls Tryz.prog 25 #[.agg #[.bool n,.slice a la ca,.int .i64 e,.bool m,.slice b lb cb,.int .i64 f],.agg #[.bool n',.slice a' la' ca',.int .i64 e',.bool m',.slice b' lb' cb',.int .i64 f']] w fun r w' =>
  RA w.heap.size w' r (if errL I 2=0 then bothR (subD11 (mulD (mkS n X e) (mkS m' Y' f')) (mulD (mkS n' X' e') (mkS m Y f))) (mulD (mkS m Y f) (mkS m' Y' f')) else (errL I 2,none,none))∧Below w.heap.size w w':=by
 obtain ⟨W1,hW1⟩:∃ W,W=((w.alloc (.cells #[.bool n,.slice a la ca,.int .i64 e,.bool m,.slice b lb cb,.int .i64 f] 30)).alloc (.cells #[.bool n',.slice a' la' ca',.int .i64 e',.bool m',.slice b' lb' cb',.int .i64 f'] 30)).alloc (.cells #[.bool false,.slice none 0 0,.int .i64 0,.bool false,.slice none 0 0,.int .i64 0] 30):=⟨_,rfl⟩;obtain ⟨hB,hz1,Q1,Q2,RR⟩:=two_begin w ⟨n,.slice a la ca,X,e,m,.slice b lb cb,Y,f⟩ ⟨n',.slice a' la' ca',X',e',m',.slice b' lb' cb',Y',f'⟩ W1 hW1
 have HC0:=crossedSub (hr.below hB) (hs.below hB) (hT.belows hB) subD11 (fun x y h=>⟨(addD_both h).1,negO_some (addD_both h).2⟩) sub_len11 (.func (.func 56) #[] #[]) rfl (by
  intro u v p n m X Y e f hv hp hT he hf;obtain ⟨a,l,c,xs,rfl,hA,rfl⟩:=hv;obtain ⟨b,k,d,ys,rfl,hB,rfl⟩:=hp;unfold subD11;rw [negO_mkS];exact Sub_any3 hA hB hT n m e f (by omega) (by omega) (by omega) (by omega)) I hI
 obtain ⟨ANS,hANS⟩:∃ A,(if errL I 2=0 then bothR (subD11 (mulD (mkS n X e) (mkS m' Y' f')) (mulD (mkS n' X' e') (mkS m Y f))) (mulD (mkS m Y f) (mkS m' Y' f')) else (errL I 2,none,none))=A:=⟨_,rfl⟩
 rw [hANS] at HC0 ⊢;have HC:=hid HC0;simp only at Q1 Q2;obtain ⟨x0,x1,x2,x3,x4,x5⟩:=Q1.facts;obtain ⟨y0,y1,y2,y3,y4,y5⟩:=Q2.facts;have S0:=(sd (ai hB RR));have hs3:w.heap.size+3≤W1.heap.size:=by omega
 clear hB hz1 Q1 Q2 RR hr hs hT HC0 hANS hI;go_enter Tryz.func25,Tryz.ntmps25
 go_upto_region 1 with fail
 rw [←hW1];clear hW1
 go_wp2_with fail
 clear x0 x1 x2 x3 x4 x5 y0 y1 y2 y3 y4 y5;refine HC.out.mono ?_;rintro r u1 ⟨⟨v,u,rfl,NV,NU,hap⟩,hb⟩;obtain ⟨av,cv,rfl,_⟩:=NV.shape;obtain ⟨au,cu,rfl,_⟩:=NU.shape;obtain ⟨bel,RR⟩:=S0.out;obtain ⟨r0,r1,r2,r3,r4,r5⟩:=(RR.below hb).facts;obtain ⟨rf0,rf1,rf2,rf3,rf4,rf5⟩:=(RR.below hb).frz;have S4:=(sd (ai (bel.trans (hb.mono bel.size)) (ai (RR.below hb) (ai (NV.mono bel.size) (ai (NU.mono bel.size) hap)))));clear bel RR hb NV NU hap S0 HC;go_wp2;obtain ⟨bel,RR,NV,NU,hap⟩:=S4.out;exact bodyPost_ret (Sub_res11 _ (w.heap.size+1+1) (dN ANS.2.1) _ (dE ANS.2.1) (dN ANS.2.2) _ (dE ANS.2.2) ANS.1 _ rfl rfl (RR.set _ _ _ _ _ _)) rfl ⟨⟨_,_,rfl,NV.st6k RR _ _ _ _ _ _,NU.st6k RR _ _ _ _ _ _,hap⟩,below_st6 bel bel.size (by omega) _ _ _ _ _ _⟩
end
section
open Go.RowKit
theorem Div_res11 (W:World) (g:Nat) (n:Bool) (v:Value) (e:Int) (m:Bool) (u:Value) (f k:Int) (tmps:Array Value) (ht:tmps[4]?.getD undef=.pointer (some ⟨g,0,none⟩)) (hk:tmps[5]?.getD undef=.int .i64 k) (D:Rq W g n v e m u f) :
 (results Tryz.f27 tmps).run Tryz.prog W=.ok (.tuple #[.agg #[.bool n,v,.int .i64 e,.bool m,u,.int .i64 f],.int .i64 k]) W:=by
 obtain ⟨x0,x1,x2,x3,x4,x5⟩:=D.facts;simp [results,Tryz.results27,ht,hk,go_sem,x0,x1,x2,x3,x4,x5]
def divA (o1 o2 o3 o4:Option (Bool×Nat×Int)):Int×Option (Bool×Nat×Int)×Option (Bool×Nat×Int) :=
 if dX o3=0 then (21,none,none) else if dN o3 then (if (bothR (mulD o1 o4) (mulD o2 o3)).1=0 then (0,negO (mulD o1 o4),negO (mulD o2 o3)) else (2,none,none)) else bothR (mulD o1 o4) (mulD o2 o3)
theorem neg_len11 {a b o:Option (Bool×Nat×Int)}(h:mulD a b=o):(ws (dX (negO o))).length≤8192:=by
 obtain ⟨n,X,e,h1⟩:=mulD_form a b;rw [←h,h1,negO_mkS];exact mkS_len _ _ _
theorem negO_reform {o:Option (Bool×Nat×Int)}(hs:o.isSome=true):mkS (!(dN o)) (dX o) (dE o)=negO o:=by
 cases o with
 | none=>cases hs
 | some d=>rfl
theorem Div11 {w:World}{n m n' m':Bool}{a b a' b':Option Addr}{la ca lb cb la' ca' lb' cb':Nat}{X Y X' Y':Nat}{e f e' f':Int}
 (hr:Rv w ⟨n,.slice a la ca,X,e,m,.slice b lb cb,Y,f⟩) (hs:Rv w ⟨n',.slice a' la' ca',X',e',m',.slice b' lb' cb',Y',f'⟩) (hT:Tab w)
 (I:Nat→Ri) (hI:I=twoI ⟨n,.slice a la ca,X,e,m,.slice b lb cb,Y,f⟩ ⟨n',.slice a' la' ca',X',e',m',.slice b' lb' cb',Y',f'⟩) :
 Calls Tryz.prog 27 #[.agg #[.bool n,.slice a la ca,.int .i64 e,.bool m,.slice b lb cb,.int .i64 f],.agg #[.bool n',.slice a' la' ca',.int .i64 e',.bool m',.slice b' lb' cb',.int .i64 f']] w fun r w' =>
  RA w.heap.size w' r (if errL I 2=0 then divA (mkS n X e) (mkS m Y f) (mkS n' X' e') (mkS m' Y' f') else (errL I 2,none,none))∧Below w.heap.size w w':=by
 obtain ⟨W1,hW1⟩:∃ W,W=((w.alloc (.cells #[.bool n,.slice a la ca,.int .i64 e,.bool m,.slice b lb cb,.int .i64 f] 30)).alloc (.cells #[.bool n',.slice a' la' ca',.int .i64 e',.bool m',.slice b' lb' cb',.int .i64 f'] 30)).alloc (.cells #[.bool false,.slice none 0 0,.int .i64 0,.bool false,.slice none 0 0,.int .i64 0] 30):=⟨_,rfl⟩;obtain ⟨hB,hz1,Q1,Q2,RR⟩:=two_begin w ⟨n,.slice a la ca,X,e,m,.slice b lb cb,Y,f⟩ ⟨n',.slice a' la' ca',X',e',m',.slice b' lb' cb',Y',f'⟩ W1 hW1;obtain ⟨R,hR⟩:∃ R,R=W1.alloc (.cells #[.bool n,.slice a la ca,.int .i64 e,.bool m,.slice b lb cb,.int .i64 f,.bool n',.slice a' la' ca',.int .i64 e',.bool m',.slice b' lb' cb',.int .i64 f'] 30):=⟨_,rfl⟩;have hin:=rin2 W1 _ _ (hr.below hB) (hs.below hB) (hT.belows hB) R hR;have hbR:Below W1.heap.size W1 R:=by rw [hR];exact below_alloc _ _
 have HF:=hid (forms2 R W1.heap.size _ hin);rw [←hI] at HF;simp only at Q1 Q2;obtain ⟨x0,x1,x2,x3,x4,x5⟩:=Q1.facts;obtain ⟨y0,y1,y2,y3,y4,y5⟩:=Q2.facts;obtain ⟨ANS,hANS⟩:∃ A,(if errL I 2=0 then divA (mkS n X e) (mkS m Y f) (mkS n' X' e') (mkS m' Y' f') else (errL I 2,none,none))=A:=⟨_,rfl⟩
 rw [hANS];have HA:=sd hANS;clear hANS;have S0:=(sd (ai (hB.trans (hbR.mono hB.size)) (ai (Q1.below hbR) (ai (Q2.below hbR) (ai (RR.below hbR) hT)))));have hs3:w.heap.size+3≤W1.heap.size:=by omega
 obtain ⟨g12,hg12⟩:∃ g,W1.heap.size=g:=⟨_,rfl⟩;rw [hg12] at HF;clear hB hz1 Q1 Q2 RR hin hbR hr hs hT;go_enter Tryz.func27,Tryz.ntmps27
 go_upto_region 1 with fail
 rw [←hW1];clear hW1
 go_wp2_with fail
 rw [←hR];clear hR hg12 x0 x1 x2 x3 x4 x5 y0 y1 y2 y3 y4 y5;refine HF.out.mono ?_;rintro r u1 ⟨hor,hb⟩;clear HF;obtain ⟨bel,Q1,Q2,RR,hT⟩:=S0.out;have S1:=(sd (ai (bel.trans (hb.mono bel.size)) (ai (Q1.below hb) (ai (Q2.below hb) (RR.below hb)))))
 rcases hor with ⟨hne,rfl⟩|⟨h0,g',V,rfl,hO⟩
 · have HA2:=HA.out
   rw [if_neg hne] at HA2;obtain ⟨er,her⟩:∃ er,errL I 2=er:=⟨_,rfl⟩;rw [her] at hne HA2 ⊢;have HA3:=sd HA2;clear HA HA2 her;obtain ⟨r0,r1,r2,r3,r4,r5⟩:=(RR.below hb).facts;obtain ⟨rf0,rf1,rf2,rf3,rf4,rf5⟩:=(RR.below hb).frz;have hnb:(er==0)=false:=by simp [hne]
   have hnn:(er != 0)=true:=by simp [hne]
   clear hne bel Q1 Q2 RR hb hT S0;go_wp2;obtain ⟨bel,Q1,Q2,RR⟩:=S1.out;exact bodyPost_ret (Div_res11 _ (w.heap.size+1+1) false (.slice none 0 0) 0 false (.slice none 0 0) 0 er _ rfl rfl (RR.set _ _ _ _ _ _)) rfl ⟨HA3.out ▸ RA.zero _ _ _,below_st6 bel bel.size (by omega) _ _ _ _ _ _⟩
 · have HA2:=HA.out
   rw [if_pos h0] at HA2;clear HA;obtain ⟨q0,q1,q2,q3,q4,q5⟩:=hO.row.facts 0 (by omega)
   obtain ⟨p0,p1,p2,p3,p4,p5⟩:=hO.row.facts 1 (by omega)
   simp only [Nat.zero_mul,Nat.zero_add,Nat.one_mul,Nat.reduceAdd] at q0 q1 q2 q3 q4 q5 p0 p1 p2 p3 p4 p5;unfold frmI at q0 q1 q2 q3 q4 q5 p0 p1 p2 p3 p4 p5;simp only at q0 q1 q2 q3 q4 q5 p0 p1 p2 p3 p4 p5;obtain ⟨k1,k2,k3,k4⟩:=errL0 h0 0 (by omega)
   obtain ⟨j1,j2,j3,j4⟩:=errL0 h0 1 (by omega)
   obtain ⟨N1,N2⟩:=hO.nts 0 (by omega)
   obtain ⟨N3,N4⟩:=hO.nts 1 (by omega)
   have e0:I 0=⟨n,.slice a la ca,X,e,m,.slice b lb cb,Y,f⟩:=by rw [hI];rfl
   have e1:I 1=⟨n',.slice a' la' ca',X',e',m',.slice b' lb' cb',Y',f'⟩:=by rw [hI];rfl
   rw [e0] at q0 q2 q3 q5 k1 k2 k3 k4 N1 N2;rw [e1] at p0 p2 p3 p5 j1 j2 j3 j4 N3 N4;simp only at q0 q1 q2 q3 q4 q5 k1 k2 k3 k4 N1 N2 p0 p1 p2 p3 p4 p5 j1 j2 j3 j4 N3 N4;have m1:=mkS_len n X e;have m2:=mkS_len m Y f;have m3:=mkS_len n' X' e';have m4:=mkS_len m' Y' f';obtain ⟨o1,ho1⟩:∃ o,mkS n X e=o:=⟨_,rfl⟩;obtain ⟨o2,ho2⟩:∃ o,mkS m Y f=o:=⟨_,rfl⟩;obtain ⟨o3,ho3⟩:∃ o,mkS n' X' e'=o:=⟨_,rfl⟩;obtain ⟨o4,ho4⟩:∃ o,mkS m' Y' f'=o:=⟨_,rfl⟩;have t1:=frm_rng ho1;have t2:=frm_rng ho2;have t3:=frm_rng ho3;have t4:=frm_rng ho4;have R1:=reform ho1 (by rw [←ho1];exact k2)
   have R2:=reform ho2 (by rw [←ho2];exact k3)
   have R3:=reform ho3 (by rw [←ho3];exact j2)
   have R4:=reform ho4 (by rw [←ho4];exact j3)
   rw [ho1] at q0 q2 N1 m1;rw [ho2] at q3 q5 N2 m2;rw [ho3] at p0 p2 N3 m3;rw [ho4] at p3 p5 N4 m4;rw [ho1,ho2,ho3,ho4] at HA2;have HA:=sd HA2;clear HA2;obtain ⟨v1,hv1⟩:∃ v1,(V 0).1=v1:=⟨_,rfl⟩;obtain ⟨v2,hv2⟩:∃ v1,(V 0).2=v1:=⟨_,rfl⟩;obtain ⟨v3,hv3⟩:∃ v1,(V 1).1=v1:=⟨_,rfl⟩;obtain ⟨v4,hv4⟩:∃ v1,(V 1).2=v1:=⟨_,rfl⟩;rw [hv1] at q1 N1;rw [hv2] at q4 N2;rw [hv3] at p1 N3;rw [hv4] at p4 N4;obtain ⟨a1,c1,rfl,_⟩:=N1.arg (by omega)
   obtain ⟨a2,c2,rfl,_⟩:=N2.arg (by omega)
   obtain ⟨a3,c3,rfl,_⟩:=N3.arg (by omega)
   obtain ⟨a4,c4,rfl,_⟩:=N4.arg (by omega)
   have hg':w.heap.size+3≤g':=by have:=hO.own;have:=(S0.out.2.2.2.1).lt;omega
   obtain ⟨r0,r1,r2,r3,r4,r5⟩:=(Q1.below hb).facts;obtain ⟨rf0,rf1,rf2,rf3,rf4,rf5⟩:=(Q1.below hb).frz;obtain ⟨s0,s1,s2,s3,s4,s5⟩:=(Q2.below hb).facts;obtain ⟨sf0,sf1,sf2,sf3,sf4,sf5⟩:=(Q2.below hb).frz;have ne1:w.heap.size≠w.heap.size+1:=by omega
   have ne2:w.heap.size+1≠w.heap.size:=by omega
   have ne3:g'≠w.heap.size:=by omega
   have ne4:g'≠w.heap.size+1:=by omega
   have ne5:w.heap.size≠g':=by omega
   have ne6:w.heap.size+1≠g':=by omega
   obtain ⟨U2,hU2⟩:∃ U,U=(st6 (st6 u1 w.heap.size (.bool (dN o1)) (.slice a1 (ws (dX o1)).length c1) (.int .i64 (dE o1)) (.bool (dN o2)) (.slice a2 (ws (dX o2)).length c2) (.int .i64 (dE o2))) (w.heap.size+1) (.bool (dN o3)) (.slice a3 (ws (dX o3)).length c3) (.int .i64 (dE o3)) (.bool (dN o4)) (.slice a4 (ws (dX o4)).length c4) (.int .i64 (dE o4))).drew:=⟨_,rfl⟩;have AS2:=assign2 (Q1.below hb) (Q2.below hb) (RR.below hb) ne1 (by omega) (by omega) (Nat.le_refl _) (by omega) S1.out.1 S1.out.1.size (dN o1) (dN o2) (dN o3) (dN o4) _ _ _ _ (dE o1) (dE o2) (dE o3) (dE o4) _ _ _ _ N1 N2 N3 N4 U2 hU2
   have S2:=sd AS2;have S3:=(sd (ai R1 (ai R2 (ai R3 (ai R4 (ai t1 (ai t2 (ai t3 (ai t4 hT)))))))));clear AS2 N1 N2 N3 N4 R1 R2 R3 R4 t1 t2 t3 t4 hO bel Q1 Q2 RR hb hT k1 k2 k3 k4 j1 j2 j3 j4 e0 e1 h0 ho1 ho2 ho3 ho4 hv1 hv2 hv3 hv4 S0 S1
   go_wp2_with fail
   go_region
   unfold st6 at hU2;rw [←hU2];clear hU2 q0 q1 q2 q3 q4 q5 p0 p1 p2 p3 p4 p5 r0 r1 r2 r3 r4 r5 rf0 rf1 rf2 rf3 rf4 rf5 s0 s1 s2 s3 s4 s5 sf0 sf1 sf2 sf3 sf4 sf5;obtain ⟨bel,Q1,Q2,RR,N1,N2,N3,N4⟩:=S2.out;obtain ⟨R1,R2,R3,R4,t1,t2,t3,t4,hT⟩:=S3.out;have HG:=hid (sgnD (n:=dN o3) (e:=dE o3) (N3.av (by omega)))
   obtain ⟨s,hs⟩:∃ s,sgn (dN o3) (dX o3)=s:=⟨_,rfl⟩;rw [hs] at HG;obtain ⟨y0,y1,y2,y3,y4,y5⟩:=Q2.facts;clear R1 R2 R3 R4 t1 t2 t3 t4 hT N1 N2 N3 N4 Q1 Q2 RR bel;have Hs:=sd hs;clear hs
   go_wp2_with fail
   refine HG.out.mono ?_;rintro r u2 ⟨rfl,hb⟩;clear HG y0 y1 y2 y3 y4 y5;obtain ⟨bel,Q1,Q2,RR,N1,N2,N3,N4⟩:=S2.out;have S5:=(sd (ai (bel.trans (hb.mono bel.size)) (ai (Q1.below hb) (ai (Q2.below hb) (ai (RR.below hb) (ai (N1.below hb) (ai (N2.below hb) (ai (N3.below hb) (N4.below hb)))))))))
   by_cases hs0:s=0
   · have hA:ANS=(21,none,none):=by
      rw [←HA.out];unfold divA;rw [if_pos (sgn_zero3.1 (Hs.out.trans hs0))]
     obtain ⟨r0,r1,r2,r3,r4,r5⟩:=(RR.below hb).facts;obtain ⟨rf0,rf1,rf2,rf3,rf4,rf5⟩:=(RR.below hb).frz;have hn:(s==0)=true:=by simp [hs0]
     have S6:=(sd (ai hA hs0));clear bel Q1 Q2 RR N1 N2 N3 N4 hb S2 S3 HA hA Hs;go_wp2;obtain ⟨bel,Q1,Q2,RR,N1,N2,N3,N4⟩:=S5.out;exact bodyPost_ret (Div_res11 _ (w.heap.size+1+1) false (.slice none 0 0) 0 false (.slice none 0 0) 0 21 _ rfl rfl (RR.set _ _ _ _ _ _)) rfl ⟨S6.out.1 ▸ RA.zero _ _ _,below_st6 bel bel.size (by omega) _ _ _ _ _ _⟩
   · have hn:(s==0)=false:=by simp [hs0]
     have hx3:dX o3≠0:=fun h=>hs0 (Hs.out.symm.trans (sgn_zero3.2 h))
     have HA2:=HA.out;unfold divA at HA2;rw [if_neg hx3] at HA2;obtain ⟨R1,R2,R3,R4,t1,t2,t3,t4,hT⟩:=S3.out;have bb:=bel.trans (hb.mono bel.size);have HC0:=products_any (dN o1) (dN o4) (dN o2) (dN o3) (dE o1) (dE o4) (dE o2) (dE o3) ((N1.below hb).av (by omega)) ((N4.below hb).av (by omega)) ((N2.below hb).av (by omega)) ((N3.below hb).av (by omega)) (hT.belows bb) (by omega) (by omega) (by omega) (by omega)
     rw [R1,R2,R3,R4] at HC0;obtain ⟨sx,hsx⟩:∃ o,mulD o1 o4=o:=⟨_,rfl⟩;obtain ⟨sy,hsy⟩:∃ o,mulD o2 o3=o:=⟨_,rfl⟩;rw [hsx,hsy] at HA2 HC0;have HC:=hid HC0;obtain ⟨x0,x1,x2,x3,x4,x5⟩:=(Q1.below hb).facts;obtain ⟨y0,y1,y2,y3,y4,y5⟩:=(Q2.below hb).facts;have rx1:=mulD_rng hsx;have rx2:=mulD_rng hsy;obtain ⟨ng,hng⟩:∃ ng,dN o3=ng:=⟨_,rfl⟩;rw [hng] at HA2;have S6:=(sd (ai HA2 (ai rx1 (ai rx2 (ai hsx (ai hsy hT))))));have HNG:=sd hng;clear bel bb Q1 Q2 RR N1 N2 N3 N4 hb S2 S3 HA HA2 R1 R2 R3 R4 t1 t2 t3 t4 hT HC0 rx1 rx2 hsx hsy hx3 hs0 Hs hng
     go_wp2_with fail
     refine HC.out.mono ?_;rintro r u3 ⟨hRA,hb⟩;clear HC x0 x1 x2 x3 x4 x5 y0 y1 y2 y3 y4 y5;obtain ⟨bel,Q1,Q2,RR,N1,N2,N3,N4⟩:=S5.out;have bb:=bel.trans (hb.mono bel.size);obtain ⟨z,hz⟩:∃ z,bothR sx sy=z:=⟨_,rfl⟩;rw [hz] at hRA;obtain ⟨v,u,rfl,NV,NU,hap⟩:=hRA;obtain ⟨av,cv,rfl,_⟩:=NV.shape;obtain ⟨au,cu,rfl,_⟩:=NU.shape;obtain ⟨U4,hU4⟩:∃ U,U=u3.alloc (.cells #[.bool (dN z.2.1),.slice av (ws (dX z.2.1)).length cv,.int .i64 (dE z.2.1),.bool (dN z.2.2),.slice au (ws (dX z.2.2)).length cu,.int .i64 (dE z.2.2)] 30):=⟨_,rfl⟩;have hbA:Below u3.heap.size u3 U4:=by rw [hU4];exact below_alloc _ _
     have RS:Rq U4 u3.heap.size (dN z.2.1) (.slice av (ws (dX z.2.1)).length cv) (dE z.2.1) (dN z.2.2) (.slice au (ws (dX z.2.2)).length cu) (dE z.2.2):=by rw [hU4];exact Rq.new _ _ _ _ _ _ _
     have bc:=bb.trans (hbA.mono bb.size);have Q2':=(Q2.below hb).below hbA;rw [HNG.out] at Q2';have S7:=(sd (ai bc (ai Q2' (ai ((RR.below hb).below hbA) (ai ((NV.below hbA).mono bel.size) (ai ((NU.below hbA).mono bel.size) (ai hap (ai RS hz))))))));obtain ⟨y0,y1,y2,y3,y4,y5⟩:=Q2'.facts;obtain ⟨r0,r1,r2,r3,r4,r5⟩:=((RR.below hb).below hbA).facts;obtain ⟨rf0,rf1,rf2,rf3,rf4,rf5⟩:=((RR.below hb).below hbA).frz;obtain ⟨x0,x1,x2,x3,x4,x5⟩:=RS.facts;obtain ⟨gR,hgR⟩:∃ g,u3.heap.size=g:=⟨_,rfl⟩;have hgR2:w.heap.size+3≤gR:=by have:=RR.lt;have:=hb.size;omega
     rw [hgR] at x0 x1 x2 x3 x4 x5 S7;have ne7:gR≠w.heap.size+1+1:=by omega
     have ne8:w.heap.size+1+1≠gR:=by omega
     clear bel bb bc Q1 Q2 Q2' RR N1 N2 N3 N4 hb NV NU hap S5 hbA RS
     go_upto_region 8 with fail
     rw [←hU4];clear hU4 hgR
     by_cases hret:z.1=0∧ng=true
     · obtain ⟨hz1,rfl⟩:=hret
       have hsome:sx.isSome=true∧sy.isSome=true∧z=(0,sx,sy):=by
        have h:=S7.out.2.2.2.2.2.2.2;unfold bothR at h
        cases hok:(sx.isSome&&sy.isSome) with
        | false=>rw [hok] at h;simp only [Bool.false_eq_true,if_false] at h;rw [←h] at hz1;exact absurd hz1 (by decide)
        | true =>
          rw [hok] at h;simp only [if_true] at h;have:sx.isSome=true∧sy.isSome=true:=by simpa using hok
          exact ⟨this.1,this.2,h.symm⟩
       obtain ⟨hsx1,hsy1,rfl⟩:=hsome;simp only at *;obtain ⟨HA2,rx1,rx2,hsx,hsy,hT⟩:=S6.out
       have hA:ANS=(0,negO sx,negO sy):=by
        rw [←HA2];unfold bothR;simp [hsx1,hsy1]
       obtain ⟨bel,Q2,RR,NV,NU,hap,RS,_⟩:=S7.out;have lx:(ws (dX sx)).length≤8192:=by obtain ⟨n0,X0,e0,h0⟩:=mulD_form o1 o4;rw [←hsx,h0];exact mkS_len _ _ _
       have ly:(ws (dX sy)).length≤8192:=by obtain ⟨n0,X0,e0,h0⟩:=mulD_form o2 o3;rw [←hsy,h0];exact mkS_len _ _ _
       have lnx:=neg_len11 hsx;have lny:=neg_len11 hsy
       have HN1:∀ u,Below U4.heap.size U4 u→Calls Tryz.prog 60 #[.agg #[.bool (dN sx),.slice av (ws (dX sx)).length cv,.int .i64 (dE sx)]] u fun r w'=>DVal u.heap.size w' r (negO sx)∧Below u.heap.size u w':=by
        intro u hu;have:=Neg_any (((NV.below hu).arg' (by omega)).2) (hT.belows (bel.trans (hu.mono bel.size))) (dN sx) (dE sx) (by omega) (by omega)
        rw [val_ws,negO_reform hsx1] at this;exact this
       have HN2:∀ u,Below U4.heap.size U4 u→Calls Tryz.prog 60 #[.agg #[.bool (dN sy),.slice au (ws (dX sy)).length cu,.int .i64 (dE sy)]] u fun r w'=>DVal u.heap.size w' r (negO sy)∧Below u.heap.size u w':=by
        intro u hu;have:=Neg_any (((NU.below hu).arg' (by omega)).2) (hT.belows (bel.trans (hu.mono bel.size))) (dN sy) (dE sy) (by omega) (by omega)
        rw [val_ws,negO_reform hsy1] at this;exact this
       unfold DVal at HN1 HN2;have N1:=hid HN1;have N2:=hid HN2;have S8:=(sd (ai hA (ai bel (ai RR RS))));clear HA2 rx1 rx2 hsx hsy hT hA bel Q2 RR NV NU hap RS HN1 HN2 S6 S7 hsx1 hsy1 hz1
       go_wp2_with fail
       go_wp2_with fail
       have T1:=hid (N1.out U4 (Below.refl _ _));have T2:=hid (N1.out U4.drew ((Below.refl _ _).drew));have hs4:w.heap.size≤U4.heap.size:=S8.out.2.1.size
       go_region_held3 (fun w'=>w'.cell? ⟨gR,0,none⟩=some (.bool (dN sx))∧w'.cell? ⟨gR,1,none⟩=some (.slice av (ws (dX sx)).length cv)∧w'.cell? ⟨gR,2,none⟩=some (.int .i64 (dE sx))∧w'.cell? ⟨gR,3,none⟩=some (.bool (dN sy))∧w'.cell? ⟨gR,4,none⟩=some (.slice au (ws (dX sy)).length cu)∧w'.cell? ⟨gR,5,none⟩=some (.int .i64 (dE sy))) (go_keep) (first
        | (go_at_call 60
           first | with_reducible refine T1.out.mono ?_ | with_reducible refine T2.out.mono ?_
           rintro r u5 ⟨⟨v,rfl,hN⟩,hb⟩;have hb1:Below U4.heap.size U4 u5:=by first | exact hb | exact ((Below.refl _ U4).drew).trans (hb.mono (Nat.le_refl _))
           obtain ⟨a7,c7,rfl,_⟩:=hN.arg (by omega)
           obtain ⟨hA,bel,RR,RS⟩:=S8.out;obtain ⟨i0,i1,i2,i3,i4,i5⟩:=(RS.below hb1).facts;have hN':Nt w.heap.size u5 (.slice a7 (ws (dX (negO sx))).length c7) (dX (negO sx)):=hN.mono hs4;have T3:=hid (N2.out u5 hb1);have S9:=(sd (ai (bel.trans (hb1.mono bel.size)) (ai (RR.below hb1) (ai (RS.below hb1) hN'))));clear hN hN' hb hb1 bel RR RS hA)
        | (go_at_call 60
           with_reducible refine T3.out.mono ?_
           rintro r u6 ⟨⟨v,rfl,hN⟩,hb⟩;obtain ⟨a8,c8,rfl,_⟩:=hN.arg (by omega)
           obtain ⟨bel,RR,RS,NX⟩:=S9.out;obtain ⟨k0,k1,k2,k3,k4,k5⟩:=(RS.below hb).facts;obtain ⟨l0,l1,l2,l3,l4,l5⟩:=(RR.below hb).facts;obtain ⟨lf0,lf1,lf2,lf3,lf4,lf5⟩:=(RR.below hb).frz;have FV:=(sd (ai (bel.trans (hb.mono bel.size)) (ai (RR.below hb) (ai (NX.below hb) (ai (hN.mono bel.size) (NX.ap hN))))));clear hN hb bel RR RS NX))
       all_goals (
        go_wp2;obtain ⟨bel,RR,NX,NY,hap⟩:=FV.out;rw [S8.out.1]
        first
        | exact bodyPost_ret (Div_res11 _ (w.heap.size+1+1) (dN (negO sx)) _ (dE (negO sx)) (dN (negO sy)) _ (dE (negO sy)) 0 _ rfl rfl (RR.set _ _ _ _ _ _)) rfl ⟨⟨_,_,rfl,NX.st6k RR _ _ _ _ _ _,NY.st6k RR _ _ _ _ _ _,hap⟩,below_st6 bel bel.size (by omega) _ _ _ _ _ _⟩
        | exact bodyPost_ret (Div_res11 _ (w.heap.size+1+1) (dN (negO sx)) _ (dE (negO sx)) (dN (negO sy)) _ (dE (negO sy)) 0 _ rfl rfl (RR.set _ _ _ _ _ _)) rfl ⟨⟨_,_,rfl,NX.st6k RR _ _ _ _ _ _,NY.st6k RR _ _ _ _ _ _,hap⟩,(below_st6 bel bel.size (by omega) _ _ _ _ _ _).drew⟩)
     · have hA:ANS=z:=by
        obtain ⟨HA2,_⟩:=S6.out;have hz:=S7.out.2.2.2.2.2.2.2;rw [←HA2,hz]
        cases ng with
        | false=>rfl
        | true =>
          rw [if_pos rfl];have:¬ z.1=0:=fun h=>hret ⟨h,rfl⟩
          rw [if_neg this];unfold bothR at hz
          cases hok:(sx.isSome&&sy.isSome) with
          | false=>rw [hok] at hz;exact hz
          | true=>rw [hok] at hz;simp only [if_true] at hz;rw [←hz] at this;exact absurd rfl this
       obtain ⟨bel,Q2,RR,NV,NU,hap,RS,hz⟩:=S7.out
       have hz02:z.1=0∨z.1=2:=by
        rw [←hz];unfold bothR;split <;> simp
       have S8:=(sd (ai bel (ai RR (ai NV (ai NU (ai hap hA))))));clear S6 S7 hA bel Q2 RR NV NU hap RS hz;obtain ⟨ez,zx,zy⟩:=z;simp only at x0 x1 x2 x3 x4 x5 hret S8 hz02 ⊢
       by_cases h0:ez=0
       · have hngf:ng=false:=by cases ng with
          | false=>rfl
          | true=>exact absurd ⟨h0,rfl⟩ hret
         subst hngf;have hb0:(ez==0)=true:=by simp [h0]
         clear hret;subst h0;go_wp2;obtain ⟨bel,RR,NV,NU,hap,hA⟩:=S8.out;rw [hA];exact bodyPost_ret (Div_res11 _ (w.heap.size+1+1) (dN zx) _ (dE zx) (dN zy) _ (dE zy) 0 _ rfl rfl (RR.set _ _ _ _ _ _)) rfl ⟨⟨_,_,rfl,NV.st6k RR _ _ _ _ _ _,NU.st6k RR _ _ _ _ _ _,hap⟩,below_st6 bel bel.size (by omega) _ _ _ _ _ _⟩
       · obtain rfl:ez=2:=by omega
         clear hret h0;go_wp2;obtain ⟨bel,RR,NV,NU,hap,hA⟩:=S8.out;rw [hA];exact bodyPost_ret (Div_res11 _ (w.heap.size+1+1) (dN zx) _ (dE zx) (dN zy) _ (dE zy) 2 _ rfl rfl (RR.set _ _ _ _ _ _)) rfl ⟨⟨_,_,rfl,NV.st6k RR _ _ _ _ _ _,NU.st6k RR _ _ _ _ _ _,hap⟩,below_st6 bel bel.size (by omega) _ _ _ _ _ _⟩
end
section
open Go.RowKit
theorem times11 (xs bs:List Nat) (ao bo:Option Addr) (n cap m capb B:Nat) (w:World) (hn:n=xs.length) (hm:m=bs.length) (hc:n≤cap) (hcb:m≤capb) (hbig:n+m≤35184372088832)
 (hx:Wf xs) (hb:Wf bs) (hR:Rd B w ao xs) (hS:Rd B w bo bs) (hB:B≤w.heap.size) :
 Calls Tryz.prog 97 #[.slice ao n cap,.slice bo m capb] w fun r w'=>∃ M,r=.returned (.slice (some ⟨w.heap.size,0,none⟩) (n+m) (n+m))∧Own w' w.heap.size M∧Wf M∧M.length=n+m∧val M=val xs*val bs∧Below w.heap.size w w':=by
 obtain ⟨W1,hW1⟩:∃ W,W=w.alloc (.cells (madeCells #[.int .u32 0] (n+m)) 23):=⟨_,rfl⟩;have hO1:Own W1 w.heap.size (List.replicate (n+m) 0):=by rw [hW1];exact Own.made w (n+m)
 have hB1:Below w.heap.size w W1:=by rw [hW1];exact (Below.refl _ _).alloc (Nat.le_refl _) _
 have hmk:=make_words ((n:Int)+m) (n+m) (by omega) (by omega) w
 rw [←hW1] at hmk;have hR1:Rd B W1 ao xs:=hR.below (hB1.mono hB);have hS1:Rd B W1 bo bs:=hS.below (hB1.mono hB);obtain ⟨g,hg⟩:∃ g,g=w.heap.size:=⟨_,rfl⟩;rw [←hg] at hO1 hmk hB1 hB;have HR:=(sd (ai hR1 (ai hS1 (ai hm (ai hb (ai hx (ai hn (ai hB1 hg))))))));have HO:=hid hO1;clear hn hm hx hb hR hS hO1 hB1 hW1 hR1 hS1 hg;go_enter Tryz.func97,Tryz.ntmps97;go_wp2
 go_loopg [20] n (fun gk i wr=>∃ (k:Nat) (M:List Nat),gk+k=n∧i=.int .i64 (k:Nat) ∧
  Hid (Own wr g M)∧Aside (Wf M∧M.length=n+m∧sg M 0 (k+m)=sg xs 0 k*val bs∧But g W1 wr))
 case atStart=>exact ⟨0,_,by omega,rfl,HO,Wf.zeros _,by simp,by rw [sg_zeros,sg_zero];simp,But.refl _ _⟩
 case round =>
  obtain ⟨i,L,hgk,rfl,HM,HA⟩:=hrel
  by_cases hi:i<n
  · obtain ⟨hR,hS,hm,hb,hx,hn,hB1,hg⟩:=HR.out
    obtain ⟨a,aoff,haB,rfl,hac⟩:=hR (by intro e;subst e;simp at hn;omega)
    have hW1s:g≤W1.heap.size:=by have:=hB1.size;omega
    have HAC:Aside (W1.cell? ⟨a,aoff+i,none⟩=some (.int .u32 ((xs.getD i 0:Nat):Int))∧a<B∧a<W1.heap.size):=⟨hac i (by omega),haB,World.block_lt_of_cell? W1 ⟨a,aoff+i,none⟩ (hac i (by omega))⟩
    obtain ⟨q,hq⟩:∃ q:Nat,xs.getD i 0=q:=⟨_,rfl⟩;have hql:q<4294967296:=hq ▸ hx.get _;rw [hq] at HAC;have HQ:=sd hq
    have hak:wr.cell? ⟨a,aoff+i,none⟩=some (.int .u32 (q:Nat)):=by
     have h1:=HA.out.2.2.2.block a HAC.out.2.2 (by have:=HAC.out.2.1;omega)
     exact (World.cell?_of_block (a:=⟨a,aoff+i,none⟩) h1).trans HAC.out.1
    clear hq hR hS hm hb hx hn hB1 hg hac;go_wp2;clear hak
    go_loopg [8,27] m (fun gk c kv w2=>∃ (k cv:Nat) (M:List Nat),gk+k=m∧c=.int .u64 (cv:Nat)∧cv<4294967296∧kv=.int .i64 (k:Nat) ∧
     Hid (Own w2 g M)∧Aside (Wf M∧Out L M i k∧sg M i k+cv*pw k=sg L i k+sg bs 0 k*q∧But g W1 w2))
    case atStart=>exact ⟨0,0,L,by omega,rfl,by omega,rfl,HM,HA.out.1,Out.refl _ _ _,by simp [sg_zero],HA.out.2.2.2⟩
    case round =>
     obtain ⟨k,cv,M,hgk2,rfl,hcv,rfl,HN,HC⟩:=hrel
     by_cases hk:k<m
     · obtain ⟨hR,hS,hm,hb,hx,hn,hB1,hg⟩:=HR.out
       obtain ⟨hMw,hMo,hMs,hbut⟩:=HC.out;obtain ⟨hLw,hLl,_,_⟩:=HA.out;obtain ⟨b,boff,hbB,rfl,hbc⟩:=hS (by intro e;subst e;simp at hm;omega)
       have hbk:wr.cell? ⟨b,boff+k,none⟩=some (.int .u32 ((bs.getD k 0:Nat):Int)):=by
        have h1:=hbut.block b (World.block_lt_of_cell? W1 ⟨b,boff+k,none⟩ (hbc k (by omega))) (by omega)
        exact (World.cell?_of_block (a:=⟨b,boff+k,none⟩) h1).trans (hbc k (by omega))
       have hgc:=HN.out.cell (i+k) (by rw [hMo.1];omega)
       have hgf:=HN.out.frozen (i+k);obtain ⟨x,hxx⟩:∃ x:Nat,M.getD (i+k) 0=x:=⟨_,rfl⟩;obtain ⟨y,hyy⟩:∃ y:Nat,bs.getD k 0=y:=⟨_,rfl⟩;have hxl:x<4294967296:=hxx ▸ hMw.get _;have hyl:y<4294967296:=hyy ▸ hb.get _;rw [hxx] at hgc;rw [hyy] at hbk;have hp0:=mul_bound q y hql hyl;have hp2:(q:Int)*(y:Int)≤18446744065119617025:=by rw [←Int.natCast_mul];omega
       have hp1:0≤(q:Int)*(y:Int):=by rw [←Int.natCast_mul];omega
       obtain ⟨s,hs⟩:∃ s:Nat,s=(q*y+x+cv)%4294967296:=⟨_,rfl⟩;obtain ⟨d,hd⟩:∃ d:Nat,d=(q*y+x+cv)/4294967296:=⟨_,rfl⟩;have e0:((q*y+x+cv:Nat):Int)=(q:Int)*y+x+cv:=by simp only [Int.natCast_add,Int.natCast_mul]
       have e1:((q:Int)*y+x+cv)%4294967296=(s:Int):=by rw [←e0];omega
       have e2:((q:Int)*y+x+cv)/4294967296=(d:Int):=by rw [←e0];omega
       have HX:Aside (M.getD (i+k) 0=x∧bs.getD k 0=y∧s+d*4294967296=y*q+x+cv∧s<4294967296∧d<4294967296):=⟨hxx,hyy,by rw [Nat.mul_comm y q];omega,by omega,by omega⟩
       have hik:i+k<n+m:=by omega
       clear hxx hyy hs hd hR hS hm hb hx hn hB1 hg hMw hMo hMs hbut hbc e0 hp0 hLw hLl;go_wp2
       go_roundg (gk-1)
       case measure=>omega
       case rel =>
        obtain ⟨hxx,hyy,he,hs,hd⟩:=HX.out;obtain ⟨hR,hS,hm,hb,hx,hn,hB1,hg⟩:=HR.out;obtain ⟨hMw,hMo,hMs,hbut⟩:=HC.out;obtain ⟨hLw,hLl,_,_⟩:=HA.out;refine ⟨k+1,d,M.set (i+k) s,by omega,by first | rfl | rw [e2],hd,by first | go_num | (congr 1;omega),HN.out.set _ _,hMw.set _ _ hs,(hMo.mono (by omega)).set _ _ (by omega) (by omega),?_,hbut.set _ _⟩
        rw [sg_set_last _ _ _ _ (by rw [hMo.1];omega),sg_succ L i k (by omega),sg_succ bs 0 k (by omega),Nat.zero_add,hyy,pw_succ]
        have e:L.getD (i+k) 0=x:=by rw [←hxx];exact (hMo.2 _ (by omega)).symm
        rw [e];exact times_step _ _ _ _ _ _ _ _ _ _ hMs he
     · obtain rfl:k=m:=by omega
       obtain ⟨hLw,hLl,hLs,hLb⟩:=HA.out;have hgc:=HN.out.cell (i+k) (by rw [HC.out.2.1.1];omega)
       have hgf:=HN.out.frozen (i+k);have hik:i+k<n+k:=by omega
       have hcm:(cv:Int)%4294967296=(cv:Int):=by omega
       clear hLw hLl hLs hLb;go_wp2
       go_roundg (n-(i+1))
       case measure=>omega
       case rel =>
        obtain ⟨hR,hS,hm,hb,hx,hn,hB1,hg⟩:=HR.out;obtain ⟨hMw,hMo,hMs,hbut⟩:=HC.out;obtain ⟨hLw,hLl,hLs,hLb⟩:=HA.out;refine ⟨i+1,M.set (i+k) cv,by omega,by first | go_num | (congr 1;omega),HN.out.set _ _,hMw.set _ _ hcv,by simp [hMo.1,hLl],?_,hbut.set _ _⟩
        have e2:sg bs 0 k=val bs:=by rw [hm];exact sg_all bs
        rw [e2] at hMs;exact times_round L M xs bs i n k cv q hLl hi hn hm hLs HQ.out hMo hMs
  · obtain rfl:i=n:=by omega
    go_wp2;go_ret;obtain ⟨hR,hS,hm,hb,hx,hn,hB1,hg⟩:=HR.out;obtain ⟨hMw,hMl,hMs,hbut⟩:=HA.out;have e1:sg L 0 (i+m)=val L:=by rw [←hMl];exact sg_all L
    have e2:sg xs 0 i=val xs:=by rw [hn];exact sg_all xs
    rw [e1,e2] at hMs;subst hg;exact ⟨L,rfl,HM.out,hMw,hMl,hMs,But.below hB1 hbut hB1.size (Nat.le_refl _)⟩
end
end Go.Proofs.YtdimlelcgapobaaGreatDoor
