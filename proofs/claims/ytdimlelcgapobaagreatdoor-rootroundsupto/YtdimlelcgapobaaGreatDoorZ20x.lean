import Derived.Test.YtdimlelcgapobaaGreatDoorZ9x
import Derived.Test.YtdimlelcgapobaaGreatDoorZ11x
import Derived.Test.YtdimlelcgapobaaGreatDoorD23x
import Derived.Deep.RegionHeld3
import Derived.Test.YtdimlelcgapobaaGreatDoorBFlx
import Derived.Deep.Cut
import Derived.Test.YtdimlelcgapobaaGreatDoorZ14x
set_option linter.unusedVariables false
set_option linter.unusedSimpArgs false
set_option maxHeartbeats 16000000
set_option maxRecDepth 20000
namespace Go.Proofs.YtdimlelcgapobaaGreatDoor
section
open Go.RowKit
theorem times_any {w:World}{v u:Value}{X Y:Nat}(h1:Av w v X) (h2:Av w u Y) (hb1:∀ a l c,v=.slice a l c→l≤16384) (hb2:∀ a l c,u=.slice a l c→l≤16384) :
 Calls Tryz.prog 97 #[v,u] w fun r w'=>∃ p,r=.returned p∧Av w' p (X*Y)∧Below w.heap.size w w':=by
 obtain ⟨a,l,c,xs,rfl,hA,rfl⟩:=h1;obtain ⟨b,k,d,ys,rfl,hB,rfl⟩:=h2;have e1:=hb1 _ _ _ rfl;have e2:=hb2 _ _ _ rfl;refine (times11 xs ys a b l c k d w.heap.size w hA.len hB.len hA.cap hB.cap (by omega) hA.wf hB.wf hA.rd hB.rd (Nat.le_refl _)).mono ?_
 rintro r w' ⟨M,rfl,hO,hW,hl,hv,hbel⟩;refine ⟨_,rfl,⟨_,_,_,M,rfl,⟨hl.symm,Nat.le_refl _,by omega,hW,?_,fun h=>by cases h⟩,hv⟩,hbel⟩
 have:=Rd.ofOwn hO 0 (l+k);rw [List.drop_zero,List.take_of_length_le (by omega)] at this
 exact this.mono hO.lt
theorem Arg.off3 {w:World}{a:Option Addr}{l c:Nat}{xs:List Nat}(h:Arg w a l c xs) {g T:Nat}{n:Bool}{s:Option Addr}{sl sc:Nat}{k:Int}(D:Tk w g T (.bool n) (.slice s sl sc) (.int .i64 k)) (x y z:Value):Arg (st3 w g x y z) a l c xs:=by
 refine ⟨h.len,h.cap,h.big,h.wf,?_,h.nil⟩;intro hx;obtain ⟨b,off,hlt,e,hc⟩:=h.rd hx
 have hb:b≠g:=by
  intro hbg;subst hbg;have h0:=hc 0 (List.length_pos_iff.2 hx);unfold Tk at D;rw [Nat.add_zero] at h0;simp only [World.cell?,D] at h0
  rcases off with _|_|_|off <;> simp at h0
 refine ⟨b,off,by rw [st3_size];exact hlt,e,fun i hi=>?_⟩
 have h1:=(set3_but g w x y z).block b hlt hb;exact (World.cell?_of_block (a:=⟨b,off+i,none⟩) h1).trans (hc i hi)
theorem unl_res (W:World) (g:Nat) (n:Bool) (v:Value) (e:Int) (tmps:Array Value) (ht:tmps[4]?.getD undef=.pointer (some ⟨g,0,none⟩)) (D:Tk W g 27 (.bool n) v (.int .i64 e)) :
 (results Tryz.f62 tmps).run Tryz.prog W=.ok (.agg #[.bool n,v,.int .i64 e]) W:=by
 obtain ⟨x0,x1,x2,_,_,_⟩:=D.facts;simp [results,Tryz.results62,ht,go_sem,x0,x1,x2]
theorem unlimited_core {w:World}{a b:Option Addr}{la ca lb cb:Nat}(n m:Bool) (e f y:Int) (P:Nat) (hy:e+f=y) (he0:-1048576≤e) (he1:e≤1048576) (hf0:-1048576≤f) (hf1:f≤1048576)
 (HT:Hid (∀ u,Below w.heap.size w u→Calls Tryz.prog 97 #[.slice a la ca,.slice b lb cb] u fun r w'=>∃ p,r=.returned p∧Av w' p P∧Below u.heap.size u w')) :
 Calls Tryz.prog 62 #[.agg #[.bool n,.slice a la ca,.int .i64 e],.agg #[.bool m,.slice b lb cb,.int .i64 f]] w fun r w'=>(∃ p,r=.returned (.agg #[.bool (n != m),p,.int .i64 y])∧Av w' p P)∧Below w.heap.size w w':=by
 obtain ⟨W1,hW1⟩:∃ W,W=((w.alloc (.cells #[.bool n,.slice a la ca,.int .i64 e] 27)).alloc (.cells #[.bool m,.slice b lb cb,.int .i64 f] 27)).alloc (.cells #[.bool false,.slice none 0 0,.int .i64 0] 27):=⟨_,rfl⟩;obtain ⟨hB,hz1,DA,DB,DR⟩:=add_begin w n m (.slice a la ca) (.slice b lb cb) e f W1 hW1;have T1:=hid (HT.out W1 hB);have T2:=hid (HT.out W1.drew hB.drew);obtain ⟨x0,x1,x2,xf0,xf1,xf2⟩:=DA.facts;obtain ⟨y0,y1,y2,yf0,yf1,yf2⟩:=DB.facts;obtain ⟨r0,r1,r2,rf0,rf1,rf2⟩:=DR.facts;have hs1:w.heap.size+3≤W1.heap.size:=by omega
 have SB:=(sd (ai hB (ai DA (ai DB DR))));have hwy:IntKind.i64.wrap y=y:=by simp [IntKind.wrap,IntKind.bits,IntKind.signed];omega
 clear hB hz1 DA DB DR HT;go_enter Tryz.func62,Tryz.ntmps62
 go_wp2_with fail
 rw [←hW1];clear hW1;have ne1:w.heap.size≠w.heap.size+1+1:=by omega
 have ne2:w.heap.size+1≠w.heap.size+1+1:=by omega
 have ne3:w.heap.size+1+1≠w.heap.size:=by omega
 have ne4:w.heap.size+1+1≠w.heap.size+1:=by omega
 obtain ⟨nm,hnm⟩:∃ nm,(n != m)=nm:=⟨_,rfl⟩;have hnm2:(!(n==m))=nm:=by rw [←hnm];rfl
 go_region_held3 (fun w'=>w'.cell? ⟨w.heap.size,0,none⟩=some (.bool n)∧w'.cell? ⟨w.heap.size,1,none⟩=some (.slice a la ca)∧w'.cell? ⟨w.heap.size,2,none⟩=some (.int .i64 e)∧w'.cell? ⟨w.heap.size+1,0,none⟩=some (.bool m)∧w'.cell? ⟨w.heap.size+1,1,none⟩=some (.slice b lb cb)∧w'.cell? ⟨w.heap.size+1,2,none⟩=some (.int .i64 f)) (go_keep) (first
  | (go_at_call 97
     first | with_reducible refine T1.out.mono ?_ | with_reducible refine T2.out.mono ?_
     rintro r u1 ⟨p,rfl,hp,hb⟩;obtain ⟨a1,l1,c1,xs1,rfl,hA1,hv1⟩:=hp;have hb1:Below W1.heap.size W1 u1:=by first | exact hb | exact ((Below.refl _ W1).drew).trans (hb.mono (Nat.le_refl _))
     obtain ⟨bel,DA,DB,DR⟩:=SB.out;obtain ⟨q0,q1,q2,_,_,_⟩:=(DA.below hb1).facts;obtain ⟨s0,s1,s2,_,_,_⟩:=(DB.below hb1).facts;obtain ⟨t0,t1,t2,tf0,tf1,tf2⟩:=(DR.below hb1).facts;have FV:=(sd (ai (bel.trans (hb1.mono bel.size)) (ai (DR.below hb1) (ai hA1 hv1))));clear hb hb1 bel DA DB DR hA1 hv1))
 all_goals (
  go_wp2;obtain ⟨bel,DR,hA,hv⟩:=FV.out;have hsz:=bel.size;have hAs:∀ x y z,Arg (st3 u1 (w.heap.size+1+1) x y z) a1 l1 c1 xs1:=fun x y z=>hA.off3 DR.tk x y z
  first
  | exact bodyPost_ret (unl_res _ (w.heap.size+1+1) nm (.slice a1 l1 c1) y _ rfl (DR.tk.set _ _ _)) rfl ⟨⟨_,by rw [hnm],_,_,_,_,rfl,hAs _ _ _,hv⟩,below_st3 bel hsz (by omega) _ _ _⟩
  | exact bodyPost_ret (unl_res _ (w.heap.size+1+1) nm (.slice a1 l1 c1) y _ rfl (DR.tk.set _ _ _)) rfl ⟨⟨_,by rw [hnm],_,_,_,_,rfl,hAs _ _ _,hv⟩,(below_st3 bel hsz (by omega) _ _ _).drew⟩)
theorem unlimited_any {w:World}{v u:Value}{X Y:Nat}(n m:Bool) (e f:Int) (h1:Av w v X) (h2:Av w u Y) (hb1:∀ a l c,v=.slice a l c→l≤16384) (hb2:∀ a l c,u=.slice a l c→l≤16384) (he:-1048576≤e∧e≤1048576) (hf:-1048576≤f∧f≤1048576) :
 Calls Tryz.prog 62 #[.agg #[.bool n,v,.int .i64 e],.agg #[.bool m,u,.int .i64 f]] w fun r w'=>(∃ p,r=.returned (.agg #[.bool (n != m),p,.int .i64 (e+f)])∧Av w' p (X*Y))∧Below w.heap.size w w':=by
 obtain ⟨a,l,c,xs,rfl,hA,rfl⟩:=h1;obtain ⟨b,k,d,ys,rfl,hB,rfl⟩:=h2;refine unlimited_core n m e f _ _ rfl he.1 he.2 hf.1 hf.2 ?_;intro v hv;exact times_any ⟨_,_,_,_,rfl,hA.below hv,rfl⟩ ⟨_,_,_,_,rfl,hB.below hv,rfl⟩ hb1 hb2
theorem cmp_begin11 (w:World) (r s:Ri) (W:World) (hW:W=(w.alloc (.cells #[.bool r.n,r.v,.int .i64 r.e,.bool r.m,r.u,.int .i64 r.f] 30)).alloc (.cells #[.bool s.n,s.v,.int .i64 s.e,.bool s.m,s.u,.int .i64 s.f] 30)) :
 Below w.heap.size w W∧W.heap.size=w.heap.size+2∧Rq W w.heap.size r.n r.v r.e r.m r.u r.f∧Rq W (w.heap.size+1) s.n s.v s.e s.m s.u s.f:=by
 rw [hW];refine ⟨(below_alloc w _).alloc (by simp) _,by simp,(Rq.new _ _ _ _ _ _ _).alloc _,?_⟩
 have:=Rq.new (w.alloc (.cells #[.bool r.n,r.v,.int .i64 r.e,.bool r.m,r.u,.int .i64 r.f] 30)) s.n s.v s.e s.m s.u s.f;simpa using this
theorem assign2c {B g1 g2 lo:Nat}{w u:World}{n m n' m':Bool}{v p v' p':Value}{e f e' f':Int}(Q1:Rq u g1 n v e m p f) (Q2:Rq u g2 n' v' e' m' p' f') (h12:g1≠g2) (hB1:B≤g1) (hB2:B≤g2) (bel:Below B w u) (hBu:B≤u.heap.size)
 (n1 m1 n2 m2:Bool) (v1 p1 v2 p2:Value) (e1 f1 e2 f2:Int) (X1 Y1 X2 Y2:Nat) (N1:Nt lo u v1 X1) (N2:Nt lo u p1 Y1) (N3:Nt lo u v2 X2) (N4:Nt lo u p2 Y2)
 (U:World) (hU:U=(st6 (st6 u g1 (.bool n1) v1 (.int .i64 e1) (.bool m1) p1 (.int .i64 f1)) g2 (.bool n2) v2 (.int .i64 e2) (.bool m2) p2 (.int .i64 f2)).drew) :
 Below B w U∧Rq U g1 n1 v1 e1 m1 p1 f1∧Rq U g2 n2 v2 e2 m2 p2 f2∧Nt lo U v1 X1∧Nt lo U p1 Y1∧Nt lo U v2 X2∧Nt lo U p2 Y2:=by
 have b1:=st6_but g1 u (.bool n1) v1 (.int .i64 e1) (.bool m1) p1 (.int .i64 f1);have K1:=Q1.set n1 v1 e1 m1 p1 f1;have K2:=Q2.but b1 h12.symm;have M1:=N1.st6k Q1 (.bool n1) v1 (.int .i64 e1) (.bool m1) p1 (.int .i64 f1);have M2:=N2.st6k Q1 (.bool n1) v1 (.int .i64 e1) (.bool m1) p1 (.int .i64 f1);have M3:=N3.st6k Q1 (.bool n1) v1 (.int .i64 e1) (.bool m1) p1 (.int .i64 f1);have M4:=N4.st6k Q1 (.bool n1) v1 (.int .i64 e1) (.bool m1) p1 (.int .i64 f1);have bb:=below_st6 bel hBu hB1 (.bool n1) v1 (.int .i64 e1) (.bool m1) p1 (.int .i64 f1);have hsz:=st6_size u g1 (.bool n1) v1 (.int .i64 e1) (.bool m1) p1 (.int .i64 f1);generalize st6 u g1 (.bool n1) v1 (.int .i64 e1) (.bool m1) p1 (.int .i64 f1)=u' at *;have b2:=st6_but g2 u' (.bool n2) v2 (.int .i64 e2) (.bool m2) p2 (.int .i64 f2);have c0:=below_st6 bb (by omega) hB2 (.bool n2) v2 (.int .i64 e2) (.bool m2) p2 (.int .i64 f2)
 have c1:=K1.but b2 h12;have c2:=K2.set n2 v2 e2 m2 p2 f2;have d1:=M1.st6k K2 (.bool n2) v2 (.int .i64 e2) (.bool m2) p2 (.int .i64 f2);have d2:=M2.st6k K2 (.bool n2) v2 (.int .i64 e2) (.bool m2) p2 (.int .i64 f2);have d3:=M3.st6k K2 (.bool n2) v2 (.int .i64 e2) (.bool m2) p2 (.int .i64 f2);have d4:=M4.st6k K2 (.bool n2) v2 (.int .i64 e2) (.bool m2) p2 (.int .i64 f2);clear b1 b2 K1 K2 M1 M2 M3 M4 bb hsz Q1 Q2 N1 N2 N3 N4;generalize st6 u' g2 (.bool n2) v2 (.int .i64 e2) (.bool m2) p2 (.int .i64 f2)=u'' at *;subst hU;exact ⟨c0.drew,c1,c2,d1,d2,d3,d4⟩
def cmpA (o1 o2 o3 o4:Option (Bool×Nat×Int)):Int:=cmpV (dN o1 != dN o4) (dX o1*dX o4) (dE o1+dE o4) (dN o3 != dN o2) (dX o3*dX o2) (dE o3+dE o2)
theorem Cmp11 {w:World}{n m n' m':Bool}{a b a' b':Option Addr}{la ca lb cb la' ca' lb' cb':Nat}{X Y X' Y':Nat}{e f e' f':Int}
 (hr:Rv w ⟨n,.slice a la ca,X,e,m,.slice b lb cb,Y,f⟩) (hs:Rv w ⟨n',.slice a' la' ca',X',e',m',.slice b' lb' cb',Y',f'⟩) (hT:Tab w)
 (I:Nat→Ri) (hI:I=twoI ⟨n,.slice a la ca,X,e,m,.slice b lb cb,Y,f⟩ ⟨n',.slice a' la' ca',X',e',m',.slice b' lb' cb',Y',f'⟩) :
 Calls Tryz.prog 28 #[.agg #[.bool n,.slice a la ca,.int .i64 e,.bool m,.slice b lb cb,.int .i64 f],.agg #[.bool n',.slice a' la' ca',.int .i64 e',.bool m',.slice b' lb' cb',.int .i64 f']] w fun r w' =>
  r=.returned (.tuple #[.int .i64 (if errL I 2=0 then cmpA (mkS n X e) (mkS m Y f) (mkS n' X' e') (mkS m' Y' f') else 0),.int .i64 (errL I 2)])∧Below w.heap.size w w':=by
 obtain ⟨W1,hW1⟩:∃ W,W=(w.alloc (.cells #[.bool n,.slice a la ca,.int .i64 e,.bool m,.slice b lb cb,.int .i64 f] 30)).alloc (.cells #[.bool n',.slice a' la' ca',.int .i64 e',.bool m',.slice b' lb' cb',.int .i64 f'] 30):=⟨_,rfl⟩;obtain ⟨hB,hz1,Q1,Q2⟩:=cmp_begin11 w ⟨n,.slice a la ca,X,e,m,.slice b lb cb,Y,f⟩ ⟨n',.slice a' la' ca',X',e',m',.slice b' lb' cb',Y',f'⟩ W1 hW1;obtain ⟨R,hR⟩:∃ R,R=W1.alloc (.cells #[.bool n,.slice a la ca,.int .i64 e,.bool m,.slice b lb cb,.int .i64 f,.bool n',.slice a' la' ca',.int .i64 e',.bool m',.slice b' lb' cb',.int .i64 f'] 30):=⟨_,rfl⟩;have hin:=rin2 W1 _ _ (hr.below hB) (hs.below hB) (hT.belows hB) R hR;have hbR:Below W1.heap.size W1 R:=by rw [hR];exact below_alloc _ _
 have HF:=hid (forms2 R W1.heap.size _ hin);rw [←hI] at HF;simp only at Q1 Q2;obtain ⟨x0,x1,x2,x3,x4,x5⟩:=Q1.facts;obtain ⟨y0,y1,y2,y3,y4,y5⟩:=Q2.facts;obtain ⟨ANS,hANS⟩:∃ A,(if errL I 2=0 then cmpA (mkS n X e) (mkS m Y f) (mkS n' X' e') (mkS m' Y' f') else 0)=A:=⟨_,rfl⟩
 obtain ⟨ER,hER⟩:∃ E,errL I 2=E:=⟨_,rfl⟩;rw [hANS,hER];have HE:=sd hER;have HA:=sd hANS;clear hANS hER;have S0:=(sd (ai (hB.trans (hbR.mono hB.size)) (ai (Q1.below hbR) (ai (Q2.below hbR) hT))));have hs3:w.heap.size+2≤W1.heap.size:=by omega
 obtain ⟨g12,hg12⟩:∃ g,W1.heap.size=g:=⟨_,rfl⟩;rw [hg12] at HF;clear hB hz1 Q1 Q2 hin hbR hr hs hT;go_enter Tryz.func28,Tryz.ntmps28
 go_upto_region 1 with fail
 rw [←hW1];clear hW1
 go_wp2_with fail
 rw [←hR];clear hR hg12 x0 x1 x2 x3 x4 x5 y0 y1 y2 y3 y4 y5;refine HF.out.mono ?_;rintro r u1 ⟨hor,hb⟩;clear HF;obtain ⟨bel,Q1,Q2,hT⟩:=S0.out;have S1:=(sd (ai (bel.trans (hb.mono bel.size)) (ai (Q1.below hb) (Q2.below hb))))
 rcases hor with ⟨hne,rfl⟩|⟨h0,g',V,rfl,hO⟩
 · have HA2:=HA.out
   rw [if_neg hne] at HA2;obtain ⟨er,her⟩:∃ er,errL I 2=er:=⟨_,rfl⟩;rw [her] at hne ⊢;have HA3:=sd HA2;have her0:=her;clear HA HA2 her;have hnb:(er==0)=false:=by simp [hne]
   have hnn:(er != 0)=true:=by simp [hne]
   have HE2:=sd (HE.out.symm.trans her0);clear hne bel Q1 Q2 hb hT S0 HE her0;go_wp2
   go_ret2
   rw [HE2.out,HA3.out.symm];exact ⟨rfl,S1.out.1⟩
 · have HA2:=HA.out
   rw [if_pos h0] at HA2;have HE2:=sd (HE.out.symm.trans h0);clear HA HE;obtain ⟨q0,q1,q2,q3,q4,q5⟩:=hO.row.facts 0 (by omega)
   obtain ⟨p0,p1,p2,p3,p4,p5⟩:=hO.row.facts 1 (by omega)
   simp only [Nat.zero_mul,Nat.zero_add,Nat.one_mul,Nat.reduceAdd] at q0 q1 q2 q3 q4 q5 p0 p1 p2 p3 p4 p5;unfold frmI at q0 q1 q2 q3 q4 q5 p0 p1 p2 p3 p4 p5;simp only at q0 q1 q2 q3 q4 q5 p0 p1 p2 p3 p4 p5;obtain ⟨k1,k2,k3,k4⟩:=errL0 h0 0 (by omega)
   obtain ⟨j1,j2,j3,j4⟩:=errL0 h0 1 (by omega)
   obtain ⟨N1,N2⟩:=hO.nts 0 (by omega)
   obtain ⟨N3,N4⟩:=hO.nts 1 (by omega)
   have e0:I 0=⟨n,.slice a la ca,X,e,m,.slice b lb cb,Y,f⟩:=by rw [hI];rfl
   have e1:I 1=⟨n',.slice a' la' ca',X',e',m',.slice b' lb' cb',Y',f'⟩:=by rw [hI];rfl
   rw [e0] at q0 q2 q3 q5 k1 k2 k3 k4 N1 N2;rw [e1] at p0 p2 p3 p5 j1 j2 j3 j4 N3 N4;simp only at q0 q1 q2 q3 q4 q5 k1 k2 k3 k4 N1 N2 p0 p1 p2 p3 p4 p5 j1 j2 j3 j4 N3 N4;have m1:=mkS_len n X e;have m2:=mkS_len m Y f;have m3:=mkS_len n' X' e';have m4:=mkS_len m' Y' f';obtain ⟨o1,ho1⟩:∃ o,mkS n X e=o:=⟨_,rfl⟩;obtain ⟨o2,ho2⟩:∃ o,mkS m Y f=o:=⟨_,rfl⟩;obtain ⟨o3,ho3⟩:∃ o,mkS n' X' e'=o:=⟨_,rfl⟩;obtain ⟨o4,ho4⟩:∃ o,mkS m' Y' f'=o:=⟨_,rfl⟩;have t1:=frm_rng ho1;have t2:=frm_rng ho2;have t3:=frm_rng ho3;have t4:=frm_rng ho4;have R1:=reform ho1 (by rw [←ho1];exact k2)
   have R2:=reform ho2 (by rw [←ho2];exact k3)
   have R3:=reform ho3 (by rw [←ho3];exact j2)
   have R4:=reform ho4 (by rw [←ho4];exact j3)
   rw [ho1] at q0 q2 N1 m1;rw [ho2] at q3 q5 N2 m2;rw [ho3] at p0 p2 N3 m3;rw [ho4] at p3 p5 N4 m4;rw [ho1,ho2,ho3,ho4] at HA2;have HA:=sd HA2;clear HA2;obtain ⟨v1,hv1⟩:∃ v1,(V 0).1=v1:=⟨_,rfl⟩;obtain ⟨v2,hv2⟩:∃ v1,(V 0).2=v1:=⟨_,rfl⟩;obtain ⟨v3,hv3⟩:∃ v1,(V 1).1=v1:=⟨_,rfl⟩;obtain ⟨v4,hv4⟩:∃ v1,(V 1).2=v1:=⟨_,rfl⟩;rw [hv1] at q1 N1;rw [hv2] at q4 N2;rw [hv3] at p1 N3;rw [hv4] at p4 N4;obtain ⟨a1,c1,rfl,_⟩:=N1.arg (by omega)
   obtain ⟨a2,c2,rfl,_⟩:=N2.arg (by omega)
   obtain ⟨a3,c3,rfl,_⟩:=N3.arg (by omega)
   obtain ⟨a4,c4,rfl,_⟩:=N4.arg (by omega)
   have hg':w.heap.size+2≤g':=by have:=hO.own;have:=(S0.out.2.2.1).lt;omega
   obtain ⟨r0,r1,r2,r3,r4,r5⟩:=(Q1.below hb).facts;obtain ⟨rf0,rf1,rf2,rf3,rf4,rf5⟩:=(Q1.below hb).frz;obtain ⟨s0,s1,s2,s3,s4,s5⟩:=(Q2.below hb).facts;obtain ⟨sf0,sf1,sf2,sf3,sf4,sf5⟩:=(Q2.below hb).frz;have ne1:w.heap.size≠w.heap.size+1:=by omega
   have ne2:w.heap.size+1≠w.heap.size:=by omega
   have ne3:g'≠w.heap.size:=by omega
   have ne4:g'≠w.heap.size+1:=by omega
   have ne5:w.heap.size≠g':=by omega
   have ne6:w.heap.size+1≠g':=by omega
   obtain ⟨U2,hU2⟩:∃ U,U=(st6 (st6 u1 w.heap.size (.bool (dN o1)) (.slice a1 (ws (dX o1)).length c1) (.int .i64 (dE o1)) (.bool (dN o2)) (.slice a2 (ws (dX o2)).length c2) (.int .i64 (dE o2))) (w.heap.size+1) (.bool (dN o3)) (.slice a3 (ws (dX o3)).length c3) (.int .i64 (dE o3)) (.bool (dN o4)) (.slice a4 (ws (dX o4)).length c4) (.int .i64 (dE o4))).drew:=⟨_,rfl⟩;have AS2:=assign2c (Q1.below hb) (Q2.below hb) ne1 (Nat.le_refl _) (by omega) S1.out.1 S1.out.1.size (dN o1) (dN o2) (dN o3) (dN o4) _ _ _ _ (dE o1) (dE o2) (dE o3) (dE o4) _ _ _ _ N1 N2 N3 N4 U2 hU2
   have S2:=sd AS2;have S3:=(sd (ai R1 (ai R2 (ai R3 (ai R4 (ai t1 (ai t2 (ai t3 (ai t4 hT)))))))));clear AS2 N1 N2 N3 N4 R1 R2 R3 R4 t1 t2 t3 t4 hO bel Q1 Q2 hb hT k1 k2 k3 k4 j1 j2 j3 j4 e0 e1 h0 ho1 ho2 ho3 ho4 hv1 hv2 hv3 hv4 S0 S1
   go_wp2_with fail
   go_region
   unfold st6 at hU2;rw [←hU2];clear hU2 q0 q1 q2 q3 q4 q5 p0 p1 p2 p3 p4 p5 r0 r1 r2 r3 r4 r5 rf0 rf1 rf2 rf3 rf4 rf5 s0 s1 s2 s3 s4 s5 sf0 sf1 sf2 sf3 sf4 sf5;obtain ⟨bel,Q1,Q2,N1,N2,N3,N4⟩:=S2.out;obtain ⟨R1,R2,R3,R4,t1,t2,t3,t4,hT⟩:=S3.out;have UL1:∀ u,Below U2.heap.size U2 u→Calls Tryz.prog 62 #[.agg #[.bool (dN o1),.slice a1 (ws (dX o1)).length c1,.int .i64 (dE o1)],.agg #[.bool (dN o4),.slice a4 (ws (dX o4)).length c4,.int .i64 (dE o4)]] u fun r w'=>(∃ p,r=.returned (.agg #[.bool (dN o1 != dN o4),p,.int .i64 (dE o1+dE o4)])∧Av w' p (dX o1*dX o4))∧Below u.heap.size u w':=fun u hu=>unlimited_any _ _ _ _ ((N1.below hu).av (by omega)) ((N4.below hu).av (by omega)) (fun a l c h=>by cases h;omega) (fun a l c h=>by cases h;omega) t1 t4
   have UL2:∀ u,Below U2.heap.size U2 u→Calls Tryz.prog 62 #[.agg #[.bool (dN o3),.slice a3 (ws (dX o3)).length c3,.int .i64 (dE o3)],.agg #[.bool (dN o2),.slice a2 (ws (dX o2)).length c2,.int .i64 (dE o2)]] u fun r w'=>(∃ p,r=.returned (.agg #[.bool (dN o3 != dN o2),p,.int .i64 (dE o3+dE o2)])∧Av w' p (dX o3*dX o2))∧Below u.heap.size u w':=fun u hu=>unlimited_any _ _ _ _ ((N3.below hu).av (by omega)) ((N2.below hu).av (by omega)) (fun a l c h=>by cases h;omega) (fun a l c h=>by cases h;omega) t3 t2
   obtain ⟨x0,x1,x2,x3,x4,x5⟩:=Q1.facts;obtain ⟨y0,y1,y2,y3,y4,y5⟩:=Q2.facts;have K1:=hid UL1;have K2:=hid UL2;have T1:=hid (UL1 U2 (Below.refl _ _));have T2:=hid (UL1 U2.drew ((Below.refl _ _).drew));obtain ⟨cz,hcz⟩:∃ cz,cmpA o1 o2 o3 o4=cz:=⟨_,rfl⟩;have hcz2:=hcz;unfold cmpA at hcz2;have S5:=(sd (ai bel (ai Q1 Q2)));have rg1:-2097152≤dE o1+dE o4∧dE o1+dE o4≤2097152:=by omega
   have rg2:-2097152≤dE o3+dE o2∧dE o3+dE o2≤2097152:=by omega
   have S6:=(sd (ai hcz2 (ai (HA.out.symm.trans hcz) (ai rg1 rg2))));clear UL1 UL2 R1 R2 R3 R4 t1 t2 t3 t4 hT N1 N2 N3 N4 Q1 Q2 bel S2 S3 HA hcz hcz2 rg1 rg2
   go_wp2_with fail
   go_region_held3 (fun w'=>w'.cell? ⟨w.heap.size,0,none⟩=some (.bool (dN o1))∧w'.cell? ⟨w.heap.size,1,none⟩=some (.slice a1 (ws (dX o1)).length c1)∧w'.cell? ⟨w.heap.size,2,none⟩=some (.int .i64 (dE o1))∧w'.cell? ⟨w.heap.size,3,none⟩=some (.bool (dN o2))∧w'.cell? ⟨w.heap.size,4,none⟩=some (.slice a2 (ws (dX o2)).length c2)∧w'.cell? ⟨w.heap.size,5,none⟩=some (.int .i64 (dE o2))∧w'.cell? ⟨w.heap.size+1,0,none⟩=some (.bool (dN o3))∧w'.cell? ⟨w.heap.size+1,1,none⟩=some (.slice a3 (ws (dX o3)).length c3)∧w'.cell? ⟨w.heap.size+1,2,none⟩=some (.int .i64 (dE o3))∧w'.cell? ⟨w.heap.size+1,3,none⟩=some (.bool (dN o4))∧w'.cell? ⟨w.heap.size+1,4,none⟩=some (.slice a4 (ws (dX o4)).length c4)∧w'.cell? ⟨w.heap.size+1,5,none⟩=some (.int .i64 (dE o4))) (go_keep) (first
    | (go_at_call 62
       first | with_reducible refine T1.out.mono ?_ | with_reducible refine T2.out.mono ?_
       rintro r u5 ⟨⟨p,rfl,hp⟩,hb⟩;have hb1:Below U2.heap.size U2 u5:=by first | exact hb | exact ((Below.refl _ U2).drew).trans (hb.mono (Nat.le_refl _))
       obtain ⟨pa,pl,pc,pxs,rfl,hpA,hpv⟩:=hp;obtain ⟨bel,Q1,Q2⟩:=S5.out;obtain ⟨i0,i1,i2,i3,i4,i5⟩:=(Q1.below hb1).facts;obtain ⟨j0,j1,j2,j3,j4,j5⟩:=(Q2.below hb1).facts;have T3:=hid (K2.out u5 hb1);have S7:=(sd (ai (bel.trans (hb1.mono bel.size)) (ai hpA (ai hpv (ai (Q1.below hb1) (Q2.below hb1))))));clear hb hb1 bel Q1 Q2 hpA hpv)
    | (go_at_call 62
       with_reducible refine T3.out.mono ?_
       rintro r u6 ⟨⟨p,rfl,hp⟩,hb⟩;obtain ⟨qa,ql,qc,qxs,rfl,hqA,hqv⟩:=hp;obtain ⟨bel,hpA,hpv,Q1,Q2⟩:=S7.out;obtain ⟨k0,k1,k2,k3,k4,k5⟩:=(Q1.below hb).facts;obtain ⟨l0,l1,l2,l3,l4,l5⟩:=(Q2.below hb).facts;have HC0:=Cmp_any3 (hpA.below hb) hqA (dN o1 != dN o4) (dN o3 != dN o2) (dE o1+dE o4) (dE o3+dE o2) (by have:=S6.out.2.2.1;omega) (by have:=S6.out.2.2.1;omega) (by have:=S6.out.2.2.2;omega) (by have:=S6.out.2.2.2;omega)
       rw [hpv,hqv,S6.out.1] at HC0;have T4:=hid HC0;have S8:=(sd (ai (bel.trans (hb.mono bel.size)) (ai (Q1.below hb) (Q2.below hb))));clear hb bel hpA hpv Q1 Q2 hqA hqv HC0)
    | (go_at_call 61
       with_reducible refine T4.out.mono ?_
       rintro r u7 ⟨rfl,hb⟩;obtain ⟨bel,Q1,Q2⟩:=S8.out;obtain ⟨o0',o1',o2',o3',o4',o5'⟩:=(Q1.below hb).facts;obtain ⟨p0',p1',p2',p3',p4',p5'⟩:=(Q2.below hb).facts;have FV:=sd (bel.trans (hb.mono bel.size));clear hb bel Q1 Q2))
   all_goals (
    go_wp2
    go_ret2
    rw [HE2.out,S6.out.2.1]
    first | exact ⟨rfl,FV.out⟩ | exact ⟨rfl,FV.out.drew⟩)
end
section
open Go.RowKit
theorem whole_res (W:World) (g:Nat) (n:Bool) (v:Value) (e:Int) (tmps:Array Value) (ht:tmps[2]?.getD undef=.pointer (some ⟨g,0,none⟩)) (D:Tk W g 27 (.bool n) v (.int .i64 e)) :
 (results Tryz.f9 tmps).run Tryz.prog W=.ok (.agg #[.bool n,v,.int .i64 e]) W:=by
 obtain ⟨x0,x1,x2,_,_,_⟩:=D.facts;simp [results,Tryz.results9,ht,go_sem,x0,x1,x2]
theorem ratio_res (W:World) (g:Nat) (n:Bool) (v:Value) (e:Int) (m:Bool) (u:Value) (f:Int) (tmps:Array Value) (ht:tmps[4]?.getD undef=.pointer (some ⟨g,0,none⟩)) (D:Rq W g n v e m u f) :
 (results Tryz.f11 tmps).run Tryz.prog W=.ok (.agg #[.bool n,v,.int .i64 e,.bool m,u,.int .i64 f]) W:=by
 obtain ⟨x0,x1,x2,x3,x4,x5⟩:=D.facts;simp [results,Tryz.results11,ht,go_sem,x0,x1,x2,x3,x4,x5]
theorem whole_core (n:Int) (w:World) (o:Option (Bool×Nat×Int)) (lo':(ws (dX o)).length≤8192) (HI:Hid (∀ u,Calls Tryz.prog 40 #[.int .i64 n] u fun r w'=>(∃ v,r=.returned (.agg #[.bool (dN o),v,.int .i64 (dE o)])∧Nt u.heap.size w' v (dX o))∧Below u.heap.size u w')) :
 Calls Tryz.prog 9 #[.int .i64 n] w fun r w'=>DVal w.heap.size w' r o∧Below w.heap.size w w':=by
 obtain ⟨W1,hW1⟩:∃ W,W=w.alloc (.cells #[.bool false,.slice none 0 0,.int .i64 0] 27):=⟨_,rfl⟩;have hB:Below w.heap.size w W1:=by rw [hW1];exact below_alloc _ _
 have DK:Tk W1 w.heap.size 27 (.bool false) (.slice none 0 0) (.int .i64 0):=by rw [hW1];exact Tk.new _ _ _ _ _
 have HC:=hid (HI.out W1);have S0:=(sd (ai hB DK));clear hB DK HI;go_enter Tryz.func9,Tryz.ntmps9
 go_upto_region 1 with fail
 rw [←hW1];clear hW1
 go_wp2_with fail
 refine HC.out.mono ?_;rintro r u1 ⟨⟨v,rfl,hN⟩,hb⟩;obtain ⟨a1,c1,rfl,_⟩:=hN.arg (by omega)
 obtain ⟨bel,DK⟩:=S0.out;obtain ⟨s0,s1,s2,sf0,sf1,sf2⟩:=(DK.below hb).facts;have S1:=(sd (ai (bel.trans (hb.mono bel.size)) (ai (DK.below hb) (hN.mono bel.size))));clear hb hN bel DK S0 HC;go_wp2;obtain ⟨bel,DK,NZ⟩:=S1.out;exact bodyPost_ret (whole_res _ w.heap.size (dN o) (.slice a1 (ws (dX o)).length c1) (dE o) _ rfl (DK.set _ _ _)) rfl ⟨⟨_,rfl,NZ.st3k DK (by decide) _ _ _⟩,below_st3 bel bel.size (Nat.le_refl _) _ _ _⟩
def whlO (n:Int):Option (Bool×Nat×Int):=mkS (decide (n<0)) n.natAbs 0
theorem whole_any (n:Int) (w:World) (h0:-9223372036854775808≤n) (h1:n≤9223372036854775807):Calls Tryz.prog 9 #[.int .i64 n] w fun r w'=>DVal w.heap.size w' r (whlO n)∧Below w.heap.size w w' :=
 whole_core n w (whlO n) (mkS_len _ _ _) (fun u=>rInt_any n u h0 h1)
theorem ratio_any (n d:Int) (w:World) (hn0:-9223372036854775808≤n) (hn1:n≤9223372036854775807) (hd0:-9223372036854775808≤d) (hd1:d≤9223372036854775807) :
 Calls Tryz.prog 11 #[.int .i64 n,.int .i64 d] w fun r w'=>(∃ v u,r=.returned (.agg #[.bool (dN (whlO n)),v,.int .i64 (dE (whlO n)),.bool (dN (whlO d)),u,.int .i64 (dE (whlO d))])∧Nt w.heap.size w' v (dX (whlO n))∧Nt w.heap.size w' u (dX (whlO d)))∧Below w.heap.size w w':=by
 obtain ⟨W1,hW1⟩:∃ W,W=w.alloc (.cells #[.bool false,.slice none 0 0,.int .i64 0,.bool false,.slice none 0 0,.int .i64 0] 30):=⟨_,rfl⟩;have hB:Below w.heap.size w W1:=by rw [hW1];exact below_alloc _ _
 have RR:Rq W1 w.heap.size false (.slice none 0 0) 0 false (.slice none 0 0) 0:=by rw [hW1];exact Rq.new _ _ _ _ _ _ _
 have l1:(ws (dX (whlO n))).length≤8192:=mkS_len _ _ _;have l2:(ws (dX (whlO d))).length≤8192:=mkS_len _ _ _;have H1:∀ u,Calls Tryz.prog 9 #[.int .i64 n] u fun r w'=>DVal u.heap.size w' r (whlO n)∧Below u.heap.size u w':=fun u=>whole_any n u hn0 hn1
 have H2:∀ u,Calls Tryz.prog 9 #[.int .i64 d] u fun r w'=>DVal u.heap.size w' r (whlO d)∧Below u.heap.size u w':=fun u=>whole_any d u hd0 hd1
 generalize whlO n=o at *;generalize whlO d=p at *;unfold DVal at H1 H2;have HC:=hid (H1 W1);have HD:=hid H2;have S0:=(sd (ai hB RR));clear hB RR H1 H2;go_enter Tryz.func11,Tryz.ntmps11
 go_upto_region 1 with fail
 rw [←hW1];clear hW1
 go_wp2_with fail
 refine HC.out.mono ?_;rintro r u1 ⟨⟨v,rfl,hN⟩,hb⟩;obtain ⟨a1,c1,rfl,_⟩:=hN.arg (by omega)
 obtain ⟨bel,RR⟩:=S0.out;have S1:=(sd (ai (bel.trans (hb.mono bel.size)) (ai (RR.below hb) (hN.mono bel.size))));have HE:=hid (HD.out u1);clear hb hN bel RR S0 HC HD
 go_wp2_with fail
 refine HE.out.mono ?_;rintro r u2 ⟨⟨v,rfl,hN⟩,hb⟩;obtain ⟨a2,c2,rfl,_⟩:=hN.arg (by omega)
 obtain ⟨bel,RR,N1⟩:=S1.out;obtain ⟨r0,r1,r2,r3,r4,r5⟩:=(RR.below hb).facts;obtain ⟨rf0,rf1,rf2,rf3,rf4,rf5⟩:=(RR.below hb).frz;have S2:=(sd (ai (bel.trans (hb.mono bel.size)) (ai (RR.below hb) (ai (N1.below hb) (hN.mono bel.size)))));clear hb hN bel RR N1 S1 HE;go_wp2;obtain ⟨bel,RR,N1,N2⟩:=S2.out;exact bodyPost_ret (ratio_res _ w.heap.size (dN o) (.slice a1 (ws (dX o)).length c1) (dE o) (dN p) (.slice a2 (ws (dX p)).length c2) (dE p) _ rfl (RR.set _ _ _ _ _ _)) rfl ⟨⟨_,_,rfl,N1.st6k RR _ _ _ _ _ _,N2.st6k RR _ _ _ _ _ _⟩,below_st6 bel bel.size (Nat.le_refl _) _ _ _ _ _ _⟩
theorem same_begin11 (w:World) (r s:Ri) (W:World) (hW:W=(w.alloc (.cells #[.bool r.n,r.v,.int .i64 r.e,.bool r.m,r.u,.int .i64 r.f] 30)).alloc (.cells #[.bool s.n,s.v,.int .i64 s.e,.bool s.m,s.u,.int .i64 s.f] 30)) :
 Below w.heap.size w W∧W.heap.size=w.heap.size+2∧Rq W w.heap.size r.n r.v r.e r.m r.u r.f∧Rq W (w.heap.size+1) s.n s.v s.e s.m s.u s.f:=by
 rw [hW];refine ⟨(below_alloc w _).alloc (by simp) _,by simp,(Rq.new _ _ _ _ _ _ _).alloc _,?_⟩
 have:=Rq.new (w.alloc (.cells #[.bool r.n,r.v,.int .i64 r.e,.bool r.m,r.u,.int .i64 r.f] 30)) s.n s.v s.e s.m s.u s.f;simpa using this
theorem Same11 {w:World}{l1 l2 l3 l4:Nat}(n m:Bool) (e f:Int) (v u v' u':Value) (X Y:Nat) (N1:Nt l1 w v X) (N2:Nt l2 w u Y) (N3:Nt l3 w v' X) (N4:Nt l4 w u' Y) (lX:(ws X).length≤8192) (lY:(ws Y).length≤8192) :
 Calls Tryz.prog 34 #[.agg #[.bool n,v,.int .i64 e,.bool m,u,.int .i64 f],.agg #[.bool n,v',.int .i64 e,.bool m,u',.int .i64 f]] w fun r w'=>r=.returned (.bool true)∧Below w.heap.size w w':=by
 obtain ⟨a1,c1,rfl,A1⟩:=N1.arg (by omega)
 obtain ⟨a2,c2,rfl,A2⟩:=N2.arg (by omega)
 obtain ⟨a3,c3,rfl,A3⟩:=N3.arg (by omega)
 obtain ⟨a4,c4,rfl,A4⟩:=N4.arg (by omega)
 obtain ⟨W1,hW1⟩:∃ W,W=(w.alloc (.cells #[.bool n,.slice a1 (ws X).length c1,.int .i64 e,.bool m,.slice a2 (ws Y).length c2,.int .i64 f] 30)).alloc (.cells #[.bool n,.slice a3 (ws X).length c3,.int .i64 e,.bool m,.slice a4 (ws Y).length c4,.int .i64 f] 30):=⟨_,rfl⟩;obtain ⟨hB,hz1,Q1,Q2⟩:=same_begin11 w ⟨n,.slice a1 (ws X).length c1,X,e,m,.slice a2 (ws Y).length c2,Y,f⟩ ⟨n,.slice a3 (ws X).length c3,X,e,m,.slice a4 (ws Y).length c4,Y,f⟩ W1 hW1;simp only at Q1 Q2;have HC:=hid (rSame3_any n e (ws X) a1 a3 (ws X).length c1 c3 W1 rfl (by omega) (A1.below hB).rd (A3.below hB).rd)
 obtain ⟨x0,x1,x2,x3,x4,x5⟩:=Q1.facts;obtain ⟨y0,y1,y2,y3,y4,y5⟩:=Q2.facts;have S0:=(sd (ai hB (ai Q1 (ai Q2 (ai (A2.below hB) (A4.below hB))))));clear hB hz1 Q1 Q2 A1 A2 A3 A4 N1 N2 N3 N4;go_enter Tryz.func34,Tryz.ntmps34
 go_upto_region 1 with fail
 rw [←hW1];clear hW1
 go_wp2_with fail
 refine HC.out.mono ?_;rintro r u1 ⟨rfl,hb⟩;clear HC x0 x1 x2 x3 x4 x5 y0 y1 y2 y3 y4 y5;obtain ⟨bel,Q1,Q2,A2,A4⟩:=S0.out;have HD:=hid (rSame3_any m f (ws Y) a2 a4 (ws Y).length c2 c4 u1 rfl (by omega) (A2.below hb).rd (A4.below hb).rd)
 obtain ⟨x0,x1,x2,x3,x4,x5⟩:=(Q1.below hb).facts;obtain ⟨y0,y1,y2,y3,y4,y5⟩:=(Q2.below hb).facts;have S1:=sd (bel.trans (hb.mono bel.size));clear bel Q1 Q2 A2 A4 hb S0
 go_wp2_with fail
 refine HD.out.mono ?_;rintro r u2 ⟨rfl,hb⟩;have S2:=sd (S1.out.trans (hb.mono S1.out.size));clear hb HD S1;go_wp2;go_ret;exact ⟨rfl,S2.out⟩
end
section
open Go.RowKit
def errN (X:Nat) (n:Bool) (e:Int) (Y:Nat) (m:Bool) (f:Int):Int:=if sgn m Y<0 then 1 else if (mkS n X e).isSome&&(mkS m Y f).isSome then (if dX (mkS m Y f)=0 then 21 else 0) else 2
theorem errL_one (r:Ri):errL (oneI r) 1=errN r.X r.n r.e r.Y r.m r.f:=by
 unfold errL errN oneI;simp only [show List.range 1=[0] from rfl,List.any_cons,List.any_nil,Bool.or_false,decide_eq_true_eq]
 cases (mkS r.n r.X r.e).isSome <;> cases (mkS r.m r.Y r.f).isSome <;> simp
theorem errL_two0 (r s:Ri) (h1:errN r.X r.n r.e r.Y r.m r.f=0) (h2:errN s.X s.n s.e s.Y s.m s.f=0):errL (twoI r s) 2=0:=by
 have aux:∀ q:Ri,errN q.X q.n q.e q.Y q.m q.f=0→¬ sgn q.m q.Y<0∧(mkS q.n q.X q.e).isSome=true∧(mkS q.m q.Y q.f).isSome=true∧dX (mkS q.m q.Y q.f)≠0:=by
  intro q hq;unfold errN at hq
  split at hq
  · omega
  · rename_i k1
    split at hq
    · rename_i k2
      simp only [Bool.and_eq_true] at k2
      split at hq
      · omega
      · rename_i k3;exact ⟨k1,k2.1,k2.2,k3⟩
    · omega
 obtain ⟨a1,a2,a3,a4⟩:=aux r h1;obtain ⟨b1,b2,b3,b4⟩:=aux s h2;unfold errL twoI;simp only [show List.range 2=[0,1] from rfl,List.any_cons,List.any_nil,Bool.or_false,decide_eq_true_eq]
 simp [a1,a2,a3,a4,b1,b2,b3,b4]
theorem mkS_one (n:Bool) (e:Int) (h0:-1048576≤e) (h1:e≤1048576):mkS n 1 e=some (n,1,e):=by
 rw [mkS_odd _ _ _ (by decide),if_neg (by have hh:bl 1=1:=(by decide);omega)]
theorem mkS_sm (n:Bool) (X:Nat) (e:Int) (hX:X%2=1) (hb:X<16) (h0:-1048576≤e) (h1:e≤1048576):mkS n X e=some (n,X,e):=by
 rw [mkS_odd _ _ _ hX,if_neg (by have hh:bl X≤4:=(bl_lt_pow (by omega));omega)]
theorem mkS_pow11 (n:Bool) (k Y:Nat) (e:Int):mkS n (2^k*Y) e=mkS n Y (e+k):=by
 induction k generalizing e with
 | zero=>simp
 | succ k ih=>rw [Nat.pow_succ,Nat.mul_comm (2^k) 2,Nat.mul_assoc,mkS_double,ih];congr 1;omega
theorem w1:whlO 1=some (false,1,0):=mkS_one false 0 (by decide) (by decide)
theorem w2:whlO 2=some (false,1,1):=(mkS_double false 1 0).trans (mkS_one false 1 (by decide) (by decide))
theorem w3:whlO 3=some (false,3,0):=mkS_sm false 3 0 (by decide) (by decide) (by decide) (by decide)
theorem w4:whlO 4=some (false,1,2):=(mkS_pow11 false 2 1 0).trans (mkS_one false 2 (by decide) (by decide))
theorem w5:whlO 5=some (false,5,0):=mkS_sm false 5 0 (by decide) (by decide) (by decide) (by decide)
theorem w6:whlO 6=some (false,3,1):=(mkS_double false 3 0).trans (mkS_sm false 3 1 (by decide) (by decide) (by decide) (by decide))
theorem w0:whlO 0=some (false,0,0):=mkS_zero false 0
theorem wm1:whlO (-1)=some (true,1,0):=mkS_one true 0 (by decide) (by decide)
theorem wm3:whlO (-3)=some (true,3,0):=mkS_sm true 3 0 (by decide) (by decide) (by decide) (by decide)
theorem wm4:whlO (-4)=some (true,1,2):=(mkS_pow11 true 2 1 0).trans (mkS_one true 2 (by decide) (by decide))
theorem q13:quoZ false 1 0 3 0=some (false,24595658764946068821,-66):=by
 have e1:2*whoS 1 3 64+(if atS 1 3 64 then 0 else 1)=24595658764946068821:=by decide +kernel
 have e2:clampE (0-0-byS 1 3 64-cutS 3 64)=-66:=by decide +kernel
 unfold quoZ;rw [e1,e2,mkS_odd _ _ _ (by decide),if_neg (by decide +kernel)]
theorem q13a:rndS (quoZ false 1 0 3 0) 0=(4599676419421066581,0):=by rw [q13];decide +kernel
theorem q13b:rndS (quoZ false 1 0 3 0) 2=(4599676419421066582,0):=by rw [q13];decide +kernel
theorem q13c:S.rndS (quoZ false 1 0 3 0) 0=(1051372203,0):=by rw [q13];decide +kernel
theorem s21:sqZ 1 1 1 0=some (false,52175271301331128849,-65):=by
 have e0:sqW 1 1 1 0=680564733841876926926749214863536422912:=by decide +kernel
 have e1:sqR 680564733841876926926749214863536422912=26087635650665564424:=(sqR_is _).unique ⟨by decide +kernel,by decide +kernel⟩
 have e2:sqD 1 1 1 0=false:=by
  unfold sqD;rw [e0,e1];have:decide ((680564733841876926926749214863536422912:Nat)=26087635650665564424*26087635650665564424)=false:=by decide +kernel
  rw [this,Bool.and_false]
 have e3:clampE (hvX (sqX 1 1 1 0)/2)=-65:=by decide +kernel
 unfold sqZ;rw [e0,e1,e2,e3]
 show mkS false 52175271301331128849 (-65)=_
 rw [mkS_odd _ _ _ (by decide),if_neg (by decide +kernel)]
theorem s21a:rndS (sqZ 1 1 1 0) 0=(4609047870845172685,0):=by rw [s21];decide +kernel
theorem s21b:S.rndS (sqZ 1 1 1 0) 0=(1068827891,0):=by rw [s21];decide +kernel
end
end Go.Proofs.YtdimlelcgapobaaGreatDoor
