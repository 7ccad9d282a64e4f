import Derived.Test.YtdimlelcgapobaaGreatDoorZ9x
import Derived.Test.YtdimlelcgapobaaGreatDoorD32x
import Derived.Deep.RegionHeld3
import Derived.Test.YtdimlelcgapobaaGreatDoorD23x
import Derived.Test.YtdimlelcgapobaaGreatDoorZ8x
set_option linter.unusedVariables false
set_option linter.unusedSimpArgs false
set_option maxHeartbeats 16000000
set_option maxRecDepth 20000
namespace Go.Proofs.YtdimlelcgapobaaGreatDoor
section
open Go.RowKit
def bothR (o p:Option (Bool×Nat×Int)):Int×Option (Bool×Nat×Int)×Option (Bool×Nat×Int):=if o.isSome&&p.isSome then (0,o,p) else (2,none,none)
def RA (lo:Nat) (w:World) (r:Ending) (x:Int×Option (Bool×Nat×Int)×Option (Bool×Nat×Int)):Prop:=RAns lo w r x.2.1 x.2.2 x.1
theorem RA.zero (lo:Nat) (w:World) (er:Int):RA lo w (.returned (.tuple #[.agg #[.bool false,.slice none 0 0,.int .i64 0,.bool false,.slice none 0 0,.int .i64 0],.int .i64 er])) (er,none,none) :=
 ⟨_,_,rfl,Nt.nil _ _,Nt.nil _ _,Ap.nil _ _ _⟩
theorem products_any {w:World}{v1 v2 v3 v4:Value}{X1 X2 X3 X4:Nat}(n1 n2 n3 n4:Bool) (e1 e2 e3 e4:Int) (h1:Av w v1 X1) (h2:Av w v2 X2) (h3:Av w v3 X3) (h4:Av w v4 X4) (hT:Tab w)
 (b1:-9223372036854775808≤e1∧e1≤9223372036854775807) (b2:-9223372036854775808≤e2∧e2≤9223372036854775807) (b3:-9223372036854775808≤e3∧e3≤9223372036854775807) (b4:-9223372036854775808≤e4∧e4≤9223372036854775807) :
 Calls Tryz.prog 58 #[.agg #[.bool n1,v1,.int .i64 e1],.agg #[.bool n2,v2,.int .i64 e2],.agg #[.bool n3,v3,.int .i64 e3],.agg #[.bool n4,v4,.int .i64 e4]] w fun r w' =>
  RA w.heap.size w' r (bothR (mulD (mkS n1 X1 e1) (mkS n2 X2 e2)) (mulD (mkS n3 X3 e3) (mkS n4 X4 e4)))∧Below w.heap.size w w':=by
 obtain ⟨a1,l1,c1,x1,rfl,A1,rfl⟩:=h1;obtain ⟨a2,l2,c2,x2,rfl,A2,rfl⟩:=h2;obtain ⟨a3,l3,c3,x3,rfl,A3,rfl⟩:=h3;obtain ⟨a4,l4,c4,x4,rfl,A4,rfl⟩:=h4;have H1:∀ u,Below w.heap.size w u→Calls Tryz.prog 87 #[.agg #[.bool n1,.slice a1 l1 c1,.int .i64 e1],.agg #[.bool n2,.slice a2 l2 c2,.int .i64 e2]] u fun r w'=>DAns u.heap.size w' r (mulD (mkS n1 (val x1) e1) (mkS n2 (val x2) e2))∧Below u.heap.size u w':=fun u hu=>Mul_any3 (A1.below hu) (A2.below hu) (hT.belows hu) n1 n2 e1 e2 b1.1 b1.2 b2.1 b2.2
 have H2:∀ u,Below w.heap.size w u→Calls Tryz.prog 87 #[.agg #[.bool n3,.slice a3 l3 c3,.int .i64 e3],.agg #[.bool n4,.slice a4 l4 c4,.int .i64 e4]] u fun r w'=>DAns u.heap.size w' r (mulD (mkS n3 (val x3) e3) (mkS n4 (val x4) e4))∧Below u.heap.size u w':=fun u hu=>Mul_any3 (A3.below hu) (A4.below hu) (hT.belows hu) n3 n4 e3 e4 b3.1 b3.2 b4.1 b4.2
 have l1:=mulD_len n1 (val x1) e1 n2 (val x2) e2;have l2:=mulD_len n3 (val x3) e3 n4 (val x4) e4;simp only [DAns] at H1 H2;generalize mulD (mkS n1 (val x1) e1) (mkS n2 (val x2) e2)=o at *;generalize mulD (mkS n3 (val x3) e3) (mkS n4 (val x4) e4)=p at *;unfold bothR
 cases ho:o.isSome with
 | false =>
   have he:erS o=2:=by unfold erS;rw [ho];rfl
   rw [he] at H1;refine (products_bad1 n1 n2 n3 n4 e1 e2 e3 e4 (dN o) false (dX o) 0 (dE o) 0 l1 (by rw [ws0];omega) H1).mono ?_
   rintro r w' ⟨⟨v,u,rfl,rfl,rfl⟩,hb⟩;exact ⟨RA.zero _ _ _,hb⟩
 | true =>
   have he:erS o=0:=by unfold erS;rw [ho];rfl
   rw [he] at H1
   cases hp:p.isSome with
   | false =>
     have he:erS p=2:=by unfold erS;rw [hp];rfl
     rw [he] at H2;refine (products_bad2 n1 n2 n3 n4 e1 e2 e3 e4 (dN o) (dN p) (dX o) (dX p) (dE o) (dE p) l1 l2 H1 H2).mono ?_;rintro r w' ⟨⟨v,u,rfl,rfl,rfl⟩,hb⟩;exact ⟨RA.zero _ _ _,hb⟩
   | true =>
     have he:erS p=0:=by unfold erS;rw [hp];rfl
     rw [he] at H2;refine (products_ok n1 n2 n3 n4 e1 e2 e3 e4 (dN o) (dN p) (dX o) (dX p) (dE o) (dE p) l1 l2 H1 H2).mono ?_;rintro r w' ⟨⟨v,u,rfl,hN,hM,hap⟩,hb⟩;exact ⟨⟨v,u,rfl,hN,hM,hap⟩,hb⟩
theorem errL0 {I:Nat→Ri}{k:Nat}(h:errL I k=0) (i:Nat) (hi:i<k):¬ sgn (I i).m (I i).Y<0∧(mkS (I i).n (I i).X (I i).e).isSome=true∧(mkS (I i).m (I i).Y (I i).f).isSome=true∧dX (mkS (I i).m (I i).Y (I i).f)≠0:=by
 unfold errL at h
 split at h
 · omega
 · rename_i h1
   split at h
   · omega
   · rename_i h2
     split at h
     · omega
     · rename_i h3
       simp only [Bool.not_eq_true,List.any_eq_false,List.mem_range] at h1 h2 h3;have k1:=h1 i hi;have k2:=h2 i hi;have k3:=h3 i hi;simp at k1 k2 k3;exact ⟨by omega,k2.1,k2.2,k3⟩
theorem reform {n:Bool}{X:Nat}{e:Int}{o:Option (Bool×Nat×Int)}(h:mkS n X e=o) (hs:o.isSome=true):mkS (dN o) (dX o) (dE o)=o:=by
 cases o with
 | none=>cases hs
 | some d =>
   obtain ⟨n1,X1,e1⟩:=d;exact (mkS_frm h).self
theorem frm_rng {n:Bool}{X:Nat}{e:Int}{o:Option (Bool×Nat×Int)}(h:mkS n X e=o):-1048576≤dE o∧dE o≤1048576:=by
 cases o with
 | none=>exact ⟨by decide,by decide⟩
 | some d =>
   obtain ⟨n1,X1,e1⟩:=d;have:=mkS_frm h;exact ⟨this.down,this.up⟩
def twoI (r s:Ri) (i:Nat):Ri:=if i=0 then r else s
structure Rv (w:World) (r:Ri):Prop where
 num:Av w r.v r.X
 den:Av w r.u r.Y
 be:-9223372036854775808≤r.e∧r.e≤9223372036854775807
 bf:-9223372036854775808≤r.f∧r.f≤9223372036854775807
theorem Rv.below {w w':World}{r:Ri}(h:Rv w r) (hb:Below w.heap.size w w'):Rv w' r:=⟨h.num.below hb,h.den.below hb,h.be,h.bf⟩
theorem rin2 (W:World) (r s:Ri) (hr:Rv W r) (hs:Rv W s) (hT:Tab W) (R:World) (hR:R=W.alloc (.cells #[.bool r.n,r.v,.int .i64 r.e,.bool r.m,r.u,.int .i64 r.f,.bool s.n,s.v,.int .i64 s.e,.bool s.m,s.u,.int .i64 s.f] 30)):RIn R W.heap.size 2 (twoI r s):=by
 have hb:Below W.heap.size W R:=by rw [hR];exact below_alloc _ _
 refine ⟨⟨_,by rw [hR];exact heap_alloc_new _ _,?_⟩,?_,?_,hT.belows hb⟩
 · intro i hi
   rcases (show i=0∨i=1 by omega) with rfl|rfl <;> simp [twoI]
 · intro i hi
   rcases (show i=0∨i=1 by omega) with rfl|rfl
   · exact ⟨hr.num.below hb,hr.den.below hb⟩
   · exact ⟨hs.num.below hb,hs.den.below hb⟩
 · intro i hi
   rcases (show i=0∨i=1 by omega) with rfl|rfl
   · exact ⟨hr.be.1,hr.be.2,hr.bf.1,hr.bf.2⟩
   · exact ⟨hs.be.1,hs.be.2,hs.bf.1,hs.bf.2⟩
theorem rin1 (W:World) (r:Ri) (hr:Rv W r) (hT:Tab W) (R:World) (hR:R=W.alloc (.cells #[.bool r.n,r.v,.int .i64 r.e,.bool r.m,r.u,.int .i64 r.f] 30)):RIn R W.heap.size 1 (fun _=>r):=by
 have hb:Below W.heap.size W R:=by rw [hR];exact below_alloc _ _
 refine ⟨⟨_,by rw [hR];exact heap_alloc_new _ _,?_⟩,fun i hi=>⟨hr.num.below hb,hr.den.below hb⟩,fun i hi=>⟨hr.be.1,hr.be.2,hr.bf.1,hr.bf.2⟩,hT.belows hb⟩
 intro i hi;obtain rfl:i=0:=by omega
 simp
theorem two_begin (w:World) (r s:Ri) (W:World) (hW:W=((w.alloc (.cells #[.bool r.n,r.v,.int .i64 r.e,.bool r.m,r.u,.int .i64 r.f] 30)).alloc (.cells #[.bool s.n,s.v,.int .i64 s.e,.bool s.m,s.u,.int .i64 s.f] 30)).alloc (.cells #[.bool false,.slice none 0 0,.int .i64 0,.bool false,.slice none 0 0,.int .i64 0] 30)) :
 Below w.heap.size w W∧W.heap.size=w.heap.size+3∧Rq W w.heap.size r.n r.v r.e r.m r.u r.f∧Rq W (w.heap.size+1) s.n s.v s.e s.m s.u s.f∧Rq W (w.heap.size+1+1) false (.slice none 0 0) 0 false (.slice none 0 0) 0:=by
 rw [hW];refine ⟨((below_alloc w _).alloc (by simp) _).alloc (by simp;omega) _,by simp,((Rq.new _ _ _ _ _ _ _).alloc _).alloc _,?_,?_⟩
 · have:=(Rq.new (w.alloc (.cells #[.bool r.n,r.v,.int .i64 r.e,.bool r.m,r.u,.int .i64 r.f] 30)) s.n s.v s.e s.m s.u s.f).alloc (.cells #[.bool false,.slice none 0 0,.int .i64 0,.bool false,.slice none 0 0,.int .i64 0] 30)
   simpa using this
 · have:=Rq.new ((w.alloc (.cells #[.bool r.n,r.v,.int .i64 r.e,.bool r.m,r.u,.int .i64 r.f] 30)).alloc (.cells #[.bool s.n,s.v,.int .i64 s.e,.bool s.m,s.u,.int .i64 s.f] 30)) false (.slice none 0 0) 0 false (.slice none 0 0) 0
   simpa using this
theorem assign2 {B g1 g2 g3 lo:Nat}{w u:World}{n m n' m':Bool}{v p v' p':Value}{e f e' f':Int}(Q1:Rq u g1 n v e m p f) (Q2:Rq u g2 n' v' e' m' p' f') (RR:Rq u g3 false (.slice none 0 0) 0 false (.slice none 0 0) 0) (h12:g1≠g2) (h31:g3≠g1) (h32:g3≠g2) (hB1:B≤g1) (hB2:B≤g2) (bel:Below B w u) (hBu:B≤u.heap.size)
 (n1 m1 n2 m2:Bool) (v1 p1 v2 p2:Value) (e1 f1 e2 f2:Int) (X1 Y1 X2 Y2:Nat) (N1:Nt lo u v1 X1) (N2:Nt lo u p1 Y1) (N3:Nt lo u v2 X2) (N4:Nt lo u p2 Y2)
 (U:World) (hU:U=(st6 (st6 u g1 (.bool n1) v1 (.int .i64 e1) (.bool m1) p1 (.int .i64 f1)) g2 (.bool n2) v2 (.int .i64 e2) (.bool m2) p2 (.int .i64 f2)).drew) :
 Below B w U∧Rq U g1 n1 v1 e1 m1 p1 f1∧Rq U g2 n2 v2 e2 m2 p2 f2∧Rq U g3 false (.slice none 0 0) 0 false (.slice none 0 0) 0∧Nt lo U v1 X1∧Nt lo U p1 Y1∧Nt lo U v2 X2∧Nt lo U p2 Y2:=by
 have b1:=st6_but g1 u (.bool n1) v1 (.int .i64 e1) (.bool m1) p1 (.int .i64 f1);have K1:=Q1.set n1 v1 e1 m1 p1 f1;have K2:=Q2.but b1 h12.symm;have K3:=RR.but b1 h31;have M1:=N1.st6k Q1 (.bool n1) v1 (.int .i64 e1) (.bool m1) p1 (.int .i64 f1);have M2:=N2.st6k Q1 (.bool n1) v1 (.int .i64 e1) (.bool m1) p1 (.int .i64 f1);have M3:=N3.st6k Q1 (.bool n1) v1 (.int .i64 e1) (.bool m1) p1 (.int .i64 f1);have M4:=N4.st6k Q1 (.bool n1) v1 (.int .i64 e1) (.bool m1) p1 (.int .i64 f1);have bb:=below_st6 bel hBu hB1 (.bool n1) v1 (.int .i64 e1) (.bool m1) p1 (.int .i64 f1);have hsz:=st6_size u g1 (.bool n1) v1 (.int .i64 e1) (.bool m1) p1 (.int .i64 f1);generalize st6 u g1 (.bool n1) v1 (.int .i64 e1) (.bool m1) p1 (.int .i64 f1)=u' at *;have b2:=st6_but g2 u' (.bool n2) v2 (.int .i64 e2) (.bool m2) p2 (.int .i64 f2);have c0:=below_st6 bb (by omega) hB2 (.bool n2) v2 (.int .i64 e2) (.bool m2) p2 (.int .i64 f2)
 have c1:=K1.but b2 h12;have c2:=K2.set n2 v2 e2 m2 p2 f2;have c3:=K3.but b2 h32;have d1:=M1.st6k K2 (.bool n2) v2 (.int .i64 e2) (.bool m2) p2 (.int .i64 f2);have d2:=M2.st6k K2 (.bool n2) v2 (.int .i64 e2) (.bool m2) p2 (.int .i64 f2);have d3:=M3.st6k K2 (.bool n2) v2 (.int .i64 e2) (.bool m2) p2 (.int .i64 f2);have d4:=M4.st6k K2 (.bool n2) v2 (.int .i64 e2) (.bool m2) p2 (.int .i64 f2);clear b1 b2 K1 K2 K3 M1 M2 M3 M4 bb hsz Q1 Q2 RR N1 N2 N3 N4;generalize st6 u' g2 (.bool n2) v2 (.int .i64 e2) (.bool m2) p2 (.int .i64 f2)=u'' at *;subst hU;exact ⟨c0.drew,c1,c2,c3,d1,d2,d3,d4⟩
theorem Mul_res (W:World) (g:Nat) (n:Bool) (v:Value) (e:Int) (m:Bool) (u:Value) (f k:Int) (tmps:Array Value) (ht:tmps[4]?.getD undef=.pointer (some ⟨g,0,none⟩)) (hk:tmps[5]?.getD undef=.int .i64 k) (D:Rq W g n v e m u f) :
 (results Tryz.f26 tmps).run Tryz.prog W=.ok (.tuple #[.agg #[.bool n,v,.int .i64 e,.bool m,u,.int .i64 f],.int .i64 k]) W:=by
 obtain ⟨x0,x1,x2,x3,x4,x5⟩:=D.facts;simp [results,Tryz.results26,ht,hk,go_sem,x0,x1,x2,x3,x4,x5]
theorem Mul11 {w:World}{n m n' m':Bool}{a b a' b':Option Addr}{la ca lb cb la' ca' lb' cb':Nat}{X Y X' Y':Nat}{e f e' f':Int}
 (hr:Rv w ⟨n,.slice a la ca,X,e,m,.slice b lb cb,Y,f⟩) (hs:Rv w ⟨n',.slice a' la' ca',X',e',m',.slice b' lb' cb',Y',f'⟩) (hT:Tab w)
 (I:Nat→Ri) (hI:I=twoI ⟨n,.slice a la ca,X,e,m,.slice b lb cb,Y,f⟩ ⟨n',.slice a' la' ca',X',e',m',.slice b' lb' cb',Y',f'⟩) :
 Calls Tryz.prog 26 #[.agg #[.bool n,.slice a la ca,.int .i64 e,.bool m,.slice b lb cb,.int .i64 f],.agg #[.bool n',.slice a' la' ca',.int .i64 e',.bool m',.slice b' lb' cb',.int .i64 f']] w fun r w' =>
  RA w.heap.size w' r (if errL I 2=0 then bothR (mulD (mkS n X e) (mkS n' X' e')) (mulD (mkS m Y f) (mkS m' Y' f')) else (errL I 2,none,none))∧Below w.heap.size w w':=by
 obtain ⟨W1,hW1⟩:∃ W,W=((w.alloc (.cells #[.bool n,.slice a la ca,.int .i64 e,.bool m,.slice b lb cb,.int .i64 f] 30)).alloc (.cells #[.bool n',.slice a' la' ca',.int .i64 e',.bool m',.slice b' lb' cb',.int .i64 f'] 30)).alloc (.cells #[.bool false,.slice none 0 0,.int .i64 0,.bool false,.slice none 0 0,.int .i64 0] 30):=⟨_,rfl⟩;obtain ⟨hB,hz1,Q1,Q2,RR⟩:=two_begin w ⟨n,.slice a la ca,X,e,m,.slice b lb cb,Y,f⟩ ⟨n',.slice a' la' ca',X',e',m',.slice b' lb' cb',Y',f'⟩ W1 hW1;obtain ⟨R,hR⟩:∃ R,R=W1.alloc (.cells #[.bool n,.slice a la ca,.int .i64 e,.bool m,.slice b lb cb,.int .i64 f,.bool n',.slice a' la' ca',.int .i64 e',.bool m',.slice b' lb' cb',.int .i64 f'] 30):=⟨_,rfl⟩;have hin:=rin2 W1 _ _ (hr.below hB) (hs.below hB) (hT.belows hB) R hR;have hbR:Below W1.heap.size W1 R:=by rw [hR];exact below_alloc _ _
 have HF:=hid (forms2 R W1.heap.size _ hin);rw [←hI] at HF;simp only at Q1 Q2;obtain ⟨x0,x1,x2,x3,x4,x5⟩:=Q1.facts;obtain ⟨y0,y1,y2,y3,y4,y5⟩:=Q2.facts;obtain ⟨ANS,hANS⟩:∃ A,(if errL I 2=0 then bothR (mulD (mkS n X e) (mkS n' X' e')) (mulD (mkS m Y f) (mkS m' Y' f')) else (errL I 2,none,none))=A:=⟨_,rfl⟩
 rw [hANS];have HA:=sd hANS;clear hANS;have S0:=(sd (ai (hB.trans (hbR.mono hB.size)) (ai (Q1.below hbR) (ai (Q2.below hbR) (ai (RR.below hbR) hT)))));have hs3:w.heap.size+3≤W1.heap.size:=by omega
 obtain ⟨g12,hg12⟩:∃ g,W1.heap.size=g:=⟨_,rfl⟩;rw [hg12] at HF;clear hB hz1 Q1 Q2 RR hin hbR hr hs hT;go_enter Tryz.func26,Tryz.ntmps26
 go_upto_region 1 with fail
 rw [←hW1];clear hW1
 go_wp2_with fail
 rw [←hR];clear hR hg12 x0 x1 x2 x3 x4 x5 y0 y1 y2 y3 y4 y5;refine HF.out.mono ?_;rintro r u1 ⟨hor,hb⟩;clear HF;obtain ⟨bel,Q1,Q2,RR,hT⟩:=S0.out;have S1:=(sd (ai (bel.trans (hb.mono bel.size)) (ai (Q1.below hb) (ai (Q2.below hb) (RR.below hb)))))
 rcases hor with ⟨hne,rfl⟩|⟨h0,g',V,rfl,hO⟩
 · have HA2:=HA.out
   rw [if_neg hne] at HA2;obtain ⟨er,her⟩:∃ er,errL I 2=er:=⟨_,rfl⟩;rw [her] at hne HA2 ⊢;have HA3:=sd HA2;clear HA HA2 her;obtain ⟨r0,r1,r2,r3,r4,r5⟩:=(RR.below hb).facts;obtain ⟨rf0,rf1,rf2,rf3,rf4,rf5⟩:=(RR.below hb).frz;have hnb:(er==0)=false:=by simp [hne]
   have hnn:(er != 0)=true:=by simp [hne]
   clear hne bel Q1 Q2 RR hb hT S0;go_wp2;obtain ⟨bel,Q1,Q2,RR⟩:=S1.out;exact bodyPost_ret (Mul_res _ (w.heap.size+1+1) false (.slice none 0 0) 0 false (.slice none 0 0) 0 er _ rfl rfl (RR.set _ _ _ _ _ _)) rfl ⟨HA3.out ▸ RA.zero _ _ _,below_st6 bel bel.size (by omega) _ _ _ _ _ _⟩
 · have HA2:=HA.out
   rw [if_pos h0] at HA2;clear HA;obtain ⟨q0,q1,q2,q3,q4,q5⟩:=hO.row.facts 0 (by omega)
   obtain ⟨p0,p1,p2,p3,p4,p5⟩:=hO.row.facts 1 (by omega)
   simp only [Nat.zero_mul,Nat.zero_add,Nat.one_mul,Nat.reduceAdd] at q0 q1 q2 q3 q4 q5 p0 p1 p2 p3 p4 p5;unfold frmI at q0 q1 q2 q3 q4 q5 p0 p1 p2 p3 p4 p5;simp only at q0 q1 q2 q3 q4 q5 p0 p1 p2 p3 p4 p5;obtain ⟨k1,k2,k3,k4⟩:=errL0 h0 0 (by omega)
   obtain ⟨j1,j2,j3,j4⟩:=errL0 h0 1 (by omega)
   obtain ⟨N1,N2⟩:=hO.nts 0 (by omega)
   obtain ⟨N3,N4⟩:=hO.nts 1 (by omega)
   have e0:I 0=⟨n,.slice a la ca,X,e,m,.slice b lb cb,Y,f⟩:=by rw [hI];rfl
   have e1:I 1=⟨n',.slice a' la' ca',X',e',m',.slice b' lb' cb',Y',f'⟩:=by rw [hI];rfl
   rw [e0] at q0 q2 q3 q5 k1 k2 k3 k4 N1 N2;rw [e1] at p0 p2 p3 p5 j1 j2 j3 j4 N3 N4;simp only at q0 q1 q2 q3 q4 q5 k1 k2 k3 k4 N1 N2 p0 p1 p2 p3 p4 p5 j1 j2 j3 j4 N3 N4;have m1:=mkS_len n X e;have m2:=mkS_len m Y f;have m3:=mkS_len n' X' e';have m4:=mkS_len m' Y' f';obtain ⟨o1,ho1⟩:∃ o,mkS n X e=o:=⟨_,rfl⟩;obtain ⟨o2,ho2⟩:∃ o,mkS m Y f=o:=⟨_,rfl⟩;obtain ⟨o3,ho3⟩:∃ o,mkS n' X' e'=o:=⟨_,rfl⟩;obtain ⟨o4,ho4⟩:∃ o,mkS m' Y' f'=o:=⟨_,rfl⟩;have t1:=frm_rng ho1;have t2:=frm_rng ho2;have t3:=frm_rng ho3;have t4:=frm_rng ho4;have R1:=reform ho1 (by rw [←ho1];exact k2)
   have R2:=reform ho2 (by rw [←ho2];exact k3)
   have R3:=reform ho3 (by rw [←ho3];exact j2)
   have R4:=reform ho4 (by rw [←ho4];exact j3)
   rw [ho1] at q0 q2 N1 m1;rw [ho2] at q3 q5 N2 m2;rw [ho3] at p0 p2 N3 m3;rw [ho4] at p3 p5 N4 m4;rw [ho1,ho2,ho3,ho4] at HA2;have HA:=sd HA2;clear HA2;obtain ⟨v1,hv1⟩:∃ v1,(V 0).1=v1:=⟨_,rfl⟩;obtain ⟨v2,hv2⟩:∃ v1,(V 0).2=v1:=⟨_,rfl⟩;obtain ⟨v3,hv3⟩:∃ v1,(V 1).1=v1:=⟨_,rfl⟩;obtain ⟨v4,hv4⟩:∃ v1,(V 1).2=v1:=⟨_,rfl⟩;rw [hv1] at q1 N1;rw [hv2] at q4 N2;rw [hv3] at p1 N3;rw [hv4] at p4 N4;obtain ⟨a1,c1,rfl,_⟩:=N1.arg (by omega)
   obtain ⟨a2,c2,rfl,_⟩:=N2.arg (by omega)
   obtain ⟨a3,c3,rfl,_⟩:=N3.arg (by omega)
   obtain ⟨a4,c4,rfl,_⟩:=N4.arg (by omega)
   have hg':w.heap.size+3≤g':=by have:=hO.own;have:=(S0.out.2.2.2.1).lt;omega
   obtain ⟨r0,r1,r2,r3,r4,r5⟩:=(Q1.below hb).facts;obtain ⟨rf0,rf1,rf2,rf3,rf4,rf5⟩:=(Q1.below hb).frz;obtain ⟨s0,s1,s2,s3,s4,s5⟩:=(Q2.below hb).facts;obtain ⟨sf0,sf1,sf2,sf3,sf4,sf5⟩:=(Q2.below hb).frz;have ne1:w.heap.size≠w.heap.size+1:=by omega
   have ne2:w.heap.size+1≠w.heap.size:=by omega
   have ne3:g'≠w.heap.size:=by omega
   have ne4:g'≠w.heap.size+1:=by omega
   have ne5:w.heap.size≠g':=by omega
   have ne6:w.heap.size+1≠g':=by omega
   obtain ⟨U2,hU2⟩:∃ U,U=(st6 (st6 u1 w.heap.size (.bool (dN o1)) (.slice a1 (ws (dX o1)).length c1) (.int .i64 (dE o1)) (.bool (dN o2)) (.slice a2 (ws (dX o2)).length c2) (.int .i64 (dE o2))) (w.heap.size+1) (.bool (dN o3)) (.slice a3 (ws (dX o3)).length c3) (.int .i64 (dE o3)) (.bool (dN o4)) (.slice a4 (ws (dX o4)).length c4) (.int .i64 (dE o4))).drew:=⟨_,rfl⟩;have AS2:=assign2 (Q1.below hb) (Q2.below hb) (RR.below hb) ne1 (by omega) (by omega) (Nat.le_refl _) (by omega) S1.out.1 S1.out.1.size (dN o1) (dN o2) (dN o3) (dN o4) _ _ _ _ (dE o1) (dE o2) (dE o3) (dE o4) _ _ _ _ N1 N2 N3 N4 U2 hU2
   have S2:=sd AS2;have S3:=(sd (ai R1 (ai R2 (ai R3 (ai R4 (ai t1 (ai t2 (ai t3 (ai t4 hT)))))))));clear AS2 N1 N2 N3 N4 R1 R2 R3 R4 t1 t2 t3 t4 hO bel Q1 Q2 RR hb hT k1 k2 k3 k4 j1 j2 j3 j4 e0 e1 h0 ho1 ho2 ho3 ho4 hv1 hv2 hv3 hv4 S0 S1
   go_wp2_with fail
   go_region
   unfold st6 at hU2;rw [←hU2];clear hU2 q0 q1 q2 q3 q4 q5 p0 p1 p2 p3 p4 p5 r0 r1 r2 r3 r4 r5 rf0 rf1 rf2 rf3 rf4 rf5 s0 s1 s2 s3 s4 s5 sf0 sf1 sf2 sf3 sf4 sf5;obtain ⟨bel,Q1,Q2,RR,N1,N2,N3,N4⟩:=S2.out;obtain ⟨R1,R2,R3,R4,t1,t2,t3,t4,hT⟩:=S3.out;have HC0:=products_any (dN o1) (dN o3) (dN o2) (dN o4) (dE o1) (dE o3) (dE o2) (dE o4) (N1.av (by omega)) (N3.av (by omega)) (N2.av (by omega)) (N4.av (by omega)) (hT.belows bel) (by omega) (by omega) (by omega) (by omega)
   rw [R1,R2,R3,R4,HA.out] at HC0;have HC:=hid HC0;obtain ⟨x0,x1,x2,x3,x4,x5⟩:=Q1.facts;obtain ⟨y0,y1,y2,y3,y4,y5⟩:=Q2.facts;clear HC0 R1 R2 R3 R4 t1 t2 t3 t4 hT N1 N2 N3 N4 Q1 Q2 RR bel S3
   go_wp2_with fail
   refine HC.out.mono ?_;rintro r u2 ⟨⟨v,u,rfl,NV,NU,hap⟩,hb⟩;obtain ⟨bel,Q1,Q2,RR,N1,N2,N3,N4⟩:=S2.out;obtain ⟨av,cv,rfl,_⟩:=NV.shape;obtain ⟨au,cu,rfl,_⟩:=NU.shape;obtain ⟨r0,r1,r2,r3,r4,r5⟩:=(RR.below hb).facts;obtain ⟨rf0,rf1,rf2,rf3,rf4,rf5⟩:=(RR.below hb).frz;have S4:=(sd (ai (bel.trans (hb.mono bel.size)) (ai (RR.below hb) (ai (NV.mono bel.size) (ai (NU.mono bel.size) hap)))));clear bel Q1 Q2 RR N1 N2 N3 N4 hb NV NU hap S2 HC HA x0 x1 x2 x3 x4 x5 y0 y1 y2 y3 y4 y5;go_wp2;obtain ⟨bel,RR,NV,NU,hap⟩:=S4.out;exact bodyPost_ret (Mul_res _ (w.heap.size+1+1) (dN ANS.2.1) _ (dE ANS.2.1) (dN ANS.2.2) _ (dE ANS.2.2) ANS.1 _ rfl rfl (RR.set _ _ _ _ _ _)) rfl ⟨⟨_,_,rfl,NV.st6k RR _ _ _ _ _ _,NU.st6k RR _ _ _ _ _ _,hap⟩,below_st6 bel bel.size (by omega) _ _ _ _ _ _⟩
end
section
open Go.RowKit
def sg1 (n:Bool):Int:=if n then -1 else 1
def zv (B:Int) (x:Bool×Nat×Int):Int:=sg1 x.1*((x.2.1*2^(x.2.2-B).toNat:Nat):Int)
theorem pow_split (e l B:Int) (h:B≤e) (hl:0≤l):(2:Nat)^(e+l-B).toNat=2^l.toNat*2^(e-B).toNat:=by
 rw [←Nat.pow_add];congr 1;omega
theorem zv_mkS {n:Bool}{X:Nat}{e:Int}{x:Bool×Nat×Int}(h:mkS n X e=some x) (B:Int) (hB:X=0∨B≤e):zv B x=sg1 n*((X*2^(e-B).toNat:Nat):Int):=by
 unfold mkS at h
 by_cases h0:X=0
 · rw [if_pos h0] at h
   cases h
   subst h0;simp [zv]
 · rw [if_neg h0] at h
   split at h
   · cases h
   · cases h
     have hB':B≤e:=by rcases hB with h | h;exact absurd h h0;exact h
     obtain ⟨m,hm,hd,_⟩:=odd_part X h0
     show sg1 n*((X/2^lo X*2^(e+(lo X:Int)-B).toNat:Nat):Int)=_
     rw [pow_split e (lo X) B hB' (by omega),Int.toNat_natCast,←Nat.mul_assoc]
     have hx:X/2^lo X*2^lo X=X:=by rw [hd];rw [Nat.mul_comm];exact hm.symm
     rw [hx]
theorem sg1_ne {n m:Bool}(h:¬ n=m):sg1 m=-sg1 n:=by cases n <;> cases m <;> first | exact absurd rfl h | rfl
theorem sg1_not (n:Bool):sg1 (!n)=-sg1 n:=by cases n <;> rfl
theorem sg1_bne (n m:Bool):sg1 (n != m)=sg1 n*sg1 m:=by cases n <;> cases m <;> rfl
theorem zv_addUp {n m:Bool}{X Y:Nat}{e f:Int}{z:Bool×Nat×Int}(h:addUp n X e m Y f=some z) (hfe:f≤e) (B:Int) (hB:B≤f):zv B z=zv B (n,X,e)+zv B (m,Y,f):=by
 unfold addUp at h
 split at h
 · cases h
 · have key:X*2^(e-f).toNat*2^(f-B).toNat=X*2^(e-B).toNat:=by
    rw [Nat.mul_assoc,←Nat.pow_add,show (e-f).toNat+(f-B).toNat=(e-B).toNat by omega]
   show zv B z=sg1 n*((X*2^(e-B).toNat:Nat):Int)+sg1 m*((Y*2^(f-B).toNat:Nat):Int)
   generalize 2^(e-f).toNat=P at h key
   split at h
   · rename_i hnm
     rw [zv_mkS h B (.inr hB),hnm,←Int.mul_add,Nat.add_mul,key,Int.natCast_add]
   · rename_i hnm
     split at h
     · rename_i hle
       rw [zv_mkS h B (.inr hB),sg1_ne hnm,Nat.sub_mul,key,Int.ofNat_sub (by rw [←key];exact Nat.mul_le_mul_right _ hle),Int.mul_sub,Int.neg_mul]
       omega
     · rename_i hle
       rw [zv_mkS h B (.inr hB),sg1_not,sg1_ne hnm,Nat.sub_mul,key,Int.ofNat_sub (by rw [←key];exact Nat.mul_le_mul_right _ (by omega)),Int.mul_sub,Int.neg_mul,Int.neg_mul]
       omega
theorem zv_zero {x:Bool×Nat×Int}(B:Int) (h:x.2.1=0):zv B x=0:=by unfold zv;rw [h];simp
theorem zv_addF {x y z:Bool×Nat×Int}(h:addF x y=some z) (B:Int) (hx:x.2.1=0∨B≤x.2.2) (hy:y.2.1=0∨B≤y.2.2):zv B z=zv B x+zv B y:=by
 obtain ⟨n,X,e⟩:=x;obtain ⟨m,Y,f⟩:=y;unfold addF at h;simp only at h hx hy
 by_cases h0:X=0
 · rw [if_pos h0] at h
   cases h
   rw [zv_zero (x:=(n,X,e)) B h0,Int.zero_add]
 · rw [if_neg h0] at h
   by_cases h1:Y=0
   · rw [if_pos h1] at h
     cases h
     rw [zv_zero (x:=(m,Y,f)) B h1,Int.add_zero]
   · rw [if_neg h1] at h
     have hx':B≤e:=by rcases hx with k | k;exact absurd k h0;exact k
     have hy':B≤f:=by rcases hy with k | k;exact absurd k h1;exact k
     by_cases h2:e<f
     · rw [if_pos h2] at h
       rw [zv_addUp h (by omega) B hx',Int.add_comm]
     · rw [if_neg h2] at h
       exact zv_addUp h (by omega) B hy'
theorem zv_mulF {x y z:Bool×Nat×Int}(h:mulF x y=some z) (B C:Int) (hx:x.2.1=0∨B≤x.2.2) (hy:y.2.1=0∨C≤y.2.2):zv (B+C) z=zv B x*zv C y:=by
 obtain ⟨n,X,e⟩:=x;obtain ⟨m,Y,f⟩:=y;unfold mulF at h;simp only at h hx hy
 by_cases h0:X=0
 · subst h0
   rw [Nat.zero_mul] at h;rw [zv_mkS h _ (.inl rfl),zv_zero (x:=(n,0,e)) B rfl];simp
 · by_cases h1:Y=0
   · subst h1
     rw [Nat.mul_zero] at h;rw [zv_mkS h _ (.inl rfl),zv_zero (x:=(m,0,f)) C rfl];simp
   · have hx':B≤e:=by rcases hx with k | k;exact absurd k h0;exact k
     have hy':C≤f:=by rcases hy with k | k;exact absurd k h1;exact k
     rw [zv_mkS h _ (.inr (by omega)),sg1_bne]
     unfold zv;simp only;rw [show (e+f-(B+C)).toNat=(e-B).toNat+(f-C).toNat by omega,Nat.pow_add]
     rw [show X*Y*(2^(e-B).toNat*2^(f-C).toNat)=(X*2^(e-B).toNat)*(Y*2^(f-C).toNat) by rw [Nat.mul_mul_mul_comm]]
     rw [Int.natCast_mul,Int.mul_assoc,Int.mul_assoc]
     congr 1
     rw [←Int.mul_assoc,←Int.mul_assoc]
     congr 1
     exact Int.mul_comm _ _
end
section
open Go.RowKit
theorem addUp_frm {n m:Bool}{X Y:Nat}{e f:Int}{n':Bool}{Z:Nat}{g:Int}(h:addUp n X e m Y f=some (n',Z,g)):Frm n' Z g:=by
 unfold addUp at h
 split at h
 · cases h
 · split at h
   · exact mkS_frm h
   · split at h
     · exact mkS_frm h
     · exact mkS_frm h
theorem addF_frm {n m:Bool}{X Y:Nat}{e f:Int}(FX:Frm n X e) (FY:Frm m Y f) {n':Bool}{Z:Nat}{g:Int}(h:addF (n,X,e) (m,Y,f)=some (n',Z,g)):Frm n' Z g:=by
 unfold addF at h;simp only at h
 split at h
 · cases h;exact FY
 · split at h
   · cases h;exact FX
   · split at h
     · exact addUp_frm h
     · exact addUp_frm h
theorem addD_some {o p:Option (Bool×Nat×Int)}(h:(addD o p).isSome=true):∃ x y z,o=some x∧p=some y∧addF x y=some z∧addD o p=some z:=by
 cases o with
 | none=>cases h
 | some x =>
   cases p with
   | none=>cases h
   | some y =>
     obtain ⟨z,hz⟩:=Option.isSome_iff_exists.1 h;exact ⟨x,y,z,rfl,rfl,hz,hz⟩
theorem mulD_some {o p:Option (Bool×Nat×Int)}(h:(mulD o p).isSome=true):∃ x y z,o=some x∧p=some y∧mulF x y=some z∧mulD o p=some z:=by
 cases o with
 | none=>cases h
 | some x =>
   cases p with
   | none=>cases h
   | some y =>
     obtain ⟨z,hz⟩:=Option.isSome_iff_exists.1 h;exact ⟨x,y,z,rfl,rfl,hz,hz⟩
structure Fv (B:Int) (o:Option (Bool×Nat×Int)) (z:Int):Prop where
 ex:∃ n X e,o=some (n,X,e)∧Frm n X e∧zv B (n,X,e)=z
theorem Frm.base {n:Bool}{X:Nat}{e:Int}(F:Frm n X e) {B:Int}(hB:B≤-1048576):X=0∨B≤e:=.inr (by have:=F.down;omega)
theorem Fv.add {B:Int}(hB:B≤-1048576) {o p:Option (Bool×Nat×Int)}{x y:Int}(h1:Fv B o x) (h2:Fv B p y) (h:(addD o p).isSome=true):Fv B (addD o p) (x+y):=by
 obtain ⟨n,X,e,rfl,F,rfl⟩:=h1.ex;obtain ⟨m,Y,f,rfl,G,rfl⟩:=h2.ex;obtain ⟨_,_,z,e1,e2,hz,hd⟩:=addD_some h
 cases e1;cases e2
 obtain ⟨n',Z,g⟩:=z;exact ⟨n',Z,g,hd,addF_frm F G hz,zv_addF hz B (F.base hB) (G.base hB)⟩
theorem Fv.mul {B C:Int}(hB:B≤-1048576) (hC:C≤-1048576) {o p:Option (Bool×Nat×Int)}{x y:Int}(h1:Fv B o x) (h2:Fv C p y) (h:(mulD o p).isSome=true):Fv (B+C) (mulD o p) (x*y):=by
 obtain ⟨n,X,e,rfl,F,rfl⟩:=h1.ex;obtain ⟨m,Y,f,rfl,G,rfl⟩:=h2.ex;obtain ⟨_,_,z,e1,e2,hz,hd⟩:=mulD_some h
 cases e1;cases e2
 obtain ⟨n',Z,g⟩:=z;exact ⟨n',Z,g,hd,mkS_frm hz,zv_mulF hz B C (F.base hB) (G.base hC)⟩
theorem Fv.raw {n:Bool}{X:Nat}{e B:Int}(hB:B≤e) (h:(mkS n X e).isSome=true):Fv B (mkS n X e) (sg1 n*((X*2^(e-B).toNat:Nat):Int)):=by
 obtain ⟨⟨n',Y,f⟩,hz⟩:=Option.isSome_iff_exists.1 h;exact ⟨n',Y,f,hz,mkS_frm hz,zv_mkS hz B (.inr hB)⟩
theorem cmpI_scale (x y k:Nat) (hk:0<k):cmpI (x*k) (y*k)=cmpI x y:=by
 unfold cmpI;simp only [Nat.mul_lt_mul_right hk]
theorem cmpP_base (X:Nat) (e:Int) (Y:Nat) (f B:Int) (h1:B≤e) (h2:B≤f):cmpP X e Y f=cmpI (X*2^(e-B).toNat) (Y*2^(f-B).toNat):=by
 unfold cmpP
 by_cases h:e<f
 · rw [if_pos h,←cmpI_scale _ _ (2^(e-B).toNat) (Nat.two_pow_pos _),Nat.mul_assoc,←Nat.pow_add,show (f-e).toNat+(e-B).toNat=(f-B).toNat by omega]
 · rw [if_neg h,←cmpI_scale _ _ (2^(f-B).toNat) (Nat.two_pow_pos _),Nat.mul_assoc,←Nat.pow_add,show (e-f).toNat+(f-B).toNat=(e-B).toNat by omega]
theorem pos_iff (X k:Nat):X*2^k=0↔X=0:=by
 constructor
 · intro h
   rcases Nat.mul_eq_zero.1 h with h|h
   · exact h
   · have:=Nat.two_pow_pos k;omega
 · rintro rfl;exact Nat.zero_mul _
theorem cmpV_z (n:Bool) (X:Nat) (e:Int) (m:Bool) (Y:Nat) (f B:Int) (h1:B≤e) (h2:B≤f):cmpV n X e m Y f=cmpZ (sg1 n*((X*2^(e-B).toNat:Nat):Int)) (sg1 m*((Y*2^(f-B).toNat:Nat):Int)):=by
 unfold cmpV;rw [cmpP_base X e Y f B h1 h2,cmpP_base Y f X e B h2 h1];have p1:=pos_iff X (e-B).toNat;have p2:=pos_iff Y (f-B).toNat;generalize X*2^(e-B).toNat=P at p1;generalize Y*2^(f-B).toNat=Q at p2;unfold sgn cmpZ cmpI sg1
 have q1:X=0∧P=0∨X≠0∧0<P:=by
  by_cases h:X=0
  · exact .inl ⟨h,p1.2 h⟩
  · exact .inr ⟨h,Nat.pos_of_ne_zero fun k=>h (p1.1 k)⟩
 have q2:Y=0∧Q=0∨Y≠0∧0<Q:=by
  by_cases h:Y=0
  · exact .inl ⟨h,p2.2 h⟩
  · exact .inr ⟨h,Nat.pos_of_ne_zero fun k=>h (p2.1 k)⟩
 clear p1 p2
 rcases q1 with ⟨hX,hP⟩|⟨hX,hP⟩ <;> rcases q2 with ⟨hY,hQ⟩|⟨hY,hQ⟩ <;> cases n <;> cases m <;> simp only [hX,hY,if_true,if_false,Bool.false_eq_true] <;> (repeat' split) <;> omega
end
section
open Go.RowKit
theorem plc_floor (dg:Nat) (least top:Int) (X:Nat) (e:Int) (ho:X%2=1) (Bs:Int) (h1:Bs≤e) (h2:Bs≤least) (hin:¬ top<e+(bl X:Int)) :
 Bs≤(plc dg least top X e).2.1 ∧
 (((plc dg least top X e).2.2.1=true∧X*2^(e-Bs).toNat=(plc dg least top X e).1*2^((plc dg least top X e).2.1-Bs).toNat) ∨
  ((plc dg least top X e).2.2.1=false∧(plc dg least top X e).1*2^((plc dg least top X e).2.1-Bs).toNat<X*2^(e-Bs).toNat∧X*2^(e-Bs).toNat<((plc dg least top X e).1+1)*2^((plc dg least top X e).2.1-Bs).toNat ∧
   ((plc dg least top X e).2.2.2=-1∧2*(X*2^(e-Bs).toNat)<(2*(plc dg least top X e).1+1)*2^((plc dg least top X e).2.1-Bs).toNat ∨
    (plc dg least top X e).2.2.2=0∧2*(X*2^(e-Bs).toNat)=(2*(plc dg least top X e).1+1)*2^((plc dg least top X e).2.1-Bs).toNat ∨
    (plc dg least top X e).2.2.2=1∧(2*(plc dg least top X e).1+1)*2^((plc dg least top X e).2.1-Bs).toNat<2*(X*2^(e-Bs).toNat)))):=by
 unfold plc;rw [if_neg hin];simp only;obtain ⟨ex,hex⟩:∃ ex,max (e+(bl X:Int)-(dg:Int)) least=ex:=⟨_,rfl⟩;rw [hex];have hle:least≤ex:=by omega
 by_cases hoff:ex-e≤0
 · rw [if_pos hoff]
   simp only;refine ⟨by omega,.inl ⟨trivial,?_⟩⟩
   rw [Nat.mul_assoc,←Nat.pow_add,show (-(ex-e)).toNat+(ex-Bs).toNat=(e-Bs).toNat by omega]
 · rw [if_neg hoff]
   simp only;obtain ⟨k,hk⟩:∃ k:Nat,(ex-e).toNat=k:=⟨_,rfl⟩;have hk0:0<k:=by omega
   have hexB:(ex-Bs).toNat=k+(e-Bs).toNat:=by omega
   have hk1:(ex-e-1).toNat=k-1:=by omega
   rw [hk,hexB,hk1,Nat.pow_add];obtain ⟨Q,hQ⟩:∃ Q,2^(e-Bs).toNat=Q:=⟨_,rfl⟩;have hQ0:0<Q:=by rw [←hQ];exact Nat.two_pow_pos _
   rw [hQ];have hdm:=Nat.div_add_mod X (2^k);have hmod:=Nat.mod_lt X (Nat.two_pow_pos k);obtain ⟨F,hF⟩:∃ F,X/2^k=F:=⟨_,rfl⟩;obtain ⟨R,hR⟩:∃ R,X%2^k=R:=⟨_,rfl⟩;have hhalf:2^k=2*2^(k-1):=by rw [show k=k-1+1 by omega,Nat.pow_succ,Nat.mul_comm];rfl
   have hbit:X/2^(k-1)%2=R/2^(k-1):=by
    rw [←hR,hhalf];rw [Nat.mul_comm 2,Nat.mod_mul_right_div_self]
   obtain ⟨Hf,hHf⟩:∃ Hf,2^(k-1)=Hf:=⟨_,rfl⟩;have hHf0:0<Hf:=by rw [←hHf];exact Nat.two_pow_pos _
   rw [hHf] at hhalf hbit ⊢;rw [hbit];rw [hhalf] at hdm hmod hF hR ⊢;rw [hF,hR] at hdm;rw [hR] at hmod;rw [hF]
   have hR0:R≠0:=by
    intro h;rw [h,Nat.add_zero,Nat.mul_assoc] at hdm;omega
   have e1:F*(2*Hf*Q)=(F*(2*Hf))*Q:=(Nat.mul_assoc _ _ _).symm;have e2:(F+1)*(2*Hf*Q)=((F+1)*(2*Hf))*Q:=(Nat.mul_assoc _ _ _).symm
   have e3:(2*F+1)*(2*Hf*Q)=(2*(F*(2*Hf))+2*Hf)*Q:=by
    rw [Nat.add_mul,Nat.add_mul,Nat.one_mul,Nat.mul_assoc 2 F,←Nat.mul_assoc F,Nat.mul_assoc 2 (F*(2*Hf)) Q]
   have e4:2*(X*Q)=(2*X)*Q:=by rw [Nat.mul_assoc]
   have e5:2*Hf*F=F*(2*Hf):=Nat.mul_comm _ _;rw [e5] at hdm;have e6:(F+1)*(2*Hf)=F*(2*Hf)+2*Hf:=by rw [Nat.add_mul,Nat.one_mul]
   rw [e1,e2,e3,e4,e6];generalize F*(2*Hf)=G at hdm ⊢;refine ⟨by omega,.inr ⟨trivial,Nat.mul_lt_mul_of_pos_right (by omega) hQ0,Nat.mul_lt_mul_of_pos_right (by omega) hQ0,?_⟩⟩
   by_cases hone:ex-e=1
   · rw [if_pos hone]
     have hk1':k=1:=by omega
     have hHf1:Hf=1:=by rw [←hHf,hk1']
     refine .inr (.inl ⟨rfl,?_⟩)
     congr 1
     omega
   · rw [if_neg hone]
     have hHf2:Hf%2=0:=by
      rw [←hHf,show k-1=k-2+1 by omega,Nat.pow_succ];omega
     have hRodd:R%2=1:=by
      have:G%2=0∨True:=.inr trivial;rw [←hR];rw [Nat.mod_mul_right_mod];exact ho
     by_cases hge:Hf≤R
     · have hd1:R/Hf=1:=by
        rw [Nat.div_eq_iff hHf0];omega
       rw [hd1,if_pos rfl];refine .inr (.inr ⟨rfl,Nat.mul_lt_mul_of_pos_right ?_ hQ0⟩);have:R≠Hf:=by intro h;rw [h] at hRodd;omega
       omega
     · have hd0:R/Hf=0:=Nat.div_eq_of_lt (by omega)
       rw [hd0,if_neg (by omega)]
       exact .inl ⟨rfl,Nat.mul_lt_mul_of_pos_right (by omega) hQ0⟩
def flK (X:Nat) (e:Int):Nat:=((plc 53 (-1074) 1024 X e).2.1+1074).toNat*4503599627370496+(plc 53 (-1074) 1024 X e).1
abbrev vK (K:Nat):Nat:=B.val Ieee.double K
theorem vK_lt {K L:Nat}:vK K<vK L↔K<L:=B.val_lt_iff Ieee.double
theorem vK_word (j F:Nat) (h:j=0∨4503599627370496≤F) (hF:F≤9007199254740992):vK (j*4503599627370496+F)=F*2^j:=by
 have:=B.val_at Ieee.double j F (by rw [B.dBin];exact h) (by rw [B.dBin];omega)
 rw [B.dBin] at this;exact this
structure Lies (K:Nat) (at':Bool) (mid:Int) (V S:Nat):Prop where
 fin:K<9218868437227405312
 pos:0<S
 one:at'=true→V=vK K*S
 low:at'=false→vK K*S<V
 mids:at'=false→V<vK (K+1)*S→(mid=-1∧2*V<vK K*S+vK (K+1)*S∨mid=0∧2*V=vK K*S+vK (K+1)*S∨mid=1∧vK K*S+vK (K+1)*S<2*V)
 high:at'=false→V<vK (K+1)*S∨(K=9218868437227405311∧mid=1)
theorem lies (X:Nat) (e:Int) (hX:X%2=1) (he0:-1048576≤e) (he1:e≤1048576) (Bs:Int) (h1:Bs≤e) (h2:Bs≤-1074) :
 Lies (flK X e) (plc 53 (-1074) 1024 X e).2.2.1 (plc 53 (-1074) 1024 X e).2.2.2 (X*2^(e-Bs).toNat) (2^(-1074-Bs).toNat):=by
 have hX0:X≠0:=by omega
 obtain ⟨f1,f2,f3,f4⟩:=plc_facts X e hX0 he0 he1;obtain ⟨j,hj⟩:∃ j:Nat,((plc 53 (-1074) 1024 X e).2.1+1074).toNat=j:=⟨_,rfl⟩;have hS:0<2^(-1074-Bs).toNat:=Nat.two_pow_pos _
 have hw:∀ F,F≤9007199254740992→(j=0∨4503599627370496≤F)→vK (j*4503599627370496+F)*2^(-1074-Bs).toNat=F*2^((plc 53 (-1074) 1024 X e).2.1-Bs).toNat:=by
  intro F hF hn;rw [vK_word j F hn hF,Nat.mul_assoc,←Nat.pow_add]
  congr 2
  omega
 have hn1:j=0∨4503599627370496≤(plc 53 (-1074) 1024 X e).1:=by
  rcases f4 with h|h
  · left;omega
  · exact .inr h
 have w1:=hw (plc 53 (-1074) 1024 X e).1 (by omega) hn1
 have w2:=hw ((plc 53 (-1074) 1024 X e).1+1) (by omega) (by rcases hn1 with h | h;exact .inl h;exact .inr (by omega))
 have hflK:flK X e=j*4503599627370496+(plc 53 (-1074) 1024 X e).1:=by unfold flK;rw [hj]
 have hflK1:flK X e+1=j*4503599627370496+((plc 53 (-1074) 1024 X e).1+1):=by rw [hflK];omega
 have hfin:flK X e<9218868437227405312:=by rw [hflK];omega
 rw [←hflK] at w1;rw [←hflK1] at w2
 by_cases hin:1024<e+(bl X:Int)
 · have hp:plc 53 (-1074) 1024 X e=((2^53-1:Nat),((1024:Int)-((53:Nat):Int)),false,(1:Int)):=by unfold plc;rw [if_pos hin]
   have hK:flK X e=9218868437227405311:=by unfold flK;rw [hp];rfl
   refine ⟨hfin,hS,fun h=>(by rw [hp] at h;cases h),fun _=>?_,fun _ hlt=>?_,fun _=>.inr ⟨hK,(by rw [hp])⟩⟩
   · rw [w1]
     have hlow:(2^53-1)*2^(971-Bs).toNat<2^53*2^(971-Bs).toNat:=Nat.mul_lt_mul_of_pos_right (by decide) (Nat.two_pow_pos _)
     have hup:2^53*2^(971-Bs).toNat≤X*2^(e-Bs).toNat:=by
      have hb:=bl_ge X hX0;have hbp:=bl_pos X hX0;refine Nat.le_trans ?_ (Nat.mul_le_mul_right _ hb);rw [←Nat.pow_add,←Nat.pow_add];exact Nat.pow_le_pow_right (by omega) (by omega)
     rw [hp];exact Nat.lt_of_lt_of_le hlow hup
   · exfalso
     rw [w2,hp] at hlt
     have hup:2^53*2^(971-Bs).toNat≤X*2^(e-Bs).toNat:=by
      have hb:=bl_ge X hX0;have hbp:=bl_pos X hX0;refine Nat.le_trans ?_ (Nat.mul_le_mul_right _ hb);rw [←Nat.pow_add,←Nat.pow_add];exact Nat.pow_le_pow_right (by omega) (by omega)
     exact absurd hlt (Nat.not_lt.2 hup)
 · obtain ⟨_,hfl⟩:=plc_floor 53 (-1074) 1024 X e hX Bs h1 h2 hin
   have hmid:vK (flK X e)*2^(-1074-Bs).toNat+vK (flK X e+1)*2^(-1074-Bs).toNat=(2*(plc 53 (-1074) 1024 X e).1+1)*2^((plc 53 (-1074) 1024 X e).2.1-Bs).toNat:=by
    rw [w1,w2,←Nat.add_mul];congr 1;omega
   rcases hfl with ⟨ht,hv⟩|⟨hf,hlo,hhi,hm⟩
   · exact ⟨hfin,hS,fun _=>(by rw [w1];exact hv),fun h=>(by rw [ht] at h;cases h),fun h=>(by rw [ht] at h;cases h),fun h=>(by rw [ht] at h;cases h)⟩
   · refine ⟨hfin,hS,fun h=>(by rw [hf] at h;cases h),fun _=>(by rw [w1];exact hlo),fun _ _=>(by rw [hmid];exact hm),fun _=>.inl (by rw [w2];exact hhi)⟩
end
section
open Go.RowKit
def rK (mode:Int) (n:Bool) (K:Nat) (t:Bool) (m:Int):Nat:=if t then K else if outS mode K m n then K+1 else K
theorem outS_par (mode:Int) (j F:Nat) (m:Int) (n:Bool):outS mode (j*4503599627370496+F) m n=outS mode F m n:=by
 unfold outS;rw [show (j*4503599627370496+F)%2=F%2 by omega]
theorem rndK_eq (mode:Int) (n:Bool) (X:Nat) (e:Int):rndK mode n X e=rK mode n (flK X e) (plc 53 (-1074) 1024 X e).2.2.1 (plc 53 (-1074) 1024 X e).2.2.2:=by
 unfold rndK rK flK;simp only;rw [outS_par]
 split
 · rfl
 · split <;> omega
end
section
open Go.RowKit
def wd64 (s:Bool) (K:Nat):Nat:=K+(if s then 9223372036854775808 else 0)
def sK (s:Bool) (K:Nat):Int:=if s then -(K:Int) else K
theorem wd64_bw (s:Bool) (K:Nat) (h:K≤9218868437227405312):wd64 s K=B.bw s (K/4503599627370496) (K%4503599627370496)∧K/4503599627370496<2048∧K%4503599627370496<4503599627370496∧B.odd (K/4503599627370496) (K%4503599627370496)=false∧B.pl s (K/4503599627370496) (K%4503599627370496)=sK s K:=by
 refine ⟨?_,by omega,by omega,?_,?_⟩
 · unfold wd64 B.bw
   cases s
   · simp;omega
   · simp;omega
 · unfold B.odd
   simp;omega
 · unfold B.pl B.sg sK
   rw [show K/4503599627370496*4503599627370496+K%4503599627370496=K by omega]
theorem lt64 (s t:Bool) (K L:Nat) (hK:K≤9218868437227405312) (hL:L≤9218868437227405312):(FloatKind.f64.format.order (wd64 s K) (wd64 t L)==some .lt)=decide (sK s K<sK t L):=by
 obtain ⟨a1,a2,a3,a4,a5⟩:=wd64_bw s K hK;obtain ⟨b1,b2,b3,b4,b5⟩:=wd64_bw t L hL;rw [a1,b1,B.lt_f64 s t _ _ _ _ a2 a3 b2 b3,a4,b4,a5,b5];simp
theorem eq64 (s t:Bool) (K L:Nat) (hK:K≤9218868437227405312) (hL:L≤9218868437227405312):(FloatKind.f64.format.order (wd64 s K) (wd64 t L)==some .eq)=decide (sK s K=sK t L):=by
 obtain ⟨a1,a2,a3,a4,a5⟩:=wd64_bw s K hK;obtain ⟨b1,b2,b3,b4,b5⟩:=wd64_bw t L hL;rw [a1,b1,B.eq_f64 s t _ _ _ _ a2 a3 b2 b3,a4,b4,a5,b5];simp
theorem frm_odd {n:Bool}{X:Nat}{e:Int}(F:Frm n X e) (h:X≠0):X%2=1:=by rcases F.odd with k | k;exact k;exact absurd k.1 h
end
namespace S
open Go.RowKit
theorem sBin:Ieee.single.binade=8388608:=by decide
def rndK (mode:Int) (n:Bool) (X:Nat) (e:Int):Nat :=
 let p:=plc 24 (-149) 128 X e
 (p.2.1+149).toNat*8388608+(if p.2.2.1 then p.1 else if outS mode p.1 p.2.2.2 n then p.1+1 else p.1)
theorem plc_facts (X:Nat) (e:Int) (hX:X≠0) (he0:-1048576≤e) (he1:e≤1048576) :
 (plc 24 (-149) 128 X e).1≤16777215∧-149≤(plc 24 (-149) 128 X e).2.1∧(plc 24 (-149) 128 X e).2.1≤104∧((plc 24 (-149) 128 X e).2.1=-149∨8388608≤(plc 24 (-149) 128 X e).1):=by
 have hb:=bl_pos X hX;have h1:=bl_lt X;have h2:=bl_ge X hX;have e53:(2:Nat)^24=16777216:=rfl;have e52:(2:Nat)^23=8388608:=rfl;unfold plc
 by_cases hf:128<e+(bl X:Int)
 · rw [if_pos hf]
   refine ⟨by simp,by simp,by simp,.inr (by simp)⟩
 · rw [if_neg hf]
   simp only;obtain ⟨ex,hex⟩:∃ ex,max (e+(bl X:Int)-((24:Nat):Int)) (-149)=ex:=⟨_,rfl⟩;rw [hex]
   by_cases ho:ex-e≤0
   · rw [if_pos ho]
     obtain ⟨k,hk⟩:∃ k:Nat,(-(ex-e)).toNat=k:=⟨_,rfl⟩;rw [hk];have hub:X*2^k<2^(bl X+k):=by rw [Nat.pow_add];exact Nat.mul_lt_mul_of_pos_right h1 (Nat.two_pow_pos k)
     have hm:2^(bl X+k)≤2^24:=Nat.pow_le_pow_right (by omega) (by omega)
     refine ⟨by simp only;omega,by simp only;omega,by simp only;omega,?_⟩
     by_cases hl:ex=-149
     · exact .inl hl
     · right
       have hlb:2^(bl X-1)*2^k≤X*2^k:=Nat.mul_le_mul_right _ h2;rw [←Nat.pow_add,show bl X-1+k=23 by omega] at hlb
       simp only;omega
   · rw [if_neg ho]
     obtain ⟨k,hk⟩:∃ k:Nat,(ex-e).toNat=k:=⟨_,rfl⟩;rw [hk]
     have hub:X/2^k<2^24:=by
      rw [Nat.div_lt_iff_lt_mul (Nat.two_pow_pos k),←Nat.pow_add];exact Nat.lt_of_lt_of_le h1 (Nat.pow_le_pow_right (by omega) (by omega))
     refine ⟨by simp only;omega,by simp only;omega,by simp only;omega,?_⟩
     by_cases hl:ex=-149
     · exact .inl hl
     · right
       have hlb:2^23≤X/2^k:=by
        rw [Nat.le_div_iff_mul_le (Nat.two_pow_pos k),←Nat.pow_add,show 23+k=bl X-1 by omega]
        exact h2
       simp only;omega
def flK (X:Nat) (e:Int):Nat:=((plc 24 (-149) 128 X e).2.1+149).toNat*8388608+(plc 24 (-149) 128 X e).1
abbrev vK (K:Nat):Nat:=B.val Ieee.single K
theorem vK_word (j F:Nat) (h:j=0∨8388608≤F) (hF:F≤16777216):vK (j*8388608+F)=F*2^j:=by
 have:=B.val_at Ieee.single j F (by rw [sBin];exact h) (by rw [sBin];omega)
 rw [sBin] at this;exact this
structure Lies (K:Nat) (at':Bool) (mid:Int) (V S:Nat):Prop where
 fin:K<2139095040
 pos:0<S
 one:at'=true→V=vK K*S
 low:at'=false→vK K*S<V
 mids:at'=false→V<vK (K+1)*S→(mid=-1∧2*V<vK K*S+vK (K+1)*S∨mid=0∧2*V=vK K*S+vK (K+1)*S∨mid=1∧vK K*S+vK (K+1)*S<2*V)
 high:at'=false→V<vK (K+1)*S∨(K=2139095039∧mid=1)
theorem lies (X:Nat) (e:Int) (hX:X%2=1) (he0:-1048576≤e) (he1:e≤1048576) (Bs:Int) (h1:Bs≤e) (h2:Bs≤-149) :
 Lies (flK X e) (plc 24 (-149) 128 X e).2.2.1 (plc 24 (-149) 128 X e).2.2.2 (X*2^(e-Bs).toNat) (2^(-149-Bs).toNat):=by
 have hX0:X≠0:=by omega
 obtain ⟨f1,f2,f3,f4⟩:=plc_facts X e hX0 he0 he1;obtain ⟨j,hj⟩:∃ j:Nat,((plc 24 (-149) 128 X e).2.1+149).toNat=j:=⟨_,rfl⟩;have hS:0<2^(-149-Bs).toNat:=Nat.two_pow_pos _
 have hw:∀ F,F≤16777216→(j=0∨8388608≤F)→vK (j*8388608+F)*2^(-149-Bs).toNat=F*2^((plc 24 (-149) 128 X e).2.1-Bs).toNat:=by
  intro F hF hn;rw [vK_word j F hn hF,Nat.mul_assoc,←Nat.pow_add]
  congr 2
  omega
 have hn1:j=0∨8388608≤(plc 24 (-149) 128 X e).1:=by
  rcases f4 with h|h
  · left;omega
  · exact .inr h
 have w1:=hw (plc 24 (-149) 128 X e).1 (by omega) hn1
 have w2:=hw ((plc 24 (-149) 128 X e).1+1) (by omega) (by rcases hn1 with h | h;exact .inl h;exact .inr (by omega))
 have hflK:flK X e=j*8388608+(plc 24 (-149) 128 X e).1:=by unfold flK;rw [hj]
 have hflK1:flK X e+1=j*8388608+((plc 24 (-149) 128 X e).1+1):=by rw [hflK];omega
 have hfin:flK X e<2139095040:=by rw [hflK];omega
 rw [←hflK] at w1;rw [←hflK1] at w2
 by_cases hin:128<e+(bl X:Int)
 · have hp:plc 24 (-149) 128 X e=((2^24-1:Nat),((128:Int)-((24:Nat):Int)),false,(1:Int)):=by unfold plc;rw [if_pos hin]
   have hK:flK X e=2139095039:=by unfold flK;rw [hp];rfl
   refine ⟨hfin,hS,fun h=>(by rw [hp] at h;cases h),fun _=>?_,fun _ hlt=>?_,fun _=>.inr ⟨hK,(by rw [hp])⟩⟩
   · rw [w1]
     have hlow:(2^24-1)*2^(104-Bs).toNat<2^24*2^(104-Bs).toNat:=Nat.mul_lt_mul_of_pos_right (by decide) (Nat.two_pow_pos _)
     have hup:2^24*2^(104-Bs).toNat≤X*2^(e-Bs).toNat:=by
      have hb:=bl_ge X hX0;have hbp:=bl_pos X hX0;refine Nat.le_trans ?_ (Nat.mul_le_mul_right _ hb);rw [←Nat.pow_add,←Nat.pow_add];exact Nat.pow_le_pow_right (by omega) (by omega)
     rw [hp];exact Nat.lt_of_lt_of_le hlow hup
   · exfalso
     rw [w2,hp] at hlt
     have hup:2^24*2^(104-Bs).toNat≤X*2^(e-Bs).toNat:=by
      have hb:=bl_ge X hX0;have hbp:=bl_pos X hX0;refine Nat.le_trans ?_ (Nat.mul_le_mul_right _ hb);rw [←Nat.pow_add,←Nat.pow_add];exact Nat.pow_le_pow_right (by omega) (by omega)
     exact absurd hlt (Nat.not_lt.2 hup)
 · obtain ⟨_,hfl⟩:=plc_floor 24 (-149) 128 X e hX Bs h1 h2 hin
   have hmid:vK (flK X e)*2^(-149-Bs).toNat+vK (flK X e+1)*2^(-149-Bs).toNat=(2*(plc 24 (-149) 128 X e).1+1)*2^((plc 24 (-149) 128 X e).2.1-Bs).toNat:=by
    rw [w1,w2,←Nat.add_mul];congr 1;omega
   rcases hfl with ⟨ht,hv⟩|⟨hf,hlo,hhi,hm⟩
   · exact ⟨hfin,hS,fun _=>(by rw [w1];exact hv),fun h=>(by rw [ht] at h;cases h),fun h=>(by rw [ht] at h;cases h),fun h=>(by rw [ht] at h;cases h)⟩
   · refine ⟨hfin,hS,fun h=>(by rw [hf] at h;cases h),fun _=>(by rw [w1];exact hlo),fun _ _=>(by rw [hmid];exact hm),fun _=>.inl (by rw [w2];exact hhi)⟩
def rK (mode:Int) (n:Bool) (K:Nat) (t:Bool) (m:Int):Nat:=if t then K else if outS mode K m n then K+1 else K
theorem outS_par (mode:Int) (j F:Nat) (m:Int) (n:Bool):outS mode (j*8388608+F) m n=outS mode F m n:=by
 unfold outS;rw [show (j*8388608+F)%2=F%2 by omega]
theorem rndK_eq (mode:Int) (n:Bool) (X:Nat) (e:Int):rndK mode n X e=rK mode n (flK X e) (plc 24 (-149) 128 X e).2.2.1 (plc 24 (-149) 128 X e).2.2.2:=by
 unfold rndK rK flK;simp only;rw [outS_par]
 split
 · rfl
 · split <;> omega
end S
namespace B
open Go.RowKit
theorem ldexp_mid (c e g:Nat) (x:Int) (w:World) (hw:Whole c e g) (h0:0<c) (h1:c≤16777216) (hx0:-149≤x) (hx1:x≤104) (E:Nat) (hE:(E:Int)=(e:Int)+x) :
 Calls Tryz.prog 154 #[.float .f64 (bw false e g),.int .i64 x] w fun r w'=>r=.returned (.float .f64 (bw false E g))∧w'=w:=by
 have he0:=hw.e0;have he1:=hw.e1;have hg:=hw.g0;have hb:bw false e g=e*4503599627370496+g:=by unfold bw;simp
 have z0:(FloatKind.f64.format.order (bw false e g) 0==some .eq)=false:=by rw [eq_zero false e g (by omega) hg];simp;omega
 have HI:Hid (∀ u,Calls Tryz.prog 171 #[.float .f64 (bw false e g),.int .i64 0] u fun r w'=>r=.returned (.bool false)∧w'=u):=fun u=>isInf0 e g (by omega) hg u
 have HN:Hid (∀ u,Calls Tryz.prog 172 #[.float .f64 (bw false e g)] u fun r w'=>r=.returned (.bool false)∧w'=u):=fun u=>nan_no e g (by omega) hg u
 have HZ:Hid (∀ u,Calls Tryz.prog 173 #[.float .f64 (bw false e g)] u fun r w'=>r=.returned (.tuple #[.float .f64 (bw false e g),.int .i64 0])∧w'=u):=fun u=>normalize_any e g he0 (by omega) hg u
 have e1:=bw_exp false e g (by omega) hg
 have mc:=mask_clear e g (by omega) hg
 have hex:=hw.ex;have hblp:=bl_pos c (by omega)
 have hbl:bl c≤25:=by
  by_cases h:25<bl c
  · have:=(bl_gt c 25).1 h
    have e25:(2:Nat)^25=33554432:=rfl;omega
  · omega
 have hd:bw false E g=E*4503599627370496+g:=by unfold bw;simp
 exact ldexp_norm (bw false e g) e g (bw false E g) x (x+((e:Int)-1023)) ((E:Int)*4503599627370496) w (by rw [hb];omega) (by omega) (by omega) he0 (by omega) hg z0 HI HN HZ e1 mc rfl (by omega) (by omega) (by omega) (by omega) (by omega) (join_exp E g (by omega) hg) (mul_one _ (by rw [hd];omega) (by rw [hd];omega) _)
theorem Ldexp_mid (c e g:Nat) (x:Int) (w:World) (hw:Whole c e g) (h0:0<c) (h1:c≤16777216) (hx0:-149≤x) (hx1:x≤104) (E:Nat) (hE:(E:Int)=(e:Int)+x) :
 Calls Tryz.prog 116 #[.float .f64 (bw false e g),.int .i64 x] w fun r w'=>r=.returned (.float .f64 (bw false E g))∧w'=w:=by
 have H:=hid (ldexp_mid c e g x w hw h0 h1 hx0 hx1 E hE);generalize bw false e g=b at *;generalize bw false E g=d at *;clear hw hE;go_enter Tryz.func116,Tryz.ntmps116
 go_wp2_with fail
 refine H.out.mono ?_;rintro r w1 ⟨rfl,rfl⟩;go_wp2;go_ret;exact ⟨rfl,rfl⟩
theorem mid_val (c e g:Nat) (x:Int) (hw:Whole c e g) (h0:0<c) (h1:c≤16777216) (hx0:-149≤x) (E:Nat) (hE:(E:Int)=(e:Int)+x):val Ieee.double (E*4503599627370496+g)=c*2^(x+1074).toNat:=by
 have hex:=hw.ex;have hblp:=bl_pos c (by omega)
 have hbl:bl c≤53:=bl_le53' c (by omega)
 obtain ⟨k,hk⟩:∃ k,bl c+k=53:=⟨53-bl c,by omega⟩
 have hgx:=hw.gx k hk;rw [val_plain E g (by omega) hw.g0,hgx,Nat.mul_assoc,←Nat.pow_add,show k+(E-1)=(x+1074).toNat by omega]
end B
end Go.Proofs.YtdimlelcgapobaaGreatDoor
